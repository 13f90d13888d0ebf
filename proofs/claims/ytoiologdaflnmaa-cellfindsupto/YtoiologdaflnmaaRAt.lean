/- The cell at a path: the document's answer. -/
import Derived.Test.YtoiologdaflnmaaAt
import Derived.Test.YtoiologdaflnmaaSameB
import Derived.Deep.RegionHeld3
namespace Go.Proofs.Ytoiologdaflnmaa
open Go.RowKit

/-- Numbers that can be cut: as many as there is room for. -/
structure Path (w : World) (v : Value) (p : List Int) : Prop where
  row : Row w v (ints p)
  cap : ∃ a cap, v = .slice a p.length cap ∧ p.length ≤ cap
theorem Path.up {w w' : World} {v : Value} {p : List Int} (h : Path w v p) (hb : Below w.heap.size w w') : Path w' v p := ⟨h.row.up hb, h.cap⟩
/-- The rest of a path. -/
theorem Path.tail {w : World} {b o cap : Nat} {k : Int} {p : List Int} (h : Path w (.slice (some ⟨b, o, none⟩) (k :: p).length cap) (k :: p)) (A : Addr) (hA : A = ⟨b, o + 1, none⟩ ∨ p = []) (c : Nat) (hc : p.length ≤ c) : Path w (.slice (some A) p.length c) p := by
  refine ⟨⟨some A, c, by rw [ints_length], (fun h => by cases h), fun x hx j u hu => ?_⟩, _, c, rfl, hc⟩
  cases hx
  rcases hA with rfl | rfl
  · obtain ⟨b', o', he, hf⟩ := int_at h.row (by simp)
    cases he
    have hj : j < p.length := by
      rcases Nat.lt_or_ge j p.length with h | h
      · exact h
      · rw [List.getElem?_eq_none (by rw [ints_length]; exact h)] at hu; cases hu
    simp [ints, hj] at hu
    rw [← hu, Go.WideShapes.add_plain, Nat.add_assoc, Nat.add_comm 1 j]
    exact hf (j + 1) _ (by simp [hj])
  · simp [ints] at hu

theorem path_if {w : World} {b o cap : Nat} {k : Int} {p : List Int} (h : Path w (.slice (some ⟨b, o, none⟩) (k :: p).length cap) (k :: p)) (hc : p.length + 1 ≤ cap) : Path w (.slice (if cap = 1 then some ⟨b, o, none⟩ else some ⟨b, o + 1, none⟩) p.length (cap - 1)) p := by
  split
  · exact h.tail _ (.inr (List.length_eq_zero_iff.1 (by omega))) _ (by omega)
  · exact h.tail _ (.inl rfl) _ (by omega)

abbrev Nine (n : Nat) (s m : Value) (pb po bb oo : Nat) (y : C) (W : World) : Prop := W.cell? ⟨n, 6, none⟩ = some s ∧ W.cell? ⟨pb, po, none⟩ = some m ∧ W.cell? ⟨bb, oo, none⟩ = some (.int .u8 y.k) ∧ W.cell? ⟨bb, oo + 1, none⟩ = some (.int .i64 y.r.x) ∧ W.cell? ⟨bb, oo + 2, none⟩ = some (.int .i64 y.r.y) ∧ W.cell? ⟨bb, oo + 3, none⟩ = some (.int .i64 y.r.w) ∧ W.cell? ⟨bb, oo + 4, none⟩ = some (.int .i64 y.r.h) ∧ W.cell? ⟨bb, oo + 5, none⟩ = some (.int .i64 y.id) ∧ W.cell? ⟨bb, oo + 6, none⟩ = some (.slice y.a y.n y.cap)
theorem Nine.up {n : Nat} {s m : Value} {pb po bb oo : Nat} {y : C} {W W' : World} (h : Nine n s m pb po bb oo y W) (hb : Below W.heap.size W W') : Nine n s m pb po bb oo y W' := by
  obtain ⟨h0, h1, h2, h3, h4, h5, h6, h7, h8⟩ := h
  exact ⟨(hb.cell (lt_of_cell h0)).trans h0, (hb.cell (lt_of_cell h1)).trans h1, (hb.cell (lt_of_cell h2)).trans h2, (hb.cell (lt_of_cell h3)).trans h3, (hb.cell (lt_of_cell h4)).trans h4, (hb.cell (lt_of_cell h5)).trans h5, (hb.cell (lt_of_cell h6)).trans h6, (hb.cell (lt_of_cell h7)).trans h7, (hb.cell (lt_of_cell h8)).trans h8⟩
theorem Nine.put {n : Nat} {s m : Value} {pb po bb oo : Nat} {y d : C} {W : World} {b : Nat} (h : Nine n s m pb po bb oo y W) (h1 : n ≠ b) (h2 : pb ≠ b) (h3 : bb ≠ b) : Nine n s m pb po bb oo y (put7 W b d) := by
  obtain ⟨h0, h1, h2, h3, h4, h5, h6, h7, h8⟩ := h
  exact ⟨(World.cell?_of_block (heap_put7 (by assumption))).trans h0, (World.cell?_of_block (heap_put7 (by assumption))).trans h1, (World.cell?_of_block (heap_put7 (by assumption))).trans h2, (World.cell?_of_block (heap_put7 (by assumption))).trans h3, (World.cell?_of_block (heap_put7 (by assumption))).trans h4, (World.cell?_of_block (heap_put7 (by assumption))).trans h5, (World.cell?_of_block (heap_put7 (by assumption))).trans h6, (World.cell?_of_block (heap_put7 (by assumption))).trans h7, (World.cell?_of_block (heap_put7 (by assumption))).trans h8⟩

set_option maxRecDepth 100000 in
set_option maxHeartbeats 800000 in
theorem rat_any (w0 : World) (p : List Int) : ∀ (t : T) (c : C) (v : Value) (w : World), Is w0 c t → Below w0.heap.size w0 w → Path w0 v p → p.length ≤ 1000000 → Calls Try.prog 23 #[cval c, v] w fun e w' => ∃ d, e = .returned (.tuple #[cval d, .bool (atT t p).isSome]) ∧ Is w0 d ((atT t p).getD zT) ∧ Below w.heap.size w w' := by
  induction p with
  | nil =>
    intro t c v w hi hb0 hp _
    obtain ⟨a, cap, rfl, -⟩ := hp.cap
    have HI := Lib.hid hi
    clear hi hb0 hp
    have e0 : ((0 : Int) == 0) = true := rfl
    go_enter Try.func23, Try.ntmps23
    go_wp2
    (try simp only [Exit.inBlock, Exit.then])
    refine bodyPost_ret (results_cell2 rfl _ _ (w.heap.size + 1) c rfl (by have := Box7.new (w.alloc (cbox c)) c; simpa using this)) rfl ?_
    exact ⟨c, rfl, HI.out, ((Below.refl _ _).alloc (Nat.le_refl _) _).alloc (by simp) _⟩
  | cons k p ih =>
    intro t c v w hi hb0 hp hl
    obtain ⟨a, cap, rfl, hcap⟩ := hp.cap
    obtain ⟨pb, po, rfl, hpf⟩ := int_at hp.row (by simp)
    have hp0 := hpf 0 k rfl
    have c0 := (hb0.cell (lt_of_cell hp0)).trans hp0
    rw [Nat.add_zero] at c0
    clear hpf hp0
    have HIH := Lib.hid ih
    have HP := Lib.hid hp
    have HB0 := Lib.hid hb0
    have HI := Lib.hid hi
    have hn := hi.n
    clear ih hp hb0 hi
    obtain ⟨ck, cr, cid, ca, cn, ccap⟩ := c
    simp only at hn
    subst hn
    have hlp : (k :: p).length = p.length + 1 := rfl
    rw [hlp] at hcap hl
    have d0 : (((p.length : Int) + 1) == 0) = false := by rw [beq_eq_false_iff_ne]; omega
    cases hk : kidAt t k with
    | none =>
      have hro : atT t (k :: p) = none := by rw [atT, hk]
      have HRO := Lib.hid hro
      have hkn := kid_none hk
      clear hk hro
      have hpl : pb < w.heap.size := lt_of_cell c0
      have hpne : pb ≠ w.heap.size := by omega
      have HBB : Hid (Below w.heap.size w ((w.alloc (cbox ⟨ck, cr, cid, ca, t.kids.length, ccap⟩)).alloc (cbox zC))) := ((Below.refl _ _).alloc (Nat.le_refl _) _).alloc (by simp) _
      have HXX : Hid (Box7 ((w.alloc (cbox ⟨ck, cr, cid, ca, t.kids.length, ccap⟩)).alloc (cbox zC)) (w.heap.size + 1) zC) := Lib.hid (by have := Box7.new (w.alloc (cbox ⟨ck, cr, cid, ca, t.kids.length, ccap⟩)) zC; simpa using this)
      by_cases h0 : k < 0
      · have g0 : decide (k < 0) = true := decide_eq_true h0
        go_enter Try.func23, Try.ntmps23
        go_wp2
        go_quiet (fail)
        go_wp2
        (try simp only [Exit.inBlock, Exit.then])
        have HX0 : Box7 (((w.alloc (cbox ⟨ck, cr, cid, ca, t.kids.length, ccap⟩)).alloc (cbox zC)).drewN nq) (w.heap.size + 1) zC := HXX.out
        have HXN := HX0.put zC
        have HB0' : Below w.heap.size w (((w.alloc (cbox ⟨ck, cr, cid, ca, t.kids.length, ccap⟩)).alloc (cbox zC)).drewN nq) := ⟨HBB.out.os, HBB.out.tape, HBB.out.output, HBB.out.size, HBB.out.block⟩
        have HBN := below_put7 HB0' (show w.heap.size ≤ w.heap.size + 1 by omega) zC
        refine bodyPost_ret (results_cell2 rfl _ (put7 (((w.alloc (cbox ⟨ck, cr, cid, ca, t.kids.length, ccap⟩)).alloc (cbox zC)).drewN nq) (w.heap.size + 1) zC) (w.heap.size + 1) zC rfl HXN) rfl ?_
        exact ⟨zC, by rw [HRO.out]; rfl, by rw [HRO.out]; exact zero_is w0, HBN⟩
      · have g0 : decide (k < 0) = false := decide_eq_false h0
        have g1 : decide ((t.kids.length : Int) ≤ k) = true := decide_eq_true (by omega)
        go_enter Try.func23, Try.ntmps23
        go_wp2
        go_quiet (fail)
        go_wp2
        (try simp only [Exit.inBlock, Exit.then])
        have HX0 : Box7 (((w.alloc (cbox ⟨ck, cr, cid, ca, t.kids.length, ccap⟩)).alloc (cbox zC)).drewN nq) (w.heap.size + 1) zC := HXX.out
        have HXN := HX0.put zC
        have HB0' : Below w.heap.size w (((w.alloc (cbox ⟨ck, cr, cid, ca, t.kids.length, ccap⟩)).alloc (cbox zC)).drewN nq) := ⟨HBB.out.os, HBB.out.tape, HBB.out.output, HBB.out.size, HBB.out.block⟩
        have HBN := below_put7 HB0' (show w.heap.size ≤ w.heap.size + 1 by omega) zC
        refine bodyPost_ret (results_cell2 rfl _ (put7 (((w.alloc (cbox ⟨ck, cr, cid, ca, t.kids.length, ccap⟩)).alloc (cbox zC)).drewN nq) (w.heap.size + 1) zC) (w.heap.size + 1) zC rfl HXN) rfl ?_
        exact ⟨zC, by rw [HRO.out]; rfl, by rw [HRO.out]; exact zero_is w0, HBN⟩
    | some u =>
      obtain ⟨j, rfl, hj⟩ := kid_some hk
      have hjl : j < t.kids.length := (List.getElem?_eq_some_iff.1 hj).1
      obtain ⟨bb, o, rfl, hf⟩ := HI.out.row.place (by omega)
      obtain ⟨y, hy, hiy⟩ := hf j u hj
      clear hf hj
      obtain ⟨e0, e1, e2, e3, e4, e5, e6⟩ := hy.up HB0.out
      have hbl : bb < w.heap.size := lt_of_cell e0
      have hbne : bb ≠ w.heap.size := by omega
      have HY := Lib.hid hiy
      clear hy hiy
      have g0 : decide ((j : Int) < 0) = false := decide_eq_false (by omega)
      have g1 : decide ((t.kids.length : Int) ≤ (j : Int)) = false := decide_eq_false (by omega)
      have g2 : decide (t.kids.length ≤ j) = false := decide_eq_false (by omega)
      have hpl : pb < w.heap.size := lt_of_cell c0
      have hpne : pb ≠ w.heap.size := by omega
      obtain ⟨A, hA⟩ : ∃ A : Addr, (if cap = 1 then some ⟨pb, po, none⟩ else some ⟨pb, po + 1, none⟩ : Option Addr) = some A := by split <;> exact ⟨_, rfl⟩
      have hpt := path_if HP.out hcap
      rw [hA] at hpt
      have HPT := Lib.hid hpt
      clear hpt
      have HK := Lib.hid (fun W hbW => HIH.out u y _ W HY.out hbW HPT.out (by omega))
      have hro : atT t ((j : Int) :: p) = atT u p := by rw [atT, hk]
      have HRO := Lib.hid hro
      clear hk hro
      generalize atT u p = ro at HK HRO
      go_enter Try.func23, Try.ntmps23
      go_wp2
      go_quiet (fail)
      go_wp2
      have X0 : Hid (Nine w.heap.size (.slice (some ⟨bb, o, none⟩) t.kids.length ccap) (.int .i64 (j : Int)) pb po bb (o + j * 7) y (((w.alloc (cbox ⟨ck, cr, cid, some ⟨bb, o, none⟩, t.kids.length, ccap⟩)).alloc zeroBox).drewN (nq + 1))) := Lib.hid (by
        have hb : Below w.heap.size w ((w.alloc (cbox ⟨ck, cr, cid, some ⟨bb, o, none⟩, t.kids.length, ccap⟩)).alloc zeroBox) := ((Below.refl _ _).alloc (Nat.le_refl _) _).alloc (by simp) _
        have hc := (two_fst (c := ⟨ck, cr, cid, some ⟨bb, o, none⟩, t.kids.length, ccap⟩) (d := zC) (w := w) (Below.refl _ _)).2.2.2.2.2.2
        exact ⟨hc, (hb.cell hpl).trans c0, (hb.cell hbl).trans e0, (hb.cell hbl).trans e1, (hb.cell hbl).trans e2, (hb.cell hbl).trans e3, (hb.cell hbl).trans e4, (hb.cell hbl).trans e5, (hb.cell hbl).trans e6⟩)
      have Z0 : Hid (Zero7 (((w.alloc (cbox ⟨ck, cr, cid, some ⟨bb, o, none⟩, t.kids.length, ccap⟩)).alloc zeroBox).drewN (nq + 1)) (w.heap.size + 1)) := Lib.hid (by
        have h := zero_new (w.alloc (cbox ⟨ck, cr, cid, some ⟨bb, o, none⟩, t.kids.length, ccap⟩))
        have h2 : Zero7 ((w.alloc (cbox ⟨ck, cr, cid, some ⟨bb, o, none⟩, t.kids.length, ccap⟩)).alloc zeroBox) (w.heap.size + 1) := by simpa using h
        exact h2)
      have B0 : Hid (Below w.heap.size w (((w.alloc (cbox ⟨ck, cr, cid, some ⟨bb, o, none⟩, t.kids.length, ccap⟩)).alloc zeroBox).drewN (nq + 1))) := Lib.hid (by
        have hb : Below w.heap.size w ((w.alloc (cbox ⟨ck, cr, cid, some ⟨bb, o, none⟩, t.kids.length, ccap⟩)).alloc zeroBox) := ((Below.refl _ _).alloc (Nat.le_refl _) _).alloc (by simp) _
        exact ⟨hb.os, hb.tape, hb.output, hb.size, hb.block⟩)
      have X00 : Hid (Nine w.heap.size (.slice (some ⟨bb, o, none⟩) t.kids.length ccap) (.int .i64 (j : Int)) pb po bb (o + j * 7) y (((w.alloc (cbox ⟨ck, cr, cid, some ⟨bb, o, none⟩, t.kids.length, ccap⟩)).alloc zeroBox).drewN nq).drew) := Lib.hid X0.out
      have l1 : (1 : Int) ≤ (p.length : Int) + 1 := by omega
      have l2 : (p.length : Int) + 1 ≤ (cap : Int) := by omega
      go_region_held3 (fun W => W.cell? ⟨w.heap.size, 6, none⟩ = some (.slice (some ⟨bb, o, none⟩) t.kids.length ccap) ∧ W.cell? ⟨pb, po, none⟩ = some (.int .i64 (j : Int)) ∧ W.cell? ⟨bb, o + j * 7, none⟩ = some (.int .u8 y.k) ∧ W.cell? ⟨bb, o + j * 7 + 1, none⟩ = some (.int .i64 y.r.x) ∧ W.cell? ⟨bb, o + j * 7 + 2, none⟩ = some (.int .i64 y.r.y) ∧ W.cell? ⟨bb, o + j * 7 + 3, none⟩ = some (.int .i64 y.r.w) ∧ W.cell? ⟨bb, o + j * 7 + 4, none⟩ = some (.int .i64 y.r.h) ∧ W.cell? ⟨bb, o + j * 7 + 5, none⟩ = some (.int .i64 y.id) ∧ W.cell? ⟨bb, o + j * 7 + 6, none⟩ = some (.slice y.a y.n y.cap)) (first | with_reducible exact X00.out | with_reducible exact X0.out | with_reducible exact X5.out | with_reducible exact Nine.put X5.out n1 n2 n3)
        (first
          | (go_at_call 23; refine (HK.out _ (HB0.out.trans (B0.out.mono HB0.out.size))).mono ?_; rintro e w5 ⟨d, rfl, hd, hb5⟩; have HD := Lib.hid hd; have X5 := Lib.hid (X0.out.up hb5); have Z5 := Lib.hid (zero_up Z0.out hb5); have B5 := Lib.hid (B0.out.trans (hb5.mono B0.out.size)); obtain ⟨⟨z0, z1, z2, z3, z4, z5, z6⟩, f0, f1, f2, f3, f4, f5, f6⟩ := zero_parts Z5.out; have n1 : w.heap.size ≠ w.heap.size + 1 := (by omega); have n2 : pb ≠ w.heap.size + 1 := (by omega); have n3 : bb ≠ w.heap.size + 1 := (by omega); clear hd hb5))
      go_wp2
      (try simp only [Exit.inBlock, Exit.then])
      refine bodyPost_ret (results_cell2 rfl _ _ (w.heap.size + 1) d rfl ((Box7.of_zero Z5.out).put d)) rfl ?_
      refine ⟨d, ?_, ?_, below_put7 B5.out (by omega) d⟩
      · rw [HRO.out]; rfl
      · rw [HRO.out]; exact HD.out
end Go.Proofs.Ytoiologdaflnmaa
