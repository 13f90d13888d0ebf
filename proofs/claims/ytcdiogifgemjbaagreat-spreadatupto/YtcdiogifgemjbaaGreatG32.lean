/- Texts of this seat, 3 in one file. -/
import Derived.Test.YtcdiogifgemjbaaGreatG18
import Derived.Test.YtcdiogifgemjbaaGreatG07
import Derived.Deep.RegionHeld3
import Derived.Test.YtcdiogifgemjbaaGreatG31
import Derived.Deep.Cut
/- The cell at a path: the document's answer. -/
namespace Go.Proofs.YtcdiogifgemjbaaGreat
open Go.RowKit

/-- Numbers that can be cut: as many as there is room for. -/
structure Path (w : World) (v : Value) (p : List Int) : Prop where
  row : Row w v (ints p)
  cap : ∃ a cap, v = .slice a p.length cap ∧ p.length ≤ cap
theorem Path.up {w w' : World} {v : Value} {p : List Int} (h : Path w v p) (hb : Below w.heap.size w w') : Path w' v p := ⟨h.row.up hb, h.cap⟩
/-- The rest of a path. -/
theorem Path.tail {w : World} {b o cap : Nat} {k : Int} {p : List Int} (h : Path w (.slice (some ⟨b, o, none⟩) (k :: p).length cap) (k :: p)) (A : Addr) (hA : A = ⟨b, o + 1, none⟩ ∨ p = []) (c : Nat) (hc : p.length ≤ c) : Path w (.slice (some A) p.length c) p := by
  refine ⟨⟨some A, c, by rw [ints_length], (fun h => by cases h), fun x hx j u hu => ?_⟩, _, c, rfl, hc⟩
  cases hx
  rcases hA with rfl | rfl
  · obtain ⟨b', o', he, hf⟩ := int_at h.row (by simp)
    cases he
    have hj : j < p.length := by
      rcases Nat.lt_or_ge j p.length with h | h
      · exact h
      · rw [List.getElem?_eq_none (by rw [ints_length]; exact h)] at hu; cases hu
    simp [ints, hj] at hu
    rw [← hu, Go.WideShapes.add_plain, Nat.add_assoc, Nat.add_comm 1 j]
    exact hf (j + 1) _ (by simp [hj])
  · simp [ints] at hu

theorem path_if {w : World} {b o cap : Nat} {k : Int} {p : List Int} (h : Path w (.slice (some ⟨b, o, none⟩) (k :: p).length cap) (k :: p)) (hc : p.length + 1 ≤ cap) : Path w (.slice (if cap = 1 then some ⟨b, o, none⟩ else some ⟨b, o + 1, none⟩) p.length (cap - 1)) p := by
  split
  · exact h.tail _ (.inr (List.length_eq_zero_iff.1 (by omega))) _ (by omega)
  · exact h.tail _ (.inl rfl) _ (by omega)

abbrev Nine (n : Nat) (s m : Value) (pb po bb oo : Nat) (y : C) (W : World) : Prop := W.cell? ⟨n, 6, none⟩ = some s ∧ W.cell? ⟨pb, po, none⟩ = some m ∧ W.cell? ⟨bb, oo, none⟩ = some (.int .u8 y.k) ∧ W.cell? ⟨bb, oo + 1, none⟩ = some (.int .i64 y.r.x) ∧ W.cell? ⟨bb, oo + 2, none⟩ = some (.int .i64 y.r.y) ∧ W.cell? ⟨bb, oo + 3, none⟩ = some (.int .i64 y.r.w) ∧ W.cell? ⟨bb, oo + 4, none⟩ = some (.int .i64 y.r.h) ∧ W.cell? ⟨bb, oo + 5, none⟩ = some (.int .i64 y.id) ∧ W.cell? ⟨bb, oo + 6, none⟩ = some (.slice y.a y.n y.cap)
theorem Nine.up {n : Nat} {s m : Value} {pb po bb oo : Nat} {y : C} {W W' : World} (h : Nine n s m pb po bb oo y W) (hb : Below W.heap.size W W') : Nine n s m pb po bb oo y W' := by
  obtain ⟨h0, h1, h2, h3, h4, h5, h6, h7, h8⟩ := h
  exact ⟨(hb.cell (lt_of_cell h0)).trans h0, (hb.cell (lt_of_cell h1)).trans h1, (hb.cell (lt_of_cell h2)).trans h2, (hb.cell (lt_of_cell h3)).trans h3, (hb.cell (lt_of_cell h4)).trans h4, (hb.cell (lt_of_cell h5)).trans h5, (hb.cell (lt_of_cell h6)).trans h6, (hb.cell (lt_of_cell h7)).trans h7, (hb.cell (lt_of_cell h8)).trans h8⟩
theorem Nine.put {n : Nat} {s m : Value} {pb po bb oo : Nat} {y d : C} {W : World} {b : Nat} (h : Nine n s m pb po bb oo y W) (h1 : n ≠ b) (h2 : pb ≠ b) (h3 : bb ≠ b) : Nine n s m pb po bb oo y (put7 W b d) := by
  obtain ⟨h0, h1, h2, h3, h4, h5, h6, h7, h8⟩ := h
  exact ⟨(World.cell?_of_block (heap_put7 (by assumption))).trans h0, (World.cell?_of_block (heap_put7 (by assumption))).trans h1, (World.cell?_of_block (heap_put7 (by assumption))).trans h2, (World.cell?_of_block (heap_put7 (by assumption))).trans h3, (World.cell?_of_block (heap_put7 (by assumption))).trans h4, (World.cell?_of_block (heap_put7 (by assumption))).trans h5, (World.cell?_of_block (heap_put7 (by assumption))).trans h6, (World.cell?_of_block (heap_put7 (by assumption))).trans h7, (World.cell?_of_block (heap_put7 (by assumption))).trans h8⟩

set_option maxRecDepth 100000 in
set_option maxHeartbeats 800000 in
theorem rat_any (w0 : World) (p : List Int) : ∀ (t : T) (c : C) (v : Value) (w : World), Is w0 c t → Below w0.heap.size w0 w → Path w0 v p → p.length ≤ 1000000 → Calls Tryz.prog 22 #[cval c, v] w fun e w' => ∃ d, e = .returned (.tuple #[cval d, .bool (atT t p).isSome]) ∧ Is w0 d ((atT t p).getD zT) ∧ Below w.heap.size w w' := by
  induction p with
  | nil =>
    intro t c v w hi hb0 hp _
    obtain ⟨a, cap, rfl, -⟩ := hp.cap
    have HI := Lib.hid hi
    clear hi hb0 hp
    have e0 : ((0 : Int) == 0) = true := rfl
    go_enter Tryz.func22, Tryz.ntmps22
    go_wp2
    (try simp only [Exit.inBlock, Exit.then])
    refine bodyPost_ret (results_cell2 rfl _ _ (w.heap.size + 1) c rfl (by have := Box7.new (w.alloc (cbox c)) c; simpa using this)) rfl ?_
    exact ⟨c, rfl, HI.out, ((Below.refl _ _).alloc (Nat.le_refl _) _).alloc (by simp) _⟩
  | cons k p ih =>
    intro t c v w hi hb0 hp hl
    obtain ⟨a, cap, rfl, hcap⟩ := hp.cap
    obtain ⟨pb, po, rfl, hpf⟩ := int_at hp.row (by simp)
    have hp0 := hpf 0 k rfl
    have c0 := (hb0.cell (lt_of_cell hp0)).trans hp0
    rw [Nat.add_zero] at c0
    clear hpf hp0
    have HIH := Lib.hid ih
    have HP := Lib.hid hp
    have HB0 := Lib.hid hb0
    have HI := Lib.hid hi
    have hn := hi.n
    clear ih hp hb0 hi
    obtain ⟨ck, cr, cid, ca, cn, ccap⟩ := c
    simp only at hn
    subst hn
    have hlp : (k :: p).length = p.length + 1 := rfl
    rw [hlp] at hcap hl
    have d0 : (((p.length : Int) + 1) == 0) = false := by rw [beq_eq_false_iff_ne]; omega
    cases hk : kidAt t k with
    | none =>
      have hro : atT t (k :: p) = none := by rw [atT, hk]
      have HRO := Lib.hid hro
      have hkn := kid_none hk
      clear hk hro
      have hpl : pb < w.heap.size := lt_of_cell c0
      have hpne : pb ≠ w.heap.size := by omega
      have HBB : Hid (Below w.heap.size w ((w.alloc (cbox ⟨ck, cr, cid, ca, t.kids.length, ccap⟩)).alloc (cbox zC))) := ((Below.refl _ _).alloc (Nat.le_refl _) _).alloc (by simp) _
      have HXX : Hid (Box7 ((w.alloc (cbox ⟨ck, cr, cid, ca, t.kids.length, ccap⟩)).alloc (cbox zC)) (w.heap.size + 1) zC) := Lib.hid (by have := Box7.new (w.alloc (cbox ⟨ck, cr, cid, ca, t.kids.length, ccap⟩)) zC; simpa using this)
      by_cases h0 : k < 0
      · have g0 : decide (k < 0) = true := decide_eq_true h0
        go_enter Tryz.func22, Tryz.ntmps22
        go_wp2
        go_quiet (fail)
        go_wp2
        (try simp only [Exit.inBlock, Exit.then])
        have HX0 : Box7 (((w.alloc (cbox ⟨ck, cr, cid, ca, t.kids.length, ccap⟩)).alloc (cbox zC)).drewN nq) (w.heap.size + 1) zC := HXX.out
        have HXN := HX0.put zC
        have HB0' : Below w.heap.size w (((w.alloc (cbox ⟨ck, cr, cid, ca, t.kids.length, ccap⟩)).alloc (cbox zC)).drewN nq) := ⟨HBB.out.os, HBB.out.tape, HBB.out.output, HBB.out.size, HBB.out.block⟩
        have HBN := below_put7 HB0' (show w.heap.size ≤ w.heap.size + 1 by omega) zC
        refine bodyPost_ret (results_cell2 rfl _ (put7 (((w.alloc (cbox ⟨ck, cr, cid, ca, t.kids.length, ccap⟩)).alloc (cbox zC)).drewN nq) (w.heap.size + 1) zC) (w.heap.size + 1) zC rfl HXN) rfl ?_
        exact ⟨zC, by rw [HRO.out]; rfl, by rw [HRO.out]; exact zero_is w0, HBN⟩
      · have g0 : decide (k < 0) = false := decide_eq_false h0
        have g1 : decide ((t.kids.length : Int) ≤ k) = true := decide_eq_true (by omega)
        go_enter Tryz.func22, Tryz.ntmps22
        go_wp2
        go_quiet (fail)
        go_wp2
        (try simp only [Exit.inBlock, Exit.then])
        have HX0 : Box7 (((w.alloc (cbox ⟨ck, cr, cid, ca, t.kids.length, ccap⟩)).alloc (cbox zC)).drewN nq) (w.heap.size + 1) zC := HXX.out
        have HXN := HX0.put zC
        have HB0' : Below w.heap.size w (((w.alloc (cbox ⟨ck, cr, cid, ca, t.kids.length, ccap⟩)).alloc (cbox zC)).drewN nq) := ⟨HBB.out.os, HBB.out.tape, HBB.out.output, HBB.out.size, HBB.out.block⟩
        have HBN := below_put7 HB0' (show w.heap.size ≤ w.heap.size + 1 by omega) zC
        refine bodyPost_ret (results_cell2 rfl _ (put7 (((w.alloc (cbox ⟨ck, cr, cid, ca, t.kids.length, ccap⟩)).alloc (cbox zC)).drewN nq) (w.heap.size + 1) zC) (w.heap.size + 1) zC rfl HXN) rfl ?_
        exact ⟨zC, by rw [HRO.out]; rfl, by rw [HRO.out]; exact zero_is w0, HBN⟩
    | some u =>
      obtain ⟨j, rfl, hj⟩ := kid_some hk
      have hjl : j < t.kids.length := (List.getElem?_eq_some_iff.1 hj).1
      obtain ⟨bb, o, rfl, hf⟩ := HI.out.row.place (by omega)
      obtain ⟨y, hy, hiy⟩ := hf j u hj
      clear hf hj
      obtain ⟨e0, e1, e2, e3, e4, e5, e6⟩ := hy.up HB0.out
      have hbl : bb < w.heap.size := lt_of_cell e0
      have hbne : bb ≠ w.heap.size := by omega
      have HY := Lib.hid hiy
      clear hy hiy
      have g0 : decide ((j : Int) < 0) = false := decide_eq_false (by omega)
      have g1 : decide ((t.kids.length : Int) ≤ (j : Int)) = false := decide_eq_false (by omega)
      have g2 : decide (t.kids.length ≤ j) = false := decide_eq_false (by omega)
      have hpl : pb < w.heap.size := lt_of_cell c0
      have hpne : pb ≠ w.heap.size := by omega
      obtain ⟨A, hA⟩ : ∃ A : Addr, (if cap = 1 then some ⟨pb, po, none⟩ else some ⟨pb, po + 1, none⟩ : Option Addr) = some A := by split <;> exact ⟨_, rfl⟩
      have hpt := path_if HP.out hcap
      rw [hA] at hpt
      have HPT := Lib.hid hpt
      clear hpt
      have HK := Lib.hid (fun W hbW => HIH.out u y _ W HY.out hbW HPT.out (by omega))
      have hro : atT t ((j : Int) :: p) = atT u p := by rw [atT, hk]
      have HRO := Lib.hid hro
      clear hk hro
      generalize atT u p = ro at HK HRO
      go_enter Tryz.func22, Tryz.ntmps22
      go_wp2
      go_quiet (fail)
      go_wp2
      have X0 : Hid (Nine w.heap.size (.slice (some ⟨bb, o, none⟩) t.kids.length ccap) (.int .i64 (j : Int)) pb po bb (o + j * 7) y (((w.alloc (cbox ⟨ck, cr, cid, some ⟨bb, o, none⟩, t.kids.length, ccap⟩)).alloc zeroBox).drewN (nq + 1))) := Lib.hid (by
        have hb : Below w.heap.size w ((w.alloc (cbox ⟨ck, cr, cid, some ⟨bb, o, none⟩, t.kids.length, ccap⟩)).alloc zeroBox) := ((Below.refl _ _).alloc (Nat.le_refl _) _).alloc (by simp) _
        have hc := (two_fst (c := ⟨ck, cr, cid, some ⟨bb, o, none⟩, t.kids.length, ccap⟩) (d := zC) (w := w) (Below.refl _ _)).2.2.2.2.2.2
        exact ⟨hc, (hb.cell hpl).trans c0, (hb.cell hbl).trans e0, (hb.cell hbl).trans e1, (hb.cell hbl).trans e2, (hb.cell hbl).trans e3, (hb.cell hbl).trans e4, (hb.cell hbl).trans e5, (hb.cell hbl).trans e6⟩)
      have Z0 : Hid (Zero7 (((w.alloc (cbox ⟨ck, cr, cid, some ⟨bb, o, none⟩, t.kids.length, ccap⟩)).alloc zeroBox).drewN (nq + 1)) (w.heap.size + 1)) := Lib.hid (by
        have h := zero_new (w.alloc (cbox ⟨ck, cr, cid, some ⟨bb, o, none⟩, t.kids.length, ccap⟩))
        have h2 : Zero7 ((w.alloc (cbox ⟨ck, cr, cid, some ⟨bb, o, none⟩, t.kids.length, ccap⟩)).alloc zeroBox) (w.heap.size + 1) := by simpa using h
        exact h2)
      have B0 : Hid (Below w.heap.size w (((w.alloc (cbox ⟨ck, cr, cid, some ⟨bb, o, none⟩, t.kids.length, ccap⟩)).alloc zeroBox).drewN (nq + 1))) := Lib.hid (by
        have hb : Below w.heap.size w ((w.alloc (cbox ⟨ck, cr, cid, some ⟨bb, o, none⟩, t.kids.length, ccap⟩)).alloc zeroBox) := ((Below.refl _ _).alloc (Nat.le_refl _) _).alloc (by simp) _
        exact ⟨hb.os, hb.tape, hb.output, hb.size, hb.block⟩)
      have X00 : Hid (Nine w.heap.size (.slice (some ⟨bb, o, none⟩) t.kids.length ccap) (.int .i64 (j : Int)) pb po bb (o + j * 7) y (((w.alloc (cbox ⟨ck, cr, cid, some ⟨bb, o, none⟩, t.kids.length, ccap⟩)).alloc zeroBox).drewN nq).drew) := Lib.hid X0.out
      have l1 : (1 : Int) ≤ (p.length : Int) + 1 := by omega
      have l2 : (p.length : Int) + 1 ≤ (cap : Int) := by omega
      go_region_held3 (fun W => W.cell? ⟨w.heap.size, 6, none⟩ = some (.slice (some ⟨bb, o, none⟩) t.kids.length ccap) ∧ W.cell? ⟨pb, po, none⟩ = some (.int .i64 (j : Int)) ∧ W.cell? ⟨bb, o + j * 7, none⟩ = some (.int .u8 y.k) ∧ W.cell? ⟨bb, o + j * 7 + 1, none⟩ = some (.int .i64 y.r.x) ∧ W.cell? ⟨bb, o + j * 7 + 2, none⟩ = some (.int .i64 y.r.y) ∧ W.cell? ⟨bb, o + j * 7 + 3, none⟩ = some (.int .i64 y.r.w) ∧ W.cell? ⟨bb, o + j * 7 + 4, none⟩ = some (.int .i64 y.r.h) ∧ W.cell? ⟨bb, o + j * 7 + 5, none⟩ = some (.int .i64 y.id) ∧ W.cell? ⟨bb, o + j * 7 + 6, none⟩ = some (.slice y.a y.n y.cap)) (first | with_reducible exact X00.out | with_reducible exact X0.out | with_reducible exact X5.out | with_reducible exact Nine.put X5.out n1 n2 n3)
        (first
          | (go_at_call 22; refine (HK.out _ (HB0.out.trans (B0.out.mono HB0.out.size))).mono ?_; rintro e w5 ⟨d, rfl, hd, hb5⟩; have HD := Lib.hid hd; have X5 := Lib.hid (X0.out.up hb5); have Z5 := Lib.hid (zero_up Z0.out hb5); have B5 := Lib.hid (B0.out.trans (hb5.mono B0.out.size)); obtain ⟨⟨z0, z1, z2, z3, z4, z5, z6⟩, f0, f1, f2, f3, f4, f5, f6⟩ := zero_parts Z5.out; have n1 : w.heap.size ≠ w.heap.size + 1 := (by omega); have n2 : pb ≠ w.heap.size + 1 := (by omega); have n3 : bb ≠ w.heap.size + 1 := (by omega); clear hd hb5))
      go_wp2
      (try simp only [Exit.inBlock, Exit.then])
      refine bodyPost_ret (results_cell2 rfl _ _ (w.heap.size + 1) d rfl ((Box7.of_zero Z5.out).put d)) rfl ?_
      refine ⟨d, ?_, ?_, below_put7 B5.out (by omega) d⟩
      · rw [HRO.out]; rfl
      · rw [HRO.out]; exact HD.out
end Go.Proofs.YtcdiogifgemjbaaGreat
/- A tree that stands as long as certain blocks do. -/
namespace Go.Proofs.YtcdiogifgemjbaaGreat
open Go.RowKit

theorem crow_agree {w w' : World} {v : Value} {cs : List C} (h : CRow w v cs) (hs : w.heap.size ≤ w'.heap.size) (hk : ∀ b, b < w.heap.size → w'.heap[b]? = w.heap[b]?) : CRow w' v cs := by
  have h2 : Below w.heap.size w { w with heap := w'.heap } := ⟨rfl, rfl, rfl, hs, hk⟩
  have h3 : CRow { w with heap := w'.heap } v cs := h.up h2
  exact h3
theorem Is.agree {w w' : World} {c : C} {t : T} (h : Is w c t) (hs : w.heap.size ≤ w'.heap.size) (hk : ∀ b, b < w.heap.size → w'.heap[b]? = w.heap[b]?) : Is w' c t := by
  induction h with
  | mk c kids cs row len fine each ih => exact .mk c kids cs (crow_agree row hs hk) len fine ih

/-- It is the tree in every world that has the blocks of w0, and those of W from hi on. -/
def IsFor (w0 W : World) (hi : Nat) (d : C) (t : T) : Prop := ∀ W' : World, w0.heap.size ≤ W'.heap.size → (∀ b, b < w0.heap.size → W'.heap[b]? = w0.heap[b]?) → (∀ b, hi ≤ b → b < W.heap.size → W'.heap[b]? = W.heap[b]?) → Is W' d t
theorem IsFor.step {w0 W W2 : World} {hi hi' : Nat} {d : C} {t : T} (h : IsFor w0 W hi d t) (hh : hi' ≤ hi) (hs : W.heap.size ≤ W2.heap.size) (hk : ∀ b, hi ≤ b → b < W.heap.size → W2.heap[b]? = W.heap[b]?) : IsFor w0 W2 hi' d t :=
  fun W' h0 h1 h2 => h W' h0 h1 fun b hb hl => (h2 b (by omega) (by omega)).trans (hk b hb hl)
theorem IsFor.up {w0 W W2 : World} {hi hi' : Nat} {d : C} {t : T} (h : IsFor w0 W hi d t) (hh : hi' ≤ hi) (hb : Below W.heap.size W W2) : IsFor w0 W2 hi' d t := h.step hh hb.size fun b _ hl => hb.block b hl
theorem IsFor.of {w0 W : World} {hi : Nat} {d : C} {t : T} (h : Is w0 d t) : IsFor w0 W hi d t := fun _ h0 h1 _ => h.agree h0 h1
theorem IsFor.zero {w0 W : World} {hi : Nat} : IsFor w0 W hi zC zT := fun W' _ _ _ => zero_is W'
theorem IsFor.is {w0 W : World} {hi : Nat} {d : C} {t : T} (h : IsFor w0 W hi d t) (hb : Below w0.heap.size w0 W) : Is W d t := h W hb.size hb.block fun _ _ _ => rfl

/-- The kids of a cell, one of them another one, in a row of one's own. -/
theorem isFor_set {w0 W : World} {hi g cap j : Nat} {c d : C} {t u' : T} {cs : List C} (hc : Is w0 c t) (hrow : OwnC W hi (.slice (some ⟨g, 0, none⟩) t.kids.length cap) (cs.set j d)) (hcs : cs.length = t.kids.length) (hj : j < t.kids.length)
    (hkids : ∀ (i : Nat) (x : C) (u : T), cs[i]? = some x → t.kids[i]? = some u → Is w0 x u) (hd : IsFor w0 W hi d u') (hf : (⟨c.k, c.r, c.id, some ⟨g, 0, none⟩, t.kids.length, cap⟩ : C).fine) : IsFor w0 W hi ⟨c.k, c.r, c.id, some ⟨g, 0, none⟩, t.kids.length, cap⟩ (setKid t j u') := by
  intro W' h0 h1 h2
  obtain ⟨e1, e2, e3, -⟩ := hc.split
  have hl := own_block hrow (g := g) rfl
  have hrow' : OwnC W' hi (.slice (some ⟨g, 0, none⟩) t.kids.length cap) (cs.set j d) := ownC_kept hrow fun g' hg' => by
    cases hg'
    exact h2 g hl.1 hl.2
  unfold setKid
  rw [e1, e2, e3]
  refine .mk ⟨c.k, c.r, c.id, some ⟨g, 0, none⟩, t.kids.length, cap⟩ (t.kids.set j u') (cs.set j d) hrow'.row (by rw [List.length_set, List.length_set]; exact hcs) hf fun i x u hx hu => ?_
  by_cases hij : j = i
  · subst hij
    rw [List.getElem?_set_self (by omega)] at hx
    rw [List.getElem?_set_self hj] at hu
    cases hx; cases hu
    exact hd W' h0 h1 h2
  · rw [List.getElem?_set_ne hij] at hx hu
    exact (hkids i x u hx hu).agree h0 h1
end Go.Proofs.YtcdiogifgemjbaaGreat
/- The tree in which a kid stands at a path: the document's answer. -/
namespace Go.Proofs.YtcdiogifgemjbaaGreat
open Go.RowKit

abbrev rputW (w : World) (c k : C) : World := ((w.alloc (cbox c)).alloc (cbox k)).alloc zeroBox
theorem rput_below (w : World) (c k : C) : Below w.heap.size w (rputW w c k) := (((Below.refl _ _).alloc (Nat.le_refl _) _).alloc (by simp) _).alloc (by simp; omega) _
theorem rput_fst (w : World) (c k : C) : Box7 (rputW w c k) w.heap.size c := ((Box7.new w c).up ((Below.refl _ _).alloc (Nat.le_refl _) _)).up ((Below.refl _ _).alloc (Nat.le_refl _) _)
theorem rput_snd (w : World) (c k : C) : Box7 (rputW w c k) (w.heap.size + 1) k := by
  have := (Box7.new (w.alloc (cbox c)) k).up ((Below.refl _ _).alloc (Nat.le_refl _) zeroBox)
  simpa using this
theorem rput_zero (w : World) (c k : C) : Zero7 (rputW w c k) (w.heap.size + 2) := by
  have := zero_new ((w.alloc (cbox c)).alloc (cbox k))
  simpa using this

abbrev Held (n : Nat) (s m : Value) (pb po bb oo : Nat) (y k : C) (W : World) : Prop := W.cell? ⟨n, 6, none⟩ = some s ∧ W.cell? ⟨pb, po, none⟩ = some m ∧ W.cell? ⟨bb, oo, none⟩ = some (.int .u8 y.k) ∧ W.cell? ⟨bb, oo + 1, none⟩ = some (.int .i64 y.r.x) ∧ W.cell? ⟨bb, oo + 2, none⟩ = some (.int .i64 y.r.y) ∧ W.cell? ⟨bb, oo + 3, none⟩ = some (.int .i64 y.r.w) ∧ W.cell? ⟨bb, oo + 4, none⟩ = some (.int .i64 y.r.h) ∧ W.cell? ⟨bb, oo + 5, none⟩ = some (.int .i64 y.id) ∧ W.cell? ⟨bb, oo + 6, none⟩ = some (.slice y.a y.n y.cap) ∧ W.cell? ⟨n + 1, 0, none⟩ = some (.int .u8 k.k) ∧ W.cell? ⟨n + 1, 1, none⟩ = some (.int .i64 k.r.x) ∧ W.cell? ⟨n + 1, 2, none⟩ = some (.int .i64 k.r.y) ∧ W.cell? ⟨n + 1, 3, none⟩ = some (.int .i64 k.r.w) ∧ W.cell? ⟨n + 1, 4, none⟩ = some (.int .i64 k.r.h) ∧ W.cell? ⟨n + 1, 5, none⟩ = some (.int .i64 k.id) ∧ W.cell? ⟨n + 1, 6, none⟩ = some (.slice k.a k.n k.cap)
theorem Held.agree {n : Nat} {s m : Value} {pb po bb oo : Nat} {y k : C} {W W' : World} (h : Held n s m pb po bb oo y k W) (hk : ∀ b, b = n ∨ b = n + 1 ∨ b = pb ∨ b = bb → W'.heap[b]? = W.heap[b]?) : Held n s m pb po bb oo y k W' := by
  obtain ⟨h0, h1, h2, h3, h4, h5, h6, h7, h8, g0, g1, g2, g3, g4, g5, g6⟩ := h
  have e : ∀ (b o : Nat), (b = n ∨ b = n + 1 ∨ b = pb ∨ b = bb) → W'.cell? ⟨b, o, none⟩ = W.cell? ⟨b, o, none⟩ := fun b o hb => World.cell?_of_block (a := ⟨b, o, none⟩) (hk b hb)
  exact ⟨(e _ _ (by simp)).trans h0, (e _ _ (by simp)).trans h1, (e _ _ (by simp)).trans h2, (e _ _ (by simp)).trans h3, (e _ _ (by simp)).trans h4, (e _ _ (by simp)).trans h5, (e _ _ (by simp)).trans h6, (e _ _ (by simp)).trans h7, (e _ _ (by simp)).trans h8, (e _ _ (by simp)).trans g0, (e _ _ (by simp)).trans g1, (e _ _ (by simp)).trans g2, (e _ _ (by simp)).trans g3, (e _ _ (by simp)).trans g4, (e _ _ (by simp)).trans g5, (e _ _ (by simp)).trans g6⟩
theorem Held.up {n : Nat} {s m : Value} {pb po bb oo : Nat} {y k : C} {W W' : World} (h : Held n s m pb po bb oo y k W) (hb : Below W.heap.size W W') : Held n s m pb po bb oo y k W' := h.agree fun b hh => hb.block b (by
  obtain ⟨h0, h1, h2, h3, h4, h5, h6, h7, h8, g0, g1, g2, g3, g4, g5, g6⟩ := h
  have a0 := lt_of_cell h0
  have a1 := lt_of_cell h1
  have a2 := lt_of_cell h2
  have a3 := lt_of_cell g0
  simp only at a0 a1 a2 a3
  omega)
theorem Held.put {n : Nat} {s m : Value} {pb po bb oo : Nat} {y k d : C} {W : World} {b : Nat} (h : Held n s m pb po bb oo y k W) (h1 : n ≠ b) (h2 : n + 1 ≠ b) (h3 : pb ≠ b) (h4 : bb ≠ b) : Held n s m pb po bb oo y k (put7 W b d) := h.agree fun i hi => heap_put7 (by omega)
theorem Held.alloc {n : Nat} {s m : Value} {pb po bb oo : Nat} {y k : C} {W : World} {o : Obj} (h : Held n s m pb po bb oo y k W) : Held n s m pb po bb oo y k (W.alloc o) := h.up ((Below.refl _ _).alloc (Nat.le_refl _) _)

theorem free_of_block' {w : World} {b : Nat} {cs : Array Value} {t : TypeId} (h : w.heap[b]? = some (.cells cs t (0, 0))) (o : Nat) : w.frozen? ⟨b, o, none⟩ = false := by simp [World.frozen?, h]

theorem below_putO' {B : Nat} {w w' : World} (h : Below B w w') {b : Nat} (hb : B ≤ b) (o : Nat) (c : C) : Below B w (putO w' b o c) := ((((((h.setCell hb _).setCell hb _).setCell hb _).setCell hb _).setCell hb _).setCell hb _).setCell hb _
theorem size_putO' (w : World) (b o : Nat) (c : C) : (putO w b o c).heap.size = w.heap.size := by simp [World.setCell]

/-- What is there behind the inner call. -/
structure After (w0 w W : World) (c d : C) (bk : Nat) (ut : T) : Prop where
  below : Below w.heap.size w W
  top : Box7 W w.heap.size c
  zero : Zero7 W (w.heap.size + 2)
  ge : w.heap.size + 3 ≤ bk
  box : Box7 W bk d
  ans : IsFor w0 W (w.heap.size + 3) d ut
theorem after_one {w0 w w3 w5 : World} {c d : C} {ut : T} (hb : Below w.heap.size w w3) (hc : Box7 w3 w.heap.size c) (hz : Zero7 w3 (w.heap.size + 2)) (hs : w3.heap.size = w.heap.size + 3) (h5 : Below w3.heap.size w3 w5) (hd : IsFor w0 w5 w3.heap.size d ut) : After w0 w (w5.alloc (cbox d)) c d w5.heap.size ut := by
  have ha : Below w5.heap.size w5 (w5.alloc (cbox d)) := (Below.refl _ _).alloc (Nat.le_refl _) _
  have h6 := h5.trans (ha.mono h5.size)
  exact ⟨hb.trans (h6.mono hb.size), hc.up h6, zero_up hz h6, by have := h5.size; omega, Box7.new w5 d, hd.up (by omega) ha⟩
theorem after_two {w0 w w3 w5 : World} {c d : C} {ut : T} (hb : Below w.heap.size w w3) (hc : Box7 w3 w.heap.size c) (hz : Zero7 w3 (w.heap.size + 2)) (hk : Zero7 w3 (w.heap.size + 3)) (hs : w3.heap.size = w.heap.size + 4) (h5 : Below w3.heap.size w3 w5) (hd : IsFor w0 w5 w3.heap.size d ut) : After w0 w (put7 w5 (w.heap.size + 3) d) c d (w.heap.size + 3) ut := by
  have hb5 := hb.trans (h5.mono hb.size)
  refine ⟨below_put7 hb5 (by omega) d, ?_, ?_, Nat.le_refl _, (Box7.of_zero (zero_up hk h5)).put d, hd.step (by omega) (by rw [size_put7]; exact Nat.le_refl _) fun b hb' hl => heap_put7 (by omega)⟩
  · exact (heap_put7 (by omega)).trans (hc.up h5)
  · exact (heap_put7 (by omega)).trans (zero_up hz h5)

def RPutSays (w0 : World) (r : Option T) (w : World) (e : Ending) (w' : World) : Prop := ∃ d, e = .returned (.tuple #[cval d, .bool r.isSome]) ∧ IsFor w0 w' w.heap.size d (r.getD zT) ∧ Below w.heap.size w w'

theorem rput_some {w0 w WA : World} {z : C} {r : Option T} {t' : T} {e : Ending} (hr : r = some t') (he : e = .returned (.tuple #[cval z, .bool true])) (hb : Below w.heap.size w WA) (hd : IsFor w0 WA (w.heap.size + 3) z t') : RPutSays w0 r w e (put7 WA (w.heap.size + 2) z) := by
  subst hr
  exact ⟨z, he, hd.step (by omega) (by rw [size_put7]; exact Nat.le_refl _) fun b hb hl => heap_put7 (by omega), below_put7 hb (by omega) z⟩

set_option maxRecDepth 100000 in
set_option maxHeartbeats 4000000 in
theorem rput_any (w0 : World) (kt : T) (kc : C) (hkt : Is w0 kc kt) (p : List Int) : ∀ (t : T) (c : C) (v : Value) (w : World), Is w0 c t → Below w0.heap.size w0 w → Path w0 v p → p.length ≤ 1000000 → Calls Tryz.prog 24 #[cval c, cval kc, v] w (RPutSays w0 (putT kt t p) w) := by
  have HKT := Lib.hid hkt
  clear hkt
  induction p with
  | nil =>
    intro t c v w hi hb0 hp _
    obtain ⟨a, cap, rfl, -⟩ := hp.cap
    clear hi hb0 hp
    have e0 : ((0 : Int) == 0) = true := rfl
    have HB := Lib.hid (rput_below w c kc)
    have HZ := Lib.hid (rput_zero w c kc)
    go_enter Tryz.func24, Tryz.ntmps24
    go_wp2
    (try simp only [Exit.inBlock, Exit.then])
    refine bodyPost_ret (results_cell2 rfl _ _ (w.heap.size + 2) kc rfl (by have := Box7.new ((w.alloc (cbox c)).alloc (cbox kc)) kc; simpa using this)) rfl ?_
    exact ⟨kc, rfl, .of HKT.out, (((Below.refl _ _).alloc (Nat.le_refl _) _).alloc (by simp) _).alloc (by simp; omega) _⟩
  | cons k p ih =>
    intro t c v w hi hb0 hp hl
    obtain ⟨a, cap, rfl, hcap⟩ := hp.cap
    obtain ⟨pb, po, rfl, hpf⟩ := int_at hp.row (by simp)
    have hp0 := hpf 0 k rfl
    have c0 := (hb0.cell (lt_of_cell hp0)).trans hp0
    rw [Nat.add_zero] at c0
    clear hpf hp0
    have HIH := Lib.hid ih
    have HP := Lib.hid hp
    have HB0 := Lib.hid hb0
    have HI := Lib.hid hi
    have hn := hi.n
    clear ih hp hb0 hi
    obtain ⟨ck, cr, cid, ca, cn, ccap⟩ := c
    simp only at hn
    subst hn
    have hlp : (k :: p).length = p.length + 1 := rfl
    rw [hlp] at hcap hl
    have d0 : (((p.length : Int) + 1) == 0) = false := by rw [beq_eq_false_iff_ne]; omega
    have B1 := Lib.hid (rput_below w ⟨ck, cr, cid, ca, t.kids.length, ccap⟩ kc)
    have C1 := Lib.hid (rput_fst w ⟨ck, cr, cid, ca, t.kids.length, ccap⟩ kc)
    have K1 := Lib.hid (rput_snd w ⟨ck, cr, cid, ca, t.kids.length, ccap⟩ kc)
    have Z1 := Lib.hid (rput_zero w ⟨ck, cr, cid, ca, t.kids.length, ccap⟩ kc)
    have hs1 : Hid ((rputW w ⟨ck, cr, cid, ca, t.kids.length, ccap⟩ kc).heap.size = w.heap.size + 3) := Lib.hid (by simp)
    have hpl : pb < w.heap.size := lt_of_cell c0
    replace c0 := (B1.out.cell hpl).trans c0
    go_enter Tryz.func24, Tryz.ntmps24
    go_wp2
    change Code.wp _ _ _ _ (rputW w ⟨ck, cr, cid, ca, t.kids.length, ccap⟩ kc)
    generalize rputW w ⟨ck, cr, cid, ca, t.kids.length, ccap⟩ kc = W1 at B1 C1 K1 Z1 hs1 c0 ⊢
    have c6 := C1.out.cat.2.2.2.2.2.2
    simp only [Nat.zero_add] at c6
    cases hk : kidAt t k with
    | none =>
      have hro : putT kt t (k :: p) = none := by rw [putT, hk]
      have HRO := Lib.hid hro
      have hkn := kid_none hk
      clear hk hro
      by_cases h0 : k < 0
      · have g0 : decide (k < 0) = true := decide_eq_true h0
        go_quiet (fail)
        have Z2 : Hid (Zero7 (W1.drewN nq) (w.heap.size + 2)) := Lib.hid Z1.out
        have B2 : Hid (Below w.heap.size w (W1.drewN nq)) := Lib.hid ⟨B1.out.os, B1.out.tape, B1.out.output, B1.out.size, B1.out.block⟩
        generalize W1.drewN nq = W2 at Z2 B2 ⊢
        obtain ⟨⟨z0, z1, z2, z3, z4, z5, z6⟩, f0, f1, f2, f3, f4, f5, f6⟩ := zero_parts Z2.out
        go_wp2
        (try simp only [Exit.inBlock, Exit.then])
        refine bodyPost_ret (results_cell2 rfl _ (put7 W2 (w.heap.size + 2) zC) (w.heap.size + 2) zC rfl ((Box7.of_zero Z2.out).put zC)) rfl ?_
        exact ⟨zC, by rw [HRO.out]; rfl, by rw [HRO.out]; exact .zero, below_put7 B2.out (show w.heap.size ≤ w.heap.size + 2 by omega) zC⟩
      · have g0 : decide (k < 0) = false := decide_eq_false h0
        have g1 : decide ((t.kids.length : Int) ≤ k) = true := decide_eq_true (by omega)
        go_quiet (fail)
        have Z2 : Hid (Zero7 (W1.drewN nq) (w.heap.size + 2)) := Lib.hid Z1.out
        have B2 : Hid (Below w.heap.size w (W1.drewN nq)) := Lib.hid ⟨B1.out.os, B1.out.tape, B1.out.output, B1.out.size, B1.out.block⟩
        generalize W1.drewN nq = W2 at Z2 B2 ⊢
        obtain ⟨⟨z0, z1, z2, z3, z4, z5, z6⟩, f0, f1, f2, f3, f4, f5, f6⟩ := zero_parts Z2.out
        go_wp2
        (try simp only [Exit.inBlock, Exit.then])
        refine bodyPost_ret (results_cell2 rfl _ (put7 W2 (w.heap.size + 2) zC) (w.heap.size + 2) zC rfl ((Box7.of_zero Z2.out).put zC)) rfl ?_
        exact ⟨zC, by rw [HRO.out]; rfl, by rw [HRO.out]; exact .zero, below_put7 B2.out (show w.heap.size ≤ w.heap.size + 2 by omega) zC⟩
    | some u =>
      obtain ⟨j, rfl, hj⟩ := kid_some hk
      have hjl : j < t.kids.length := (List.getElem?_eq_some_iff.1 hj).1
      obtain ⟨bb, o, rfl, hf⟩ := HI.out.row.place (by omega)
      obtain ⟨y, hy, hiy⟩ := hf j u hj
      clear hf hj
      have hb01 := HB0.out.trans (B1.out.mono HB0.out.size)
      obtain ⟨e0, e1, e2, e3, e4, e5, e6⟩ := hy.up hb01
      have hbl : bb < w.heap.size := by have := lt_of_cell (hy.up HB0.out).1; simpa using this
      have HY := Lib.hid hiy
      clear hy hiy
      have g0 : decide ((j : Int) < 0) = false := decide_eq_false (by omega)
      have g1 : decide ((t.kids.length : Int) ≤ (j : Int)) = false := decide_eq_false (by omega)
      have g2 : decide (t.kids.length ≤ j) = false := decide_eq_false (by omega)
      obtain ⟨A, hA⟩ : ∃ A : Addr, (if cap = 1 then some ⟨pb, po, none⟩ else some ⟨pb, po + 1, none⟩ : Option Addr) = some A := by split <;> exact ⟨_, rfl⟩
      have hpt := path_if HP.out hcap
      rw [hA] at hpt
      have HPT := Lib.hid hpt
      clear hpt
      have HK := Lib.hid (fun W hbW => HIH.out u y _ W HY.out hbW HPT.out (by omega))
      have hro : putT kt t ((j : Int) :: p) = (putT kt u p).map (setKid t j) := by
        rw [putT, hk]
        dsimp only
        cases putT kt u p <;> rfl
      have HRO := Lib.hid hro
      clear hk hro
      generalize putT kt u p = ro at HK HRO
      have k7 := K1.out.cat
      simp only [CAt, Nat.zero_add] at k7
      obtain ⟨k0, k1, k2, k3, k4, k5, k6⟩ := k7
      have X1 : Hid (Held w.heap.size (.slice (some ⟨bb, o, none⟩) t.kids.length ccap) (.int .i64 (j : Int)) pb po bb (o + j * 7) y kc W1) := Lib.hid ⟨c6, c0, e0, e1, e2, e3, e4, e5, e6, k0, k1, k2, k3, k4, k5, k6⟩
      clear k0 k1 k2 k3 k4 k5 k6 e0 e1 e2 e3 e4 e5 e6
      go_quiet (fail)
      have B2 : Hid (Below w.heap.size w (W1.drewN nq)) := Lib.hid ⟨B1.out.os, B1.out.tape, B1.out.output, B1.out.size, B1.out.block⟩
      have C2 : Hid (Box7 (W1.drewN nq) w.heap.size ⟨ck, cr, cid, some ⟨bb, o, none⟩, t.kids.length, ccap⟩) := Lib.hid C1.out
      have Z2 : Hid (Zero7 (W1.drewN nq) (w.heap.size + 2)) := Lib.hid Z1.out
      have X2 : Hid (Held w.heap.size (.slice (some ⟨bb, o, none⟩) t.kids.length ccap) (.int .i64 (j : Int)) pb po bb (o + j * 7) y kc (W1.drewN nq)) := Lib.hid X1.out
      have hs2 : Hid ((W1.drewN nq).heap.size = w.heap.size + 3) := Lib.hid hs1.out
      clear c0 c6 X1 B1 C1 K1 Z1 hs1 hb01
      generalize W1.drewN nq = W2 at B2 C2 Z2 X2 hs2 ⊢
      go_wp2
      have B3 : Hid (Below w.heap.size w W2.drew) := Lib.hid B2.out.drew
      have C3 : Hid (Box7 W2.drew w.heap.size ⟨ck, cr, cid, some ⟨bb, o, none⟩, t.kids.length, ccap⟩) := Lib.hid C2.out
      have Z3 : Hid (Zero7 W2.drew (w.heap.size + 2)) := Lib.hid Z2.out
      have X3 : Hid (Held w.heap.size (.slice (some ⟨bb, o, none⟩) t.kids.length ccap) (.int .i64 (j : Int)) pb po bb (o + j * 7) y kc W2.drew) := Lib.hid X2.out
      have hs3 : Hid (W2.drew.heap.size = w.heap.size + 3) := Lib.hid hs2.out
      have l1 : (1 : Int) ≤ (p.length : Int) + 1 := by omega
      have l2 : (p.length : Int) + 1 ≤ (cap : Int) := by omega
      have BZ : Hid (Below w.heap.size w (W2.alloc zeroBox).drew) := Lib.hid (B2.out.alloc B2.out.size _).drew
      have CZ : Hid (Box7 (W2.alloc zeroBox).drew w.heap.size ⟨ck, cr, cid, some ⟨bb, o, none⟩, t.kids.length, ccap⟩) := Lib.hid (C2.out.up ((Below.refl _ _).alloc (Nat.le_refl _) zeroBox).drew)
      have ZZ : Hid (Zero7 (W2.alloc zeroBox).drew (w.heap.size + 2)) := Lib.hid (zero_up Z2.out ((Below.refl _ _).alloc (Nat.le_refl _) zeroBox).drew)
      have XZ : Hid (Held w.heap.size (.slice (some ⟨bb, o, none⟩) t.kids.length ccap) (.int .i64 (j : Int)) pb po bb (o + j * 7) y kc (W2.alloc zeroBox).drew) := Lib.hid (Held.alloc (o := zeroBox) X2.out)
      have KZ : Hid (Zero7 (W2.alloc zeroBox).drew (w.heap.size + 3)) := Lib.hid (by have := zero_new W2; rw [hs2.out] at this; exact this)
      have hsZ : Hid ((W2.alloc zeroBox).drew.heap.size = w.heap.size + 4) := Lib.hid (by have : (W2.alloc zeroBox).heap.size = W2.heap.size + 1 := (by simp); rw [hs2.out] at this; exact this)
      have hszr := hs2.out
      go_region_held3 (fun W => W.cell? ⟨w.heap.size, 6, none⟩ = some (.slice (some ⟨bb, o, none⟩) t.kids.length ccap) ∧ W.cell? ⟨pb, po, none⟩ = some (.int .i64 (j : Int)) ∧ W.cell? ⟨bb, o + j * 7, none⟩ = some (.int .u8 y.k) ∧ W.cell? ⟨bb, o + j * 7 + 1, none⟩ = some (.int .i64 y.r.x) ∧ W.cell? ⟨bb, o + j * 7 + 2, none⟩ = some (.int .i64 y.r.y) ∧ W.cell? ⟨bb, o + j * 7 + 3, none⟩ = some (.int .i64 y.r.w) ∧ W.cell? ⟨bb, o + j * 7 + 4, none⟩ = some (.int .i64 y.r.h) ∧ W.cell? ⟨bb, o + j * 7 + 5, none⟩ = some (.int .i64 y.id) ∧ W.cell? ⟨bb, o + j * 7 + 6, none⟩ = some (.slice y.a y.n y.cap) ∧ W.cell? ⟨w.heap.size + 1, 0, none⟩ = some (.int .u8 kc.k) ∧ W.cell? ⟨w.heap.size + 1, 1, none⟩ = some (.int .i64 kc.r.x) ∧ W.cell? ⟨w.heap.size + 1, 2, none⟩ = some (.int .i64 kc.r.y) ∧ W.cell? ⟨w.heap.size + 1, 3, none⟩ = some (.int .i64 kc.r.w) ∧ W.cell? ⟨w.heap.size + 1, 4, none⟩ = some (.int .i64 kc.r.h) ∧ W.cell? ⟨w.heap.size + 1, 5, none⟩ = some (.int .i64 kc.id) ∧ W.cell? ⟨w.heap.size + 1, 6, none⟩ = some (.slice kc.a kc.n kc.cap)) (first | with_reducible exact X3.out | with_reducible exact XZ.out | with_reducible exact X5.out | with_reducible exact Held.alloc X5.out | with_reducible exact Held.put X5.out n1 n2 n3 n4)
        (first
          | (go_at_call 24; (with_reducible refine (HK.out W2.drew (HB0.out.trans (B3.out.mono HB0.out.size))).mono ?_); rintro e w5 ⟨d, rfl, hd, hb5⟩; have HD := Lib.hid hd; have H5 := Lib.hid hb5; have X5 := Lib.hid (X3.out.up hb5); have NO := Lib.hid True.intro; clear hd hb5)
          | (go_at_call 24; (with_reducible refine (HK.out (W2.alloc zeroBox).drew (HB0.out.trans (BZ.out.mono HB0.out.size))).mono ?_); rintro e w5 ⟨d, rfl, hd, hb5⟩; have HD := Lib.hid hd; have H5 := Lib.hid hb5; have X5 := Lib.hid (XZ.out.up hb5); have Z5 := Lib.hid (zero_up KZ.out hb5); obtain ⟨⟨z0, z1, z2, z3, z4, z5, z6⟩, f0, f1, f2, f3, f4, f5, f6⟩ := zero_parts Z5.out; have n1 : w.heap.size ≠ w.heap.size + 3 := (by omega); have n2 : w.heap.size + 1 ≠ w.heap.size + 3 := (by omega); have n3 : pb ≠ w.heap.size + 3 := (by omega); have n4 : bb ≠ w.heap.size + 3 := (by omega); clear hd hb5))
      all_goals first
        | (have P := Lib.hid (after_two BZ.out CZ.out ZZ.out KZ.out hsZ.out H5.out HD.out); have Z5' := Z5; change Exit.then _ _ _ _ (put7 w5 (w.heap.size + 3) d); clear z0 z1 z2 z3 z4 z5 z6 f0 f1 f2 f3 f4 f5 f6 Z5 Z5'; generalize hbk : w.heap.size + 3 = bk; rw [hbk] at P; generalize put7 w5 bk d = W6 at P ⊢)
        | (have P := Lib.hid (after_one B3.out C3.out Z3.out hs3.out H5.out HD.out); change Exit.then _ _ _ _ (w5.alloc (cbox d)); generalize w5.alloc (cbox d) = W6 at P ⊢; generalize w5.heap.size = bk at P ⊢)
      all_goals
        clear X3 XZ BZ CZ ZZ KZ hsZ B3 C3 Z3 hs3 X5 H5 HD B2 C2 Z2 X2 hs2 hszr
        have hcp : W6.cell? ⟨pb, po, none⟩ = some (.int .i64 (j : Int)) := by
          obtain ⟨b', o', he, hf⟩ := int_at HP.out.row (by simp)
          cases he
          have h0 := hf 0 _ rfl
          have h1 := ((HB0.out.trans (P.out.below.mono HB0.out.size)).cell (lt_of_cell h0)).trans h0
          rw [Nat.add_zero] at h1
          exact h1
        have HCP := Lib.hid hcp
        clear hcp
        cases ro with
        | none =>
          obtain ⟨⟨z0, z1, z2, z3, z4, z5, z6⟩, f0, f1, f2, f3, f4, f5, f6⟩ := zero_parts P.out.zero
          have si : (none : Option T).isSome = false := rfl
          go_wp2
          (try simp only [Exit.inBlock, Exit.then])
          refine bodyPost_ret (results_cell2 rfl _ (put7 W6 (w.heap.size + 2) zC) (w.heap.size + 2) zC rfl ((Box7.of_zero P.out.zero).put zC)) rfl ?_
          exact ⟨zC, by rw [HRO.out]; rfl, by rw [HRO.out]; exact .zero, below_put7 P.out.below (show w.heap.size ≤ w.heap.size + 2 by omega) zC⟩
        | some u' =>
          have si : (some u' : Option T).isSome = true := rfl
          obtain ⟨t1, t2, t3, tf, cs, trow, tlen, -, teach⟩ := HI.out.split
          have HB6 := Lib.hid (HB0.out.trans (P.out.below.mono HB0.out.size))
          have TE := Lib.hid teach
          have TF := Lib.hid tf
          have TL := Lib.hid tlen
          have TR := Lib.hid ((trow.up HB6.out).up ((Below.refl _ _).alloc (Nat.le_refl _) (.cells #[] 26)))
          have q6 := (P.out.top.up ((Below.refl _ _).alloc (Nat.le_refl _) (.cells #[] 26))).cat.2.2.2.2.2.2
          simp only [Nat.zero_add] at q6
          have HSP : Hid (w.heap.size < W6.heap.size) := Lib.hid (by have := lt_of_block P.out.top; exact this)
          have hq : w.heap.size ≠ W6.heap.size := by have := HSP.out; omega
          clear t1 t2 t3 tf trow tlen teach
          go_wp2_with (at_builtin; refine wpList_append_cells rfl _ _ rfl W6.heap.size _ _ [] cs rfl (OwnC.empty W6 W6.heap.size (Nat.le_refl _)) rfl TR.out (by have := TL.out; omega) (by have := TL.out; have := TF.out.2.2.2; simp at this ⊢; omega) W6 ((Below.refl _ _).alloc (Nat.le_refl _) _) (Nat.le_refl _) ?_; intro g cap3 w8 hown8 hb8 hgr8 hpl8)
          rw [List.nil_append] at hown8
          rw [TL.out] at hown8 ⊢
          have HO8 := Lib.hid hown8
          have HB8 := Lib.hid hb8
          have hgl := own_block hown8 (g := g) rfl
          have HGL := Lib.hid hgl
          obtain ⟨curg, hcurg⟩ : ∃ curg, w8.heap[g]? = some (.cells curg 26 (0, 0)) := by
            rcases hown8.2 with ⟨h0, -⟩ | ⟨g', cap', cur', he, _, hgg, _⟩
            · cases h0
            · have e : g = g' := by injection he with e1 e2 e3; injection e1 with e1; injection e1
              subst e; exact ⟨cur', hgg⟩
          have hjc : j < cs.length := by rw [TL.out]; exact hjl
          have hcat : CAt w8 g (j * 7) cs[j] := cat_of_flat (hown8.cells (g := g) rfl) j _ (List.getElem?_eq_getElem hjc)
          obtain ⟨s0, s1, s2, s3, s4, s5, s6⟩ := hcat
          have f0 := free_of_block' hcurg (j * 7)
          have f1 := free_of_block' hcurg (j * 7 + 1)
          have f2 := free_of_block' hcurg (j * 7 + 2)
          have f3 := free_of_block' hcurg (j * 7 + 3)
          have f4 := free_of_block' hcurg (j * 7 + 4)
          have f5 := free_of_block' hcurg (j * 7 + 5)
          have f6 := free_of_block' hcurg (j * 7 + 6)
          have HCG := Lib.hid hcurg
          have c0 := (hb8.cell (lt_of_cell HCP.out)).trans HCP.out
          obtain ⟨d0, d1, d2, d3, d4, d5, d6⟩ := (P.out.box.up hb8).cat
          simp only [Nat.zero_add] at d1 d2 d3 d4 d5 d6
          clear hown8 hb8 hgr8 hpl8 hcurg q6
          go_region
          clear s0 s1 s2 s3 s4 s5 s6 f0 f1 f2 f3 f4 f5 f6 c0 d0 d1 d2 d3 d4 d5 d6
          have H63 : Hid (w.heap.size + 3 ≤ W6.heap.size) := Lib.hid (by have := lt_of_block P.out.box; have := P.out.ge; omega)
          have HG6 : Hid (W6.heap.size ≤ g) := Lib.hid HGL.out.1
          have B9 : Hid (Below w.heap.size w (putO w8 g (j * 7) d)) := Lib.hid (below_putO' (P.out.below.trans (HB8.out.mono P.out.below.size)) (by have := HG6.out; have := H63.out; omega) (j * 7) d)
          have C9 : Hid (Box7 (putO w8 g (j * 7) d) w.heap.size ⟨ck, cr, cid, some ⟨bb, o, none⟩, t.kids.length, ccap⟩) := Lib.hid ((putO_other (show w.heap.size ≠ g by have := HG6.out; have := H63.out; omega)).trans (P.out.top.up HB8.out))
          have Z9 : Hid (Zero7 (putO w8 g (j * 7) d) (w.heap.size + 2)) := Lib.hid ((putO_other (show w.heap.size + 2 ≠ g by have := HG6.out; have := H63.out; omega)).trans (zero_up P.out.zero HB8.out))
          have O9 : Hid (OwnC (putO w8 g (j * 7) d) (w.heap.size + 3) (.slice (some ⟨g, 0, none⟩) t.kids.length cap3) (cs.set j d)) := Lib.hid ((own_put HO8.out hjc rfl).lower H63.out)
          have D9 : Hid (IsFor w0 (putO w8 g (j * 7) d) (w.heap.size + 3) d u') := Lib.hid (P.out.ans.step (Nat.le_refl _) (by rw [size_putO']; exact HB8.out.size) fun b _ hl => (putO_other (show b ≠ g by have := HG6.out; omega)).trans (HB8.out.block b hl))
          change Exit.then _ _ _ _ (putO w8 g (j * 7) d).drew
          generalize putO w8 g (j * 7) d = Y at B9 C9 Z9 O9 D9 ⊢
          replace B9 : Hid (Below w.heap.size w Y.drew) := Lib.hid B9.out.drew
          replace C9 : Hid (Box7 Y.drew w.heap.size ⟨ck, cr, cid, some ⟨bb, o, none⟩, t.kids.length, ccap⟩) := Lib.hid C9.out
          replace Z9 : Hid (Zero7 Y.drew (w.heap.size + 2)) := Lib.hid Z9.out
          replace O9 : Hid (OwnC Y.drew (w.heap.size + 3) (.slice (some ⟨g, 0, none⟩) t.kids.length cap3) (cs.set j d)) := Lib.hid (ownC_kept O9.out fun _ _ => rfl)
          replace D9 : Hid (IsFor w0 Y.drew (w.heap.size + 3) d u') := Lib.hid (D9.out.step (Nat.le_refl _) (Nat.le_refl _) fun _ _ _ => rfl)
          generalize Y.drew = W9 at B9 C9 Z9 O9 D9 ⊢
          obtain ⟨c0, c1, c2, c3, c4, c5, c6⟩ := C9.out.cat
          simp only [Nat.zero_add] at c1 c2 c3 c4 c5 c6
          have f6 := C9.out.free 6
          obtain ⟨⟨z0, z1, z2, z3, z4, z5, z6⟩, y0, y1, y2, y3, y4, y5, y6⟩ := zero_parts Z9.out
          have D10 := Lib.hid (isFor_set HI.out O9.out TL.out hjl TE.out D9.out TF.out)
          clear HIH HK HP HB0 HI HKT P HCP HB6 TE TF TL TR HSP hq HO8 HB8 hgl HGL HCG H63 HG6 D9 O9 HY HPT
          go_upto_region 11 with fail
          have hne : w.heap.size + 2 ≠ w.heap.size := by omega
          have CA := Lib.hid (C9.out.kids (some ⟨g, 0, none⟩) t.kids.length cap3)
          have ZA : Hid (Zero7 (W9.setCell ⟨w.heap.size, 6, none⟩ (.slice (some ⟨g, 0, none⟩) t.kids.length cap3)) (w.heap.size + 2)) := Lib.hid ((Below.heap_setCell _ ⟨w.heap.size, 6, none⟩ _ _ hne).trans Z9.out)
          have BA : Hid (Below w.heap.size w (W9.setCell ⟨w.heap.size, 6, none⟩ (.slice (some ⟨g, 0, none⟩) t.kids.length cap3))) := Lib.hid (B9.out.setCell (Nat.le_refl _) _)
          have DA : Hid (IsFor w0 (W9.setCell ⟨w.heap.size, 6, none⟩ (.slice (some ⟨g, 0, none⟩) t.kids.length cap3)) (w.heap.size + 3) ⟨ck, cr, cid, some ⟨g, 0, none⟩, t.kids.length, cap3⟩ (setKid t j u')) := Lib.hid (D10.out.step (Nat.le_refl _) (by simp [World.setCell]) fun b hb hl => Below.heap_setCell _ ⟨w.heap.size, 6, none⟩ _ _ (by simp only; omega))
          change Code.wp _ _ _ _ (W9.setCell ⟨w.heap.size, 6, none⟩ (.slice (some ⟨g, 0, none⟩) t.kids.length cap3))
          generalize W9.setCell ⟨w.heap.size, 6, none⟩ (.slice (some ⟨g, 0, none⟩) t.kids.length cap3) = WA at CA ZA BA DA ⊢
          clear c0 c1 c2 c3 c4 c5 c6 f6 z0 z1 z2 z3 z4 z5 z6 y0 y1 y2 y3 y4 y5 y6 C9 Z9 B9 D10 hne
          obtain ⟨c0, c1, c2, c3, c4, c5, c6⟩ := CA.out.cat
          simp only [Nat.zero_add] at c1 c2 c3 c4 c5 c6
          obtain ⟨⟨z0, z1, z2, z3, z4, z5, z6⟩, y0, y1, y2, y3, y4, y5, y6⟩ := zero_parts ZA.out
          go_wp2
          (try simp only [Exit.inBlock, Exit.then])
          have BF : Hid (Box7 (put7 WA (w.heap.size + 1 + 1) ⟨ck, cr, cid, some ⟨g, 0, none⟩, t.kids.length, cap3⟩) (w.heap.size + 1 + 1) ⟨ck, cr, cid, some ⟨g, 0, none⟩, t.kids.length, cap3⟩) := Lib.hid ((Box7.of_zero ZA.out).put ⟨ck, cr, cid, some ⟨g, 0, none⟩, t.kids.length, cap3⟩)
          have SF : Hid (RPutSays w0 (putT kt t ((j : Int) :: p)) w (.returned (.tuple #[cval ⟨ck, cr, cid, some ⟨g, 0, none⟩, t.kids.length, cap3⟩, .bool true])) (put7 WA (w.heap.size + 1 + 1) ⟨ck, cr, cid, some ⟨g, 0, none⟩, t.kids.length, cap3⟩)) := Lib.hid (rput_some HRO.out rfl BA.out DA.out)
          change bodyPost _ _ _ _ _ (put7 WA (w.heap.size + 1 + 1) ⟨ck, cr, cid, some ⟨g, 0, none⟩, t.kids.length, cap3⟩)
          generalize put7 WA (w.heap.size + 1 + 1) ⟨ck, cr, cid, some ⟨g, 0, none⟩, t.kids.length, cap3⟩ = WF at BF SF ⊢
          refine bodyPost_ret (results_cell2 rfl _ WF (w.heap.size + 1 + 1) ⟨ck, cr, cid, some ⟨g, 0, none⟩, t.kids.length, cap3⟩ rfl BF.out) rfl ?_
          obtain ⟨z', he, h1, h2⟩ := SF.out
          refine ⟨z', Eq.trans ?_ he, h1, h2⟩
          rfl
end Go.Proofs.YtcdiogifgemjbaaGreat
