/- The law CellSame. -/
import Derived.Test.YtoiologdaflnmaaAwake
import Derived.Test.YtoiologdaflnmaaSameB
namespace Go.Proofs.Ytoiologdaflnmaa
open Go.RowKit

abbrev Three (w : World) (c d : C) (r : R) (W : World) : Prop := W.cell? ⟨w.heap.size, 0, none⟩ = some (.int .u8 c.k) ∧ W.cell? ⟨w.heap.size, 1, none⟩ = some (.int .i64 c.r.x) ∧ W.cell? ⟨w.heap.size, 2, none⟩ = some (.int .i64 c.r.y) ∧ W.cell? ⟨w.heap.size, 3, none⟩ = some (.int .i64 c.r.w) ∧ W.cell? ⟨w.heap.size, 4, none⟩ = some (.int .i64 c.r.h) ∧ W.cell? ⟨w.heap.size, 5, none⟩ = some (.int .i64 c.id) ∧ W.cell? ⟨w.heap.size, 6, none⟩ = some (.slice c.a c.n c.cap) ∧ W.cell? ⟨w.heap.size + 1, 0, none⟩ = some (.int .u8 d.k) ∧ W.cell? ⟨w.heap.size + 1, 1, none⟩ = some (.int .i64 d.r.x) ∧ W.cell? ⟨w.heap.size + 1, 2, none⟩ = some (.int .i64 d.r.y) ∧ W.cell? ⟨w.heap.size + 1, 3, none⟩ = some (.int .i64 d.r.w) ∧ W.cell? ⟨w.heap.size + 1, 4, none⟩ = some (.int .i64 d.r.h) ∧ W.cell? ⟨w.heap.size + 1, 5, none⟩ = some (.int .i64 d.id) ∧ W.cell? ⟨w.heap.size + 1, 6, none⟩ = some (.slice d.a d.n d.cap) ∧ W.cell? ⟨w.heap.size + 2, 0, none⟩ = some (.int .i64 r.x) ∧ W.cell? ⟨w.heap.size + 2, 1, none⟩ = some (.int .i64 r.y) ∧ W.cell? ⟨w.heap.size + 2, 2, none⟩ = some (.int .i64 r.w) ∧ W.cell? ⟨w.heap.size + 2, 3, none⟩ = some (.int .i64 r.h)
theorem Three.up {w : World} {c d : C} {r : R} {W W' : World} (h : Three w c d r W) (hb : Below W.heap.size W W') : Three w c d r W' := by
  obtain ⟨h0, h1, h2, h3, h4, h5, h6, h7, h8, h9, h10, h11, h12, h13, h14, h15, h16, h17⟩ := h
  exact ⟨(hb.cell (lt_of_cell h0)).trans h0, (hb.cell (lt_of_cell h1)).trans h1, (hb.cell (lt_of_cell h2)).trans h2, (hb.cell (lt_of_cell h3)).trans h3, (hb.cell (lt_of_cell h4)).trans h4, (hb.cell (lt_of_cell h5)).trans h5, (hb.cell (lt_of_cell h6)).trans h6, (hb.cell (lt_of_cell h7)).trans h7, (hb.cell (lt_of_cell h8)).trans h8, (hb.cell (lt_of_cell h9)).trans h9, (hb.cell (lt_of_cell h10)).trans h10, (hb.cell (lt_of_cell h11)).trans h11, (hb.cell (lt_of_cell h12)).trans h12, (hb.cell (lt_of_cell h13)).trans h13, (hb.cell (lt_of_cell h14)).trans h14, (hb.cell (lt_of_cell h15)).trans h15, (hb.cell (lt_of_cell h16)).trans h16, (hb.cell (lt_of_cell h17)).trans h17⟩
abbrev threeW (w : World) (c d : C) (r : R) : World := ((w.alloc (cbox c)).alloc (cbox d)).alloc (.cells #[.int .i64 r.x, .int .i64 r.y, .int .i64 r.w, .int .i64 r.h] 27)
theorem three_new (w : World) (c d : C) (r : R) : Three w c d r (threeW w c d r) := by
  have al : ∀ (x : World) (o : Obj), Below x.heap.size x (x.alloc o) := fun x o => (Below.refl _ _).alloc (Nat.le_refl _) _
  obtain ⟨h0, h1, h2, h3, h4, h5, h6⟩ := ((cbox_new w c).up (al _ (cbox d))).up (al _ (box r))
  obtain ⟨k0, k1, k2, k3, k4, k5, k6⟩ := (cbox_new (w.alloc (cbox c)) d).up (al _ (box r))
  obtain ⟨r0, r1, r2, r3⟩ := rat_new ((w.alloc (cbox c)).alloc (cbox d)) r
  have e1 : (w.alloc (cbox c)).heap.size = w.heap.size + 1 := by simp
  have e2 : ((w.alloc (cbox c)).alloc (cbox d)).heap.size = w.heap.size + 2 := by simp
  rw [e1] at k0 k1 k2 k3 k4 k5 k6
  rw [e2] at r0 r1 r2 r3
  exact ⟨h0, h1, h2, h3, h4, h5, h6, k0, k1, k2, k3, k4, k5, k6, r0, r1, r2, r3⟩

theorem sameT_comm (a b : T) : sameT b a = sameT a b := by
  rw [Bool.eq_iff_iff, sameT_iff, sameT_iff]; exact ⟨Eq.symm, Eq.symm⟩
theorem sameT_self (a : T) : sameT a a = true := (sameT_iff a a).2 rfl
theorem leaf_sz {r : R} {id : Int} : sz (.node 1 r id []) ≤ 1 := by simp [sz, szL]
theorem bool_eq (b : Bool) : (b == b) = true := by cases b <;> rfl

set_option maxRecDepth 100000 in
set_option maxHeartbeats 4000000 in
theorem cellSame_any (t u : T) (c d : C) (r : R) (id : Int) (w : World) (hc : Is w c t) (hd : Is w d u) (hr : r.fits) (hid : fits id) :
    Calls Try.prog 7 #[cval c, cval d, val r, .int .i64 id] w fun e w' => e = .returned (.bool true) ∧ Below w.heap.size w w' := by
  have B0 : Hid (Below w.heap.size w (threeW w c d r)) := (((Below.refl _ _).alloc (Nat.le_refl _) _).alloc (by simp) _).alloc (by simp; omega) _
  have S0 := Lib.hid (three_new w c d r)
  have HC := Lib.hid hc
  have HD := Lib.hid hd
  have HR := Lib.hid hr
  have HID := Lib.hid hid
  have HG1 := Lib.hid (great_any t c (threeW w c d r) (hc.up B0.out))
  clear hc hd hr hid
  go_enter Try.func7, Try.ntmps7
  go_wp2_with fail
  refine HG1.out.mono ?_
  rintro e w1 ⟨g1, rfl, -, hb1⟩
  have B1 := Lib.hid (B0.out.trans (hb1.mono B0.out.size))
  have S1 := Lib.hid (S0.out.up hb1)
  clear hb1
  cases g1 with
  | true =>
    go_wp2_with fail
    refine (awake_any w1).mono ?_
    rintro e w2 ⟨rfl, hb2⟩
    have B2 := Lib.hid (B1.out.trans (hb2.mono B1.out.size))
    clear hb2
    go_wp2
    go_ret
    exact ⟨rfl, B2.out⟩
  | false =>
    obtain ⟨h0, h1, h2, h3, h4, h5, h6, h7, h8, h9, h10, h11, h12, h13, h14, h15, h16, h17⟩ := S1.out
    have HG2 := Lib.hid (great_any u d w1 (HD.out.up B1.out))
    go_wp2_with fail
    refine HG2.out.mono ?_
    rintro e w2 ⟨g2, rfl, -, hb2⟩
    have B2 := Lib.hid (B1.out.trans (hb2.mono B1.out.size))
    have S2 := Lib.hid (S1.out.up hb2)
    clear hb2 h0 h1 h2 h3 h4 h5 h6 h7 h8 h9 h10 h11 h12 h13 h14 h15 h16 h17
    cases g2 with
    | true =>
      go_wp2_with fail
      refine (awake_any w2).mono ?_
      rintro e w3 ⟨rfl, hb3⟩
      have B3 := Lib.hid (B2.out.trans (hb3.mono B2.out.size))
      clear hb3
      go_wp2
      go_ret
      exact ⟨rfl, B3.out⟩
    | false =>
      obtain ⟨h0, h1, h2, h3, h4, h5, h6, h7, h8, h9, h10, h11, h12, h13, h14, h15, h16, h17⟩ := S2.out
      have HK := Lib.hid (rsame_any (sz t) t u c d w2 (Nat.le_refl _) (HC.out.up B2.out) (HD.out.up B2.out))
      obtain ⟨sb, hsb⟩ : ∃ sb, sameT t u = sb := ⟨_, rfl⟩
      rw [hsb] at HK
      have HSB := Lib.hid hsb
      clear hsb
      go_wp2_with fail
      refine HK.out.mono ?_
      rintro e w3 ⟨rfl, hb3⟩
      have B3 := Lib.hid (B2.out.trans (hb3.mono B2.out.size)).drew
      have S3 : Hid (Three w c d r w3.drew) := S2.out.up hb3.drew
      clear hb3 h0 h1 h2 h3 h4 h5 h6 h7 h8 h9 h10 h11 h12 h13 h14 h15 h16 h17
      have hbb := bool_eq sb
      go_wp2_with fail
      go_region_held3 (fun W => W.cell? ⟨w.heap.size, 0, none⟩ = some (.int .u8 c.k) ∧ W.cell? ⟨w.heap.size, 1, none⟩ = some (.int .i64 c.r.x) ∧ W.cell? ⟨w.heap.size, 2, none⟩ = some (.int .i64 c.r.y) ∧ W.cell? ⟨w.heap.size, 3, none⟩ = some (.int .i64 c.r.w) ∧ W.cell? ⟨w.heap.size, 4, none⟩ = some (.int .i64 c.r.h) ∧ W.cell? ⟨w.heap.size, 5, none⟩ = some (.int .i64 c.id) ∧ W.cell? ⟨w.heap.size, 6, none⟩ = some (.slice c.a c.n c.cap) ∧ W.cell? ⟨w.heap.size + 1, 0, none⟩ = some (.int .u8 d.k) ∧ W.cell? ⟨w.heap.size + 1, 1, none⟩ = some (.int .i64 d.r.x) ∧ W.cell? ⟨w.heap.size + 1, 2, none⟩ = some (.int .i64 d.r.y) ∧ W.cell? ⟨w.heap.size + 1, 3, none⟩ = some (.int .i64 d.r.w) ∧ W.cell? ⟨w.heap.size + 1, 4, none⟩ = some (.int .i64 d.r.h) ∧ W.cell? ⟨w.heap.size + 1, 5, none⟩ = some (.int .i64 d.id) ∧ W.cell? ⟨w.heap.size + 1, 6, none⟩ = some (.slice d.a d.n d.cap) ∧ W.cell? ⟨w.heap.size + 2, 0, none⟩ = some (.int .i64 r.x) ∧ W.cell? ⟨w.heap.size + 2, 1, none⟩ = some (.int .i64 r.y) ∧ W.cell? ⟨w.heap.size + 2, 2, none⟩ = some (.int .i64 r.w) ∧ W.cell? ⟨w.heap.size + 2, 3, none⟩ = some (.int .i64 r.h)) (first | with_reducible exact S3.out | with_reducible exact S4.out | with_reducible exact S5.out | with_reducible exact S6.out | with_reducible exact S7.out | with_reducible exact S8.out | with_reducible exact S9.out)
        (first
          | (go_at_call 27; (with_reducible refine (same_any (sz t) t u c d w3.drew (Nat.le_refl _) (HC.out.up B3.out) (HD.out.up B3.out)).mono ?_); rw [HSB.out]; rintro e w4 ⟨rfl, hb4⟩; have B4 := Lib.hid (B3.out.trans (hb4.mono B3.out.size)); have S4 := Lib.hid (S3.out.up hb4); clear hb4)
          | (go_at_call 27; (with_reducible refine (same_any (sz u) u t d c w4 (Nat.le_refl _) (HD.out.up B4.out) (HC.out.up B4.out)).mono ?_); rw [sameT_comm, HSB.out]; rintro e w5 ⟨rfl, hb5⟩; have B5 := Lib.hid (B4.out.trans (hb5.mono B4.out.size)); have S5 := Lib.hid (S4.out.up hb5); clear hb5)
          | (go_at_call 27; (with_reducible refine (same_any (sz t) t t c c w5 (Nat.le_refl _) (HC.out.up B5.out) (HC.out.up B5.out)).mono ?_); rw [sameT_self]; rintro e w6 ⟨rfl, hb6⟩; have B6 := Lib.hid (B5.out.trans (hb6.mono B5.out.size)); have S6 := Lib.hid (S5.out.up hb6); clear hb6)
          | (go_at_call 28; (with_reducible refine (leaf_any r id w6).mono ?_); rintro e w7 ⟨rfl, hb7⟩; have B7 := Lib.hid (B6.out.trans (hb7.mono B6.out.size)); have S7 := Lib.hid (S6.out.up hb7); clear hb7)
          | (go_at_call 24; (with_reducible refine (rsame_any 1 (.node 1 r id []) (.node 1 r id []) (leafC r id) (leafC r id) w7 leaf_sz (leaf_is r id w7 HR.out HID.out) (leaf_is r id w7 HR.out HID.out)).mono ?_); rw [sameT_self]; rintro e w8 ⟨rfl, hb8⟩; have B8 := Lib.hid (B7.out.trans (hb8.mono B7.out.size)); have S8 := Lib.hid (S7.out.up hb8); clear hb8)
          | (go_at_call 9; (with_reducible refine (awake_any w8).mono ?_); rintro e w9 ⟨rfl, hb9⟩; have B9 := Lib.hid (B8.out.trans (hb9.mono B8.out.size)); have S9 := Lib.hid (S8.out.up hb9); clear hb9))
      go_wp2
      go_ret
      exact ⟨rfl, B9.out⟩

theorem cellSame_wf (v0 v1 v2 : Value) (t u : T) (c d : C) (r : R) (id : Int) (w : World) (e0 : v0 = cval c) (e1 : v1 = cval d) (e2 : v2 = val r) (hc : Is w c t) (hd : Is w d u) (hr : r.fits) (hid : fits id) :
    Calls Try.prog 7 #[v0, v1, v2, .int .i64 id] w fun e w' => e = .returned (.bool true) ∧ Below w.heap.size w w' := by
  subst e0; subst e1; subst e2
  exact cellSame_any t u c d r id w hc hd hr hid
end Go.Proofs.Ytoiologdaflnmaa
