/- The document's example. -/
import Derived.Test.YtibjpkicchdomaaFindA
import Derived.Test.YtibjpkicchdomaaMay
import Derived.Deep.RegionHeld3
namespace Go.Proofs.Ytibjpkicchdomaa
open Go.RowKit

abbrev exR : R := ⟨0, 0, 3, 1⟩
abbrev exT : T := .node 2 exR 0 [.node 1 exR 4 [], .node 1 exR 7 []]
abbrev exC (g : Nat) : C := ⟨2, exR, 0, some ⟨g, 0, none⟩, 2, 2⟩
abbrev exRow : Obj := .cells #[.int .u8 1, .int .i64 0, .int .i64 0, .int .i64 3, .int .i64 1, .int .i64 4, .slice none 0 0, .int .u8 1, .int .i64 0, .int .i64 0, .int .i64 3, .int .i64 1, .int .i64 7, .slice none 0 0] 26
theorem ex_find : findT 7 exT = some [1] := by rfl
theorem ex_may : mayT exT = true := by decide
theorem ex_fits : exR.fits := ⟨by simp [fits], by simp [fits], by simp [fits], by simp [fits]⟩
theorem ex_is (w : World) : Is (w.alloc exRow) (exC w.heap.size) exT := by
  refine .mk (exC w.heap.size) _ [leafC exR 4, leafC exR 7] (.inr ⟨w.heap.size, 0, 2, rfl, fun j c hc => ?_⟩) rfl ⟨⟨by simp, by simp⟩, ex_fits, by simp [fits], by simp⟩ fun j x t hx ht => ?_
  · match j with
    | 0 => simp at hc; subst hc; refine ⟨?_, ?_, ?_, ?_, ?_, ?_, ?_⟩ <;> simp
    | 1 => simp at hc; subst hc; refine ⟨?_, ?_, ?_, ?_, ?_, ?_, ?_⟩ <;> simp
    | j + 2 => simp at hc
  · match j with
    | 0 => simp at hx ht; subst hx; subst ht; exact leaf_is exR 4 _ ex_fits (by simp [fits])
    | 1 => simp at hx ht; subst hx; subst ht; exact leaf_is exR 7 _ ex_fits (by simp [fits])
    | j + 2 => simp at hx
theorem trow_one {w : World} {c : C} {t : T} (h : Is w c t) : TRow (w.alloc (cbox c)) (.slice (some ⟨w.heap.size, 0, none⟩) 1 1) [t] := by
  refine ⟨[c], .inr ⟨w.heap.size, 0, 1, rfl, fun j x hx => ?_⟩, rfl, fun j x u hx hu => ?_⟩
  · cases j with
    | zero => simp at hx; subst hx; simpa using cbox_new w c
    | succ j => simp at hx
  · cases j with
    | zero => simp at hx hu; subst hx; subst hu; exact h.up ((Below.refl _ _).alloc (Nat.le_refl _) _)
    | succ j => simp at hx

abbrev ExBox (w : World) (b : Nat) : Prop := w.cell? ⟨b, 0, none⟩ = some (.int .i64 0) ∧ w.cell? ⟨b, 1, none⟩ = some (.int .i64 0) ∧ w.cell? ⟨b, 2, none⟩ = some (.int .i64 3) ∧ w.cell? ⟨b, 3, none⟩ = some (.int .i64 1)
theorem exBox_up {w w' : World} {b : Nat} (h : ExBox w b) (hb : Below w.heap.size w w') : ExBox w' b :=
  ⟨(hb.cell (lt_of_cell h.1)).trans h.1, (hb.cell (lt_of_cell h.2.1)).trans h.2.1, (hb.cell (lt_of_cell h.2.2.1)).trans h.2.2.1, (hb.cell (lt_of_cell h.2.2.2)).trans h.2.2.2⟩
theorem exBox_alloc {w : World} {b : Nat} {o : Obj} (h : ExBox w b) : ExBox (w.alloc o) b := exBox_up h ((Below.refl _ _).alloc (Nat.le_refl _) _)

abbrev zeroBox : Obj := .cells #[.int .u8 0, .int .i64 0, .int .i64 0, .int .i64 0, .int .i64 0, .int .i64 0, .slice none 0 0] 26
def Zero7 (w : World) (b : Nat) : Prop := w.heap[b]? = some zeroBox
theorem zero_up {w w' : World} {b : Nat} (h : Zero7 w b) (hb : Below w.heap.size w w') : Zero7 w' b := (hb.block b (lt_of_block h)).trans h
theorem zero_new (w : World) : Zero7 (w.alloc zeroBox) w.heap.size := heap_alloc_new w _
theorem zero_parts {w : World} {b : Nat} (h : Zero7 w b) : (w.cell? ⟨b, 0, none⟩ = some (.int .u8 0) ∧ w.cell? ⟨b, 1, none⟩ = some (.int .i64 0) ∧ w.cell? ⟨b, 2, none⟩ = some (.int .i64 0) ∧ w.cell? ⟨b, 3, none⟩ = some (.int .i64 0) ∧ w.cell? ⟨b, 4, none⟩ = some (.int .i64 0) ∧ w.cell? ⟨b, 5, none⟩ = some (.int .i64 0) ∧ w.cell? ⟨b, 6, none⟩ = some (.slice none 0 0)) ∧
    (w.frozen? ⟨b, 0, none⟩ = false ∧ w.frozen? ⟨b, 1, none⟩ = false ∧ w.frozen? ⟨b, 2, none⟩ = false ∧ w.frozen? ⟨b, 3, none⟩ = false ∧ w.frozen? ⟨b, 4, none⟩ = false ∧ w.frozen? ⟨b, 5, none⟩ = false ∧ w.frozen? ⟨b, 6, none⟩ = false) := by
  have h' : w.heap[b]? = some zeroBox := h
  refine ⟨⟨?_, ?_, ?_, ?_, ?_, ?_, ?_⟩, ?_, ?_, ?_, ?_, ?_, ?_, ?_⟩ <;> simp [World.cell?, World.frozen?, h']

abbrev put7 (w : World) (b : Nat) (c : C) : World := ((((((w.setCell ⟨b, 0, none⟩ (.int .u8 c.k)).setCell ⟨b, 1, none⟩ (.int .i64 c.r.x)).setCell ⟨b, 2, none⟩ (.int .i64 c.r.y)).setCell ⟨b, 3, none⟩ (.int .i64 c.r.w)).setCell ⟨b, 4, none⟩ (.int .i64 c.r.h)).setCell ⟨b, 5, none⟩ (.int .i64 c.id)).setCell ⟨b, 6, none⟩ (.slice c.a c.n c.cap)
theorem heap_put7 {w : World} {b k : Nat} {c : C} (h : k ≠ b) : (put7 w b c).heap[k]? = w.heap[k]? := by
  unfold put7
  rw [Below.heap_setCell _ ⟨b, 6, none⟩ _ k h, Below.heap_setCell _ ⟨b, 5, none⟩ _ k h, Below.heap_setCell _ ⟨b, 4, none⟩ _ k h, Below.heap_setCell _ ⟨b, 3, none⟩ _ k h, Below.heap_setCell _ ⟨b, 2, none⟩ _ k h, Below.heap_setCell _ ⟨b, 1, none⟩ _ k h, Below.heap_setCell _ ⟨b, 0, none⟩ _ k h]
theorem exBox_put7 {w : World} {b bx : Nat} {c : C} (h : ExBox w b) (hne : b ≠ bx) : ExBox (put7 w bx c) b := by
  have hh : ∀ o, (put7 w bx c).cell? ⟨b, o, none⟩ = w.cell? ⟨b, o, none⟩ := fun o => World.cell?_of_block (a := ⟨b, o, none⟩) (heap_put7 hne)
  exact ⟨(hh _).trans h.1, (hh _).trans h.2.1, (hh _).trans h.2.2.1, (hh _).trans h.2.2.2⟩

theorem cat_put7 {w : World} {b : Nat} {c0 : C} (c : C) (h : CAt w b 0 c0) : CAt (put7 w b c) b 0 c := by
  have ne : ∀ i j : Nat, i ≠ j → (⟨b, i, none⟩ : Addr) ≠ ⟨b, j, none⟩ := fun i j hij he => hij (congrArg Addr.off he)
  obtain ⟨h0, h1, h2, h3, h4, h5, h6⟩ := h
  simp only [Nat.zero_add] at h1 h2 h3 h4 h5 h6
  refine ⟨?_, ?_, ?_, ?_, ?_, ?_, ?_⟩ <;> (try simp only [Nat.zero_add])
  · rw [World.cell?_setCell_other _ _ _ _ (ne 6 0 (by omega)), World.cell?_setCell_other _ _ _ _ (ne 5 0 (by omega)), World.cell?_setCell_other _ _ _ _ (ne 4 0 (by omega)), World.cell?_setCell_other _ _ _ _ (ne 3 0 (by omega)), World.cell?_setCell_other _ _ _ _ (ne 2 0 (by omega)), World.cell?_setCell_other _ _ _ _ (ne 1 0 (by omega))]
    exact World.cell?_setCell_same _ _ _ h0
  · rw [World.cell?_setCell_other _ _ _ _ (ne 6 1 (by omega)), World.cell?_setCell_other _ _ _ _ (ne 5 1 (by omega)), World.cell?_setCell_other _ _ _ _ (ne 4 1 (by omega)), World.cell?_setCell_other _ _ _ _ (ne 3 1 (by omega)), World.cell?_setCell_other _ _ _ _ (ne 2 1 (by omega))]
    exact World.cell?_setCell_same _ _ _ (by rw [World.cell?_setCell_other _ _ _ _ (ne 0 1 (by omega))]; exact h1)
  · rw [World.cell?_setCell_other _ _ _ _ (ne 6 2 (by omega)), World.cell?_setCell_other _ _ _ _ (ne 5 2 (by omega)), World.cell?_setCell_other _ _ _ _ (ne 4 2 (by omega)), World.cell?_setCell_other _ _ _ _ (ne 3 2 (by omega))]
    exact World.cell?_setCell_same _ _ _ (by rw [World.cell?_setCell_other _ _ _ _ (ne 1 2 (by omega)), World.cell?_setCell_other _ _ _ _ (ne 0 2 (by omega))]; exact h2)
  · rw [World.cell?_setCell_other _ _ _ _ (ne 6 3 (by omega)), World.cell?_setCell_other _ _ _ _ (ne 5 3 (by omega)), World.cell?_setCell_other _ _ _ _ (ne 4 3 (by omega))]
    exact World.cell?_setCell_same _ _ _ (by rw [World.cell?_setCell_other _ _ _ _ (ne 2 3 (by omega)), World.cell?_setCell_other _ _ _ _ (ne 1 3 (by omega)), World.cell?_setCell_other _ _ _ _ (ne 0 3 (by omega))]; exact h3)
  · rw [World.cell?_setCell_other _ _ _ _ (ne 6 4 (by omega)), World.cell?_setCell_other _ _ _ _ (ne 5 4 (by omega))]
    exact World.cell?_setCell_same _ _ _ (by rw [World.cell?_setCell_other _ _ _ _ (ne 3 4 (by omega)), World.cell?_setCell_other _ _ _ _ (ne 2 4 (by omega)), World.cell?_setCell_other _ _ _ _ (ne 1 4 (by omega)), World.cell?_setCell_other _ _ _ _ (ne 0 4 (by omega))]; exact h4)
  · rw [World.cell?_setCell_other _ _ _ _ (ne 6 5 (by omega))]
    exact World.cell?_setCell_same _ _ _ (by rw [World.cell?_setCell_other _ _ _ _ (ne 4 5 (by omega)), World.cell?_setCell_other _ _ _ _ (ne 3 5 (by omega)), World.cell?_setCell_other _ _ _ _ (ne 2 5 (by omega)), World.cell?_setCell_other _ _ _ _ (ne 1 5 (by omega)), World.cell?_setCell_other _ _ _ _ (ne 0 5 (by omega))]; exact h5)
  · exact World.cell?_setCell_same _ _ _ (by rw [World.cell?_setCell_other _ _ _ _ (ne 5 6 (by omega)), World.cell?_setCell_other _ _ _ _ (ne 4 6 (by omega)), World.cell?_setCell_other _ _ _ _ (ne 3 6 (by omega)), World.cell?_setCell_other _ _ _ _ (ne 2 6 (by omega)), World.cell?_setCell_other _ _ _ _ (ne 1 6 (by omega)), World.cell?_setCell_other _ _ _ _ (ne 0 6 (by omega))]; exact h6)
theorem size_put7 (w : World) (b : Nat) (c : C) : (put7 w b c).heap.size = w.heap.size := by simp [World.setCell]
theorem below_put7 {B : Nat} {w w' : World} (h : Below B w w') {b : Nat} (hb : B ≤ b) (c : C) : Below B w (put7 w' b c) := ((((((h.setCell hb _).setCell hb _).setCell hb _).setCell hb _).setCell hb _).setCell hb _).setCell hb _

/-- What is there behind the example's cell is made. -/
def ExHere (w W : World) (bx g : Nat) : Prop := Below w.heap.size w W ∧ Is W (exC g) exT ∧ CAt W bx 0 (exC g)
theorem ex_one {w w5 : World} (h : Below w.heap.size w w5) : ExHere w ((w5.alloc (cbox (exC (w5.heap.size + 1)))).alloc exRow) w5.heap.size (w5.heap.size + 1) := by
  refine ⟨(h.alloc h.size _).alloc (Nat.le_trans h.size (by simp)) _, ?_, (cbox_new w5 _).up ((Below.refl _ _).alloc (Nat.le_refl _) _)⟩
  have := ex_is (w5.alloc (cbox (exC (w5.heap.size + 1))))
  simpa using this
theorem ex_two {w w5 : World} (h : Below w.heap.size w w5) : ExHere w ((w5.alloc exRow).alloc (cbox (exC w5.heap.size))) (w5.heap.size + 1) w5.heap.size := by
  refine ⟨(h.alloc h.size _).alloc (Nat.le_trans h.size (by simp)) _, (ex_is w5).up ((Below.refl _ _).alloc (Nat.le_refl _) _), ?_⟩
  have := cbox_new (w5.alloc exRow) (exC w5.heap.size)
  simpa using this
theorem ex_three {w w5 : World} {b : Nat} (h : Below w.heap.size w w5) (hz : Zero7 w5 b) (hb : w.heap.size ≤ b) : ExHere w ((put7 w5 b (exC w5.heap.size)).alloc exRow) b w5.heap.size := by
  have h1 := below_put7 h hb (exC w5.heap.size)
  have hc : CAt w5 b 0 ⟨0, ⟨0, 0, 0, 0⟩, 0, none, 0, 0⟩ := by
    obtain ⟨⟨z0, z1, z2, z3, z4, z5, z6⟩, -⟩ := zero_parts hz
    exact ⟨z0, z1, z2, z3, z4, z5, z6⟩
  refine ⟨h1.alloc h1.size _, ?_, (cat_put7 _ hc).up ((Below.refl _ _).alloc (Nat.le_refl _) _)⟩
  have := ex_is (put7 w5 b (exC w5.heap.size))
  rw [size_put7] at this
  exact this

set_option maxRecDepth 100000 in
set_option maxHeartbeats 4000000 in
theorem awake_any (w : World) : Calls Try.prog 9 #[] w fun e w' => e = .returned (.bool true) ∧ Below w.heap.size w w' := by
  have B0 : Hid (Below w.heap.size w (w.alloc (.cells #[.int .i64 0, .int .i64 0, .int .i64 3, .int .i64 1] 23)).drew) := ((Below.refl _ _).alloc (Nat.le_refl _) _).drew
  have S0 : Hid (ExBox (w.alloc (.cells #[.int .i64 0, .int .i64 0, .int .i64 3, .int .i64 1] 23)).drew w.heap.size) := by
    refine ⟨?_, ?_, ?_, ?_⟩ <;> simp
  have B0z : Hid (Below w.heap.size w ((w.alloc (.cells #[.int .i64 0, .int .i64 0, .int .i64 3, .int .i64 1] 23)).alloc zeroBox).drew) := (((Below.refl _ _).alloc (Nat.le_refl _) _).alloc (by simp) _).drew
  have S0z : Hid (ExBox ((w.alloc (.cells #[.int .i64 0, .int .i64 0, .int .i64 3, .int .i64 1] 23)).alloc zeroBox).drew w.heap.size) := by
    refine ⟨?_, ?_, ?_, ?_⟩ <;> simp
  have Z0z : Hid (Zero7 ((w.alloc (.cells #[.int .i64 0, .int .i64 0, .int .i64 3, .int .i64 1] 23)).alloc zeroBox).drew (w.heap.size + 1)) := by
    have h := zero_new (w.alloc (.cells #[.int .i64 0, .int .i64 0, .int .i64 3, .int .i64 1] 23))
    have h2 : Zero7 ((w.alloc (.cells #[.int .i64 0, .int .i64 0, .int .i64 3, .int .i64 1] 23)).alloc zeroBox) (w.heap.size + 1) := by simpa using h
    exact h2
  go_enter Try.func9, Try.ntmps9
  go_wp2_with fail
  go_region_held3 (fun W => W.cell? ⟨w.heap.size, 0, none⟩ = some (.int .i64 0) ∧ W.cell? ⟨w.heap.size, 1, none⟩ = some (.int .i64 0) ∧ W.cell? ⟨w.heap.size, 2, none⟩ = some (.int .i64 3) ∧ W.cell? ⟨w.heap.size, 3, none⟩ = some (.int .i64 1)) (first | with_reducible exact S0.out | with_reducible exact S0z.out | with_reducible exact S4.out | with_reducible exact S5.out | with_reducible exact exBox_alloc S0.out | with_reducible exact exBox_alloc S4.out | with_reducible exact exBox_alloc S5.out | with_reducible exact exBox_alloc (exBox_alloc S5.out) | with_reducible exact exBox_alloc (exBox_put7 (c := exC w5.heap.size) S5.out n3))
    (first
      | (go_at_call 27; (with_reducible refine (leaf_any exR 4 (w.alloc (.cells #[.int .i64 0, .int .i64 0, .int .i64 3, .int .i64 1] 23)).drew).mono ?_); rintro e w4 ⟨rfl, hb4⟩; have B4 := Lib.hid (B0.out.trans (hb4.mono B0.out.size)); have S4 := Lib.hid (exBox_up S0.out hb4); have NO := Lib.hid True.intro; clear hb4)
      | (go_at_call 27; (with_reducible refine (leaf_any exR 4 ((w.alloc (.cells #[.int .i64 0, .int .i64 0, .int .i64 3, .int .i64 1] 23)).alloc zeroBox).drew).mono ?_); rintro e w4 ⟨rfl, hb4⟩; have B4 := Lib.hid (B0z.out.trans (hb4.mono B0z.out.size)); have S4 := Lib.hid (exBox_up S0z.out hb4); have Z4 := Lib.hid (zero_up Z0z.out hb4); clear hb4)
      | (go_at_call 27; have Z4' := Z4; (with_reducible refine (leaf_any exR 7 w4).mono ?_); rintro e w5 ⟨rfl, hb5⟩; have B5 := Lib.hid (B4.out.trans (hb5.mono B4.out.size)); have S5 := Lib.hid (exBox_up S4.out hb5); have Z5 := Lib.hid (zero_up Z4.out hb5); have n2 := lt_of_block Z5.out; have n1 : w.heap.size + 1 ≠ w5.heap.size := (by omega); have n3 : w.heap.size ≠ w.heap.size + 1 := (by omega); clear hb5; obtain ⟨⟨z0, z1, z2, z3, z4, z5, z6⟩, f0, f1, f2, f3, f4, f5, f6⟩ := zero_parts Z5.out)
      | (go_at_call 27; have NO' := NO; (with_reducible refine (leaf_any exR 7 w4).mono ?_); rintro e w5 ⟨rfl, hb5⟩; have B5 := Lib.hid (B4.out.trans (hb5.mono B4.out.size)); have S5 := Lib.hid (exBox_up S4.out hb5); clear hb5)
      | (go_at_call 27; have NO' := NO; (with_reducible refine (leaf_any exR 7 (w4.alloc zeroBox)).mono ?_); rintro e w5 ⟨rfl, hb5⟩; have B5 := Lib.hid ((B4.out.alloc B4.out.size zeroBox).trans (hb5.mono (B4.out.alloc B4.out.size zeroBox).size)); have S5 := Lib.hid (exBox_up (exBox_alloc S4.out) hb5); have Z5 := Lib.hid (zero_up (zero_new w4) hb5); have n2 := lt_of_block Z5.out; have n1 : w4.heap.size ≠ w5.heap.size := (by omega); have n3 : w.heap.size ≠ w4.heap.size := (by have h : w.heap.size < w4.heap.size := lt_of_cell S4.out.1; omega); clear hb5; obtain ⟨⟨z0, z1, z2, z3, z4, z5, z6⟩, f0, f1, f2, f3, f4, f5, f6⟩ := zero_parts Z5.out))
  case' refine_2.refine_3.refine_3.refine_3.refine_1.refine_2.refine_1.refine_2.refine_1.refine_2.refine_3.refine_1.refine_2.refine_1.refine_2 => have P := Lib.hid (ex_two B5.out)
  case' refine_2.refine_3.refine_3.refine_3.refine_1.refine_2.refine_1.refine_2.refine_2.refine_1.refine_2.refine_1.refine_2.refine_3.refine_1.refine_2 => have P := Lib.hid (ex_one B5.out)
  case' refine_2.refine_3.refine_3.refine_3.refine_1.refine_2.refine_2.refine_1.refine_2.refine_1.refine_2.refine_1.refine_2.refine_3.refine_1.refine_2 => have P := Lib.hid (ex_three B5.out Z5.out (by have h : w.heap.size < w4.heap.size := lt_of_cell S4.out.1; omega))
  case' refine_2.refine_3.refine_3.refine_3.refine_2.refine_1.refine_2.refine_1.refine_2.refine_1.refine_2.refine_1.refine_2.refine_3.refine_1.refine_2 => have P := Lib.hid (ex_three B5.out Z5.out (by omega))
  all_goals
    clear S0 S0z B0z Z0z
    obtain ⟨q0, q1, q2, q3, q4, q5, q6⟩ := P.out.2.2
    simp only [Nat.zero_add] at q1 q2 q3 q4 q5 q6
    have HF := Lib.hid (find_any 7 exT _ _ (by decide) P.out.2.1)
    rw [ex_find] at HF
    go_wp2_with fail
    refine HF.out.mono ?_
    rintro e w6 ⟨hb6, v6, rfl, hr6⟩
    have HR6 := Lib.hid hr6
    have HB6 := Lib.hid (P.out.1.trans (hb6.mono P.out.1.size))
    have HI6 := Lib.hid (P.out.2.1.up hb6)
    have HC6 := Lib.hid (P.out.2.2.up hb6)
    clear hb6 hr6 q0 q1 q2 q3 q4 q5 q6
    obtain ⟨a6, cap6, rfl⟩ := row_shape HR6.out
    have HA6 : Hid (Below w6.heap.size w6 (w6.alloc (.cells #[.int .i64 1] 3))) := (Below.refl _ _).alloc (Nat.le_refl _) _
    have HK := Lib.hid (ints_any _ _ [1] [1] (w6.alloc (.cells #[.int .i64 1] 3)) (HR6.out.up HA6.out) (row_one w6 _ _) (by simp))
    go_wp2_with fail
    refine HK.out.mono ?_
    rintro e w7 ⟨rfl, hb7⟩
    have HB67 := Lib.hid (below_one hb7)
    have HB7 := Lib.hid (HB6.out.trans (HB67.out.mono HB6.out.size))
    have HI7 := Lib.hid (HI6.out.up HB67.out)
    have HC7 := Lib.hid (HC6.out.up HB67.out)
    clear hb7
    obtain ⟨q0, q1, q2, q3, q4, q5, q6⟩ := HC7.out
    simp only [Nat.zero_add] at q1 q2 q3 q4 q5 q6
    have heq : eqI [1] [1] = true := by decide
    have HM := Lib.hid (mayAll_any _ [exT] _ (trow_one HI7.out) (by simp))
    rw [show [exT].all mayT = true by decide] at HM
    go_wp2_with fail
    refine HM.out.mono ?_
    rintro e w8 ⟨rfl, hb8⟩
    have HB78 := Lib.hid (below_one hb8)
    have HB8 := Lib.hid (HB7.out.trans (HB78.out.mono HB7.out.size))
    have HI8 := Lib.hid (HI7.out.up HB78.out)
    have HC8 := Lib.hid (HC7.out.up HB78.out)
    clear hb8 q0 q1 q2 q3 q4 q5 q6
    obtain ⟨q0, q1, q2, q3, q4, q5, q6⟩ := HC8.out
    simp only [Nat.zero_add] at q1 q2 q3 q4 q5 q6
    have HZ := Lib.hid (size_any _ [exT] _ (trow_one HI8.out) (by simp))
    rw [show wrap64 ((szL [exT] : Nat) : Int) = 3 by rw [wrap_small (by decide)]; rfl] at HZ
    go_wp2_with fail
    refine HZ.out.mono ?_
    rintro e w9 ⟨rfl, hb9⟩
    have HB89 := Lib.hid (below_one hb9)
    have HB9 := Lib.hid (HB8.out.trans (HB89.out.mono HB8.out.size))
    clear hb9
    go_wp2
    go_ret
    exact ⟨rfl, HB9.out⟩
end Go.Proofs.Ytibjpkicchdomaa
