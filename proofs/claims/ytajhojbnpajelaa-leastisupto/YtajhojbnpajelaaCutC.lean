/- A cut: the rectangles, and what is between them. -/
import Derived.Test.YtajhojbnpajelaaCutB
namespace Go.Proofs.Ytajhojbnpajelaa
open Go.RowKit

def cutP (r : R) (ax : Int) (ms : List Int) : Prop := mayB r = true ∧ ((ax = 1 ∧ fillP r.w ms) ∨ (ax = 2 ∧ fillP r.h ms))
def cutParts (r : R) (ax : Int) (ms : List Int) : Bool → List R
  | false => []
  | true => if ax = 1 then partsL r id ms ms.length else partsL (turnR r) turnR ms ms.length
def cutLines (r : R) (ax : Int) (ms : List Int) : Bool → List R
  | false => []
  | true => if ax = 1 then linesL r id ms ms.length else linesL (turnR r) turnR ms ms.length

/-- What a cut says. -/
def CutSays (r : R) (ax : Int) (ms : List Int) (w : World) (e : Ending) (w' : World) : Prop :=
  ∃ v1 v2 b, e = .returned (.tuple #[v1, v2, .bool b]) ∧ (b = true ↔ cutP r ax ms) ∧ RRow w' v1 (cutParts r ax ms b) ∧ RRow w' v2 (cutLines r ax ms b) ∧ Below w.heap.size w w'

theorem entersC32 : Enters 62 := enters_of Try.func62 (by kernel_rfl) rfl
theorem entersC33 : Enters 63 := enters_of Try.func63 (by kernel_rfl) rfl
theorem cut_no {r : R} {ax : Int} {ms : List Int} {w w' : World} (h : ¬ cutP r ax ms) (hb : Below w.heap.size w w') : CutSays r ax ms w (.returned (.tuple #[.slice none 0 0, .slice none 0 0, .bool false])) w' :=
  ⟨_, _, false, rfl, by simp [h], .inl ⟨_, _, rfl, rfl⟩, .inl ⟨_, _, rfl, rfl⟩, hb⟩

/-- A rectangle stored over another one. -/
abbrev put4 (w : World) (b : Nat) (q : R) : World := (((w.setCell ⟨b, 0, none⟩ (.int .i64 q.x)).setCell ⟨b, 1, none⟩ (.int .i64 q.y)).setCell ⟨b, 2, none⟩ (.int .i64 q.w)).setCell ⟨b, 3, none⟩ (.int .i64 q.h)
theorem rat_put4 {w : World} {b : Nat} {r : R} (q : R) (h : RAt w b 0 r) : RAt (put4 w b q) b 0 q := by
  obtain ⟨h0, h1, h2, h3⟩ := h
  have ne : ∀ i j : Nat, i ≠ j → (⟨b, i, none⟩ : Addr) ≠ ⟨b, j, none⟩ := fun i j hij he => hij (congrArg Addr.off he)
  refine ⟨?_, ?_, ?_, ?_⟩
  · rw [World.cell?_setCell_other _ _ _ _ (ne 3 0 (by omega)), World.cell?_setCell_other _ _ _ _ (ne 2 0 (by omega)), World.cell?_setCell_other _ _ _ _ (ne 1 0 (by omega))]
    exact World.cell?_setCell_same _ _ _ h0
  · rw [World.cell?_setCell_other _ _ _ _ (ne 3 1 (by omega)), World.cell?_setCell_other _ _ _ _ (ne 2 1 (by omega))]
    exact World.cell?_setCell_same _ _ _ ((World.cell?_setCell_other _ _ _ _ (ne 0 1 (by omega))).trans h1)
  · rw [World.cell?_setCell_other _ _ _ _ (ne 3 2 (by omega))]
    exact World.cell?_setCell_same _ _ _ ((World.cell?_setCell_other _ _ _ _ (ne 1 2 (by omega))).trans ((World.cell?_setCell_other _ _ _ _ (ne 0 2 (by omega))).trans h2))
  · exact World.cell?_setCell_same _ _ _ ((World.cell?_setCell_other _ _ _ _ (ne 2 3 (by omega))).trans ((World.cell?_setCell_other _ _ _ _ (ne 1 3 (by omega))).trans ((World.cell?_setCell_other _ _ _ _ (ne 0 3 (by omega))).trans h3)))
theorem below_put4 {B : Nat} {w w' : World} (h : Below B w w') {b : Nat} (hb : B ≤ b) (q : R) : Below B w (put4 w' b q) := (((h.setCell hb _).setCell hb _).setCell hb _).setCell hb _

set_option maxRecDepth 100000 in
set_option maxHeartbeats 1600000 in
theorem cut_any (r : R) (ax : Int) (v : Value) (ms : List Int) (w : World) (hf : r.fits) (hr : IRow w v ms) (hlen : ms.length ≤ 1000) :
    Calls Try.prog 56 #[val r, .int .u8 ax, v] w fun e w' => CutSays r ax ms w e w' := by
  obtain ⟨a, cap, rfl⟩ := hr.shape
  have HR := Lib.hid hr
  have B1 : Hid (Below w.heap.size w (w.alloc (box r))) := (Below.refl _ _).alloc (Nat.le_refl _) _
  have H := Lib.hid (may_one r (w.alloc (box r)) hf (w.heap.size + 1) (by simp))
  have HA : Hid (RAt (w.alloc (box r)) w.heap.size 0 r) := rat_new w r
  have HZ : Hid (∀ i, (w.alloc (box r)).frozen? ⟨w.heap.size, i, none⟩ = false) := fun i => by
    have hh : (w.alloc (box r)).heap[w.heap.size]? = some (box r) := heap_alloc_new w _
    simp only [World.frozen?, hh]
    simp
  clear hr hf
  rcases bool_cases (mayB r) with hm | hm
  case inr =>
    have hn : Hid (¬ cutP r ax ms) := fun h => by have := h.1; rw [hm] at this; cases this
    rw [hm] at H
    go_enter Try.func56, Try.ntmps56
    go_wp2_with fail
    refine H.out.mono ?_
    rintro e w2 ⟨rfl, hb2⟩
    have B2 := Lib.hid (B1.out.trans (hb2.mono B1.out.size))
    clear hb2
    go_wp2
    go_ret3
    exact cut_no hn.out B2.out
  have hb := (mayB_iff r).1 hm
  have HM : Hid ((0 ≤ r.x ∧ 1 ≤ r.w ∧ r.x + r.w ≤ 10000) ∧ 0 ≤ r.y ∧ 1 ≤ r.h ∧ r.y + r.h ≤ 10000) := hb
  have HT : Hid (mayB (turnR r) = true) := ((mayB_iff (turnR r)).2 ⟨hb.2, hb.1⟩ : mayB (turnR r) = true)
  clear hb
  rw [hm] at H
  by_cases h2 : ax = 2
  · subst h2
    go_enter Try.func56, Try.ntmps56
    go_wp2_with fail
    refine H.out.mono ?_
    rintro e w2 ⟨rfl, hb2⟩
    have B2 := Lib.hid (B1.out.trans (hb2.mono B1.out.size))
    have HA2 := Lib.hid (HA.out.up hb2)
    have HZ2 : Hid (∀ i, w2.frozen? ⟨w.heap.size, i, none⟩ = false) := fun i => (hb2.frozen (p := ⟨w.heap.size, i, none⟩) (by simp)).trans (HZ.out i)
    clear hb2
    obtain ⟨c0, c1, c2, c3⟩ := HA2.out
    go_wp2_with fail
    refine (turn_any r w2).mono ?_
    rintro e w3 ⟨rfl, hb3⟩
    have B3 := Lib.hid (B2.out.trans (hb3.mono B2.out.size))
    have lt2 := lt_of_cell c0
    clear c0 c1 c2 c3
    obtain ⟨c0, c1, c2, c3⟩ := HA2.out.up hb3
    have z0 := (hb3.frozen (p := ⟨w.heap.size, 0, none⟩) lt2).trans (HZ2.out 0)
    have z1 := (hb3.frozen (p := ⟨w.heap.size, 1, none⟩) lt2).trans (HZ2.out 1)
    have z2 := (hb3.frozen (p := ⟨w.heap.size, 2, none⟩) lt2).trans (HZ2.out 2)
    have z3 := (hb3.frozen (p := ⟨w.heap.size, 3, none⟩) lt2).trans (HZ2.out 3)
    have P4 := Lib.hid (rat_put4 (turnR r) (HA2.out.up hb3))
    have B4 := Lib.hid (below_put4 B3.out (Nat.le_refl _) (turnR r))
    clear hb3
    go_wp2_with fail
    change Calls _ _ _ (put4 w3 w.heap.size (turnR r)) _
    generalize put4 w3 w.heap.size (turnR r) = w4 at P4 B4 ⊢
    clear c0 c1 c2 c3 z0 z1 z2 z3
    obtain ⟨c0, c1, c2, c3⟩ := P4.out
    refine (fill_any (turnR r).w _ ms w4 (HR.out.up B4.out) (by omega) (by have := HM.out; (try simp only [turnR]); omega) (by have := HM.out; (try simp only [turnR]); omega)).mono ?_
    rintro e w5 ⟨⟨b, rfl, hfl⟩, rfl⟩
    have HFl := Lib.hid hfl
    clear hfl
    cases b with
    | false =>
      go_wp2
      go_ret3
      refine cut_no (fun h => ?_) B4.out
      rcases h.2 with h | h
      · exact absurd (HFl.out.2 (by have := h.1; omega)) (by simp)
      · exact absurd (HFl.out.2 (h.2)) (by simp)
    | true =>
      have hfp := HFl.out.1 rfl
      have HFp := Lib.hid hfp
      clear hfp
      go_wp2_with fail
      refine (across_any 63 entersC33 turnR turn_any (turnR r) _ ms w4 HT.out (HR.out.up B4.out) hlen HFp.out.1).mono ?_
      rintro e w6 ⟨v1, v2, rfl, hr1, hr2, hb6⟩
      have R1 := Lib.hid hr1
      have R2 := Lib.hid hr2
      have B6 := Lib.hid (B4.out.trans (hb6.mono B4.out.size))
      clear hr1 hr2 hb6
      go_wp2
      go_ret3
      exact ⟨v1, v2, true, rfl, ⟨fun _ => ⟨hm, .inr ⟨rfl, HFp.out⟩⟩, fun _ => rfl⟩, R1.out, R2.out, B6.out⟩
  · have e2 : (ax == 2) = false := by rw [beq_eq_false_iff_ne]; exact h2
    by_cases h1 : ax = 1
    · subst h1
      go_enter Try.func56, Try.ntmps56
      go_wp2_with fail
      refine H.out.mono ?_
      rintro e w2 ⟨rfl, hb2⟩
      have B4 := Lib.hid (B1.out.trans (hb2.mono B1.out.size))
      obtain ⟨c0, c1, c2, c3⟩ := HA.out.up hb2
      clear hb2
      go_wp2_with fail
      refine (fill_any r.w _ ms w2 (HR.out.up B4.out) (by omega) (by have := HM.out; (try simp only [turnR]); omega) (by have := HM.out; (try simp only [turnR]); omega)).mono ?_
      rintro e w5 ⟨⟨b, rfl, hfl⟩, rfl⟩
      have HFl := Lib.hid hfl
      clear hfl
      cases b with
      | false =>
        go_wp2
        go_ret3
        refine cut_no (fun h => ?_) B4.out
        rcases h.2 with h | h
        · exact absurd (HFl.out.2 (h.2)) (by simp)
        · exact absurd (HFl.out.2 (by have := h.1; omega)) (by simp)
      | true =>
        have hfp := HFl.out.1 rfl
        have HFp := Lib.hid hfp
        clear hfp
        go_wp2_with fail
        refine (across_any 62 entersC32 id ident_any r _ ms w2 hm (HR.out.up B4.out) hlen HFp.out.1).mono ?_
        rintro e w6 ⟨v1, v2, rfl, hr1, hr2, hb6⟩
        have R1 := Lib.hid hr1
        have R2 := Lib.hid hr2
        have B6 := Lib.hid (B4.out.trans (hb6.mono B4.out.size))
        clear hr1 hr2 hb6
        go_wp2
        go_ret3
        exact ⟨v1, v2, true, rfl, ⟨fun _ => ⟨hm, .inl ⟨rfl, HFp.out⟩⟩, fun _ => rfl⟩, R1.out, R2.out, B6.out⟩
    · have e1 : (ax == 1) = false := by rw [beq_eq_false_iff_ne]; exact h1
      have hn : Hid (¬ cutP r ax ms) := fun h => by
        rcases h.2 with h | h
        · exact h1 h.1
        · exact h2 h.1
      clear h1 h2
      go_enter Try.func56, Try.ntmps56
      go_wp2_with fail
      refine H.out.mono ?_
      rintro e w2 ⟨rfl, hb2⟩
      have B2 := Lib.hid (B1.out.trans (hb2.mono B1.out.size))
      clear hb2
      go_wp2
      go_ret3
      exact cut_no hn.out B2.out
end Go.Proofs.Ytajhojbnpajelaa
