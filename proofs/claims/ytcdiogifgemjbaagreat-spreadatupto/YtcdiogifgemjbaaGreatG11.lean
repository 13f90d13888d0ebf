/- Texts of this seat, 3 in one file. -/
import Derived.Test.YtcdiogifgemjbaaGreatG10
import Derived.Test.YtcdiogifgemjbaaGreatG03
/- A cut across: what across makes. -/
namespace Go.Proofs.YtcdiogifgemjbaaGreat
open Go.RowKit

def partK (o : R) (tb : R → R) (ms : List Int) (k : Nat) : R := tb ⟨o.x + offS ms k, o.y, ms.getD k 0, o.h⟩
def lineK (o : R) (tb : R → R) (ms : List Int) (k : Nat) : R := tb ⟨o.x + endS ms k, o.y, 1, o.h⟩
/-- The first k parts. -/
def partsL (o : R) (tb : R → R) (ms : List Int) : Nat → List R
  | 0 => []
  | k + 1 => partsL o tb ms k ++ [partK o tb ms k]
/-- What is between them. -/
def linesL (o : R) (tb : R → R) (ms : List Int) : Nat → List R
  | 0 => []
  | 1 => []
  | k + 2 => linesL o tb ms (k + 1) ++ [lineK o tb ms (k + 1)]
theorem partsL_length (o : R) (tb : R → R) (ms : List Int) (k : Nat) : (partsL o tb ms k).length = k := by
  induction k with
  | zero => rfl
  | succ k ih => simp [partsL, ih]
theorem linesL_length (o : R) (tb : R → R) (ms : List Int) (k : Nat) : (linesL o tb ms k).length = k - 1 := by
  induction k with
  | zero => rfl
  | succ k ih =>
    cases k with
    | zero => rfl
    | succ k => simp only [linesL, List.length_append, ih]; simp
theorem partsL_succ {o : R} {tb : R → R} {ms : List Int} {k : Nat} {m : Int} (h : ms[k]? = some m) : partsL o tb ms (k + 1) = partsL o tb ms k ++ [tb ⟨o.x + offS ms k, o.y, m, o.h⟩] := by
  rw [partsL, partK, List.getD_eq_getElem?_getD, h]; rfl
theorem linesL_pos {o : R} {tb : R → R} {ms : List Int} {k : Nat} (h : 0 < k) : linesL o tb ms (k + 1) = linesL o tb ms k ++ [tb ⟨o.x + endS ms k, o.y, 1, o.h⟩] := by
  cases k with
  | zero => omega
  | succ k => rfl

theorem off_le {whole : Int} {ms : List Int} {n : Nat} (h : fitS whole ms n) {k : Nat} (hk : k ≤ n) (hl : k ≤ ms.length) (h0 : 1 ≤ whole) : 0 ≤ endS ms k ∧ endS ms k ≤ whole := by
  cases k with
  | zero => rw [end_zero]; omega
  | succ k =>
    have hm := List.getElem?_eq_getElem (show k < ms.length by omega)
    have h1 := h k _ (by omega) hm
    have h2 := off_nonneg h k (by omega) (by omega)
    rw [end_succ hm]
    omega

set_option maxRecDepth 100000 in
set_option maxHeartbeats 3200000 in
theorem across_any (F : Nat) (hE : Enters F) (tb : R → R) (hF : ∀ (r : R) (W : World), Calls Tryz.prog F #[val r] W fun e w' => e = .returned (val (tb r)) ∧ Below W.heap.size W w')
    (o : R) (v : Value) (ms : List Int) (w : World) (ho : mayB o = true) (hr : IRow w v ms) (hlen : ms.length ≤ 100000) (hfit : fitS o.w ms ms.length) :
    Calls Tryz.prog 84 #[val o, v, .func (.func F) #[] #[]] w fun e w' => ∃ v1 v2, e = .returned (.tuple #[v1, v2]) ∧ RRow w' v1 (partsL o tb ms ms.length) ∧ RRow w' v2 (linesL o tb ms ms.length) ∧ Below w.heap.size w w' := by
  obtain ⟨a, cap, rfl⟩ := hr.shape
  have hent : ∀ (args : Array Value) (w : World), (callFunc F args).run Tryz.prog w = .ok (.enter F args) w := hE
  have hb := (mayB_iff o).1 ho
  have HR := Lib.hid hr
  have HF := Lib.hid hF
  have HT := Lib.hid hfit
  have HO : Hid ((0 ≤ o.x ∧ 1 ≤ o.w ∧ o.x + o.w ≤ 10000) ∧ 0 ≤ o.y ∧ 1 ≤ o.h ∧ o.y + o.h ≤ 10000) := hb
  clear hr hF hfit hE hb
  have B1 : Hid (Below w.heap.size w (w.alloc (box o))) := (Below.refl _ _).alloc (Nat.le_refl _) _
  have HA : Hid (RAt (w.alloc (box o)) w.heap.size 0 o) := rat_new w o
  go_enter Tryz.func84, Tryz.ntmps84
  go_wp2
  go_loopg [6, 7, 8, 15] (ms.length + 1) (fun g s6 s7 s8 i wr => ∃ k : Nat, g + k = ms.length + 1 ∧ k ≤ ms.length ∧ i = .int .i64 k ∧ s8 = .int .i64 (o.x + endS ms k) ∧ Two wr (w.heap.size + 1) s6 (partsL o tb ms k) s7 (linesL o tb ms k) ∧ Below (w.heap.size + 1) (w.alloc (box o)) wr)
  case atStart => exact ⟨0, by omega, by omega, rfl, by simp [end_zero], ⟨Owns.nil _ _, Owns.nil _ _, fun k h => by cases h⟩, Below.refl _ _⟩
  case round =>
    obtain ⟨k, hg, hk, rfl, rfl, hT, hB⟩ := hrel
    have TW := Lib.hid hT
    have HB : Hid (Below (w.heap.size + 1) (w.alloc (box o)) wr ∧ gk + k = ms.length + 1) := ⟨hB, hg⟩
    clear hT hB hg
    have HBw : Hid (Below w.heap.size w wr) := B1.out.trans (HB.out.1.mono (by omega))
    have hA0 := HB.out.1.mono (show (w.alloc (box o)).heap.size ≤ w.heap.size + 1 by simp)
    have HA1 := Lib.hid (HA.out.up hA0)
    clear hA0
    by_cases hlt : k < ms.length
    · obtain ⟨m, hm⟩ : ∃ m, ms[k]? = some m := ⟨_, List.getElem?_eq_getElem hlt⟩
      obtain ⟨b, off, rfl, hat⟩ := HR.out.place (by omega)
      have cm := (HBw.out.cell (lt_of_cell (hat k m hm))).trans (hat k m hm)
      clear hat
      have HM := Lib.hid hm
      clear hm
      obtain ⟨c0, c1, c2, c3⟩ := HA1.out
      have hfm := HT.out k m hlt HM.out
      have hoff := off_nonneg HT.out k hk hk
      have hend := off_le HT.out hk hk HO.out.1.2.1
      have HE := Lib.hid (end_succ HM.out)
      have hbs : Hid (w.heap.size + 1 ≤ (w.alloc (box o)).heap.size) := (by simp : w.heap.size + 1 ≤ (w.alloc (box o)).heap.size)
      rcases Nat.eq_zero_or_pos k with hk0 | hkp
      · have hz : offS ms k = 0 := by rw [hk0]; rfl
        have he0 : endS ms k = 0 := by rw [hk0]; rfl
        have hl0 : Hid (linesL o tb ms (k + 1) = linesL o tb ms k) := (by rw [hk0]; rfl : linesL o tb ms (k + 1) = linesL o tb ms k)
        obtain ⟨x, hx⟩ : ∃ x, o.x + endS ms k = x := ⟨_, rfl⟩
        rw [hx]
        have HX : Hid (x = o.x) := (by omega : x = o.x)
        have HO2 : Hid (offS ms k = 0) := hz
        have HQ : Hid (tb ⟨o.x + offS ms k, o.y, m, o.h⟩ = tb ⟨x, o.y, m, o.h⟩) := (by rw [HO2.out, HX.out, Int.add_zero] : tb ⟨o.x + offS ms k, o.y, m, o.h⟩ = tb ⟨x, o.y, m, o.h⟩)
        have hxb : 0 ≤ x ∧ x + m ≤ 10000 ∧ 1 ≤ m := by have := HO.out; omega
        have s2 : IntKind.i64.wrap (x + m) = x + m := wrap_id (by omega)
        have HBp := Lib.hid HB.out.1
        have d0 : decide (0 < k) = false := by simp; omega
        clear hfm hoff hend hz he0 hx hxb hk0
        go_wp2_with fail
        refine (HF.out ⟨x, o.y, m, o.h⟩ _).mono ?_
        rintro e w5 ⟨rfl, hb5⟩
        have TW5 := Lib.hid ((TW.out.up hb5).up ((Below.refl _ _).alloc (Nat.le_refl _) (box (tb ⟨x, o.y, m, o.h⟩))))
        have B5 := Lib.hid ((HBp.out.trans (hb5.mono (Nat.le_trans hbs.out HBp.out.size))).alloc (Nat.le_trans (Nat.le_trans hbs.out HBp.out.size) hb5.size) (box (tb ⟨x, o.y, m, o.h⟩)))
        clear hb5
        generalize tb ⟨x, o.y, m, o.h⟩ = q at HQ TW5 B5 ⊢
        go_wp2_with (at_builtin; refine wpList_two rfl _ _ rfl (w.heap.size + 1) _ _ _ _ w5.heap.size q rfl TW5.out rfl (rat_new w5 q) ?_ (w.alloc (box o)) B5.out hbs.out ?_)
        · rw [partsL_length]; omega
        intro v6 w6 hT6 hB6
        have T6 := Lib.hid hT6
        have B6 := Lib.hid hB6
        clear hT6 hB6
        go_wp2
        go_roundg (gk - 1)
        case measure => have := HB.out.2; omega
        case rel =>
          refine ⟨k + 1, ?_, by omega, by go_num, ?_, ?_, B6.out⟩
          · have := HB.out.2; omega
          · exact congrArg (Value.int .i64) (by rw [HE.out]; have := HX.out; have := HO2.out; omega)
          · rw [partsL_succ HM.out, hl0.out]
            rw [HQ.out]
            exact T6.out
      · have hz := end_pos ms hkp
        obtain ⟨x, hx⟩ : ∃ x, o.x + endS ms k = x := ⟨_, rfl⟩
        rw [hx]
        have HX : Hid (x = o.x + endS ms k) := hx.symm
        have HO2 : Hid (endS ms k + 1 = offS ms k) := hz
        have HL : Hid (tb ⟨o.x + endS ms k, o.y, 1, o.h⟩ = tb ⟨x, o.y, 1, o.h⟩) := (by rw [hx] : tb ⟨o.x + endS ms k, o.y, 1, o.h⟩ = tb ⟨x, o.y, 1, o.h⟩)
        have HQ : Hid (tb ⟨o.x + offS ms k, o.y, m, o.h⟩ = tb ⟨x + 1, o.y, m, o.h⟩) := (by rw [← hz, ← hx, Int.add_assoc] : tb ⟨o.x + offS ms k, o.y, m, o.h⟩ = tb ⟨x + 1, o.y, m, o.h⟩)
        have hxb : 0 ≤ x ∧ x + 1 + m ≤ 10000 ∧ 1 ≤ m := by have := HO.out; omega
        have s1 : IntKind.i64.wrap (x + 1) = x + 1 := wrap_id (by omega)
        have s2 : IntKind.i64.wrap (x + 1 + m) = x + 1 + m := wrap_id (by omega)
        have d0 : (0 : Int) < (k : Int) := by omega
        clear hfm hoff hend hz hx hxb
        go_wp2_with fail
        refine (HF.out ⟨x, o.y, 1, o.h⟩ _).mono ?_
        rintro e w2 ⟨rfl, hb2⟩
        have TW2 := Lib.hid (((TW.out.swap).up hb2).up ((Below.refl _ _).alloc (Nat.le_refl _) (box (tb ⟨x, o.y, 1, o.h⟩))))
        have B2 := Lib.hid ((HB.out.1.trans (hb2.mono (Nat.le_trans hbs.out HB.out.1.size))).alloc (Nat.le_trans (Nat.le_trans hbs.out HB.out.1.size) hb2.size) (box (tb ⟨x, o.y, 1, o.h⟩)))
        clear hb2
        generalize tb ⟨x, o.y, 1, o.h⟩ = ln at HL TW2 B2 ⊢
        clear c0 c1 c2 c3 cm
        go_wp2_with (at_builtin; refine wpList_two rfl _ _ rfl (w.heap.size + 1) _ _ _ _ w2.heap.size ln rfl TW2.out rfl (rat_new w2 ln) ?_ (w.alloc (box o)) B2.out hbs.out ?_)
        · rw [linesL_length]; omega
        intro v3 w3 hT3 hB3
        have T3 := Lib.hid hT3.swap
        have HBp := Lib.hid hB3
        obtain ⟨c0, c1, c2, c3⟩ := HA.out.up (hB3.mono (show (w.alloc (box o)).heap.size ≤ w.heap.size + 1 by simp))
        clear hT3 hB3
        go_wp2_with fail
        refine (HF.out ⟨x + 1, o.y, m, o.h⟩ _).mono ?_
        rintro e w5 ⟨rfl, hb5⟩
        have TW5 := Lib.hid ((T3.out.up hb5).up ((Below.refl _ _).alloc (Nat.le_refl _) (box (tb ⟨x + 1, o.y, m, o.h⟩))))
        have B5 := Lib.hid ((HBp.out.trans (hb5.mono (Nat.le_trans hbs.out HBp.out.size))).alloc (Nat.le_trans (Nat.le_trans hbs.out HBp.out.size) hb5.size) (box (tb ⟨x + 1, o.y, m, o.h⟩)))
        clear hb5
        generalize tb ⟨x + 1, o.y, m, o.h⟩ = q at HQ TW5 B5 ⊢
        go_wp2_with (at_builtin; refine wpList_two rfl _ _ rfl (w.heap.size + 1) _ _ _ _ w5.heap.size q rfl TW5.out rfl (rat_new w5 q) ?_ (w.alloc (box o)) B5.out hbs.out ?_)
        · rw [partsL_length]; omega
        intro v6 w6 hT6 hB6
        have T6 := Lib.hid hT6
        have B6 := Lib.hid hB6
        clear hT6 hB6
        go_wp2
        go_roundg (gk - 1)
        case measure => have := HB.out.2; omega
        case rel =>
          refine ⟨k + 1, ?_, by omega, by go_num, ?_, ?_, B6.out⟩
          · have := HB.out.2; omega
          · exact congrArg (Value.int .i64) (by rw [HE.out]; have := HX.out; have := HO2.out; omega)
          · rw [partsL_succ HM.out, linesL_pos hkp, HL.out]
            rw [HQ.out]
            exact T6.out
    · obtain rfl : k = ms.length := by omega
      have hkl : ((ms.length : Int) < (ms.length : Int)) = False := by simp
      go_wp2
      go_ret2
      exact ⟨_, _, rfl, TW.out.own1.row, TW.out.own2.row, HBw.out⟩
end Go.Proofs.YtcdiogifgemjbaaGreat
/- A cut: the rectangles, and what is between them. -/
namespace Go.Proofs.YtcdiogifgemjbaaGreat
open Go.RowKit

def cutP (r : R) (ax : Int) (ms : List Int) : Prop := mayB r = true ∧ ((ax = 1 ∧ fillP r.w ms) ∨ (ax = 2 ∧ fillP r.h ms))
def cutParts (r : R) (ax : Int) (ms : List Int) : Bool → List R
  | false => []
  | true => if ax = 1 then partsL r id ms ms.length else partsL (turnR r) turnR ms ms.length
def cutLines (r : R) (ax : Int) (ms : List Int) : Bool → List R
  | false => []
  | true => if ax = 1 then linesL r id ms ms.length else linesL (turnR r) turnR ms ms.length

/-- What a cut says. -/
def CutSays (r : R) (ax : Int) (ms : List Int) (w : World) (e : Ending) (w' : World) : Prop :=
  ∃ v1 v2 b, e = .returned (.tuple #[v1, v2, .bool b]) ∧ (b = true ↔ cutP r ax ms) ∧ RRow w' v1 (cutParts r ax ms b) ∧ RRow w' v2 (cutLines r ax ms b) ∧ Below w.heap.size w w'

theorem entersC32 : Enters 81 := enters_of Tryz.func81 (by kernel_rfl) rfl
theorem entersC33 : Enters 82 := enters_of Tryz.func82 (by kernel_rfl) rfl
theorem cut_no {r : R} {ax : Int} {ms : List Int} {w w' : World} (h : ¬ cutP r ax ms) (hb : Below w.heap.size w w') : CutSays r ax ms w (.returned (.tuple #[.slice none 0 0, .slice none 0 0, .bool false])) w' :=
  ⟨_, _, false, rfl, by simp [h], .inl ⟨_, _, rfl, rfl⟩, .inl ⟨_, _, rfl, rfl⟩, hb⟩

/-- A rectangle stored over another one. -/
abbrev put4 (w : World) (b : Nat) (q : R) : World := (((w.setCell ⟨b, 0, none⟩ (.int .i64 q.x)).setCell ⟨b, 1, none⟩ (.int .i64 q.y)).setCell ⟨b, 2, none⟩ (.int .i64 q.w)).setCell ⟨b, 3, none⟩ (.int .i64 q.h)
theorem rat_put4 {w : World} {b : Nat} {r : R} (q : R) (h : RAt w b 0 r) : RAt (put4 w b q) b 0 q := by
  obtain ⟨h0, h1, h2, h3⟩ := h
  have ne : ∀ i j : Nat, i ≠ j → (⟨b, i, none⟩ : Addr) ≠ ⟨b, j, none⟩ := fun i j hij he => hij (congrArg Addr.off he)
  refine ⟨?_, ?_, ?_, ?_⟩
  · rw [World.cell?_setCell_other _ _ _ _ (ne 3 0 (by omega)), World.cell?_setCell_other _ _ _ _ (ne 2 0 (by omega)), World.cell?_setCell_other _ _ _ _ (ne 1 0 (by omega))]
    exact World.cell?_setCell_same _ _ _ h0
  · rw [World.cell?_setCell_other _ _ _ _ (ne 3 1 (by omega)), World.cell?_setCell_other _ _ _ _ (ne 2 1 (by omega))]
    exact World.cell?_setCell_same _ _ _ ((World.cell?_setCell_other _ _ _ _ (ne 0 1 (by omega))).trans h1)
  · rw [World.cell?_setCell_other _ _ _ _ (ne 3 2 (by omega))]
    exact World.cell?_setCell_same _ _ _ ((World.cell?_setCell_other _ _ _ _ (ne 1 2 (by omega))).trans ((World.cell?_setCell_other _ _ _ _ (ne 0 2 (by omega))).trans h2))
  · exact World.cell?_setCell_same _ _ _ ((World.cell?_setCell_other _ _ _ _ (ne 2 3 (by omega))).trans ((World.cell?_setCell_other _ _ _ _ (ne 1 3 (by omega))).trans ((World.cell?_setCell_other _ _ _ _ (ne 0 3 (by omega))).trans h3)))
theorem below_put4 {B : Nat} {w w' : World} (h : Below B w w') {b : Nat} (hb : B ≤ b) (q : R) : Below B w (put4 w' b q) := (((h.setCell hb _).setCell hb _).setCell hb _).setCell hb _

set_option maxRecDepth 100000 in
set_option maxHeartbeats 1600000 in
theorem cut_any (r : R) (ax : Int) (v : Value) (ms : List Int) (w : World) (hf : r.fits) (hr : IRow w v ms) (hlen : ms.length ≤ 100000) :
    Calls Tryz.prog 64 #[val r, .int .u8 ax, v] w fun e w' => CutSays r ax ms w e w' := by
  obtain ⟨a, cap, rfl⟩ := hr.shape
  have HR := Lib.hid hr
  have B1 : Hid (Below w.heap.size w (w.alloc (box r))) := (Below.refl _ _).alloc (Nat.le_refl _) _
  have H := Lib.hid (may_one r (w.alloc (box r)) hf (w.heap.size + 1) (by simp))
  have HA : Hid (RAt (w.alloc (box r)) w.heap.size 0 r) := rat_new w r
  have HZ : Hid (∀ i, (w.alloc (box r)).frozen? ⟨w.heap.size, i, none⟩ = false) := fun i => by
    have hh : (w.alloc (box r)).heap[w.heap.size]? = some (box r) := heap_alloc_new w _
    simp only [World.frozen?, hh]
    simp
  clear hr hf
  rcases bool_cases (mayB r) with hm | hm
  case inr =>
    have hn : Hid (¬ cutP r ax ms) := fun h => by have := h.1; rw [hm] at this; cases this
    rw [hm] at H
    go_enter Tryz.func64, Tryz.ntmps64
    go_wp2_with fail
    refine H.out.mono ?_
    rintro e w2 ⟨rfl, hb2⟩
    have B2 := Lib.hid (B1.out.trans (hb2.mono B1.out.size))
    clear hb2
    go_wp2
    go_ret3
    exact cut_no hn.out B2.out
  have hb := (mayB_iff r).1 hm
  have HM : Hid ((0 ≤ r.x ∧ 1 ≤ r.w ∧ r.x + r.w ≤ 10000) ∧ 0 ≤ r.y ∧ 1 ≤ r.h ∧ r.y + r.h ≤ 10000) := hb
  have HT : Hid (mayB (turnR r) = true) := ((mayB_iff (turnR r)).2 ⟨hb.2, hb.1⟩ : mayB (turnR r) = true)
  clear hb
  rw [hm] at H
  by_cases h2 : ax = 2
  · subst h2
    go_enter Tryz.func64, Tryz.ntmps64
    go_wp2_with fail
    refine H.out.mono ?_
    rintro e w2 ⟨rfl, hb2⟩
    have B2 := Lib.hid (B1.out.trans (hb2.mono B1.out.size))
    have HA2 := Lib.hid (HA.out.up hb2)
    have HZ2 : Hid (∀ i, w2.frozen? ⟨w.heap.size, i, none⟩ = false) := fun i => (hb2.frozen (p := ⟨w.heap.size, i, none⟩) (by simp)).trans (HZ.out i)
    clear hb2
    obtain ⟨c0, c1, c2, c3⟩ := HA2.out
    go_wp2_with fail
    refine (turn_any r w2).mono ?_
    rintro e w3 ⟨rfl, hb3⟩
    have B3 := Lib.hid (B2.out.trans (hb3.mono B2.out.size))
    have lt2 := lt_of_cell c0
    clear c0 c1 c2 c3
    obtain ⟨c0, c1, c2, c3⟩ := HA2.out.up hb3
    have z0 := (hb3.frozen (p := ⟨w.heap.size, 0, none⟩) lt2).trans (HZ2.out 0)
    have z1 := (hb3.frozen (p := ⟨w.heap.size, 1, none⟩) lt2).trans (HZ2.out 1)
    have z2 := (hb3.frozen (p := ⟨w.heap.size, 2, none⟩) lt2).trans (HZ2.out 2)
    have z3 := (hb3.frozen (p := ⟨w.heap.size, 3, none⟩) lt2).trans (HZ2.out 3)
    have P4 := Lib.hid (rat_put4 (turnR r) (HA2.out.up hb3))
    have B4 := Lib.hid (below_put4 B3.out (Nat.le_refl _) (turnR r))
    clear hb3
    go_wp2_with fail
    change Calls _ _ _ (put4 w3 w.heap.size (turnR r)) _
    generalize put4 w3 w.heap.size (turnR r) = w4 at P4 B4 ⊢
    clear c0 c1 c2 c3 z0 z1 z2 z3
    obtain ⟨c0, c1, c2, c3⟩ := P4.out
    refine (fill_any (turnR r).w _ ms w4 (HR.out.up B4.out) (by omega) (by have := HM.out; (try simp only [turnR]); omega) (by have := HM.out; (try simp only [turnR]); omega)).mono ?_
    rintro e w5 ⟨⟨b, rfl, hfl⟩, rfl⟩
    have HFl := Lib.hid hfl
    clear hfl
    cases b with
    | false =>
      go_wp2
      go_ret3
      refine cut_no (fun h => ?_) B4.out
      rcases h.2 with h | h
      · exact absurd (HFl.out.2 (by have := h.1; omega)) (by simp)
      · exact absurd (HFl.out.2 (h.2)) (by simp)
    | true =>
      have hfp := HFl.out.1 rfl
      have HFp := Lib.hid hfp
      clear hfp
      go_wp2_with fail
      refine (across_any 82 entersC33 turnR turn_any (turnR r) _ ms w4 HT.out (HR.out.up B4.out) hlen HFp.out.1).mono ?_
      rintro e w6 ⟨v1, v2, rfl, hr1, hr2, hb6⟩
      have R1 := Lib.hid hr1
      have R2 := Lib.hid hr2
      have B6 := Lib.hid (B4.out.trans (hb6.mono B4.out.size))
      clear hr1 hr2 hb6
      go_wp2
      go_ret3
      exact ⟨v1, v2, true, rfl, ⟨fun _ => ⟨hm, .inr ⟨rfl, HFp.out⟩⟩, fun _ => rfl⟩, R1.out, R2.out, B6.out⟩
  · have e2 : (ax == 2) = false := by rw [beq_eq_false_iff_ne]; exact h2
    by_cases h1 : ax = 1
    · subst h1
      go_enter Tryz.func64, Tryz.ntmps64
      go_wp2_with fail
      refine H.out.mono ?_
      rintro e w2 ⟨rfl, hb2⟩
      have B4 := Lib.hid (B1.out.trans (hb2.mono B1.out.size))
      obtain ⟨c0, c1, c2, c3⟩ := HA.out.up hb2
      clear hb2
      go_wp2_with fail
      refine (fill_any r.w _ ms w2 (HR.out.up B4.out) (by omega) (by have := HM.out; (try simp only [turnR]); omega) (by have := HM.out; (try simp only [turnR]); omega)).mono ?_
      rintro e w5 ⟨⟨b, rfl, hfl⟩, rfl⟩
      have HFl := Lib.hid hfl
      clear hfl
      cases b with
      | false =>
        go_wp2
        go_ret3
        refine cut_no (fun h => ?_) B4.out
        rcases h.2 with h | h
        · exact absurd (HFl.out.2 (h.2)) (by simp)
        · exact absurd (HFl.out.2 (by have := h.1; omega)) (by simp)
      | true =>
        have hfp := HFl.out.1 rfl
        have HFp := Lib.hid hfp
        clear hfp
        go_wp2_with fail
        refine (across_any 81 entersC32 id ident_any r _ ms w2 hm (HR.out.up B4.out) hlen HFp.out.1).mono ?_
        rintro e w6 ⟨v1, v2, rfl, hr1, hr2, hb6⟩
        have R1 := Lib.hid hr1
        have R2 := Lib.hid hr2
        have B6 := Lib.hid (B4.out.trans (hb6.mono B4.out.size))
        clear hr1 hr2 hb6
        go_wp2
        go_ret3
        exact ⟨v1, v2, true, rfl, ⟨fun _ => ⟨hm, .inl ⟨rfl, HFp.out⟩⟩, fun _ => rfl⟩, R1.out, R2.out, B6.out⟩
    · have e1 : (ax == 1) = false := by rw [beq_eq_false_iff_ne]; exact h1
      have hn : Hid (¬ cutP r ax ms) := fun h => by
        rcases h.2 with h | h
        · exact h1 h.1
        · exact h2 h.1
      clear h1 h2
      go_enter Tryz.func64, Tryz.ntmps64
      go_wp2_with fail
      refine H.out.mono ?_
      rintro e w2 ⟨rfl, hb2⟩
      have B2 := Lib.hid (B1.out.trans (hb2.mono B1.out.size))
      clear hb2
      go_wp2
      go_ret3
      exact cut_no hn.out B2.out
end Go.Proofs.YtcdiogifgemjbaaGreat
/- Two rows of numbers of the call's own, side by side: one is added to, the other stays. -/
namespace Go.Proofs.YtcdiogifgemjbaaGreat
open Go.RowKit

def OwnN (w : World) (base : Nat) (v : Value) (l : List Int) : Prop := w.ownsRow base 3 1 v l.length (ints l)
theorem iinfo : ∃ i, Tryz.prog.info? 3 = some i ∧ i.zero = some (.int .i64 0) ∧ i.size = 1 ∧ i.bytes = 8 := info_parts (P := Tryz.prog) (e := 3) (z := .int .i64 0) (size := 1) (bytes := 8) (by kernel_rfl)
theorem OwnN.up {w w' : World} {base : Nat} {v : Value} {l : List Int} (h : OwnN w base v l) (hb : Below w.heap.size w w') : OwnN w' base v l := owns_up h hb
theorem OwnN.nil (w : World) (base : Nat) : OwnN w base (.slice none 0 0) [] := World.ownsRow_nil w base _ _
theorem OwnN.empty (w : World) (base : Nat) (hb : base ≤ w.heap.size) : OwnN (w.alloc (.cells #[] 3)) base (.slice (some ⟨w.heap.size, 0, none⟩) 0 0) [] := World.ownsRow_made w #[] 0 hb (Nat.zero_le _) (by simp)
theorem OwnN.row {w : World} {base : Nat} {v : Value} {l : List Int} (h : OwnN w base v l) : IRow w v l := by
  rcases h.2 with ⟨rfl, hn⟩ | ⟨g, cap, cur, rfl, hb, hg, hn, hm, hs, ht⟩
  · exact .inl ⟨_, _, rfl, List.length_eq_zero_iff.1 hn⟩
  · refine .inr ⟨g, 0, cap, rfl, fun j r hj => ?_⟩
    have := h.cells (g := g) rfl j (.int .i64 r) (by simp [ints, hj])
    rw [Go.WideShapes.add_plain] at this
    exact this

theorem appendI_place {w : World} {base : Nat} {v : Value} {l : List Int} (h : OwnN w base v l) (g : Nat) (r : Int) (hr : w.cell? ⟨g, 0, none⟩ = some (.int .i64 r)) (hlen : l.length ≤ 100000) (hbase : base ≤ w.heap.size) (ty : TypeId) :
    ∃ v' w', (Builtin.append_ #[27, 27] ty #[v, .slice (some ⟨g, 0, none⟩) 1 1]).run Tryz.prog w = .ok v' w' ∧ OwnN w' base v' (l ++ [r]) ∧ w.grownBy w' v.ownBlock ∧ (v'.ownBlock = v.ownBlock ∨ v'.ownBlock = some w.heap.size) := by
  obtain ⟨i, hi, hz0, hz1, hz2⟩ := iinfo
  have hnews : ∀ j u, (ints [r])[j]? = some u → w.cell? ((⟨g, 0, none⟩ : Addr).add j) = some u := fun j u hu => by
    cases j with
    | zero => simp [ints] at hu; subst hu; simpa [Go.WideShapes.add_plain] using hr
    | succ j => simp [ints] at hu
  have hl : (ints [r]).length = 1 * 1 := rfl
  have hil : (ints l).length = l.length := ints_length l
  obtain ⟨v', w', hrun, hown, hg, -⟩ := run_append_own (P := Tryz.prog) w base 27 ty 3 i (.int .i64 0) 1 8 Tryz.underlying27 hi hz0 hz1 hz2 rfl (by decide) v l.length (ints l) h ⟨g, 0, none⟩ 1 1 (ints [r]) hl hnews (ints_one _) (by unfold maxLen; omega) (by omega) hbase
  refine ⟨v', w', hrun, ?_, hg, ?_⟩
  · have h2 : w'.ownsRow base 3 1 v' (l ++ [r]).length (ints (l ++ [r])) := by
      rw [ints_append, List.length_append]; exact hown
    exact h2
  · rcases h.2 with ⟨rfl, hn⟩ | ⟨g', cap, cur, rfl, hbg, hgg, hnc, hcm, hcs, htake⟩
    · have hr1 := run_append_nil (P := Tryz.prog) w 27 ty 3 i (.int .i64 0) Tryz.underlying27 hi hz0 ⟨g, 0, none⟩ 1 1 (ints [r]) (by rw [hz1]; exact hl) hnews (by omega) (by omega) (by rw [hz2]; omega)
      rw [hrun] at hr1
      right
      cases hr1
      rfl
    · by_cases hroom : l.length + 1 ≤ cap
      · have hr1 := run_append_room (P := Tryz.prog) w 27 ty 3 i Tryz.underlying27 hi g' l.length cap cur hgg ⟨g, 0, none⟩ 1 1 (ints [r]) (by rw [hz1]; exact hl) hnews (ints_one _) hroom (by rw [hz1, hl, hcs]; omega)
        rw [hrun] at hr1
        left
        cases hr1
        rfl
      · have hr1 := run_append_grow (P := Tryz.prog) w 27 ty 3 i (.int .i64 0) Tryz.underlying27 hi hz0 ⟨g', 0, none⟩ l.length cap (ints l) (by rw [hz1]; exact h.1) (h.cells (g := g') rfl) ⟨g, 0, none⟩ 1 1 (ints [r]) (by rw [hz1]; exact hl) hnews (by omega) (by omega) (growslice_fits (by omega) (by rw [hz2]; omega))
        rw [hrun] at hr1
        right
        cases hr1
        rfl
theorem OwnN.kept {w w' : World} {base : Nat} {v : Value} {l : List Int} {r : Option Nat} (h : OwnN w base v l) (hg : w.grownBy w' r) (hn : v.ownBlock = none ∨ v.ownBlock ≠ r) : OwnN w' base v l := World.ownsRow.kept h hg hn

/-- Two own rows, not in one block. -/
structure TwoI (w : World) (base : Nat) (v1 : Value) (l1 : List Int) (v2 : Value) (l2 : List Int) : Prop where
  own1 : OwnN w base v1 l1
  own2 : OwnN w base v2 l2
  ne : ∀ k, v1.ownBlock = some k → v2.ownBlock ≠ some k
theorem TwoI.swap {w : World} {base : Nat} {v1 : Value} {l1 : List Int} {v2 : Value} {l2 : List Int} (h : TwoI w base v1 l1 v2 l2) : TwoI w base v2 l2 v1 l1 := ⟨h.own2, h.own1, fun k h2 h1 => h.ne k h1 h2⟩
theorem TwoI.up {w w' : World} {base : Nat} {v1 : Value} {l1 : List Int} {v2 : Value} {l2 : List Int} (h : TwoI w base v1 l1 v2 l2) (hb : Below w.heap.size w w') : TwoI w' base v1 l1 v2 l2 := ⟨h.own1.up hb, h.own2.up hb, h.ne⟩
theorem TwoI.alloc {w : World} {base : Nat} {v1 : Value} {l1 : List Int} {v2 : Value} {l2 : List Int} (h : TwoI w base v1 l1 v2 l2) (o : Obj) : TwoI (w.alloc o) base v1 l1 v2 l2 := h.up ((Below.refl _ _).alloc (Nat.le_refl _) _)
/-- A block that is new: no row of the two lies there. -/
def Far (base : Nat) (v1 v2 : Value) (g : Nat) : Prop := v1.ownBlock ≠ some g ∧ v2.ownBlock ≠ some g

/-- One of two is added to. -/
theorem wp_twoI {w : World} {o : Oper} {a : Act} {K : Act → World → Prop} {Q : Exit → Act → World → Prop} (s x : Operand)
    (ho : o.op = .call { callee := .builtin .append, args := #[s, x], argTypes := #[27, 27] })
    (base : Nat) (v1 v2 : Value) (l1 l2 : List Int) (g : Nat) (r : Int) (hs : a.eval s = v1) (hT : TwoI w base v1 l1 v2 l2) (hx : a.eval x = .slice (some ⟨g, 0, none⟩) 1 1) (hr : w.cell? ⟨g, 0, none⟩ = some (.int .i64 r)) (hlen : l1.length ≤ 100000)
    (w0 : World) (hb : Below base w0 w) (hbase0 : base ≤ w0.heap.size)
    (h : ∀ v' w', TwoI w' base v' (l1 ++ [r]) v2 l2 → Below base w0 w' → w.grownBy w' v1.ownBlock → K (a.put o.dst v') w') : o.wp Tryz.prog a w K Q := by
  have hbase : base ≤ w.heap.size := Nat.le_trans hbase0 hb.size
  obtain ⟨v', w', hrun, hown, hg, hpl⟩ := appendI_place hT.own1 g r hr hlen hbase o.type
  have hT' : TwoI w' base v' (l1 ++ [r]) v2 l2 := by
    refine ⟨hown, hT.own2.kept hg ?_, fun k h1 h2 => ?_⟩
    · cases h2 : v2.ownBlock with
      | none => exact .inl rfl
      | some k => exact .inr fun h1 => hT.ne k h1.symm h2
    · rcases hpl with hp | hp
      · exact hT.ne k (hp ▸ h1) h2
      · have h3 := (hT.own2.lt k h2).2
        rw [hp] at h1
        have := Option.some.inj h1
        omega
  have hb' : Below base w0 w' := hb.grown hg hbase (fun k hk => (hT.own1.lt k hk).1)
  unfold Oper.wp execOp
  simp only [ho, resolve, invoke, builtin, Sem.run_bind, Sem.run_pure, Result.andThen_ok, List.map_toArray, List.map_cons, List.map_nil, hs, hx, hrun]
  exact h v' w' hT' hb' hg
theorem step_twoI {w : World} {ops : Array Oper} {o : Oper} {a : Act} {K : Act → World → Prop} {Q : Exit → Act → World → Prop} {E : Prop} (hgd : o.guard = none) (s x : Operand)
    (ho : o.op = .call { callee := .builtin .append, args := #[s, x], argTypes := #[27, 27] })
    (base : Nat) (v1 v2 : Value) (l1 l2 : List Int) (g : Nat) (r : Int) (hs : a.eval s = v1) (hT : TwoI w base v1 l1 v2 l2) (hx : a.eval x = .slice (some ⟨g, 0, none⟩) 1 1) (hr : w.cell? ⟨g, 0, none⟩ = some (.int .i64 r)) (hlen : l1.length ≤ 100000)
    (w0 : World) (hb : Below base w0 w) (hbase0 : base ≤ w0.heap.size)
    (h : ∀ v' w', TwoI w' base v' (l1 ++ [r]) v2 l2 → Below base w0 w' → w.grownBy w' v1.ownBlock → K (a.put o.dst v') w') : if Region.wanted o (yielded ops a.tmps) = true then Oper.wp Tryz.prog o a w K Q else E := by
  have hw : Region.wanted o (yielded ops a.tmps) = true := by simp [Region.wanted, hgd]
  rw [if_pos hw]
  exact wp_twoI s x ho base v1 v2 l1 l2 g r hs hT hx hr hlen w0 hb hbase0 h
theorem wpList_twoI {w : World} {ops : Array Oper} {rest : List Oper} {o : Oper} {a : Act} {Q : Exit → Act → World → Prop} (hgd : o.guard = none) (s x : Operand)
    (ho : o.op = .call { callee := .builtin .append, args := #[s, x], argTypes := #[27, 27] })
    (base : Nat) (v1 v2 : Value) (l1 l2 : List Int) (g : Nat) (r : Int) (hs : a.eval s = v1) (hT : TwoI w base v1 l1 v2 l2) (hx : a.eval x = .slice (some ⟨g, 0, none⟩) 1 1) (hr : w.cell? ⟨g, 0, none⟩ = some (.int .i64 r)) (hlen : l1.length ≤ 100000)
    (w0 : World) (hb : Below base w0 w) (hbase0 : base ≤ w0.heap.size)
    (h : ∀ v' w', TwoI w' base v' (l1 ++ [r]) v2 l2 → Below base w0 w' → w.grownBy w' v1.ownBlock → wpList Tryz.prog ops Q rest (a.put o.dst v') w') : wpList Tryz.prog ops Q (o :: rest) a w :=
  wpList_plain hgd fun _ hK => wp_twoI s x ho base v1 v2 l1 l2 g r hs hT hx hr hlen w0 hb hbase0 fun v' w' h1 h2 h3 => hK _ _ (h v' w' h1 h2 h3)
end Go.Proofs.YtcdiogifgemjbaaGreat
