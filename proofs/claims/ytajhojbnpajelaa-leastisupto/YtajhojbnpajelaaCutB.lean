/- A cut across: what across makes. -/
import Derived.Test.YtajhojbnpajelaaCutA
namespace Go.Proofs.Ytajhojbnpajelaa
open Go.RowKit

def partK (o : R) (tb : R → R) (ms : List Int) (k : Nat) : R := tb ⟨o.x + offS ms k, o.y, ms.getD k 0, o.h⟩
def lineK (o : R) (tb : R → R) (ms : List Int) (k : Nat) : R := tb ⟨o.x + endS ms k, o.y, 1, o.h⟩
/-- The first k parts. -/
def partsL (o : R) (tb : R → R) (ms : List Int) : Nat → List R
  | 0 => []
  | k + 1 => partsL o tb ms k ++ [partK o tb ms k]
/-- What is between them. -/
def linesL (o : R) (tb : R → R) (ms : List Int) : Nat → List R
  | 0 => []
  | 1 => []
  | k + 2 => linesL o tb ms (k + 1) ++ [lineK o tb ms (k + 1)]
theorem partsL_length (o : R) (tb : R → R) (ms : List Int) (k : Nat) : (partsL o tb ms k).length = k := by
  induction k with
  | zero => rfl
  | succ k ih => simp [partsL, ih]
theorem linesL_length (o : R) (tb : R → R) (ms : List Int) (k : Nat) : (linesL o tb ms k).length = k - 1 := by
  induction k with
  | zero => rfl
  | succ k ih =>
    cases k with
    | zero => rfl
    | succ k => simp only [linesL, List.length_append, ih]; simp
theorem partsL_succ {o : R} {tb : R → R} {ms : List Int} {k : Nat} {m : Int} (h : ms[k]? = some m) : partsL o tb ms (k + 1) = partsL o tb ms k ++ [tb ⟨o.x + offS ms k, o.y, m, o.h⟩] := by
  rw [partsL, partK, List.getD_eq_getElem?_getD, h]; rfl
theorem linesL_pos {o : R} {tb : R → R} {ms : List Int} {k : Nat} (h : 0 < k) : linesL o tb ms (k + 1) = linesL o tb ms k ++ [tb ⟨o.x + endS ms k, o.y, 1, o.h⟩] := by
  cases k with
  | zero => omega
  | succ k => rfl

theorem off_le {whole : Int} {ms : List Int} {n : Nat} (h : fitS whole ms n) {k : Nat} (hk : k ≤ n) (hl : k ≤ ms.length) (h0 : 1 ≤ whole) : 0 ≤ endS ms k ∧ endS ms k ≤ whole := by
  cases k with
  | zero => rw [end_zero]; omega
  | succ k =>
    have hm := List.getElem?_eq_getElem (show k < ms.length by omega)
    have h1 := h k _ (by omega) hm
    have h2 := off_nonneg h k (by omega) (by omega)
    rw [end_succ hm]
    omega

set_option maxRecDepth 100000 in
set_option maxHeartbeats 3200000 in
theorem across_any (F : Nat) (hE : Enters F) (tb : R → R) (hF : ∀ (r : R) (W : World), Calls Try.prog F #[val r] W fun e w' => e = .returned (val (tb r)) ∧ Below W.heap.size W w')
    (o : R) (v : Value) (ms : List Int) (w : World) (ho : mayB o = true) (hr : IRow w v ms) (hlen : ms.length ≤ 1000) (hfit : fitS o.w ms ms.length) :
    Calls Try.prog 65 #[val o, v, .func (.func F) #[] #[]] w fun e w' => ∃ v1 v2, e = .returned (.tuple #[v1, v2]) ∧ RRow w' v1 (partsL o tb ms ms.length) ∧ RRow w' v2 (linesL o tb ms ms.length) ∧ Below w.heap.size w w' := by
  obtain ⟨a, cap, rfl⟩ := hr.shape
  have hent : ∀ (args : Array Value) (w : World), (callFunc F args).run Try.prog w = .ok (.enter F args) w := hE
  have hb := (mayB_iff o).1 ho
  have HR := Lib.hid hr
  have HF := Lib.hid hF
  have HT := Lib.hid hfit
  have HO : Hid ((0 ≤ o.x ∧ 1 ≤ o.w ∧ o.x + o.w ≤ 10000) ∧ 0 ≤ o.y ∧ 1 ≤ o.h ∧ o.y + o.h ≤ 10000) := hb
  clear hr hF hfit hE hb
  have B1 : Hid (Below w.heap.size w (w.alloc (box o))) := (Below.refl _ _).alloc (Nat.le_refl _) _
  have HA : Hid (RAt (w.alloc (box o)) w.heap.size 0 o) := rat_new w o
  go_enter Try.func65, Try.ntmps65
  go_wp2
  go_loopg [6, 7, 8, 15] (ms.length + 1) (fun g s6 s7 s8 i wr => ∃ k : Nat, g + k = ms.length + 1 ∧ k ≤ ms.length ∧ i = .int .i64 k ∧ s8 = .int .i64 (o.x + endS ms k) ∧ Two wr (w.heap.size + 1) s6 (partsL o tb ms k) s7 (linesL o tb ms k) ∧ Below (w.heap.size + 1) (w.alloc (box o)) wr)
  case atStart => exact ⟨0, by omega, by omega, rfl, by simp [end_zero], ⟨Owns.nil _ _, Owns.nil _ _, fun k h => by cases h⟩, Below.refl _ _⟩
  case round =>
    obtain ⟨k, hg, hk, rfl, rfl, hT, hB⟩ := hrel
    have TW := Lib.hid hT
    have HB : Hid (Below (w.heap.size + 1) (w.alloc (box o)) wr ∧ gk + k = ms.length + 1) := ⟨hB, hg⟩
    clear hT hB hg
    have HBw : Hid (Below w.heap.size w wr) := B1.out.trans (HB.out.1.mono (by omega))
    have hA0 := HB.out.1.mono (show (w.alloc (box o)).heap.size ≤ w.heap.size + 1 by simp)
    have HA1 := Lib.hid (HA.out.up hA0)
    clear hA0
    by_cases hlt : k < ms.length
    · obtain ⟨m, hm⟩ : ∃ m, ms[k]? = some m := ⟨_, List.getElem?_eq_getElem hlt⟩
      obtain ⟨b, off, rfl, hat⟩ := HR.out.place (by omega)
      have cm := (HBw.out.cell (lt_of_cell (hat k m hm))).trans (hat k m hm)
      clear hat
      have HM := Lib.hid hm
      clear hm
      obtain ⟨c0, c1, c2, c3⟩ := HA1.out
      have hfm := HT.out k m hlt HM.out
      have hoff := off_nonneg HT.out k hk hk
      have hend := off_le HT.out hk hk HO.out.1.2.1
      have HE := Lib.hid (end_succ HM.out)
      have hbs : Hid (w.heap.size + 1 ≤ (w.alloc (box o)).heap.size) := (by simp : w.heap.size + 1 ≤ (w.alloc (box o)).heap.size)
      rcases Nat.eq_zero_or_pos k with hk0 | hkp
      · have hz : offS ms k = 0 := by rw [hk0]; rfl
        have he0 : endS ms k = 0 := by rw [hk0]; rfl
        have hl0 : Hid (linesL o tb ms (k + 1) = linesL o tb ms k) := (by rw [hk0]; rfl : linesL o tb ms (k + 1) = linesL o tb ms k)
        obtain ⟨x, hx⟩ : ∃ x, o.x + endS ms k = x := ⟨_, rfl⟩
        rw [hx]
        have HX : Hid (x = o.x) := (by omega : x = o.x)
        have HO2 : Hid (offS ms k = 0) := hz
        have HQ : Hid (tb ⟨o.x + offS ms k, o.y, m, o.h⟩ = tb ⟨x, o.y, m, o.h⟩) := (by rw [HO2.out, HX.out, Int.add_zero] : tb ⟨o.x + offS ms k, o.y, m, o.h⟩ = tb ⟨x, o.y, m, o.h⟩)
        have hxb : 0 ≤ x ∧ x + m ≤ 10000 ∧ 1 ≤ m := by have := HO.out; omega
        have s2 : IntKind.i64.wrap (x + m) = x + m := wrap_id (by omega)
        have HBp := Lib.hid HB.out.1
        have d0 : decide (0 < k) = false := by simp; omega
        clear hfm hoff hend hz he0 hx hxb hk0
        go_wp2_with fail
        refine (HF.out ⟨x, o.y, m, o.h⟩ _).mono ?_
        rintro e w5 ⟨rfl, hb5⟩
        have TW5 := Lib.hid ((TW.out.up hb5).up ((Below.refl _ _).alloc (Nat.le_refl _) (box (tb ⟨x, o.y, m, o.h⟩))))
        have B5 := Lib.hid ((HBp.out.trans (hb5.mono (Nat.le_trans hbs.out HBp.out.size))).alloc (Nat.le_trans (Nat.le_trans hbs.out HBp.out.size) hb5.size) (box (tb ⟨x, o.y, m, o.h⟩)))
        clear hb5
        generalize tb ⟨x, o.y, m, o.h⟩ = q at HQ TW5 B5 ⊢
        go_wp2_with (at_builtin; refine wpList_two rfl _ _ rfl (w.heap.size + 1) _ _ _ _ w5.heap.size q rfl TW5.out rfl (rat_new w5 q) ?_ (w.alloc (box o)) B5.out hbs.out ?_)
        · rw [partsL_length]; omega
        intro v6 w6 hT6 hB6
        have T6 := Lib.hid hT6
        have B6 := Lib.hid hB6
        clear hT6 hB6
        go_wp2
        go_roundg (gk - 1)
        case measure => have := HB.out.2; omega
        case rel =>
          refine ⟨k + 1, ?_, by omega, by go_num, ?_, ?_, B6.out⟩
          · have := HB.out.2; omega
          · exact congrArg (Value.int .i64) (by rw [HE.out]; have := HX.out; have := HO2.out; omega)
          · rw [partsL_succ HM.out, hl0.out]
            rw [HQ.out]
            exact T6.out
      · have hz := end_pos ms hkp
        obtain ⟨x, hx⟩ : ∃ x, o.x + endS ms k = x := ⟨_, rfl⟩
        rw [hx]
        have HX : Hid (x = o.x + endS ms k) := hx.symm
        have HO2 : Hid (endS ms k + 1 = offS ms k) := hz
        have HL : Hid (tb ⟨o.x + endS ms k, o.y, 1, o.h⟩ = tb ⟨x, o.y, 1, o.h⟩) := (by rw [hx] : tb ⟨o.x + endS ms k, o.y, 1, o.h⟩ = tb ⟨x, o.y, 1, o.h⟩)
        have HQ : Hid (tb ⟨o.x + offS ms k, o.y, m, o.h⟩ = tb ⟨x + 1, o.y, m, o.h⟩) := (by rw [← hz, ← hx, Int.add_assoc] : tb ⟨o.x + offS ms k, o.y, m, o.h⟩ = tb ⟨x + 1, o.y, m, o.h⟩)
        have hxb : 0 ≤ x ∧ x + 1 + m ≤ 10000 ∧ 1 ≤ m := by have := HO.out; omega
        have s1 : IntKind.i64.wrap (x + 1) = x + 1 := wrap_id (by omega)
        have s2 : IntKind.i64.wrap (x + 1 + m) = x + 1 + m := wrap_id (by omega)
        have d0 : (0 : Int) < (k : Int) := by omega
        clear hfm hoff hend hz hx hxb
        go_wp2_with fail
        refine (HF.out ⟨x, o.y, 1, o.h⟩ _).mono ?_
        rintro e w2 ⟨rfl, hb2⟩
        have TW2 := Lib.hid (((TW.out.swap).up hb2).up ((Below.refl _ _).alloc (Nat.le_refl _) (box (tb ⟨x, o.y, 1, o.h⟩))))
        have B2 := Lib.hid ((HB.out.1.trans (hb2.mono (Nat.le_trans hbs.out HB.out.1.size))).alloc (Nat.le_trans (Nat.le_trans hbs.out HB.out.1.size) hb2.size) (box (tb ⟨x, o.y, 1, o.h⟩)))
        clear hb2
        generalize tb ⟨x, o.y, 1, o.h⟩ = ln at HL TW2 B2 ⊢
        clear c0 c1 c2 c3 cm
        go_wp2_with (at_builtin; refine wpList_two rfl _ _ rfl (w.heap.size + 1) _ _ _ _ w2.heap.size ln rfl TW2.out rfl (rat_new w2 ln) ?_ (w.alloc (box o)) B2.out hbs.out ?_)
        · rw [linesL_length]; omega
        intro v3 w3 hT3 hB3
        have T3 := Lib.hid hT3.swap
        have HBp := Lib.hid hB3
        obtain ⟨c0, c1, c2, c3⟩ := HA.out.up (hB3.mono (show (w.alloc (box o)).heap.size ≤ w.heap.size + 1 by simp))
        clear hT3 hB3
        go_wp2_with fail
        refine (HF.out ⟨x + 1, o.y, m, o.h⟩ _).mono ?_
        rintro e w5 ⟨rfl, hb5⟩
        have TW5 := Lib.hid ((T3.out.up hb5).up ((Below.refl _ _).alloc (Nat.le_refl _) (box (tb ⟨x + 1, o.y, m, o.h⟩))))
        have B5 := Lib.hid ((HBp.out.trans (hb5.mono (Nat.le_trans hbs.out HBp.out.size))).alloc (Nat.le_trans (Nat.le_trans hbs.out HBp.out.size) hb5.size) (box (tb ⟨x + 1, o.y, m, o.h⟩)))
        clear hb5
        generalize tb ⟨x + 1, o.y, m, o.h⟩ = q at HQ TW5 B5 ⊢
        go_wp2_with (at_builtin; refine wpList_two rfl _ _ rfl (w.heap.size + 1) _ _ _ _ w5.heap.size q rfl TW5.out rfl (rat_new w5 q) ?_ (w.alloc (box o)) B5.out hbs.out ?_)
        · rw [partsL_length]; omega
        intro v6 w6 hT6 hB6
        have T6 := Lib.hid hT6
        have B6 := Lib.hid hB6
        clear hT6 hB6
        go_wp2
        go_roundg (gk - 1)
        case measure => have := HB.out.2; omega
        case rel =>
          refine ⟨k + 1, ?_, by omega, by go_num, ?_, ?_, B6.out⟩
          · have := HB.out.2; omega
          · exact congrArg (Value.int .i64) (by rw [HE.out]; have := HX.out; have := HO2.out; omega)
          · rw [partsL_succ HM.out, linesL_pos hkp, HL.out]
            rw [HQ.out]
            exact T6.out
    · obtain rfl : k = ms.length := by omega
      have hkl : ((ms.length : Int) < (ms.length : Int)) = False := by simp
      go_wp2
      go_ret2
      exact ⟨_, _, rfl, TW.out.own1.row, TW.out.own2.row, HBw.out⟩
end Go.Proofs.Ytajhojbnpajelaa
