/- Texts of this seat, 3 in one file. -/
import Derived.Test.YtcdiogifgemjbaaGreatG05
import Derived.Test.YtcdiogifgemjbaaGreatG07
import Derived.Test.YtcdiogifgemjbaaGreatG01
import Derived.Test.YtcdiogifgemjbaaGreatG02
/- Even sizes: the document's answer. -/
namespace Go.Proofs.YtcdiogifgemjbaaGreat
open Go.RowKit

def okEv (s n : Int) : Prop := 1 ≤ n ∧ n ≤ 20000 ∧ 2 * n - 1 ≤ s ∧ s ≤ 2147483647
/-- The i-th of n even sizes of s. -/
def evZ (s n : Int) (i : Nat) : Int := if (i : Int) < (s - (n - 1)) % n then (s - (n - 1)) / n + 1 else (s - (n - 1)) / n
def evL (s : Int) (n : Nat) : List Int := (List.range n).map (evZ s n)
theorem evL_len (s : Int) (n : Nat) : (evL s n).length = n := by simp [evL]
theorem evL_step {s : Int} {n k : Nat} (hk : k < n) : (evL s n).take (k + 1) = (evL s n).take k ++ [evZ s n k] := by
  unfold evL
  rw [List.take_add_one, List.getElem?_map, List.getElem?_range hk]; rfl
theorem evL_get {s : Int} {n k : Nat} (hk : k < n) : (evL s n)[k]? = some (evZ s n k) := by
  unfold evL
  rw [List.getElem?_map, List.getElem?_range hk]; rfl
theorem ev_bounds {s : Int} {n : Nat} (h : okEv s n) (k : Nat) : 1 ≤ evZ s n k ∧ evZ s n k ≤ s ∧ 1 ≤ (s - ((n : Int) - 1)) / n ∧ (s - ((n : Int) - 1)) / n ≤ s ∧ 0 ≤ (s - ((n : Int) - 1)) % n ∧ (s - ((n : Int) - 1)) % n < n := by
  obtain ⟨h1, h2, h3, h4⟩ := h
  have g1 := Int.emod_nonneg (s - ((n : Int) - 1)) (show (n : Int) ≠ 0 by omega)
  have g2 := Int.emod_lt_of_pos (s - ((n : Int) - 1)) (show (0 : Int) < n by omega)
  have g3 := Int.mul_ediv_add_emod (s - ((n : Int) - 1)) n
  have g4 : 1 ≤ (s - ((n : Int) - 1)) / n := by rw [Int.le_ediv_iff_mul_le (by omega)]; omega
  have g5 : (s - ((n : Int) - 1)) / n ≤ s - ((n : Int) - 1) := Int.ediv_le_self _ (by omega)
  unfold evZ
  generalize (s - ((n : Int) - 1)) / n = q at g3 g4 g5 ⊢
  generalize (s - ((n : Int) - 1)) % n = r at g1 g2 g3 ⊢
  split
  · rename_i hk
    have hr : 1 ≤ r := by omega
    have h9 : (n : Int) * q ≤ s - ((n : Int) - 1) - 1 := by omega
    have h8 : q ≤ (n : Int) * q := by
      have : (1 : Int) * q ≤ (n : Int) * q := Int.mul_le_mul_of_nonneg_right (by omega) (by omega)
      omega
    refine ⟨by omega, by omega, g4, by omega, g1, g2⟩
  · exact ⟨by omega, by omega, g4, by omega, g1, g2⟩

def EvnSays (s n : Int) (w : World) (e : Ending) (w' : World) : Prop :=
  ∃ v, ((okEv s n ∧ e = .returned (.tuple #[v, .bool true]) ∧ OwnI w' w.heap.size v (evL s n.toNat)) ∨ (¬ okEv s n ∧ e = .returned (.tuple #[v, .bool false]) ∧ OwnI w' w.heap.size v [])) ∧ Below w.heap.size w w'

set_option maxHeartbeats 2000000 in
set_option maxRecDepth 100000 in
theorem rsizesE_no (s n : Int) (w : World) (h : ¬ okEv s n) : Calls Tryz.prog 37 #[.int .i64 s, .int .i64 n] w (EvnSays s n w) := by
  have O0 := Lib.hid (OwnI.empty w w.heap.size (Nat.le_refl _))
  have B0 : Hid (Below w.heap.size w (w.alloc (.cells #[] 3))) := Lib.hid ((Below.refl _ _).alloc (Nat.le_refl _) _)
  have HN := Lib.hid h
  have hc : (decide (n < 1) = true) ∨ (decide (n < 1) = false ∧ decide (20000 < n) = true) ∨ (decide (n < 1) = false ∧ decide (20000 < n) = false ∧ wrap64 (2 * n) = 2 * n ∧ wrap64 (2 * n - 1) = 2 * n - 1 ∧ decide (s < 2 * n - 1) = true) ∨ (decide (n < 1) = false ∧ decide (20000 < n) = false ∧ wrap64 (2 * n) = 2 * n ∧ wrap64 (2 * n - 1) = 2 * n - 1 ∧ decide (s < 2 * n - 1) = false ∧ decide (2147483647 < s) = true) := by
    by_cases h1 : n < 1
    · exact .inl (decide_eq_true h1)
    · by_cases h2 : 20000 < n
      · exact .inr (.inl ⟨decide_eq_false h1, decide_eq_true h2⟩)
      · have e1 : wrap64 (2 * n) = 2 * n := by rw [← wrapE]; exact wrap_id (by omega)
        have e2 : wrap64 (2 * n - 1) = 2 * n - 1 := by rw [← wrapE]; exact wrap_id (by omega)
        by_cases h3 : s < 2 * n - 1
        · exact .inr (.inr (.inl ⟨decide_eq_false h1, decide_eq_false h2, e1, e2, decide_eq_true h3⟩))
        · refine .inr (.inr (.inr ⟨decide_eq_false h1, decide_eq_false h2, e1, e2, decide_eq_false h3, decide_eq_true ?_⟩))
          unfold okEv at h
          omega
  clear h
  rcases hc with d1 | ⟨d1, d2⟩ | ⟨d1, d2, e1, e2, d3⟩ | ⟨d1, d2, e1, e2, d3, d4⟩
  all_goals
    go_enter Tryz.func37, Tryz.ntmps37
    go_wp2
    go_ret2
    refine ⟨_, .inr ⟨HN.out, rfl, ?_⟩, ?_⟩
    · exact O0.out
    · exact B0.out

set_option maxHeartbeats 2000000 in
set_option maxRecDepth 100000 in
theorem rsizesE_yes (s : Int) (n : Nat) (w : World) (h : okEv s n) : Calls Tryz.prog 37 #[.int .i64 s, .int .i64 n] w (EvnSays s n w) := by
  have O0 := Lib.hid (OwnI.empty w w.heap.size (Nat.le_refl _))
  have B0 : Hid (Below w.heap.size w (w.alloc (.cells #[] 3))) := Lib.hid ((Below.refl _ _).alloc (Nat.le_refl _) _)
  have HN := Lib.hid h
  obtain ⟨h1, h2, h3, h4⟩ := h
  have d1 : decide ((n : Int) < 1) = false := decide_eq_false (by omega)
  have d2 : decide (20000 < (n : Int)) = false := decide_eq_false (by omega)
  have e1 : wrap64 (2 * (n : Int)) = 2 * n := by rw [← wrapE]; exact wrap_id (by omega)
  have e2 : wrap64 (2 * (n : Int) - 1) = 2 * n - 1 := by rw [← wrapE]; exact wrap_id (by omega)
  have d3 : decide (s < 2 * (n : Int) - 1) = false := decide_eq_false (by omega)
  have d4 : decide (2147483647 < s) = false := decide_eq_false (by omega)
  have e3 : wrap64 ((n : Int) - 1) = n - 1 := by rw [← wrapE]; exact wrap_id (by omega)
  have e4 : wrap64 (s - ((n : Int) - 1)) = s - ((n : Int) - 1) := by rw [← wrapE]; exact wrap_id (by omega)
  have s0 : ((n : Int) == 0) = false := by rw [beq_eq_false_iff_ne]; omega
  have s0' : (n == 0) = false := by rw [beq_eq_false_iff_ne]; omega
  have hq : (s - ((n : Int) - 1)).tdiv n = (s - ((n : Int) - 1)) / n := Int.tdiv_eq_ediv_of_nonneg (by omega)
  have hr : (s - ((n : Int) - 1)).tmod n = (s - ((n : Int) - 1)) % n := Int.tmod_eq_emod_of_nonneg (by omega)
  obtain ⟨-, -, b1, b2, b3, b4⟩ := ev_bounds HN.out 0
  have HEV : Hid (∀ k : Nat, evZ s n k = if (k : Int) < (s - ((n : Int) - 1)) % n then (s - ((n : Int) - 1)) / n + 1 else (s - ((n : Int) - 1)) / n) := Lib.hid fun k => rfl
  generalize hqq : (s - ((n : Int) - 1)) / n = q at hq b1 b2 HEV
  generalize hrr : (s - ((n : Int) - 1)) % n = r at hr b3 b4 HEV
  have e5 : wrap64 q = q := by rw [← wrapE]; exact wrap_id (by omega)
  have e6 : wrap64 (q + 1) = q + 1 := by rw [← wrapE]; exact wrap_id (by omega)
  clear hqq hrr
  have HLIM := Lib.hid h2
  clear h1 h2 h3 h4 b1 b2
  go_enter Tryz.func37, Tryz.ntmps37
  go_wp2
  simp only [e1, e2, e3, e4, e5]
  clear e1 e2 e3 e4 e5
  go_loopg [6, 9] (n + 1) (fun g v i wr => ∃ (k : Nat), g + k = n + 1 ∧ k ≤ n ∧ i = .int .i64 k ∧ OwnI wr w.heap.size v ((evL s n).take k) ∧ Below w.heap.size w wr)
  case atStart => exact ⟨0, by omega, by omega, rfl, by simpa using O0.out, B0.out⟩
  case round =>
    obtain ⟨k, hg, hk, rfl, hown, hbr⟩ := hrel
    have HG := Lib.hid hg
    have HO := Lib.hid hown
    have HBR := Lib.hid hbr
    clear hg hown hbr
    by_cases hlt : k < n
    · have HST := Lib.hid (evL_step (s := s) hlt)
      have hlti : (k : Int) < (n : Int) := by omega
      have hv := HEV.out k
      have e9 : wrap64 ((k : Int) + 1) = ((k + 1 : Nat) : Int) := by have := HLIM.out; rw [← wrapE, wrap_id (by omega)]; omega
      have HCL : Hid (((evL s n).take k).length + [evZ s n k].length ≤ 1954687338211) := Lib.hid (by
        have h3 : ((evL s n).take k).length ≤ k := List.length_take_le _ _; have := HLIM.out; rw [List.length_singleton]; omega)
      have A1 : Hid (OwnI (wr.alloc (.cells #[.int .i64 (evZ s n k)] 3)) w.heap.size u6 ((evL s n).take k)) := Lib.hid (HO.out.up ((Below.refl _ _).alloc (Nat.le_refl _) _))
      have A2 : Hid (Below w.heap.size w (wr.alloc (.cells #[.int .i64 (evZ s n k)] 3))) := Lib.hid (HBR.out.alloc (by have := HBR.out.size; omega) _)
      have A3 : Hid (Row (wr.alloc (.cells #[.int .i64 (evZ s n k)] 3)) (.slice (some ⟨wr.heap.size, 0, none⟩) 1 1) (ints [evZ s n k])) := Lib.hid (row_one wr (.int .i64 (evZ s n k)) 3)
      have hcase : (decide ((k : Int) < r) = true ∧ evZ s n k = q + 1) ∨ (decide ((k : Int) < r) = false ∧ evZ s n k = q) := by
        by_cases hkr : (k : Int) < r
        · exact .inl ⟨decide_eq_true hkr, by rw [hv, if_pos hkr]⟩
        · exact .inr ⟨decide_eq_false hkr, by rw [hv, if_neg hkr]⟩
      clear hv
      rcases hcase with ⟨d5, hv⟩ | ⟨d5, hv⟩
      all_goals
        rw [hv] at HST HCL A1 A2 A3
        clear hv
        go_wp2_with (at_builtin; refine wpList_append_ints rfl _ _ rfl w.heap.size u6 _ ((evL s n).take k) [_] rfl A1.out rfl A3.out (by simp) HCL.out w A2.out (Nat.le_refl _) ?_; intro g cap3 w5 hown5 hb5 hgr5 hpl5)
        have HO5 := Lib.hid hown5
        have HB5 := Lib.hid hb5
        clear hown5 hb5 hgr5 hpl5
        go_wp2
        go_roundg (gk - 1)
        case measure => have := HG.out; omega
        case rel =>
          refine ⟨k + 1, by have := HG.out; omega, by omega, by first | rfl | exact congrArg _ e9 | (rw [e9]) | (congr 1; omega) | (simp only [IntKind.wrap_i64, e9]), ?_, HB5.out⟩
          rw [HST.out]
          simpa using HO5.out
    · obtain rfl : k = n := by omega
      have hkl : ((k : Int) < (k : Int)) = False := by simp
      go_wp2
      go_ret2
      refine ⟨_, .inl ⟨HN.out, rfl, ?_⟩, HBR.out⟩
      have := HO.out
      rw [List.take_of_length_le (by rw [evL_len]; omega)] at this
      rw [Int.toNat_natCast]
      exact this
theorem rsizesE_any (s n : Int) (w : World) : Calls Tryz.prog 37 #[.int .i64 s, .int .i64 n] w (EvnSays s n w) := by
  by_cases h : okEv s n
  · obtain ⟨m, rfl⟩ := Int.eq_ofNat_of_zero_le (show 0 ≤ n by have := h.1; omega)
    exact rsizesE_yes s m w h
  · exact rsizesE_no s n w h
end Go.Proofs.YtcdiogifgemjbaaGreat
/- What both have of a size: the document's Sizes. -/
namespace Go.Proofs.YtcdiogifgemjbaaGreat
open Go.RowKit

/-- The new one's, of a size that is asked. -/
def spB (s z : Int) : Int := if z = 0 then (s + 1) / 2 - 1 else if s - 2 < z then s - 2 else z
def spOk (s z : Int) : Bool := decide (3 ≤ s) && decide (0 ≤ z)
theorem spB_in {s z : Int} (hs : 3 ≤ s) (hz : 0 ≤ z) : 1 ≤ spB s z ∧ spB s z ≤ s - 2 := by
  unfold spB
  split
  · omega
  · split <;> omega
theorem spB_even {s : Int} (hs : 3 ≤ s) : 0 ≤ s - 1 - spB s 0 - spB s 0 ∧ s - 1 - spB s 0 - spB s 0 ≤ 1 := by
  unfold spB
  rw [if_pos rfl]
  omega
/-- What Sizes answers. -/
def SzSays (s z : Int) (w : World) (e : Ending) (w' : World) : Prop := w' = w ∧ e = if spOk s z = true then .returned (.tuple #[.int .i64 (s - 1 - spB s z), .int .i64 (spB s z), .bool true]) else .returned (.tuple #[.int .i64 0, .int .i64 0, .bool false])
theorem sz_no {s z : Int} (w : World) (h : spOk s z = false) : SzSays s z w (.returned (.tuple #[.int .i64 0, .int .i64 0, .bool false])) w := ⟨rfl, by rw [h]; rfl⟩
theorem sz_yes {s z n : Int} (w : World) (h : spOk s z = true) (hn : spB s z = n) : SzSays s z w (.returned (.tuple #[.int .i64 (s - 1 - n), .int .i64 n, .bool true])) w := ⟨rfl, by rw [h, hn]; rfl⟩

end Go.Proofs.YtcdiogifgemjbaaGreat
/- One rectangle in a row of its own: may it be? -/
namespace Go.Proofs.YtcdiogifgemjbaaGreat
open Go.RowKit

abbrev box (r : R) : Obj := .cells #[.int .i64 r.x, .int .i64 r.y, .int .i64 r.w, .int .i64 r.h] 23
theorem rat_new (w : World) (r : R) : RAt (w.alloc (box r)) w.heap.size 0 r := by
  refine ⟨?_, ?_, ?_, ?_⟩ <;> simp
theorem rrow_one (w : World) (r : R) : RRow (w.alloc (box r)) (.slice (some ⟨w.heap.size, 0, none⟩) 1 1) [r] := by
  refine .inr ⟨w.heap.size, 0, 1, rfl, fun j q hq => ?_⟩
  cases j with
  | zero => simp at hq; subst hq; simpa using rat_new w r
  | succ j => simp at hq

def hasB (r : R) (x y : Int) : Bool := mayB r && decide (r.x ≤ x) && decide (x < r.x + r.w) && decide (r.y ≤ y) && decide (y < r.y + r.h)
theorem bool_cases (b : Bool) : b = true ∨ b = false := by cases b <;> simp
theorem mays_one (r : R) : mays [r] = mayB r := by simp [mays]
theorem fits_one {r : R} (h : r.fits) : fitsAll [r] := fun q hq => by simp at hq; subst hq; exact h

/-- May, of one. -/
theorem may_one (r : R) (w : World) (hr : r.fits) (n : Nat) (hn : n = w.heap.size) :
    Calls Tryz.prog 80 #[.slice (some ⟨n, 0, none⟩) 1 1] (w.alloc (box r)) fun e w' => e = .returned (.bool (mayB r)) ∧ Below w.heap.size w w' := by
  subst hn
  refine (may_any _ [r] _ (rrow_one w r) (by simp) (fits_one hr)).mono ?_
  rintro e w' ⟨rfl, hb⟩
  exact ⟨by rw [mays_one], ((Below.refl _ _).alloc (Nat.le_refl _) _).trans (hb.mono (by simp))⟩

end Go.Proofs.YtcdiogifgemjbaaGreat
