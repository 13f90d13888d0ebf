/- Texts of this seat, 3 in one file. -/
import Derived.Test.YtcdiogifgemjbaaG05
import Derived.Test.YtcdiogifgemjbaaG07
import Derived.BigQuiet
/- Even sizes: the document's answer. -/
namespace Go.Proofs.Ytcdiogifgemjbaa
open Go.RowKit

def okEv (s n : Int) : Prop := 1 ≤ n ∧ n ≤ 20000 ∧ 2 * n - 1 ≤ s ∧ s ≤ 2147483647
/-- The i-th of n even sizes of s. -/
def evZ (s n : Int) (i : Nat) : Int := if (i : Int) < (s - (n - 1)) % n then (s - (n - 1)) / n + 1 else (s - (n - 1)) / n
def evL (s : Int) (n : Nat) : List Int := (List.range n).map (evZ s n)
theorem evL_len (s : Int) (n : Nat) : (evL s n).length = n := by simp [evL]
theorem evL_step {s : Int} {n k : Nat} (hk : k < n) : (evL s n).take (k + 1) = (evL s n).take k ++ [evZ s n k] := by
  unfold evL
  rw [List.take_add_one, List.getElem?_map, List.getElem?_range hk]; rfl
theorem evL_get {s : Int} {n k : Nat} (hk : k < n) : (evL s n)[k]? = some (evZ s n k) := by
  unfold evL
  rw [List.getElem?_map, List.getElem?_range hk]; rfl
theorem ev_bounds {s : Int} {n : Nat} (h : okEv s n) (k : Nat) : 1 ≤ evZ s n k ∧ evZ s n k ≤ s ∧ 1 ≤ (s - ((n : Int) - 1)) / n ∧ (s - ((n : Int) - 1)) / n ≤ s ∧ 0 ≤ (s - ((n : Int) - 1)) % n ∧ (s - ((n : Int) - 1)) % n < n := by
  obtain ⟨h1, h2, h3, h4⟩ := h
  have g1 := Int.emod_nonneg (s - ((n : Int) - 1)) (show (n : Int) ≠ 0 by omega)
  have g2 := Int.emod_lt_of_pos (s - ((n : Int) - 1)) (show (0 : Int) < n by omega)
  have g3 := Int.mul_ediv_add_emod (s - ((n : Int) - 1)) n
  have g4 : 1 ≤ (s - ((n : Int) - 1)) / n := by rw [Int.le_ediv_iff_mul_le (by omega)]; omega
  have g5 : (s - ((n : Int) - 1)) / n ≤ s - ((n : Int) - 1) := Int.ediv_le_self _ (by omega)
  unfold evZ
  generalize (s - ((n : Int) - 1)) / n = q at g3 g4 g5 ⊢
  generalize (s - ((n : Int) - 1)) % n = r at g1 g2 g3 ⊢
  split
  · rename_i hk
    have hr : 1 ≤ r := by omega
    have h9 : (n : Int) * q ≤ s - ((n : Int) - 1) - 1 := by omega
    have h8 : q ≤ (n : Int) * q := by
      have : (1 : Int) * q ≤ (n : Int) * q := Int.mul_le_mul_of_nonneg_right (by omega) (by omega)
      omega
    refine ⟨by omega, by omega, g4, by omega, g1, g2⟩
  · exact ⟨by omega, by omega, g4, by omega, g1, g2⟩

def EvnSays (s n : Int) (w : World) (e : Ending) (w' : World) : Prop :=
  ∃ v, ((okEv s n ∧ e = .returned (.tuple #[v, .bool true]) ∧ OwnI w' w.heap.size v (evL s n.toNat)) ∨ (¬ okEv s n ∧ e = .returned (.tuple #[v, .bool false]) ∧ OwnI w' w.heap.size v [])) ∧ Below w.heap.size w w'

set_option maxHeartbeats 2000000 in
set_option maxRecDepth 100000 in
theorem rsizesE_no (s n : Int) (w : World) (h : ¬ okEv s n) : Calls Try.prog 7 #[.int .i64 s, .int .i64 n] w (EvnSays s n w) := by
  have O0 := Lib.hid (OwnI.empty w w.heap.size (Nat.le_refl _))
  have B0 : Hid (Below w.heap.size w (w.alloc (.cells #[] 3))) := Lib.hid ((Below.refl _ _).alloc (Nat.le_refl _) _)
  have HN := Lib.hid h
  have hc : (decide (n < 1) = true) ∨ (decide (n < 1) = false ∧ decide (20000 < n) = true) ∨ (decide (n < 1) = false ∧ decide (20000 < n) = false ∧ wrap64 (2 * n) = 2 * n ∧ wrap64 (2 * n - 1) = 2 * n - 1 ∧ decide (s < 2 * n - 1) = true) ∨ (decide (n < 1) = false ∧ decide (20000 < n) = false ∧ wrap64 (2 * n) = 2 * n ∧ wrap64 (2 * n - 1) = 2 * n - 1 ∧ decide (s < 2 * n - 1) = false ∧ decide (2147483647 < s) = true) := by
    by_cases h1 : n < 1
    · exact .inl (decide_eq_true h1)
    · by_cases h2 : 20000 < n
      · exact .inr (.inl ⟨decide_eq_false h1, decide_eq_true h2⟩)
      · have e1 : wrap64 (2 * n) = 2 * n := by rw [← wrapE]; exact wrap_id (by omega)
        have e2 : wrap64 (2 * n - 1) = 2 * n - 1 := by rw [← wrapE]; exact wrap_id (by omega)
        by_cases h3 : s < 2 * n - 1
        · exact .inr (.inr (.inl ⟨decide_eq_false h1, decide_eq_false h2, e1, e2, decide_eq_true h3⟩))
        · refine .inr (.inr (.inr ⟨decide_eq_false h1, decide_eq_false h2, e1, e2, decide_eq_false h3, decide_eq_true ?_⟩))
          unfold okEv at h
          omega
  clear h
  rcases hc with d1 | ⟨d1, d2⟩ | ⟨d1, d2, e1, e2, d3⟩ | ⟨d1, d2, e1, e2, d3, d4⟩
  all_goals
    go_enter Try.func7, Try.ntmps7
    go_wp2
    go_ret2
    refine ⟨_, .inr ⟨HN.out, rfl, ?_⟩, ?_⟩
    · exact O0.out
    · exact B0.out

set_option maxHeartbeats 2000000 in
set_option maxRecDepth 100000 in
theorem rsizesE_yes (s : Int) (n : Nat) (w : World) (h : okEv s n) : Calls Try.prog 7 #[.int .i64 s, .int .i64 n] w (EvnSays s n w) := by
  have O0 := Lib.hid (OwnI.empty w w.heap.size (Nat.le_refl _))
  have B0 : Hid (Below w.heap.size w (w.alloc (.cells #[] 3))) := Lib.hid ((Below.refl _ _).alloc (Nat.le_refl _) _)
  have HN := Lib.hid h
  obtain ⟨h1, h2, h3, h4⟩ := h
  have d1 : decide ((n : Int) < 1) = false := decide_eq_false (by omega)
  have d2 : decide (20000 < (n : Int)) = false := decide_eq_false (by omega)
  have e1 : wrap64 (2 * (n : Int)) = 2 * n := by rw [← wrapE]; exact wrap_id (by omega)
  have e2 : wrap64 (2 * (n : Int) - 1) = 2 * n - 1 := by rw [← wrapE]; exact wrap_id (by omega)
  have d3 : decide (s < 2 * (n : Int) - 1) = false := decide_eq_false (by omega)
  have d4 : decide (2147483647 < s) = false := decide_eq_false (by omega)
  have e3 : wrap64 ((n : Int) - 1) = n - 1 := by rw [← wrapE]; exact wrap_id (by omega)
  have e4 : wrap64 (s - ((n : Int) - 1)) = s - ((n : Int) - 1) := by rw [← wrapE]; exact wrap_id (by omega)
  have s0 : ((n : Int) == 0) = false := by rw [beq_eq_false_iff_ne]; omega
  have s0' : (n == 0) = false := by rw [beq_eq_false_iff_ne]; omega
  have hq : (s - ((n : Int) - 1)).tdiv n = (s - ((n : Int) - 1)) / n := Int.tdiv_eq_ediv_of_nonneg (by omega)
  have hr : (s - ((n : Int) - 1)).tmod n = (s - ((n : Int) - 1)) % n := Int.tmod_eq_emod_of_nonneg (by omega)
  obtain ⟨-, -, b1, b2, b3, b4⟩ := ev_bounds HN.out 0
  have HEV : Hid (∀ k : Nat, evZ s n k = if (k : Int) < (s - ((n : Int) - 1)) % n then (s - ((n : Int) - 1)) / n + 1 else (s - ((n : Int) - 1)) / n) := Lib.hid fun k => rfl
  generalize hqq : (s - ((n : Int) - 1)) / n = q at hq b1 b2 HEV
  generalize hrr : (s - ((n : Int) - 1)) % n = r at hr b3 b4 HEV
  have e5 : wrap64 q = q := by rw [← wrapE]; exact wrap_id (by omega)
  have e6 : wrap64 (q + 1) = q + 1 := by rw [← wrapE]; exact wrap_id (by omega)
  clear hqq hrr
  have HLIM := Lib.hid h2
  clear h1 h2 h3 h4 b1 b2
  go_enter Try.func7, Try.ntmps7
  go_wp2
  simp only [e1, e2, e3, e4, e5]
  clear e1 e2 e3 e4 e5
  go_loopg [6, 9] (n + 1) (fun g v i wr => ∃ (k : Nat), g + k = n + 1 ∧ k ≤ n ∧ i = .int .i64 k ∧ OwnI wr w.heap.size v ((evL s n).take k) ∧ Below w.heap.size w wr)
  case atStart => exact ⟨0, by omega, by omega, rfl, by simpa using O0.out, B0.out⟩
  case round =>
    obtain ⟨k, hg, hk, rfl, hown, hbr⟩ := hrel
    have HG := Lib.hid hg
    have HO := Lib.hid hown
    have HBR := Lib.hid hbr
    clear hg hown hbr
    by_cases hlt : k < n
    · have HST := Lib.hid (evL_step (s := s) hlt)
      have hlti : (k : Int) < (n : Int) := by omega
      have hv := HEV.out k
      have e9 : wrap64 ((k : Int) + 1) = ((k + 1 : Nat) : Int) := by have := HLIM.out; rw [← wrapE, wrap_id (by omega)]; omega
      have HCL : Hid (((evL s n).take k).length + [evZ s n k].length ≤ 1954687338211) := Lib.hid (by
        have h3 : ((evL s n).take k).length ≤ k := List.length_take_le _ _; have := HLIM.out; rw [List.length_singleton]; omega)
      have A1 : Hid (OwnI (wr.alloc (.cells #[.int .i64 (evZ s n k)] 3)) w.heap.size u6 ((evL s n).take k)) := Lib.hid (HO.out.up ((Below.refl _ _).alloc (Nat.le_refl _) _))
      have A2 : Hid (Below w.heap.size w (wr.alloc (.cells #[.int .i64 (evZ s n k)] 3))) := Lib.hid (HBR.out.alloc (by have := HBR.out.size; omega) _)
      have A3 : Hid (Row (wr.alloc (.cells #[.int .i64 (evZ s n k)] 3)) (.slice (some ⟨wr.heap.size, 0, none⟩) 1 1) (ints [evZ s n k])) := Lib.hid (row_one wr (.int .i64 (evZ s n k)) 3)
      have hcase : (decide ((k : Int) < r) = true ∧ evZ s n k = q + 1) ∨ (decide ((k : Int) < r) = false ∧ evZ s n k = q) := by
        by_cases hkr : (k : Int) < r
        · exact .inl ⟨decide_eq_true hkr, by rw [hv, if_pos hkr]⟩
        · exact .inr ⟨decide_eq_false hkr, by rw [hv, if_neg hkr]⟩
      clear hv
      rcases hcase with ⟨d5, hv⟩ | ⟨d5, hv⟩
      all_goals
        rw [hv] at HST HCL A1 A2 A3
        clear hv
        go_wp2_with (at_builtin; refine wpList_append_ints rfl _ _ rfl w.heap.size u6 _ ((evL s n).take k) [_] rfl A1.out rfl A3.out (by simp) HCL.out w A2.out (Nat.le_refl _) ?_; intro g cap3 w5 hown5 hb5 hgr5 hpl5)
        have HO5 := Lib.hid hown5
        have HB5 := Lib.hid hb5
        clear hown5 hb5 hgr5 hpl5
        go_wp2
        go_roundg (gk - 1)
        case measure => have := HG.out; omega
        case rel =>
          refine ⟨k + 1, by have := HG.out; omega, by omega, by first | rfl | exact congrArg _ e9 | (rw [e9]) | (congr 1; omega) | (simp only [IntKind.wrap_i64, e9]), ?_, HB5.out⟩
          rw [HST.out]
          simpa using HO5.out
    · obtain rfl : k = n := by omega
      have hkl : ((k : Int) < (k : Int)) = False := by simp
      go_wp2
      go_ret2
      refine ⟨_, .inl ⟨HN.out, rfl, ?_⟩, HBR.out⟩
      have := HO.out
      rw [List.take_of_length_le (by rw [evL_len]; omega)] at this
      rw [Int.toNat_natCast]
      exact this
theorem rsizesE_any (s n : Int) (w : World) : Calls Try.prog 7 #[.int .i64 s, .int .i64 n] w (EvnSays s n w) := by
  by_cases h : okEv s n
  · obtain ⟨m, rfl⟩ := Int.eq_ofNat_of_zero_le (show 0 ≤ n by have := h.1; omega)
    exact rsizesE_yes s m w h
  · exact rsizesE_no s n w h
end Go.Proofs.Ytcdiogifgemjbaa
/- The law SpreadSizes, and the example on which the laws look. -/
namespace Go.Proofs.Ytcdiogifgemjbaa
open Go.RowKit

/-- What the program's Sizes answers. -/
def EvnK : Prop := ∀ (s n : Int) (w : World), fits s → fits n → Calls Try.prog 6 #[.int .i64 s, .int .i64 n] w fun e w' =>
  ∃ v, ((okEv s n ∧ e = .returned (.tuple #[v, .bool true]) ∧ Row w' v (ints (evL s n.toNat))) ∨ (¬ okEv s n ∧ e = .returned (.tuple #[v, .bool false]) ∧ Row w' v (ints []))) ∧ Below w.heap.size w w'
/-- Both in one form. -/
noncomputable def evO (s n : Int) : Bool := @decide (okEv s n) (Classical.propDecidable _)
noncomputable def evV (s n : Int) : List Int := if evO s n = true then evL s n.toNat else []
theorem evO_iff (s n : Int) : evO s n = true ↔ okEv s n := by unfold evO; simp
theorem ev_all {s n : Int} {w : World} {e : Ending} {w' : World} (h : ∃ v, ((okEv s n ∧ e = .returned (.tuple #[v, .bool true]) ∧ Row w' v (ints (evL s n.toNat))) ∨ (¬ okEv s n ∧ e = .returned (.tuple #[v, .bool false]) ∧ Row w' v (ints []))) ∧ Below w.heap.size w w') :
    ∃ v, e = .returned (.tuple #[v, .bool (evO s n)]) ∧ Row w' v (ints (evV s n)) ∧ Below w.heap.size w w' := by
  obtain ⟨v, h, hb⟩ := h
  rcases h with ⟨h0, he, hr⟩ | ⟨h0, he, hr⟩
  · have e1 : evO s n = true := (evO_iff s n).2 h0
    exact ⟨v, by rw [e1]; exact he, by unfold evV; rw [if_pos e1]; exact hr, hb⟩
  · have e1 : evO s n = false := by cases h : evO s n with | false => rfl | true => exact absurd ((evO_iff s n).1 h) h0
    exact ⟨v, by rw [e1]; exact he, by unfold evV; rw [if_neg (by rw [e1]; decide)]; exact hr, hb⟩
theorem ev_ref {s n : Int} {w : World} {e : Ending} {w' : World} (h : EvnSays s n w e w') : ∃ v, e = .returned (.tuple #[v, .bool (evO s n)]) ∧ Row w' v (ints (evV s n)) ∧ Below w.heap.size w w' := by
  obtain ⟨v, h, hb⟩ := h
  refine ev_all ⟨v, ?_, hb⟩
  rcases h with ⟨h0, he, hr⟩ | ⟨h0, he, hr⟩
  · exact .inl ⟨h0, he, hr.row⟩
  · exact .inr ⟨h0, he, hr.row⟩

theorem three_row (w : World) (a b c : Int) : Row (w.alloc (.cells #[.int .i64 a, .int .i64 b, .int .i64 c] 3)) (.slice (some ⟨w.heap.size, 0, none⟩) 3 3) (ints [a, b, c]) := by
  refine ⟨some ⟨w.heap.size, 0, none⟩, 3, rfl, (fun h => nomatch h), fun ad hx j u hu => ?_⟩
  cases hx
  match j with
  | 0 => simp [ints] at hu; subst hu; change (w.alloc _).cell? ⟨w.heap.size, 0, none⟩ = _; simp
  | 1 => simp [ints] at hu; subst hu; change (w.alloc _).cell? ⟨w.heap.size, 1, none⟩ = _; simp
  | 2 => simp [ints] at hu; subst hu; change (w.alloc _).cell? ⟨w.heap.size, 2, none⟩ = _; simp
  | j + 3 => simp [ints] at hu
theorem callI (v : Value) (a b c : Int) (w : World) (h : Row w v (ints [a, b, c])) : Calls Try.prog 8 #[v, .slice (some ⟨w.heap.size, 0, none⟩) 3 3] (w.alloc (.cells #[.int .i64 a, .int .i64 b, .int .i64 c] 3)) fun e w' => e = .returned (.bool true) ∧ Below w.heap.size w w' := by
  refine (ints_any v _ [a, b, c] [a, b, c] _ (h.up ((Below.refl _ _).alloc (Nat.le_refl _) _)) (three_row w a b c) (by simp)).mono ?_
  rintro e w' ⟨rfl, hb⟩
  exact ⟨by simp [eqI], below_one hb⟩
theorem fitsM (n : Int) (h : -1000 ≤ n ∧ n ≤ 1000) : fits n := ⟨by omega, by omega⟩
theorem ex_ok (s : Int) (h : 5 ≤ s ∧ s ≤ 1000) : evO s 3 = true := (evO_iff s 3).2 ⟨by omega, by omega, by omega, by omega⟩
theorem ex_a : evV 80 3 = [26, 26, 26] := by unfold evV; rw [if_pos (ex_ok 80 (by omega))]; decide
theorem ex_b : evV 8 3 = [2, 2, 2] := by unfold evV; rw [if_pos (ex_ok 8 (by omega))]; decide

set_option maxRecDepth 100000 in
theorem awake16_any (HK : EvnK) (w : World) : Calls Try.prog 5 #[] w fun e w' => e = .returned (.bool true) ∧ Below w.heap.size w w' := by
  have K1 : Hid (∀ w, Calls Try.prog 6 #[.int .i64 80, .int .i64 3] w fun e w' => ∃ v, e = .returned (.tuple #[v, .bool true]) ∧ Row w' v (ints [26, 26, 26]) ∧ Below w.heap.size w w') := Lib.hid fun w => (HK 80 3 w (fitsM _ (by omega)) (fitsM _ (by omega))).mono fun e w' h => by
    have := ev_all h
    rw [ex_ok 80 (by omega), ex_a] at this
    exact this
  have K2 : Hid (∀ w, Calls Try.prog 6 #[.int .i64 8, .int .i64 3] w fun e w' => ∃ v, e = .returned (.tuple #[v, .bool true]) ∧ Row w' v (ints [2, 2, 2]) ∧ Below w.heap.size w w') := Lib.hid fun w => (HK 8 3 w (fitsM _ (by omega)) (fitsM _ (by omega))).mono fun e w' h => by
    have := ev_all h
    rw [ex_ok 8 (by omega), ex_b] at this
    exact this
  clear HK
  go_enter Try.func5, Try.ntmps5
  go_wp2_with fail
  refine (K1.out w).mono ?_
  rintro e w1 ⟨v1, rfl, hr1, hb1⟩
  have R1 := Lib.hid hr1
  have B1 := Lib.hid hb1
  clear hr1 hb1
  go_wp2_with fail
  refine (K2.out w1).mono ?_
  rintro e w2 ⟨v2, rfl, hr2, hb2⟩
  have R2 := Lib.hid hr2
  have R1' := Lib.hid (R1.out.up hb2)
  have B2 := Lib.hid (B1.out.trans (hb2.mono B1.out.size))
  clear hr2 hb2 R1
  go_wp2_with fail
  refine (callI v1 26 26 26 w2 R1'.out).mono ?_
  rintro e w3 ⟨rfl, hb3⟩
  have R3 := Lib.hid (R2.out.up hb3)
  have B3 := Lib.hid (B2.out.trans (hb3.mono B2.out.size))
  clear hb3 R2 R1'
  go_wp2_with fail
  refine (callI v2 2 2 2 w3 R3.out).mono ?_
  rintro e w4 ⟨rfl, hb4⟩
  have B4 := Lib.hid (B3.out.trans (hb4.mono B3.out.size))
  clear hb4
  go_wp2
  go_ret
  exact ⟨rfl, B4.out⟩

/-- The first k of them together. -/
theorem ev_sum {s : Int} {n : Nat} (h : okEv s n) : ∀ k : Nat, k ≤ n → ((evL s n).take k).sum = (k : Int) * ((s - ((n : Int) - 1)) / n) + min (k : Int) ((s - ((n : Int) - 1)) % n) := by
  obtain ⟨-, -, -, -, b3, b4⟩ := ev_bounds h 0
  intro k
  induction k with
  | zero => intro _; simp; omega
  | succ k ih =>
    intro hk
    rw [evL_step (by omega), List.sum_append, ih (by omega)]
    have hv : evZ s n k = if (k : Int) < (s - ((n : Int) - 1)) % n then (s - ((n : Int) - 1)) / n + 1 else (s - ((n : Int) - 1)) / n := rfl
    rw [hv]
    generalize (s - ((n : Int) - 1)) / n = q at *
    generalize (s - ((n : Int) - 1)) % n = r at *
    have hm : ((k + 1 : Nat) : Int) * q = (k : Int) * q + q := by rw [show ((k + 1 : Nat) : Int) = (k : Int) + 1 by omega, Int.add_mul, Int.one_mul]
    rw [hm]
    split <;> simp <;> omega
theorem ev_total {s : Int} {n : Nat} (h : okEv s n) : (n : Int) - 1 + (evL s n).sum = s := by
  have h1 := ev_sum h n (Nat.le_refl _)
  rw [List.take_of_length_le (by rw [evL_len]; omega)] at h1
  obtain ⟨-, -, -, -, b3, b4⟩ := ev_bounds h 0
  have g3 := Int.mul_ediv_add_emod (s - ((n : Int) - 1)) n
  rw [h1]
  omega
theorem ev_part {s : Int} {n : Nat} (h : okEv s n) {k : Nat} (hk : k ≤ n) : 0 ≤ ((evL s n).take k).sum ∧ ((evL s n).take k).sum ≤ s := by
  obtain ⟨-, -, b1, b2, b3, b4⟩ := ev_bounds h 0
  have h1 := ev_sum h k hk
  have g3 := Int.mul_ediv_add_emod (s - ((n : Int) - 1)) n
  have h2 := h.2.2.1
  generalize (s - ((n : Int) - 1)) / n = q at *
  generalize (s - ((n : Int) - 1)) % n = r at *
  have m1 : 0 ≤ (k : Int) * q := Int.mul_nonneg (by omega) (by omega)
  have m2 : (k : Int) * q ≤ (n : Int) * q := Int.mul_le_mul_of_nonneg_right (by omega) (by omega)
  have h3 := h.1
  omega
theorem ev_near (s n : Int) (k : Nat) (hr : 0 ≤ (s - (n - 1)) % n) : evZ s n k ≤ evZ s n 0 ∧ evZ s n 0 - 1 ≤ evZ s n k := by
  unfold evZ
  generalize (s - (n - 1)) / n = q at *
  generalize (s - (n - 1)) % n = r at *
  split <;> split <;> omega
end Go.Proofs.Ytcdiogifgemjbaa
/- The law SpreadSizes. -/
namespace Go.Proofs.Ytcdiogifgemjbaa
open Go.RowKit

theorem below_drewNF (w : World) (n : Nat) : Below w.heap.size w (w.drewN n) := ⟨rfl, rfl, rfl, Nat.le_refl _, fun _ _ => rfl⟩
set_option maxHeartbeats 2000000 in
set_option maxRecDepth 100000 in
theorem spreadSizes_any (HK : EvnK) (s n : Int) (w : World) (hfs : fits s) (hfn : fits n) : Calls Try.prog 3 #[.int .i64 s, .int .i64 n] w fun e w' => e = .returned (.bool true) ∧ Below w.heap.size w w' := by
  have HAW := Lib.hid (awake16_any HK)
  by_cases hbig : 2000 < n ∧ n ≤ 20000
  · have d1 : decide (2000 < n) = true := decide_eq_true hbig.1
    have d2 : decide (n ≤ 20000) = true := decide_eq_true hbig.2
    clear hbig
    go_enter Try.func3, Try.ntmps3
    go_wp2_with fail
    refine (HAW.out w).mono ?_
    rintro e w1 ⟨rfl, hb1⟩
    have B1 := Lib.hid hb1
    clear hb1
    go_wp2
    go_ret
    exact ⟨rfl, B1.out⟩
  have K1 : Hid (∀ w, Calls Try.prog 6 #[.int .i64 s, .int .i64 n] w fun e w' => ∃ v, e = .returned (.tuple #[v, .bool (evO s n)]) ∧ Row w' v (ints (evV s n)) ∧ Below w.heap.size w w') := Lib.hid fun w => (HK s n w hfs hfn).mono fun e w' h => ev_all h
  have K2 : Hid (∀ w, Calls Try.prog 7 #[.int .i64 s, .int .i64 n] w fun e w' => ∃ v, e = .returned (.tuple #[v, .bool (evO s n)]) ∧ Row w' v (ints (evV s n)) ∧ Below w.heap.size w w') := Lib.hid fun w => (rsizesE_any s n w).mono fun e w' h => ev_ref h
  have K3 : Hid (∀ v1 v2 w, Row w v1 (ints (evV s n)) → Row w v2 (ints (evV s n)) → Calls Try.prog 8 #[v1, v2] w fun e w' => e = .returned (.bool true) ∧ Below w.heap.size w w') := Lib.hid fun v1 v2 w h1 h2 => by
    have := ints_any v1 v2 (evV s n) (evV s n) w h1 h2 (by
      unfold evV
      split
      · rename_i h
        have := ((evO_iff s n).1 h)
        rw [evL_len]; have := this.2.1; omega
      · simp)
    rw [show eqI (evV s n) (evV s n) = true by simp [eqI]] at this
    exact this
  have hcase : (decide (2000 < n) = false) ∨ (decide (2000 < n) = true ∧ decide (n ≤ 20000) = false) := by
    by_cases h1 : 2000 < n
    · exact .inr ⟨decide_eq_true h1, decide_eq_false (fun h => hbig ⟨h1, h⟩)⟩
    · exact .inl (decide_eq_false h1)
  have HEV : Hid ((evO s n = false ∧ evV s n = []) ∨ (evO s n = true ∧ ∃ m : Nat, n = (m : Int) ∧ okEv s m ∧ evV s n = evL s m)) := Lib.hid (by
    cases h : evO s n with
    | false => exact .inl ⟨rfl, by unfold evV; rw [if_neg (by rw [h]; decide)]⟩
    | true =>
      have h1 := (evO_iff s n).1 h
      obtain ⟨m, rfl⟩ := Int.eq_ofNat_of_zero_le (show 0 ≤ n by have := h1.1; omega)
      exact .inr ⟨rfl, m, rfl, h1, by unfold evV; rw [if_pos h, Int.toNat_natCast]⟩)
  clear HK hbig hfs hfn
  generalize evV s n = L at K1 K2 K3 HEV
  generalize evO s n = o at K1 K2 HEV
  rcases hcase with d1 | ⟨d1, d2⟩
  all_goals
    go_enter Try.func3, Try.ntmps3
    go_wp2_with fail
    refine (K1.out w).mono ?_
    rintro e w1 ⟨v1, rfl, hr1, hb1⟩
    have R1 := Lib.hid hr1
    have B1 := Lib.hid hb1
    clear hr1 hb1
    go_wp2_with fail
    refine (K2.out w1).mono ?_
    rintro e w2 ⟨v2, rfl, hr2, hb2⟩
    have R2 := Lib.hid hr2
    have R1' := Lib.hid (R1.out.up hb2)
    have B2 := Lib.hid (B1.out.trans (hb2.mono B1.out.size))
    clear hr2 hb2 R1
    have bo : (o != o) = false := by cases o <;> rfl
    go_wp2_with fail
    refine (K3.out v1 v2 w2 R1'.out R2.out).mono ?_
    rintro e w3 ⟨rfl, hb3⟩
    have R3 := Lib.hid (R1'.out.up hb3)
    have B3 := Lib.hid (B2.out.trans (hb3.mono B2.out.size))
    clear hb3 R2 R1'
    obtain ⟨a1, cap1, rfl⟩ := row_shape R3.out
    rcases HEV.out with ⟨rfl, rfl⟩ | ⟨rfl, m, rfl, hok, rfl⟩
    · go_wp2
      go_loopg [9, 10] 1 (fun g v i wr => g = 1 ∧ v = .int .i64 (wrap64 (n - 1)) ∧ i = .int .i64 0 ∧ Below w3.heap.size w3 wr)
      case atStart => exact ⟨rfl, rfl, rfl, Below.refl _ _⟩
      case round =>
        obtain ⟨-, rfl, rfl, hbr⟩ := hrel
        have HBR := Lib.hid hbr
        clear hbr
        go_wp2_with fail
        refine (HAW.out wr).mono ?_
        rintro e w5 ⟨rfl, hb5⟩
        have B5 := Lib.hid ((B3.out.trans (HBR.out.mono B3.out.size)).trans (hb5.mono (Nat.le_trans B3.out.size HBR.out.size)))
        clear hb5
        go_wp2
        go_ret
        exact ⟨rfl, B5.out⟩
    · have HOK := Lib.hid hok
      have e1 : wrap64 ((m : Int) - 1) = m - 1 := by have h1 := hok.1; have h2 := hok.2.1; rw [← wrapE]; exact wrap_id (by omega)
      have HM := Lib.hid hok.2.1
      have HS := Lib.hid hok.2.2
      clear hok
      have hll : (evL s m).length = m := evL_len s m
      rw [hll] at R3
      clear HEV K1 K2 K3
      go_wp2
      simp only [e1, hll]
      clear e1
      go_loopg [9, 10] (m + 1) (fun g v i wr => ∃ k : Nat, g + k = m + 1 ∧ k ≤ m ∧ v = .int .i64 ((m : Int) - 1 + ((evL s m).take k).sum) ∧ i = .int .i64 k ∧ Below w3.heap.size w3 wr)
      case atStart => exact ⟨0, by omega, by omega, by simp, rfl, Below.refl _ _⟩
      case round =>
        obtain ⟨k, hg, hk, rfl, rfl, hbr⟩ := hrel
        have HG := Lib.hid hg
        have HBR := Lib.hid hbr
        clear hg hbr
        by_cases hlt : k < m
        · obtain ⟨bi, oi, rfl, hf⟩ := int_at R3.out (by omega)
          have hp := evL_get (s := s) hlt
          have hp0 := evL_get (s := s) (show 0 < m by omega)
          have c0 := (HBR.out.cell (lt_of_cell (hf k _ hp))).trans (hf k _ hp)
          have q0 := (HBR.out.cell (lt_of_cell (hf 0 _ hp0))).trans (hf 0 _ hp0)
          rw [Nat.add_zero] at q0
          have hst := evL_step (s := s) hlt
          obtain ⟨g1, g2⟩ := ev_part HOK.out hk
          obtain ⟨g3, g4⟩ := ev_part HOK.out (show k + 1 ≤ m by omega)
          have hsum : ((evL s m).take (k + 1)).sum = ((evL s m).take k).sum + evZ s m k := by rw [hst, List.sum_append]; simp
          obtain ⟨b1, b2, -, -, b3, -⟩ := ev_bounds HOK.out k
          obtain ⟨b5, b6, -, -, -, -⟩ := ev_bounds HOK.out 0
          obtain ⟨b7, b8⟩ := ev_near s m k b3
          have HSUM := Lib.hid hsum
          rw [hsum] at g3 g4
          clear hf hp hp0 hst hsum b3
          generalize evZ s m k = p at *
          generalize evZ s m 0 = p0 at *
          generalize ((evL s m).take k).sum = S at *
          have hmm := HM.out
          have hss := HS.out
          have e2 : wrap64 ((m : Int) - 1 + S + p) = (m : Int) - 1 + S + p := by rw [← wrapE]; exact wrap_id (by omega)
          have e3 : wrap64 (p0 - 1) = p0 - 1 := by rw [← wrapE]; exact wrap_id (by omega)
          have e9 : wrap64 ((k : Int) + 1) = ((k + 1 : Nat) : Int) := by rw [← wrapE, wrap_id (by omega)]; omega
          have f1 : decide (p < 1) = false := decide_eq_false (by omega)
          have f2 : decide (p0 < p) = false := decide_eq_false (by omega)
          have f3 : decide (p < p0 - 1) = false := decide_eq_false (by omega)
          have hki : (k : Int) < (m : Int) := by omega
          have hm0 : 0 < m := by omega
          have hm0i : (0 : Int) < (m : Int) := by omega
          go_wp2
          go_quiet (fail)
          have BQ := Lib.hid (HBR.out.trans ((below_drewNF wr nq).mono HBR.out.size))
          generalize wr.drewN nq = w6 at BQ ⊢
          go_wp2
          go_roundg (gk - 1)
          case measure => have := HG.out; omega
          case rel =>
            refine ⟨k + 1, by have := HG.out; omega, by omega, ?_, by first | rfl | exact congrArg _ e9 | (rw [e9]) | (congr 1; omega) | (simp only [IntKind.wrap_i64, e9]), BQ.out⟩
            rw [HSUM.out, Int.add_assoc]
        · obtain rfl : k = m := by omega
          have hkl : ((k : Int) < (k : Int)) = False := by simp
          have htot := ev_total HOK.out
          have hs2 : (k : Int) - 1 + ((evL s k).take k).sum = s := by rw [List.take_of_length_le (by omega)]; exact htot
          rw [hs2]
          have bs : (s == s) = true := by simp
          clear htot hs2
          go_wp2_with fail
          refine (HAW.out wr).mono ?_
          rintro e w5 ⟨rfl, hb5⟩
          have B5 := Lib.hid ((B3.out.trans (HBR.out.mono B3.out.size)).trans (hb5.mono (Nat.le_trans B3.out.size HBR.out.size)))
          clear hb5
          go_wp2
          go_ret
          exact ⟨rfl, B5.out⟩
theorem spreadSizes_wf (HK : EvnK) (s n : Int) (w : World) (hfs : fits s) (hfn : fits n) : Calls Try.prog 3 #[.int .i64 s, .int .i64 n] w fun e w' => e = .returned (.bool true) ∧ Below w.heap.size w w' := spreadSizes_any HK s n w hfs hfn
end Go.Proofs.Ytcdiogifgemjbaa
