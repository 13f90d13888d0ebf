/- The laws of a layout's checksum, each walked: it answers true, and nothing that was there is changed. -/
import Derived.Test.YthhjeiabjmhalaaSumB
namespace Go.Proofs.Ythhjeiabjmhalaa
open Go.RowKit Sash.Num Sash.Sum

theorem awake_put (w : World) : Calls Try.prog 12 #[.string ⟨#[56, 48, 120, 50, 52, 44, 48, 44, 48, 44, 49]⟩] w fun e w' => e = .returned (.string ⟨#[98, 50, 53, 101, 44, 56, 48, 120, 50, 52, 44, 48, 44, 48, 44, 49]⟩) ∧ Below w.heap.size w w' := by
  have h := put_any ⟨#[56, 48, 120, 50, 52, 44, 48, 44, 48, 44, 49]⟩ w (by decide)
  rw [show (⟨#[56, 48, 120, 50, 52, 44, 48, 44, 48, 44, 49]⟩ : ByteArray).data.toList = [56, 48, 120, 50, 52, 44, 48, 44, 48, 44, 49] from rfl, sum_awake] at h
  exact h

set_option maxHeartbeats 400000 in
set_option maxRecDepth 100000 in
theorem awake_any (w : World) :
    Calls Try.prog 8 #[] w fun e w' => e = .returned (.bool true) ∧ Below w.heap.size w w' := by
  go_enter Try.func8, Try.ntmps8
  go_wp2_with (go_at_call 12; refine (awake_put _).mono ?_; rintro e w1 ⟨rfl, hb1⟩)
  go_ret
  exact ⟨rfl, hb1⟩

set_option maxHeartbeats 400000 in
set_option maxRecDepth 100000 in
theorem sumIs_any (c : Nat) (s : ByteArray) (w : World) (hc : c < 65536) :
    Calls Try.prog 3 #[.int .u16 (c : Int), .string s] w fun e w' => e = .returned (.bool true) ∧ Below w.heap.size w w' := by
  by_cases hl : 1000 < s.size
  · have d0 : decide ((1000 : Int) < (s.size : Int)) = true := by simp; omega
    go_enter Try.func3, Try.ntmps3
    go_wp2_with (go_at_call 8; refine (awake_any _).mono ?_; rintro e w1 ⟨rfl, hb1⟩)
    go_ret
    exact ⟨rfl, hb1⟩
  · have d0 : decide ((1000 : Int) < (s.size : Int)) = false := by simp; omega
    have hs : s.size ≤ 1000000 := by omega
    go_enter Try.func3, Try.ntmps3
    go_wp2_with fail
    refine (from_one c s _ hc hs).mono ?_
    rintro e w1 ⟨rfl, hb1⟩
    go_wp2_with fail
    refine (refFrom_any c s _ hc hs).mono ?_
    rintro e w2 ⟨rfl, rfl⟩
    go_wp2_with fail
    refine (of_one s _ hs).mono ?_
    rintro e w3 ⟨rfl, hb3⟩
    have hb13 := hb1.trans (hb3.mono hb1.size)
    go_wp2_with fail
    refine (refFrom_any 0 s _ (by omega) hs).mono ?_
    rintro e w4 ⟨rfl, rfl⟩
    go_wp2_with fail
    refine (put_any s _ hs).mono ?_
    rintro e w5 ⟨rfl, hb5⟩
    have hb15 := hb13.trans (hb5.mono hb13.size)
    go_wp2_with fail
    refine (refPut_any s _ hs).mono ?_
    rintro e w6 ⟨rfl, rfl⟩
    go_wp2_with (go_at_call 8; refine (awake_any _).mono ?_; rintro e w7 ⟨rfl, hb7⟩)
    go_ret
    exact ⟨rfl, hb15.trans (hb7.mono hb15.size)⟩

theorem cut_back (s : ByteArray) (w : World) (hs : s.size ≤ 65530) :
    Calls Try.prog 14 #[.string ⟨(putL s.data.toList).toArray⟩] w fun e w' => e = .returned (.tuple #[.string s, .int .i64 0]) ∧ Below w.heap.size w w' := by
  have h := cut_any ⟨(putL s.data.toList).toArray⟩ w
  have e := cut_put s.data.toList (by simpa using hs)
  rw [show (⟨(putL s.data.toList).toArray⟩ : ByteArray).data.toList = putL s.data.toList by simp, e.1, e.2, str_self] at h
  exact h
theorem cutX_len (l : List UInt8) : (cutX l).length ≤ l.length := by
  unfold cutX
  split
  · rw [List.length_drop]; omega
  · simp
theorem put_back (s : ByteArray) (w : World) (hs : s.size ≤ 65530) (h0 : cutE s.data.toList = 0) :
    Calls Try.prog 12 #[.string ⟨(cutX s.data.toList).toArray⟩] w fun e w' => e = .returned (.string s) ∧ Below w.heap.size w w' := by
  have hl := cutX_len s.data.toList
  have hz : s.data.toList.length = s.size := by simp
  have h := put_any ⟨(cutX s.data.toList).toArray⟩ w (by show (cutX s.data.toList).toArray.size ≤ _; rw [List.size_toArray]; omega)
  rw [show (⟨(cutX s.data.toList).toArray⟩ : ByteArray).data.toList = cutX s.data.toList by simp, put_cut _ h0, str_self] at h
  exact h

set_option maxHeartbeats 400000 in
set_option maxRecDepth 100000 in
theorem sumCuts_any (s : ByteArray) (w : World) :
    Calls Try.prog 5 #[.string s] w fun e w' => e = .returned (.bool true) ∧ Below w.heap.size w w' := by
  by_cases hl : 2000 < s.size
  · have d0 : decide ((2000 : Int) < (s.size : Int)) = true := by simp; omega
    go_enter Try.func5, Try.ntmps5
    go_wp2_with (go_at_call 8; refine (awake_any _).mono ?_; rintro e w1 ⟨rfl, hb1⟩)
    go_ret
    exact ⟨rfl, hb1⟩
  · have d0 : decide ((2000 : Int) < (s.size : Int)) = false := by simp; omega
    have hs : s.size ≤ 1000000 := by omega
    have hs' : s.size ≤ 65530 := by omega
    by_cases h0 : cutE s.data.toList = 0
    · have H0 := Lib.hid h0
      have d1 : (cutE s.data.toList != 0) = false := by simp [h0]
      clear h0
      go_enter Try.func5, Try.ntmps5
      go_wp2_with fail
      refine (cut_any s _).mono ?_
      rintro e w1 ⟨rfl, hb1⟩
      go_wp2_with fail
      refine (refCut_any s _).mono ?_
      rintro e w2 ⟨rfl, hb2⟩
      have hb12 := hb1.trans (hb2.mono hb1.size)
      go_wp2_with fail
      refine (put_any s _ hs).mono ?_
      rintro e w3 ⟨rfl, hb3⟩
      have hb13 := hb12.trans (hb3.mono hb12.size)
      go_wp2_with fail
      refine (cut_back s _ hs').mono ?_
      rintro e w4 ⟨rfl, hb4⟩
      have hb14 := hb13.trans (hb4.mono hb13.size)
      go_wp2_with fail
      refine (put_back s _ hs' H0.out).mono ?_
      rintro e w5 ⟨rfl, hb5⟩
      have hb15 := hb14.trans (hb5.mono hb14.size)
      go_wp2_with (go_at_call 8; refine (awake_any _).mono ?_; rintro e w7 ⟨rfl, hb7⟩)
      go_ret
      exact ⟨rfl, hb15.trans (hb7.mono hb15.size)⟩
    · have d1 : (cutE s.data.toList != 0) = true := by simpa using h0
      clear h0
      go_enter Try.func5, Try.ntmps5
      go_wp2_with fail
      refine (cut_any s _).mono ?_
      rintro e w1 ⟨rfl, hb1⟩
      go_wp2_with fail
      refine (refCut_any s _).mono ?_
      rintro e w2 ⟨rfl, hb2⟩
      have hb12 := hb1.trans (hb2.mono hb1.size)
      go_wp2_with fail
      refine (put_any s _ hs).mono ?_
      rintro e w3 ⟨rfl, hb3⟩
      have hb13 := hb12.trans (hb3.mono hb12.size)
      go_wp2_with fail
      refine (cut_back s _ hs').mono ?_
      rintro e w4 ⟨rfl, hb4⟩
      have hb14 := hb13.trans (hb4.mono hb13.size)
      go_wp2_with (go_at_call 8; refine (awake_any _).mono ?_; rintro e w7 ⟨rfl, hb7⟩)
      go_ret
      exact ⟨rfl, hb14.trans (hb7.mono hb14.size)⟩

/-! Texts, one behind the other. -/
theorem flat_len (xs : List ByteArray) (h : ∀ x ∈ xs, x.size ≤ 200) : (flat xs).length ≤ 200 * xs.length := by
  induction xs with
  | nil => simp [flat]
  | cons a r ih =>
    have h1 := h a List.mem_cons_self
    have h2 := ih (fun x hx => h x (List.mem_cons_of_mem _ hx))
    have h3 : (flat (a :: r)).length = a.size + (flat r).length := by
      show (a.data.toList ++ flat r).length = _
      rw [List.length_append]; simp
    rw [h3, List.length_cons]; omega
theorem flat_data (xs : List ByteArray) : (⟨(flat xs).toArray⟩ : ByteArray).data.toList = flat xs := by simp
theorem flat_str (xs : List ByteArray) (k : Nat) (h : k < xs.length) : (⟨(flat (xs.take k)).toArray⟩ : ByteArray) ++ xs[k] = ⟨(flat (xs.take (k + 1))).toArray⟩ := by
  rw [flat_take xs k h, ← str_app, str_self]

set_option maxHeartbeats 400000 in
set_option maxRecDepth 100000 in
theorem sumJoins_long (c n cap : Nat) (a : Option Addr) (w : World) (h : 20 < n) :
    Calls Try.prog 4 #[.int .u16 (c : Int), .slice a n cap] w fun e w' => e = .returned (.bool true) ∧ Below w.heap.size w w' := by
  have d0 : decide ((20 : Int) < (n : Int)) = true := by simp; omega
  go_enter Try.func4, Try.ntmps4
  go_wp2_with (go_at_call 8; refine (awake_any _).mono ?_; rintro e w1 ⟨rfl, hb1⟩)
  go_ret
  exact ⟨rfl, hb1⟩

theorem of_empty (w : World) :
    Calls Try.prog 11 #[.slice (some ⟨w.heap.size, 0, none⟩) 1 1] (w.alloc (.cells #[.string ⟨#[]⟩] 9)) fun e w' => e = .returned (.int .u16 0) ∧ Below w.heap.size w w' :=
  of_one ⟨#[]⟩ w (by decide)
theorem refFrom_empty (c : Nat) (w : World) (hc : c < 65536) :
    Calls Try.prog 10 #[.int .u16 (c : Int), .string ⟨#[]⟩] w fun e w' => e = .returned (.int .u16 (c : Int)) ∧ w = w' :=
  refFrom_any c ⟨#[]⟩ w hc (by decide)

set_option maxHeartbeats 400000 in
set_option maxRecDepth 100000 in
theorem sumJoins_none (c cap : Nat) (a : Option Addr) (w : World) (hc : c < 65536) :
    Calls Try.prog 4 #[.int .u16 (c : Int), .slice a 0 cap] w fun e w' => e = .returned (.bool true) ∧ Below w.heap.size w w' := by
  go_enter Try.func4, Try.ntmps4
  go_wp2
  go_loop [5, 6] (fun s i => i = .int .i64 0 ∧ s = .string ⟨#[]⟩) (fun _ _ => 0)
  case atStart => exact ⟨rfl, rfl⟩
  case round =>
    obtain ⟨rfl, rfl⟩ := hrel
    go_wp2_with fail
    refine (from_none c cap a _).mono ?_
    rintro e w1 ⟨rfl, rfl⟩
    go_wp2_with fail
    refine (refFrom_empty c _ hc).mono ?_
    rintro e w2 ⟨rfl, rfl⟩
    go_wp2_with fail
    refine (of_none cap a _).mono ?_
    rintro e w3 ⟨rfl, rfl⟩
    go_wp2_with fail
    refine (of_empty _).mono ?_
    rintro e w4 ⟨rfl, hb4⟩
    go_wp2_with (go_at_call 8; refine (awake_any _).mono ?_; rintro e w7 ⟨rfl, hb7⟩)
    go_ret
    exact ⟨rfl, hb4.trans (hb7.mono hb4.size)⟩

set_option maxHeartbeats 400000 in
set_option maxRecDepth 100000 in
theorem sumJoins_some (c b o cap : Nat) (xs : List ByteArray) (w : World) (hc : c < 65536) (hx : xs.length ≤ 20)
    (hcells : ∀ (j : Nat) x, xs[j]? = some x → w.cell? ⟨b, o + j, none⟩ = some (.string x)) :
    Calls Try.prog 4 #[.int .u16 (c : Int), .slice (some ⟨b, o, none⟩) xs.length cap] w fun e w' => e = .returned (.bool true) ∧ Below w.heap.size w w' := by
  have HC := Lib.hid hcells
  have d0 : decide ((20 : Int) < (xs.length : Int)) = false := by simp; omega
  clear hcells
  go_enter Try.func4, Try.ntmps4
  go_wp2
  go_loop [5, 6] (fun s i => ∃ (k : Nat), k ≤ xs.length ∧ i = .int .i64 k ∧ s = .string ⟨(flat (xs.take k)).toArray⟩ ∧ Hid (∀ x ∈ xs.take k, x.size ≤ 200)) (fun _ i => xs.length - (intOf i).toNat)
  case atStart => exact ⟨0, Nat.zero_le _, rfl, rfl, Lib.hid (by simp)⟩
  case round =>
    obtain ⟨k, hk, rfl, rfl, HL⟩ := hrel
    have hfl := flat_len _ HL.out
    have hfk : (xs.take k).length ≤ k := List.length_take_le _ _
    have hfl2 : (flat (xs.take k)).length ≤ 4000 := by omega
    clear hfl hfk
    by_cases hlt : k < xs.length
    · have hcell := HC.out k xs[k] (List.getElem?_eq_getElem hlt)
      have HS := Lib.hid (flat_str xs k hlt)
      by_cases hbig : 200 < (xs[k]'hlt).size
      · have d1 : decide ((200 : Int) < ((xs[k]'hlt).size : Int)) = true := by simp; omega
        go_wp2_with (go_at_call 8; refine (awake_any _).mono ?_; rintro e w1 ⟨rfl, hb1⟩)
        go_ret
        exact ⟨rfl, hb1⟩
      · have d1 : decide ((200 : Int) < ((xs[k]'hlt).size : Int)) = false := by simp; omega
        have HL2 : Hid (∀ x ∈ xs.take (k + 1), x.size ≤ 200) := by
          intro x hx
          rw [List.take_succ_eq_append_getElem hlt, List.mem_append, List.mem_singleton] at hx
          rcases hx with hx | rfl
          · exact HL.out x hx
          · omega
        go_wp2
        go_round
        case rel => exact ⟨k + 1, by omega, by go_num, by rw [← HS.out], HL2⟩
        case measure => simp [intOf]; omega
    · have HT := Lib.hid (show xs.take k = xs from List.take_of_length_le (by omega))
      rw [HT.out]
      have HZ : Hid (∀ x ∈ xs, x.size ≤ 1000000) := by
        intro x hx
        have := HL.out x (by rw [HT.out]; exact hx)
        omega
      have HF : Hid ((⟨(flat xs).toArray⟩ : ByteArray).size ≤ 1000000) := by
        show (flat xs).toArray.size ≤ 1000000
        rw [HT.out] at hfl2
        simp; omega
      clear hfl2
      go_wp2_with fail
      refine (from_any c b o cap xs _ hc (by omega) HZ.out HC.out).mono ?_
      rintro e w1 ⟨rfl, rfl⟩
      go_wp2_with fail
      refine (refFrom_any c _ _ hc HF.out).mono ?_
      rintro e w2 ⟨rfl, rfl⟩
      rw [flat_data]
      go_wp2_with fail
      refine (of_any b o cap xs _ (by omega) HZ.out HC.out).mono ?_
      rintro e w3 ⟨rfl, rfl⟩
      go_wp2_with fail
      refine (of_one _ _ HF.out).mono ?_
      rintro e w4 ⟨rfl, hb4⟩
      rw [flat_data]
      go_wp2_with (go_at_call 8; refine (awake_any _).mono ?_; rintro e w7 ⟨rfl, hb7⟩)
      go_ret
      exact ⟨rfl, hb4.trans (hb7.mono hb4.size)⟩
end Go.Proofs.Ythhjeiabjmhalaa
