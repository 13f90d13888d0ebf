/- What the document's functions on hexadecimal digits answer. -/
import Derived.Test.YthhjeiabjmhalaaHexA
namespace Go.Proofs.Ythhjeiabjmhalaa
open Go.RowKit Sash.Num

set_option maxHeartbeats 400000 in
theorem refDigit_any (x : Int) (w : World) (h0 : 0 ≤ x) (h1 : x < 16) :
    Calls Try.prog 21 #[.int .i64 x] w fun e w' => e = .returned (.string ⟨#[hexc x.toNat]⟩) ∧ w = w' := by
  obtain ⟨k, rfl⟩ := Int.eq_ofNat_of_zero_le h0
  rw [Int.toNat_natCast]
  go_enter Try.func21, Try.ntmps21
  go_wp2
  go_ret
  exact ⟨ret_str (hex_ext k (by omega)), rfl⟩

theorem quiet_same {P : Program} {f : FuncId} {args : Array Value} {w : World} {n : Nat} {v : Value}
    (h : Calls P f args (w.drewN n) fun e w' => e = .returned v ∧ w.drewN n = w') : Calls P f args (w.drewN n) fun e w'' => e = .returned v ∧ ∃ m, w'' = w.drewN m :=
  h.mono fun _ _ ⟨he, hm⟩ => ⟨he, n, hm.symm⟩
def dcur (v m : Nat) : Int := if v < m then (v : Int) else -1
theorem ext1 (s : ByteArray) (k : Nat) (h : k < s.size) : s.extract k (k + 1) = ⟨#[s[k]]⟩ := by
  apply ByteArray.ext
  apply Array.ext'
  rw [Lib.extract_data, Nat.add_sub_cancel_left, List.take_one, List.head?_drop, List.getElem?_eq_getElem (by simpa using h)]
  rfl
theorem hexc_iff_fin : ∀ k : Fin 16, ∀ c : Fin 256, hexc k.val = UInt8.ofNat c.val ↔ hexv (UInt8.ofNat c.val) = k.val := by decide +kernel
theorem hexc_iff (k : Nat) (h : k < 16) (c : UInt8) : hexc k = c ↔ hexv c = k := by
  have := hexc_iff_fin ⟨k, h⟩ ⟨c.toNat, c.toNat_lt⟩
  simpa using this
theorem eq_hex (s : ByteArray) (k m : Nat) (hk : k < s.size) (hm : m < 16) : ([hexc m] == (s.extract k (k + 1)).toList) = decide (hexv s[k] = m) := by
  rw [ext1 s k hk, Lib.toList_data, Bool.eq_iff_iff, beq_iff_eq, decide_eq_true_iff, ← hexc_iff m hm]
  simp
theorem dcur_yes (v m : Nat) (h : v = m) : dcur v (m + 1) = m := by unfold dcur; rw [if_pos (by omega), h]
theorem dcur_no (v m : Nat) (h : v ≠ m) : dcur v (m + 1) = dcur v m := by
  unfold dcur
  by_cases h2 : v < m
  · rw [if_pos h2, if_pos (by omega)]
  · rw [if_neg h2, if_neg (by omega)]
theorem rh_bound (s : ByteArray) (k : Nat) (h : ∀ c ∈ s.data.toList, hexv c < 16) (hk : k ≤ s.size) : rhV (s.data.toList.take k) < 16 ^ k := by
  have := rhV_lt (s.data.toList.take k) (fun c hc => h c (List.mem_of_mem_take hc))
  rwa [List.length_take, Nat.min_eq_left (by simpa using hk)] at this
theorem str4 (a b c d : UInt8) : (⟨#[a]⟩ : ByteArray) ++ ⟨#[b]⟩ ++ ⟨#[c]⟩ ++ ⟨#[d]⟩ = ⟨#[a, b, c, d]⟩ := by
  apply ByteArray.ext; simp

set_option maxHeartbeats 400000 in
set_option maxRecDepth 100000 in
theorem refHex_any (n : Nat) (w : World) (hn : n < 65536) :
    Calls Try.prog 18 #[.int .u16 (n : Int)] w fun e w' => e = .returned (.string ⟨(hex4 n).toArray⟩) ∧ w = w' := by
  go_enter Try.func18, Try.ntmps18
  go_wp2_with (go_at_call 21; refine (refDigit_any _ _ (by omega) (by omega)).mono ?_; rintro e w1 ⟨rfl, rfl⟩)
  go_ret
  exact ⟨ret_str (str4 _ _ _ _), rfl⟩

set_option maxHeartbeats 400000 in
set_option maxRecDepth 100000 in
theorem refReadHex_size (s : ByteArray) (w : World) (hs : s.size ≠ 4) :
    Calls Try.prog 20 #[.string s] w fun e w' => e = .returned (.tuple #[.int .u16 0, .bool false]) ∧ Below w.heap.size w w' := by
  have q0 : ((s.size : Int) != 4) = true := by simp; omega
  go_enter Try.func20, Try.ntmps20
  go_wp2
  go_ret2
  exact ⟨rfl, Below.refl _ _⟩

set_option maxHeartbeats 400000 in
set_option maxRecDepth 100000 in
theorem refReadHex_yes (s : ByteArray) (w : World) (hs : s.size = 4) (ha : ∀ c ∈ s.data.toList, hexv c < 16) :
    Calls Try.prog 20 #[.string s] w fun e w' => e = .returned (.tuple #[.int .u16 (rhV s.data.toList), .bool true]) ∧ Below w.heap.size w w' := by
  have q0 : ((s.size : Int) != 4) = false := by simp; omega
  have HA := Lib.hid ha
  have hs4 : s.size ≤ 4 := by omega
  have hs5 : 4 ≤ s.size := by omega
  clear ha hs
  go_enter Try.func20, Try.ntmps20
  go_wp2
  go_loopw [4, 5] (fun x i wr => ∃ k : Nat, k ≤ 4 ∧ i = .int .i64 k ∧ x = .int .i64 (rhV (s.data.toList.take k)) ∧ Below w.heap.size w wr) (fun _ i _ => 4 - (intOf i).toNat)
  case atStart => exact ⟨0, by omega, rfl, rfl, Below.refl _ _⟩
  case round =>
    obtain ⟨k, hk, rfl, rfl, hb⟩ := hrel
    have hk4 : k ≤ s.size := by omega
    have hr := rh_bound s k HA.out hk4
    by_cases hlt : k < 4
    · have hlt' : k < s.data.toList.length := by simp; omega
      have HS := Lib.hid (rhV_take s.data.toList k hlt')
      go_wp2
      go_loopw [6, 7] (fun d j wr2 => ∃ m : Nat, m ≤ 16 ∧ j = .int .i64 m ∧ d = .int .i64 (dcur (hexv (s[k]'(by omega))) m) ∧ Below w.heap.size w wr2) (fun _ j _ => 16 - (intOf j).toNat)
      case atStart => exact ⟨0, by omega, rfl, rfl, hb⟩
      case round =>
        obtain ⟨m, hm, rfl, rfl, hb2⟩ := hrel
        by_cases hm16 : m < 16
        · go_wp2
          go_quiet ((go_at_call 21; exact quiet_same (refDigit_any _ _ (by omega) (by omega))))
          have hbq : Below w.heap.size w (wr.drewN nq) := hb2.trans ⟨rfl, rfl, rfl, Nat.le_refl _, fun _ _ => rfl⟩
          generalize wr.drewN nq = w3 at *
          have HQ := Lib.hid (eq_hex s k m (by omega) hm16)
          go_wp2
          · rename_i ht
            rw [HQ.out] at ht
            have HY := Lib.hid (dcur_yes _ _ (of_decide_eq_true ht))
            go_roundw
            case rel => exact ⟨m + 1, by omega, by go_num, by rw [HY.out], hbq⟩
            case measure => simp [intOf]; omega
          · rename_i ht
            rw [HQ.out] at ht
            have HY := Lib.hid (dcur_no _ _ (of_decide_eq_false ht))
            go_roundw
            case rel => exact ⟨m + 1, by omega, by go_num, by rw [HY.out], hbq⟩
            case measure => simp [intOf]; omega
        · have hme : m = 16 := by omega
          subst hme
          have hv := HA.out (s[k]'(by omega)) (List.getElem_mem hlt')
          have hdv : dcur (hexv (s[k]'(by omega))) 16 = (hexv (s[k]'(by omega)) : Int) := by unfold dcur; rw [if_pos hv]
          rw [hdv]
          have HD := Lib.hid hdv
          clear hdv
          have hp3 : rhV (s.data.toList.take k) < 4096 := by
            have : 16 ^ k ≤ 16 ^ 3 := Nat.pow_le_pow_right (by decide) (by omega)
            omega
          have d6 : decide (((hexv (s[k]'(by omega)) : Nat) : Int) < 0) = false := by simp
          clear hr
          go_wp2
          go_roundw
          case rel => exact ⟨k + 1, by omega, by go_num, by rw [HS.out]; congr 1; show _ = ((_ * 16 + hexv s[k] : Nat) : Int); omega, hb2⟩
          case measure => simp [intOf]; omega
    · have hke : k = 4 := by omega
      have HT := Lib.hid (show s.data.toList.take k = s.data.toList from List.take_of_length_le (by simp; omega))
      rw [HT.out]
      rw [HT.out] at hr
      have hr2 : rhV s.data.toList < 65536 := by rw [hke] at hr; omega
      clear hr hke
      go_wp2
      go_ret2
      exact ⟨rfl, hb⟩

set_option maxHeartbeats 400000 in
set_option maxRecDepth 100000 in
theorem refReadHex_no (s : ByteArray) (w : World) (hs : s.size = 4) (p : Nat) (hi : p < s.size) (hbad : ¬ hexv s[p] < 16) :
    Calls Try.prog 20 #[.string s] w fun e w' => e = .returned (.tuple #[.int .u16 0, .bool false]) ∧ Below w.heap.size w w' := by
  have q0 : ((s.size : Int) != 4) = false := by simp; omega
  have hs4 : s.size ≤ 4 := by omega
  have hs5 : 4 ≤ s.size := by omega
  have HB := Lib.hid hbad
  clear hs hbad
  go_enter Try.func20, Try.ntmps20
  go_wp2
  go_loopw [4, 5] (fun x i wr => ∃ k : Nat, k ≤ 4 ∧ i = .int .i64 k ∧ x = .int .i64 (rhV (s.data.toList.take k)) ∧ Below w.heap.size w wr ∧ k ≤ p ∧ rhV (s.data.toList.take k) < 16 ^ k) (fun _ i _ => 4 - (intOf i).toNat)
  case atStart => exact ⟨0, by omega, rfl, rfl, Below.refl _ _, Nat.zero_le _, by simp [rhV]⟩
  case round =>
    obtain ⟨k, hk, rfl, rfl, hb, hki, hr0⟩ := hrel
    have hk4 : k ≤ s.size := by omega
    have hr := hr0
    have hlt : k < 4 := by omega
    · have hlt' : k < s.data.toList.length := by simp; omega
      have HS := Lib.hid (rhV_take s.data.toList k hlt')
      go_wp2
      go_loopw [6, 7] (fun d j wr2 => ∃ m : Nat, m ≤ 16 ∧ j = .int .i64 m ∧ d = .int .i64 (dcur (hexv (s[k]'(by omega))) m) ∧ Below w.heap.size w wr2) (fun _ j _ => 16 - (intOf j).toNat)
      case atStart => exact ⟨0, by omega, rfl, rfl, hb⟩
      case round =>
        obtain ⟨m, hm, rfl, rfl, hb2⟩ := hrel
        by_cases hm16 : m < 16
        · go_wp2
          go_quiet ((go_at_call 21; exact quiet_same (refDigit_any _ _ (by omega) (by omega))))
          have hbq : Below w.heap.size w (wr.drewN nq) := hb2.trans ⟨rfl, rfl, rfl, Nat.le_refl _, fun _ _ => rfl⟩
          generalize wr.drewN nq = w3 at *
          have HQ := Lib.hid (eq_hex s k m (by omega) hm16)
          go_wp2
          · rename_i ht
            rw [HQ.out] at ht
            have HY := Lib.hid (dcur_yes _ _ (of_decide_eq_true ht))
            go_roundw
            case rel => exact ⟨m + 1, by omega, by go_num, by rw [HY.out], hbq⟩
            case measure => simp [intOf]; omega
          · rename_i ht
            rw [HQ.out] at ht
            have HY := Lib.hid (dcur_no _ _ (of_decide_eq_false ht))
            go_roundw
            case rel => exact ⟨m + 1, by omega, by go_num, by rw [HY.out], hbq⟩
            case measure => simp [intOf]; omega
        · have hme : m = 16 := by omega
          subst hme
          by_cases hv : hexv (s[k]'(by omega)) < 16
          · have hne : k ≠ p := by intro e; subst e; exact HB.out hv
            have hdv : dcur (hexv (s[k]'(by omega))) 16 = (hexv (s[k]'(by omega)) : Int) := by unfold dcur; rw [if_pos hv]
            rw [hdv]
            have HL : Hid (rhV (s.data.toList.take (k + 1)) < 16 ^ (k + 1)) := by
              have := HS.out
              have hv2 : hexv s.data.toList[k] < 16 := hv
              show rhV (s.data.toList.take (k + 1)) < 16 ^ (k + 1)
              rw [this, Nat.pow_succ]; omega
            clear hdv
            have hp3 : rhV (s.data.toList.take k) < 4096 := by
              have : 16 ^ k ≤ 16 ^ 3 := Nat.pow_le_pow_right (by decide) (by omega)
              omega
            have d6 : decide (((hexv (s[k]'(by omega)) : Nat) : Int) < 0) = false := by simp
            clear hr hr0
            go_wp2
            go_roundw
            case rel => exact ⟨k + 1, by omega, by go_num, by rw [HS.out]; congr 1; show _ = ((_ * 16 + hexv s[k] : Nat) : Int); omega, hb2, by omega, HL.out⟩
            case measure => simp [intOf]; omega
          · have hdv : dcur (hexv (s[k]'(by omega))) 16 = -1 := by unfold dcur; rw [if_neg hv]
            rw [hdv]
            clear hdv hr hr0
            go_wp2
            go_ret2
            exact ⟨rfl, hb2⟩
end Go.Proofs.Ythhjeiabjmhalaa
