/- What num's functions on hexadecimal digits answer: Hex, ReadHex. -/
import Derived.Test.YthhjeiabjmhalaaRet
import Derived.Test.YthhjeiabjmhalaaMath2
namespace Go.Proofs.Ythhjeiabjmhalaa
open Go.RowKit Sash.Num

theorem and15 (x : Int) (h0 : 0 ≤ x) (h1 : x < 65536) : bits BinOp.and .u16 x 15 = x % 16 :=
  bits_mask .u16 16 (by decide) (fun n h₀ h₁ => by rw [IntKind.wrap_u16]; omega) 4 (by decide) x h0 h1

theorem or16 (x y : Int) (h0 : 0 ≤ x) (hm : x % 16 = 0) (h1 : x < 65536) (h2 : 0 ≤ y) (h3 : y < 16) : bits BinOp.or .u16 x y = x + y :=
  bits_join .u16 16 (by decide) (fun n h₀ h₁ => by rw [IntKind.wrap_u16]; omega) 4 x y h0 hm h1 h2 h3 (by omega)

theorem conv4 (w : World) (a b c d : UInt8) :
    (convert 37 9 (.slice (some ⟨w.heap.size, 0, none⟩) 4 4)).run Try.prog (w.alloc (.cells #[.int .u8 (a.toNat : Int), .int .u8 (b.toNat : Int), .int .u8 (c.toNat : Int), .int .u8 (d.toNat : Int)] 5)).drew = .ok (.string ⟨#[a, b, c, d]⟩) (w.alloc (.cells #[.int .u8 (a.toNat : Int), .int .u8 (b.toNat : Int), .int .u8 (c.toNat : Int), .int .u8 (d.toNat : Int)] 5)).drew :=
  run_convert_bytes_back _ 37 9 5 ⟨w.heap.size, 0, none⟩ 4 [a, b, c, d] Try.underlying37 Try.underlying5 Try.underlying9 (fun j hj => by
    match j, hj with
    | 0, _ => simp [Addr.add_lit]
    | 1, _ => simp [Addr.add_lit]
    | 2, _ => simp [Addr.add_lit]
    | 3, _ => simp [Addr.add_lit])

set_option maxHeartbeats 400000 in
set_option maxRecDepth 100000 in
theorem hex_any (n : Nat) (w : World) (hn : n < 65536) :
    Calls Try.prog 17 #[.int .u16 (n : Int)] w fun e w' => e = .returned (.string ⟨(hex4 n).toArray⟩) ∧ Below w.heap.size w w' := by
  have b0 : bits BinOp.and .u16 (n : Int) 15 = (n : Int) % 16 := and15 _ (by omega) (by omega)
  have b1 : bits BinOp.and .u16 ((n : Int) / 16) 15 = (n : Int) / 16 % 16 := and15 _ (by omega) (by omega)
  have b2 : bits BinOp.and .u16 ((n : Int) / 256) 15 = (n : Int) / 256 % 16 := and15 _ (by omega) (by omega)
  have l0 : (0 : Int) ≤ (n : Int) % 16 := by omega
  have l1 : (0 : Int) ≤ (n : Int) / 16 % 16 := by omega
  have l2 : (0 : Int) ≤ (n : Int) / 256 % 16 := by omega
  have l3 : (0 : Int) ≤ (n : Int) / 4096 := by omega
  have u0 : (n : Int) % 16 < 16 := by omega
  have u1 : (n : Int) / 16 % 16 < 16 := by omega
  have u2 : (n : Int) / 256 % 16 < 16 := by omega
  have u3 : (n : Int) / 4096 < 16 := by omega
  have hcv := conv4 w
  go_enter Try.func17, Try.ntmps17
  go_wp2
  go_region
  go_wp2
  go_ret
  refine ⟨ret_str ?_, ((Below.refl _ w).alloc (Nat.le_refl _) _).drew⟩
  unfold hex4
  rw [← hex_idx (n / 4096) (by omega) (by rw [hexS_size]; omega), ← hex_idx (n / 256 % 16) (by omega) (by rw [hexS_size]; omega), ← hex_idx (n / 16 % 16) (by omega) (by rw [hexS_size]; omega), ← hex_idx (n % 16) (by omega) (by rw [hexS_size]; omega)]
  rfl

set_option maxHeartbeats 400000 in
set_option maxRecDepth 100000 in
theorem hexValue_digit (r : Int) (w : World) (h0 : 48 ≤ r) (h1 : r ≤ 57) :
    Calls Try.prog 22 #[.int .i32 r] w fun e w' => e = .returned (.tuple #[.int .u16 (r - 48), .bool true]) ∧ w = w' := by
  have d0 : decide (48 ≤ r) = true := by simp; omega
  have d1 : decide (r ≤ 57) = true := by simp; omega
  go_enter Try.func22, Try.ntmps22
  go_wp2
  go_ret2
  exact ⟨rfl, rfl⟩

set_option maxHeartbeats 400000 in
set_option maxRecDepth 100000 in
theorem hexValue_letter (r : Int) (w : World) (h0 : 97 ≤ r) (h1 : r ≤ 102) :
    Calls Try.prog 22 #[.int .i32 r] w fun e w' => e = .returned (.tuple #[.int .u16 (r - 87), .bool true]) ∧ w = w' := by
  have d0 : decide (48 ≤ r) = true := by simp; omega
  have d1 : decide (r ≤ 57) = false := by simp; omega
  have d2 : decide (97 ≤ r) = true := by simp; omega
  have d3 : decide (r ≤ 102) = true := by simp; omega
  have HE := Lib.hid (show r - 97 + 10 = r - 87 by omega)
  go_enter Try.func22, Try.ntmps22
  go_wp2
  go_ret2
  exact ⟨retIB HE.out, rfl⟩

set_option maxHeartbeats 400000 in
set_option maxRecDepth 100000 in
theorem hexValue_no (r : Int) (w : World) (h : r < 48 ∨ (57 < r ∧ r < 97) ∨ 102 < r) :
    Calls Try.prog 22 #[.int .i32 r] w fun e w' => e = .returned (.tuple #[.int .u16 0, .bool false]) ∧ w = w' := by
  rcases h with h | ⟨h, h'⟩ | h
  · have d0 : decide (48 ≤ r) = false := by simp; omega
    have d2 : decide (97 ≤ r) = false := by simp; omega
    go_enter Try.func22, Try.ntmps22
    go_wp2
    go_ret2
    exact ⟨rfl, rfl⟩
  · have d0 : decide (48 ≤ r) = true := by simp; omega
    have d1 : decide (r ≤ 57) = false := by simp; omega
    have d2 : decide (97 ≤ r) = false := by simp; omega
    go_enter Try.func22, Try.ntmps22
    go_wp2
    go_ret2
    exact ⟨rfl, rfl⟩
  · have d0 : decide (48 ≤ r) = true := by simp; omega
    have d1 : decide (r ≤ 57) = false := by simp; omega
    have d2 : decide (97 ≤ r) = true := by simp; omega
    have d3 : decide (r ≤ 102) = false := by simp; omega
    go_enter Try.func22, Try.ntmps22
    go_wp2
    go_ret2
    exact ⟨rfl, rfl⟩

set_option maxHeartbeats 400000 in
set_option maxRecDepth 100000 in
theorem readHex_yes (s : ByteArray) (w : World) (hs : s.size = 4) (ha : ∀ c ∈ s.data.toList, hexv c < 16) :
    Calls Try.prog 19 #[.string s] w fun e w' => e = .returned (.tuple #[.int .u16 (rhV s.data.toList), .int .i64 0]) ∧ Below w.heap.size w w' := by
  have q0 : ((s.size : Int) != 4) = false := by simp; omega
  have HA := Lib.hid ha
  have HZ := Lib.hid hs
  have hs4 : s.size ≤ 4 := by omega
  clear ha hs
  go_enter Try.func19, Try.ntmps19
  go_wp2
  go_loopw [4] (fun n wr => ∃ pos : Nat, pos ≤ s.size ∧ n = .int .u16 (rhV (s.data.toList.take pos)) ∧ wr = w.iter s pos) (fun _ wr => s.size - wr.iterPos w.heap.size)
  case atStart => exact ⟨0, Nat.zero_le _, rfl, rfl⟩
  case round =>
    obtain ⟨pos, hp, rfl, rfl⟩ := hrel
    by_cases hlt : pos < s.size
    · have hlt' : pos < s.data.toList.length := by simpa using hlt
      have hv := HA.out s[pos] (List.getElem_mem hlt')
      have hrl := rhV_lt (s.data.toList.take pos) (fun c hc => HA.out c (List.mem_of_mem_take hc))
      have hpl : (s.data.toList.take pos).length = pos := by simp; omega
      have hp3 : 16 ^ pos ≤ 16 ^ 3 := Nat.pow_le_pow_right (by decide) (by omega)
      have hr : rhV (s.data.toList.take pos) < 4096 := by rw [hpl] at hrl; omega
      have HS := Lib.hid (rhV_take s.data.toList pos hlt')
      clear hrl hpl hp3
      have hcase : (48 ≤ s[pos].toNat ∧ s[pos].toNat ≤ 57 ∧ hexv s[pos] = s[pos].toNat - 48) ∨ (97 ≤ s[pos].toNat ∧ s[pos].toNat ≤ 102 ∧ hexv s[pos] = s[pos].toNat - 87) := by
        unfold hexv at hv ⊢
        split at hv
        · rename_i h; left; rw [if_pos h]; exact ⟨h.1, h.2, rfl⟩
        · rename_i h
          rw [if_neg h]
          split at hv
          · rename_i h2; right; rw [if_pos h2]; exact ⟨h2.1, h2.2, rfl⟩
          · omega
      have hnx : ∀ ty, (Instr.next (.pointer (some ⟨w.heap.size, 0, none⟩)) true ty).run Try.prog (w.iter s pos) = _ := fun ty => run_next_ascii w s pos ty hlt (by omega)
      rcases hcase with ⟨h1, h2, h3⟩ | ⟨h1, h2, h3⟩
      · have HV := Lib.hid h3
        clear h3
        go_wp2_with (go_at_call 22; refine (hexValue_digit _ _ (by omega) (by omega)).mono ?_; rintro e w1 ⟨rfl, rfl⟩)
        go_roundw
        case rel => exact ⟨pos + 1, by omega, by rw [or16 _ _ (by omega) (by omega) (by omega) (by omega) (by omega), HS.out]; congr 1; have := HV.out; show _ = ((rhV _ * 16 + hexv s[pos] : Nat) : Int); rw [this]; omega, rfl⟩
        case measure => simp; omega
      · have HV := Lib.hid h3
        clear h3
        go_wp2_with (go_at_call 22; refine (hexValue_letter _ _ (by omega) (by omega)).mono ?_; rintro e w1 ⟨rfl, rfl⟩)
        go_roundw
        case rel => exact ⟨pos + 1, by omega, by rw [or16 _ _ (by omega) (by omega) (by omega) (by omega) (by omega), HS.out]; congr 1; have := HV.out; show _ = ((rhV _ * 16 + hexv s[pos] : Nat) : Int); rw [this]; omega, rfl⟩
        case measure => simp; omega
    · have hnx : ∀ ty, (Instr.next (.pointer (some ⟨w.heap.size, 0, none⟩)) true ty).run Try.prog (w.iter s pos) = _ := fun ty => run_next_end w s pos ty hlt
      go_wp2
      go_ret2
      exact ⟨ret2 (by rw [List.take_of_length_le (by simp; omega)]) rfl, (Below.refl _ w).alloc (Nat.le_refl _) _⟩

set_option maxHeartbeats 400000 in
set_option maxRecDepth 100000 in
theorem readHex_size (s : ByteArray) (w : World) (hs : s.size ≠ 4) :
    Calls Try.prog 19 #[.string s] w fun e w' => e = .returned (.tuple #[.int .u16 0, .int .i64 2]) ∧ Below w.heap.size w w' := by
  have q0 : ((s.size : Int) != 4) = true := by simp; omega
  go_enter Try.func19, Try.ntmps19
  go_wp2
  go_ret2
  exact ⟨rfl, Below.refl _ _⟩

theorem hexv_lt {c : UInt8} (hv : hexv c < 16) : (48 ≤ c.toNat ∧ c.toNat ≤ 57 ∧ hexv c = c.toNat - 48) ∨ (97 ≤ c.toNat ∧ c.toNat ≤ 102 ∧ hexv c = c.toNat - 87) := by
  unfold hexv at hv ⊢
  split at hv
  · rename_i h; left; rw [if_pos h]; exact ⟨h.1, h.2, rfl⟩
  · rename_i h
    rw [if_neg h]
    split at hv
    · rename_i h2; right; rw [if_pos h2]; exact ⟨h2.1, h2.2, rfl⟩
    · omega
theorem hexv_ge {c : UInt8} (hv : ¬ hexv c < 16) : c.toNat < 48 ∨ (57 < c.toNat ∧ c.toNat < 97) ∨ 102 < c.toNat := by
  unfold hexv at hv
  split at hv
  · omega
  · split at hv <;> omega

set_option maxHeartbeats 400000 in
set_option maxRecDepth 100000 in
theorem readHex_no (s : ByteArray) (w : World) (hs : s.size = 4) (i : Nat) (hi : i < s.size) (hbad : ¬ hexv s[i] < 16) :
    Calls Try.prog 19 #[.string s] w fun e w' => e = .returned (.tuple #[.int .u16 0, .int .i64 2]) ∧ Below w.heap.size w w' := by
  have q0 : ((s.size : Int) != 4) = false := by simp; omega
  have hs4 : s.size ≤ 4 := by omega
  have HB := Lib.hid hbad
  clear hs hbad
  go_enter Try.func19, Try.ntmps19
  go_wp2
  go_loopw [4] (fun n wr => ∃ pos : Nat, pos ≤ i ∧ n = .int .u16 (rhV (s.data.toList.take pos)) ∧ rhV (s.data.toList.take pos) < 16 ^ pos ∧ wr = w.iter s pos) (fun _ wr => s.size - wr.iterPos w.heap.size)
  case atStart => exact ⟨0, Nat.zero_le _, rfl, by simp [rhV], rfl⟩
  case round =>
    obtain ⟨pos, hp, rfl, hrl, rfl⟩ := hrel
    have hlt : pos < s.size := by omega
    have hlt' : pos < s.data.toList.length := by simpa using hlt
    by_cases hv : hexv s[pos] < 16
    · have hne : pos ≠ i := by intro e; subst e; exact HB.out hv
      have hp3 : 16 ^ pos ≤ 16 ^ 3 := Nat.pow_le_pow_right (by decide) (by omega)
      have hr : rhV (s.data.toList.take pos) < 4096 := by omega
      have HS := Lib.hid (rhV_take s.data.toList pos hlt')
      have HL : Hid (rhV (s.data.toList.take (pos + 1)) < 16 ^ (pos + 1)) := by
        have := HS.out
        have hv2 : hexv s.data.toList[pos] < 16 := hv
        show rhV (s.data.toList.take (pos + 1)) < 16 ^ (pos + 1)
        rw [this, Nat.pow_succ]; omega
      clear hrl hp3
      have hcase := hexv_lt hv
      have hnx : ∀ ty, (Instr.next (.pointer (some ⟨w.heap.size, 0, none⟩)) true ty).run Try.prog (w.iter s pos) = _ := fun ty => run_next_ascii w s pos ty hlt (by omega)
      rcases hcase with ⟨h1, h2, h3⟩ | ⟨h1, h2, h3⟩
      · have HV := Lib.hid h3
        clear h3
        go_wp2_with (go_at_call 22; refine (hexValue_digit _ _ (by omega) (by omega)).mono ?_; rintro e w1 ⟨rfl, rfl⟩)
        go_roundw
        case rel => exact ⟨pos + 1, by omega, by rw [or16 _ _ (by omega) (by omega) (by omega) (by omega) (by omega), HS.out]; congr 1; have := HV.out; show _ = ((rhV _ * 16 + hexv s[pos] : Nat) : Int); rw [this]; omega, HL.out, rfl⟩
        case measure => simp; omega
      · have HV := Lib.hid h3
        clear h3
        go_wp2_with (go_at_call 22; refine (hexValue_letter _ _ (by omega) (by omega)).mono ?_; rintro e w1 ⟨rfl, rfl⟩)
        go_roundw
        case rel => exact ⟨pos + 1, by omega, by rw [or16 _ _ (by omega) (by omega) (by omega) (by omega) (by omega), HS.out]; congr 1; have := HV.out; show _ = ((rhV _ * 16 + hexv s[pos] : Nat) : Int); rw [this]; omega, HL.out, rfl⟩
        case measure => simp; omega
    · have hcase := hexv_ge hv
      clear hrl
      by_cases ha : (s[pos]'hlt).toNat < 128
      · have hnx : ∀ ty, (Instr.next (.pointer (some ⟨w.heap.size, 0, none⟩)) true ty).run Try.prog (w.iter s pos) = _ := fun ty => run_next_ascii w s pos ty hlt ha
        go_wp2_with (go_at_call 22; refine (hexValue_no _ _ (by omega)).mono ?_; rintro e w1 ⟨rfl, rfl⟩)
        go_ret2
        exact ⟨rfl, (Below.refl _ w).alloc (Nat.le_refl _) _⟩
      · have hnx : ∀ ty, (Instr.next (.pointer (some ⟨w.heap.size, 0, none⟩)) true ty).run Try.prog (w.iter s pos) = _ := fun ty => run_next_any w s pos ty hlt
        have hd := (decode_high s pos hlt (by omega)).1
        have hd1 := decode_le s pos
        go_wp2_with (go_at_call 22; refine (hexValue_no _ _ (by omega)).mono ?_; rintro e w1 ⟨rfl, rfl⟩)
        go_ret2
        exact ⟨rfl, (Below.refl _ w).alloc (Nat.le_refl _) _⟩
end Go.Proofs.Ythhjeiabjmhalaa
