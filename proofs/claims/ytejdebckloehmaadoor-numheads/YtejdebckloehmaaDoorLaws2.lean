/- Two more laws of numbers as text: there and back, in decimal and in hexadecimal digits. -/
import Derived.Test.YtejdebckloehmaaDoorLaws
namespace Go.Proofs.YtejdebckloehmaaDoor
open Go.RowKit Sash.Num

theorem dig_size (x : Int) : (⟨(dig x).toArray⟩ : ByteArray).size ≤ maxLen := by
  have := dig_len x
  show (dig x).toArray.size ≤ maxLen
  unfold maxLen
  simp; omega
theorem dig_data (x : Int) : (⟨(dig x).toArray⟩ : ByteArray).data.toList = dig x := by simp

/-- A number, told as such, and read again. -/
theorem back_read (w : World) (x : Int) :
    Calls Tryd.prog 11 #[.string ⟨(dig x).toArray⟩] w fun e w' => e = .returned (.tuple #[.int .i64 (readN (dig x)), .int .i64 (readE (dig x))]) ∧ Below w.heap.size w w' := by
  have h := read_any ⟨(dig x).toArray⟩ w (dig_size x)
  rw [dig_data] at h
  exact h

set_option maxHeartbeats 400000 in
set_option maxRecDepth 100000 in
theorem numBack_any (n : Int) (s : ByteArray) (w : World) (h0 : -9223372036854775808 ≤ n) (h1 : n ≤ 9223372036854775807) (hs : s.size ≤ maxLen) (htab : Tab w) :
    Calls Tryd.prog 6 #[.int .i64 n, .string s] w fun e w' => e = .returned (.bool true) ∧ Below w.heap.size w w' := by
  have HT := Lib.hid htab
  clear htab
  by_cases hl : 200 < s.size
  · have d0 : decide ((200 : Int) < (s.size : Int)) = true := by simp; omega
    go_enter Tryd.func6, Tryd.ntmps6
    go_wp2_with (go_at_call 8; refine (awake_any _ HT.out).mono ?_; rintro e w1 ⟨rfl, hb1⟩)
    go_ret
    exact ⟨rfl, hb1⟩
  · have d0 : decide ((200 : Int) < (s.size : Int)) = false := by simp; omega
    by_cases hn : n < 0 ∨ 2147483647 < n
    · have HD := Lib.hid (dig_out n hn)
      have hq : (decide (n < 0) = true) ∨ (decide (n < 0) = false ∧ decide (2147483647 < n) = true) := by
        by_cases h : n < 0
        · left; simpa using h
        · right; exact ⟨by simp; omega, by simp; omega⟩
      clear hn
      rcases hq with q | ⟨q, q'⟩
      all_goals
        go_enter Tryd.func6, Tryd.ntmps6
        go_wp2_with fail
        refine (digits_one w n h0 h1 HT.out).mono ?_
        rintro e w1 ⟨rfl, hb1⟩
        go_wp2_with fail
        refine (back_read _ n).mono ?_
        rintro e w2 ⟨rfl, hb2⟩
        rw [HD.out, read_nil.1, read_nil.2]
        have hb12 := hb1.trans (hb2.mono hb1.size)
        go_wp2_with (go_at_call 8; refine (awake_any _ (tab_on HT.out hb12)).mono ?_; rintro e w3 ⟨rfl, hb3⟩)
        go_ret
        exact ⟨rfl, hb12.trans (hb3.mono hb12.size)⟩
    · have hr := read_dig n (by omega) (by omega)
      have HR := Lib.hid hr
      have q : decide (n < 0) = false := by simp; omega
      have q' : decide (2147483647 < n) = false := by simp; omega
      have hin := readN_in s.data.toList
      clear hr hn
      by_cases he : readE s.data.toList = 0
      · have HB := Lib.hid (dig_read s.data.toList he)
        have e0 : (readE s.data.toList != 0) = false := by simpa using he
        clear he
        go_enter Tryd.func6, Tryd.ntmps6
        go_wp2_with fail
        refine (digits_one w n h0 h1 HT.out).mono ?_
        rintro e w1 ⟨rfl, hb1⟩
        go_wp2_with fail
        refine (back_read _ n).mono ?_
        rintro e w2 ⟨rfl, hb2⟩
        rw [HR.out.1, HR.out.2]
        have hb12 := hb1.trans (hb2.mono hb1.size)
        go_wp2_with fail
        refine (read_any s _ hs).mono ?_
        rintro e w3 ⟨rfl, hb3⟩
        have hb13 := hb12.trans (hb3.mono hb12.size)
        go_wp2_with fail
        refine (digits_one w3 _ (by omega) (by omega) (tab_on HT.out hb13)).mono ?_
        rintro e w4 ⟨rfl, hb4⟩
        rw [HB.out]
        have hb14 := hb13.trans (hb4.mono hb13.size)
        have hself : (⟨s.data.toList.toArray⟩ : ByteArray) = s := by simp
        rw [hself]
        clear hself
        go_wp2_with (go_at_call 8; refine (awake_any _ (tab_on HT.out hb14)).mono ?_; rintro e w5 ⟨rfl, hb5⟩)
        go_ret
        exact ⟨rfl, hb14.trans (hb5.mono hb14.size)⟩
      · have e0 : (readE s.data.toList != 0) = true := by simpa using he
        go_enter Tryd.func6, Tryd.ntmps6
        go_wp2_with fail
        refine (digits_one w n h0 h1 HT.out).mono ?_
        rintro e w1 ⟨rfl, hb1⟩
        go_wp2_with fail
        refine (back_read _ n).mono ?_
        rintro e w2 ⟨rfl, hb2⟩
        rw [HR.out.1, HR.out.2]
        have hb12 := hb1.trans (hb2.mono hb1.size)
        go_wp2_with fail
        refine (read_any s _ hs).mono ?_
        rintro e w3 ⟨rfl, hb3⟩
        have hb13 := hb12.trans (hb3.mono hb12.size)
        go_wp2_with (go_at_call 8; refine (awake_any _ (tab_on HT.out hb13)).mono ?_; rintro e w5 ⟨rfl, hb5⟩)
        go_ret
        exact ⟨rfl, hb13.trans (hb5.mono hb13.size)⟩

/-- Four digits, told of a number, and read again. -/
theorem back_hex (w : World) (n : Nat) (hn : n < 65536) :
    Calls Tryd.prog 15 #[.string ⟨(hex4 n).toArray⟩] w fun e w' => e = .returned (.tuple #[.int .u16 (n : Int), .int .i64 0]) ∧ Below w.heap.size w w' := by
  have hd : (⟨(hex4 n).toArray⟩ : ByteArray).data.toList = hex4 n := by simp
  have h := readHex_yes ⟨(hex4 n).toArray⟩ w rfl (by rw [hd]; exact (hex4_ok n hn).1.2)
  rw [hd, (hex4_ok n hn).2] at h
  exact h

set_option maxHeartbeats 400000 in
set_option maxRecDepth 100000 in
/-- The law's way, whatever the text is read as: x, e; want, ok. -/
theorem numHex_with (n : Nat) (s : ByteArray) (w : World) (hn : n < 65536) (hl : s.size ≤ 200) (htab : Tab w) (x : Int) (er : Int) (ok : Bool) (hx : ok = true ∧ er = 0 ∨ ok = false ∧ er = 2)
    (h1 : ∀ w, Calls Tryd.prog 15 #[.string s] w fun e w' => e = .returned (.tuple #[.int .u16 x, .int .i64 er]) ∧ Below w.heap.size w w')
    (h2 : ∀ w, Calls Tryd.prog 16 #[.string s] w fun e w' => e = .returned (.tuple #[.int .u16 x, .bool ok]) ∧ Below w.heap.size w w') :
    Calls Tryd.prog 7 #[.int .u16 (n : Int), .string s] w fun e w' => e = .returned (.bool true) ∧ Below w.heap.size w w' := by
  have HT := Lib.hid htab
  have H1 := Lib.hid h1
  have H2 := Lib.hid h2
  clear htab h1 h2
  have d0 : decide ((200 : Int) < (s.size : Int)) = false := by simp; omega
  rcases hx with ⟨rfl, rfl⟩ | ⟨rfl, rfl⟩
  all_goals
    go_enter Tryd.func7, Tryd.ntmps7
    go_wp2_with fail
    refine (H1.out _).mono ?_
    rintro e w1 ⟨rfl, hb1⟩
    go_wp2_with fail
    refine (H2.out _).mono ?_
    rintro e w2 ⟨rfl, hb2⟩
    have hb12 := hb1.trans (hb2.mono hb1.size)
    go_wp2_with fail
    refine (hex_any n _ hn).mono ?_
    rintro e w3 ⟨rfl, hb3⟩
    have hb13 := hb12.trans (hb3.mono hb12.size)
    go_wp2_with fail
    refine (back_hex _ n hn).mono ?_
    rintro e w4 ⟨rfl, hb4⟩
    have hb14 := hb13.trans (hb4.mono hb13.size)
    go_wp2_with fail
    refine (hex_any n _ hn).mono ?_
    rintro e w5 ⟨rfl, hb5⟩
    have hb15 := hb14.trans (hb5.mono hb14.size)
    go_wp2_with fail
    refine (refHex_any n _ hn).mono ?_
    rintro e w6 ⟨rfl, rfl⟩
    go_wp2_with (go_at_call 8; refine (awake_any _ (tab_on HT.out hb15)).mono ?_; rintro e w7 ⟨rfl, hb7⟩)
    go_ret
    exact ⟨rfl, hb15.trans (hb7.mono hb15.size)⟩

set_option maxHeartbeats 400000 in
set_option maxRecDepth 100000 in
theorem numHex_any (n : Nat) (s : ByteArray) (w : World) (hn : n < 65536) (htab : Tab w) :
    Calls Tryd.prog 7 #[.int .u16 (n : Int), .string s] w fun e w' => e = .returned (.bool true) ∧ Below w.heap.size w w' := by
  by_cases hl : 200 < s.size
  · have HT := Lib.hid htab
    clear htab
    have d0 : decide ((200 : Int) < (s.size : Int)) = true := by simp; omega
    go_enter Tryd.func7, Tryd.ntmps7
    go_wp2_with (go_at_call 8; refine (awake_any _ HT.out).mono ?_; rintro e w1 ⟨rfl, hb1⟩)
    go_ret
    exact ⟨rfl, hb1⟩
  · by_cases hz : s.size = 4
    · by_cases ha : ∀ c ∈ s.data.toList, hexv c < 16
      · exact numHex_with n s w hn (by omega) htab _ 0 true (Or.inl ⟨rfl, rfl⟩) (fun w => readHex_yes s w hz ha) (fun w => refReadHex_yes s w hz ha)
      · have hex : ∃ i, ∃ h : i < s.size, ¬ hexv s[i] < 16 := by
          refine Classical.byContradiction fun hno => ha fun c hc => ?_
          obtain ⟨k, hk, rfl⟩ := List.getElem_of_mem hc
          refine Classical.byContradiction fun hb => hno ⟨k, by simpa using hk, hb⟩
        obtain ⟨i, hi, hb⟩ := hex
        exact numHex_with n s w hn (by omega) htab 0 2 false (Or.inr ⟨rfl, rfl⟩) (fun w => readHex_no s w hz i hi hb) (fun w => refReadHex_no s w hz i hi hb)
    · exact numHex_with n s w hn (by omega) htab 0 2 false (Or.inr ⟨rfl, rfl⟩) (fun w => readHex_size s w hz) (fun w => refReadHex_size s w hz)
end Go.Proofs.YtejdebckloehmaaDoor
