/- What sum.Cut and the document's Cut answer. -/
import Derived.Test.YthhjeiabjmhalaaSumA
namespace Go.Proofs.Ythhjeiabjmhalaa
open Go.RowKit Sash.Num Sash.Sum

theorem cut_four (s : ByteArray) (h : 4 ≤ s.size) : (s.extract 0 4).size = 4 ∧ (s.extract 0 4).data.toList = s.data.toList.take 4 := by
  refine ⟨by simp [ByteArray.size_extract]; omega, by rw [Lib.extract_data]; simp⟩
theorem cut_rest (s : ByteArray) : (s.extract 5 s.size).data.toList = s.data.toList.drop 5 := by
  rw [Lib.extract_data, List.take_of_length_le]
  simp
theorem cut_at (s : ByteArray) (h : 4 < s.size) : (s.data.toList[4]? = some 44) ↔ (s[4]'h).toNat = 44 := by
  rw [List.getElem?_eq_getElem (by simpa using h)]
  show some s[4] = some 44 ↔ _
  constructor
  · intro e; rw [Option.some.inj e]; rfl
  · intro e; congr 1; exact UInt8.toNat_inj.1 e
theorem ret_bytes {l m : List UInt8} (h : l = m) : (⟨l.toArray⟩ : ByteArray) = ⟨m.toArray⟩ := by rw [h]
theorem bytes_of {s : ByteArray} {l : List UInt8} (h : s.data.toList = l) : s = ⟨l.toArray⟩ := by rw [← h]
theorem some_bad (s : ByteArray) (ha : ¬ ∀ c ∈ s.data.toList, hexv c < 16) : ∃ i, ∃ h : i < s.size, ¬ hexv s[i] < 16 := by
  refine Classical.byContradiction fun hno => ha fun c hc => ?_
  obtain ⟨k, hk, rfl⟩ := List.getElem_of_mem hc
  refine Classical.byContradiction fun hb => hno ⟨k, by simpa using hk, hb⟩

/-- Four bytes, read as digits, by either: not digits. -/
theorem readHex_bad (s : ByteArray) (w : World) (hz : s.size = 4) (ha : ¬ ∀ c ∈ s.data.toList, hexv c < 16) :
    Calls Try.prog 19 #[.string s] w fun e w' => e = .returned (.tuple #[.int .u16 0, .int .i64 2]) ∧ Below w.heap.size w w' := by
  obtain ⟨i, hi, hb⟩ := some_bad s ha
  exact readHex_no s w hz i hi hb
theorem refReadHex_bad (s : ByteArray) (w : World) (hz : s.size = 4) (ha : ¬ ∀ c ∈ s.data.toList, hexv c < 16) :
    Calls Try.prog 20 #[.string s] w fun e w' => e = .returned (.tuple #[.int .u16 0, .bool false]) ∧ Below w.heap.size w w' := by
  obtain ⟨i, hi, hb⟩ := some_bad s ha
  exact refReadHex_no s w hz i hi hb

theorem four_yes (s : ByteArray) (n : Nat) (w : World) (h : 4 ≤ s.size) (ha : ∀ c ∈ s.data.toList.take 4, hexv c < 16) (hn : rhV (s.data.toList.take 4) = n) :
    Calls Try.prog 19 #[.string (s.extract 0 4)] w fun e w' => e = .returned (.tuple #[.int .u16 (n : Int), .int .i64 0]) ∧ Below w.heap.size w w' := by
  obtain ⟨z4, t4⟩ := cut_four s h
  rw [← t4] at ha hn
  rw [← hn]
  exact readHex_yes _ w z4 ha
theorem four_no (s : ByteArray) (w : World) (h : 4 ≤ s.size) (ha : ¬ ∀ c ∈ s.data.toList.take 4, hexv c < 16) :
    Calls Try.prog 19 #[.string (s.extract 0 4)] w fun e w' => e = .returned (.tuple #[.int .u16 0, .int .i64 2]) ∧ Below w.heap.size w w' := by
  obtain ⟨z4, t4⟩ := cut_four s h
  rw [← t4] at ha
  exact readHex_bad _ w z4 ha
theorem refFour_yes (s : ByteArray) (n : Nat) (w : World) (h : 4 ≤ s.size) (ha : ∀ c ∈ s.data.toList.take 4, hexv c < 16) (hn : rhV (s.data.toList.take 4) = n) :
    Calls Try.prog 20 #[.string (s.extract 0 4)] w fun e w' => e = .returned (.tuple #[.int .u16 (n : Int), .bool true]) ∧ Below w.heap.size w w' := by
  obtain ⟨z4, t4⟩ := cut_four s h
  rw [← t4] at ha hn
  rw [← hn]
  exact refReadHex_yes _ w z4 ha
theorem refFour_no (s : ByteArray) (w : World) (h : 4 ≤ s.size) (ha : ¬ ∀ c ∈ s.data.toList.take 4, hexv c < 16) :
    Calls Try.prog 20 #[.string (s.extract 0 4)] w fun e w' => e = .returned (.tuple #[.int .u16 0, .bool false]) ∧ Below w.heap.size w w' := by
  obtain ⟨z4, t4⟩ := cut_four s h
  rw [← t4] at ha
  exact refReadHex_bad _ w z4 ha
theorem rest_size (s : ByteArray) (h : s.size ≤ 65535) : (s.extract 5 s.size).size ≤ 1000000 := by
  simp [ByteArray.size_extract]; omega
theorem of_rest (s : ByteArray) (n : Nat) (w : World) (h : s.size ≤ 65535) (hn : sumF 0 (s.data.toList.drop 5) = n) :
    Calls Try.prog 11 #[.slice (some ⟨w.heap.size, 0, none⟩) 1 1] (w.alloc (.cells #[.string (s.extract 5 s.size)] 9)) fun e w' => e = .returned (.int .u16 (n : Int)) ∧ Below w.heap.size w w' := by
  have := of_one (s.extract 5 s.size) w (rest_size s h)
  rw [cut_rest, hn] at this
  exact this
theorem refFrom_rest (s : ByteArray) (n : Nat) (w : World) (h : s.size ≤ 65535) (hn : sumF 0 (s.data.toList.drop 5) = n) :
    Calls Try.prog 10 #[.int .u16 0, .string (s.extract 5 s.size)] w fun e w' => e = .returned (.int .u16 (n : Int)) ∧ w = w' := by
  have := refFrom_any 0 (s.extract 5 s.size) w (by omega) (rest_size s h)
  rw [cut_rest, hn] at this
  exact this

set_option maxHeartbeats 400000 in
set_option maxRecDepth 100000 in
theorem cut_any (s : ByteArray) (w : World) :
    Calls Try.prog 14 #[.string s] w fun e w' => e = .returned (.tuple #[.string ⟨(cutX s.data.toList).toArray⟩, .int .i64 (cutE s.data.toList)]) ∧ Below w.heap.size w w' := by
  by_cases hl : 65535 < s.size
  · have HF := Lib.hid (cut_long s.data.toList (by simpa using hl))
    have d0 : decide ((65535 : Int) < (s.size : Int)) = true := by simp; omega
    go_enter Try.func14, Try.ntmps14
    go_wp2
    go_ret2
    exact ⟨retSI (ret_bytes HF.out.2.symm) HF.out.1.symm, Below.refl _ _⟩
  · have hl' : ¬ 65535 < s.data.toList.length := by simpa using hl
    have hs : s.size ≤ 65535 := by omega
    have d0 : decide ((65535 : Int) < (s.size : Int)) = false := by simp; omega
    clear hl
    by_cases h5 : s.size ≤ 4
    · have HF := Lib.hid (cut_form s.data.toList hl' (Or.inl (by simp; omega)))
      have d1 : decide ((s.size : Int) ≤ 4) = true := by simp; omega
      clear hl'
      go_enter Try.func14, Try.ntmps14
      go_wp2
      go_ret2
      exact ⟨retSI (ret_bytes HF.out.2.symm) HF.out.1.symm, Below.refl _ _⟩
    · have h4 : 4 < s.size := by omega
      have d1 : decide ((s.size : Int) ≤ 4) = false := by simp; omega
      have hat := cut_at s h4
      clear h5
      by_cases hcm : (s[4]'h4).toNat = 44
      · have d2 : (((s[4]'h4).toNat : Int) != 44) = false := by simp; omega
        have h2 : ¬ (s.data.toList.length < 5 ∨ s.data.toList[4]? ≠ some 44) := by
          rintro (h | h)
          · simp at h; omega
          · exact h (hat.2 hcm)
        by_cases ha : ∀ c ∈ s.data.toList.take 4, hexv c < 16
        · by_cases hq : rhV (s.data.toList.take 4) = sumF 0 (s.data.toList.drop 5)
          · have HF := Lib.hid (cut_ok s.data.toList hl' h2 ha hq)
            have HQ := Lib.hid (And.intro ha hq.symm)
            clear hl' hat hcm h2 ha hq
            go_enter Try.func14, Try.ntmps14
            go_wp2_with (first | (go_at_call 19; refine (four_yes s _ _ (Nat.le_of_lt h4) HQ.out.1 rfl).mono ?_; rintro e w1 ⟨rfl, hb1⟩) | (go_at_call 11; refine (of_rest s _ _ hs HQ.out.2).mono ?_; rintro e w2 ⟨rfl, hb2⟩))
            go_ret2
            exact ⟨retSI (bytes_of (by rw [HF.out.2, cut_rest])) HF.out.1.symm, hb1.trans (hb2.mono hb1.size)⟩
          · have HF := Lib.hid (cut_sum s.data.toList hl' h2 ha hq)
            have HQ := Lib.hid ha
            have d3 : (((rhV (s.data.toList.take 4) : Nat) : Int) != ((sumF 0 (s.data.toList.drop 5) : Nat) : Int)) = true := by simp; omega
            clear hl' hat hcm h2 ha hq
            go_enter Try.func14, Try.ntmps14
            go_wp2_with (first | (go_at_call 19; refine (four_yes s _ _ (Nat.le_of_lt h4) HQ.out rfl).mono ?_; rintro e w1 ⟨rfl, hb1⟩) | (go_at_call 11; refine (of_rest s _ _ hs rfl).mono ?_; rintro e w2 ⟨rfl, hb2⟩))
            go_ret2
            exact ⟨retSI (ret_bytes HF.out.2.symm) HF.out.1.symm, hb1.trans (hb2.mono hb1.size)⟩
        · have HF := Lib.hid (cut_hex s.data.toList hl' h2 ha)
          have HQ := Lib.hid ha
          clear hl' hat hcm h2 ha
          go_enter Try.func14, Try.ntmps14
          go_wp2_with (go_at_call 19; refine (four_no s _ (Nat.le_of_lt h4) HQ.out).mono ?_; rintro e w1 ⟨rfl, hb1⟩)
          go_ret2
          exact ⟨retSI (ret_bytes HF.out.2.symm) HF.out.1.symm, hb1⟩
      · have d2 : (((s[4]'h4).toNat : Int) != 44) = true := by simp; omega
        have HF := Lib.hid (cut_form s.data.toList hl' (Or.inr (fun e => hcm (hat.1 e))))
        clear hl' hat hcm
        go_enter Try.func14, Try.ntmps14
        go_wp2
        go_ret2
        exact ⟨retSI (ret_bytes HF.out.2.symm) HF.out.1.symm, Below.refl _ _⟩

theorem comma_list (s : ByteArray) (h4 : 4 < s.size) : (s.extract 4 5).toList = [s[4]'h4] := by
  rw [ext1 s 4 h4, Lib.toList_data]
theorem comma_eq (s : ByteArray) (h4 : 4 < s.size) (h : (s[4]'h4).toNat = 44) : (s.extract 4 5).toList = [44] := by
  rw [comma_list s h4, show s[4]'h4 = 44 from UInt8.toNat_inj.1 h]
theorem comma_ne (s : ByteArray) (h4 : 4 < s.size) (h : ¬ (s[4]'h4).toNat = 44) : ((s.extract 4 5).toList == [44]) = false := by
  rw [comma_list s h4, beq_eq_false_iff_ne]
  intro e
  exact h (by rw [(List.cons.inj e).1]; rfl)

set_option maxHeartbeats 400000 in
set_option maxRecDepth 100000 in
theorem refCut_any (s : ByteArray) (w : World) :
    Calls Try.prog 15 #[.string s] w fun e w' => e = .returned (.tuple #[.string ⟨(cutX s.data.toList).toArray⟩, .int .i64 (cutE s.data.toList)]) ∧ Below w.heap.size w w' := by
  by_cases hl : 65535 < s.size
  · have HF := Lib.hid (cut_long s.data.toList (by simpa using hl))
    have d0 : decide ((65535 : Int) < (s.size : Int)) = true := by simp; omega
    go_enter Try.func15, Try.ntmps15
    go_wp2
    go_ret2
    exact ⟨retSI (ret_bytes HF.out.2.symm) HF.out.1.symm, Below.refl _ _⟩
  · have hl' : ¬ 65535 < s.data.toList.length := by simpa using hl
    have hs : s.size ≤ 65535 := by omega
    have d0 : decide ((65535 : Int) < (s.size : Int)) = false := by simp; omega
    clear hl
    by_cases h5 : s.size ≤ 4
    · have HF := Lib.hid (cut_form s.data.toList hl' (Or.inl (by simp; omega)))
      have d1 : decide ((s.size : Int) < 5) = true := by simp; omega
      clear hl'
      go_enter Try.func15, Try.ntmps15
      go_wp2
      go_ret2
      exact ⟨retSI (ret_bytes HF.out.2.symm) HF.out.1.symm, Below.refl _ _⟩
    · have h4 : 4 < s.size := by omega
      have d1 : decide ((s.size : Int) < 5) = false := by simp; omega
      have hat := cut_at s h4
      clear h5
      by_cases hcm : (s[4]'h4).toNat = 44
      · have d2 : (s.extract 4 5).toList = [44] := comma_eq s h4 hcm
        have h2 : ¬ (s.data.toList.length < 5 ∨ s.data.toList[4]? ≠ some 44) := by
          rintro (h | h)
          · simp at h; omega
          · exact h (hat.2 hcm)
        by_cases ha : ∀ c ∈ s.data.toList.take 4, hexv c < 16
        · by_cases hq : rhV (s.data.toList.take 4) = sumF 0 (s.data.toList.drop 5)
          · have HF := Lib.hid (cut_ok s.data.toList hl' h2 ha hq)
            have HQ := Lib.hid (And.intro ha hq.symm)
            clear hl' hat hcm h2 ha hq
            go_enter Try.func15, Try.ntmps15
            go_wp2_with (first | (go_at_call 20; refine (refFour_yes s _ _ (Nat.le_of_lt h4) HQ.out.1 rfl).mono ?_; rintro e w1 ⟨rfl, hb1⟩) | (go_at_call 10; refine (refFrom_rest s _ _ hs HQ.out.2).mono ?_; rintro e w2 ⟨rfl, rfl⟩))
            go_ret2
            exact ⟨retSI (bytes_of (by rw [HF.out.2, cut_rest])) HF.out.1.symm, hb1⟩
          · have HF := Lib.hid (cut_sum s.data.toList hl' h2 ha hq)
            have HQ := Lib.hid ha
            have d3 : (((sumF 0 (s.data.toList.drop 5) : Nat) : Int) != ((rhV (s.data.toList.take 4) : Nat) : Int)) = true := by simp; omega
            clear hl' hat hcm h2 ha hq
            go_enter Try.func15, Try.ntmps15
            go_wp2_with (first | (go_at_call 20; refine (refFour_yes s _ _ (Nat.le_of_lt h4) HQ.out rfl).mono ?_; rintro e w1 ⟨rfl, hb1⟩) | (go_at_call 10; refine (refFrom_rest s _ _ hs rfl).mono ?_; rintro e w2 ⟨rfl, rfl⟩))
            go_ret2
            exact ⟨retSI (ret_bytes HF.out.2.symm) HF.out.1.symm, hb1⟩
        · have HF := Lib.hid (cut_hex s.data.toList hl' h2 ha)
          have HQ := Lib.hid ha
          clear hl' hat hcm h2 ha
          go_enter Try.func15, Try.ntmps15
          go_wp2_with (go_at_call 20; refine (refFour_no s _ (Nat.le_of_lt h4) HQ.out).mono ?_; rintro e w1 ⟨rfl, hb1⟩)
          go_ret2
          exact ⟨retSI (ret_bytes HF.out.2.symm) HF.out.1.symm, hb1⟩
      · have d2 : ((s.extract 4 5).toList == [44]) = false := comma_ne s h4 hcm
        have HF := Lib.hid (cut_form s.data.toList hl' (Or.inr (fun e => hcm (hat.1 e))))
        clear hl' hat hcm
        go_enter Try.func15, Try.ntmps15
        go_wp2
        go_ret2
        exact ⟨retSI (ret_bytes HF.out.2.symm) HF.out.1.symm, Below.refl _ _⟩

end Go.Proofs.Ythhjeiabjmhalaa
