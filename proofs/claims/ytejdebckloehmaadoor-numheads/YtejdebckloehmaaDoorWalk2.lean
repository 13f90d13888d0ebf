/- What num.Head, num.Read and the document's Read answer. -/
import Derived.Test.YtejdebckloehmaaDoorWalk1
import Derived.Lib.Strings
namespace Go.Proofs.YtejdebckloehmaaDoor
open Go.RowKit Sash.Num

theorem sub_data (s : ByteArray) (k : Nat) : (s.extract 0 k).data.toList = s.data.toList.take k := by
  rw [Lib.extract_data]; simp
theorem sub_size (s : ByteArray) (k : Nat) (h : k ≤ s.size) : (s.extract 0 k).size = k := by simp [ByteArray.size_extract]; omega

set_option maxHeartbeats 400000 in
set_option maxRecDepth 100000 in
theorem head_any (s : ByteArray) (w : World) (hs : s.size ≤ maxLen) :
    Calls Tryd.prog 13 #[.string s] w fun e w' => e = .returned (.tuple #[.int .i64 (headN s.data.toList), .int .i64 (headK s.data.toList), .int .i64 (headE s.data.toList)]) ∧ Below w.heap.size w w' := by
  unfold maxLen at hs
  have hle := bcnt_le s
  by_cases h0 : cnt s.data.toList = 0
  · have HF := Lib.hid (head_form s.data.toList (Or.inl h0))
    have q0 : ((cnt s.data.toList : Int) == 0) = true := by simp; omega
    clear h0
    go_enter Tryd.func13, Tryd.ntmps13
    go_wp2_with fail
    refine (countDigits_any s _).mono ?_
    rintro e w1 ⟨rfl, hb1⟩
    go_wp2
    go_ret3
    exact ⟨ret3 HF.out.1.symm HF.out.2.1.symm HF.out.2.2.symm, hb1⟩
  · have h00 : 0 < s.size := by omega
    have hbh := bhead s h00
    have q0 : ((cnt s.data.toList : Int) == 0) = false := by simp; omega
    by_cases hf : 1 < cnt s.data.toList ∧ s[0].toNat = 48
    · have HF := Lib.hid (head_form s.data.toList (Or.inr ⟨by omega, hbh.2 hf.2⟩))
      have q1 : decide ((1 : Int) < (cnt s.data.toList : Int)) = true := by simp; omega
      have q2 : ((s[0].toNat : Int) == 48) = true := by simp; omega
      clear h0 hf hbh
      go_enter Tryd.func13, Tryd.ntmps13
      go_wp2_with fail
      refine (countDigits_any s _).mono ?_
      rintro e w1 ⟨rfl, hb1⟩
      go_wp2
      go_ret3
      exact ⟨ret3 HF.out.1.symm HF.out.2.1.symm HF.out.2.2.symm, hb1⟩
    · have hnf : ¬ (cnt s.data.toList = 0 ∨ (1 < cnt s.data.toList ∧ s.data.toList.head? = some 48)) := by rw [hbh]; omega
      have hd := sub_data s (cnt s.data.toList)
      have hsz := sub_size s (cnt s.data.toList) hle
      have hall : (s.extract 0 (cnt s.data.toList)).size ≤ cnt (s.extract 0 (cnt s.data.toList)).data.toList := by rw [hd, hsz, cnt_take _ _ (Nat.le_refl _)]; exact Nat.le_refl _
      have hq : (decide ((1 : Int) < (cnt s.data.toList : Int)) = false) ∨ (decide ((1 : Int) < (cnt s.data.toList : Int)) = true ∧ ((s[0].toNat : Int) == 48) = false) := by
        by_cases h1 : 1 < cnt s.data.toList
        · right; exact ⟨by simp; omega, by simp; omega⟩
        · left; simp; omega
      have HD := Lib.hid hd
      have HSZ := Lib.hid hsz
      clear hd hsz hf hbh h0
      by_cases hv : 2147483647 < val (s.data.toList.take (cnt s.data.toList))
      · have HF := Lib.hid (head_long _ hnf hv)
        clear hnf
        rcases hq with q1 | ⟨q1, q2⟩
        all_goals
          go_enter Tryd.func13, Tryd.ntmps13
          go_wp2_with fail
          refine (countDigits_any s _).mono ?_
          rintro e w1 ⟨rfl, hb1⟩
          go_wp2_with (go_at_call 23; refine (valueOf_no (s.extract 0 (cnt s.data.toList)) _ hall (by rw [HD.out]; exact hv)).mono ?_; rintro e w2 ⟨rfl, hb2⟩)
          go_wp2
          go_ret3
          exact ⟨ret3 HF.out.1.symm HF.out.2.1.symm HF.out.2.2.symm, hb1.trans (hb2.mono hb1.size)⟩
      · have HF := Lib.hid (head_ok _ hnf (by omega))
        clear hnf
        rcases hq with q1 | ⟨q1, q2⟩
        all_goals
          go_enter Tryd.func13, Tryd.ntmps13
          go_wp2_with fail
          refine (countDigits_any s _).mono ?_
          rintro e w1 ⟨rfl, hb1⟩
          go_wp2_with (go_at_call 23; refine (valueOf_yes (s.extract 0 (cnt s.data.toList)) _ hall (by rw [HD.out]; omega)).mono ?_; rintro e w2 ⟨rfl, hb2⟩)
          go_wp2
          go_ret3
          exact ⟨ret3 HF.out.1.symm HF.out.2.1.symm HF.out.2.2.symm, hb1.trans (hb2.mono hb1.size)⟩

set_option maxHeartbeats 400000 in
set_option maxRecDepth 100000 in
theorem read_any (s : ByteArray) (w : World) (hs : s.size ≤ maxLen) :
    Calls Tryd.prog 11 #[.string s] w fun e w' => e = .returned (.tuple #[.int .i64 (readN s.data.toList), .int .i64 (readE s.data.toList)]) ∧ Below w.heap.size w w' := by
  have hle := bcnt_le s
  by_cases hc : cnt s.data.toList = s.size
  · have HF : Hid (readN s.data.toList = headN s.data.toList ∧ readE s.data.toList = headE s.data.toList) := by
      unfold readN readE; rw [if_pos (by simpa using hc), if_pos (by simpa using hc)]; exact ⟨rfl, rfl⟩
    have q0 : (cnt s.data.toList != s.size) = false := by simp; omega
    have q1 : ((cnt s.data.toList : Int) != (s.size : Int)) = false := by simp; omega
    clear hc
    go_enter Tryd.func11, Tryd.ntmps11
    go_wp2_with fail
    refine (countDigits_any s _).mono ?_
    rintro e w1 ⟨rfl, hb1⟩
    go_wp2_with (go_at_call 13; refine (head_any s _ hs).mono ?_; rintro e w2 ⟨rfl, hb2⟩)
    go_wp2
    go_ret2
    exact ⟨ret2 HF.out.1.symm HF.out.2.symm, hb1.trans (hb2.mono hb1.size)⟩
  · have HF : Hid (readN s.data.toList = 0 ∧ readE s.data.toList = 2) := by
      unfold readN readE; rw [if_neg (by simpa using hc), if_neg (by simpa using hc)]; exact ⟨rfl, rfl⟩
    have q0 : (cnt s.data.toList != s.size) = true := by simp; omega
    have q1 : ((cnt s.data.toList : Int) != (s.size : Int)) = true := by simp; omega
    clear hc
    go_enter Tryd.func11, Tryd.ntmps11
    go_wp2_with fail
    refine (countDigits_any s _).mono ?_
    rintro e w1 ⟨rfl, hb1⟩
    go_wp2
    go_ret2
    exact ⟨ret2 HF.out.1.symm HF.out.2.symm, hb1⟩

set_option maxHeartbeats 400000 in
set_option maxRecDepth 100000 in
theorem refRead_any (s : ByteArray) (w : World) (hs : s.size ≤ maxLen) :
    Calls Tryd.prog 12 #[.string s] w fun e w' => e = .returned (.tuple #[.int .i64 (readN s.data.toList), .int .i64 (readE s.data.toList)]) ∧ w = w' := by
  have hs' := hs
  unfold maxLen at hs'
  have hle := bcnt_le s
  go_enter Tryd.func12, Tryd.ntmps12
  go_wp2
  go_loop [4] (fun n => ∃ (k : Nat), k ≤ s.size ∧ k ≤ cnt s.data.toList ∧ n = .int .i64 k) (fun n => s.size - (intOf n).toNat)
  case atStart => exact ⟨0, Nat.zero_le _, Nat.zero_le _, rfl⟩
  case round =>
    obtain ⟨k, hk, hc, rfl⟩ := hrel
    by_cases hd : k < cnt s.data.toList
    · have hlt : k < s.size := by omega
      obtain ⟨h1, h2⟩ := bcnt_isD s k hlt hd
      have d1 : decide (((s[k]'hlt).toNat : Int) < 48) = false := by simp; omega
      have d2 : decide ((57 : Int) < ((s[k]'hlt).toNat : Int)) = false := by simp; omega
      go_wp2
      go_round
      case rel => exact ⟨k + 1, by omega, by omega, by go_num⟩
      case measure => simp [intOf]; omega
    · by_cases hlt : k < s.size
      · have hne : cnt s.data.toList ≠ s.size := by omega
        have HF : Hid (readN s.data.toList = 0 ∧ readE s.data.toList = 2) := by
          unfold readN readE; rw [if_neg (by simpa using hne), if_neg (by simpa using hne)]; exact ⟨rfl, rfl⟩
        clear hne
        by_cases h1 : s[k].toNat < 48
        · have d1 : decide (((s[k]'hlt).toNat : Int) < 48) = true := by simp; omega
          go_wp2
          go_ret2
          exact ⟨ret2 HF.out.1.symm HF.out.2.symm, rfl⟩
        · have h2 : 57 < s[k].toNat := by
            by_cases h2 : s[k].toNat ≤ 57
            · have := bcnt_yes s k hlt hc (by omega) h2; omega
            · omega
          have d1 : decide (((s[k]'hlt).toNat : Int) < 48) = false := by simp; omega
          have d2 : decide ((57 : Int) < ((s[k]'hlt).toNat : Int)) = true := by simp; omega
          go_wp2
          go_ret2
          exact ⟨ret2 HF.out.1.symm HF.out.2.symm, rfl⟩
      · have HF : Hid (readN s.data.toList = headN s.data.toList ∧ readE s.data.toList = headE s.data.toList) := by
          have hcc : cnt s.data.toList = s.size := by omega
          unfold readN readE; rw [if_pos (by simpa using hcc), if_pos (by simpa using hcc)]; exact ⟨rfl, rfl⟩
        go_wp2_with (go_at_call 14; refine (refHead_any s _ hs).mono ?_; rintro e w2 ⟨rfl, rfl⟩)
        go_wp2
        go_ret2
        exact ⟨ret2 HF.out.1.symm HF.out.2.symm, rfl⟩
end Go.Proofs.YtejdebckloehmaaDoor
