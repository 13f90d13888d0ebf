/- What num's and the document's functions on numbers' texts answer, call by call: Head, Read. -/
import Derived.Test.YtejdebckloehmaaDoorProg
import Derived.Test.YtejdebckloehmaaDoorMath
import Derived.WalkKit
import Derived.WalkSpells
import Derived.WalkLawsBesides
import Derived.Lib.OthersKept
import Derived.Lib.Hide
namespace Go.Proofs.YtejdebckloehmaaDoor
open Go.RowKit Sash.Num

theorem ret_int {k : IntKind} {a b : Int} (h : a = b) : Ending.returned (.int k a) = .returned (.int k b) := by rw [h]

set_option maxHeartbeats 400000 in
set_option maxRecDepth 100000 in
theorem countDigits_any (s : ByteArray) (w : World) :
    Calls Tryd.prog 22 #[.string s] w fun e w' => e = .returned (.int .i64 (cnt s.data.toList)) ∧ Below w.heap.size w w' := by
  go_enter Tryd.func22, Tryd.ntmps22
  go_wp2
  go_loopw [3] (fun _ wr => ∃ pos : Nat, pos ≤ s.size ∧ pos ≤ cnt s.data.toList ∧ wr = w.iter s pos) (fun _ wr => s.size - wr.iterPos w.heap.size)
  case atStart => exact ⟨0, Nat.zero_le _, Nat.zero_le _, rfl⟩
  case round =>
    obtain ⟨pos, hp, hc, rfl⟩ := hrel
    have hle := bcnt_le s
    by_cases hlt : pos < s.size
    · by_cases ha : (s[pos]'hlt).toNat < 128
      · have hnx : ∀ ty, (Instr.next (.pointer (some ⟨w.heap.size, 0, none⟩)) true ty).run Tryd.prog (w.iter s pos) = _ := fun ty => run_next_ascii w s pos ty hlt ha
        by_cases h1 : 48 ≤ (s[pos]'hlt).toNat
        · by_cases h2 : (s[pos]'hlt).toNat ≤ 57
          · have hy := bcnt_yes s pos hlt hc h1 h2
            have d1 : decide ((48 : Int) ≤ ((s[pos]'hlt).toNat : Int)) = true := by simp; omega
            have d2 : decide (((s[pos]'hlt).toNat : Int) ≤ 57) = true := by simp; omega
            go_wp2
            go_roundw
            case rel => exact ⟨pos + 1, by omega, hy, rfl⟩
            case measure => simp; omega
          · have hn := Lib.hid (bcnt_no s pos hlt hc (by omega))
            have d1 : decide ((48 : Int) ≤ ((s[pos]'hlt).toNat : Int)) = true := by simp; omega
            have d2 : decide (((s[pos]'hlt).toNat : Int) ≤ 57) = false := by simp; omega
            go_wp2
            go_ret
            exact ⟨ret_int (by rw [hn.out]), (Below.refl _ w).alloc (Nat.le_refl _) _⟩
        · have hn := Lib.hid (bcnt_no s pos hlt hc (by omega))
          have d1 : decide ((48 : Int) ≤ ((s[pos]'hlt).toNat : Int)) = false := by simp; omega
          go_wp2
          go_ret
          exact ⟨ret_int (by rw [hn.out]), (Below.refl _ w).alloc (Nat.le_refl _) _⟩
      · have hnx : ∀ ty, (Instr.next (.pointer (some ⟨w.heap.size, 0, none⟩)) true ty).run Tryd.prog (w.iter s pos) = _ := fun ty => run_next_any w s pos ty hlt
        have hd := (decode_high s pos hlt (by omega)).1
        have hd1 := decode_le s pos
        have d1 : decide ((48 : Int) ≤ ((Utf8.decode s pos).1 : Int)) = true := by simp; omega
        have d2 : decide (((Utf8.decode s pos).1 : Int) ≤ 57) = false := by simp; omega
        have hn := Lib.hid (bcnt_no s pos hlt hc (by omega))
        go_wp2
        go_ret
        exact ⟨ret_int (by rw [hn.out]), (Below.refl _ w).alloc (Nat.le_refl _) _⟩
    · have hnx : ∀ ty, (Instr.next (.pointer (some ⟨w.heap.size, 0, none⟩)) true ty).run Tryd.prog (w.iter s pos) = _ := fun ty => run_next_end w s pos ty hlt
      have hn := Lib.hid (show cnt s.data.toList = s.size by omega)
      go_wp2
      go_ret
      exact ⟨ret_int (by rw [hn.out]), (Below.refl _ w).alloc (Nat.le_refl _) _⟩

theorem min_of {y v m : Nat} (h : y = min v m) (hv : ¬ m < v) : v = y := by omega
theorem ret2 {k k' : IntKind} {a b c d : Int} (h : a = b) (h' : c = d) : Ending.returned (.tuple #[.int k a, .int k' c]) = .returned (.tuple #[.int k b, .int k' d]) := by rw [h, h']
theorem retIB {k : IntKind} {a b : Int} {x : Bool} (h : a = b) : Ending.returned (.tuple #[.int k a, .bool x]) = .returned (.tuple #[.int k b, .bool x]) := by rw [h]
theorem ret3 {k k' k'' : IntKind} {a b c d x y : Int} (h : a = b) (h' : c = d) (h'' : x = y) : Ending.returned (.tuple #[.int k a, .int k' c, .int k'' x]) = .returned (.tuple #[.int k b, .int k' d, .int k'' y]) := by rw [h, h', h'']

set_option maxHeartbeats 400000 in
set_option maxRecDepth 100000 in
/-- Digits that tell a number up to MaxNum. -/
theorem valueOf_yes (s : ByteArray) (w : World) (hd : s.size ≤ cnt s.data.toList) (hv : val s.data.toList ≤ 2147483647) :
    Calls Tryd.prog 23 #[.string s] w fun e w' => e = .returned (.tuple #[.int .i64 (val s.data.toList), .bool true]) ∧ Below w.heap.size w w' := by
  go_enter Tryd.func23, Tryd.ntmps23
  go_wp2
  go_loopw [4] (fun n wr => ∃ pos : Nat, pos ≤ s.size ∧ n = .int .i64 (val (s.data.toList.take pos)) ∧ wr = w.iter s pos) (fun _ wr => s.size - wr.iterPos w.heap.size)
  case atStart => exact ⟨0, Nat.zero_le _, rfl, rfl⟩
  case round =>
    obtain ⟨pos, hp, rfl, rfl⟩ := hrel
    have hm := val_take_le s.data.toList pos
    by_cases hlt : pos < s.size
    · obtain ⟨h1, h2⟩ := bcnt_isD s pos hlt (by omega)
      have hsu := bval_succ s pos hlt
      have hm2 := val_take_le s.data.toList (pos + 1)
      have hnx : ∀ ty, (Instr.next (.pointer (some ⟨w.heap.size, 0, none⟩)) true ty).run Tryd.prog (w.iter s pos) = _ := fun ty => run_next_ascii w s pos ty hlt (by omega)
      have hdec : decide ((((2147483647 : Int) - (((s[pos]'hlt).toNat : Int) - 48)) / 10) < (val (s.data.toList.take pos) : Int)) = false := by simp; omega
      have HS := Lib.hid hsu
      clear hsu hm2
      go_wp2
      go_roundw
      case rel => exact ⟨pos + 1, by omega, by rw [HS.out]; congr 1; omega, rfl⟩
      case measure => simp; omega
    · have hnx : ∀ ty, (Instr.next (.pointer (some ⟨w.heap.size, 0, none⟩)) true ty).run Tryd.prog (w.iter s pos) = _ := fun ty => run_next_end w s pos ty hlt
      go_wp2
      go_ret2
      exact ⟨retIB (by rw [List.take_of_length_le (by simp; omega)]), (Below.refl _ w).alloc (Nat.le_refl _) _⟩

set_option maxHeartbeats 400000 in
set_option maxRecDepth 100000 in
/-- Digits that tell a number above MaxNum. -/
theorem valueOf_no (s : ByteArray) (w : World) (hd : s.size ≤ cnt s.data.toList) (hv : 2147483647 < val s.data.toList) :
    Calls Tryd.prog 23 #[.string s] w fun e w' => e = .returned (.tuple #[.int .i64 0, .bool false]) ∧ Below w.heap.size w w' := by
  go_enter Tryd.func23, Tryd.ntmps23
  go_wp2
  go_loopw [4] (fun n wr => ∃ pos : Nat, pos ≤ s.size ∧ val (s.data.toList.take pos) ≤ 2147483647 ∧ n = .int .i64 (val (s.data.toList.take pos)) ∧ wr = w.iter s pos) (fun _ wr => s.size - wr.iterPos w.heap.size)
  case atStart => exact ⟨0, Nat.zero_le _, by simp [val], rfl, rfl⟩
  case round =>
    obtain ⟨pos, hp, hm, rfl, rfl⟩ := hrel
    by_cases hlt : pos < s.size
    · obtain ⟨h1, h2⟩ := bcnt_isD s pos hlt (by omega)
      have hsu := bval_succ s pos hlt
      have hnx : ∀ ty, (Instr.next (.pointer (some ⟨w.heap.size, 0, none⟩)) true ty).run Tryd.prog (w.iter s pos) = _ := fun ty => run_next_ascii w s pos ty hlt (by omega)
      by_cases hbig : val (s.data.toList.take (pos + 1)) ≤ 2147483647
      · have hdec : decide ((((2147483647 : Int) - (((s[pos]'hlt).toNat : Int) - 48)) / 10) < (val (s.data.toList.take pos) : Int)) = false := by simp; omega
        have HS := Lib.hid hsu
        clear hsu
        go_wp2
        go_roundw
        case rel => exact ⟨pos + 1, by omega, hbig, by rw [HS.out]; congr 1; omega, rfl⟩
        case measure => simp; omega
      · have hdec : decide ((((2147483647 : Int) - (((s[pos]'hlt).toNat : Int) - 48)) / 10) < (val (s.data.toList.take pos) : Int)) = true := by simp; omega
        clear hsu hbig
        go_wp2
        go_ret2
        exact ⟨rfl, (Below.refl _ w).alloc (Nat.le_refl _) _⟩
    · rw [List.take_of_length_le (by simp; omega)] at hm
      omega

set_option maxHeartbeats 1000000 in
set_option maxRecDepth 100000 in
theorem refHead_any (s : ByteArray) (w : World) (hs : s.size ≤ maxLen) :
    Calls Tryd.prog 14 #[.string s] w fun e w' => e = .returned (.tuple #[.int .i64 (headN s.data.toList), .int .i64 (headK s.data.toList), .int .i64 (headE s.data.toList)]) ∧ w = w' := by
  unfold maxLen at hs
  go_enter Tryd.func14, Tryd.ntmps14
  go_wp2
  go_loop [5, 6, 7] (fun n x g => ∃ (k : Nat) (y : Nat) (b : Bool), k ≤ s.size ∧ k ≤ cnt s.data.toList ∧ y ≤ 2147483647 ∧ n = .int .i64 k ∧ x = .int .i64 y ∧ g = .bool b ∧ Hid (y = min (val (s.data.toList.take k)) 2147483647 ∧ b = decide (2147483647 < val (s.data.toList.take k)))) (fun n _ _ => s.size - (intOf n).toNat)
  case atStart => exact ⟨0, 0, false, Nat.zero_le _, Nat.zero_le _, by omega, rfl, rfl, rfl, Lib.hid ⟨by simp [val], by simp [val]⟩⟩
  case round =>
    obtain ⟨k, y, b, hk, hc, hy, rfl, rfl, rfl, HR⟩ := hrel
    have hle := bcnt_le s
    by_cases hd : k < cnt s.data.toList
    · have hlt : k < s.size := by omega
      obtain ⟨h1, h2⟩ := bcnt_isD s k hlt hd
      have d1 : decide ((48 : Int) ≤ ((s[k]'hlt).toNat : Int)) = true := by simp; omega
      have d2 : decide (((s[k]'hlt).toNat : Int) ≤ 57) = true := by simp; omega
      have HS := Lib.hid (bval_succ s k hlt)
      by_cases hg : (2147483647 : Int) < 10 * (y : Int) + (((s[k]'hlt).toNat : Int) - 48)
      · have d3 : decide ((2147483647 : Int) < 10 * (y : Int) + (((s[k]'hlt).toNat : Int) - 48)) = true := by simp; omega
        go_wp2
        go_round
        case rel => exact ⟨k + 1, 2147483647, true, by omega, by omega, by omega, by go_num, rfl, rfl, Lib.hid (by obtain ⟨e1, e2⟩ := HR.out; have := HS.out; exact ⟨by omega, by simp; omega⟩)⟩
        case measure => simp [intOf]; omega
      · have d3 : decide ((2147483647 : Int) < 10 * (y : Int) + (((s[k]'hlt).toNat : Int) - 48)) = false := by simp; omega
        go_wp2
        go_round
        case rel => exact ⟨k + 1, 10 * y + ((s[k]'hlt).toNat - 48), b, by omega, by omega, by omega, by go_num, by congr 1; omega, rfl, Lib.hid (by obtain ⟨e1, e2⟩ := HR.out; have := HS.out; rw [e2]; exact ⟨by omega, by simp; omega⟩)⟩
        case measure => simp [intOf]; omega
    · have hck : cnt s.data.toList = k := by omega
      obtain ⟨e1, e2⟩ := HR.out
      have hexit : (¬ k < s.size) ∨ (∃ h : k < s.size, s[k].toNat < 48) ∨ (∃ h : k < s.size, 48 ≤ s[k].toNat ∧ 57 < s[k].toNat) := by
        by_cases hlt : k < s.size
        · right
          by_cases h1 : s[k].toNat < 48
          · exact Or.inl ⟨hlt, h1⟩
          · by_cases h2 : s[k].toNat ≤ 57
            · have := bcnt_yes s k hlt hc (by omega) h2; omega
            · exact Or.inr ⟨hlt, by omega, by omega⟩
        · exact Or.inl hlt
      by_cases h0 : k = 0
      · have HF := Lib.hid (head_form s.data.toList (Or.inl (by omega)))
        have q0 : ((k : Int) == 0) = true := by simp; omega
        clear e1 e2 hck HR h0
        rcases hexit with hx | ⟨hlt, hx⟩ | ⟨hlt, hx1, hx2⟩
        · go_wp2
          go_ret3
          exact ⟨ret3 HF.out.1.symm HF.out.2.1.symm HF.out.2.2.symm, rfl⟩
        · have d1 : decide ((48 : Int) ≤ ((s[k]'hlt).toNat : Int)) = false := by simp; omega
          go_wp2
          go_ret3
          exact ⟨ret3 HF.out.1.symm HF.out.2.1.symm HF.out.2.2.symm, rfl⟩
        · have d1 : decide ((48 : Int) ≤ ((s[k]'hlt).toNat : Int)) = true := by simp; omega
          have d2 : decide (((s[k]'hlt).toNat : Int) ≤ 57) = false := by simp; omega
          go_wp2
          go_ret3
          exact ⟨ret3 HF.out.1.symm HF.out.2.1.symm HF.out.2.2.symm, rfl⟩
      · have q0 : ((k : Int) == 0) = false := by simp; omega
        have h00 : 0 < s.size := by omega
        have hbh := bhead s h00
        by_cases hf : 1 < k ∧ s[0].toNat = 48
        · have HF := Lib.hid (head_form s.data.toList (Or.inr ⟨by omega, hbh.2 hf.2⟩))
          have q1 : decide ((1 : Int) < (k : Int)) = true := by simp; omega
          have q2 : ((s[0].toNat : Int) == 48) = true := by simp; omega
          clear e1 e2 hck HR h0 hf hbh
          rcases hexit with hx | ⟨hlt, hx⟩ | ⟨hlt, hx1, hx2⟩
          · go_wp2
            go_ret3
            exact ⟨ret3 HF.out.1.symm HF.out.2.1.symm HF.out.2.2.symm, rfl⟩
          · have d1 : decide ((48 : Int) ≤ ((s[k]'hlt).toNat : Int)) = false := by simp; omega
            go_wp2
            go_ret3
            exact ⟨ret3 HF.out.1.symm HF.out.2.1.symm HF.out.2.2.symm, rfl⟩
          · have d1 : decide ((48 : Int) ≤ ((s[k]'hlt).toNat : Int)) = true := by simp; omega
            have d2 : decide (((s[k]'hlt).toNat : Int) ≤ 57) = false := by simp; omega
            go_wp2
            go_ret3
            exact ⟨ret3 HF.out.1.symm HF.out.2.1.symm HF.out.2.2.symm, rfl⟩
        · have hnf : ¬ (cnt s.data.toList = 0 ∨ (1 < cnt s.data.toList ∧ s.data.toList.head? = some 48)) := by rw [hbh, hck]; omega
          have HF : Hid (headN s.data.toList = (if b then 0 else (y : Int)) ∧ headK s.data.toList = (if b then 0 else (k : Int)) ∧ headE s.data.toList = if b then 3 else 0) := by
            by_cases hv : 2147483647 < val (s.data.toList.take (cnt s.data.toList))
            · have := head_long _ hnf hv
              rw [hck] at hv
              have hb : b = true := by rw [e2]; simpa using hv
              subst hb
              exact this
            · have hyv : val (s.data.toList.take k) = y := min_of e1 (by rw [hck] at hv; exact hv)
              have := head_ok _ hnf (by omega)
              rw [hck] at hv this
              have hb : b = false := by rw [e2]; simpa using hv
              subst hb
              rw [hyv] at this
              exact this
          have hq : (((k : Int) == 1) = true ∧ k = 1) ∨ (decide ((1 : Int) < (k : Int)) = true ∧ ((s[0].toNat : Int) == 48) = false) := by
            by_cases h1 : k = 1
            · left; exact ⟨by simp; omega, h1⟩
            · right; exact ⟨by simp; omega, by simp; omega⟩
          clear e1 e2 hck HR h0 hf hbh hnf
          rcases hq with ⟨_, h1⟩ | ⟨q1, q2⟩
          · have q1 : decide ((1 : Int) < (k : Int)) = false := by simp; omega
            clear h1
            cases b
            all_goals
              rcases hexit with hx | ⟨hlt, hx⟩ | ⟨hlt, hx1, hx2⟩
              · go_wp2
                go_ret3
                exact ⟨ret3 HF.out.1.symm HF.out.2.1.symm HF.out.2.2.symm, rfl⟩
              · have d1 : decide ((48 : Int) ≤ ((s[k]'hlt).toNat : Int)) = false := by simp; omega
                go_wp2
                go_ret3
                exact ⟨ret3 HF.out.1.symm HF.out.2.1.symm HF.out.2.2.symm, rfl⟩
              · have d1 : decide ((48 : Int) ≤ ((s[k]'hlt).toNat : Int)) = true := by simp; omega
                have d2 : decide (((s[k]'hlt).toNat : Int) ≤ 57) = false := by simp; omega
                go_wp2
                go_ret3
                exact ⟨ret3 HF.out.1.symm HF.out.2.1.symm HF.out.2.2.symm, rfl⟩
          · cases b
            all_goals
              rcases hexit with hx | ⟨hlt, hx⟩ | ⟨hlt, hx1, hx2⟩
              · go_wp2
                go_ret3
                exact ⟨ret3 HF.out.1.symm HF.out.2.1.symm HF.out.2.2.symm, rfl⟩
              · have d1 : decide ((48 : Int) ≤ ((s[k]'hlt).toNat : Int)) = false := by simp; omega
                go_wp2
                go_ret3
                exact ⟨ret3 HF.out.1.symm HF.out.2.1.symm HF.out.2.2.symm, rfl⟩
              · have d1 : decide ((48 : Int) ≤ ((s[k]'hlt).toNat : Int)) = true := by simp; omega
                have d2 : decide (((s[k]'hlt).toNat : Int) ≤ 57) = false := by simp; omega
                go_wp2
                go_ret3
                exact ⟨ret3 HF.out.1.symm HF.out.2.1.symm HF.out.2.2.symm, rfl⟩

end Go.Proofs.YtejdebckloehmaaDoor
