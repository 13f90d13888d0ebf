/- The five laws of numbers as text, each walked: it answers true, and nothing that was there is changed. -/
import Derived.Test.YtejdebckloehmaaDoorWalk2
import Derived.Test.YtejdebckloehmaaDoorWalk4
import Derived.Test.YtejdebckloehmaaDoorWalk5
import Derived.Test.YtejdebckloehmaaDoorMath3
namespace Go.Proofs.YtejdebckloehmaaDoor
open Go.RowKit Sash.Num

abbrev Tab (w : World) : Prop := Lib.TabIs Tryd.prog w "internal/strconv.uint64pow10" .u64 Lib.pow10Tab

theorem tab_on {w w1 : World} (h : Tab w) (hb : Below w.heap.size w w1) : Tab w1 := Lib.tabBelow_of_tabIs h w1 hb

theorem head_awake : headN [49, 50, 120, 51] = 12 ∧ headK [49, 50, 120, 51] = 2 ∧ headE [49, 50, 120, 51] = 0 := by decide +kernel
theorem join_awake : joinD [80, 24] = [56, 48, 44, 50, 52] := by decide +kernel

theorem digits_n (b o c n : Nat) (xs : List Int) (w : World) (hn : xs.length = n) (hx : n ≤ 1000) (h0x : 0 < n) (hb : b < w.heap.size)
    (hcells : ∀ (j : Nat) x, xs[j]? = some x → w.cell? ⟨b, o + j, none⟩ = some (.int .i64 x))
    (hin : ∀ x ∈ xs, -9223372036854775808 ≤ x ∧ x ≤ 9223372036854775807) (htab : Tab w) :
    Calls Tryd.prog 9 #[.slice (some ⟨b, o, none⟩) n c] w fun e w' => e = .returned (.string ⟨(joinD xs).toArray⟩) ∧ Below w.heap.size w w' := by
  subst hn
  exact digits_any b o c xs w hx h0x hb hcells hin htab

/-- One number, told as such. -/
theorem digits_one (w : World) (x : Int) (h0 : -9223372036854775808 ≤ x) (h1 : x ≤ 9223372036854775807) (htab : Tab w) :
    Calls Tryd.prog 9 #[.slice (some ⟨w.heap.size, 0, none⟩) 1 1] (w.alloc (.cells #[.int .i64 x] 3)) fun e w' => e = .returned (.string ⟨(dig x).toArray⟩) ∧ Below w.heap.size w w' := by
  have hb0 : Below w.heap.size w (w.alloc (.cells #[.int .i64 x] 3)) := (Below.refl _ w).alloc (Nat.le_refl _) _
  refine (digits_n w.heap.size 0 1 1 [x] _ rfl (by omega) (by omega) (by simp) ?_ ?_ (tab_on htab hb0)).mono ?_
  · intro j y hj
    match j, hj with
    | 0, hj => simp at hj; subst hj; simp
  · intro y hy; rw [List.mem_singleton] at hy; subst hy; exact ⟨h0, h1⟩
  · rintro e w1 ⟨rfl, hb1⟩
    exact ⟨rfl, hb0.trans (hb1.mono (by simp))⟩

theorem digits_two (w : World) (htab : Tab w) :
    Calls Tryd.prog 9 #[.slice (some ⟨w.heap.size, 0, none⟩) 2 2] (w.alloc (.cells #[.int .i64 80, .int .i64 24] 3)) fun e w' => e = .returned (.string ⟨#[56, 48, 44, 50, 52]⟩) ∧ Below w.heap.size w w' := by
  have hb0 : Below w.heap.size w (w.alloc (.cells #[.int .i64 80, .int .i64 24] 3)) := (Below.refl _ w).alloc (Nat.le_refl _) _
  refine (digits_n w.heap.size 0 2 2 [80, 24] _ rfl (by omega) (by omega) (by simp) ?_ ?_ (tab_on htab hb0)).mono ?_
  · intro j y hj
    match j, hj with
    | 0, hj => simp at hj; subst hj; simp
    | 1, hj => simp at hj; subst hj; simp
  · intro y hy; simp at hy; omega
  · rintro e w1 ⟨rfl, hb1⟩
    exact ⟨by rw [join_awake], hb0.trans (hb1.mono (by simp))⟩

set_option maxHeartbeats 400000 in
set_option maxRecDepth 100000 in
theorem awake_any (w : World) (htab : Tab w) :
    Calls Tryd.prog 8 #[] w fun e w' => e = .returned (.bool true) ∧ Below w.heap.size w w' := by
  have HT := Lib.hid htab
  clear htab
  go_enter Tryd.func8, Tryd.ntmps8
  go_wp2_with fail
  refine (head_any ⟨#[49, 50, 120, 51]⟩ _ (by decide)).mono ?_
  rintro e w1 ⟨rfl, hb1⟩
  rw [show (⟨#[49, 50, 120, 51]⟩ : ByteArray).data.toList = [49, 50, 120, 51] from rfl, head_awake.1, head_awake.2.1, head_awake.2.2]
  go_wp2_with (go_at_call 9; refine (digits_two w1 (tab_on HT.out hb1)).mono ?_; rintro e w2 ⟨rfl, hb2⟩)
  go_ret
  exact ⟨rfl, hb1.trans (hb2.mono hb1.size)⟩

set_option maxHeartbeats 400000 in
set_option maxRecDepth 100000 in
theorem numReads_any (s : ByteArray) (w : World) (hs : s.size ≤ maxLen) (htab : Tab w) :
    Calls Tryd.prog 4 #[.string s] w fun e w' => e = .returned (.bool true) ∧ Below w.heap.size w w' := by
  have HT := Lib.hid htab
  clear htab
  by_cases hl : 200 < s.size
  · have d0 : decide ((200 : Int) < (s.size : Int)) = true := by simp; omega
    go_enter Tryd.func4, Tryd.ntmps4
    go_wp2_with (go_at_call 8; refine (awake_any _ HT.out).mono ?_; rintro e w1 ⟨rfl, hb1⟩)
    go_ret
    exact ⟨rfl, hb1⟩
  · have d0 : decide ((200 : Int) < (s.size : Int)) = false := by simp; omega
    go_enter Tryd.func4, Tryd.ntmps4
    go_wp2_with fail
    refine (read_any s _ hs).mono ?_
    rintro e w1 ⟨rfl, hb1⟩
    go_wp2_with fail
    refine (refRead_any s _ hs).mono ?_
    rintro e w2 ⟨rfl, rfl⟩
    go_wp2_with (go_at_call 8; refine (awake_any _ (tab_on HT.out hb1)).mono ?_; rintro e w2 ⟨rfl, hb2⟩)
    go_ret
    exact ⟨rfl, hb1.trans (hb2.mono hb1.size)⟩

set_option maxHeartbeats 400000 in
set_option maxRecDepth 100000 in
theorem numHeads_any (s : ByteArray) (w : World) (hs : s.size ≤ maxLen) (htab : Tab w) :
    Calls Tryd.prog 5 #[.string s] w fun e w' => e = .returned (.bool true) ∧ Below w.heap.size w w' := by
  have HT := Lib.hid htab
  clear htab
  by_cases hl : 200 < s.size
  · have d0 : decide ((200 : Int) < (s.size : Int)) = true := by simp; omega
    go_enter Tryd.func5, Tryd.ntmps5
    go_wp2_with (go_at_call 8; refine (awake_any _ HT.out).mono ?_; rintro e w1 ⟨rfl, hb1⟩)
    go_ret
    exact ⟨rfl, hb1⟩
  · have d0 : decide ((200 : Int) < (s.size : Int)) = false := by simp; omega
    go_enter Tryd.func5, Tryd.ntmps5
    go_wp2_with fail
    refine (head_any s _ hs).mono ?_
    rintro e w1 ⟨rfl, hb1⟩
    go_wp2_with fail
    refine (refHead_any s _ hs).mono ?_
    rintro e w2 ⟨rfl, rfl⟩
    go_wp2_with (go_at_call 8; refine (awake_any _ (tab_on HT.out hb1)).mono ?_; rintro e w2 ⟨rfl, hb2⟩)
    go_ret
    exact ⟨rfl, hb1.trans (hb2.mono hb1.size)⟩

set_option maxHeartbeats 400000 in
set_option maxRecDepth 100000 in
theorem numDigits_long (a : Option Addr) (n c : Nat) (w : World) (h : 50 < n) (htab : Tab w) :
    Calls Tryd.prog 3 #[.slice a n c] w fun e w' => e = .returned (.bool true) ∧ Below w.heap.size w w' := by
  have HT := Lib.hid htab
  clear htab
  have d0 : decide ((50 : Int) < (n : Int)) = true := by simp; omega
  go_enter Tryd.func3, Tryd.ntmps3
  go_wp2_with (go_at_call 8; refine (awake_any _ HT.out).mono ?_; rintro e w1 ⟨rfl, hb1⟩)
  go_ret
  exact ⟨rfl, hb1⟩

set_option maxHeartbeats 400000 in
set_option maxRecDepth 100000 in
theorem numDigits_none (a : Option Addr) (c : Nat) (w : World) (htab : Tab w) :
    Calls Tryd.prog 3 #[.slice a 0 c] w fun e w' => e = .returned (.bool true) ∧ Below w.heap.size w w' := by
  have HT := Lib.hid htab
  clear htab
  go_enter Tryd.func3, Tryd.ntmps3
  go_wp2_with fail
  refine (digits_none _ _ _).mono ?_
  rintro e w1 ⟨rfl, hb1⟩
  go_wp2_with fail
  refine (refJoin_none _ _ _).mono ?_
  rintro e w2 ⟨rfl, rfl⟩
  go_wp2_with (go_at_call 8; refine (awake_any _ (tab_on HT.out hb1)).mono ?_; rintro e w2 ⟨rfl, hb2⟩)
  go_ret
  exact ⟨rfl, hb1.trans (hb2.mono hb1.size)⟩

set_option maxHeartbeats 400000 in
set_option maxRecDepth 100000 in
theorem numDigits_some (b o c : Nat) (xs : List Int) (w : World) (hx : xs.length ≤ 50) (h0x : 0 < xs.length) (hb : b < w.heap.size)
    (hcells : ∀ (j : Nat) x, xs[j]? = some x → w.cell? ⟨b, o + j, none⟩ = some (.int .i64 x))
    (hin : ∀ x ∈ xs, -9223372036854775808 ≤ x ∧ x ≤ 9223372036854775807) (htab : Tab w) :
    Calls Tryd.prog 3 #[.slice (some ⟨b, o, none⟩) xs.length c] w fun e w' => e = .returned (.bool true) ∧ Below w.heap.size w w' := by
  have HT := Lib.hid htab
  have HC := Lib.hid hcells
  have HI := Lib.hid hin
  clear htab hcells hin
  have d0 : decide ((50 : Int) < (xs.length : Int)) = false := by simp; omega
  go_enter Tryd.func3, Tryd.ntmps3
  go_wp2_with fail
  refine (digits_any b o c xs _ (by omega) h0x hb HC.out HI.out HT.out).mono ?_
  rintro e w1 ⟨rfl, hb1⟩
  go_wp2_with fail
  refine (refJoin_any b o c xs _ (by omega) (fun j x h => by rw [hb1.cell (p := ⟨b, o + j, none⟩) hb]; exact HC.out j x h)).mono ?_
  rintro e w2 ⟨rfl, rfl⟩
  go_wp2_with (go_at_call 8; refine (awake_any _ (tab_on HT.out hb1)).mono ?_; rintro e w2 ⟨rfl, hb2⟩)
  go_ret
  exact ⟨rfl, hb1.trans (hb2.mono hb1.size)⟩
end Go.Proofs.YtejdebckloehmaaDoor
