/- What sum's functions answer: next, From, Of, Put; and the document's. -/
import Derived.Test.YthhjeiabjmhalaaHexB
import Derived.Test.YthhjeiabjmhalaaSumMath
import Derived.Lib.EndianBits
namespace Go.Proofs.Ythhjeiabjmhalaa
open Go.RowKit Sash.Num Sash.Sum

theorem or15 (y x : Int) (h0 : 0 ≤ y) (h1 : y < 32768) (h2 : 0 ≤ x) (h3 : x % 32768 = 0) (h4 : x < 65536) : bits BinOp.or .u16 y x = y + x :=
  bits_join_low .u16 16 (by decide) wraps_u16 15 y x h0 h1 (by omega) h2 h3 h4

theorem next_num (c b : Nat) (hc : c < 65536) (_hb : b < 256) : IntKind.u16.wrap (bits BinOp.or IntKind.u16 ((c : Int) / 2) (IntKind.u16.wrap ((c : Int) * 32768)) + (b : Int)) = ((stp c b : Nat) : Int) := by
  rw [IntKind.wrap_u16, IntKind.wrap_u16, or15 _ _ (by omega) (by omega) (by omega) (by omega) (by omega)]
  unfold stp
  omega

set_option maxHeartbeats 400000 in
set_option maxRecDepth 100000 in
theorem next_any (c b : Nat) (w : World) (hc : c < 65536) (hb : b < 256) :
    Calls Try.prog 16 #[.int .u16 (c : Int), .int .u8 (b : Int)] w fun e w' => e = .returned (.int .u16 ((stp c b : Nat) : Int)) ∧ w = w' := by
  have HN := Lib.hid (next_num c b hc hb)
  go_enter Try.func16, Try.ntmps16
  go_wp2
  go_ret
  exact ⟨ret_int HN.out, rfl⟩

theorem flat0 : flat [] = [] := rfl

set_option maxHeartbeats 400000 in
set_option maxRecDepth 100000 in
/-- The sum of whatever texts lie in the slice. -/
theorem from_any (c b o cap : Nat) (xs : List ByteArray) (w : World) (hc : c < 65536) (hx : xs.length ≤ 100000) (hsz : ∀ x ∈ xs, x.size ≤ 1000000)
    (hcells : ∀ (j : Nat) x, xs[j]? = some x → w.cell? ⟨b, o + j, none⟩ = some (.string x)) :
    Calls Try.prog 9 #[.int .u16 (c : Int), .slice (some ⟨b, o, none⟩) xs.length cap] w fun e w' => e = .returned (.int .u16 ((sumF c (flat xs) : Nat) : Int)) ∧ w = w' := by
  have HC := Lib.hid hcells
  have HZ := Lib.hid hsz
  clear hcells hsz
  go_enter Try.func9, Try.ntmps9
  go_wp2
  go_loop [0, 10] (fun n i => ∃ (k : Nat), k ≤ xs.length ∧ i = .int .i64 k ∧ n = .int .u16 ((sumF c (flat (xs.take k)) : Nat) : Int)) (fun _ i => xs.length - (intOf i).toNat)
  case atStart => exact ⟨0, Nat.zero_le _, rfl, rfl⟩
  case round =>
    obtain ⟨k, hk, rfl, rfl⟩ := hrel
    by_cases hlt : k < xs.length
    · have hcell := HC.out k xs[k] (List.getElem?_eq_getElem hlt)
      have hz := HZ.out xs[k] (List.getElem_mem hlt)
      have HF := Lib.hid (flat_take xs k hlt)
      have hs0 := sumF_lt (flat (xs.take k)) c hc
      generalize hg : xs[k] = s at *
      generalize hs1 : sumF c (flat (xs.take k)) = c1 at *
      have HG := Lib.hid hs1
      clear hg hs1
      go_wp2
      go_loop [0, 16] (fun n i => ∃ (m : Nat), m ≤ s.size ∧ i = .int .i64 m ∧ n = .int .u16 ((sumF c1 (s.data.toList.take m) : Nat) : Int)) (fun _ i => s.size - (intOf i).toNat)
      case atStart => exact ⟨0, Nat.zero_le _, rfl, rfl⟩
      case round =>
        obtain ⟨m, hm, rfl, rfl⟩ := hrel
        by_cases hml : m < s.size
        · have hs2 := sumF_lt (s.data.toList.take m) c1 hs0
          have HS := Lib.hid (bsumF_take c1 s m hml)
          have hb8 := (s[m]'hml).toNat_lt
          go_wp2_with (go_at_call 16; refine (next_any _ _ _ hs2 hb8).mono ?_; rintro e w1 ⟨rfl, rfl⟩)
          go_wp2
          go_round
          case rel => exact ⟨m + 1, by omega, by go_num, by rw [HS.out]⟩
          case measure => simp [intOf]; omega
        · have HT := Lib.hid (show s.data.toList.take m = s.data.toList from List.take_of_length_le (by simp; omega))
          go_wp2
          go_round
          case rel => exact ⟨k + 1, by omega, by go_num, by rw [HT.out, HF.out, sumF_append, HG.out]⟩
          case measure => simp [intOf]; omega
    · go_wp2
      go_ret
      exact ⟨ret_int (by rw [List.take_of_length_le (by omega)]), rfl⟩

set_option maxHeartbeats 400000 in
set_option maxRecDepth 100000 in
theorem from_none (c cap : Nat) (a : Option Addr) (w : World) :
    Calls Try.prog 9 #[.int .u16 (c : Int), .slice a 0 cap] w fun e w' => e = .returned (.int .u16 (c : Int)) ∧ w = w' := by
  go_enter Try.func9, Try.ntmps9
  go_wp2
  go_loop [0, 10] (fun n i => i = .int .i64 0 ∧ n = .int .u16 (c : Int)) (fun _ _ => 0)
  case atStart => exact ⟨rfl, rfl⟩
  case round =>
    obtain ⟨rfl, rfl⟩ := hrel
    go_wp2
    go_ret
    exact ⟨rfl, rfl⟩

set_option maxHeartbeats 400000 in
set_option maxRecDepth 100000 in
theorem of_any (b o cap : Nat) (xs : List ByteArray) (w : World) (hx : xs.length ≤ 100000) (hsz : ∀ x ∈ xs, x.size ≤ 1000000)
    (hcells : ∀ (j : Nat) x, xs[j]? = some x → w.cell? ⟨b, o + j, none⟩ = some (.string x)) :
    Calls Try.prog 11 #[.slice (some ⟨b, o, none⟩) xs.length cap] w fun e w' => e = .returned (.int .u16 ((sumF 0 (flat xs) : Nat) : Int)) ∧ w = w' := by
  have HC := Lib.hid hcells
  have HZ := Lib.hid hsz
  clear hcells hsz
  go_enter Try.func11, Try.ntmps11
  go_wp2_with (go_at_call 9; refine (from_any 0 b o cap xs _ (by omega) hx HZ.out HC.out).mono ?_; rintro e w1 ⟨rfl, rfl⟩)
  go_wp2
  go_ret
  exact ⟨rfl, rfl⟩

set_option maxHeartbeats 400000 in
set_option maxRecDepth 100000 in
theorem of_none (cap : Nat) (a : Option Addr) (w : World) :
    Calls Try.prog 11 #[.slice a 0 cap] w fun e w' => e = .returned (.int .u16 0) ∧ w = w' := by
  go_enter Try.func11, Try.ntmps11
  go_wp2_with (go_at_call 9; refine (from_none 0 cap a _).mono ?_; rintro e w1 ⟨rfl, rfl⟩)
  go_wp2
  go_ret
  exact ⟨rfl, rfl⟩

/-- One text, told as such. -/
theorem flat1 (s : ByteArray) : flat [s] = s.data.toList := by simp [flat]
theorem one_cells (w : World) (s : ByteArray) : ∀ (j : Nat) x, [s][j]? = some x → (w.alloc (.cells #[.string s] 9)).cell? ⟨w.heap.size, 0 + j, none⟩ = some (.string x) := by
  intro j y hj
  match j, hj with
  | 0, hj => simp at hj; subst hj; simp
theorem from_one (c : Nat) (s : ByteArray) (w : World) (hc : c < 65536) (hs : s.size ≤ 1000000) :
    Calls Try.prog 9 #[.int .u16 (c : Int), .slice (some ⟨w.heap.size, 0, none⟩) 1 1] (w.alloc (.cells #[.string s] 9)) fun e w' => e = .returned (.int .u16 ((sumF c s.data.toList : Nat) : Int)) ∧ Below w.heap.size w w' := by
  refine (from_any c w.heap.size 0 1 [s] _ hc (by simp) (by simpa using hs) (one_cells w s)).mono ?_
  rintro e w1 ⟨rfl, rfl⟩
  exact ⟨by rw [flat1], (Below.refl _ w).alloc (Nat.le_refl _) _⟩
theorem of_one (s : ByteArray) (w : World) (hs : s.size ≤ 1000000) :
    Calls Try.prog 11 #[.slice (some ⟨w.heap.size, 0, none⟩) 1 1] (w.alloc (.cells #[.string s] 9)) fun e w' => e = .returned (.int .u16 ((sumF 0 s.data.toList : Nat) : Int)) ∧ Below w.heap.size w w' := by
  refine (of_any w.heap.size 0 1 [s] _ (by simp) (by simpa using hs) (one_cells w s)).mono ?_
  rintro e w1 ⟨rfl, rfl⟩
  exact ⟨by rw [flat1], (Below.refl _ w).alloc (Nat.le_refl _) _⟩

set_option maxHeartbeats 400000 in
set_option maxRecDepth 100000 in
theorem refFrom_any (c : Nat) (s : ByteArray) (w : World) (hc : c < 65536) (hs : s.size ≤ 1000000) :
    Calls Try.prog 10 #[.int .u16 (c : Int), .string s] w fun e w' => e = .returned (.int .u16 ((sumF c s.data.toList : Nat) : Int)) ∧ w = w' := by
  go_enter Try.func10, Try.ntmps10
  go_wp2
  go_loop [5, 6] (fun n i => ∃ (m : Nat), m ≤ s.size ∧ i = .int .i64 m ∧ n = .int .i64 ((sumF c (s.data.toList.take m) : Nat) : Int)) (fun _ i => s.size - (intOf i).toNat)
  case atStart => exact ⟨0, Nat.zero_le _, rfl, rfl⟩
  case round =>
    obtain ⟨m, hm, rfl, rfl⟩ := hrel
    have hs2 := sumF_lt (s.data.toList.take m) c hc
    by_cases hml : m < s.size
    · have HS := Lib.hid (bsumF_take c s m hml)
      have hb8 := (s[m]'hml).toNat_lt
      go_wp2
      go_round
      case rel => exact ⟨m + 1, by omega, by go_num, by rw [HS.out]; congr 1⟩
      case measure => simp [intOf]; omega
    · have HT := Lib.hid (show s.data.toList.take m = s.data.toList from List.take_of_length_le (by simp; omega))
      rw [HT.out] at hs2 ⊢
      go_wp2
      go_ret
      exact ⟨rfl, rfl⟩

set_option maxHeartbeats 400000 in
set_option maxRecDepth 100000 in
theorem put_any (s : ByteArray) (w : World) (hs : s.size ≤ 1000000) :
    Calls Try.prog 12 #[.string s] w fun e w' => e = .returned (.string ⟨(putL s.data.toList).toArray⟩) ∧ Below w.heap.size w w' := by
  have hlt := sumF_lt s.data.toList 0 (by omega)
  have hsz : (⟨(hex4 (sumF 0 s.data.toList)).toArray⟩ : ByteArray).size = 4 := rfl
  go_enter Try.func12, Try.ntmps12
  go_wp2_with (go_at_call 11; refine (of_one s w hs).mono ?_; rintro e w1 ⟨rfl, hb1⟩)
  go_wp2_with (go_at_call 17; refine (hex_any _ _ hlt).mono ?_; rintro e w2 ⟨rfl, hb2⟩)
  go_wp2
  go_ret
  exact ⟨ret_str (by apply ByteArray.ext; simp [putL]), hb1.trans (hb2.mono hb1.size)⟩

set_option maxHeartbeats 400000 in
set_option maxRecDepth 100000 in
theorem refPut_any (s : ByteArray) (w : World) (hs : s.size ≤ 1000000) :
    Calls Try.prog 13 #[.string s] w fun e w' => e = .returned (.string ⟨(putL s.data.toList).toArray⟩) ∧ w = w' := by
  have hlt := sumF_lt s.data.toList 0 (by omega)
  have hsz : (⟨(hex4 (sumF 0 s.data.toList)).toArray⟩ : ByteArray).size = 4 := rfl
  go_enter Try.func13, Try.ntmps13
  go_wp2_with (go_at_call 10; refine (refFrom_any 0 s w (by omega) hs).mono ?_; rintro e w1 ⟨rfl, rfl⟩)
  go_wp2_with (go_at_call 18; refine (refHex_any _ _ hlt).mono ?_; rintro e w2 ⟨rfl, rfl⟩)
  go_wp2
  go_ret
  exact ⟨ret_str (by apply ByteArray.ext; simp [putL]), rfl⟩
end Go.Proofs.Ythhjeiabjmhalaa
