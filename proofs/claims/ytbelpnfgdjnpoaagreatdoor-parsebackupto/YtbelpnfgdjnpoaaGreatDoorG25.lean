/- Texts of this seat, 3 in one file. -/
import Derived.Test.YtbelpnfgdjnpoaaGreatDoorG24
import Derived.Test.YtbelpnfgdjnpoaaGreatDoorG06
import Derived.Lib.EndianBits
/- What sum's functions answer: next, From, Of, Put; and the document's. -/
namespace Go.Proofs.YtbelpnfgdjnpoaaGreatDoor
open Go.RowKit Sash.Num Sash.Sum

theorem or15 (y x : Int) (h0 : 0 ≤ y) (h1 : y < 32768) (h2 : 0 ≤ x) (h3 : x % 32768 = 0) (h4 : x < 65536) : bits BinOp.or .u16 y x = y + x :=
  bits_join_low .u16 16 (by decide) wraps_u16 15 y x h0 h1 (by omega) h2 h3 h4

theorem next_num (c b : Nat) (hc : c < 65536) (_hb : b < 256) : IntKind.u16.wrap (bits BinOp.or IntKind.u16 ((c : Int) / 2) (IntKind.u16.wrap ((c : Int) * 32768)) + (b : Int)) = ((stp c b : Nat) : Int) := by
  rw [IntKind.wrap_u16, IntKind.wrap_u16, or15 _ _ (by omega) (by omega) (by omega) (by omega) (by omega)]
  unfold stp
  omega

set_option maxHeartbeats 400000 in
set_option maxRecDepth 100000 in
theorem next_any (c b : Nat) (w : World) (hc : c < 65536) (hb : b < 256) :
    Calls Tryz.prog 112 #[.int .u16 (c : Int), .int .u8 (b : Int)] w fun e w' => e = .returned (.int .u16 ((stp c b : Nat) : Int)) ∧ w = w' := by
  have HN := Lib.hid (next_num c b hc hb)
  go_enter Tryz.func112, Tryz.ntmps112
  go_wp2
  go_ret
  exact ⟨ret_int HN.out, rfl⟩

theorem flat0 : Sash.Sum.flat [] = [] := rfl

set_option maxHeartbeats 400000 in
set_option maxRecDepth 100000 in
/-- The sum of whatever texts lie in the slice. -/
theorem from_any (c b o cap : Nat) (xs : List ByteArray) (w : World) (hc : c < 65536) (hx : xs.length ≤ 100000) (hsz : ∀ x ∈ xs, x.size ≤ 1000000)
    (hcells : ∀ (j : Nat) x, xs[j]? = some x → w.cell? ⟨b, o + j, none⟩ = some (.string x)) :
    Calls Tryz.prog 79 #[.int .u16 (c : Int), .slice (some ⟨b, o, none⟩) xs.length cap] w fun e w' => e = .returned (.int .u16 ((sumF c (Sash.Sum.flat xs) : Nat) : Int)) ∧ w = w' := by
  have HC := Lib.hid hcells
  have HZ := Lib.hid hsz
  clear hcells hsz
  go_enter Tryz.func79, Tryz.ntmps79
  go_wp2
  go_loop [0, 10] (fun n i => ∃ (k : Nat), k ≤ xs.length ∧ i = .int .i64 k ∧ n = .int .u16 ((sumF c (Sash.Sum.flat (xs.take k)) : Nat) : Int)) (fun _ i => xs.length - (intOf i).toNat)
  case atStart => exact ⟨0, Nat.zero_le _, rfl, rfl⟩
  case round =>
    obtain ⟨k, hk, rfl, rfl⟩ := hrel
    by_cases hlt : k < xs.length
    · have hcell := HC.out k xs[k] (List.getElem?_eq_getElem hlt)
      have hz := HZ.out xs[k] (List.getElem_mem hlt)
      have HF := Lib.hid (Sash.Sum.flat_take xs k hlt)
      have hs0 := sumF_lt (Sash.Sum.flat (xs.take k)) c hc
      generalize hg : xs[k] = s at *
      generalize hs1 : sumF c (Sash.Sum.flat (xs.take k)) = c1 at *
      have HG := Lib.hid hs1
      clear hg hs1
      go_wp2
      go_loop [0, 16] (fun n i => ∃ (m : Nat), m ≤ s.size ∧ i = .int .i64 m ∧ n = .int .u16 ((sumF c1 (s.data.toList.take m) : Nat) : Int)) (fun _ i => s.size - (intOf i).toNat)
      case atStart => exact ⟨0, Nat.zero_le _, rfl, rfl⟩
      case round =>
        obtain ⟨m, hm, rfl, rfl⟩ := hrel
        by_cases hml : m < s.size
        · have hs2 := sumF_lt (s.data.toList.take m) c1 hs0
          have HS := Lib.hid (bsumF_take c1 s m hml)
          have hb8 := (s[m]'hml).toNat_lt
          go_wp2_with (go_at_call 112; refine (next_any _ _ _ hs2 hb8).mono ?_; rintro e w1 ⟨rfl, rfl⟩)
          go_wp2
          go_round
          case rel => exact ⟨m + 1, by omega, by go_num, by rw [HS.out]⟩
          case measure => simp [intOf]; omega
        · have HT := Lib.hid (show s.data.toList.take m = s.data.toList from List.take_of_length_le (by simp; omega))
          go_wp2
          go_round
          case rel => exact ⟨k + 1, by omega, by go_num, by rw [HT.out, HF.out, sumF_append, HG.out]⟩
          case measure => simp [intOf]; omega
    · go_wp2
      go_ret
      exact ⟨ret_int (by rw [List.take_of_length_le (by omega)]), rfl⟩

set_option maxHeartbeats 400000 in
set_option maxRecDepth 100000 in
theorem from_none (c cap : Nat) (a : Option Addr) (w : World) :
    Calls Tryz.prog 79 #[.int .u16 (c : Int), .slice a 0 cap] w fun e w' => e = .returned (.int .u16 (c : Int)) ∧ w = w' := by
  go_enter Tryz.func79, Tryz.ntmps79
  go_wp2
  go_loop [0, 10] (fun n i => i = .int .i64 0 ∧ n = .int .u16 (c : Int)) (fun _ _ => 0)
  case atStart => exact ⟨rfl, rfl⟩
  case round =>
    obtain ⟨rfl, rfl⟩ := hrel
    go_wp2
    go_ret
    exact ⟨rfl, rfl⟩

set_option maxHeartbeats 400000 in
set_option maxRecDepth 100000 in
theorem of_any (b o cap : Nat) (xs : List ByteArray) (w : World) (hx : xs.length ≤ 100000) (hsz : ∀ x ∈ xs, x.size ≤ 1000000)
    (hcells : ∀ (j : Nat) x, xs[j]? = some x → w.cell? ⟨b, o + j, none⟩ = some (.string x)) :
    Calls Tryz.prog 52 #[.slice (some ⟨b, o, none⟩) xs.length cap] w fun e w' => e = .returned (.int .u16 ((sumF 0 (Sash.Sum.flat xs) : Nat) : Int)) ∧ w = w' := by
  have HC := Lib.hid hcells
  have HZ := Lib.hid hsz
  clear hcells hsz
  go_enter Tryz.func52, Tryz.ntmps52
  go_wp2_with (go_at_call 79; refine (from_any 0 b o cap xs _ (by omega) hx HZ.out HC.out).mono ?_; rintro e w1 ⟨rfl, rfl⟩)
  go_wp2
  go_ret
  exact ⟨rfl, rfl⟩

set_option maxHeartbeats 400000 in
set_option maxRecDepth 100000 in
theorem of_none (cap : Nat) (a : Option Addr) (w : World) :
    Calls Tryz.prog 52 #[.slice a 0 cap] w fun e w' => e = .returned (.int .u16 0) ∧ w = w' := by
  go_enter Tryz.func52, Tryz.ntmps52
  go_wp2_with (go_at_call 79; refine (from_none 0 cap a _).mono ?_; rintro e w1 ⟨rfl, rfl⟩)
  go_wp2
  go_ret
  exact ⟨rfl, rfl⟩

/-- One text, told as such. -/
theorem flat1 (s : ByteArray) : Sash.Sum.flat [s] = s.data.toList := by simp [Sash.Sum.flat]
theorem one_cells (w : World) (s : ByteArray) : ∀ (j : Nat) x, [s][j]? = some x → (w.alloc (.cells #[.string s] 9)).cell? ⟨w.heap.size, 0 + j, none⟩ = some (.string x) := by
  intro j y hj
  match j, hj with
  | 0, hj => simp at hj; subst hj; simp
theorem from_one (c : Nat) (s : ByteArray) (w : World) (hc : c < 65536) (hs : s.size ≤ 1000000) :
    Calls Tryz.prog 79 #[.int .u16 (c : Int), .slice (some ⟨w.heap.size, 0, none⟩) 1 1] (w.alloc (.cells #[.string s] 9)) fun e w' => e = .returned (.int .u16 ((sumF c s.data.toList : Nat) : Int)) ∧ Below w.heap.size w w' := by
  refine (from_any c w.heap.size 0 1 [s] _ hc (by simp) (by simpa using hs) (one_cells w s)).mono ?_
  rintro e w1 ⟨rfl, rfl⟩
  exact ⟨by rw [flat1], (Below.refl _ w).alloc (Nat.le_refl _) _⟩
theorem of_one (s : ByteArray) (w : World) (hs : s.size ≤ 1000000) :
    Calls Tryz.prog 52 #[.slice (some ⟨w.heap.size, 0, none⟩) 1 1] (w.alloc (.cells #[.string s] 9)) fun e w' => e = .returned (.int .u16 ((sumF 0 s.data.toList : Nat) : Int)) ∧ Below w.heap.size w w' := by
  refine (of_any w.heap.size 0 1 [s] _ (by simp) (by simpa using hs) (one_cells w s)).mono ?_
  rintro e w1 ⟨rfl, rfl⟩
  exact ⟨by rw [flat1], (Below.refl _ w).alloc (Nat.le_refl _) _⟩

set_option maxHeartbeats 400000 in
set_option maxRecDepth 100000 in
theorem refFrom_any (c : Nat) (s : ByteArray) (w : World) (hc : c < 65536) (hs : s.size ≤ 1000000) :
    Calls Tryz.prog 40 #[.int .u16 (c : Int), .string s] w fun e w' => e = .returned (.int .u16 ((sumF c s.data.toList : Nat) : Int)) ∧ w = w' := by
  go_enter Tryz.func40, Tryz.ntmps40
  go_wp2
  go_loop [5, 6] (fun n i => ∃ (m : Nat), m ≤ s.size ∧ i = .int .i64 m ∧ n = .int .i64 ((sumF c (s.data.toList.take m) : Nat) : Int)) (fun _ i => s.size - (intOf i).toNat)
  case atStart => exact ⟨0, Nat.zero_le _, rfl, rfl⟩
  case round =>
    obtain ⟨m, hm, rfl, rfl⟩ := hrel
    have hs2 := sumF_lt (s.data.toList.take m) c hc
    by_cases hml : m < s.size
    · have HS := Lib.hid (bsumF_take c s m hml)
      have hb8 := (s[m]'hml).toNat_lt
      go_wp2
      go_round
      case rel => exact ⟨m + 1, by omega, by go_num, by rw [HS.out]; congr 1⟩
      case measure => simp [intOf]; omega
    · have HT := Lib.hid (show s.data.toList.take m = s.data.toList from List.take_of_length_le (by simp; omega))
      rw [HT.out] at hs2 ⊢
      go_wp2
      go_ret
      exact ⟨rfl, rfl⟩

set_option maxHeartbeats 400000 in
set_option maxRecDepth 100000 in
theorem put_any (s : ByteArray) (w : World) (hs : s.size ≤ 1000000) :
    Calls Tryz.prog 36 #[.string s] w fun e w' => e = .returned (.string ⟨(putL s.data.toList).toArray⟩) ∧ Below w.heap.size w w' := by
  have hlt := sumF_lt s.data.toList 0 (by omega)
  have hsz : (⟨(hex4 (sumF 0 s.data.toList)).toArray⟩ : ByteArray).size = 4 := rfl
  go_enter Tryz.func36, Tryz.ntmps36
  go_wp2_with (go_at_call 52; refine (of_one s w hs).mono ?_; rintro e w1 ⟨rfl, hb1⟩)
  go_wp2_with (go_at_call 64; refine (hex_any _ _ hlt).mono ?_; rintro e w2 ⟨rfl, hb2⟩)
  go_wp2
  go_ret
  exact ⟨ret_str (by apply ByteArray.ext; simp [putL]), hb1.trans (hb2.mono hb1.size)⟩

set_option maxHeartbeats 400000 in
set_option maxRecDepth 100000 in
theorem refPut_any (s : ByteArray) (w : World) (hs : s.size ≤ 1000000) :
    Calls Tryz.prog 17 #[.string s] w fun e w' => e = .returned (.string ⟨(putL s.data.toList).toArray⟩) ∧ w = w' := by
  have hlt := sumF_lt s.data.toList 0 (by omega)
  have hsz : (⟨(hex4 (sumF 0 s.data.toList)).toArray⟩ : ByteArray).size = 4 := rfl
  go_enter Tryz.func17, Tryz.ntmps17
  go_wp2_with (go_at_call 40; refine (refFrom_any 0 s w (by omega) hs).mono ?_; rintro e w1 ⟨rfl, rfl⟩)
  go_wp2_with (go_at_call 39; refine (refHex_any _ _ hlt).mono ?_; rintro e w2 ⟨rfl, rfl⟩)
  go_wp2
  go_ret
  exact ⟨ret_str (by apply ByteArray.ext; simp [putL]), rfl⟩
end Go.Proofs.YtbelpnfgdjnpoaaGreatDoor
/- What sum.Cut and the document's Cut answer. -/
namespace Go.Proofs.YtbelpnfgdjnpoaaGreatDoor
open Go.RowKit Sash.Num Sash.Sum

theorem cut_four (s : ByteArray) (h : 4 ≤ s.size) : (s.extract 0 4).size = 4 ∧ (s.extract 0 4).data.toList = s.data.toList.take 4 := by
  refine ⟨by simp [ByteArray.size_extract]; omega, by rw [Lib.extract_data]; simp⟩
theorem cut_rest (s : ByteArray) : (s.extract 5 s.size).data.toList = s.data.toList.drop 5 := by
  rw [Lib.extract_data, List.take_of_length_le]
  simp
theorem cut_at (s : ByteArray) (h : 4 < s.size) : (s.data.toList[4]? = some 44) ↔ (s[4]'h).toNat = 44 := by
  rw [List.getElem?_eq_getElem (by simpa using h)]
  show some s[4] = some 44 ↔ _
  constructor
  · intro e; rw [Option.some.inj e]; rfl
  · intro e; congr 1; exact UInt8.toNat_inj.1 e
theorem ret_bytes {l m : List UInt8} (h : l = m) : (⟨l.toArray⟩ : ByteArray) = ⟨m.toArray⟩ := by rw [h]
theorem bytes_of {s : ByteArray} {l : List UInt8} (h : s.data.toList = l) : s = ⟨l.toArray⟩ := by rw [← h]
theorem some_bad (s : ByteArray) (ha : ¬ ∀ c ∈ s.data.toList, hexv c < 16) : ∃ i, ∃ h : i < s.size, ¬ hexv s[i] < 16 := by
  refine Classical.byContradiction fun hno => ha fun c hc => ?_
  obtain ⟨k, hk, rfl⟩ := List.getElem_of_mem hc
  refine Classical.byContradiction fun hb => hno ⟨k, by simpa using hk, hb⟩

/-- Four bytes, read as digits, by either: not digits. -/
theorem readHex_bad (s : ByteArray) (w : World) (hz : s.size = 4) (ha : ¬ ∀ c ∈ s.data.toList, hexv c < 16) :
    Calls Tryz.prog 51 #[.string s] w fun e w' => e = .returned (.tuple #[.int .u16 0, .int .i64 2]) ∧ Below w.heap.size w w' := by
  obtain ⟨i, hi, hb⟩ := some_bad s ha
  exact readHex_no s w hz i hi hb
theorem refReadHex_bad (s : ByteArray) (w : World) (hz : s.size = 4) (ha : ¬ ∀ c ∈ s.data.toList, hexv c < 16) :
    Calls Tryz.prog 56 #[.string s] w fun e w' => e = .returned (.tuple #[.int .u16 0, .bool false]) ∧ Below w.heap.size w w' := by
  obtain ⟨i, hi, hb⟩ := some_bad s ha
  exact refReadHex_no s w hz i hi hb

theorem four_yes (s : ByteArray) (n : Nat) (w : World) (h : 4 ≤ s.size) (ha : ∀ c ∈ s.data.toList.take 4, hexv c < 16) (hn : rhV (s.data.toList.take 4) = n) :
    Calls Tryz.prog 51 #[.string (s.extract 0 4)] w fun e w' => e = .returned (.tuple #[.int .u16 (n : Int), .int .i64 0]) ∧ Below w.heap.size w w' := by
  obtain ⟨z4, t4⟩ := cut_four s h
  rw [← t4] at ha hn
  rw [← hn]
  exact readHex_yes _ w z4 ha
theorem four_no (s : ByteArray) (w : World) (h : 4 ≤ s.size) (ha : ¬ ∀ c ∈ s.data.toList.take 4, hexv c < 16) :
    Calls Tryz.prog 51 #[.string (s.extract 0 4)] w fun e w' => e = .returned (.tuple #[.int .u16 0, .int .i64 2]) ∧ Below w.heap.size w w' := by
  obtain ⟨z4, t4⟩ := cut_four s h
  rw [← t4] at ha
  exact readHex_bad _ w z4 ha
theorem refFour_yes (s : ByteArray) (n : Nat) (w : World) (h : 4 ≤ s.size) (ha : ∀ c ∈ s.data.toList.take 4, hexv c < 16) (hn : rhV (s.data.toList.take 4) = n) :
    Calls Tryz.prog 56 #[.string (s.extract 0 4)] w fun e w' => e = .returned (.tuple #[.int .u16 (n : Int), .bool true]) ∧ Below w.heap.size w w' := by
  obtain ⟨z4, t4⟩ := cut_four s h
  rw [← t4] at ha hn
  rw [← hn]
  exact refReadHex_yes _ w z4 ha
theorem refFour_no (s : ByteArray) (w : World) (h : 4 ≤ s.size) (ha : ¬ ∀ c ∈ s.data.toList.take 4, hexv c < 16) :
    Calls Tryz.prog 56 #[.string (s.extract 0 4)] w fun e w' => e = .returned (.tuple #[.int .u16 0, .bool false]) ∧ Below w.heap.size w w' := by
  obtain ⟨z4, t4⟩ := cut_four s h
  rw [← t4] at ha
  exact refReadHex_bad _ w z4 ha
theorem rest_size (s : ByteArray) (h : s.size ≤ 65535) : (s.extract 5 s.size).size ≤ 1000000 := by
  simp [ByteArray.size_extract]; omega
theorem of_rest (s : ByteArray) (n : Nat) (w : World) (h : s.size ≤ 65535) (hn : sumF 0 (s.data.toList.drop 5) = n) :
    Calls Tryz.prog 52 #[.slice (some ⟨w.heap.size, 0, none⟩) 1 1] (w.alloc (.cells #[.string (s.extract 5 s.size)] 9)) fun e w' => e = .returned (.int .u16 (n : Int)) ∧ Below w.heap.size w w' := by
  have := of_one (s.extract 5 s.size) w (rest_size s h)
  rw [cut_rest, hn] at this
  exact this
theorem refFrom_rest (s : ByteArray) (n : Nat) (w : World) (h : s.size ≤ 65535) (hn : sumF 0 (s.data.toList.drop 5) = n) :
    Calls Tryz.prog 40 #[.int .u16 0, .string (s.extract 5 s.size)] w fun e w' => e = .returned (.int .u16 (n : Int)) ∧ w = w' := by
  have := refFrom_any 0 (s.extract 5 s.size) w (by omega) (rest_size s h)
  rw [cut_rest, hn] at this
  exact this

set_option maxHeartbeats 400000 in
set_option maxRecDepth 100000 in
theorem cutS_any (s : ByteArray) (w : World) :
    Calls Tryz.prog 27 #[.string s] w fun e w' => e = .returned (.tuple #[.string ⟨(cutX s.data.toList).toArray⟩, .int .i64 (cutE s.data.toList)]) ∧ Below w.heap.size w w' := by
  by_cases hl : 65535 < s.size
  · have HF := Lib.hid (cut_long s.data.toList (by simpa using hl))
    have d0 : decide ((65535 : Int) < (s.size : Int)) = true := by simp; omega
    go_enter Tryz.func27, Tryz.ntmps27
    go_wp2
    go_ret2
    exact ⟨retSI (ret_bytes HF.out.2.symm) HF.out.1.symm, Below.refl _ _⟩
  · have hl' : ¬ 65535 < s.data.toList.length := by simpa using hl
    have hs : s.size ≤ 65535 := by omega
    have d0 : decide ((65535 : Int) < (s.size : Int)) = false := by simp; omega
    clear hl
    by_cases h5 : s.size ≤ 4
    · have HF := Lib.hid (cut_form s.data.toList hl' (Or.inl (by simp; omega)))
      have d1 : decide ((s.size : Int) ≤ 4) = true := by simp; omega
      clear hl'
      go_enter Tryz.func27, Tryz.ntmps27
      go_wp2
      go_ret2
      exact ⟨retSI (ret_bytes HF.out.2.symm) HF.out.1.symm, Below.refl _ _⟩
    · have h4 : 4 < s.size := by omega
      have d1 : decide ((s.size : Int) ≤ 4) = false := by simp; omega
      have hat := cut_at s h4
      clear h5
      by_cases hcm : (s[4]'h4).toNat = 44
      · have d2 : (((s[4]'h4).toNat : Int) != 44) = false := by simp; omega
        have h2 : ¬ (s.data.toList.length < 5 ∨ s.data.toList[4]? ≠ some 44) := by
          rintro (h | h)
          · simp at h; omega
          · exact h (hat.2 hcm)
        by_cases ha : ∀ c ∈ s.data.toList.take 4, hexv c < 16
        · by_cases hq : rhV (s.data.toList.take 4) = sumF 0 (s.data.toList.drop 5)
          · have HF := Lib.hid (cut_ok s.data.toList hl' h2 ha hq)
            have HQ := Lib.hid (And.intro ha hq.symm)
            clear hl' hat hcm h2 ha hq
            go_enter Tryz.func27, Tryz.ntmps27
            go_wp2_with (first | (go_at_call 51; refine (four_yes s _ _ (Nat.le_of_lt h4) HQ.out.1 rfl).mono ?_; rintro e w1 ⟨rfl, hb1⟩) | (go_at_call 52; refine (of_rest s _ _ hs HQ.out.2).mono ?_; rintro e w2 ⟨rfl, hb2⟩))
            go_ret2
            exact ⟨retSI (bytes_of (by rw [HF.out.2, cut_rest])) HF.out.1.symm, hb1.trans (hb2.mono hb1.size)⟩
          · have HF := Lib.hid (cut_sum s.data.toList hl' h2 ha hq)
            have HQ := Lib.hid ha
            have d3 : (((rhV (s.data.toList.take 4) : Nat) : Int) != ((sumF 0 (s.data.toList.drop 5) : Nat) : Int)) = true := by simp; omega
            clear hl' hat hcm h2 ha hq
            go_enter Tryz.func27, Tryz.ntmps27
            go_wp2_with (first | (go_at_call 51; refine (four_yes s _ _ (Nat.le_of_lt h4) HQ.out rfl).mono ?_; rintro e w1 ⟨rfl, hb1⟩) | (go_at_call 52; refine (of_rest s _ _ hs rfl).mono ?_; rintro e w2 ⟨rfl, hb2⟩))
            go_ret2
            exact ⟨retSI (ret_bytes HF.out.2.symm) HF.out.1.symm, hb1.trans (hb2.mono hb1.size)⟩
        · have HF := Lib.hid (cut_hex s.data.toList hl' h2 ha)
          have HQ := Lib.hid ha
          clear hl' hat hcm h2 ha
          go_enter Tryz.func27, Tryz.ntmps27
          go_wp2_with (go_at_call 51; refine (four_no s _ (Nat.le_of_lt h4) HQ.out).mono ?_; rintro e w1 ⟨rfl, hb1⟩)
          go_ret2
          exact ⟨retSI (ret_bytes HF.out.2.symm) HF.out.1.symm, hb1⟩
      · have d2 : (((s[4]'h4).toNat : Int) != 44) = true := by simp; omega
        have HF := Lib.hid (cut_form s.data.toList hl' (Or.inr (fun e => hcm (hat.1 e))))
        clear hl' hat hcm
        go_enter Tryz.func27, Tryz.ntmps27
        go_wp2
        go_ret2
        exact ⟨retSI (ret_bytes HF.out.2.symm) HF.out.1.symm, Below.refl _ _⟩

theorem comma_list (s : ByteArray) (h4 : 4 < s.size) : (s.extract 4 5).toList = [s[4]'h4] := by
  rw [ext1 s 4 h4, Lib.toList_data]
theorem comma_eq (s : ByteArray) (h4 : 4 < s.size) (h : (s[4]'h4).toNat = 44) : (s.extract 4 5).toList = [44] := by
  rw [comma_list s h4, show s[4]'h4 = 44 from UInt8.toNat_inj.1 h]
theorem comma_ne (s : ByteArray) (h4 : 4 < s.size) (h : ¬ (s[4]'h4).toNat = 44) : ((s.extract 4 5).toList == [44]) = false := by
  rw [comma_list s h4, beq_eq_false_iff_ne]
  intro e
  exact h (by rw [(List.cons.inj e).1]; rfl)

set_option maxHeartbeats 400000 in
set_option maxRecDepth 100000 in
theorem refCutS_any (s : ByteArray) (w : World) :
    Calls Tryz.prog 30 #[.string s] w fun e w' => e = .returned (.tuple #[.string ⟨(cutX s.data.toList).toArray⟩, .int .i64 (cutE s.data.toList)]) ∧ Below w.heap.size w w' := by
  by_cases hl : 65535 < s.size
  · have HF := Lib.hid (cut_long s.data.toList (by simpa using hl))
    have d0 : decide ((65535 : Int) < (s.size : Int)) = true := by simp; omega
    go_enter Tryz.func30, Tryz.ntmps30
    go_wp2
    go_ret2
    exact ⟨retSI (ret_bytes HF.out.2.symm) HF.out.1.symm, Below.refl _ _⟩
  · have hl' : ¬ 65535 < s.data.toList.length := by simpa using hl
    have hs : s.size ≤ 65535 := by omega
    have d0 : decide ((65535 : Int) < (s.size : Int)) = false := by simp; omega
    clear hl
    by_cases h5 : s.size ≤ 4
    · have HF := Lib.hid (cut_form s.data.toList hl' (Or.inl (by simp; omega)))
      have d1 : decide ((s.size : Int) < 5) = true := by simp; omega
      clear hl'
      go_enter Tryz.func30, Tryz.ntmps30
      go_wp2
      go_ret2
      exact ⟨retSI (ret_bytes HF.out.2.symm) HF.out.1.symm, Below.refl _ _⟩
    · have h4 : 4 < s.size := by omega
      have d1 : decide ((s.size : Int) < 5) = false := by simp; omega
      have hat := cut_at s h4
      clear h5
      by_cases hcm : (s[4]'h4).toNat = 44
      · have d2 : (s.extract 4 5).toList = [44] := comma_eq s h4 hcm
        have h2 : ¬ (s.data.toList.length < 5 ∨ s.data.toList[4]? ≠ some 44) := by
          rintro (h | h)
          · simp at h; omega
          · exact h (hat.2 hcm)
        by_cases ha : ∀ c ∈ s.data.toList.take 4, hexv c < 16
        · by_cases hq : rhV (s.data.toList.take 4) = sumF 0 (s.data.toList.drop 5)
          · have HF := Lib.hid (cut_ok s.data.toList hl' h2 ha hq)
            have HQ := Lib.hid (And.intro ha hq.symm)
            clear hl' hat hcm h2 ha hq
            go_enter Tryz.func30, Tryz.ntmps30
            go_wp2_with (first | (go_at_call 56; refine (refFour_yes s _ _ (Nat.le_of_lt h4) HQ.out.1 rfl).mono ?_; rintro e w1 ⟨rfl, hb1⟩) | (go_at_call 40; refine (refFrom_rest s _ _ hs HQ.out.2).mono ?_; rintro e w2 ⟨rfl, rfl⟩))
            go_ret2
            exact ⟨retSI (bytes_of (by rw [HF.out.2, cut_rest])) HF.out.1.symm, hb1⟩
          · have HF := Lib.hid (cut_sum s.data.toList hl' h2 ha hq)
            have HQ := Lib.hid ha
            have d3 : (((sumF 0 (s.data.toList.drop 5) : Nat) : Int) != ((rhV (s.data.toList.take 4) : Nat) : Int)) = true := by simp; omega
            clear hl' hat hcm h2 ha hq
            go_enter Tryz.func30, Tryz.ntmps30
            go_wp2_with (first | (go_at_call 56; refine (refFour_yes s _ _ (Nat.le_of_lt h4) HQ.out rfl).mono ?_; rintro e w1 ⟨rfl, hb1⟩) | (go_at_call 40; refine (refFrom_rest s _ _ hs rfl).mono ?_; rintro e w2 ⟨rfl, rfl⟩))
            go_ret2
            exact ⟨retSI (ret_bytes HF.out.2.symm) HF.out.1.symm, hb1⟩
        · have HF := Lib.hid (cut_hex s.data.toList hl' h2 ha)
          have HQ := Lib.hid ha
          clear hl' hat hcm h2 ha
          go_enter Tryz.func30, Tryz.ntmps30
          go_wp2_with (go_at_call 56; refine (refFour_no s _ (Nat.le_of_lt h4) HQ.out).mono ?_; rintro e w1 ⟨rfl, hb1⟩)
          go_ret2
          exact ⟨retSI (ret_bytes HF.out.2.symm) HF.out.1.symm, hb1⟩
      · have d2 : ((s.extract 4 5).toList == [44]) = false := comma_ne s h4 hcm
        have HF := Lib.hid (cut_form s.data.toList hl' (Or.inr (fun e => hcm (hat.1 e))))
        clear hl' hat hcm
        go_enter Tryz.func30, Tryz.ntmps30
        go_wp2
        go_ret2
        exact ⟨retSI (ret_bytes HF.out.2.symm) HF.out.1.symm, Below.refl _ _⟩

end Go.Proofs.YtbelpnfgdjnpoaaGreatDoor
/- The document reads a text, a body: as relations, one answer only; and walked. -/
namespace Go.Proofs.YtbelpnfgdjnpoaaGreatDoor
open Go.RowKit
open Sash.Sum (cutE cutX)

def TextR (S : List UInt8) : WR → Prop
  | .no e pl => (cutE S ≠ 0 ∧ e = cutE S ∧ pl = 0) ∨ (cutE S = 0 ∧ WholeR (cutX S) 5 (.no e pl))
  | .yes t => cutE S = 0 ∧ WholeR (cutX S) 5 (.yes t)
def BodyR (S : List UInt8) : WR → Prop
  | .no e pl => (65530 < S.length ∧ e = 3 ∧ pl = 0) ∨ (S.length ≤ 65530 ∧ WholeR S 0 (.no e pl))
  | .yes t => S.length ≤ 65530 ∧ WholeR S 0 (.yes t)
theorem TextR.one {S : List UInt8} {a b : WR} (ha : TextR S a) (hb : TextR S b) : a = b := by
  cases a with
  | no e pl =>
    cases b with
    | no e' pl' =>
      rcases ha with ⟨h1, rfl, rfl⟩ | ⟨h1, h2⟩ <;> rcases hb with ⟨g1, rfl, rfl⟩ | ⟨g1, g2⟩
      · rfl
      · exact absurd g1 h1
      · exact absurd h1 g1
      · exact h2.one g2
    | yes t' =>
      rcases ha with ⟨h1, -, -⟩ | ⟨h1, h2⟩
      · exact absurd hb.1 h1
      · exact h2.one hb.2
  | yes t =>
    cases b with
    | no e' pl' =>
      rcases hb with ⟨h1, -, -⟩ | ⟨h1, h2⟩
      · exact absurd ha.1 h1
      · exact ha.2.one h2
    | yes t' => exact ha.2.one hb.2
theorem BodyR.one {S : List UInt8} {a b : WR} (ha : BodyR S a) (hb : BodyR S b) : a = b := by
  cases a with
  | no e pl =>
    cases b with
    | no e' pl' =>
      rcases ha with ⟨h1, rfl, rfl⟩ | ⟨h1, h2⟩ <;> rcases hb with ⟨g1, rfl, rfl⟩ | ⟨g1, g2⟩
      · rfl
      · omega
      · omega
      · exact h2.one g2
    | yes t' =>
      rcases ha with ⟨h1, -, -⟩ | ⟨h1, h2⟩
      · have := hb.1; omega
      · exact h2.one hb.2
  | yes t =>
    cases b with
    | no e' pl' =>
      rcases hb with ⟨h1, -, -⟩ | ⟨h1, h2⟩
      · have := ha.1; omega
      · exact ha.2.one h2
    | yes t' => exact ha.2.one hb.2

/-- A tree, its error's number and place, as they are answered. -/
def TxSays (Rel : WR → Prop) (w : World) (e : Ending) (w' : World) : Prop :=
  Below w.heap.size w w' ∧ ((∃ no pl : Int, Rel (.no no pl) ∧ no ≠ 0 ∧ e = .returned (.tuple #[cval zC, .int .i64 no, .int .i64 pl])) ∨
    ∃ (t : T) (d : C), Rel (.yes t) ∧ e = .returned (.tuple #[cval d, .int .i64 0, .int .i64 0]) ∧ Is w' d t)

set_option maxRecDepth 100000 in
set_option maxHeartbeats 2000000 in
theorem rbodyP_any (s : ByteArray) (w : World) (hs : s.size ≤ 100000) : Calls Tryz.prog 16 #[.string s] w (TxSays (BodyR s.data.toList) w) := by
  have hSL : s.data.toList.length = s.size := by simp
  have BX := Lib.hid (Box7.new w zC)
  have BB : Hid (Below w.heap.size w (w.alloc (cbox zC))) := Lib.hid ((Below.refl _ _).alloc (Nat.le_refl _) _)
  have HW := Lib.hid (rwhole_any s 0 (w.alloc (cbox zC)) hs (by omega))
  generalize s.data.toList = S at HW hSL ⊢
  have HSL := Lib.hid hSL
  clear hSL
  by_cases hl : 65530 < s.size
  · have q1 : decide ((65530 : Int) < (s.size : Int)) = true := decide_eq_true (by omega)
    have q2 : decide (65530 < s.size) = true := decide_eq_true hl
    have q3 : (65530 < s.size) = True := eq_true hl
    go_enter Tryz.func16, Tryz.ntmps16
    go_wp2
    refine bodyPost_ret (results_w3 rfl _ _ w.heap.size zC rfl BX.out) rfl ?_
    exact ⟨BB.out, .inl ⟨3, 0, .inl ⟨by have := HSL.out; omega, rfl, rfl⟩, by decide, rfl⟩⟩
  · have q1 : decide ((65530 : Int) < (s.size : Int)) = false := decide_eq_false (by omega)
    have q2 : decide (65530 < s.size) = false := decide_eq_false hl
    have q3 : (65530 < s.size) = False := eq_false hl
    go_enter Tryz.func16, Tryz.ntmps16
    go_wp2_with fail
    refine HW.out.mono ?_
    rintro e w2 ⟨hb2, ⟨no, pl, hrel, hne, rfl⟩ | ⟨t, d, Bd, hrel, rfl, hown⟩⟩
    · have X2 := Lib.hid (BX.out.up hb2)
      have B2 := Lib.hid (BB.out.trans (hb2.mono BB.out.size))
      have HRL := Lib.hid hrel
      clear hb2 hrel
      obtain ⟨e0, e1, e2, e3, e4, e5, e6⟩ := X2.out.cat
      simp only [Nat.zero_add] at e1 e2 e3 e4 e5 e6
      have k0 := X2.out.free 0
      have k1 := X2.out.free 1
      have k2 := X2.out.free 2
      have k3 := X2.out.free 3
      have k4 := X2.out.free 4
      have k5 := X2.out.free 5
      have k6 := X2.out.free 6
      go_wp2
      refine bodyPost_ret (results_w3 rfl _ _ w.heap.size zC rfl (X2.out.put zC)) rfl ?_
      exact ⟨below_put7 B2.out (Nat.le_refl _) zC, .inl ⟨no, pl, .inr ⟨by have := HSL.out; omega, HRL.out⟩, hne, rfl⟩⟩
    · have X2 := Lib.hid (BX.out.up hb2)
      have B2 := Lib.hid (BB.out.trans (hb2.mono BB.out.size))
      have HRL := Lib.hid hrel
      have HO : Hid (OwnT w2 (w.heap.size + 1) d t Bd) := Lib.hid (by simpa using hown)
      clear hb2 hrel hown
      obtain ⟨e0, e1, e2, e3, e4, e5, e6⟩ := X2.out.cat
      simp only [Nat.zero_add] at e1 e2 e3 e4 e5 e6
      have k0 := X2.out.free 0
      have k1 := X2.out.free 1
      have k2 := X2.out.free 2
      have k3 := X2.out.free 3
      have k4 := X2.out.free 4
      have k5 := X2.out.free 5
      have k6 := X2.out.free 6
      go_wp2
      refine bodyPost_ret (results_w3 rfl _ _ w.heap.size d rfl (X2.out.put d)) rfl ?_
      refine ⟨below_put7 B2.out (Nat.le_refl _) d, .inr ⟨t, d, ⟨by have := HSL.out; omega, HRL.out⟩, rfl, ?_⟩⟩
      exact (HO.out.frame fun k hk => heap_put7 (by have := (HO.out.ge k hk).1; omega)).is

set_option maxRecDepth 100000 in
set_option maxHeartbeats 2000000 in
theorem rtextP_any (s : ByteArray) (w : World) (hs : s.size ≤ 100000) : Calls Tryz.prog 10 #[.string s] w (TxSays (TextR s.data.toList) w) := by
  have BX := Lib.hid (Box7.new w zC)
  have BB : Hid (Below w.heap.size w (w.alloc (cbox zC))) := Lib.hid ((Below.refl _ _).alloc (Nat.le_refl _) _)
  have HC := Lib.hid (refCutS_any s (w.alloc (cbox zC)))
  have hxl : (cutX s.data.toList).length ≤ s.size := by
    unfold cutX
    split
    · simp
    · simp
  have HW := Lib.hid (fun W => rwhole_any ⟨(cutX s.data.toList).toArray⟩ 5 W (by show (cutX s.data.toList).length ≤ 100000; omega) (by omega))
  rw [show (⟨(cutX s.data.toList).toArray⟩ : ByteArray).data.toList = cutX s.data.toList from rfl] at HW
  generalize s.data.toList = S at HW HC hxl ⊢
  clear hxl
  by_cases hz : cutE S = 0
  · have HZ := Lib.hid hz
    rw [hz] at HC
    clear hz
    go_enter Tryz.func10, Tryz.ntmps10
    go_wp2_with fail
    refine HC.out.mono ?_
    rintro e w1 ⟨rfl, hb1⟩
    have X1 := Lib.hid (BX.out.up hb1)
    have B1 := Lib.hid (BB.out.trans (hb1.mono BB.out.size))
    have HG : Hid (w.heap.size + 1 ≤ w1.heap.size) := Lib.hid (by have := hb1.size; simpa using this)
    clear hb1
    go_wp2_with fail
    refine (HW.out w1).mono ?_
    rintro e w2 ⟨hb2, ⟨no, pl, hrel, hne, rfl⟩ | ⟨t, d, Bd, hrel, rfl, hown⟩⟩
    · have X2 := Lib.hid (X1.out.up hb2)
      have B2 := Lib.hid (B1.out.trans (hb2.mono B1.out.size))
      have HRL := Lib.hid hrel
      clear hb2 hrel
      obtain ⟨e0, e1, e2, e3, e4, e5, e6⟩ := X2.out.cat
      simp only [Nat.zero_add] at e1 e2 e3 e4 e5 e6
      have k0 := X2.out.free 0
      have k1 := X2.out.free 1
      have k2 := X2.out.free 2
      have k3 := X2.out.free 3
      have k4 := X2.out.free 4
      have k5 := X2.out.free 5
      have k6 := X2.out.free 6
      go_wp2
      refine bodyPost_ret (results_w3 rfl _ _ w.heap.size zC rfl (X2.out.put zC)) rfl ?_
      exact ⟨below_put7 B2.out (Nat.le_refl _) zC, .inl ⟨no, pl, .inr ⟨HZ.out, HRL.out⟩, hne, rfl⟩⟩
    · have X2 := Lib.hid (X1.out.up hb2)
      have B2 := Lib.hid (B1.out.trans (hb2.mono B1.out.size))
      have HRL := Lib.hid hrel
      have HO := Lib.hid hown
      clear hb2 hrel hown
      obtain ⟨e0, e1, e2, e3, e4, e5, e6⟩ := X2.out.cat
      simp only [Nat.zero_add] at e1 e2 e3 e4 e5 e6
      have k0 := X2.out.free 0
      have k1 := X2.out.free 1
      have k2 := X2.out.free 2
      have k3 := X2.out.free 3
      have k4 := X2.out.free 4
      have k5 := X2.out.free 5
      have k6 := X2.out.free 6
      go_wp2
      refine bodyPost_ret (results_w3 rfl _ _ w.heap.size d rfl (X2.out.put d)) rfl ?_
      refine ⟨below_put7 B2.out (Nat.le_refl _) d, .inr ⟨t, d, ⟨HZ.out, HRL.out⟩, rfl, ?_⟩⟩
      exact (HO.out.frame fun k hk => heap_put7 (by have := (HO.out.ge k hk).1; have := HG.out; omega)).is
  · have q : (cutE S != 0) = true := by simp [hz]
    go_enter Tryz.func10, Tryz.ntmps10
    go_wp2_with fail
    refine HC.out.mono ?_
    rintro e w1 ⟨rfl, hb1⟩
    have X2 := Lib.hid (BX.out.up hb1)
    have B2 := Lib.hid (BB.out.trans (hb1.mono BB.out.size))
    clear hb1
    obtain ⟨e0, e1, e2, e3, e4, e5, e6⟩ := X2.out.cat
    simp only [Nat.zero_add] at e1 e2 e3 e4 e5 e6
    have k0 := X2.out.free 0
    have k1 := X2.out.free 1
    have k2 := X2.out.free 2
    have k3 := X2.out.free 3
    have k4 := X2.out.free 4
    have k5 := X2.out.free 5
    have k6 := X2.out.free 6
    go_wp2
    refine bodyPost_ret (results_w3 rfl _ _ w.heap.size zC rfl (X2.out.put zC)) rfl ?_
    exact ⟨below_put7 B2.out (Nat.le_refl _) zC, .inl ⟨cutE S, 0, .inl ⟨hz, rfl, rfl⟩, hz, rfl⟩⟩
end Go.Proofs.YtbelpnfgdjnpoaaGreatDoor
