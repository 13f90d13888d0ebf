/- What Digits and Join of the document answer, and num.Digits. -/
import Derived.Test.YtejdebckloehmaaDoorWalk1
import Derived.Test.YtejdebckloehmaaDoorShelf
import Derived.Lib.AppendIntMem
namespace Go.Proofs.YtejdebckloehmaaDoor
open Go.RowKit Sash.Num

theorem ret_str {a b : ByteArray} (h : a = b) : Ending.returned (.string a) = .returned (.string b) := by rw [h]

theorem ownsRow_under {B : Nat} {e : TypeId} {k : Nat} {v : Value} {n : Nat} {xs : List Value} {w w' : World} (h : w.ownsRow B e k v n xs) (hb : Below w.heap.size w w') : w'.ownsRow B e k v n xs :=
  h.kept (row := none) ⟨hb.os, hb.tape, hb.output, hb.size, fun i hi _ => hb.block i hi⟩ (by cases v.ownBlock <;> simp)

set_option maxHeartbeats 400000 in
theorem refDigit_any (x : Int) (w : World) (h0 : 0 ≤ x) (h1 : x < 16) :
    Calls Tryd.prog 25 #[.int .i64 x] w fun e w' => e = .returned (.string ⟨#[hexc x.toNat]⟩) ∧ w = w' := by
  obtain ⟨k, rfl⟩ := Int.eq_ofNat_of_zero_le h0
  rw [Int.toNat_natCast]
  go_enter Tryd.func25, Tryd.ntmps25
  go_wp2
  go_ret
  exact ⟨ret_str (hex_ext k (by omega)), rfl⟩

set_option maxHeartbeats 400000 in
set_option maxRecDepth 100000 in
theorem refDigits_no (n : Int) (w : World) (h : n < 0 ∨ 2147483647 < n) :
    Calls Tryd.prog 21 #[.int .i64 n] w fun e w' => e = .returned (.string ⟨(dig n).toArray⟩) ∧ w = w' := by
  have HF := Lib.hid (show dig n = [] by unfold dig; rw [if_pos h])
  by_cases h0 : n < 0
  · go_enter Tryd.func21, Tryd.ntmps21
    go_wp2
    go_ret
    exact ⟨ret_str (by rw [HF.out]), rfl⟩
  · have h1 : 2147483647 < n := by omega
    have d0 : decide (n < 0) = false := by simp; omega
    have d1 : decide (2147483647 < n) = true := by simp; omega
    clear h
    go_enter Tryd.func21, Tryd.ntmps21
    go_wp2
    go_ret
    exact ⟨ret_str (by rw [HF.out]), rfl⟩

set_option maxHeartbeats 400000 in
set_option maxRecDepth 100000 in
theorem refDigits_yes (n : Nat) (w : World) (h : n ≤ 2147483647) :
    Calls Tryd.prog 21 #[.int .i64 (n : Int)] w fun e w' => e = .returned (.string ⟨(dig n).toArray⟩) ∧ w = w' := by
  have HF := Lib.hid (show dig (n : Int) = Lib.decDigits n by unfold dig; rw [if_neg (by omega)]; simp)
  have d0 : decide ((n : Int) < 0) = false := by simp
  have d1 : decide ((2147483647 : Int) < (n : Int)) = false := by simp; omega
  go_enter Tryd.func21, Tryd.ntmps21
  go_wp2_with fail
  refine (refDigit_any _ _ (by omega) (by omega)).mono ?_
  rintro e w1 ⟨rfl, rfl⟩
  go_wp2
  go_loop [0, 3] (fun x s => ∃ (m : Nat) (l : List UInt8), m ≤ 2147483647 ∧ x = .int .i64 m ∧ s = .string ⟨l.toArray⟩ ∧ Hid (digInv n m l)) (fun x _ => (intOf x).toNat)
  case atStart => exact ⟨n, [hexc (n % 10)], h, rfl, by congr 2, Lib.hid (digInv_start n)⟩
  case round =>
    obtain ⟨m, l, hm, rfl, rfl, HI⟩ := hrel
    by_cases hlt : m < 10
    · have d3 : decide ((9 : Int) < (m : Int)) = false := by simp; omega
      go_wp2
      go_ret
      exact ⟨ret_str (by rw [HF.out, ← digInv_end n m l hlt HI.out]), rfl⟩
    · have d3 : decide ((9 : Int) < (m : Int)) = true := by simp; omega
      have HN := Lib.hid (digInv_step n m l hlt HI.out)
      have hl := digInv_len n m l HI.out
      have hl2 := dec_len 9 n (by omega)
      go_wp2_with (go_at_call 25; refine (refDigit_any _ _ (by omega) (by omega)).mono ?_; rintro e w1 ⟨rfl, rfl⟩)
      go_wp2
      go_round
      case rel => exact ⟨m / 10, hexc (m / 10 % 10) :: l, by omega, by go_num, by congr 1, HN⟩
      case measure => simp [intOf]; omega

theorem str_app (a b : List UInt8) : (⟨a.toArray⟩ : ByteArray) ++ ⟨b.toArray⟩ = ⟨(a ++ b).toArray⟩ := by
  apply ByteArray.ext; simp

theorem str_app3 (a b : List UInt8) : (⟨a.toArray⟩ : ByteArray) ++ ⟨#[44]⟩ ++ ⟨b.toArray⟩ = ⟨(a ++ 44 :: b).toArray⟩ := by
  have h : (⟨#[44]⟩ : ByteArray) = ⟨([44] : List UInt8).toArray⟩ := rfl
  rw [h, str_app, str_app, List.append_assoc]; rfl
theorem str_app0 (b : List UInt8) : (⟨(joinD []).toArray⟩ : ByteArray) ++ ⟨b.toArray⟩ = ⟨b.toArray⟩ := by
  rw [str_app]; rfl

/-- The document's Digits, at every int. -/
theorem refDigits_any (n : Int) (w : World) :
    Calls Tryd.prog 21 #[.int .i64 n] w fun e w' => e = .returned (.string ⟨(dig n).toArray⟩) ∧ w = w' := by
  by_cases h : n < 0 ∨ 2147483647 < n
  · exact refDigits_no n w h
  · obtain ⟨k, rfl⟩ := Int.eq_ofNat_of_zero_le (show 0 ≤ n by omega)
    exact refDigits_yes k w (by omega)

set_option maxHeartbeats 400000 in
set_option maxRecDepth 100000 in
theorem digitsOf_any (n : Int) (w : World) (h0 : -9223372036854775808 ≤ n) (h1 : n ≤ 9223372036854775807) (htab : Lib.TabIs Tryd.prog w "internal/strconv.uint64pow10" .u64 Lib.pow10Tab) :
    Calls Tryd.prog 19 #[.int .i64 n] w fun e w' => e = .returned (.string ⟨(dig n).toArray⟩) ∧ Below w.heap.size w w' := by
  have HT := Lib.hid htab
  clear htab
  by_cases hn : n < 0
  · have HF := Lib.hid (show dig n = [] by unfold dig; rw [if_pos (Or.inl hn)])
    go_enter Tryd.func19, Tryd.ntmps19
    go_wp2
    go_ret
    exact ⟨ret_str (by rw [HF.out]), Below.refl _ _⟩
  · have d0 : decide (n < 0) = false := by simp; omega
    by_cases hb : 2147483647 < n
    · have HF := Lib.hid (show dig n = [] by unfold dig; rw [if_pos (Or.inr hb)])
      have d1 : decide (2147483647 < n) = true := by simp; omega
      go_enter Tryd.func19, Tryd.ntmps19
      go_wp2
      go_ret
      exact ⟨ret_str (by rw [HF.out]), Below.refl _ _⟩
    · have HF := Lib.hid (show dig n = Lib.itoa n by unfold dig Lib.itoa; rw [if_neg (by omega), if_neg (by omega)])
      have d1 : decide (2147483647 < n) = false := by simp; omega
      go_enter Tryd.func19, Tryd.ntmps19
      go_wp2_with (go_at_call 26; refine (Tryd.strconv_Itoa n h0 h1 _ HT.out).mono ?_; rintro e w1 ⟨rfl, k, os, rfl⟩)
      go_wp2
      go_ret
      exact ⟨ret_str (by rw [HF.out]), Lib.below_grow _ _ (Nat.le_refl _) k os⟩

set_option maxHeartbeats 400000 in
set_option maxRecDepth 100000 in
/-- The document's Join, at whatever list of numbers lies in the slice. -/
theorem refJoin_any (b o c : Nat) (xs : List Int) (w : World) (hx : xs.length ≤ 1000)
    (hcells : ∀ (j : Nat) x, xs[j]? = some x → w.cell? ⟨b, o + j, none⟩ = some (.int .i64 x)) :
    Calls Tryd.prog 10 #[.slice (some ⟨b, o, none⟩) xs.length c] w fun e w' => e = .returned (.string ⟨(joinD xs).toArray⟩) ∧ w = w' := by
  have HC := Lib.hid hcells
  clear hcells
  go_enter Tryd.func10, Tryd.ntmps10
  go_wp2
  go_loop [3, 7] (fun s i => ∃ (k : Nat), k ≤ xs.length ∧ i = .int .i64 k ∧ s = .string ⟨(joinD (xs.take k)).toArray⟩) (fun _ i => xs.length - (intOf i).toNat)
  case atStart => exact ⟨0, Nat.zero_le _, rfl, rfl⟩
  case round =>
    obtain ⟨k, hk, rfl, rfl⟩ := hrel
    have hl := joinD_len (xs.take k)
    have hl2 : (xs.take k).length ≤ k := List.length_take_le _ _
    by_cases hlt : k < xs.length
    · have hc := HC.out k xs[k] (List.getElem?_eq_getElem hlt)
      have hd := dig_len xs[k]
      by_cases h0 : k = 0
      · subst h0
        have hz : (joinD []).length ≤ 0 := by simp [joinD]
        have hc0 : w.cell? ⟨b, o, none⟩ = some (.int .i64 xs[0]) := hc
        have HF := Lib.hid (show joinD (xs.take 1) = dig xs[0] by
          cases xs with
          | nil => simp at hlt
          | cons a r => simp [joinD])
        go_wp2_with (go_at_call 21; refine (refDigits_any _ _).mono ?_; rintro e w1 ⟨rfl, rfl⟩)
        go_wp2
        go_round
        case rel => exact ⟨1, by omega, rfl, by rw [HF.out]; exact congrArg Value.string (str_app0 _)⟩
        case measure => simp [intOf]; omega
      · have d0 : decide ((0 : Int) < (k : Int)) = true := by simp; omega
        have HF := Lib.hid (show joinD (xs.take (k + 1)) = joinD (xs.take k) ++ (44 :: dig xs[k]) by
          rw [List.take_succ_eq_append_getElem hlt]
          exact joinD_snoc _ _ (by intro e; have := congrArg List.length e; rw [List.length_take] at this; simp at this; rcases this with h | h; exact h0 h; rw [h] at hlt; simp at hlt))
        go_wp2_with (go_at_call 21; refine (refDigits_any _ _).mono ?_; rintro e w1 ⟨rfl, rfl⟩)
        go_wp2
        go_round
        case rel => exact ⟨k + 1, by omega, by go_num, by rw [HF.out, ← str_app3]⟩
        case measure => simp [intOf]; omega
    · go_wp2
      go_ret
      exact ⟨ret_str (by rw [List.take_of_length_le (by omega)]), rfl⟩

theorem join_dig (xs : List Int) : Lib.join ((xs.map fun x => (⟨(dig x).toArray⟩ : ByteArray)).map (·.data.toList)) [44] = joinD xs := by
  rw [← join_eq, List.map_map]; rfl
theorem join_n (bk o c : Nat) (xs : List Int) (w : World) (hcells : ∀ (j : Nat) x, xs[j]? = some x → w.cell? ⟨bk, o + j, none⟩ = some (.string ⟨(dig x).toArray⟩)) (hbk : bk < w.heap.size) (hN : xs.length ≤ 1000) (hcap : xs.length ≤ c) :
    Calls Tryd.prog 20 #[.slice (some ⟨bk, o, none⟩) xs.length c, .string ⟨#[44]⟩] w fun e w' => e = .returned (.string ⟨(joinD xs).toArray⟩) ∧ Below w.heap.size w w' := by
  have hj := join_dig xs
  have hl := joinD_len xs
  have h := Tryd.strings_Join bk o c (xs.map fun x => (⟨(dig x).toArray⟩ : ByteArray)) ⟨#[44]⟩ w (by
    intro j x hj
    rw [List.getElem?_map] at hj
    obtain ⟨y, hy, rfl⟩ := Option.map_eq_some_iff.1 hj
    exact hcells j y hy) hbk (by simp; omega) (by simpa using hcap) (by rw [show (⟨#[44]⟩ : ByteArray).data.toList = [44] from rfl, hj]; omega)
  rw [show (⟨#[44]⟩ : ByteArray).data.toList = [44] from rfl, hj, List.length_map] at h
  exact h

set_option maxHeartbeats 400000 in
set_option maxRecDepth 100000 in
theorem digits_any (b o c : Nat) (xs : List Int) (w : World) (hx : xs.length ≤ 1000) (h0x : 0 < xs.length) (hb : b < w.heap.size)
    (hcells : ∀ (j : Nat) x, xs[j]? = some x → w.cell? ⟨b, o + j, none⟩ = some (.int .i64 x))
    (hin : ∀ x ∈ xs, -9223372036854775808 ≤ x ∧ x ≤ 9223372036854775807)
    (htab : Lib.TabIs Tryd.prog w "internal/strconv.uint64pow10" .u64 Lib.pow10Tab) :
    Calls Tryd.prog 9 #[.slice (some ⟨b, o, none⟩) xs.length c] w fun e w' => e = .returned (.string ⟨(joinD xs).toArray⟩) ∧ Below w.heap.size w w' := by
  have HT := Lib.hid (Lib.tabBelow_of_tabIs htab)
  have HC := Lib.hid hcells
  have HI := Lib.hid hin
  obtain ⟨ti, hti, hz, hsz, hby⟩ := info_parts (P := Tryd.prog) (e := 9) (z := .string ⟨#[]⟩) (size := 1) (bytes := 16) (by kernel_rfl)
  clear hcells hin htab
  have HTI := Lib.hid (And.intro hti (And.intro hz (And.intro hsz hby)))
  clear hti hz hsz hby
  go_enter Tryd.func9, Tryd.ntmps9
  go_wp2_with (at_make; refine wpList_make_full _ rfl _ _ _ rfl w.heap.size 9 ti (.string ⟨#[]⟩) 1 Tryd.underlying45 HTI.out.1 HTI.out.2.1 HTI.out.2.2.1 .i64 .i64 _ _ xs.length rfl rfl rfl rfl ?_ ?_ (Nat.le_refl _) ?_; (rw [HTI.out.2.2.2]; omega); (unfold maxLen; omega); intro w1 hown hgr; refine Hid.out ?_)
  refine Lib.hid ?_
  have hbw1 : Below w.heap.size w w1 := (Below.refl _ w).grown hgr (Nat.le_refl _) (by simp)
  generalize (madeCells (Value.string ⟨#[]⟩).cells (xs.length * 1)).toList = ts0 at hown
  go_wp2
  go_loopw [11] (fun i wr => ∃ (k : Nat) (ts : List Value), k ≤ xs.length ∧ i = .int .i64 k ∧ wr.ownsRow w.heap.size 9 1 (.slice (some ⟨w.heap.size, 0, none⟩) xs.length xs.length) xs.length ts ∧ Below w.heap.size w wr ∧ Hid (∀ j x, j < k → xs[j]? = some x → ts[j]? = some (.string ⟨(dig x).toArray⟩))) (fun i _ => xs.length - (intOf i).toNat)
  case atStart => exact ⟨0, ts0, Nat.zero_le _, rfl, hown, hbw1, Lib.hid (fun j x h => by omega)⟩
  case round =>
    obtain ⟨k, ts, hk, rfl, hown2, hbw, HTS⟩ := hrel
    have hlen : ts.length = xs.length := by have := hown2.1; simpa using this
    by_cases hlt : k < xs.length
    · have hc : wr.cell? ⟨b, o + k, none⟩ = some (.int .i64 xs[k]) := by rw [hbw.cell (p := ⟨b, o + k, none⟩) hb]; exact HC.out k xs[k] (List.getElem?_eq_getElem hlt)
      have hi := HI.out xs[k] (List.getElem_mem hlt)
      go_wp2_with fail
      refine (digitsOf_any _ _ hi.1 hi.2 (HT.out _ (by exact hbw))).mono ?_
      rintro e w2 ⟨rfl, hb2⟩
      have hown3 := ownsRow_under hown2 hb2
      obtain ⟨v, hv⟩ : ∃ v, w2.cell? ⟨w.heap.size, k, none⟩ = some v := ⟨ts[k]'(by omega), by rw [hown3.cellAt k (by omega)]; exact List.getElem?_eq_getElem _⟩
      have hfz := hown3.frozenAt k
      have hst := hown3.stored k (.string ⟨(dig xs[k]).toArray⟩)
      have hbw2 := (hbw.trans (hb2.mono hbw.size)).setCell (p := ⟨w.heap.size, k, none⟩) (Nat.le_refl _) (.string ⟨(dig xs[k]).toArray⟩)
      clear hlen
      go_wp2
      go_roundw
      case rel =>
        refine ⟨k + 1, ts.set k (.string ⟨(dig xs[k]).toArray⟩), by omega, by go_num, hst.1, hbw2, Lib.hid (fun j x hj hx => ?_)⟩
        by_cases hjk : j = k
        · subst hjk
          rw [List.getElem?_eq_getElem hlt] at hx
          rw [List.getElem?_set_self (by have := hown2.1; simp at this; omega), Option.some.inj hx]
        · rw [List.getElem?_set_ne (Ne.symm hjk)]
          exact HTS.out j x (by omega) hx
      case measure => simp [intOf]; omega
    · have HCL : Hid (∀ (j : Nat) x, xs[j]? = some x → wr.cell? ⟨w.heap.size, 0 + j, none⟩ = some (.string ⟨(dig x).toArray⟩)) := by
        intro j y hy
        have hjl := (List.getElem?_eq_some_iff.1 hy).1
        rw [Nat.zero_add, hown2.cellAt j (by omega)]
        exact HTS.out j y (by omega) hy
      clear hlen
      go_wp2_with (go_at_call 20; refine (join_n w.heap.size 0 xs.length xs wr HCL.out (by have := (hown2.lt w.heap.size rfl).2; omega) hx (Nat.le_refl _)).mono ?_; rintro e w2 ⟨rfl, hb2⟩)
      go_wp2
      go_ret
      exact ⟨rfl, hbw.trans (hb2.mono hbw.size)⟩

set_option maxHeartbeats 400000 in
set_option maxRecDepth 100000 in
theorem digits_none (a : Option Addr) (c : Nat) (w : World) :
    Calls Tryd.prog 9 #[.slice a 0 c] w fun e w' => e = .returned (.string ⟨#[]⟩) ∧ Below w.heap.size w w' := by
  obtain ⟨ti, hti, hz, hsz, hby⟩ := info_parts (P := Tryd.prog) (e := 9) (z := .string ⟨#[]⟩) (size := 1) (bytes := 16) (by kernel_rfl)
  have HTI := Lib.hid (And.intro hti (And.intro hz (And.intro hsz hby)))
  clear hti hz hsz hby
  go_enter Tryd.func9, Tryd.ntmps9
  go_wp2_with (at_make; refine wpList_make_full _ rfl _ _ _ rfl w.heap.size 9 ti (.string ⟨#[]⟩) 1 Tryd.underlying45 HTI.out.1 HTI.out.2.1 HTI.out.2.2.1 .i64 .i64 _ _ 0 rfl rfl rfl rfl ?_ ?_ (Nat.le_refl _) ?_; (rw [HTI.out.2.2.2]; omega); (unfold maxLen; omega); intro w1 hown hgr; refine Hid.out ?_)
  refine Lib.hid ?_
  have hbw1 : Below w.heap.size w w1 := (Below.refl _ w).grown hgr (Nat.le_refl _) (by simp)
  go_wp2
  go_loopw [11] (fun i wr => i = .int .i64 0 ∧ w1 = wr) (fun _ _ => 0)
  case atStart => exact ⟨rfl, rfl⟩
  case round =>
    obtain ⟨rfl, rfl⟩ := hrel
    go_wp2_with (go_at_call 20; refine (Tryd.strings_Join_none _ _ _ _).mono ?_; rintro e w2 ⟨rfl, rfl⟩)
    go_wp2
    go_ret
    exact ⟨rfl, hbw1⟩

theorem refJoin_none (a : Option Addr) (c : Nat) (w : World) :
    Calls Tryd.prog 10 #[.slice a 0 c] w fun e w' => e = .returned (.string ⟨#[]⟩) ∧ w = w' := by
  go_enter Tryd.func10, Tryd.ntmps10
  go_wp2
  go_loop [3, 7] (fun s i => i = .int .i64 0 ∧ s = .string ⟨#[]⟩) (fun _ _ => 0)
  case atStart => exact ⟨rfl, rfl⟩
  case round =>
    obtain ⟨rfl, rfl⟩ := hrel
    go_wp2
    go_ret
    exact ⟨rfl, rfl⟩
end Go.Proofs.YtejdebckloehmaaDoor
