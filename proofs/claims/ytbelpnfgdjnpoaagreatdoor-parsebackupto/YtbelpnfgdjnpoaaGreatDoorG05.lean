/- Texts of this seat, 3 in one file. -/
import Derived.Test.YtbelpnfgdjnpoaaGreatDoorG01
import Derived.Test.YtbelpnfgdjnpoaaGreatDoorG04
/- What the document's Digits answers. -/
namespace Go.Proofs.YtbelpnfgdjnpoaaGreatDoor
open Go.RowKit Sash.Num

set_option maxHeartbeats 400000 in
theorem refDigit_any (x : Int) (w : World) (h0 : 0 ≤ x) (h1 : x < 16) :
    Calls Tryz.prog 65 #[.int .i64 x] w fun e w' => e = .returned (.string ⟨#[hexc x.toNat]⟩) ∧ w = w' := by
  obtain ⟨k, rfl⟩ := Int.eq_ofNat_of_zero_le h0
  rw [Int.toNat_natCast]
  go_enter Tryz.func65, Tryz.ntmps65
  go_wp2
  go_ret
  exact ⟨ret_str (hex_ext k (by omega)), rfl⟩

set_option maxHeartbeats 400000 in
set_option maxRecDepth 100000 in
theorem refDigits_no (n : Int) (w : World) (h : n < 0 ∨ 2147483647 < n) :
    Calls Tryz.prog 45 #[.int .i64 n] w fun e w' => e = .returned (.string ⟨(dig n).toArray⟩) ∧ w = w' := by
  have HF := Lib.hid (show dig n = [] by unfold dig; rw [if_pos h])
  by_cases h0 : n < 0
  · go_enter Tryz.func45, Tryz.ntmps45
    go_wp2
    go_ret
    exact ⟨ret_str (by rw [HF.out]), rfl⟩
  · have h1 : 2147483647 < n := by omega
    have d0 : decide (n < 0) = false := by simp; omega
    have d1 : decide (2147483647 < n) = true := by simp; omega
    clear h
    go_enter Tryz.func45, Tryz.ntmps45
    go_wp2
    go_ret
    exact ⟨ret_str (by rw [HF.out]), rfl⟩

set_option maxHeartbeats 400000 in
set_option maxRecDepth 100000 in
theorem refDigits_yes (n : Nat) (w : World) (h : n ≤ 2147483647) :
    Calls Tryz.prog 45 #[.int .i64 (n : Int)] w fun e w' => e = .returned (.string ⟨(dig n).toArray⟩) ∧ w = w' := by
  have HF := Lib.hid (show dig (n : Int) = Lib.decDigits n by unfold dig; rw [if_neg (by omega)]; simp)
  have d0 : decide ((n : Int) < 0) = false := by simp
  have d1 : decide ((2147483647 : Int) < (n : Int)) = false := by simp; omega
  go_enter Tryz.func45, Tryz.ntmps45
  go_wp2_with fail
  refine (refDigit_any _ _ (by omega) (by omega)).mono ?_
  rintro e w1 ⟨rfl, rfl⟩
  go_wp2
  go_loop [0, 3] (fun x s => ∃ (m : Nat) (l : List UInt8), m ≤ 2147483647 ∧ x = .int .i64 m ∧ s = .string ⟨l.toArray⟩ ∧ Hid (digInv n m l)) (fun x _ => (intOf x).toNat)
  case atStart => exact ⟨n, [hexc (n % 10)], h, rfl, by congr 2, Lib.hid (digInv_start n)⟩
  case round =>
    obtain ⟨m, l, hm, rfl, rfl, HI⟩ := hrel
    by_cases hlt : m < 10
    · have d3 : decide ((9 : Int) < (m : Int)) = false := by simp; omega
      go_wp2
      go_ret
      exact ⟨ret_str (by rw [HF.out, ← digInv_end n m l hlt HI.out]), rfl⟩
    · have d3 : decide ((9 : Int) < (m : Int)) = true := by simp; omega
      have HN := Lib.hid (digInv_step n m l hlt HI.out)
      have hl := digInv_len n m l HI.out
      have hl2 := dec_len 9 n (by omega)
      go_wp2_with (go_at_call 65; refine (refDigit_any _ _ (by omega) (by omega)).mono ?_; rintro e w1 ⟨rfl, rfl⟩)
      go_wp2
      go_round
      case rel => exact ⟨m / 10, hexc (m / 10 % 10) :: l, by omega, by go_num, by congr 1, HN⟩
      case measure => simp [intOf]; omega

/-- The document's Digits, at every int. -/
theorem refDigits_any (n : Int) (w : World) :
    Calls Tryz.prog 45 #[.int .i64 n] w fun e w' => e = .returned (.string ⟨(dig n).toArray⟩) ∧ w = w' := by
  by_cases h : n < 0 ∨ 2147483647 < n
  · exact refDigits_no n w h
  · obtain ⟨k, rfl⟩ := Int.eq_ofNat_of_zero_le (show 0 ≤ n by omega)
    exact refDigits_yes k w (by omega)
end Go.Proofs.YtbelpnfgdjnpoaaGreatDoor
/- There and back: a number's digits are read as it, and what is read has these digits. No program stands in it. -/
namespace Sash.Num
open Go

theorem hexc_dig_fin : ∀ k : Fin 10, (hexc k.val).toNat = 48 + k.val := by decide +kernel
theorem hexc_dig (k : Nat) (h : k < 10) : (hexc k).toNat = 48 + k := hexc_dig_fin ⟨k, h⟩

theorem head_app (a b : List UInt8) (h : a ≠ []) : (a ++ b).head? = a.head? := by
  cases a with
  | nil => exact absurd rfl h
  | cons x r => rfl
theorem cnt_all : ∀ l : List UInt8, (∀ c ∈ l, isD c = true) → cnt l = l.length
  | [], _ => rfl
  | c :: r, h => by
    have h1 := h c List.mem_cons_self
    have h2 := cnt_all r (fun x hx => h x (List.mem_cons_of_mem _ hx))
    simp [cnt, h1, h2]

theorem all_cnt (l : List UInt8) (h : cnt l = l.length) : ∀ c ∈ l, isD c = true := by
  intro c hc
  obtain ⟨k, hk, rfl⟩ := List.getElem_of_mem hc
  exact cnt_isD l k hk (by omega)

theorem val_hexc (a : List UInt8) (k : Nat) (h : k < 10) : val (a ++ [hexc k]) = val a * 10 + k := by
  rw [val_snoc, hexc_dig k h]; omega

theorem dec_facts : ∀ (fuel u : Nat), u < fuel → val (Lib.decDigits u) = u ∧ (∀ c ∈ Lib.decDigits u, isD c = true) ∧ Lib.decDigits u ≠ [] ∧ (10 ≤ u → (Lib.decDigits u).head? ≠ some 48) ∧ (0 < u → (Lib.decDigits u).head? ≠ some 48)
  | 0, u, h => by omega
  | fuel + 1, u, h => by
    by_cases hu : u < 10
    · rw [dec_small u hu]
      have e := hexc_dig u hu
      refine ⟨?_, ?_, by simp, by omega, ?_⟩
      · have := val_hexc [] u hu; simpa [val] using this
      · intro c hc
        rw [List.mem_singleton] at hc
        subst hc
        rw [isD_iff, e]; omega
      · intro h0 hh
        simp at hh
        rw [hh] at e
        have : (48 : UInt8).toNat = 48 := rfl
        omega
    · obtain ⟨i1, i2, i3, _, i5⟩ := dec_facts fuel (u / 10) (by omega)
      rw [dec_big u hu]
      have e := hexc_dig (u % 10) (by omega)
      have hh : (Lib.decDigits (u / 10) ++ [hexc (u % 10)]).head? ≠ some 48 := by
        rw [head_app _ _ i3]; exact i5 (by omega)
      refine ⟨?_, ?_, by simp, fun _ => hh, fun _ => hh⟩
      · rw [val_hexc _ _ (by omega), i1]; omega
      · intro c hc
        rw [List.mem_append, List.mem_singleton] at hc
        rcases hc with hc | rfl
        · exact i2 c hc
        · rw [isD_iff, e]; omega

theorem dec_val (u : Nat) : val (Lib.decDigits u) = u := (dec_facts (u + 1) u (by omega)).1
theorem dec_all (u : Nat) : ∀ c ∈ Lib.decDigits u, isD c = true := (dec_facts (u + 1) u (by omega)).2.1
theorem dec_ne (u : Nat) : Lib.decDigits u ≠ [] := (dec_facts (u + 1) u (by omega)).2.2.1
theorem dec_head (u : Nat) (h : 10 ≤ u) : (Lib.decDigits u).head? ≠ some 48 := (dec_facts (u + 1) u (by omega)).2.2.2.1 h

theorem head_none_dec (u : Nat) : ¬ (cnt (Lib.decDigits u) = 0 ∨ (1 < cnt (Lib.decDigits u) ∧ (Lib.decDigits u).head? = some 48)) := by
  rw [cnt_all _ (dec_all u)]
  rintro (h | ⟨h, h2⟩)
  · exact dec_ne u (List.eq_nil_of_length_eq_zero h)
  · by_cases hu : u < 10
    · rw [dec_small u hu] at h; simp at h
    · exact dec_head u (by omega) h2

/-- A number's digits are read as it. -/
theorem read_dig (n : Int) (h0 : 0 ≤ n) (h1 : n ≤ 2147483647) : readN (dig n) = n ∧ readE (dig n) = 0 := by
  obtain ⟨k, rfl⟩ := Int.eq_ofNat_of_zero_le h0
  have e : dig (k : Int) = Lib.decDigits k := by unfold dig; rw [if_neg (by omega)]; simp
  rw [e]
  have hc := cnt_all _ (dec_all k)
  have hv : val ((Lib.decDigits k).take (cnt (Lib.decDigits k))) = k := by rw [hc, List.take_length, dec_val]
  have := head_ok (Lib.decDigits k) (head_none_dec k) (by rw [hv]; omega)
  unfold readN readE
  rw [if_pos hc, if_pos hc, this.1, this.2.2, hv]
  exact ⟨rfl, rfl⟩
theorem read_nil : readN [] = 0 ∧ readE [] = 2 := by decide
theorem dig_out (n : Int) (h : n < 0 ∨ 2147483647 < n) : dig n = [] := by unfold dig; rw [if_pos h]

theorem val_pos : ∀ (l : List UInt8), (∀ c ∈ l, isD c = true) → l ≠ [] → l.head? ≠ some 48 → 0 < val l := by
  intro l h hne hh
  match l, hne with
  | c :: r, _ =>
    have h1 := (isD_iff c).1 (h c List.mem_cons_self)
    have h2 : c.toNat ≠ 48 := by
      intro e
      apply hh
      simp
      exact UInt8.toNat_inj.1 e
    have := val_le_append [c] r
    have h3 : val [c] = c.toNat - 48 := by simp [val]
    rw [List.singleton_append] at this
    omega

theorem hexc_back (c : UInt8) (h : isD c = true) : hexc (c.toNat - 48) = c := by
  have h1 := (isD_iff c).1 h
  apply UInt8.toNat_inj.1
  rw [hexc_dig _ (by omega)]; omega

theorem dec_of_val : ∀ (n : Nat) (l : List UInt8), l.length = n → (∀ c ∈ l, isD c = true) → l ≠ [] → (1 < l.length → l.head? ≠ some 48) → Lib.decDigits (val l) = l
  | 0, l, hn, _, hne, _ => absurd (List.eq_nil_of_length_eq_zero hn) hne
  | n + 1, l, hn, hall, hne, hh => by
    have hsplit := List.dropLast_concat_getLast hne
    generalize hl' : l.dropLast = l' at hsplit
    generalize hc' : l.getLast hne = c at hsplit
    have hcd : isD c = true := hall c (by rw [← hsplit]; simp)
    have hcn := (isD_iff c).1 hcd
    have hlen : l'.length = n := by rw [← hl']; simp [hn]
    by_cases h0 : l' = []
    · subst h0
      rw [← hsplit]
      show Lib.decDigits (val [c]) = [c]
      have h3 : val [c] = c.toNat - 48 := by simp [val]
      rw [h3, dec_small _ (by omega), hexc_back c hcd]
    · have hall' : ∀ x ∈ l', isD x = true := fun x hx => hall x (by rw [← hsplit]; simp [hx])
      have hl1 : 0 < l'.length := by
        rcases Nat.eq_zero_or_pos l'.length with h | h
        · exact absurd (List.eq_nil_of_length_eq_zero h) h0
        · exact h
      have hhead : l'.head? ≠ some 48 := by
        have := hh (by omega)
        rw [← hsplit, head_app _ _ h0] at this
        exact this
      have hp := val_pos l' hall' h0 hhead
      have ih := dec_of_val n l' hlen hall' h0 (fun _ => hhead)
      rw [← hsplit, val_snoc, dec_big _ (by omega)]
      rw [show (val l' * 10 + (c.toNat - 48)) / 10 = val l' by omega, show (val l' * 10 + (c.toNat - 48)) % 10 = c.toNat - 48 by omega, ih, hexc_back c hcd]

/-- What is read has these digits. -/
theorem dig_read (l : List UInt8) (h : readE l = 0) : dig (readN l) = l := by
  unfold readE at h
  split at h
  · rename_i hc
    unfold readN
    rw [if_pos hc]
    have hnf : ¬ (cnt l = 0 ∨ (1 < cnt l ∧ l.head? = some 48)) := by
      intro hf
      rw [(head_form l hf).2.2] at h
      omega
    have hv : ¬ 2147483647 < val (l.take (cnt l)) := by
      intro hv
      rw [(head_long l hnf hv).2.2] at h
      omega
    rw [(head_ok l hnf (by omega)).1]
    rw [hc, List.take_length] at hv ⊢
    unfold dig
    rw [if_neg (by omega), Int.toNat_natCast]
    refine dec_of_val _ l rfl (all_cnt l hc) ?_ ?_
    · intro e
      apply hnf
      left; rw [e]; rfl
    · intro h1 h2
      apply hnf
      right; exact ⟨by omega, h2⟩
  · omega

theorem readN_in (l : List UInt8) : 0 ≤ readN l ∧ readN l ≤ 2147483647 := by
  unfold readN headN
  split
  · split
    · omega
    · split <;> omega
  · omega
end Sash.Num
/- The plain mathematics of four hexadecimal digits. No program stands in it. -/
namespace Sash.Num
open Go
/-! Four hexadecimal digits. -/
def hex4 (n : Nat) : List UInt8 := [hexc (n / 4096), hexc (n / 256 % 16), hexc (n / 16 % 16), hexc (n % 16)]
def hexv (c : UInt8) : Nat := if 48 ≤ c.toNat ∧ c.toNat ≤ 57 then c.toNat - 48 else if 97 ≤ c.toNat ∧ c.toNat ≤ 102 then c.toNat - 87 else 16
def rhV (l : List UInt8) : Nat := l.foldl (fun n c => n * 16 + hexv c) 0
def rhOk (l : List UInt8) : Prop := l.length = 4 ∧ ∀ c ∈ l, hexv c < 16
theorem hexv_le (c : UInt8) : hexv c ≤ 16 := by unfold hexv; split; omega; split <;> omega
theorem rhV_snoc (a : List UInt8) (c : UInt8) : rhV (a ++ [c]) = rhV a * 16 + hexv c := by simp [rhV, List.foldl_append]
theorem rhV_take (l : List UInt8) (k : Nat) (h : k < l.length) : rhV (l.take (k + 1)) = rhV (l.take k) * 16 + hexv l[k] := by
  rw [List.take_succ_eq_append_getElem h, rhV_snoc]

theorem hexS_size : hexS.size = 16 := by decide +kernel
theorem hex_idx_fin : ∀ k : Fin 16, hexS[k.val]'(by rw [hexS_size]; exact k.isLt) = hexc k.val := by decide +kernel
theorem hex_idx (k : Nat) (h : k < 16) (h' : k < hexS.size) : hexS[k]'h' = hexc k := hex_idx_fin ⟨k, h⟩
theorem rhV_fold : ∀ (l : List UInt8) (n : Nat), (∀ c ∈ l, hexv c < 16) → l.foldl (fun n c => n * 16 + hexv c) n < (n + 1) * 16 ^ l.length
  | [], n, _ => by simp
  | c :: r, n, h => by
    have h1 := rhV_fold r (n * 16 + hexv c) (fun x hx => h x (List.mem_cons_of_mem _ hx))
    have h2 := h c List.mem_cons_self
    rw [List.foldl_cons, List.length_cons, Nat.pow_succ]
    refine Nat.lt_of_lt_of_le h1 ?_
    have : n * 16 + hexv c + 1 ≤ (n + 1) * 16 := by omega
    calc (n * 16 + hexv c + 1) * 16 ^ r.length ≤ ((n + 1) * 16) * 16 ^ r.length := Nat.mul_le_mul_right _ this
      _ = (n + 1) * (16 ^ r.length * 16) := by rw [Nat.mul_assoc, Nat.mul_comm 16]
theorem rhV_lt (l : List UInt8) (h : ∀ c ∈ l, hexv c < 16) : rhV l < 16 ^ l.length := by
  have := rhV_fold l 0 h
  simpa [rhV] using this
theorem hexc_v_fin : ∀ k : Fin 16, hexv (hexc k.val) = k.val := by decide +kernel
theorem hexc_v (k : Nat) (h : k < 16) : hexv (hexc k) = k := hexc_v_fin ⟨k, h⟩
theorem hex4_ok (n : Nat) (h : n < 65536) : rhOk (hex4 n) ∧ rhV (hex4 n) = n := by
  have e0 := hexc_v (n / 4096) (by omega)
  have e1 := hexc_v (n / 256 % 16) (by omega)
  have e2 := hexc_v (n / 16 % 16) (by omega)
  have e3 := hexc_v (n % 16) (by omega)
  refine ⟨⟨rfl, ?_⟩, ?_⟩
  · intro c hc
    simp only [hex4, List.mem_cons, List.not_mem_nil, or_false] at hc
    rcases hc with rfl | rfl | rfl | rfl <;> omega
  · simp only [hex4, rhV, List.foldl_cons, List.foldl_nil, e0, e1, e2, e3]; omega

end Sash.Num
