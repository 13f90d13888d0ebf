/- There and back: a number's digits are read as it, and what is read has these digits. No program stands in it. -/
import Derived.Test.YtejdebckloehmaaDoorMath
namespace Sash.Num
open Go

theorem hexc_dig_fin : ∀ k : Fin 10, (hexc k.val).toNat = 48 + k.val := by decide +kernel
theorem hexc_dig (k : Nat) (h : k < 10) : (hexc k).toNat = 48 + k := hexc_dig_fin ⟨k, h⟩

theorem head_app (a b : List UInt8) (h : a ≠ []) : (a ++ b).head? = a.head? := by
  cases a with
  | nil => exact absurd rfl h
  | cons x r => rfl
theorem cnt_all : ∀ l : List UInt8, (∀ c ∈ l, isD c = true) → cnt l = l.length
  | [], _ => rfl
  | c :: r, h => by
    have h1 := h c List.mem_cons_self
    have h2 := cnt_all r (fun x hx => h x (List.mem_cons_of_mem _ hx))
    simp [cnt, h1, h2]

theorem all_cnt (l : List UInt8) (h : cnt l = l.length) : ∀ c ∈ l, isD c = true := by
  intro c hc
  obtain ⟨k, hk, rfl⟩ := List.getElem_of_mem hc
  exact cnt_isD l k hk (by omega)

theorem val_hexc (a : List UInt8) (k : Nat) (h : k < 10) : val (a ++ [hexc k]) = val a * 10 + k := by
  rw [val_snoc, hexc_dig k h]; omega

theorem dec_facts : ∀ (fuel u : Nat), u < fuel → val (Lib.decDigits u) = u ∧ (∀ c ∈ Lib.decDigits u, isD c = true) ∧ Lib.decDigits u ≠ [] ∧ (10 ≤ u → (Lib.decDigits u).head? ≠ some 48) ∧ (0 < u → (Lib.decDigits u).head? ≠ some 48)
  | 0, u, h => by omega
  | fuel + 1, u, h => by
    by_cases hu : u < 10
    · rw [dec_small u hu]
      have e := hexc_dig u hu
      refine ⟨?_, ?_, by simp, by omega, ?_⟩
      · have := val_hexc [] u hu; simpa [val] using this
      · intro c hc
        rw [List.mem_singleton] at hc
        subst hc
        rw [isD_iff, e]; omega
      · intro h0 hh
        simp at hh
        rw [hh] at e
        have : (48 : UInt8).toNat = 48 := rfl
        omega
    · obtain ⟨i1, i2, i3, _, i5⟩ := dec_facts fuel (u / 10) (by omega)
      rw [dec_big u hu]
      have e := hexc_dig (u % 10) (by omega)
      have hh : (Lib.decDigits (u / 10) ++ [hexc (u % 10)]).head? ≠ some 48 := by
        rw [head_app _ _ i3]; exact i5 (by omega)
      refine ⟨?_, ?_, by simp, fun _ => hh, fun _ => hh⟩
      · rw [val_hexc _ _ (by omega), i1]; omega
      · intro c hc
        rw [List.mem_append, List.mem_singleton] at hc
        rcases hc with hc | rfl
        · exact i2 c hc
        · rw [isD_iff, e]; omega

theorem dec_val (u : Nat) : val (Lib.decDigits u) = u := (dec_facts (u + 1) u (by omega)).1
theorem dec_all (u : Nat) : ∀ c ∈ Lib.decDigits u, isD c = true := (dec_facts (u + 1) u (by omega)).2.1
theorem dec_ne (u : Nat) : Lib.decDigits u ≠ [] := (dec_facts (u + 1) u (by omega)).2.2.1
theorem dec_head (u : Nat) (h : 10 ≤ u) : (Lib.decDigits u).head? ≠ some 48 := (dec_facts (u + 1) u (by omega)).2.2.2.1 h

theorem head_none_dec (u : Nat) : ¬ (cnt (Lib.decDigits u) = 0 ∨ (1 < cnt (Lib.decDigits u) ∧ (Lib.decDigits u).head? = some 48)) := by
  rw [cnt_all _ (dec_all u)]
  rintro (h | ⟨h, h2⟩)
  · exact dec_ne u (List.eq_nil_of_length_eq_zero h)
  · by_cases hu : u < 10
    · rw [dec_small u hu] at h; simp at h
    · exact dec_head u (by omega) h2

/-- A number's digits are read as it. -/
theorem read_dig (n : Int) (h0 : 0 ≤ n) (h1 : n ≤ 2147483647) : readN (dig n) = n ∧ readE (dig n) = 0 := by
  obtain ⟨k, rfl⟩ := Int.eq_ofNat_of_zero_le h0
  have e : dig (k : Int) = Lib.decDigits k := by unfold dig; rw [if_neg (by omega)]; simp
  rw [e]
  have hc := cnt_all _ (dec_all k)
  have hv : val ((Lib.decDigits k).take (cnt (Lib.decDigits k))) = k := by rw [hc, List.take_length, dec_val]
  have := head_ok (Lib.decDigits k) (head_none_dec k) (by rw [hv]; omega)
  unfold readN readE
  rw [if_pos hc, if_pos hc, this.1, this.2.2, hv]
  exact ⟨rfl, rfl⟩
theorem read_nil : readN [] = 0 ∧ readE [] = 2 := by decide
theorem dig_out (n : Int) (h : n < 0 ∨ 2147483647 < n) : dig n = [] := by unfold dig; rw [if_pos h]

theorem val_pos : ∀ (l : List UInt8), (∀ c ∈ l, isD c = true) → l ≠ [] → l.head? ≠ some 48 → 0 < val l := by
  intro l h hne hh
  match l, hne with
  | c :: r, _ =>
    have h1 := (isD_iff c).1 (h c List.mem_cons_self)
    have h2 : c.toNat ≠ 48 := by
      intro e
      apply hh
      simp
      exact UInt8.toNat_inj.1 e
    have := val_le_append [c] r
    have h3 : val [c] = c.toNat - 48 := by simp [val]
    rw [List.singleton_append] at this
    omega

theorem hexc_back (c : UInt8) (h : isD c = true) : hexc (c.toNat - 48) = c := by
  have h1 := (isD_iff c).1 h
  apply UInt8.toNat_inj.1
  rw [hexc_dig _ (by omega)]; omega

theorem dec_of_val : ∀ (n : Nat) (l : List UInt8), l.length = n → (∀ c ∈ l, isD c = true) → l ≠ [] → (1 < l.length → l.head? ≠ some 48) → Lib.decDigits (val l) = l
  | 0, l, hn, _, hne, _ => absurd (List.eq_nil_of_length_eq_zero hn) hne
  | n + 1, l, hn, hall, hne, hh => by
    have hsplit := List.dropLast_concat_getLast hne
    generalize hl' : l.dropLast = l' at hsplit
    generalize hc' : l.getLast hne = c at hsplit
    have hcd : isD c = true := hall c (by rw [← hsplit]; simp)
    have hcn := (isD_iff c).1 hcd
    have hlen : l'.length = n := by rw [← hl']; simp [hn]
    by_cases h0 : l' = []
    · subst h0
      rw [← hsplit]
      show Lib.decDigits (val [c]) = [c]
      have h3 : val [c] = c.toNat - 48 := by simp [val]
      rw [h3, dec_small _ (by omega), hexc_back c hcd]
    · have hall' : ∀ x ∈ l', isD x = true := fun x hx => hall x (by rw [← hsplit]; simp [hx])
      have hl1 : 0 < l'.length := by
        rcases Nat.eq_zero_or_pos l'.length with h | h
        · exact absurd (List.eq_nil_of_length_eq_zero h) h0
        · exact h
      have hhead : l'.head? ≠ some 48 := by
        have := hh (by omega)
        rw [← hsplit, head_app _ _ h0] at this
        exact this
      have hp := val_pos l' hall' h0 hhead
      have ih := dec_of_val n l' hlen hall' h0 (fun _ => hhead)
      rw [← hsplit, val_snoc, dec_big _ (by omega)]
      rw [show (val l' * 10 + (c.toNat - 48)) / 10 = val l' by omega, show (val l' * 10 + (c.toNat - 48)) % 10 = c.toNat - 48 by omega, ih, hexc_back c hcd]

/-- What is read has these digits. -/
theorem dig_read (l : List UInt8) (h : readE l = 0) : dig (readN l) = l := by
  unfold readE at h
  split at h
  · rename_i hc
    unfold readN
    rw [if_pos hc]
    have hnf : ¬ (cnt l = 0 ∨ (1 < cnt l ∧ l.head? = some 48)) := by
      intro hf
      rw [(head_form l hf).2.2] at h
      omega
    have hv : ¬ 2147483647 < val (l.take (cnt l)) := by
      intro hv
      rw [(head_long l hnf hv).2.2] at h
      omega
    rw [(head_ok l hnf (by omega)).1]
    rw [hc, List.take_length] at hv ⊢
    unfold dig
    rw [if_neg (by omega), Int.toNat_natCast]
    refine dec_of_val _ l rfl (all_cnt l hc) ?_ ?_
    · intro e
      apply hnf
      left; rw [e]; rfl
    · intro h1 h2
      apply hnf
      right; exact ⟨by omega, h2⟩
  · omega

theorem readN_in (l : List UInt8) : 0 ≤ readN l ∧ readN l ≤ 2147483647 := by
  unfold readN headN
  split
  · split
    · omega
    · split <;> omega
  · omega
end Sash.Num
