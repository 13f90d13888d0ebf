/- The plain mathematics of numbers as text: digits that a text begins with, the number that digits tell, hexadecimal digits. No program stands in it. -/
import Derived.Lib.ItoaNum
namespace Sash.Num
open Go

def isD (c : UInt8) : Bool := decide (48 ≤ c.toNat) && decide (c.toNat ≤ 57)
/-- How many digits a text begins with. -/
def cnt : List UInt8 → Nat
  | [] => 0
  | c :: r => if isD c then cnt r + 1 else 0
/-- The number that digits tell. -/
def val (l : List UInt8) : Nat := l.foldl (fun n c => n * 10 + (c.toNat - 48)) 0

def headN (l : List UInt8) : Int :=
  if cnt l = 0 ∨ (1 < cnt l ∧ l.head? = some 48) then 0 else if 2147483647 < val (l.take (cnt l)) then 0 else (val (l.take (cnt l)) : Int)
def headK (l : List UInt8) : Int :=
  if cnt l = 0 ∨ (1 < cnt l ∧ l.head? = some 48) then 0 else if 2147483647 < val (l.take (cnt l)) then 0 else (cnt l : Int)
def headE (l : List UInt8) : Int :=
  if cnt l = 0 ∨ (1 < cnt l ∧ l.head? = some 48) then 2 else if 2147483647 < val (l.take (cnt l)) then 3 else 0
def readN (l : List UInt8) : Int := if cnt l = l.length then headN l else 0
def readE (l : List UInt8) : Int := if cnt l = l.length then headE l else 2

theorem isD_iff (c : UInt8) : isD c = true ↔ 48 ≤ c.toNat ∧ c.toNat ≤ 57 := by simp [isD]

theorem cnt_le (l : List UInt8) : cnt l ≤ l.length := by
  induction l with
  | nil => simp [cnt]
  | cons c r ih => simp only [cnt]; split <;> simp <;> omega

theorem cnt_yes : ∀ (l : List UInt8) (k : Nat) (h : k < l.length), k ≤ cnt l → isD l[k] = true → k + 1 ≤ cnt l
  | [], k, h, _, _ => by simp at h
  | c :: r, 0, _, _, hd => by simp at hd; simp [cnt, hd]
  | c :: r, k + 1, h, hk, hd => by
    by_cases hc : isD c
    · simp [cnt, hc] at hk ⊢
      exact cnt_yes r k (by simpa using h) hk (by simpa using hd)
    · simp [cnt, hc] at hk

theorem cnt_no : ∀ (l : List UInt8) (k : Nat) (h : k < l.length), k ≤ cnt l → isD l[k] = false → cnt l = k
  | [], k, h, _, _ => by simp at h
  | c :: r, 0, _, _, hd => by simp at hd; simp [cnt, hd]
  | c :: r, k + 1, h, hk, hd => by
    by_cases hc : isD c
    · simp [cnt, hc] at hk ⊢
      exact cnt_no r k (by simpa using h) hk (by simpa using hd)
    · simp [cnt, hc] at hk

theorem cnt_isD : ∀ (l : List UInt8) (k : Nat) (h : k < l.length), k < cnt l → isD l[k] = true
  | [], k, h, _ => by simp at h
  | c :: r, 0, _, hk => by
    by_cases hc : isD c
    · simpa using hc
    · simp [cnt, hc] at hk
  | c :: r, k + 1, h, hk => by
    by_cases hc : isD c
    · simp [cnt, hc] at hk
      simpa using cnt_isD r k (by simpa using h) hk
    · simp [cnt, hc] at hk

theorem cnt_take : ∀ (l : List UInt8) (k : Nat), k ≤ cnt l → cnt (l.take k) = k
  | _, 0, _ => by simp [cnt]
  | [], k + 1, h => by simp [cnt] at h
  | c :: r, k + 1, h => by
    by_cases hc : isD c
    · simp [cnt, hc] at h ⊢
      exact cnt_take r k h
    · simp [cnt, hc] at h

theorem val_append (a b : List UInt8) : val (a ++ b) = b.foldl (fun n c => n * 10 + (c.toNat - 48)) (val a) := by
  simp [val, List.foldl_append]

theorem val_snoc (a : List UInt8) (c : UInt8) : val (a ++ [c]) = val a * 10 + (c.toNat - 48) := by
  rw [val_append]; rfl

theorem val_le_append (a b : List UInt8) : val a ≤ val (a ++ b) := by
  rw [val_append]
  suffices h : ∀ (b : List UInt8) (n : Nat), n ≤ b.foldl (fun n c => n * 10 + (c.toNat - 48)) n from h b _
  intro b
  induction b with
  | nil => intro n; simp
  | cons c r ih => intro n; simp only [List.foldl_cons]; exact Nat.le_trans (by omega) (ih _)

theorem val_take_le (l : List UInt8) (k : Nat) : val (l.take k) ≤ val l := by
  have := val_le_append (l.take k) (l.drop k)
  rwa [List.take_append_drop] at this

theorem val_take_mono (l : List UInt8) (j k : Nat) (h : j ≤ k) : val (l.take j) ≤ val (l.take k) := by
  have := val_take_le (l.take k) j
  rwa [List.take_take, Nat.min_eq_left h] at this

theorem val_take_succ (l : List UInt8) (k : Nat) (h : k < l.length) : val (l.take (k + 1)) = val (l.take k) * 10 + (l[k].toNat - 48) := by
  rw [List.take_succ_eq_append_getElem h, val_snoc]

/-! The same over a string's bytes. -/
theorem bcnt_yes (s : ByteArray) (k : Nat) (h : k < s.size) (hk : k ≤ cnt s.data.toList) (h1 : 48 ≤ s[k].toNat) (h2 : s[k].toNat ≤ 57) : k + 1 ≤ cnt s.data.toList :=
  cnt_yes s.data.toList k (by simpa using h) hk ((isD_iff _).2 ⟨h1, h2⟩)
theorem bcnt_no (s : ByteArray) (k : Nat) (h : k < s.size) (hk : k ≤ cnt s.data.toList) (h1 : s[k].toNat < 48 ∨ 57 < s[k].toNat) : cnt s.data.toList = k := by
  refine cnt_no s.data.toList k (by simpa using h) hk ?_
  have hn : ¬ (isD s[k] = true) := by rw [isD_iff]; omega
  exact Bool.eq_false_iff.2 hn
theorem bcnt_le (s : ByteArray) : cnt s.data.toList ≤ s.size := by simpa using cnt_le s.data.toList
theorem bcnt_isD (s : ByteArray) (k : Nat) (h : k < s.size) (hk : k < cnt s.data.toList) : 48 ≤ s[k].toNat ∧ s[k].toNat ≤ 57 :=
  (isD_iff _).1 (cnt_isD s.data.toList k (by simpa using h) hk)
theorem bval_succ (s : ByteArray) (k : Nat) (h : k < s.size) : val (s.data.toList.take (k + 1)) = val (s.data.toList.take k) * 10 + (s[k].toNat - 48) :=
  val_take_succ s.data.toList k (by simpa using h)
theorem bhead (s : ByteArray) (h : 0 < s.size) : (s.data.toList.head? = some 48) ↔ s[0].toNat = 48 := by
  rw [List.head?_eq_getElem?, List.getElem?_eq_getElem (by simpa using h)]
  show some s[0] = some 48 ↔ _
  constructor
  · intro e; rw [Option.some.inj e]; rfl
  · intro e; congr 1; exact UInt8.toNat_inj.1 e

theorem head_form (l : List UInt8) (h : cnt l = 0 ∨ (1 < cnt l ∧ l.head? = some 48)) : headN l = 0 ∧ headK l = 0 ∧ headE l = 2 := by
  simp only [headN, headK, headE, if_pos h]; simp
theorem head_long (l : List UInt8) (h : ¬ (cnt l = 0 ∨ (1 < cnt l ∧ l.head? = some 48))) (hv : 2147483647 < val (l.take (cnt l))) : headN l = 0 ∧ headK l = 0 ∧ headE l = 3 := by
  simp only [headN, headK, headE, if_neg h, if_pos hv]; simp
theorem head_ok (l : List UInt8) (h : ¬ (cnt l = 0 ∨ (1 < cnt l ∧ l.head? = some 48))) (hv : val (l.take (cnt l)) ≤ 2147483647) : headN l = val (l.take (cnt l)) ∧ headK l = cnt l ∧ headE l = 0 := by
  simp only [headN, headK, headE, if_neg h, if_neg (Nat.not_lt.2 hv)]; simp

/-! Digits of a number. -/
def dig (n : Int) : List UInt8 := if n < 0 ∨ 2147483647 < n then [] else Lib.decDigits n.toNat
def hexc (k : Nat) : UInt8 := if k < 10 then UInt8.ofNat (48 + k) else UInt8.ofNat (87 + k)
def hexS : ByteArray := ⟨#[48, 49, 50, 51, 52, 53, 54, 55, 56, 57, 97, 98, 99, 100, 101, 102]⟩
theorem hex_ext_fin : ∀ k : Fin 16, hexS.extract k.val (k.val + 1) = ⟨#[hexc k.val]⟩ := by decide +kernel
theorem hex_ext (k : Nat) (h : k < 16) : hexS.extract k (k + 1) = ⟨#[hexc k]⟩ := hex_ext_fin ⟨k, h⟩
theorem dec_small (u : Nat) (h : u < 10) : Lib.decDigits u = [hexc u] := by
  rw [Lib.decDigits, dif_pos h, hexc, if_pos h]
theorem dec_big (u : Nat) (h : ¬ u < 10) : Lib.decDigits u = Lib.decDigits (u / 10) ++ [hexc (u % 10)] := by
  rw [Lib.decDigits, dif_neg h, hexc, if_pos (by omega)]
/-- What the document's Digits keeps: what is still to be written, and what is. -/
def digInv (n m : Nat) (l : List UInt8) : Prop := (if m < 10 then [] else Lib.decDigits (m / 10)) ++ l = Lib.decDigits n
theorem digInv_start (n : Nat) : digInv n n [hexc (n % 10)] := by
  unfold digInv
  by_cases h : n < 10
  · rw [if_pos h, dec_small n h, Nat.mod_eq_of_lt h]; rfl
  · rw [if_neg h, dec_big n h]
theorem digInv_step (n m : Nat) (l : List UInt8) (hm : ¬ m < 10) (h : digInv n m l) : digInv n (m / 10) (hexc (m / 10 % 10) :: l) := by
  unfold digInv at *
  rw [if_neg hm] at h
  rw [← h]
  by_cases h2 : m / 10 < 10
  · rw [if_pos h2, dec_small _ h2, Nat.mod_eq_of_lt h2]; rfl
  · rw [if_neg h2, dec_big (m / 10) h2, List.append_assoc]; rfl
theorem digInv_end (n m : Nat) (l : List UInt8) (hm : m < 10) (h : digInv n m l) : l = Lib.decDigits n := by
  unfold digInv at h; rw [if_pos hm] at h; exact h
theorem digInv_len (n m : Nat) (l : List UInt8) (h : digInv n m l) : l.length ≤ (Lib.decDigits n).length := by
  rw [← h, List.length_append]; omega
theorem dec_len : ∀ (k u : Nat), u < 10 ^ (k + 1) → (Lib.decDigits u).length ≤ k + 1
  | 0, u, h => by rw [dec_small u (by omega)]; simp
  | k + 1, u, h => by
    by_cases h10 : u < 10
    · rw [dec_small u h10]; simp
    · rw [dec_big u h10, List.length_append]
      have := dec_len k (u / 10) (by rw [Nat.pow_succ] at h; omega)
      simp; omega
theorem dig_len (n : Int) : (dig n).length ≤ 10 := by
  unfold dig
  split
  · simp
  · exact dec_len 9 _ (by omega)

/-- Texts, with commas. -/
def joinD : List Int → List UInt8
  | [] => []
  | [x] => dig x
  | x :: r => dig x ++ (44 :: joinD r)
theorem joinD_snoc : ∀ (l : List Int) (x : Int), l ≠ [] → joinD (l ++ [x]) = joinD l ++ (44 :: dig x)
  | [], _, h => absurd rfl h
  | [a], x, _ => rfl
  | a :: b :: r, x, _ => by
    have := joinD_snoc (b :: r) x (by simp)
    simp only [List.cons_append] at this ⊢
    simp only [joinD, List.append_assoc, List.cons_append] at this ⊢
    rw [this]
theorem join_eq : ∀ l : List Int, ([44] : List UInt8).intercalate (l.map dig) = joinD l
  | [] => rfl
  | [a] => by simp [List.intercalate, joinD]
  | a :: b :: r => by
    have := join_eq (b :: r)
    simp only [List.map_cons, List.intercalate, joinD, List.intersperse_cons_cons, List.flatten_cons] at this ⊢
    rw [this]; rfl
theorem joinD_len : ∀ l : List Int, (joinD l).length ≤ 11 * l.length
  | [] => by simp [joinD]
  | [a] => by have := dig_len a; simp [joinD]; omega
  | a :: b :: r => by
    have := joinD_len (b :: r)
    have := dig_len a
    simp only [joinD, List.length_append, List.length_cons] at *
    omega

end Sash.Num
