/- The plain mathematics of a layout's checksum: the fold, what is put ahead, what is cut. No program stands in it. -/
import Derived.Test.YthhjeiabjmhalaaMath2
namespace Sash.Sum
open Go Sash.Num

def stp (c b : Nat) : Nat := (c / 2 + c % 2 * 32768 + b) % 65536
def sumF (c : Nat) (l : List UInt8) : Nat := l.foldl (fun c b => stp c b.toNat) c

theorem stp_lt (c b : Nat) : stp c b < 65536 := Nat.mod_lt _ (by omega)
theorem sumF_lt : ∀ (l : List UInt8) (c : Nat), c < 65536 → sumF c l < 65536
  | [], _, h => h
  | b :: r, c, _ => sumF_lt r (stp c b.toNat) (stp_lt _ _)
theorem sumF_nil (c : Nat) : sumF c [] = c := rfl
theorem sumF_append (c : Nat) (a b : List UInt8) : sumF c (a ++ b) = sumF (sumF c a) b := by simp [sumF, List.foldl_append]
theorem sumF_snoc (c : Nat) (a : List UInt8) (b : UInt8) : sumF c (a ++ [b]) = stp (sumF c a) b.toNat := by rw [sumF_append]; rfl
theorem sumF_take (c : Nat) (l : List UInt8) (k : Nat) (h : k < l.length) : sumF c (l.take (k + 1)) = stp (sumF c (l.take k)) l[k].toNat := by
  rw [List.take_succ_eq_append_getElem h, sumF_snoc]
theorem bsumF_take (c : Nat) (s : ByteArray) (k : Nat) (h : k < s.size) : sumF c (s.data.toList.take (k + 1)) = stp (sumF c (s.data.toList.take k)) s[k].toNat :=
  sumF_take c s.data.toList k (by simpa using h)
theorem stp_inj (c c' b : Nat) (h : c < 65536) (h' : c' < 65536) (e : stp c b = stp c' b) : c = c' := by
  have e1 : ∀ r r' : Nat, r < 65536 → r' < 65536 → (r + b) % 65536 = (r' + b) % 65536 → r = r' := fun r r' _ _ _ => by omega
  have e2 := e1 (c / 2 + c % 2 * 32768) (c' / 2 + c' % 2 * 32768) (by omega) (by omega) e
  omega
theorem stp_inj2 (c b b' : Nat) (h : b < 256) (h' : b' < 256) (e : stp c b = stp c b') : b = b' := by unfold stp at e; omega
theorem sumF_inj : ∀ (l : List UInt8) (c c' : Nat), c < 65536 → c' < 65536 → sumF c l = sumF c' l → c = c'
  | [], _, _, _, _, e => e
  | b :: r, c, c', h, h', e => stp_inj c c' b.toNat h h' (sumF_inj r _ _ (stp_lt _ _) (stp_lt _ _) e)
/-- Another byte, another sum. -/
theorem sumF_other (c : Nat) (a r : List UInt8) (x y : UInt8) (hne : x ≠ y) : sumF c (a ++ x :: r) ≠ sumF c (a ++ y :: r) := by
  intro e
  rw [sumF_append, sumF_append] at e
  have e2 : sumF (stp (sumF c a) x.toNat) r = sumF (stp (sumF c a) y.toNat) r := e
  have e3 := sumF_inj r _ _ (stp_lt _ _) (stp_lt _ _) e2
  exact hne (UInt8.toNat_inj.1 (stp_inj2 _ _ _ x.toNat_lt y.toNat_lt e3))
theorem sumF_zeros : ∀ n : Nat, sumF 0 (List.replicate n 0) = 0
  | 0 => rfl
  | n + 1 => by
    rw [List.replicate_succ]
    show sumF (stp 0 (0 : UInt8).toNat) (List.replicate n 0) = 0
    have : stp 0 (0 : UInt8).toNat = 0 := by decide
    rw [this, sumF_zeros n]

def putL (l : List UInt8) : List UInt8 := hex4 (sumF 0 l) ++ 44 :: l
theorem putL_len (l : List UInt8) : (putL l).length = l.length + 5 := by simp [putL, hex4]

def cutE (l : List UInt8) : Int :=
  if 65535 < l.length then 3 else if l.length < 5 ∨ l[4]? ≠ some 44 then 2 else if ¬ (∀ c ∈ l.take 4, hexv c < 16) then 2 else if rhV (l.take 4) = sumF 0 (l.drop 5) then 0 else 4
def cutX (l : List UInt8) : List UInt8 := if cutE l = 0 then l.drop 5 else []

theorem cut_long (l : List UInt8) (h : 65535 < l.length) : cutE l = 3 ∧ cutX l = [] := by
  have : cutE l = 3 := by unfold cutE; rw [if_pos h]
  exact ⟨this, by unfold cutX; rw [this]; rfl⟩
theorem cut_form (l : List UInt8) (h : ¬ 65535 < l.length) (h2 : l.length < 5 ∨ l[4]? ≠ some 44) : cutE l = 2 ∧ cutX l = [] := by
  have : cutE l = 2 := by unfold cutE; rw [if_neg h, if_pos h2]
  exact ⟨this, by unfold cutX; rw [this]; rfl⟩
theorem cut_hex (l : List UInt8) (h : ¬ 65535 < l.length) (h2 : ¬ (l.length < 5 ∨ l[4]? ≠ some 44)) (h3 : ¬ (∀ c ∈ l.take 4, hexv c < 16)) : cutE l = 2 ∧ cutX l = [] := by
  have : cutE l = 2 := by unfold cutE; rw [if_neg h, if_neg h2, if_pos h3]
  exact ⟨this, by unfold cutX; rw [this]; rfl⟩
theorem cut_sum (l : List UInt8) (h : ¬ 65535 < l.length) (h2 : ¬ (l.length < 5 ∨ l[4]? ≠ some 44)) (h3 : ∀ c ∈ l.take 4, hexv c < 16) (h4 : rhV (l.take 4) ≠ sumF 0 (l.drop 5)) : cutE l = 4 ∧ cutX l = [] := by
  have : cutE l = 4 := by unfold cutE; rw [if_neg h, if_neg h2, if_neg (not_not_intro h3), if_neg h4]
  exact ⟨this, by unfold cutX; rw [this]; rfl⟩
theorem cut_ok (l : List UInt8) (h : ¬ 65535 < l.length) (h2 : ¬ (l.length < 5 ∨ l[4]? ≠ some 44)) (h3 : ∀ c ∈ l.take 4, hexv c < 16) (h4 : rhV (l.take 4) = sumF 0 (l.drop 5)) : cutE l = 0 ∧ cutX l = l.drop 5 := by
  have : cutE l = 0 := by unfold cutE; rw [if_neg h, if_neg h2, if_neg (not_not_intro h3), if_pos h4]
  exact ⟨this, by unfold cutX; rw [this, if_pos rfl]⟩

theorem hex4_len (n : Nat) : (hex4 n).length = 4 := rfl
theorem ahead_take (n : Nat) (l : List UInt8) : (hex4 n ++ 44 :: l).take 4 = hex4 n := rfl
theorem ahead_drop (n : Nat) (l : List UInt8) : (hex4 n ++ 44 :: l).drop 5 = l := rfl
theorem ahead_at (n : Nat) (l : List UInt8) : (hex4 n ++ 44 :: l)[4]? = some 44 := rfl
/-- A sum's digits, a comma, and a text: cut just if the sum is the text's. -/
theorem cut_ahead (n : Nat) (l : List UInt8) (hn : n < 65536) (hl : l.length ≤ 65530) : (n = sumF 0 l → cutE (hex4 n ++ 44 :: l) = 0 ∧ cutX (hex4 n ++ 44 :: l) = l) ∧ (n ≠ sumF 0 l → cutE (hex4 n ++ 44 :: l) = 4) := by
  have hlen : (hex4 n ++ 44 :: l).length = l.length + 5 := by simp [hex4]
  have h1 : ¬ 65535 < (hex4 n ++ 44 :: l).length := by omega
  have h2 : ¬ ((hex4 n ++ 44 :: l).length < 5 ∨ (hex4 n ++ 44 :: l)[4]? ≠ some 44) := by
    rw [ahead_at]; simp [hex4]
  have h3 : ∀ c ∈ (hex4 n ++ 44 :: l).take 4, hexv c < 16 := by rw [ahead_take]; exact (hex4_ok n hn).1.2
  have hv : rhV ((hex4 n ++ 44 :: l).take 4) = n := by rw [ahead_take]; exact (hex4_ok n hn).2
  constructor
  · intro e
    have := cut_ok _ h1 h2 h3 (by rw [hv, ahead_drop]; exact e)
    rw [ahead_drop] at this
    exact this
  · intro e
    exact (cut_sum _ h1 h2 h3 (by rw [hv, ahead_drop]; exact e)).1
theorem cut_put (l : List UInt8) (hl : l.length ≤ 65530) : cutE (putL l) = 0 ∧ cutX (putL l) = l :=
  (cut_ahead _ l (sumF_lt l 0 (by omega)) hl).1 rfl

theorem hex_back (c : UInt8) (h : hexv c < 16) : hexc (hexv c) = c := by
  have h' : ∀ c : Fin 256, hexv (UInt8.ofNat c.val) < 16 → hexc (hexv (UInt8.ofNat c.val)) = UInt8.ofNat c.val := by decide +kernel
  have := h' ⟨c.toNat, c.toNat_lt⟩
  simp at this
  exact this h
theorem hex4_back : ∀ l : List UInt8, l.length = 4 → (∀ c ∈ l, hexv c < 16) → hex4 (rhV l) = l
  | [a, b, c, d], _, h => by
    have ha := h a (by simp)
    have hb := h b (by simp)
    have hc := h c (by simp)
    have hd := h d (by simp)
    have e : rhV [a, b, c, d] = ((hexv a * 16 + hexv b) * 16 + hexv c) * 16 + hexv d := by simp [rhV]
    rw [e, hex4]
    rw [show (((hexv a * 16 + hexv b) * 16 + hexv c) * 16 + hexv d) / 4096 = hexv a by omega, show (((hexv a * 16 + hexv b) * 16 + hexv c) * 16 + hexv d) / 256 % 16 = hexv b by omega, show (((hexv a * 16 + hexv b) * 16 + hexv c) * 16 + hexv d) / 16 % 16 = hexv c by omega, show (((hexv a * 16 + hexv b) * 16 + hexv c) * 16 + hexv d) % 16 = hexv d by omega, hex_back a ha, hex_back b hb, hex_back c hc, hex_back d hd]
/-- What is cut, put again, is the text. -/
theorem put_cut (l : List UInt8) (h : cutE l = 0) : putL (cutX l) = l := by
  by_cases h1 : 65535 < l.length
  · rw [(cut_long l h1).1] at h; omega
  · by_cases h2 : l.length < 5 ∨ l[4]? ≠ some 44
    · rw [(cut_form l h1 h2).1] at h; omega
    · by_cases h3 : ∀ c ∈ l.take 4, hexv c < 16
      · by_cases h4 : rhV (l.take 4) = sumF 0 (l.drop 5)
        · rw [(cut_ok l h1 h2 h3 h4).2]
          have h5 : 5 ≤ l.length := by
            refine Classical.byContradiction fun hn => h2 (Or.inl (by omega))
          have h6 : l[4]? = some 44 := by
            refine Classical.byContradiction fun hn => h2 (Or.inr hn)
          unfold putL
          rw [← h4, hex4_back _ (by rw [List.length_take]; omega) h3]
          have h7 : l.drop 4 = 44 :: l.drop 5 := by
            rw [List.drop_eq_getElem_cons (by omega)]
            rw [List.getElem?_eq_getElem (by omega)] at h6
            rw [Option.some.inj h6]
          rw [← h7, List.take_append_drop]
        · rw [(cut_sum l h1 h2 h3 h4).1] at h; omega
      · rw [(cut_hex l h1 h2 h3).1] at h; omega

/-- Texts, one behind the other. -/
def flat (xs : List ByteArray) : List UInt8 := xs.flatMap fun s => s.data.toList
theorem flat_take (xs : List ByteArray) (k : Nat) (h : k < xs.length) : flat (xs.take (k + 1)) = flat (xs.take k) ++ xs[k].data.toList := by
  unfold flat
  rw [List.take_succ_eq_append_getElem h, List.flatMap_append, List.flatMap_singleton]
theorem sum_awake : putL [56, 48, 120, 50, 52, 44, 48, 44, 48, 44, 49] = [98, 50, 53, 101, 44, 56, 48, 120, 50, 52, 44, 48, 44, 48, 44, 49] := by decide +kernel
end Sash.Sum
