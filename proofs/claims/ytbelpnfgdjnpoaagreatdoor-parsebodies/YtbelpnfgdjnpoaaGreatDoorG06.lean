/- Texts of this seat, 3 in one file. -/
import Derived.Test.YtbelpnfgdjnpoaaGreatDoorG05
import Derived.Test.YtbelpnfgdjnpoaaGreatDoorG03
/- The plain mathematics of a layout's checksum: the fold, what is put ahead, what is cut. No program stands in it. -/
namespace Sash.Sum
open Go Sash.Num

def stp (c b : Nat) : Nat := (c / 2 + c % 2 * 32768 + b) % 65536
def sumF (c : Nat) (l : List UInt8) : Nat := l.foldl (fun c b => stp c b.toNat) c

theorem stp_lt (c b : Nat) : stp c b < 65536 := Nat.mod_lt _ (by omega)
theorem sumF_lt : ∀ (l : List UInt8) (c : Nat), c < 65536 → sumF c l < 65536
  | [], _, h => h
  | b :: r, c, _ => sumF_lt r (stp c b.toNat) (stp_lt _ _)
theorem sumF_nil (c : Nat) : sumF c [] = c := rfl
theorem sumF_append (c : Nat) (a b : List UInt8) : sumF c (a ++ b) = sumF (sumF c a) b := by simp [sumF, List.foldl_append]
theorem sumF_snoc (c : Nat) (a : List UInt8) (b : UInt8) : sumF c (a ++ [b]) = stp (sumF c a) b.toNat := by rw [sumF_append]; rfl
theorem sumF_take (c : Nat) (l : List UInt8) (k : Nat) (h : k < l.length) : sumF c (l.take (k + 1)) = stp (sumF c (l.take k)) l[k].toNat := by
  rw [List.take_succ_eq_append_getElem h, sumF_snoc]
theorem bsumF_take (c : Nat) (s : ByteArray) (k : Nat) (h : k < s.size) : sumF c (s.data.toList.take (k + 1)) = stp (sumF c (s.data.toList.take k)) s[k].toNat :=
  sumF_take c s.data.toList k (by simpa using h)
theorem stp_inj (c c' b : Nat) (h : c < 65536) (h' : c' < 65536) (e : stp c b = stp c' b) : c = c' := by
  have e1 : ∀ r r' : Nat, r < 65536 → r' < 65536 → (r + b) % 65536 = (r' + b) % 65536 → r = r' := fun r r' _ _ _ => by omega
  have e2 := e1 (c / 2 + c % 2 * 32768) (c' / 2 + c' % 2 * 32768) (by omega) (by omega) e
  omega
theorem stp_inj2 (c b b' : Nat) (h : b < 256) (h' : b' < 256) (e : stp c b = stp c b') : b = b' := by unfold stp at e; omega
theorem sumF_inj : ∀ (l : List UInt8) (c c' : Nat), c < 65536 → c' < 65536 → sumF c l = sumF c' l → c = c'
  | [], _, _, _, _, e => e
  | b :: r, c, c', h, h', e => stp_inj c c' b.toNat h h' (sumF_inj r _ _ (stp_lt _ _) (stp_lt _ _) e)
/-- Another byte, another sum. -/
theorem sumF_other (c : Nat) (a r : List UInt8) (x y : UInt8) (hne : x ≠ y) : sumF c (a ++ x :: r) ≠ sumF c (a ++ y :: r) := by
  intro e
  rw [sumF_append, sumF_append] at e
  have e2 : sumF (stp (sumF c a) x.toNat) r = sumF (stp (sumF c a) y.toNat) r := e
  have e3 := sumF_inj r _ _ (stp_lt _ _) (stp_lt _ _) e2
  exact hne (UInt8.toNat_inj.1 (stp_inj2 _ _ _ x.toNat_lt y.toNat_lt e3))
theorem sumF_zeros : ∀ n : Nat, sumF 0 (List.replicate n 0) = 0
  | 0 => rfl
  | n + 1 => by
    rw [List.replicate_succ]
    show sumF (stp 0 (0 : UInt8).toNat) (List.replicate n 0) = 0
    have : stp 0 (0 : UInt8).toNat = 0 := by decide
    rw [this, sumF_zeros n]

def putL (l : List UInt8) : List UInt8 := hex4 (sumF 0 l) ++ 44 :: l
theorem putL_len (l : List UInt8) : (putL l).length = l.length + 5 := by simp [putL, hex4]

def cutE (l : List UInt8) : Int :=
  if 65535 < l.length then 3 else if l.length < 5 ∨ l[4]? ≠ some 44 then 2 else if ¬ (∀ c ∈ l.take 4, hexv c < 16) then 2 else if rhV (l.take 4) = sumF 0 (l.drop 5) then 0 else 4
def cutX (l : List UInt8) : List UInt8 := if cutE l = 0 then l.drop 5 else []

theorem cut_long (l : List UInt8) (h : 65535 < l.length) : cutE l = 3 ∧ cutX l = [] := by
  have : cutE l = 3 := by unfold cutE; rw [if_pos h]
  exact ⟨this, by unfold cutX; rw [this]; rfl⟩
theorem cut_form (l : List UInt8) (h : ¬ 65535 < l.length) (h2 : l.length < 5 ∨ l[4]? ≠ some 44) : cutE l = 2 ∧ cutX l = [] := by
  have : cutE l = 2 := by unfold cutE; rw [if_neg h, if_pos h2]
  exact ⟨this, by unfold cutX; rw [this]; rfl⟩
theorem cut_hex (l : List UInt8) (h : ¬ 65535 < l.length) (h2 : ¬ (l.length < 5 ∨ l[4]? ≠ some 44)) (h3 : ¬ (∀ c ∈ l.take 4, hexv c < 16)) : cutE l = 2 ∧ cutX l = [] := by
  have : cutE l = 2 := by unfold cutE; rw [if_neg h, if_neg h2, if_pos h3]
  exact ⟨this, by unfold cutX; rw [this]; rfl⟩
theorem cut_sum (l : List UInt8) (h : ¬ 65535 < l.length) (h2 : ¬ (l.length < 5 ∨ l[4]? ≠ some 44)) (h3 : ∀ c ∈ l.take 4, hexv c < 16) (h4 : rhV (l.take 4) ≠ sumF 0 (l.drop 5)) : cutE l = 4 ∧ cutX l = [] := by
  have : cutE l = 4 := by unfold cutE; rw [if_neg h, if_neg h2, if_neg (not_not_intro h3), if_neg h4]
  exact ⟨this, by unfold cutX; rw [this]; rfl⟩
theorem cut_ok (l : List UInt8) (h : ¬ 65535 < l.length) (h2 : ¬ (l.length < 5 ∨ l[4]? ≠ some 44)) (h3 : ∀ c ∈ l.take 4, hexv c < 16) (h4 : rhV (l.take 4) = sumF 0 (l.drop 5)) : cutE l = 0 ∧ cutX l = l.drop 5 := by
  have : cutE l = 0 := by unfold cutE; rw [if_neg h, if_neg h2, if_neg (not_not_intro h3), if_pos h4]
  exact ⟨this, by unfold cutX; rw [this, if_pos rfl]⟩

theorem hex4_len (n : Nat) : (hex4 n).length = 4 := rfl
theorem ahead_take (n : Nat) (l : List UInt8) : (hex4 n ++ 44 :: l).take 4 = hex4 n := rfl
theorem ahead_drop (n : Nat) (l : List UInt8) : (hex4 n ++ 44 :: l).drop 5 = l := rfl
theorem ahead_at (n : Nat) (l : List UInt8) : (hex4 n ++ 44 :: l)[4]? = some 44 := rfl
/-- A sum's digits, a comma, and a text: cut just if the sum is the text's. -/
theorem cut_ahead (n : Nat) (l : List UInt8) (hn : n < 65536) (hl : l.length ≤ 65530) : (n = sumF 0 l → cutE (hex4 n ++ 44 :: l) = 0 ∧ cutX (hex4 n ++ 44 :: l) = l) ∧ (n ≠ sumF 0 l → cutE (hex4 n ++ 44 :: l) = 4) := by
  have hlen : (hex4 n ++ 44 :: l).length = l.length + 5 := by simp [hex4]
  have h1 : ¬ 65535 < (hex4 n ++ 44 :: l).length := by omega
  have h2 : ¬ ((hex4 n ++ 44 :: l).length < 5 ∨ (hex4 n ++ 44 :: l)[4]? ≠ some 44) := by
    rw [ahead_at]; simp [hex4]
  have h3 : ∀ c ∈ (hex4 n ++ 44 :: l).take 4, hexv c < 16 := by rw [ahead_take]; exact (hex4_ok n hn).1.2
  have hv : rhV ((hex4 n ++ 44 :: l).take 4) = n := by rw [ahead_take]; exact (hex4_ok n hn).2
  constructor
  · intro e
    have := cut_ok _ h1 h2 h3 (by rw [hv, ahead_drop]; exact e)
    rw [ahead_drop] at this
    exact this
  · intro e
    exact (cut_sum _ h1 h2 h3 (by rw [hv, ahead_drop]; exact e)).1
theorem cut_put (l : List UInt8) (hl : l.length ≤ 65530) : cutE (putL l) = 0 ∧ cutX (putL l) = l :=
  (cut_ahead _ l (sumF_lt l 0 (by omega)) hl).1 rfl

theorem hex_back (c : UInt8) (h : hexv c < 16) : hexc (hexv c) = c := by
  have h' : ∀ c : Fin 256, hexv (UInt8.ofNat c.val) < 16 → hexc (hexv (UInt8.ofNat c.val)) = UInt8.ofNat c.val := by decide +kernel
  have := h' ⟨c.toNat, c.toNat_lt⟩
  simp at this
  exact this h
theorem hex4_back : ∀ l : List UInt8, l.length = 4 → (∀ c ∈ l, hexv c < 16) → hex4 (rhV l) = l
  | [a, b, c, d], _, h => by
    have ha := h a (by simp)
    have hb := h b (by simp)
    have hc := h c (by simp)
    have hd := h d (by simp)
    have e : rhV [a, b, c, d] = ((hexv a * 16 + hexv b) * 16 + hexv c) * 16 + hexv d := by simp [rhV]
    rw [e, hex4]
    rw [show (((hexv a * 16 + hexv b) * 16 + hexv c) * 16 + hexv d) / 4096 = hexv a by omega, show (((hexv a * 16 + hexv b) * 16 + hexv c) * 16 + hexv d) / 256 % 16 = hexv b by omega, show (((hexv a * 16 + hexv b) * 16 + hexv c) * 16 + hexv d) / 16 % 16 = hexv c by omega, show (((hexv a * 16 + hexv b) * 16 + hexv c) * 16 + hexv d) % 16 = hexv d by omega, hex_back a ha, hex_back b hb, hex_back c hc, hex_back d hd]
/-- What is cut, put again, is the text. -/
theorem put_cut (l : List UInt8) (h : cutE l = 0) : putL (cutX l) = l := by
  by_cases h1 : 65535 < l.length
  · rw [(cut_long l h1).1] at h; omega
  · by_cases h2 : l.length < 5 ∨ l[4]? ≠ some 44
    · rw [(cut_form l h1 h2).1] at h; omega
    · by_cases h3 : ∀ c ∈ l.take 4, hexv c < 16
      · by_cases h4 : rhV (l.take 4) = sumF 0 (l.drop 5)
        · rw [(cut_ok l h1 h2 h3 h4).2]
          have h5 : 5 ≤ l.length := by
            refine Classical.byContradiction fun hn => h2 (Or.inl (by omega))
          have h6 : l[4]? = some 44 := by
            refine Classical.byContradiction fun hn => h2 (Or.inr hn)
          unfold putL
          rw [← h4, hex4_back _ (by rw [List.length_take]; omega) h3]
          have h7 : l.drop 4 = 44 :: l.drop 5 := by
            rw [List.drop_eq_getElem_cons (by omega)]
            rw [List.getElem?_eq_getElem (by omega)] at h6
            rw [Option.some.inj h6]
          rw [← h7, List.take_append_drop]
        · rw [(cut_sum l h1 h2 h3 h4).1] at h; omega
      · rw [(cut_hex l h1 h2 h3).1] at h; omega

/-- Texts, one behind the other. -/
def flat (xs : List ByteArray) : List UInt8 := xs.flatMap fun s => s.data.toList
theorem flat_take (xs : List ByteArray) (k : Nat) (h : k < xs.length) : flat (xs.take (k + 1)) = flat (xs.take k) ++ xs[k].data.toList := by
  unfold flat
  rw [List.take_succ_eq_append_getElem h, List.flatMap_append, List.flatMap_singleton]
theorem sum_awake : putL [56, 48, 120, 50, 52, 44, 48, 44, 48, 44, 49] = [98, 50, 53, 101, 44, 56, 48, 120, 50, 52, 44, 48, 44, 48, 44, 49] := by decide +kernel
end Sash.Sum
/- A tree's body, as bytes; unlike trees have unlike ones. No walk. -/
namespace Go.Proofs.YtbelpnfgdjnpoaaGreatDoor
open Sash.Num
open Sash.Sum (putL putL_len)

/-- A rectangle's text. -/
def headL (r : R) : List UInt8 := dig r.w ++ 120 :: (dig r.h ++ 44 :: (dig r.x ++ 44 :: dig r.y))
mutual
def bodyT : T → List UInt8
  | .node k r i l => headL r ++ (if k = 1 then 44 :: dig i else if k = 2 then 123 :: (bodyK l ++ [125]) else 91 :: (bodyK l ++ [93]))
/-- Kids, with a comma between one and the next. -/
def bodyK : List T → List UInt8
  | [] => []
  | t :: l => bodyT t ++ bodyR l
/-- Kids, each with a comma ahead. -/
def bodyR : List T → List UInt8
  | [] => []
  | t :: l => 44 :: (bodyT t ++ bodyR l)
end
theorem bodyT_eq (t : T) : bodyT t = headL t.r ++ (if t.k = 1 then 44 :: dig t.id else if t.k = 2 then 123 :: (bodyK t.kids ++ [125]) else 91 :: (bodyK t.kids ++ [93])) := by cases t; rw [bodyT]; rfl
theorem bodyR_append (l m : List T) : bodyR (l ++ m) = bodyR l ++ bodyR m := by
  induction l with
  | nil => simp [bodyR]
  | cons t l ih => simp only [List.cons_append, bodyR, ih, List.append_assoc]
theorem bodyK_snoc (l : List T) (t : T) (h : l ≠ []) : bodyK (l ++ [t]) = bodyK l ++ 44 :: bodyT t := by
  cases l with
  | nil => exact absurd rfl h
  | cons u l =>
    simp only [List.cons_append, bodyK]
    rw [bodyR_append]
    simp [bodyR]
theorem bodyK_one (t : T) : bodyK [t] = bodyT t := by simp [bodyK, bodyR]
/-- One kid more. -/
theorem bodyK_take {l : List T} {k : Nat} {t : T} (h : l[k]? = some t) : bodyK (l.take (k + 1)) = (if k = 0 then [] else bodyK (l.take k) ++ [44]) ++ bodyT t := by
  rw [List.take_add_one, h]
  by_cases hk : k = 0
  · subst hk; simp [bodyK_one]
  · rw [if_neg hk]
    have hne : l.take k ≠ [] := fun e => by
      have := congrArg List.length e
      have hl := (List.getElem?_eq_some_iff.1 h).1
      rw [List.length_take, List.length_nil] at this
      omega
    show bodyK (l.take k ++ [t]) = _
    rw [bodyK_snoc _ _ hne]
    simp

/-- Nothing, or no digit, comes next. -/
def stop (a : List UInt8) : Prop := ∀ c, a.head? = some c → isD c = false
theorem stop_nil : stop [] := fun c h => by cases h
theorem stop_cons {c : UInt8} (a : List UInt8) (h : isD c = false) : stop (c :: a) := fun d hd => by
  simp at hd; subst hd; exact h
theorem cnt_stop : ∀ (l a : List UInt8), (∀ c ∈ l, isD c = true) → stop a → cnt (l ++ a) = l.length
  | [], [], _, _ => by simp [cnt]
  | [], c :: a, _, h => by
    have := h c rfl
    simp [cnt, this]
  | c :: l, a, hl, h => by
    have hc := hl c (List.mem_cons_self ..)
    have := cnt_stop l a (fun d hd => hl d (List.mem_cons_of_mem _ hd)) h
    simp [cnt, hc, this]
def okN (n : Int) : Prop := 0 ≤ n ∧ n ≤ 2147483647
theorem dig_is {n : Int} (h : okN n) : dig n = Lib.decDigits n.toNat := by
  unfold dig; rw [if_neg (by unfold okN at h; omega)]
theorem dig_split {m n : Int} (hm : okN m) (hn : okN n) {a b : List UInt8} (ha : stop a) (hb : stop b) (h : dig m ++ a = dig n ++ b) : m = n ∧ a = b := by
  rw [dig_is hm, dig_is hn] at h
  have h1 := cnt_stop _ a (dec_all m.toNat) ha
  have h2 := cnt_stop _ b (dec_all n.toNat) hb
  rw [h, h2] at h1
  obtain ⟨h3, h4⟩ := List.append_inj h h1.symm
  have h5 := congrArg Sash.Num.val h3
  rw [dec_val, dec_val] at h5
  unfold okN at hm hn
  exact ⟨by omega, h4⟩
def okR (r : R) : Prop := okN r.x ∧ okN r.y ∧ okN r.w ∧ okN r.h
theorem no44 : isD 44 = false := by decide
theorem no120 : isD 120 = false := by decide
theorem no123 : isD 123 = false := by decide
theorem no91 : isD 91 = false := by decide
theorem no125 : isD 125 = false := by decide
theorem no93 : isD 93 = false := by decide
theorem head_split {r q : R} (hr : okR r) (hq : okR q) {a b : List UInt8} (ha : stop a) (hb : stop b) (h : headL r ++ a = headL q ++ b) : r = q ∧ a = b := by
  obtain ⟨rx, ry, rw', rh⟩ := r
  obtain ⟨qx, qy, qw, qh⟩ := q
  obtain ⟨h1, h2, h3, h4⟩ := hr
  obtain ⟨g1, g2, g3, g4⟩ := hq
  unfold headL at h
  simp only [List.append_assoc, List.cons_append] at h h1 h2 h3 h4 g1 g2 g3 g4
  obtain ⟨rfl, e1⟩ := dig_split h3 g3 (stop_cons _ no120) (stop_cons _ no120) h
  obtain ⟨rfl, e2⟩ := dig_split h4 g4 (stop_cons _ no44) (stop_cons _ no44) (List.cons.inj e1).2
  obtain ⟨rfl, e3⟩ := dig_split h1 g1 (stop_cons _ no44) (stop_cons _ no44) (List.cons.inj e2).2
  obtain ⟨rfl, e4⟩ := dig_split h2 g2 ha hb (List.cons.inj e3).2
  exact ⟨rfl, e4⟩

/-- Trees whose numbers have digits, and whose cells are leaves, rows or columns. -/
inductive OkB : T → Prop
  | leaf (r : R) (i : Int) (hr : okR r) (hi : okN i) : OkB (.node 1 r i [])
  | kids (k : Int) (r : R) (l : List T) (hk : k = 2 ∨ k = 3) (hr : okR r) (two : 2 ≤ l.length) (each : ∀ t ∈ l, OkB t) : OkB (.node k r 0 l)
theorem stop_rest (l : List T) (c : UInt8) (a : List UInt8) (hc : isD c = false) : stop (bodyR l ++ c :: a) := by
  cases l with
  | nil => rw [bodyR]; exact stop_cons _ hc
  | cons t l => rw [bodyR]; exact stop_cons _ no44
theorem rest_split {N : Nat} (ih : ∀ t u, sz t ≤ N → OkB t → OkB u → ∀ a b, stop a → stop b → bodyT t ++ a = bodyT u ++ b → t = u ∧ a = b) (c : UInt8) (hc : isD c = false) (hc4 : c ≠ 44) :
    ∀ (l m : List T), (∀ t ∈ l, sz t ≤ N) → (∀ t ∈ l, OkB t) → (∀ t ∈ m, OkB t) → ∀ a b, bodyR l ++ c :: a = bodyR m ++ c :: b → l = m ∧ a = b := by
  intro l
  induction l with
  | nil =>
    intro m _ _ _ a b h
    cases m with
    | nil => rw [bodyR] at h; exact ⟨rfl, (List.cons.inj h).2⟩
    | cons u m => rw [bodyR, bodyR] at h; exact absurd (List.cons.inj h).1 hc4
  | cons t l ihl =>
    intro m hs hl hm a b h
    cases m with
    | nil => rw [bodyR, bodyR] at h; exact absurd (List.cons.inj h).1.symm hc4
    | cons u m =>
      rw [bodyR, bodyR] at h
      rw [List.cons_append, List.cons_append, List.append_assoc, List.append_assoc] at h
      have h1 := (List.cons.inj h).2
      obtain ⟨rfl, h2⟩ := ih t u (hs t (List.mem_cons_self ..)) (hl t (List.mem_cons_self ..)) (hm u (List.mem_cons_self ..)) _ _ (stop_rest l c a hc) (stop_rest m c b hc) h1
      obtain ⟨rfl, h3⟩ := ihl m (fun x hx => hs x (List.mem_cons_of_mem _ hx)) (fun x hx => hl x (List.mem_cons_of_mem _ hx)) (fun x hx => hm x (List.mem_cons_of_mem _ hx)) a b h2
      exact ⟨rfl, h3⟩
theorem kids_split {N : Nat} (ih : ∀ t u, sz t ≤ N → OkB t → OkB u → ∀ a b, stop a → stop b → bodyT t ++ a = bodyT u ++ b → t = u ∧ a = b) (c : UInt8) (hc : isD c = false) (hc4 : c ≠ 44)
    (l m : List T) (hl0 : l ≠ []) (hm0 : m ≠ []) (hs : ∀ t ∈ l, sz t ≤ N) (hl : ∀ t ∈ l, OkB t) (hm : ∀ t ∈ m, OkB t) (a b : List UInt8) (h : bodyK l ++ c :: a = bodyK m ++ c :: b) : l = m ∧ a = b := by
  cases l with
  | nil => exact absurd rfl hl0
  | cons t l =>
    cases m with
    | nil => exact absurd rfl hm0
    | cons u m =>
      rw [bodyK, bodyK, List.append_assoc, List.append_assoc] at h
      obtain ⟨rfl, h2⟩ := ih t u (hs t (List.mem_cons_self ..)) (hl t (List.mem_cons_self ..)) (hm u (List.mem_cons_self ..)) _ _ (stop_rest l c a hc) (stop_rest m c b hc) h
      obtain ⟨rfl, h3⟩ := rest_split ih c hc hc4 l m (fun x hx => hs x (List.mem_cons_of_mem _ hx)) (fun x hx => hl x (List.mem_cons_of_mem _ hx)) (fun x hx => hm x (List.mem_cons_of_mem _ hx)) a b h2
      exact ⟨rfl, h3⟩
theorem sz_mem {l : List T} {t : T} (h : t ∈ l) : sz t ≤ szL l := by
  obtain ⟨k, hk, rfl⟩ := List.getElem_of_mem h
  exact szL_mem (List.getElem?_eq_getElem hk)
theorem ne_of_two {α : Type} {l : List α} (h : 2 ≤ l.length) : l ≠ [] := fun e => by rw [e] at h; simp at h
theorem body_split (N : Nat) : ∀ t u, sz t ≤ N → OkB t → OkB u → ∀ a b, stop a → stop b → bodyT t ++ a = bodyT u ++ b → t = u ∧ a = b := by
  induction N with
  | zero => intro t u h; have := sz_pos t; omega
  | succ N ih =>
    intro t u hs ht hu a b ha hb h
    cases ht with
    | leaf r i hr hi =>
      cases hu with
      | leaf q j hq hj =>
        simp only [bodyT, if_true, List.append_assoc, List.cons_append] at h
        obtain ⟨rfl, h1⟩ := head_split hr hq (stop_cons _ no44) (stop_cons _ no44) h
        obtain ⟨rfl, h2⟩ := dig_split hi hj ha hb (List.cons.inj h1).2
        exact ⟨rfl, h2⟩
      | kids k q m hk hq hm2 hm =>
        rcases hk with rfl | rfl
        · simp only [bodyT, if_true, if_neg (show (2 : Int) ≠ 1 by decide), List.append_assoc, List.cons_append] at h
          obtain ⟨-, h1⟩ := head_split hr hq (stop_cons _ no44) (stop_cons _ no123) h
          exact absurd (List.cons.inj h1).1 (by decide)
        · simp only [bodyT, if_true, if_neg (show (3 : Int) ≠ 1 by decide), if_neg (show (3 : Int) ≠ 2 by decide), List.append_assoc, List.cons_append] at h
          obtain ⟨-, h1⟩ := head_split hr hq (stop_cons _ no44) (stop_cons _ no91) h
          exact absurd (List.cons.inj h1).1 (by decide)
    | kids k r l hk hr hl2 hl =>
      have hsl : ∀ t ∈ l, sz t ≤ N := fun x hx => by
        have := sz_mem hx
        rw [sz] at hs; omega
      cases hu with
      | leaf q j hq hj =>
        rcases hk with rfl | rfl
        · simp only [bodyT, if_true, if_neg (show (2 : Int) ≠ 1 by decide), List.append_assoc, List.cons_append] at h
          obtain ⟨-, h1⟩ := head_split hr hq (stop_cons _ no123) (stop_cons _ no44) h
          exact absurd (List.cons.inj h1).1 (by decide)
        · simp only [bodyT, if_true, if_neg (show (3 : Int) ≠ 1 by decide), if_neg (show (3 : Int) ≠ 2 by decide), List.append_assoc, List.cons_append] at h
          obtain ⟨-, h1⟩ := head_split hr hq (stop_cons _ no91) (stop_cons _ no44) h
          exact absurd (List.cons.inj h1).1 (by decide)
      | kids k' q m hk' hq hm2 hm =>
        rcases hk with rfl | rfl <;> rcases hk' with rfl | rfl
        · simp only [bodyT, if_true, if_neg (show (2 : Int) ≠ 1 by decide), List.append_assoc, List.cons_append, List.nil_append] at h
          obtain ⟨rfl, h1⟩ := head_split hr hq (stop_cons _ no123) (stop_cons _ no123) h
          obtain ⟨rfl, h2⟩ := kids_split ih 125 no125 (by decide) l m (ne_of_two hl2) (ne_of_two hm2) hsl hl hm a b (List.cons.inj h1).2
          exact ⟨rfl, h2⟩
        · simp only [bodyT, if_true, if_neg (show (2 : Int) ≠ 1 by decide), if_neg (show (3 : Int) ≠ 1 by decide), if_neg (show (3 : Int) ≠ 2 by decide), List.append_assoc, List.cons_append] at h
          obtain ⟨-, h1⟩ := head_split hr hq (stop_cons _ no123) (stop_cons _ no91) h
          exact absurd (List.cons.inj h1).1 (by decide)
        · simp only [bodyT, if_true, if_neg (show (2 : Int) ≠ 1 by decide), if_neg (show (3 : Int) ≠ 1 by decide), if_neg (show (3 : Int) ≠ 2 by decide), List.append_assoc, List.cons_append] at h
          obtain ⟨-, h1⟩ := head_split hr hq (stop_cons _ no91) (stop_cons _ no123) h
          exact absurd (List.cons.inj h1).1 (by decide)
        · simp only [bodyT, if_neg (show (3 : Int) ≠ 1 by decide), if_neg (show (3 : Int) ≠ 2 by decide), List.append_assoc, List.cons_append, List.nil_append] at h
          obtain ⟨rfl, h1⟩ := head_split hr hq (stop_cons _ no91) (stop_cons _ no91) h
          obtain ⟨rfl, h2⟩ := kids_split ih 93 no93 (by decide) l m (ne_of_two hl2) (ne_of_two hm2) hsl hl hm a b (List.cons.inj h1).2
          exact ⟨rfl, h2⟩
/-- Unlike trees, unlike bodies. -/
theorem body_inj {t u : T} (ht : OkB t) (hu : OkB u) (h : bodyT t = bodyT u) : t = u :=
  (body_split (sz t) t u (Nat.le_refl _) ht hu [] [] stop_nil stop_nil (by rw [List.append_nil, List.append_nil]; exact h)).1
theorem putL_inj {l m : List UInt8} (h : putL l = putL m) : l = m := by
  have := congrArg (List.drop 5) h
  exact this

/-- How long a body is at most. -/
theorem head_len (r : R) : (headL r).length ≤ 43 := by
  have h1 := dig_len r.x
  have h2 := dig_len r.y
  have h3 := dig_len r.w
  have h4 := dig_len r.h
  simp only [headL, List.length_append, List.length_cons]; omega
mutual
theorem body_len : ∀ t : T, (bodyT t).length + 1 ≤ 64 * sz t
  | .node k r i l => by
    have h1 := head_len r
    have h2 := rest_len l
    have h3 := dig_len i
    have h4 : (bodyK l).length ≤ (bodyR l).length := by
      cases l with
      | nil => simp [bodyK, bodyR]
      | cons t l => simp [bodyK, bodyR]
    rw [bodyT, sz]
    split
    · simp; omega
    · split <;> (simp; omega)
theorem rest_len : ∀ l : List T, (bodyR l).length ≤ 64 * szL l
  | [] => by simp [bodyR]
  | t :: l => by
    have h1 := body_len t
    have h2 := rest_len l
    rw [bodyR, szL]
    simp; omega
end
end Go.Proofs.YtbelpnfgdjnpoaaGreatDoor
/- The document's text of a rectangle, and of a tree without its sum. -/
namespace Go.Proofs.YtbelpnfgdjnpoaaGreatDoor
open Go.RowKit
open Sash.Num (dig dig_len)

abbrev rbox (r : R) : Obj := .cells #[.int .i64 r.x, .int .i64 r.y, .int .i64 r.w, .int .i64 r.h] 24
theorem quiet_one {P : Program} {f : FuncId} {args : Array Value} {w : World} {n : Nat} {v : Value}
    (h : Calls P f args (w.drewN n) fun e w' => e = .returned v ∧ w.drewN n = w') : Calls P f args (w.drewN n) fun e w'' => e = .returned v ∧ ∃ m, w'' = w.drewN m :=
  h.mono fun _ _ ⟨he, hm⟩ => ⟨he, n, hm.symm⟩

set_option maxHeartbeats 800000 in
set_option maxRecDepth 100000 in
theorem rhead_any (r : R) (w : World) : Calls Tryz.prog 22 #[val r] w fun e w' => e = .returned (.string ⟨(headL r).toArray⟩) ∧ Below w.heap.size w w' := by
  have l1 := dig_len r.x
  have l2 := dig_len r.y
  have l3 := dig_len r.w
  have l4 := dig_len r.h
  have HF : Hid ((⟨(dig r.w).toArray⟩ : ByteArray) ++ ⟨#[120]⟩ ++ ⟨(dig r.h).toArray⟩ ++ ⟨#[44]⟩ ++ ⟨(dig r.x).toArray⟩ ++ ⟨#[44]⟩ ++ ⟨(dig r.y).toArray⟩ = ⟨(headL r).toArray⟩) := by
    refine Lib.hid ?_
    apply ByteArray.ext; simp [headL]
  go_enter Tryz.func22, Tryz.ntmps22
  go_wp2
  go_quiet ((go_at_call 45; exact quiet_one (refDigits_any _ _)))
  have HB : Hid (Below w.heap.size w ((w.alloc (rbox r)).drewN nq)) := Lib.hid (((Below.refl _ w).alloc (Nat.le_refl _) (rbox r)).trans ⟨rfl, rfl, rfl, by simp, fun i hi => rfl⟩)
  go_wp2
  go_ret
  exact ⟨ret_str HF.out, HB.out⟩

theorem bodyK_len (l : List T) : (bodyK l).length ≤ 64 * szL l := by
  have h1 := rest_len l
  have h2 : (bodyK l).length ≤ (bodyR l).length := by
    cases l with
    | nil => simp [bodyK, bodyR]
    | cons t l => simp [bodyK, bodyR]
  omega
theorem body_leaf {t : T} (h : t.k = 1) : bodyT t = headL t.r ++ 44 :: dig t.id := by rw [bodyT_eq, if_pos h]
theorem body_row {t : T} (h : t.k = 2) : bodyT t = headL t.r ++ 123 :: (bodyK t.kids ++ [125]) := by rw [bodyT_eq, h]; rfl
theorem body_col {t : T} (h : t.k ≠ 1) (h2 : t.k ≠ 2) : bodyT t = headL t.r ++ 91 :: (bodyK t.kids ++ [93]) := by rw [bodyT_eq, if_neg h, if_neg h2]
theorem str_kid0 {a : List UInt8} (x : List UInt8) (h : a = []) : (⟨a.toArray⟩ : ByteArray) ++ ⟨x.toArray⟩ = ⟨x.toArray⟩ := by subst h; apply ByteArray.ext; simp
theorem str_kid (a x : List UInt8) : (⟨a.toArray⟩ : ByteArray) ++ ⟨#[44]⟩ ++ ⟨x.toArray⟩ = ⟨(a ++ [44] ++ x).toArray⟩ := by apply ByteArray.ext; simp
theorem str_leaf (a x : List UInt8) : (⟨a.toArray⟩ : ByteArray) ++ ⟨#[44]⟩ ++ ⟨x.toArray⟩ = ⟨(a ++ 44 :: x).toArray⟩ := by apply ByteArray.ext; simp
theorem str_in (a x : List UInt8) (o c : UInt8) : (⟨a.toArray⟩ : ByteArray) ++ ⟨#[o]⟩ ++ ⟨x.toArray⟩ ++ ⟨#[c]⟩ = ⟨(a ++ o :: (x ++ [c])).toArray⟩ := by apply ByteArray.ext; simp

end Go.Proofs.YtbelpnfgdjnpoaaGreatDoor
