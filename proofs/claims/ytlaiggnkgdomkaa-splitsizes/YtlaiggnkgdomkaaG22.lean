/- Texts of this seat, 3 in one file. -/
import Derived.Test.YtlaiggnkgdomkaaG21
/- What is still needed behind whole rounds; whether one is no number that can be. -/
namespace Go.Proofs.Ytlaiggnkgdomkaa
open Go.RowKit

def lfI (r : Int) : Int → List Int → Int
  | need, [] => need
  | need, g :: l => if need < 0 then need else lfI r (need - min g r) l
theorem lfI_neg {r need : Int} (h : need < 0) (l : List Int) : lfI r need l = need := by
  cases l with
  | nil => rfl
  | cons g l => rw [lfI, if_pos h]
theorem drop_at {α : Type} {l : List α} {k : Nat} {g : α} (h : l[k]? = some g) : l.drop k = g :: l.drop (k + 1) := by
  obtain ⟨hk, rfl⟩ := List.getElem?_eq_some_iff.1 h
  exact List.drop_eq_getElem_cons hk
/-- Numbers that kids can give. -/
def goodI (l : List Int) : Prop := ∀ g ∈ l, 0 ≤ g ∧ g ≤ 2147483647

def badB (n : Int) : Bool := decide (n < 0) || decide (2147483647 < n)
def idxSays (gs : List Int) (c : Int) : Prop := (c < 0 ∧ ∀ g ∈ gs, badB g = false) ∨ (0 ≤ c ∧ ∃ g ∈ gs, badB g = true)
def anyBad (gs : List Int) : Bool := gs.any badB
theorem anyBad_no {gs : List Int} (h : anyBad gs = false) : goodI gs := fun g hg => by
  have := (List.any_eq_false.1 h) g hg
  simp [badB] at this; omega
theorem anyBad_yes {gs : List Int} (h : anyBad gs = true) : ¬ goodI gs := fun hg => by
  obtain ⟨g, h1, h2⟩ := List.any_eq_true.1 h
  have := hg g h1
  simp [badB] at h2; omega
theorem idx_any_bad {gs : List Int} {c : Int} (h : idxSays gs c) : decide (0 ≤ c) = anyBad gs := by
  rcases h with ⟨h1, h2⟩ | ⟨h1, g, h2, h3⟩
  · rw [decide_eq_false (by omega)]
    exact (List.any_eq_false.2 fun g hg => by rw [h2 g hg]; simp).symm
  · rw [decide_eq_true h1]
    exact (List.any_eq_true.2 ⟨g, h2, h3⟩).symm
end Go.Proofs.Ytlaiggnkgdomkaa
/- What the program reckons, against what is given round by round. No walk. -/
namespace Go.Proofs.Ytlaiggnkgdomkaa
open Go.RowKit Sh

def natI (l : List Nat) : List Int := l.map fun a : Nat => (a : Int)
def negI (l : List Nat) : List Int := l.map fun a : Nat => -(a : Int)
theorem natI_length (l : List Nat) : (natI l).length = l.length := by simp [natI]
theorem negI_length (l : List Nat) : (negI l).length = l.length := by simp [negI]
theorem natI_get {l : List Nat} {k a : Nat} (h : l[k]? = some a) : (natI l)[k]? = some (a : Int) := by simp [natI, h]
theorem negI_get {l : List Nat} {k a : Nat} (h : l[k]? = some a) : (negI l)[k]? = some (-(a : Int)) := by simp [negI, h]
theorem natI_of {gs : List Int} (h : goodI gs) : gs = natI (gs.map Int.toNat) := by
  unfold natI
  rw [List.map_map]
  conv => lhs; rw [← List.map_id gs]
  refine List.map_congr_left fun g hg => ?_
  have := h g hg
  simp only [id, Function.comp]; omega
def goodN (l : List Nat) : Prop := ∀ a ∈ l, a ≤ 2147483647
theorem goodN_of {gs : List Int} (h : goodI gs) : goodN (gs.map Int.toNat) := fun a ha => by
  obtain ⟨g, hg, rfl⟩ := List.mem_map.1 ha
  have := h g hg; omega
theorem goodI_of {l : List Nat} (h : goodN l) : goodI (natI l) := fun g hg => by
  obtain ⟨a, ha, rfl⟩ := List.mem_map.1 hg
  have := h a ha; omega

/-- What so many whole rounds take. -/
def rs (r : Nat) (l : List Nat) : Nat := (l.map fun a => min a r).sum
def cnt (r : Nat) : List Nat → Nat
  | [] => 0
  | a :: l => (if r < a then 1 else 0) + cnt r l
theorem rs_succ (r : Nat) (l : List Nat) : rs (r + 1) l = rs r l + cnt r l := by
  induction l with
  | nil => rfl
  | cons a l ih =>
    have h1 : rs (r + 1) (a :: l) = min a (r + 1) + rs (r + 1) l := by simp [rs]
    have h2 : rs r (a :: l) = min a r + rs r l := by simp [rs]
    rw [h1, h2, cnt, ih]
    split <;> omega
theorem rs_zero (l : List Nat) : rs 0 l = 0 := by
  induction l with
  | nil => rfl
  | cons a l ih => simp only [rs, List.map_cons, List.sum_cons] at *; omega
theorem rs_all {r : Nat} {l : List Nat} (h : ∀ a ∈ l, a ≤ r) : rs r l = l.sum := by
  induction l with
  | nil => rfl
  | cons a l ih =>
    have h1 : rs r (a :: l) = min a r + rs r l := by simp [rs]
    have := h a (List.mem_cons_self ..)
    rw [h1, ih fun b hb => h b (List.mem_cons_of_mem _ hb), List.sum_cons]
    omega
theorem lf_spec (r : Nat) (l : List Nat) : ∀ need : Nat, (need < rs r l → lfI r need (natI l) < 0) ∧ (rs r l ≤ need → lfI r need (natI l) = (need : Int) - rs r l) := by
  induction l with
  | nil => intro need; simp [rs, natI, lfI]
  | cons a l ih =>
    intro need
    have h2 : rs r (a :: l) = min a r + rs r l := by simp [rs]
    have h3 : lfI r need (natI (a :: l)) = lfI r ((need : Int) - min (a : Int) (r : Int)) (natI l) := by
      show lfI r need ((a : Int) :: natI l) = _
      rw [lfI, if_neg (by omega)]
    rw [h2, h3]
    by_cases hm : min a r ≤ need
    · have e : (need : Int) - min (a : Int) (r : Int) = ((need - min a r : Nat) : Int) := by omega
      rw [e]
      obtain ⟨i1, i2⟩ := ih (need - min a r)
      refine ⟨fun h => i1 (by omega), fun h => ?_⟩
      rw [i2 (by omega)]; omega
    · have hn : (need : Int) - min (a : Int) (r : Int) < 0 := by omega
      rw [lfI_neg hn]
      exact ⟨fun _ => hn, fun h => by omega⟩

/-- What the program takes: so many whole rounds, and 1 more of the first ones that can. -/
def tk (r : Nat) : Nat → List Nat → List Nat
  | _, [] => []
  | last, a :: l => if 0 < last ∧ r < a then (r + 1) :: tk r (last - 1) l else min a r :: tk r last l
theorem tk_sum (r : Nat) (l : List Nat) : ∀ last, last ≤ cnt r l → (tk r last l).sum = rs r l + last := by
  induction l with
  | nil => intro last h; simp [cnt] at h; subst h; simp [tk, rs]
  | cons a l ih =>
    intro last h
    have h2 : rs r (a :: l) = min a r + rs r l := by simp [rs]
    rw [cnt] at h
    rw [tk, h2]
    split
    · rename_i hc
      rw [if_pos hc.2] at h
      rw [List.sum_cons, ih _ (by omega)]; omega
    · rename_i hc
      rw [List.sum_cons, ih _ (by split at h <;> omega)]; omega
theorem tk_form (r : Nat) (l : List Nat) : ∀ last, last ≤ cnt r l → ∃ p, p ≤ l.length ∧ tk r last l = (List.range l.length).map fun i => min (l.getD i 0) (r + if i < p then 1 else 0) := by
  induction l with
  | nil => intro last h; exact ⟨0, by simp, by simp [tk]⟩
  | cons a l ih =>
    intro last h
    rw [cnt] at h
    by_cases hl : last = 0
    · subst hl
      obtain ⟨p, hp, he⟩ := ih 0 (by omega)
      refine ⟨0, by omega, ?_⟩
      have h0 : ∀ m : List Nat, tk r 0 m = m.map fun b => min b r := by
        intro m
        induction m with
        | nil => rfl
        | cons b m im => rw [tk, if_neg (by omega), im]; rfl
      rw [h0]
      conv => lhs; rw [all_map (a :: l), List.map_map]
      refine List.map_congr_left fun i _ => ?_
      simp
    · obtain ⟨last', x, h1, h2, h3⟩ : ∃ last' x, tk r last (a :: l) = x :: tk r last' l ∧ x = min a (r + 1) ∧ last' ≤ cnt r l := by
        rw [tk]
        by_cases hr : r < a
        · rw [if_pos ⟨by omega, hr⟩]
          rw [if_pos hr] at h
          exact ⟨_, _, rfl, by omega, by omega⟩
        · rw [if_neg (by omega)]
          rw [if_neg hr] at h
          exact ⟨_, _, rfl, by omega, by omega⟩
      obtain ⟨p, hp, he⟩ := ih last' h3
      refine ⟨p + 1, by simp; omega, ?_⟩
      rw [h1, h2, he, List.length_cons, List.range_succ_eq_map, List.map_cons, List.map_map]
      congr 1
      refine List.map_congr_left fun i _ => ?_
      simp
/-- It is what is given round by round. -/
theorem tk_out (r : Nat) (l : List Nat) (last : Nat) (h : last ≤ cnt r l) : ∃ m, tk r last l = out (some l) l.length m := by
  obtain ⟨p, hp, he⟩ := tk_form r l last h
  refine ⟨l.length * r + p, ?_⟩
  rw [he, take_map]
  refine List.map_congr_left fun i hi => ?_
  have hi' := List.mem_range.1 hi
  congr 1
  unfold vis
  by_cases hpn : p < l.length
  · obtain ⟨h1, h2⟩ := div_mod_of (n := l.length) (m := l.length * r + p) (q := r) (s := p) rfl hpn
    rw [h1, h2]
  · obtain rfl : p = l.length := by omega
    obtain ⟨h1, h2⟩ := div_mod_of (n := l.length) (m := l.length * r + l.length) (q := r + 1) (s := 0) (by rw [Nat.mul_add]; omega) (by omega)
    rw [h1, h2, if_pos hi']; simp
/-- How many whole rounds there are, as the program finds it. -/
theorem rounds_ok {l : List Nat} {need r : Nat} (hg : goodN l) (h1 : r = 0 ∨ ¬ need < rs (r - 1 + 1) l) (h2 : r = 2147483647 ∨ need < rs (r + 1) l) (hn : need ≤ l.sum) : rs r l ≤ need ∧ need - rs r l ≤ cnt r l := by
  have h3 : rs r l ≤ need := by
    rcases h1 with rfl | h1
    · rw [rs_zero]; omega
    · by_cases hr : r = 0
      · subst hr; rw [rs_zero]; omega
      · rw [show r - 1 + 1 = r by omega] at h1; omega
  refine ⟨h3, ?_⟩
  rcases h2 with rfl | h2
  · rw [rs_all hg] at h3 ⊢; omega
  · rw [rs_succ] at h2; omega

/-- What Shares answers. -/
def okS (b : Int) (gs : List Int) : Prop := gs ≠ [] ∧ goodI gs ∧ -2147483647 ≤ b ∧ b ≤ 2147483647 ∧ (b < 0 → (-b).toNat ≤ (gs.map Int.toNat).sum)
def ShIs (b : Int) (gs : List Int) (l : List Int) : Prop :=
  (0 ≤ b ∧ l = natI (out none gs.length b.toNat)) ∨ (b < 0 ∧ ∃ m, l = negI (out (some (gs.map Int.toNat)) gs.length m) ∧ (out (some (gs.map Int.toNat)) gs.length m).sum = (-b).toNat)
theorem ShIs.len {b : Int} {gs l : List Int} (h : ShIs b gs l) : l.length = gs.length := by
  rcases h with ⟨-, rfl⟩ | ⟨-, m, rfl, -⟩
  · rw [natI_length, out_len]
  · rw [negI_length, out_len]
theorem ShIs.one {b : Int} {gs l l' : List Int} (h : ShIs b gs l) (h' : ShIs b gs l') : l = l' := by
  rcases h with ⟨h0, rfl⟩ | ⟨h0, m, rfl, hm⟩
  · rcases h' with ⟨-, rfl⟩ | ⟨h1, -⟩
    · rfl
    · omega
  · rcases h' with ⟨h1, -⟩ | ⟨-, m', rfl, hm'⟩
    · omega
    · rw [out_one (some (gs.map Int.toNat)) (m := m) (m' := m') (by rw [hm, hm'])]
def ShSays (b : Int) (gs : List Int) (w : World) (e : Ending) (w' : World) : Prop :=
  Below w.heap.size w w' ∧ ((okS b gs ∧ ∃ v l, e = .returned (.tuple #[v, .bool true]) ∧ ShIs b gs l ∧ Row w' v (ints l)) ∨ (¬ okS b gs ∧ ∃ v, e = .returned (.tuple #[v, .bool false]) ∧ Row w' v (ints [])))
end Go.Proofs.Ytlaiggnkgdomkaa
/- Shares are even, and together what was asked for. No walk. -/
namespace Go.Proofs.Ytlaiggnkgdomkaa
open Go.RowKit Sh

theorem nsum_take (l : List Nat) (j : Nat) : (l.take j).sum ≤ l.sum := by
  have := congrArg List.sum (List.take_append_drop j l)
  rw [List.sum_append] at this
  omega
theorem nsum_mem {l : List Nat} {i a : Nat} (h : l[i]? = some a) : a ≤ l.sum := by
  have h1 := nsum_take l (i + 1)
  rw [List.take_add_one, h, List.sum_append] at h1
  simp at h1; omega
theorem natI_sum (l : List Nat) : (natI l).sum = (l.sum : Int) := by
  induction l with
  | nil => rfl
  | cons a l ih => simp only [natI, List.map_cons, List.sum_cons] at *; omega
theorem negI_sum (l : List Nat) : (negI l).sum = -(l.sum : Int) := by
  induction l with
  | nil => rfl
  | cons a l ih => simp only [negI, List.map_cons, List.sum_cons] at *; omega
theorem natI_take (l : List Nat) (j : Nat) : (natI l).take j = natI (l.take j) := by simp [natI, List.map_take]
theorem negI_take (l : List Nat) (j : Nat) : (negI l).take j = negI (l.take j) := by simp [negI, List.map_take]
theorem natI_at {l : List Nat} {i : Nat} {x : Int} (h : (natI l)[i]? = some x) : ∃ a, l[i]? = some a ∧ x = (a : Int) := by
  unfold natI at h
  rw [List.getElem?_map, Option.map_eq_some_iff] at h
  obtain ⟨a, ha, rfl⟩ := h
  exact ⟨a, ha, rfl⟩
theorem negI_at {l : List Nat} {i : Nat} {x : Int} (h : (negI l)[i]? = some x) : ∃ a, l[i]? = some a ∧ x = -(a : Int) := by
  unfold negI at h
  rw [List.getElem?_map, Option.map_eq_some_iff] at h
  obtain ⟨a, ha, rfl⟩ := h
  exact ⟨a, ha, rfl⟩
theorem out_get {g : Option (List Nat)} {n m i a : Nat} (h : (out g n m)[i]? = some a) : i < n ∧ a = cap g i (vis n m i) := by
  have hi : i < n := by
    rcases Nat.lt_or_ge i n with hi | hi
    · exact hi
    · rw [List.getElem?_eq_none (by rw [out_len]; exact hi)] at h; cases h
  rw [out_at g hi] at h
  exact ⟨hi, (Option.some.inj h).symm⟩

structure Ev (b : Int) (gs l : List Int) : Prop where
  len : l.length = gs.length
  sum : l.sum = b
  small : ∀ (i : Nat) (x : Int), l[i]? = some x → -3000 ≤ x ∧ x ≤ 3000
  part : ∀ j, -3000 ≤ (l.take j).sum ∧ (l.take j).sum ≤ 3000
  more : 0 ≤ b → ∀ (i k : Nat) (x y : Int), l[i]? = some x → l[k]? = some y → 0 ≤ x ∧ x ≤ y + 1
  less : b < 0 → ∀ (i k : Nat) (x y g : Int), l[i]? = some x → l[k]? = some y → gs[i]? = some g → x ≤ 0 ∧ (y + 1 < x → x = -g)
  can : ∀ (i : Nat) (x g : Int), l[i]? = some x → gs[i]? = some g → x < 0 → -x ≤ g

theorem ev_of {b : Int} {gs l : List Int} (hok : okS b gs) (hb : -3000 ≤ b ∧ b ≤ 3000) (h : ShIs b gs l) : Ev b gs l := by
  have hlen := h.len
  obtain ⟨hne, hgd, -, -, -⟩ := hok
  have hn : 0 < gs.length := List.length_pos_iff.2 hne
  rcases h with ⟨h0, rfl⟩ | ⟨h0, m, rfl, hm⟩
  · have hs := give_sum hn b.toNat
    refine ⟨hlen, by rw [natI_sum, hs]; omega, fun i x hx => ?_, fun j => ?_, fun _ i k x y hx hy => ?_, fun h1 => by omega, fun i x g hx hg hlt => ?_⟩
    · obtain ⟨a, ha, rfl⟩ := natI_at hx
      have := nsum_mem ha
      omega
    · rw [natI_take, natI_sum]
      have := nsum_take (out none gs.length b.toNat) j
      omega
    · obtain ⟨a, ha, rfl⟩ := natI_at hx
      obtain ⟨c, hc, rfl⟩ := natI_at hy
      obtain ⟨-, rfl⟩ := out_get ha
      obtain ⟨-, rfl⟩ := out_get hc
      have := vis_near (n := gs.length) (m := b.toNat) (i := i) (k := k)
      unfold cap
      simp only
      omega
    · obtain ⟨a, ha, rfl⟩ := natI_at hx
      omega
  · have hll : (gs.map Int.toNat).length = gs.length := by simp
    have hgt : ∀ (i : Nat) (g : Int), gs[i]? = some g → (((gs.map Int.toNat).getD i 0 : Nat) : Int) = g := fun i g hg => by
      have hgg := hgd g (List.mem_of_getElem? hg)
      rw [List.getD_eq_getElem?_getD, List.getElem?_map, hg]
      simp only [Option.map_some, Option.getD_some]
      omega
    refine ⟨hlen, by rw [negI_sum, hm]; omega, fun i x hx => ?_, fun j => ?_, fun h1 => by omega, fun _ i k x y g hx hy hg => ?_, fun i x g hx hg hlt => ?_⟩
    · obtain ⟨a, ha, rfl⟩ := negI_at hx
      have := nsum_mem ha
      omega
    · rw [negI_take, negI_sum]
      have := nsum_take (out (some (gs.map Int.toNat)) gs.length m) j
      omega
    · obtain ⟨a, ha, rfl⟩ := negI_at hx
      obtain ⟨c, hc, rfl⟩ := negI_at hy
      obtain ⟨-, rfl⟩ := out_get ha
      obtain ⟨-, rfl⟩ := out_get hc
      refine ⟨by omega, fun hlt => ?_⟩
      have := take_near (l := gs.map Int.toNat) (m := m) (i := i) (k := k)
      rw [hll] at this
      rw [this (by omega), hgt i g hg]
    · obtain ⟨a, ha, rfl⟩ := negI_at hx
      obtain ⟨-, rfl⟩ := out_get ha
      have h1 : cap (some (gs.map Int.toNat)) i (vis gs.length m i) ≤ (gs.map Int.toNat).getD i 0 := by unfold cap; simp only; omega
      have h2 := hgt i g hg
      omega
end Go.Proofs.Ytlaiggnkgdomkaa
