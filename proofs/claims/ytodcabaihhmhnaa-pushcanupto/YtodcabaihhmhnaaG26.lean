/- Texts of this seat, 3 in one file. -/
import Derived.Test.YtodcabaihhmhnaaG25
import Derived.Test.YtodcabaihhmhnaaG22
/- What the program reckons, against what is given round by round. No walk. -/
namespace Go.Proofs.Ytodcabaihhmhnaa
open Go.RowKit Sh

def natI (l : List Nat) : List Int := l.map fun a : Nat => (a : Int)
def negI (l : List Nat) : List Int := l.map fun a : Nat => -(a : Int)
theorem natI_length (l : List Nat) : (natI l).length = l.length := by simp [natI]
theorem negI_length (l : List Nat) : (negI l).length = l.length := by simp [negI]
theorem natI_get {l : List Nat} {k a : Nat} (h : l[k]? = some a) : (natI l)[k]? = some (a : Int) := by simp [natI, h]
theorem negI_get {l : List Nat} {k a : Nat} (h : l[k]? = some a) : (negI l)[k]? = some (-(a : Int)) := by simp [negI, h]
theorem natI_of {gs : List Int} (h : goodI gs) : gs = natI (gs.map Int.toNat) := by
  unfold natI
  rw [List.map_map]
  conv => lhs; rw [← List.map_id gs]
  refine List.map_congr_left fun g hg => ?_
  have := h g hg
  simp only [id, Function.comp]; omega
def goodN (l : List Nat) : Prop := ∀ a ∈ l, a ≤ 2147483647
theorem goodN_of {gs : List Int} (h : goodI gs) : goodN (gs.map Int.toNat) := fun a ha => by
  obtain ⟨g, hg, rfl⟩ := List.mem_map.1 ha
  have := h g hg; omega
theorem goodI_of {l : List Nat} (h : goodN l) : goodI (natI l) := fun g hg => by
  obtain ⟨a, ha, rfl⟩ := List.mem_map.1 hg
  have := h a ha; omega

/-- What so many whole rounds take. -/
def rs (r : Nat) (l : List Nat) : Nat := (l.map fun a => min a r).sum
def cnt (r : Nat) : List Nat → Nat
  | [] => 0
  | a :: l => (if r < a then 1 else 0) + cnt r l
theorem rs_succ (r : Nat) (l : List Nat) : rs (r + 1) l = rs r l + cnt r l := by
  induction l with
  | nil => rfl
  | cons a l ih =>
    have h1 : rs (r + 1) (a :: l) = min a (r + 1) + rs (r + 1) l := by simp [rs]
    have h2 : rs r (a :: l) = min a r + rs r l := by simp [rs]
    rw [h1, h2, cnt, ih]
    split <;> omega
theorem rs_zero (l : List Nat) : rs 0 l = 0 := by
  induction l with
  | nil => rfl
  | cons a l ih => simp only [rs, List.map_cons, List.sum_cons] at *; omega
theorem rs_all {r : Nat} {l : List Nat} (h : ∀ a ∈ l, a ≤ r) : rs r l = l.sum := by
  induction l with
  | nil => rfl
  | cons a l ih =>
    have h1 : rs r (a :: l) = min a r + rs r l := by simp [rs]
    have := h a (List.mem_cons_self ..)
    rw [h1, ih fun b hb => h b (List.mem_cons_of_mem _ hb), List.sum_cons]
    omega
theorem lf_spec (r : Nat) (l : List Nat) : ∀ need : Nat, (need < rs r l → lfI r need (natI l) < 0) ∧ (rs r l ≤ need → lfI r need (natI l) = (need : Int) - rs r l) := by
  induction l with
  | nil => intro need; simp [rs, natI, lfI]
  | cons a l ih =>
    intro need
    have h2 : rs r (a :: l) = min a r + rs r l := by simp [rs]
    have h3 : lfI r need (natI (a :: l)) = lfI r ((need : Int) - min (a : Int) (r : Int)) (natI l) := by
      show lfI r need ((a : Int) :: natI l) = _
      rw [lfI, if_neg (by omega)]
    rw [h2, h3]
    by_cases hm : min a r ≤ need
    · have e : (need : Int) - min (a : Int) (r : Int) = ((need - min a r : Nat) : Int) := by omega
      rw [e]
      obtain ⟨i1, i2⟩ := ih (need - min a r)
      refine ⟨fun h => i1 (by omega), fun h => ?_⟩
      rw [i2 (by omega)]; omega
    · have hn : (need : Int) - min (a : Int) (r : Int) < 0 := by omega
      rw [lfI_neg hn]
      exact ⟨fun _ => hn, fun h => by omega⟩

/-- What the program takes: so many whole rounds, and 1 more of the first ones that can. -/
def tk (r : Nat) : Nat → List Nat → List Nat
  | _, [] => []
  | last, a :: l => if 0 < last ∧ r < a then (r + 1) :: tk r (last - 1) l else min a r :: tk r last l
theorem tk_sum (r : Nat) (l : List Nat) : ∀ last, last ≤ cnt r l → (tk r last l).sum = rs r l + last := by
  induction l with
  | nil => intro last h; simp [cnt] at h; subst h; simp [tk, rs]
  | cons a l ih =>
    intro last h
    have h2 : rs r (a :: l) = min a r + rs r l := by simp [rs]
    rw [cnt] at h
    rw [tk, h2]
    split
    · rename_i hc
      rw [if_pos hc.2] at h
      rw [List.sum_cons, ih _ (by omega)]; omega
    · rename_i hc
      rw [List.sum_cons, ih _ (by split at h <;> omega)]; omega
theorem tk_form (r : Nat) (l : List Nat) : ∀ last, last ≤ cnt r l → ∃ p, p ≤ l.length ∧ tk r last l = (List.range l.length).map fun i => min (l.getD i 0) (r + if i < p then 1 else 0) := by
  induction l with
  | nil => intro last h; exact ⟨0, by simp, by simp [tk]⟩
  | cons a l ih =>
    intro last h
    rw [cnt] at h
    by_cases hl : last = 0
    · subst hl
      obtain ⟨p, hp, he⟩ := ih 0 (by omega)
      refine ⟨0, by omega, ?_⟩
      have h0 : ∀ m : List Nat, tk r 0 m = m.map fun b => min b r := by
        intro m
        induction m with
        | nil => rfl
        | cons b m im => rw [tk, if_neg (by omega), im]; rfl
      rw [h0]
      conv => lhs; rw [all_map (a :: l), List.map_map]
      refine List.map_congr_left fun i _ => ?_
      simp
    · obtain ⟨last', x, h1, h2, h3⟩ : ∃ last' x, tk r last (a :: l) = x :: tk r last' l ∧ x = min a (r + 1) ∧ last' ≤ cnt r l := by
        rw [tk]
        by_cases hr : r < a
        · rw [if_pos ⟨by omega, hr⟩]
          rw [if_pos hr] at h
          exact ⟨_, _, rfl, by omega, by omega⟩
        · rw [if_neg (by omega)]
          rw [if_neg hr] at h
          exact ⟨_, _, rfl, by omega, by omega⟩
      obtain ⟨p, hp, he⟩ := ih last' h3
      refine ⟨p + 1, by simp; omega, ?_⟩
      rw [h1, h2, he, List.length_cons, List.range_succ_eq_map, List.map_cons, List.map_map]
      congr 1
      refine List.map_congr_left fun i _ => ?_
      simp
/-- It is what is given round by round. -/
theorem tk_out (r : Nat) (l : List Nat) (last : Nat) (h : last ≤ cnt r l) : ∃ m, tk r last l = out (some l) l.length m := by
  obtain ⟨p, hp, he⟩ := tk_form r l last h
  refine ⟨l.length * r + p, ?_⟩
  rw [he, take_map]
  refine List.map_congr_left fun i hi => ?_
  have hi' := List.mem_range.1 hi
  congr 1
  unfold vis
  by_cases hpn : p < l.length
  · obtain ⟨h1, h2⟩ := div_mod_of (n := l.length) (m := l.length * r + p) (q := r) (s := p) rfl hpn
    rw [h1, h2]
  · obtain rfl : p = l.length := by omega
    obtain ⟨h1, h2⟩ := div_mod_of (n := l.length) (m := l.length * r + l.length) (q := r + 1) (s := 0) (by rw [Nat.mul_add]; omega) (by omega)
    rw [h1, h2, if_pos hi']; simp
/-- How many whole rounds there are, as the program finds it. -/
theorem rounds_ok {l : List Nat} {need r : Nat} (hg : goodN l) (h1 : r = 0 ∨ ¬ need < rs (r - 1 + 1) l) (h2 : r = 2147483647 ∨ need < rs (r + 1) l) (hn : need ≤ l.sum) : rs r l ≤ need ∧ need - rs r l ≤ cnt r l := by
  have h3 : rs r l ≤ need := by
    rcases h1 with rfl | h1
    · rw [rs_zero]; omega
    · by_cases hr : r = 0
      · subst hr; rw [rs_zero]; omega
      · rw [show r - 1 + 1 = r by omega] at h1; omega
  refine ⟨h3, ?_⟩
  rcases h2 with rfl | h2
  · rw [rs_all hg] at h3 ⊢; omega
  · rw [rs_succ] at h2; omega

/-- What Shares answers. -/
def okS (b : Int) (gs : List Int) : Prop := gs ≠ [] ∧ goodI gs ∧ -2147483647 ≤ b ∧ b ≤ 2147483647 ∧ (b < 0 → (-b).toNat ≤ (gs.map Int.toNat).sum)
def ShIs (b : Int) (gs : List Int) (l : List Int) : Prop :=
  (0 ≤ b ∧ l = natI (out none gs.length b.toNat)) ∨ (b < 0 ∧ ∃ m, l = negI (out (some (gs.map Int.toNat)) gs.length m) ∧ (out (some (gs.map Int.toNat)) gs.length m).sum = (-b).toNat)
theorem ShIs.len {b : Int} {gs l : List Int} (h : ShIs b gs l) : l.length = gs.length := by
  rcases h with ⟨-, rfl⟩ | ⟨-, m, rfl, -⟩
  · rw [natI_length, out_len]
  · rw [negI_length, out_len]
theorem ShIs.one {b : Int} {gs l l' : List Int} (h : ShIs b gs l) (h' : ShIs b gs l') : l = l' := by
  rcases h with ⟨h0, rfl⟩ | ⟨h0, m, rfl, hm⟩
  · rcases h' with ⟨-, rfl⟩ | ⟨h1, -⟩
    · rfl
    · omega
  · rcases h' with ⟨h1, -⟩ | ⟨-, m', rfl, hm'⟩
    · omega
    · rw [out_one (some (gs.map Int.toNat)) (m := m) (m' := m') (by rw [hm, hm'])]
def ShSays (b : Int) (gs : List Int) (w : World) (e : Ending) (w' : World) : Prop :=
  Below w.heap.size w w' ∧ ((okS b gs ∧ ∃ v l, e = .returned (.tuple #[v, .bool true]) ∧ ShIs b gs l ∧ Row w' v (ints l)) ∨ (¬ okS b gs ∧ ∃ v, e = .returned (.tuple #[v, .bool false]) ∧ Row w' v (ints [])))
end Go.Proofs.Ytodcabaihhmhnaa
/- Shares are even, and together what was asked for. No walk. -/
namespace Go.Proofs.Ytodcabaihhmhnaa
open Go.RowKit Sh

theorem nsum_take (l : List Nat) (j : Nat) : (l.take j).sum ≤ l.sum := by
  have := congrArg List.sum (List.take_append_drop j l)
  rw [List.sum_append] at this
  omega
theorem nsum_mem {l : List Nat} {i a : Nat} (h : l[i]? = some a) : a ≤ l.sum := by
  have h1 := nsum_take l (i + 1)
  rw [List.take_add_one, h, List.sum_append] at h1
  simp at h1; omega
theorem natI_sum (l : List Nat) : (natI l).sum = (l.sum : Int) := by
  induction l with
  | nil => rfl
  | cons a l ih => simp only [natI, List.map_cons, List.sum_cons] at *; omega
theorem negI_sum (l : List Nat) : (negI l).sum = -(l.sum : Int) := by
  induction l with
  | nil => rfl
  | cons a l ih => simp only [negI, List.map_cons, List.sum_cons] at *; omega
theorem natI_take (l : List Nat) (j : Nat) : (natI l).take j = natI (l.take j) := by simp [natI, List.map_take]
theorem negI_take (l : List Nat) (j : Nat) : (negI l).take j = negI (l.take j) := by simp [negI, List.map_take]
theorem natI_at {l : List Nat} {i : Nat} {x : Int} (h : (natI l)[i]? = some x) : ∃ a, l[i]? = some a ∧ x = (a : Int) := by
  unfold natI at h
  rw [List.getElem?_map, Option.map_eq_some_iff] at h
  obtain ⟨a, ha, rfl⟩ := h
  exact ⟨a, ha, rfl⟩
theorem negI_at {l : List Nat} {i : Nat} {x : Int} (h : (negI l)[i]? = some x) : ∃ a, l[i]? = some a ∧ x = -(a : Int) := by
  unfold negI at h
  rw [List.getElem?_map, Option.map_eq_some_iff] at h
  obtain ⟨a, ha, rfl⟩ := h
  exact ⟨a, ha, rfl⟩
theorem out_get {g : Option (List Nat)} {n m i a : Nat} (h : (out g n m)[i]? = some a) : i < n ∧ a = cap g i (vis n m i) := by
  have hi : i < n := by
    rcases Nat.lt_or_ge i n with hi | hi
    · exact hi
    · rw [List.getElem?_eq_none (by rw [out_len]; exact hi)] at h; cases h
  rw [out_at g hi] at h
  exact ⟨hi, (Option.some.inj h).symm⟩

structure Ev (b : Int) (gs l : List Int) : Prop where
  len : l.length = gs.length
  sum : l.sum = b
  small : ∀ (i : Nat) (x : Int), l[i]? = some x → -3000 ≤ x ∧ x ≤ 3000
  part : ∀ j, -3000 ≤ (l.take j).sum ∧ (l.take j).sum ≤ 3000
  more : 0 ≤ b → ∀ (i k : Nat) (x y : Int), l[i]? = some x → l[k]? = some y → 0 ≤ x ∧ x ≤ y + 1
  less : b < 0 → ∀ (i k : Nat) (x y g : Int), l[i]? = some x → l[k]? = some y → gs[i]? = some g → x ≤ 0 ∧ (y + 1 < x → x = -g)
  can : ∀ (i : Nat) (x g : Int), l[i]? = some x → gs[i]? = some g → x < 0 → -x ≤ g

theorem ev_of {b : Int} {gs l : List Int} (hok : okS b gs) (hb : -3000 ≤ b ∧ b ≤ 3000) (h : ShIs b gs l) : Ev b gs l := by
  have hlen := h.len
  obtain ⟨hne, hgd, -, -, -⟩ := hok
  have hn : 0 < gs.length := List.length_pos_iff.2 hne
  rcases h with ⟨h0, rfl⟩ | ⟨h0, m, rfl, hm⟩
  · have hs := give_sum hn b.toNat
    refine ⟨hlen, by rw [natI_sum, hs]; omega, fun i x hx => ?_, fun j => ?_, fun _ i k x y hx hy => ?_, fun h1 => by omega, fun i x g hx hg hlt => ?_⟩
    · obtain ⟨a, ha, rfl⟩ := natI_at hx
      have := nsum_mem ha
      omega
    · rw [natI_take, natI_sum]
      have := nsum_take (out none gs.length b.toNat) j
      omega
    · obtain ⟨a, ha, rfl⟩ := natI_at hx
      obtain ⟨c, hc, rfl⟩ := natI_at hy
      obtain ⟨-, rfl⟩ := out_get ha
      obtain ⟨-, rfl⟩ := out_get hc
      have := vis_near (n := gs.length) (m := b.toNat) (i := i) (k := k)
      unfold cap
      simp only
      omega
    · obtain ⟨a, ha, rfl⟩ := natI_at hx
      omega
  · have hll : (gs.map Int.toNat).length = gs.length := by simp
    have hgt : ∀ (i : Nat) (g : Int), gs[i]? = some g → (((gs.map Int.toNat).getD i 0 : Nat) : Int) = g := fun i g hg => by
      have hgg := hgd g (List.mem_of_getElem? hg)
      rw [List.getD_eq_getElem?_getD, List.getElem?_map, hg]
      simp only [Option.map_some, Option.getD_some]
      omega
    refine ⟨hlen, by rw [negI_sum, hm]; omega, fun i x hx => ?_, fun j => ?_, fun h1 => by omega, fun _ i k x y g hx hy hg => ?_, fun i x g hx hg hlt => ?_⟩
    · obtain ⟨a, ha, rfl⟩ := negI_at hx
      have := nsum_mem ha
      omega
    · rw [negI_take, negI_sum]
      have := nsum_take (out (some (gs.map Int.toNat)) gs.length m) j
      omega
    · obtain ⟨a, ha, rfl⟩ := negI_at hx
      obtain ⟨c, hc, rfl⟩ := negI_at hy
      obtain ⟨-, rfl⟩ := out_get ha
      obtain ⟨-, rfl⟩ := out_get hc
      refine ⟨by omega, fun hlt => ?_⟩
      have := take_near (l := gs.map Int.toNat) (m := m) (i := i) (k := k)
      rw [hll] at this
      rw [this (by omega), hgt i g hg]
    · obtain ⟨a, ha, rfl⟩ := negI_at hx
      obtain ⟨-, rfl⟩ := out_get ha
      have h1 : cap (some (gs.map Int.toNat)) i (vis gs.length m i) ≤ (gs.map Int.toNat).getD i 0 := by unfold cap; simp only; omega
      have h2 := hgt i g hg
      omega
end Go.Proofs.Ytodcabaihhmhnaa
/- A tree that is adjusted: in words; what each kid is asked for, it can do. No walk. -/
namespace Go.Proofs.Ytodcabaihhmhnaa
open Go.RowKit Sh

/-- What is given is at most what is asked, what is taken at most what can be given. -/
theorem sh_bounds {b : Int} {gs l : List Int} (hok : okS b gs) (h : ShIs b gs l) {i : Nat} {x g : Int} (hx : l[i]? = some x) (hg : gs[i]? = some g) : -g ≤ x ∧ (x ≤ 0 ∨ x ≤ b) := by
  obtain ⟨hne, hgd, -, -, -⟩ := hok
  have hn : 0 < gs.length := List.length_pos_iff.2 hne
  have hgg := hgd g (List.mem_of_getElem? hg)
  rcases h with ⟨h0, rfl⟩ | ⟨h0, m, rfl, hm⟩
  · have hs := give_sum hn b.toNat
    obtain ⟨a, ha, rfl⟩ := natI_at hx
    have := nsum_mem ha
    omega
  · have hll : (gs.map Int.toNat).length = gs.length := by simp
    have hgt : (((gs.map Int.toNat).getD i 0 : Nat) : Int) = g := by
      rw [List.getD_eq_getElem?_getD, List.getElem?_map, hg]
      simp only [Option.map_some, Option.getD_some]
      omega
    obtain ⟨a, ha, rfl⟩ := negI_at hx
    obtain ⟨-, rfl⟩ := out_get ha
    have h1 : cap (some (gs.map Int.toNat)) i (vis gs.length m i) ≤ (gs.map Int.toNat).getD i 0 := by unfold cap; simp only; omega
    omega

open Classical in
noncomputable def shL (b : Int) (gs : List Int) : List Int := if h : ∃ l, ShIs b gs l then h.choose else []
theorem shL_of {b : Int} {gs l : List Int} (h : ShIs b gs l) : shL b gs = l := by
  have hx : ∃ l, ShIs b gs l := ⟨l, h⟩
  unfold shL
  rw [dif_pos hx]
  exact hx.choose_spec.one h
noncomputable def shF (k ax b : Int) (gs : List Int) (j : Nat) : Int := if alB k ax = true then (shL b gs).getD j 0 else b
def adjR (ax b : Int) (r : R) : R := if ax = 1 then ⟨r.x, r.y, r.w + b, r.h⟩ else ⟨r.x, r.y, r.w, r.h + b⟩
mutual
noncomputable def adjT (ax b : Int) : T → T
  | .node k r i l => .node k (adjR ax b r) i (adjL ax (shF k ax b (l.map (gvT ax))) l)
noncomputable def adjL (ax : Int) (s : Nat → Int) : List T → List T
  | [] => []
  | t :: l => adjT ax (s 0) t :: adjL ax (fun j => s (j + 1)) l
end
theorem adjT_eq (ax b : Int) (t : T) : adjT ax b t = .node t.k (adjR ax b t.r) t.id (adjL ax (shF t.k ax b (t.kids.map (gvT ax))) t.kids) := by cases t; rw [adjT]; rfl
theorem adjL_len (ax : Int) (l : List T) : ∀ s : Nat → Int, (adjL ax s l).length = l.length := by
  induction l with
  | nil => intro s; simp [adjL]
  | cons t l ih => intro s; simp [adjL, ih]
theorem adjL_snoc (ax : Int) (t : T) (l : List T) : ∀ s : Nat → Int, adjL ax s (l ++ [t]) = adjL ax s l ++ [adjT ax (s l.length) t] := by
  induction l with
  | nil => intro s; simp [adjL]
  | cons u l ih => intro s; simp only [List.cons_append, adjL]; rw [ih]; simp
theorem adjL_step {ax : Int} {s : Nat → Int} {l : List T} {j : Nat} {t : T} (h : l[j]? = some t) : adjL ax s (l.take (j + 1)) = adjL ax s (l.take j) ++ [adjT ax (s j) t] := by
  have hj := (List.getElem?_eq_some_iff.1 h).1
  have h1 : l.take (j + 1) = l.take j ++ [t] := by rw [List.take_add_one, h]; rfl
  rw [h1, adjL_snoc, List.length_take, Nat.min_eq_left (by omega)]
mutual
theorem adjT_sz (ax : Int) : ∀ (b : Int) (t : T), sz (adjT ax b t) = sz t
  | b, .node k r i l => by rw [adjT, sz, sz, adjL_sz ax _ l]
theorem adjL_sz (ax : Int) : ∀ (s : Nat → Int) (l : List T), szL (adjL ax s l) = szL l
  | s, [] => by simp [adjL]
  | s, t :: l => by rw [adjL, szL, szL, adjT_sz ax (s 0) t, adjL_sz ax (fun j => s (j + 1)) l]
end

theorem lsX_ge {ax : Int} {l : List T} {u : T} (h : u ∈ l) : lsT ax u ≤ lsX ax l := by
  induction l with
  | nil => cases h
  | cons t l ih =>
    rw [lsX]
    rcases List.mem_cons.1 h with rfl | h
    · omega
    · have := ih h; omega
theorem toNat_sum {l : List Int} (h : ∀ g ∈ l, 0 ≤ g) : ((l.map Int.toNat).sum : Int) = l.sum := by
  induction l with
  | nil => rfl
  | cons g l ih =>
    have h1 := ih fun x hx => h x (List.mem_cons_of_mem _ hx)
    have h2 := h g (List.mem_cons_self ..)
    simp only [List.map_cons, List.sum_cons]
    omega

/-- What a tree that tiles can be asked for. -/
def canB (ax b : Int) (t : T) : Prop := -gvT ax t ≤ b ∧ b ≤ 10000
theorem gv_bounds {ax : Int} (hax : ax = 1 ∨ ax = 2) {t : T} (hs : sz t ≤ 20000) (ht : tileB t = true) : 0 ≤ gvT ax t ∧ gvT ax t ≤ 10000 := by
  have h1 := tile_ls hax (sz t) t (Nat.le_refl _) hs ht
  have h2 := ls_pos ax t
  have h3 := szA_pos (well_rect (tile_top hs ht).1) hax
  unfold gvT
  omega
theorem kids_two {t : T} (hs : sz t ≤ 20000) (ht : tileB t = true) (hk : t.k ≠ 1) : 2 ≤ t.kids.length := by
  have hw := (tile_top hs ht).1
  unfold wellT wellB at hw
  simp only [Bool.and_eq_true, Bool.or_eq_true, decide_eq_true_eq] at hw
  omega
theorem leaf_none {t : T} (hs : sz t ≤ 20000) (ht : tileB t = true) (hk : t.k = 1) : t.kids = [] := by
  have hw := (tile_top hs ht).1
  unfold wellT wellB at hw
  simp only [Bool.and_eq_true, Bool.or_eq_true, decide_eq_true_eq] at hw
  exact List.length_eq_zero_iff.1 (by omega)
theorem al_not {k ax : Int} (h : k = 1) : alB k ax = false := by subst h; simp [alB]
/-- Along its kids' own axis: shares can be told. -/
theorem can_ok {ax b : Int} (hax : ax = 1 ∨ ax = 2) {t : T} (hs : sz t ≤ 20000) (ht : tileB t = true) (hb : canB ax b t) (ha : alB t.k ax = true) : okS b (t.kids.map (gvT ax)) := by
  have hk : t.k ≠ 1 := fun h => by rw [al_not h] at ha; cases ha
  have h2 := kids_two hs ht hk
  have hg := gv_bounds hax hs ht
  have hkid : ∀ g ∈ t.kids.map (gvT ax), 0 ≤ g ∧ g ≤ 10000 := fun g hg => by
    obtain ⟨u, hu, rfl⟩ := List.mem_map.1 hg
    obtain ⟨j, hj⟩ := List.getElem?_of_mem hu
    have := sz_kid hj
    exact gv_bounds hax (by omega) (tile_kid hs ht hj)
  refine ⟨fun e => ?_, fun g hg => ?_, ?_, ?_, fun h0 => ?_⟩
  · have h5 := congrArg List.length e
    rw [List.length_map, List.length_nil] at h5
    omega
  · have := hkid g hg; omega
  · unfold canB at hb; omega
  · unfold canB at hb; omega
  · have h3 := toNat_sum (l := t.kids.map (gvT ax)) fun g hg => (hkid g hg).1
    have h4 := gives_sum hax hs ht hk ha
    unfold gvS at h4
    unfold canB at hb
    omega
/-- What each kid is asked for, it can do. -/
theorem can_kid {ax b : Int} (hax : ax = 1 ∨ ax = 2) {t u : T} {j : Nat} (hs : sz t ≤ 20000) (ht : tileB t = true) (hb : canB ax b t) (hj : t.kids[j]? = some u) (hsh : alB t.k ax = true → ∃ l, ShIs b (t.kids.map (gvT ax)) l) : canB ax (shF t.k ax b (t.kids.map (gvT ax)) j) u := by
  have hk : t.k ≠ 1 := fun h => by
    have := leaf_none hs ht h
    rw [this] at hj; simp at hj
  cases ha : alB t.k ax with
  | true =>
    obtain ⟨l, hl⟩ := hsh ha
    have hok := can_ok hax hs ht hb ha
    have hgj : (t.kids.map (gvT ax))[j]? = some (gvT ax u) := by rw [List.getElem?_map, hj]; rfl
    have hjl : j < l.length := by
      rw [hl.len]
      exact (List.getElem?_eq_some_iff.1 hgj).1
    have hx := List.getElem?_eq_getElem hjl
    have h1 := sh_bounds hok hl hx hgj
    unfold shF
    rw [if_pos ha, shL_of hl, List.getD_eq_getElem?_getD, hx]
    unfold canB at hb ⊢
    simp only [Option.getD_some]
    omega
  | false =>
    have h1 := (fit_kids (tile_top hs ht).1 (tile_top hs ht).2 hk ax hax).2 ha j u hj
    have h2 := lsX_ge (ax := ax) (List.mem_of_getElem? hj)
    have h3 := ls_no (t := t) ha
    have h4 := ls_pos ax u
    unfold shF
    rw [if_neg (by rw [ha]; decide)]
    unfold canB gvT at *
    omega
theorem adjR_in {ax b : Int} (hax : ax = 1 ∨ ax = 2) {t : T} (hs : sz t ≤ 20000) (ht : tileB t = true) (hb : canB ax b t) : (adjR ax b t.r).fits ∧ -30000 ≤ t.r.w + b ∧ t.r.w + b ≤ 30000 ∧ -30000 ≤ t.r.h + b ∧ t.r.h + b ≤ 30000 := by
  have h1 := may_rect (well_rect (tile_top hs ht).1)
  have h2 := gv_bounds hax hs ht
  unfold canB at hb
  unfold adjR
  refine ⟨?_, by omega, by omega, by omega, by omega⟩
  split
  · refine ⟨?_, ?_, ?_, ?_⟩ <;> (unfold fits; simp only; omega)
  · refine ⟨?_, ?_, ?_, ?_⟩ <;> (unfold fits; simp only; omega)
end Go.Proofs.Ytodcabaihhmhnaa
