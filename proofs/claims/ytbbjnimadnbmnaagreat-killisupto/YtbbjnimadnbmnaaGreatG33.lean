/- Texts of this seat, 3 in one file. -/
import Derived.Test.YtbbjnimadnbmnaaGreatG31
import Derived.Test.YtbbjnimadnbmnaaGreatG32
import Derived.Test.YtbbjnimadnbmnaaGreatG09
/- A leaf that goes: the program's way comes to what the document answers. No walk. -/
namespace Go.Proofs.YtbbjnimadnbmnaaGreat
open Go.RowKit

/-- The neighbour of the kid at j; what it grows to, where the first of the two begins; the cell without the kid. -/
def nbN (j : Nat) : Nat := if j = 0 then 1 else j - 1
noncomputable def grownT (g : T) (j : Nat) : T := adjO (g.k - 1) (szA (g.kids.getD j default).r (g.k - 1) + 1) (setT (g.kids.getD (j - 1) default).r.x (g.kids.getD (j - 1) default).r.y (g.kids.getD (nbN j) default))
noncomputable def goneT (g : T) (j : Nat) : T := if g.kids.length = 2 then grownT g j else .node g.k g.r g.id (g.kids.take (j - 1) ++ [grownT g j] ++ g.kids.drop (j - 1 + 2))
theorem heir_nb (j : Nat) : heirN (j : Int) = (nbN j : Int) := by
  unfold heirN nbN
  split <;> split <;> omega
theorem getD_of {l : List T} {j : Nat} {u : T} (h : l[j]? = some u) : l.getD j default = u := by rw [List.getD_eq_getElem?_getD, h]; rfl

/-- Adjusted elsewhere. -/
theorem adjO_set {ax n x y : Int} {u : T} (hax : ax = 1 ∨ ax = 2) (hs : sz u ≤ 20000) (ht : tileB u = true) (hx : 0 ≤ x ∧ x + u.r.w ≤ 10000) (hy : 0 ≤ y ∧ y + u.r.h ≤ 10000) (hn : 0 ≤ n ∧ n ≤ 10000) (hfit : atA ⟨x, y, u.r.w, u.r.h⟩ ax + szA u.r ax + n ≤ 10000) :
    ajE ax n (setT x y u) = 0 ∧ adjO ax n (setT x y u) = setT x y (adjT ax n u) := by
  have h1 := set_tile hs ht hx.1 hx.2 hy.1 hy.2
  have h2 := tile_ls hax (sz u) u (Nat.le_refl _) hs ht
  have h3 : ajE ax n (setT x y u) = 0 := by
    rw [aj_do ⟨h1, (axB_iff ax).2 hax⟩, set_szA, ls_set, set_r]
    exact if_neg (by omega)
  refine ⟨h3, ?_⟩
  unfold adjO
  rw [if_pos h3]
  unfold ajT
  rw [set_r]
  exact adj_set ax n x y x y u

theorem gnL_append (j h : Int) (g : T) (b : List T) : ∀ (a : List T) (m : Nat), gnL j h g m (a ++ b) = gnL j h g m a ++ gnL j h g (m + a.length) b
  | [], m => by simp [gnL]
  | t :: a, m => by
    rw [List.cons_append, gnL, gnL, gnL_append j h g b a (m + 1), List.append_assoc, List.length_cons, show m + 1 + a.length = m + (a.length + 1) by omega]
theorem gnL_far {j h : Int} {g : T} : ∀ (l : List T) (m : Nat), (∀ i : Nat, m ≤ i → i < m + l.length → (i : Int) ≠ j ∧ (i : Int) ≠ h) → gnL j h g m l = l
  | [], _, _ => by simp [gnL]
  | t :: l, m, hn => by
    have h1 := hn m (Nat.le_refl _) (by simp)
    have h2 := gnL_far (j := j) (h := h) (g := g) l (m + 1) fun i hi hl => hn i (by omega) (by simp only [List.length_cons]; omega)
    rw [gnL, if_neg h1.2, if_neg h1.1, h2]; rfl
theorem two_cut {l : List T} {f : Nat} {a c : T} (ha : l[f]? = some a) (hc : l[f + 1]? = some c) : l = l.take f ++ ([a, c] ++ l.drop (f + 2)) := by
  have h1 := cut_at ha
  have h2 : l.drop (f + 1) = c :: l.drop (f + 2) := by
    have hl := (List.getElem?_eq_some_iff.1 hc).1
    rw [List.drop_eq_getElem_cons hl]
    congr 1
    have := List.getElem?_eq_getElem hl
    rw [hc] at this
    exact (Option.some.inj this).symm
  rw [h2] at h1
  conv => lhs; rw [h1]
  simp
/-- The kids behind it. -/
theorem gn_is {l : List T} {j : Nat} {a c G : T} (ha : l[j - 1]? = some a) (hc : l[j - 1 + 1]? = some c) : gnL (j : Int) (heirN (j : Int)) G 0 l = l.take (j - 1) ++ [G] ++ l.drop (j - 1 + 2) := by
  have hl := (List.getElem?_eq_some_iff.1 hc).1
  have htk : (l.take (j - 1)).length = j - 1 := by rw [List.length_take]; omega
  rw [heir_nb]
  conv => lhs; rw [two_cut ha hc]
  rw [gnL_append, gnL_append, Nat.zero_add, htk]
  have h1 : gnL (j : Int) (nbN j : Int) G 0 (l.take (j - 1)) = l.take (j - 1) := gnL_far _ _ fun i _ hi => by
    rw [htk] at hi
    unfold nbN
    split <;> omega
  have h3 : gnL (j : Int) (nbN j : Int) G (j - 1 + [a, c].length) (l.drop (j - 1 + 2)) = l.drop (j - 1 + 2) := gnL_far _ _ fun i hi _ => by
    simp only [List.length_cons, List.length_nil] at hi
    unfold nbN
    split <;> omega
  have h2 : gnL (j : Int) (nbN j : Int) G (j - 1) [a, c] = [G] := by
    unfold nbN
    cases j with
    | zero => simp [gnL]
    | succ j =>
      simp only [Nat.add_sub_cancel, Nat.add_one_ne_zero, if_false]
      rw [gnL, gnL, gnL, if_pos rfl, if_neg (by omega), if_pos (by omega)]
      rfl
  rw [h1, h2, h3, List.append_assoc]

/-- One kid behind another one. -/
theorem kid_next {t : T} (hs : sz t ≤ 20000) (ht : tileB t = true) {f : Nat} {a c : T} (ha : t.kids[f]? = some a) (hc : t.kids[f + 1]? = some c) : (t.k = 2 → c.r.x = a.r.x + a.r.w + 1) ∧ (t.k = 3 → c.r.y = a.r.y + a.r.h + 1) := by
  obtain ⟨h1, h2⟩ := fit_at hs ht ha
  obtain ⟨h3, h4⟩ := fit_at hs ht hc
  have h5 := sz_kid ha
  have h6 := may_rect (well_rect (tile_top (by omega) (tile_kid hs ht ha)).1)
  constructor
  · intro hk
    rw [pX_take ha, h1, hk, nxX_row, wrap_id (by omega)] at h3
    exact h3.symm
  · intro hk
    rw [pY_take ha, h2, hk, nxY_col, wrap_id (by omega)] at h4
    exact h4.symm

/-- All of both. -/
structure Pair (g : T) (j : Nat) (a c u v : T) : Prop where
  first : g.kids[j - 1]? = some a
  second : g.kids[j - 1 + 1]? = some c
  grows : g.kids[nbN j]? = some u
  goes : g.kids[j]? = some v
  both : (u = a ∧ v = c) ∨ (u = c ∧ v = a)
theorem pair_of {g v : T} {j : Nat} (hv : g.kids[j]? = some v) (h2 : 2 ≤ g.kids.length) : ∃ a c u, Pair g j a c u v := by
  have hj := (List.getElem?_eq_some_iff.1 hv).1
  cases j with
  | zero => exact ⟨v, _, _, ⟨hv, List.getElem?_eq_getElem (show 1 < g.kids.length by omega), List.getElem?_eq_getElem (show 1 < g.kids.length by omega), hv, .inr ⟨rfl, rfl⟩⟩⟩
  | succ j => exact ⟨_, v, _, ⟨List.getElem?_eq_getElem (show j < g.kids.length by omega), hv, List.getElem?_eq_getElem (show j < g.kids.length by omega), hv, .inl ⟨rfl, rfl⟩⟩⟩

/-- The neighbour, grown: in numbers. -/
structure Grows (g : T) (j : Nat) (a c u v : T) : Prop where
  ax : g.k - 1 = 1 ∨ g.k - 1 = 2
  zero : adjO (g.k - 1) (szA v.r (g.k - 1) + 1) (setT 0 0 u) = setT 0 0 (adjT (g.k - 1) (szA v.r (g.k - 1) + 1) u)
  here : ajE (g.k - 1) (szA v.r (g.k - 1) + 1) (setT a.r.x a.r.y u) = 0
  grown : grownT g j = setT a.r.x a.r.y (adjT (g.k - 1) (szA v.r (g.k - 1) + 1) u)
  wide : g.k = 2 → (adjT (g.k - 1) (szA v.r (g.k - 1) + 1) u).r.w = a.r.w + c.r.w + 1
  high : g.k = 3 → (adjT (g.k - 1) (szA v.r (g.k - 1) + 1) u).r.h = a.r.h + c.r.h + 1
  wide2 : g.k = 3 → (adjT (g.k - 1) (szA v.r (g.k - 1) + 1) u).r.w = g.r.w
  high2 : g.k = 2 → (adjT (g.k - 1) (szA v.r (g.k - 1) + 1) u).r.h = g.r.h
theorem grows_of {g a c u v : T} {j : Nat} (hs : sz g ≤ 20000) (ht : tileB g = true) (hp : Pair g j a c u v) : Grows g j a c u v := by
  obtain ⟨ha, hc, hu, hv, hb⟩ := hp
  have hk1 : g.k ≠ 1 := fun e => by rw [leaf_none hs ht e] at ha; simp at ha
  have hk : g.k = 2 ∨ g.k = 3 := by rcases well_kind (tile_top hs ht).1 with h | h | h <;> omega
  have hga := sz_kid ha
  have hgc := sz_kid hc
  have hgu := sz_kid hu
  have tu := tile_kid hs ht hu
  have ra := may_rect (well_rect (tile_top (by omega) (tile_kid hs ht ha)).1)
  have rc := may_rect (well_rect (tile_top (by omega) (tile_kid hs ht hc)).1)
  have rg := may_rect (well_rect (tile_top hs ht).1)
  have ia := kid_in hs ht ha
  have ic := kid_in hs ht hc
  have hn := kid_next hs ht ha hc
  have hoff := fun ax hax => (fit_kids (tile_top hs ht).1 (tile_top hs ht).2 hk1 ax hax).2
  have hgrown : grownT g j = adjO (g.k - 1) (szA v.r (g.k - 1) + 1) (setT a.r.x a.r.y u) := by
    unfold grownT
    rw [getD_of hv, getD_of ha, getD_of hu]
  rcases hk with hk | hk
  · have hax : g.k - 1 = 1 := by omega
    have hal2 : alB g.k 2 = false := by rw [hk]; rfl
    have o1 : a.r.h = g.r.h := hoff 2 (.inr rfl) hal2 _ _ ha
    have o2 : c.r.h = g.r.h := hoff 2 (.inr rfl) hal2 _ _ hc
    have ou : u.r.h = g.r.h := hoff 2 (.inr rfl) hal2 _ _ hu
    have hsum : u.r.w + v.r.w = a.r.w + c.r.w ∧ 1 ≤ u.r.w ∧ 1 ≤ v.r.w := by rcases hb with ⟨rfl, rfl⟩ | ⟨rfl, rfl⟩ <;> omega
    have hx := hn.1 hk
    rw [hax] at hgrown
    have sv : szA v.r 1 = v.r.w := rfl
    have su : szA u.r 1 = u.r.w := rfl
    have g0 := adjO_set (ax := 1) (n := szA v.r 1 + 1) (x := 0) (y := 0) (.inl rfl) (by omega) tu (by omega) (by omega) (by omega) (by show 0 + szA u.r 1 + _ ≤ _; omega)
    have g1 := adjO_set (ax := 1) (n := szA v.r 1 + 1) (x := a.r.x) (y := a.r.y) (.inl rfl) (by omega) tu (by omega) (by omega) (by omega) (by show a.r.x + szA u.r 1 + _ ≤ _; omega)
    have hw : (adjT 1 (szA v.r 1 + 1) u).r.w = u.r.w + (szA v.r 1 + 1) := by rw [adjT_r]; rfl
    have hh : (adjT 1 (szA v.r 1 + 1) u).r.h = u.r.h := by rw [adjT_r]; rfl
    constructor <;> rw [hax]
    · exact .inl rfl
    · exact g0.2
    · exact g1.1
    · exact hgrown.trans g1.2
    · intro _; rw [hw]; omega
    · intro h; omega
    · intro h; omega
    · intro _; rw [hh]; exact ou
  · have hax : g.k - 1 = 2 := by omega
    have hal2 : alB g.k 1 = false := by rw [hk]; rfl
    have o1 : a.r.w = g.r.w := hoff 1 (.inl rfl) hal2 _ _ ha
    have o2 : c.r.w = g.r.w := hoff 1 (.inl rfl) hal2 _ _ hc
    have ou : u.r.w = g.r.w := hoff 1 (.inl rfl) hal2 _ _ hu
    have hsum : u.r.h + v.r.h = a.r.h + c.r.h ∧ 1 ≤ u.r.h ∧ 1 ≤ v.r.h := by rcases hb with ⟨rfl, rfl⟩ | ⟨rfl, rfl⟩ <;> omega
    have hx := hn.2 hk
    rw [hax] at hgrown
    have sv : szA v.r 2 = v.r.h := rfl
    have su : szA u.r 2 = u.r.h := rfl
    have g0 := adjO_set (ax := 2) (n := szA v.r 2 + 1) (x := 0) (y := 0) (.inr rfl) (by omega) tu (by omega) (by omega) (by omega) (by show 0 + szA u.r 2 + _ ≤ _; omega)
    have g1 := adjO_set (ax := 2) (n := szA v.r 2 + 1) (x := a.r.x) (y := a.r.y) (.inr rfl) (by omega) tu (by omega) (by omega) (by omega) (by show a.r.y + szA u.r 2 + _ ≤ _; omega)
    have hw : (adjT 2 (szA v.r 2 + 1) u).r.w = u.r.w := by rw [adjT_r]; rfl
    have hh : (adjT 2 (szA v.r 2 + 1) u).r.h = u.r.h + (szA v.r 2 + 1) := by rw [adjT_r]; rfl
    constructor <;> rw [hax]
    · exact .inr rfl
    · exact g0.2
    · exact g1.1
    · exact hgrown.trans g1.2
    · intro h; omega
    · intro _; rw [hh]; omega
    · intro _; rw [hw]; exact ou
    · intro h; omega

theorem setL_app (k : Int) (b : List T) : ∀ (a : List T) (x y : Int), setL k x y (a ++ b) = setL k x y a ++ setL k (pX k x a) (pY k y a) b
  | [], x, y => by simp [setL, pX, pY]
  | t :: a, x, y => by
    rw [List.cons_append, setL, setL, setL_app k b a]
    rfl
theorem setL_kids {t : T} (hs : sz t ≤ 20000) (ht : tileB t = true) : setL t.k t.r.x t.r.y t.kids = t.kids := by
  have h := set_id (sz t) t (Nat.le_refl _) hs ht
  rw [setT_eq] at h
  have := congrArg T.kids h
  exact this
theorem pX_app (k x : Int) (a b : List T) : pX k x (a ++ b) = pX k (pX k x a) b := by unfold pX; rw [List.foldl_append]
theorem pY_app (k y : Int) (a b : List T) : pY k y (a ++ b) = pY k (pY k y a) b := by unfold pY; rw [List.foldl_append]
theorem setL_part {t : T} (hs : sz t ≤ 20000) (ht : tileB t = true) (m : Nat) : setL t.k t.r.x t.r.y (t.kids.take m) = t.kids.take m ∧ setL t.k (pX t.k t.r.x (t.kids.take m)) (pY t.k t.r.y (t.kids.take m)) (t.kids.drop m) = t.kids.drop m := by
  have h := setL_kids hs ht
  have h1 := setL_app t.k (t.kids.drop m) (t.kids.take m) t.r.x t.r.y
  rw [List.take_append_drop, h] at h1
  have h2 : t.kids = t.kids.take m ++ t.kids.drop m := (List.take_append_drop m t.kids).symm
  have h3 := List.append_inj (h2.symm.trans h1) (by rw [setL_length])
  exact ⟨h3.1.symm, h3.2.symm⟩

theorem outKp_more {k : Int} {r : R} {id : Int} {ks : List T} {j : Int} {L : List T} (h : gnL j (heirN j) (adjO (k - 1) (szA (ks.getD j.toNat default).r (k - 1) + 1) (setT 0 0 (ks.getD (heirN j).toNat default))) 0 ks = L) (hL : L.length ≠ 1) : outT k r id ks j = .node k r id L := by
  unfold outT
  rw [h]
  match L, hL with
  | [], _ => rfl
  | [_], h => exact absurd rfl h
  | _ :: _ :: _, _ => rfl
theorem outKp_one {k : Int} {r : R} {id : Int} {ks : List T} {j : Int} {G : T} (h : gnL j (heirN j) (adjO (k - 1) (szA (ks.getD j.toNat default).r (k - 1) + 1) (setT 0 0 (ks.getD (heirN j).toNat default))) 0 ks = [G]) : outT k r id ks j = G := by
  unfold outT
  rw [h]
/-- The kids behind it, in words. -/
theorem gn_out {g a c u v : T} {j : Nat} (hp : Pair g j a c u v) (hg : Grows g j a c u v) : gnL (j : Int) (heirN (j : Int)) (adjO (g.k - 1) (szA (g.kids.getD (j : Int).toNat default).r (g.k - 1) + 1) (setT 0 0 (g.kids.getD (heirN (j : Int)).toNat default))) 0 g.kids = g.kids.take (j - 1) ++ [setT 0 0 (adjT (g.k - 1) (szA v.r (g.k - 1) + 1) u)] ++ g.kids.drop (j - 1 + 2) := by
  rw [gn_is hp.first hp.second]
  rw [heir_nb, Int.toNat_natCast, Int.toNat_natCast, getD_of hp.goes, getD_of hp.grows, hg.zero]
theorem two_one {g a c u v : T} {j : Nat} (hp : Pair g j a c u v) (h2 : g.kids.length = 2) : j - 1 = 0 ∧ g.kids.take (j - 1) = [] ∧ g.kids.drop (j - 1 + 2) = [] := by
  have hl := (List.getElem?_eq_some_iff.1 hp.second).1
  have h0 : j - 1 = 0 := by omega
  rw [h0]
  exact ⟨rfl, rfl, List.drop_eq_nil_of_le (by omega)⟩
theorem outKp_len {g a c u v G : T} {j : Nat} (hp : Pair g j a c u v) (h2 : g.kids.length ≠ 2) : (g.kids.take (j - 1) ++ [G] ++ g.kids.drop (j - 1 + 2)).length ≠ 1 := by
  have hl := (List.getElem?_eq_some_iff.1 hp.second).1
  rw [List.length_append, List.length_append, List.length_take, List.length_drop]
  simp only [List.length_cons, List.length_nil]
  omega
/-- The cell without the kid, set: as the program has it. -/
theorem out_is {g v : T} {j : Nat} (hs : sz g ≤ 20000) (ht : tileB g = true) (hv : g.kids[j]? = some v) : setT g.r.x g.r.y (outT g.k g.r g.id g.kids (j : Int)) = goneT g j := by
  have hk1 : g.k ≠ 1 := fun e => by rw [leaf_none hs ht e] at hv; simp at hv
  obtain ⟨a, c, u, hp⟩ := pair_of hv (kids_two hs ht hk1)
  have hg := grows_of hs ht hp
  have hgn := gn_out hp hg
  obtain ⟨e1, e2⟩ := fit_at hs ht hp.first
  by_cases h2 : g.kids.length = 2
  · obtain ⟨q0, q1, q2⟩ := two_one hp h2
    rw [q1, q2] at hgn
    rw [outKp_one hgn, set_set]
    unfold goneT
    rw [if_pos h2, hg.grown]
    rw [q0] at e1 e2
    have e3 : g.r.x = a.r.x := by simpa [pX] using e1
    have e4 : g.r.y = a.r.y := by simpa [pY] using e2
    rw [e3, e4]
  · rw [outKp_more hgn (outKp_len hp h2)]
    unfold goneT
    rw [if_neg h2, setT_eq]
    show T.node g.k ⟨g.r.x, g.r.y, g.r.w, g.r.h⟩ g.id (setL g.k g.r.x g.r.y (g.kids.take (j - 1) ++ [setT 0 0 (adjT (g.k - 1) (szA v.r (g.k - 1) + 1) u)] ++ g.kids.drop (j - 1 + 2))) = _
    congr 1
    rw [setL_app, setL_app, (setL_part hs ht (j - 1)).1]
    congr 1
    · congr 1
      rw [setL, e1, e2, set_set, hg.grown, setL]
    · have hpos : pX g.k g.r.x (g.kids.take (j - 1) ++ [setT 0 0 (adjT (g.k - 1) (szA v.r (g.k - 1) + 1) u)]) = pX g.k g.r.x (g.kids.take (j - 1 + 2)) ∧ pY g.k g.r.y (g.kids.take (j - 1) ++ [setT 0 0 (adjT (g.k - 1) (szA v.r (g.k - 1) + 1) u)]) = pY g.k g.r.y (g.kids.take (j - 1 + 2)) := by
        have ht2 : g.kids.take (j - 1 + 2) = g.kids.take (j - 1) ++ [a, c] := by
          rw [show j - 1 + 2 = j - 1 + 1 + 1 by omega, take_snoc hp.second, take_snoc hp.first]; simp
        rw [ht2, pX_app, pX_app, pY_app, pY_app, e1, e2]
        constructor
        · show nxX g.k a.r.x _ = nxX g.k (nxX g.k a.r.x a) c
          unfold nxX
          rw [set_r]
          split
          · rename_i hk
            simp only [hg.wide hk, IntKind.wrap_i64]; omega
          · rfl
        · show nxY g.k a.r.y _ = nxY g.k (nxY g.k a.r.y a) c
          unfold nxY
          rw [set_r]
          split
          · rename_i hk
            simp only [hg.high hk, IntKind.wrap_i64]; omega
          · rfl
      rw [hpos.1, hpos.2]
      exact (setL_part hs ht (j - 1 + 2)).2
/-- It is as great as it was. -/
theorem out_size {g v : T} {j : Nat} (hs : sz g ≤ 20000) (ht : tileB g = true) (hv : g.kids[j]? = some v) : (outT g.k g.r g.id g.kids (j : Int)).r.w = g.r.w ∧ (outT g.k g.r g.id g.kids (j : Int)).r.h = g.r.h := by
  have hk1 : g.k ≠ 1 := fun e => by rw [leaf_none hs ht e] at hv; simp at hv
  obtain ⟨a, c, u, hp⟩ := pair_of hv (kids_two hs ht hk1)
  have hg := grows_of hs ht hp
  have hgn := gn_out hp hg
  by_cases h2 : g.kids.length = 2
  · obtain ⟨q0, q1, q2⟩ := two_one hp h2
    rw [q1, q2] at hgn
    rw [outKp_one hgn, set_r]
    have hl : g.kids = [a, c] := by
      have := two_cut hp.first hp.second
      rw [q1, q2] at this
      exact this
    have hk : g.k = 2 ∨ g.k = 3 := by rcases well_kind (tile_top hs ht).1 with h | h | h <;> omega
    rcases hk with hk | hk
    · have hsum := (fit_kids (tile_top hs ht).1 (tile_top hs ht).2 hk1 1 (.inl rfl)).1 (by rw [hk]; rfl)
      have h3 : szS 1 g.kids = a.r.w + (c.r.w + 0) := by rw [hl]; rfl
      have h4 : szA g.r 1 = g.r.w := rfl
      exact ⟨by rw [hg.wide hk]; omega, hg.high2 hk⟩
    · have hsum := (fit_kids (tile_top hs ht).1 (tile_top hs ht).2 hk1 2 (.inr rfl)).1 (by rw [hk]; rfl)
      have h3 : szS 2 g.kids = a.r.h + (c.r.h + 0) := by rw [hl]; rfl
      have h4 : szA g.r 2 = g.r.h := rfl
      exact ⟨hg.wide2 hk, by rw [hg.high hk]; omega⟩
  · rw [outKp_more hgn (outKp_len hp h2)]
    exact ⟨rfl, rfl⟩
theorem wo_size {id : Int} {t : T} (hs : sz t ≤ 20000) (ht : tileB t = true) : (woT id t).r.w = t.r.w ∧ (woT id t).r.h = t.r.h := by
  rw [woT_eq]
  split
  · exact ⟨rfl, rfl⟩
  · rename_i hn
    rcases plN_in (id := id) (l := t.kids) (m := 0) with h | ⟨h0, h1⟩
    · omega
    · obtain ⟨j, hj⟩ : ∃ j : Nat, plN id t.kids 0 = (j : Int) := ⟨(plN id t.kids 0).toNat, by omega⟩
      rw [hj] at h1 ⊢
      exact out_size hs ht (List.getElem?_eq_getElem (show j < t.kids.length by omega))

theorem pl_no {id : Int} {x : T} {l : List T} (h : noId id l) (hx : x ∈ l) : plB id x = false := by
  have := h x hx
  unfold plB
  cases h1 : (x.k == 1) <;> cases h2 : (x.id == id) <;> simp_all
theorem mem_pre (t : T) : t ∈ preT t := by rw [preT_eq]; exact List.mem_cons_self ..
theorem pre_mem {l : List T} {j : Nat} {t x : T} (hj : l[j]? = some t) (hx : x ∈ preT t) : x ∈ preL l := by
  rw [pre_cut hj]
  exact List.mem_append_left _ (List.mem_append_right _ hx)
theorem plN_no {id : Int} {l : List T} (h : noId id (preL l)) : plN id l 0 = -1 := plN_none fun _ x _ hx => pl_no h (pre_mem hx (mem_pre x))
mutual
theorem wo_no (id : Int) : ∀ t, noId id (preT t) → woT id t = t
  | .node k r i ks => fun h => by
    have h1 : noId id (preL ks) := fun x hx => h x (by rw [preT]; exact List.mem_cons_of_mem _ hx)
    rw [woT, plN_no h1, if_pos (by decide), woL_no id ks h1]
theorem woL_no (id : Int) : ∀ l, noId id (preL l) → woL id l = l
  | [] => fun _ => by rw [woL]
  | t :: l => fun h => by
    rw [woL, wo_no id t fun x hx => h x (by rw [preL]; exact List.mem_append_left _ hx), woL_no id l fun x hx => h x (by rw [preL]; exact List.mem_append_right _ hx)]
end
mutual
theorem bs_none (id : Int) : ∀ t, noId id (preT t) → bsT id t = none
  | .node k r i ks => fun h => by
    have h1 : noId id (preL ks) := fun x hx => h x (by rw [preT]; exact List.mem_cons_of_mem _ hx)
    rw [bsT, plN_no h1, if_neg (by decide), bsL_no id ks h1]
theorem bsL_no (id : Int) : ∀ l, noId id (preL l) → bsL id l = none
  | [] => fun _ => by rw [bsL]
  | t :: l => fun h => by
    rw [bsL, bs_none id t fun x hx => h x (by rw [preL]; exact List.mem_append_left _ hx), bsL_no id l fun x hx => h x (by rw [preL]; exact List.mem_append_right _ hx)]
end
theorem woL_get (id : Int) : ∀ (l : List T) (n : Nat), (woL id l)[n]? = (l[n]?).map (woT id)
  | [], n => by simp [woL]
  | t :: l, 0 => by simp [woL]
  | t :: l, n + 1 => by rw [woL]; simpa using woL_get id l n
/-- One kid is another one, as great. -/
theorem set_kid2 {t v y : T} {j : Nat} (hs : sz t ≤ 20000) (ht : tileB t = true) (hv : t.kids[j]? = some v) (hw : y.r.w = v.r.w) (hh : y.r.h = v.r.h) : setT t.r.x t.r.y (.node t.k t.r t.id (t.kids.set j y)) = setKid t j (setT v.r.x v.r.y y) := by
  have hjl := (List.getElem?_eq_some_iff.1 hv).1
  have hk : setL t.k t.r.x t.r.y (t.kids.set j y) = t.kids.set j (setT v.r.x v.r.y y) := by
    refine List.ext_getElem? fun i => ?_
    rw [setL_get, pX_same _ (t.kids.take i) _ (map_set_same hv hw i), pY_same _ (t.kids.take i) _ (map_set_same hv hh i)]
    by_cases hij : j = i
    · subst hij
      obtain ⟨h1, h2⟩ := fit_at hs ht hv
      rw [List.getElem?_set_self hjl, List.getElem?_set_self hjl, h1, h2]
      rfl
    · rw [List.getElem?_set_ne hij, List.getElem?_set_ne hij]
      cases hu : t.kids[i]? with
      | none => rfl
      | some u =>
        obtain ⟨h1, h2⟩ := fit_at hs ht hu
        have h3 := sz_kid hu
        rw [h1, h2]
        exact congrArg some (set_id (sz u) u (Nat.le_refl _) (by omega) (tile_kid hs ht hu))
  rw [setT_eq]
  show T.node t.k ⟨t.r.x, t.r.y, t.r.w, t.r.h⟩ t.id (setL t.k t.r.x t.r.y (t.kids.set j y)) = _
  rw [hk]; rfl

/-- The program's way, the document's answers. -/
theorem kill_way {id : Int} : ∀ (q : List Int) (t g : T) (j : Nat), sz t ≤ 20000 → tileB t = true → findT id t = some (q ++ [(j : Int)]) → atT t q = some g →
    putT (goneT g j) t q = some (setT t.r.x t.r.y (woT id t)) ∧ bsT id t = some (edI (decide (j = 0)) (idsT (g.kids.getD (nbN j) default))) ∧ (∃ v, g.kids[j]? = some v)
  | [], t, g, j, hs, ht, hf, hg => by
    rw [atT] at hg
    cases hg
    obtain ⟨j', v, hj, hv, hfv⟩ := findT_more (m := (j : Int)) (p := []) hf
    obtain rfl : j = j' := by omega
    obtain ⟨h1, h2⟩ := findT_top hfv
    have hon := once_tile hs ht
    have hcons : onceI ((t :: preL (t.kids.take j)) ++ preT v ++ preL (t.kids.drop (j + 1))) := by
      rw [preT_eq t, pre_cut hv] at hon
      simpa using hon
    obtain ⟨n1, -⟩ := once_mid hcons (mem_pre v) ⟨h1, h2⟩
    have hpl : plN id t.kids 0 = (j : Int) := by
      have := plN_at (id := id) (l := t.kids) (k := j) (m := 0) (u := v) (fun i x hi hx => pl_no n1 (List.mem_cons_of_mem _ (pre_mem (j := i) (by rw [List.getElem?_take, if_pos hi]; exact hx) (mem_pre x)))) hv (by unfold plB; rw [h1, h2]; simp)
      simpa using this
    refine ⟨?_, ?_, v, hv⟩
    · rw [putT, woT_eq, hpl, if_neg (by omega), out_is hs ht hv]
    · rw [bsT_eq, hpl, if_pos (by omega), heir_nb, Int.toNat_natCast]
      congr 2
      cases j with
      | zero => rfl
      | succ j => rw [decide_eq_false (by omega)]; rw [beq_eq_false_iff_ne]; omega
  | m :: q, t, g, j, hs, ht, hf, hg => by
    obtain ⟨i, v, rfl, hv, hfv⟩ := findT_more (p := q ++ [(j : Int)]) hf
    have hkid : kidAt t (i : Int) = some v := by unfold kidAt; rw [if_pos (by omega)]; simpa using hv
    rw [atT, hkid] at hg
    have hg : atT v q = some g := hg
    have hsv := sz_kid hv
    have htv := tile_kid hs ht hv
    obtain ⟨r1, r2, r3⟩ := kill_way q v g j (by omega) htv hfv hg
    obtain ⟨u', -, h2, h3, h4⟩ := find_there hfv
    have hon := once_tile hs ht
    have hcons : onceI ((t :: preL (t.kids.take i)) ++ preT v ++ preL (t.kids.drop (i + 1))) := by
      rw [preT_eq t, pre_cut hv] at hon
      simpa using hon
    obtain ⟨n1, n2⟩ := once_mid hcons h4 ⟨h2, h3⟩
    have hvk : v.k ≠ 1 := fun e => by
      have hnil := leaf_none (by omega) htv e
      cases hq : q ++ [(j : Int)] with
      | nil => simp at hq
      | cons a b =>
        rw [hq] at hfv
        obtain ⟨j2, v2, -, hv2, -⟩ := findT_more hfv
        rw [hnil] at hv2; simp at hv2
    have hnoK : ∀ (n : Nat) (x : T), n ≠ i → t.kids[n]? = some x → noId id (preT x) := fun n x hni hx y hy => by
      rcases Nat.lt_or_ge n i with h | h
      · exact n1 y (List.mem_cons_of_mem _ (pre_mem (j := n) (by rw [List.getElem?_take, if_pos h]; exact hx) hy))
      · exact n2 y (pre_mem (j := n - (i + 1)) (by rw [List.getElem?_drop, show i + 1 + (n - (i + 1)) = n by omega]; exact hx) hy)
    have hpl : plN id t.kids 0 = -1 := plN_none fun n x _ hx => by
      by_cases hni : n = i
      · subst hni
        rw [hv] at hx
        cases hx
        unfold plB
        rw [show (v.k == 1) = false by simpa using hvk]
        rfl
      · exact pl_no (hnoK n x hni hx) (mem_pre x)
    have hwo : woL id t.kids = t.kids.set i (woT id v) := by
      refine List.ext_getElem? fun n => ?_
      rw [woL_get]
      by_cases hni : n = i
      · subst hni
        rw [List.getElem?_set_self (List.getElem?_eq_some_iff.1 hv).1, hv]; rfl
      · rw [List.getElem?_set_ne (fun e => hni e.symm)]
        cases hx : t.kids[n]? with
        | none => rfl
        | some x => exact congrArg some (wo_no id x (hnoK n x hni hx))
    have hsz := wo_size (id := id) (by omega) htv
    refine ⟨?_, ?_, r3⟩
    · rw [woT_eq, hpl, if_pos (by decide), hwo, set_kid2 hs ht hv hsz.1 hsz.2, putT, hkid]
      simp only [r1, Int.toNat_natCast]
    · rw [bsT_eq, hpl, if_neg (by decide)]
      exact bsL_at (fun n y hn hy => bs_none id y (hnoK n y (by omega) hy)) hv r2
end Go.Proofs.YtbbjnimadnbmnaaGreat
/- Where a leaf stands: the program's spot, its neighbour, its axis. -/
namespace Go.Proofs.YtbbjnimadnbmnaaGreat
open Go.RowKit

abbrev spotV (b o : Nat) (j : Int) : Value := .agg #[.pointer (some ⟨b, o, none⟩), .int .i64 j]
abbrev noSpot : Value := .agg #[.pointer none, .int .i64 0]
abbrev spotO (p : Value) (j : Int) : Obj := .cells #[p, .int .i64 j] 49
set_option maxRecDepth 100000 in
theorem results_sp {fn : Func} {p u : Tmp} (h : fn.results = #[.cell p 49, .tmp u]) (tmps : Array Value) (w : World) (g : Nat) (v : Value) (j : Int) (hp : tmps.getD p undef = .pointer (some ⟨g, 0, none⟩)) (hg : w.heap[g]? = some (spotO v j)) :
    (results fn tmps).run Tryz.prog w = .ok (.tuple #[.agg #[v, .int .i64 j], tmps.getD u undef]) w := by
  have hl := run_loadVar_row (P := Tryz.prog) w g 49 49 _ (0, 0) _ hg Tryz.underlying49 rfl (by kernel_rfl)
  rw [results_cell_tmp h, hp]
  simp [asAddr, hl, Result.andThen]
theorem spot_parts {w : World} {s : Nat} {p : Value} {j : Int} (h : w.heap[s]? = some (spotO p j)) : (w.cell? ⟨s, 0, none⟩ = some p ∧ w.cell? ⟨s, 1, none⟩ = some (.int .i64 j)) ∧ w.frozen? ⟨s, 0, none⟩ = false ∧ w.frozen? ⟨s, 1, none⟩ = false := by
  refine ⟨⟨?_, ?_⟩, ?_, ?_⟩ <;> simp [World.cell?, World.frozen?, h]
theorem spot_new (w : World) (p : Value) (j : Int) : (w.alloc (spotO p j)).cell? ⟨w.heap.size, 0, none⟩ = some p ∧ (w.alloc (spotO p j)).cell? ⟨w.heap.size, 1, none⟩ = some (.int .i64 j) := (spot_parts (heap_alloc_new w _)).1

set_option maxRecDepth 100000 in
theorem nb_any (b o j : Nat) (w : World) (hj : j ≤ 1000000) : Calls Tryz.prog 22 #[spotV b o (j : Int)] w fun e w' => e = .returned (.int .i64 (nbN j : Int)) ∧ Below w.heap.size w w' := by
  have B1 : Hid (Below w.heap.size w (w.alloc (spotO (.pointer (some ⟨b, o, none⟩)) (j : Int)))) := (Below.refl _ _).alloc (Nat.le_refl _) _
  obtain ⟨s0, s1⟩ := spot_new w (.pointer (some ⟨b, o, none⟩)) (j : Int)
  by_cases h0 : j = 0
  · subst h0
    go_enter Tryz.func22, Tryz.ntmps22
    go_wp2
    go_ret
    exact ⟨rfl, B1.out⟩
  · have d0 : ((j : Int) == 0) = false := by rw [beq_eq_false_iff_ne]; omega
    have hw : IntKind.i64.wrap ((j : Int) - 1) = (j : Int) - 1 := wrap_id (by omega)
    have hv : Hid ((nbN j : Int) = (j : Int) - 1) := Lib.hid (by unfold nbN; rw [if_neg h0]; omega)
    clear h0
    go_enter Tryz.func22, Tryz.ntmps22
    go_wp2
    go_ret
    exact ⟨by rw [hv.out]; first | rfl | (refine ret_int ?_; omega), B1.out⟩

theorem cat_at {w : World} {b o : Nat} {c : C} (h : CAt w b o c) : CAt w b o c := h
set_option maxRecDepth 100000 in
theorem axis_any (b o : Nat) (j : Int) (x : C) (w : World) (hx : CAt w b o x) : Calls Tryz.prog 57 #[spotV b o j] w fun e w' => e = .returned (.int .u8 (if x.k = 3 then 2 else 1)) ∧ Below w.heap.size w w' := by
  have B1 : Hid (Below w.heap.size w (w.alloc (spotO (.pointer (some ⟨b, o, none⟩)) j))) := (Below.refl _ _).alloc (Nat.le_refl _) _
  obtain ⟨s0, s1⟩ := spot_new w (.pointer (some ⟨b, o, none⟩)) j
  obtain ⟨x0, x1, x2, x3, x4, x5, x6⟩ := hx.up B1.out
  have HAL := Lib.hid (along8_any x 2 (w.alloc (spotO (.pointer (some ⟨b, o, none⟩)) j)))
  clear hx
  have hal : alB x.k 2 = (x.k == 3) := by unfold alB; cases (x.k == 3) <;> simp
  rw [hal] at HAL
  clear hal
  by_cases h3 : x.k = 3
  · have d3 : (x.k == 3) = true := by simpa using h3
    rw [if_pos h3]
    rw [d3] at HAL
    clear h3 d3
    go_enter Tryz.func57, Tryz.ntmps57
    go_wp2_with fail
    refine HAL.out.mono ?_
    rintro e w2 ⟨rfl, hb2⟩
    have B2 := Lib.hid (B1.out.trans (hb2.mono B1.out.size))
    clear hb2
    go_wp2
    go_ret
    exact ⟨rfl, B2.out⟩
  · have d3 : (x.k == 3) = false := by simpa using h3
    rw [if_neg h3]
    rw [d3] at HAL
    clear h3 d3
    go_enter Tryz.func57, Tryz.ntmps57
    go_wp2_with fail
    refine HAL.out.mono ?_
    rintro e w2 ⟨rfl, hb2⟩
    have B2 := Lib.hid (B1.out.trans (hb2.mono B1.out.size))
    clear hb2
    go_wp2
    go_ret
    exact ⟨rfl, B2.out⟩

/-- What find answers: places that are so. -/
def FsSays (Pl : List Int → Nat → Nat → T → Prop) (id : Int) (t : T) (w : World) (e : Ending) (w' : World) : Prop :=
  Below w.heap.size w w' ∧ match findT id t with
  | none => e = .returned (.tuple #[noSpot, .int .i64 6])
  | some [] => e = .returned (.tuple #[noSpot, .int .i64 10])
  | some (m :: p) => ∃ (q : List Int) (j b o : Nat) (g : T), m :: p = q ++ [(j : Int)] ∧ Pl q b o g ∧ atT t q = some g ∧ e = .returned (.tuple #[spotV b o (j : Int), .int .i64 0])
structure Steps (Pl : List Int → Nat → Nat → T → Prop) (w : World) : Prop where
  step : ∀ (q : List Int) (b o : Nat) (u : T) (j : Nat) (u2 : T), Pl q b o u → u.kids[j]? = some u2 → ∃ (x : C) (g go : Nat), CAt w b o x ∧ x.a = some ⟨g, go, none⟩ ∧ x.n = u.kids.length ∧ Pl (q ++ [(j : Int)]) g (go + j * 7) u2

theorem spot_put {w : World} {s : Nat} (h : w.heap[s]? = some (spotO (.pointer none) 0)) (p : Value) (j : Int) : ((w.setCell ⟨s, 0, none⟩ p).setCell ⟨s, 1, none⟩ (.int .i64 j)).heap[s]? = some (spotO p j) := by
  have h1 := set_block (i := 0) h p
  have h2 := set_block (i := 1) h1 (.int .i64 j)
  exact h2
theorem below_spot {w W : World} {s : Nat} (h : Below w.heap.size w W) (hs : w.heap.size ≤ s) (p : Value) (j : Int) : Below w.heap.size w ((W.setCell ⟨s, 0, none⟩ p).setCell ⟨s, 1, none⟩ (.int .i64 j)) := (h.setCell hs _).setCell hs _

set_option maxHeartbeats 2000000 in
set_option maxRecDepth 100000 in
theorem spot_any (Pl : List Int → Nat → Nat → T → Prop) (t : T) (x : C) (B : Nat) (id : Int) (w : World) (hs : sz t ≤ 1000000) (hx : Box7 w B x) (hi : Is w x t) (h0 : Pl [] B 0 t) (hst : Steps Pl w) : Calls Tryz.prog 20 #[.pointer (some ⟨B, 0, none⟩), .int .i64 id] w (FsSays Pl id t w) := by
  have B1 : Hid (Below w.heap.size w (w.alloc (spotO (.pointer none) 0))) := (Below.refl _ _).alloc (Nat.le_refl _) _
  have S1 : Hid ((w.alloc (spotO (.pointer none) 0)).heap[w.heap.size]? = some (spotO (.pointer none) 0)) := Lib.hid (heap_alloc_new w _)
  obtain ⟨c0, c1, c2, c3, c4, c5, c6⟩ := c7_of (hx.up B1.out).cat
  have HF := Lib.hid (findO_any id t x (w.alloc (spotO (.pointer none) 0)) hs (hi.up B1.out))
  have HS := Lib.hid hs
  have H0 := Lib.hid h0
  have HST := Lib.hid hst
  clear hs hx hi h0 hst
  cases hf : findT id t with
  | none =>
    have HF2 : Hid (Calls Tryz.prog 43 #[cval x, .int .i64 id] (w.alloc (spotO (.pointer none) 0)) fun e w' => e = .returned (.tuple #[.slice none 0 0, .bool false]) ∧ Below (w.alloc (spotO (.pointer none) 0)).heap.size (w.alloc (spotO (.pointer none) 0)) w') := HF.out.mono fun e w' h => by
      obtain ⟨hb, h⟩ := h
      rw [hf] at h
      exact ⟨h, hb⟩
    have HNO : Hid (∀ w', Below w.heap.size w w' → FsSays Pl id t w (.returned (.tuple #[noSpot, .int .i64 6])) w') := Lib.hid fun w' hb => by
      unfold FsSays; rw [hf]; exact ⟨hb, rfl⟩
    clear HF hf
    go_enter Tryz.func20, Tryz.ntmps20
    go_wp2_with fail
    refine HF2.out.mono ?_
    rintro e w2 ⟨rfl, hb2⟩
    have B2 := Lib.hid (B1.out.trans (hb2.mono B1.out.size))
    have S2 := Lib.hid ((hb2.block _ (lt_of_block S1.out)).trans S1.out)
    clear hb2 c0 c1 c2 c3 c4 c5 c6 HF2
    obtain ⟨⟨s0, s1⟩, f0, f1⟩ := spot_parts S2.out
    go_wp2
    (try simp only [Exit.inBlock, Exit.then])
    refine bodyPost_ret (results_sp rfl _ _ w.heap.size (.pointer none) 0 rfl (spot_put S2.out _ _)) rfl ?_
    exact HNO.out _ (below_spot B2.out (Nat.le_refl _) _ _)
  | some p =>
    have HPL : Hid (p.length ≤ 1000000) := Lib.hid (by have := findT_len id p t hf; have := HS.out; omega)
    have HF2 : Hid (Calls Tryz.prog 43 #[cval x, .int .i64 id] (w.alloc (spotO (.pointer none) 0)) fun e w' => ∃ a cap, e = .returned (.tuple #[.slice a p.length cap, .bool true]) ∧ PRow w' (w.alloc (spotO (.pointer none) 0)).heap.size (.slice a p.length cap) p ∧ Below (w.alloc (spotO (.pointer none) 0)).heap.size (w.alloc (spotO (.pointer none) 0)) w') := HF.out.mono fun e w' h => by
      obtain ⟨hb, h⟩ := h
      rw [hf] at h
      obtain ⟨a, cap, he, hr⟩ := h
      exact ⟨a, cap, he, hr, hb⟩
    obtain ⟨u', hu', -, -, -⟩ := find_there hf
    rcases List.eq_nil_or_concat p with rfl | ⟨q, m, rfl⟩
    · have HNO : Hid (∀ w', Below w.heap.size w w' → FsSays Pl id t w (.returned (.tuple #[noSpot, .int .i64 10])) w') := Lib.hid fun w' hb => by
        unfold FsSays; rw [hf]; exact ⟨hb, rfl⟩
      clear HF hf hu'
      have hl0 : ([] : List Int).length = 0 := rfl
      rw [hl0] at HF2
      clear hl0
      have hwr : IntKind.i64.wrap (0 - 1) = -1 := by decide
      go_enter Tryz.func20, Tryz.ntmps20
      go_wp2_with fail
      refine HF2.out.mono ?_
      rintro e w2 ⟨a, cap, rfl, -, hb2⟩
      have B2 := Lib.hid (B1.out.trans (hb2.mono B1.out.size))
      have S2 := Lib.hid ((hb2.block _ (lt_of_block S1.out)).trans S1.out)
      clear hb2 c0 c1 c2 c3 c4 c5 c6 HF2
      obtain ⟨⟨s0, s1⟩, f0, f1⟩ := spot_parts S2.out
      go_wp2
      (try simp only [Exit.inBlock, Exit.then])
      refine bodyPost_ret (results_sp rfl _ _ w.heap.size (.pointer none) 0 rfl (spot_put S2.out _ _)) rfl ?_
      exact HNO.out _ (below_spot B2.out (Nat.le_refl _) _ _)
    · rw [List.concat_eq_append] at *
      obtain ⟨j, rfl⟩ : ∃ j : Nat, m = (j : Int) := by
        have hm : ∀ {p : List Int} {t u : T}, atT t p = some u → ∀ y ∈ p, 0 ≤ y := by
          intro p
          induction p with
          | nil => intro t u _ y hy; cases hy
          | cons a p ih =>
            intro t u h y hy
            rw [atT] at h
            cases hk : kidAt t a with
            | none => rw [hk] at h; cases h
            | some v =>
              rw [hk] at h
              obtain ⟨n, rfl, -⟩ := kid_some hk
              rcases List.mem_cons.1 hy with rfl | hy
              · omega
              · exact ih h y hy
        have := hm hu' m (by simp)
        exact ⟨m.toNat, by omega⟩
      have hpe : q ++ [(j : Int)] = (q ++ [(j : Int)]).head (by simp) :: (q ++ [(j : Int)]).tail := by simp
      have HYES : Hid (∀ (w' : World) (b o : Nat) (g : T), Pl q b o g → atT t q = some g → Below w.heap.size w w' → FsSays Pl id t w (.returned (.tuple #[spotV b o (j : Int), .int .i64 0])) w') := Lib.hid fun w' b o g h1 h2 hb => by
        unfold FsSays
        rw [hf, hpe]
        exact ⟨hb, q, j, b, o, g, hpe.symm, h1, h2, rfl⟩
      have hll : (q ++ [(j : Int)]).length = q.length + 1 := by simp
      rw [hll] at HF2 HPL
      have HAT := Lib.hid hu'
      clear HF hf hu' hpe hll
      have hwr : IntKind.i64.wrap ((q.length : Int) + 1 - 1) = (q.length : Int) := by have := HPL.out; rw [wrap_id (by omega)]; omega
      have hwr2 : IntKind.i64.wrap (((q.length + 1 : Nat) : Int) - 1) = (q.length : Int) := by have := HPL.out; rw [wrap_id (by omega)]; omega
      have hw64 : wrap64 (q.length : Int) = (q.length : Int) := by have := HPL.out; rw [← wrapE]; exact wrap_id (by omega)
      have hlt0 : decide ((q.length : Int) < 0) = false := decide_eq_false (by omega)
      have hs0 : (0 : Int) ≤ (q.length : Int) := by omega
      go_enter Tryz.func20, Tryz.ntmps20
      go_wp2_with fail
      refine HF2.out.mono ?_
      rintro e w2 ⟨a, cap, rfl, hr2, hb2⟩
      have B2 := Lib.hid (B1.out.trans (hb2.mono B1.out.size))
      have S2 := Lib.hid ((hb2.block _ (lt_of_block S1.out)).trans S1.out)
      obtain ⟨pg, rfl, -, hcap, hcell⟩ := hr2.at (by simp)
      have hcap2 : q.length + 1 ≤ cap := by simpa using hcap
      have HCELL := Lib.hid hcell
      have hs1 : (q.length : Int) ≤ (cap : Int) := by omega
      have n1 : ¬ (cap = q.length) := by omega
      clear hb2 c0 c1 c2 c3 c4 c5 c6 HF2 hr2 hcap hcell
      go_wp2
      go_loopg [9, 34] (q.length + 1) (fun g pl i wr => ∃ (n b o : Nat) (u : T), g + n = q.length + 1 ∧ n ≤ q.length ∧ i = .int .i64 n ∧ pl = .pointer (some ⟨b, o, none⟩) ∧ Pl ((q ++ [(j : Int)]).take n) b o u ∧ atT t ((q ++ [(j : Int)]).take n) = some u ∧ wr = w2)
      case atStart => exact ⟨0, B, 0, t, by omega, by omega, rfl, rfl, by simpa using H0.out, by simp [atT], rfl⟩
      case round =>
        obtain ⟨n, b, o, u, hg, hn, rfl, rfl, hpl, hatn, hwr'⟩ := hrel
        rw [hwr']
        clear hwr'
        have HG := Lib.hid hg
        have HP := Lib.hid hpl
        have HN := Lib.hid hatn
        clear hg hpl hatn
        by_cases hlt : n < q.length
        · have hlti : (n : Int) < (q.length : Int) := by omega
          obtain ⟨m, hm⟩ : ∃ m, (q ++ [(j : Int)])[n]? = some m := ⟨_, List.getElem?_eq_getElem (by simp; omega)⟩
          have p0 := HCELL.out n m hm
          obtain ⟨u2, hu2⟩ : ∃ u2, kidAt u m = some u2 := by
            cases hkk : kidAt u m with
            | some u2 => exact ⟨u2, rfl⟩
            | none =>
              have h1 := atT_stop ((atT_step HN.out hm).trans hkk)
              rw [HAT.out] at h1; cases h1
          have HN2 := Lib.hid ((atT_step HN.out hm).trans hu2)
          obtain ⟨i, rfl, hj⟩ := kid_some hu2
          obtain ⟨y, g, go, hcy, hya, hyn, hpl2⟩ := HST.out.step _ _ _ _ i _ HP.out hj
          have hjl := (List.getElem?_eq_some_iff.1 hj).1
          have hjli : (i : Int) < (u.kids.length : Int) := by omega
          have x6 := (hcy.up B2.out).2.2.2.2.2.2
          rw [hya, hyn] at x6
          have HP2 := Lib.hid hpl2
          have HTK := Lib.hid (take_snoc hm)
          clear hcy hya hyn hpl2 hm hu2 hj
          go_wp2
          go_roundg (gk - 1)
          case measure => have := HG.out; omega
          case rel => exact ⟨n + 1, g, go + i * 7, u2, by have := HG.out; omega, by omega, by have := HPL.out; have e : wrap64 ((n : Int) + 1) = ((n + 1 : Nat) : Int) := (by rw [← wrapE, wrap_id (by omega)]; omega); first | exact congrArg _ e | (rw [e]) | (simp only [IntKind.wrap_i64, e]), by first | rfl | simp, by rw [HTK.out]; exact HP2.out, HN2.out, rfl⟩
        · obtain rfl : n = q.length := by omega
          have hkl : ((q.length : Int) < (q.length : Int)) = False := by simp
          have hlt1 : q.length < q.length + 1 := by omega
          have p0 := HCELL.out q.length (j : Int) (by simp)
          have HPE : Hid (Pl q b o u) := Lib.hid (by have := HP.out; rw [List.take_left] at this; exact this)
          have HNE : Hid (atT t q = some u) := Lib.hid (by have := HN.out; rw [List.take_left] at this; exact this)
          obtain ⟨⟨s0, s1⟩, f0, f1⟩ := spot_parts S2.out
          go_wp2
          (try simp only [Exit.inBlock, Exit.then])
          refine bodyPost_ret (results_sp rfl _ _ w.heap.size (.pointer (some ⟨b, o, none⟩)) (j : Int) rfl (spot_put S2.out _ _)) rfl ?_
          exact HYES.out _ b o u HPE.out HNE.out (below_spot B2.out (Nat.le_refl _) _ _)
end Go.Proofs.YtbbjnimadnbmnaaGreat
/- A place in a tree of one's own, and what the tree is if another one stands there, whatever that one stands on. -/
namespace Go.Proofs.YtbbjnimadnbmnaaGreat
open Go.RowKit

structure SpotAt (W : World) (base B : Nat) (t : T) (q : List Int) (b o : Nat) (u : T) (x : C) (S : List Nat) (cur : Array Value) : Prop where
  cat : CAt W b o x
  own : OwnT W base x u S
  nodup : S.Nodup
  out : b ∉ S
  ge : base ≤ b
  blk : W.heap[b]? = some (.cells cur 26 (0, 0))
  path : atT t q = some u
  ctx : ∀ (w' : World) (y : C) (u' : T), (∀ k, base ≤ k → k < W.heap.size → k ∉ S → k ≠ b → w'.heap[k]? = W.heap[k]?) → w'.heap[b]? = some (.cells (setO cur o y) 26 (0, 0)) → Is w' y u' → ∃ z t', putT u' t q = some t' ∧ CAt w' B 0 z ∧ Is w' z t'
def Spot (W : World) (base B : Nat) (t : T) (q : List Int) (b o : Nat) (u : T) : Prop := ∃ x S cur, SpotAt W base B t q b o u x S cur

theorem spot_top {W : World} {base B : Nat} {t : T} {x : C} {S : List Nat} (hx : Box7 W B x) (ho : OwnT W base x t S) (hn : S.Nodup) (hout : B ∉ S) (hge : base ≤ B) : Spot W base B t [] B 0 t := by
  have hb : W.heap[B]? = some (cbox x) := hx
  refine ⟨x, S, _, hx.cat, ho, hn, hout, hge, hb, rfl, fun w' y u' _ hbl hi => ?_⟩
  exact ⟨y, u', rfl, cat_of_block hbl (by simp), hi⟩
theorem spot_step {W : World} {base B : Nat} {t u u2 : T} {q : List Int} {b o : Nat} {j : Nat} (h : Spot W base B t q b o u) (hk : u.kids[j]? = some u2) :
    ∃ (x : C) (g : Nat), CAt W b o x ∧ x.a = some ⟨g, 0, none⟩ ∧ x.n = u.kids.length ∧ Spot W base B t (q ++ [(j : Int)]) g (j * 7) u2 := by
  obtain ⟨x, S, cur, h⟩ := h
  obtain ⟨cs, Ss, row, len, slen, fine, e1, e2, e3, rfl, each⟩ := h.own.cases'
  have hjl := (List.getElem?_eq_some_iff.1 hk).1
  have hxn : x.n = u.kids.length := h.own.is.n
  obtain ⟨g, cap, hv, hbg, hgl⟩ := row.form (by omega)
  have hxa : x.a = some ⟨g, 0, none⟩ := by injection hv
  have hjc : j < cs.length := by omega
  have hxc := List.getElem?_eq_getElem hjc
  have hSj := List.getElem?_eq_getElem (show j < Ss.length by omega)
  have hown2 := each j _ u2 _ hxc hk hSj
  have hkid : kidAt u (j : Int) = some u2 := by unfold kidAt; rw [if_pos (by omega)]; simpa using hk
  have hblk : blk (.slice x.a x.n x.cap) = [g] := by rw [hxa]; rfl
  have hgS : g ∈ blk (.slice x.a x.n x.cap) ++ Ss.flatten := List.mem_append_left _ (by rw [hblk]; simp)
  have hbne : b ≠ g := fun e => h.out (e ▸ hgS)
  have hnd := List.nodup_append.1 h.nodup
  have hgn : g ∉ Ss.flatten := fun hm => hnd.2.2 g (by rw [hblk]; simp) g hm rfl
  have hrow2 : OwnC W base (.slice (some ⟨g, 0, none⟩) x.n x.cap) cs := by rw [← hxa]; exact row
  obtain ⟨curg, hcurg⟩ : ∃ curg, W.heap[g]? = some (.cells curg 26 (0, 0)) := by
    rcases hrow2.2 with ⟨h0, -⟩ | ⟨g', cap', cur', he, _, hgg, _⟩
    · cases h0
    · have e : g = g' := by injection he with e1 e2 e3; injection e1 with e1; injection e1
      subst e; exact ⟨cur', hgg⟩
  have hcat : CAt W g (j * 7) cs[j] := cat_of_flat (hrow2.cells (g := g) rfl) j _ hxc
  refine ⟨x, g, h.cat, hxa, hxn, cs[j], Ss[j], curg, hcat, hown2, flat_one_nodup hnd.2.1 hSj, fun hm => hgn (mem_flat.2 ⟨j, _, hSj, hm⟩), hbg, hcurg, ?_, fun w' y u' hsame hbl hi => ?_⟩
  · rw [atT_append, h.path]
    simp only [atT, hkid]
  · have hrw : OwnC w' base (.slice x.a x.n x.cap) (cs.set j y) := by
      rw [hxa]
      exact own_put hrow2 hjc (by rw [hbl, putO_block hcurg y])
    have hbB : w'.heap[b]? = some (.cells (setO cur o x) 26 (0, 0)) := by
      rw [hsame b h.ge (lt_of_block h.blk) (fun hm => h.out (List.mem_append_right _ (mem_flat.2 ⟨j, _, hSj, hm⟩))) hbne, h.blk, setO_same h.blk h.cat]
    have hix : Is w' x (setKid u j u') := by
      unfold setKid
      rw [e1, e2, e3]
      refine .mk x (u.kids.set j u') (cs.set j y) hrw.row (by rw [List.length_set, List.length_set]; exact len) fine fun i a c' ha hc' => ?_
      by_cases hij : j = i
      · subst hij
        rw [List.getElem?_set_self hjc] at ha
        rw [List.getElem?_set_self hjl] at hc'
        cases ha; cases hc'
        exact hi
      · rw [List.getElem?_set_ne hij] at ha hc'
        have hil : i < Ss.length := by rw [slen]; exact (List.getElem?_eq_some_iff.1 hc').1
        have hSi := List.getElem?_eq_getElem hil
        have hoi := each i a c' _ ha hc' hSi
        refine (hoi.frame fun m hm => hsame m (hoi.ge m hm).1 (hoi.ge m hm).2 (fun hmj => hij ?_) (fun e => hgn (mem_flat.2 ⟨i, _, hSi, e ▸ hm⟩))).is
        exact (flat_disj hnd.2.1 hSi hSj hm hmj).symm
    obtain ⟨z, t', hp, hz⟩ := h.ctx w' x (setKid u j u') (fun m hm0 hm hmS hmb => hsame m hm0 hm (fun hmj => hmS (List.mem_append_right _ (mem_flat.2 ⟨j, _, hSj, hmj⟩))) (fun e => hmS (e ▸ hgS))) hbB hix
    exact ⟨z, t', by rw [put_append h.path hkid]; exact hp, hz⟩
theorem spot_steps (W : World) (base B : Nat) (t : T) : Steps (Spot W base B t) W := ⟨fun q b o u j u2 h hj => by
  obtain ⟨x, g, h1, h2, h3, h4⟩ := spot_step h hj
  exact ⟨x, g, 0, h1, h2, h3, by rw [Nat.zero_add]; exact h4⟩⟩
end Go.Proofs.YtbbjnimadnbmnaaGreat
