/- Texts of this seat, 3 in one file. -/
import Derived.Test.YtodcabaihhmhnaaG34
import Derived.Test.YtodcabaihhmhnaaG35
import Derived.Test.YtodcabaihhmhnaaG36
/- What one gives another one gets: the document's steps, in words. No walk. -/
namespace Go.Proofs.Ytodcabaihhmhnaa
open Go.RowKit Sh

theorem isum_set {l : List Int} : ∀ {i : Nat} {x y : Int}, l[i]? = some x → (l.set i y).sum = l.sum - x + y := by
  induction l with
  | nil => intro i x y h; simp at h
  | cons a l ih =>
    intro i x y h
    cases i with
    | zero => simp at h; subst h; simp; omega
    | succ i =>
      have := ih (y := y) (by simpa using h)
      rw [List.set_cons_succ, List.sum_cons, List.sum_cons, this]; omega
theorem szL_set {l : List T} : ∀ {i : Nat} {u v : T}, l[i]? = some u → sz v = sz u → szL (l.set i v) = szL l := by
  induction l with
  | nil => intro i u v h; simp at h
  | cons a l ih =>
    intro i u v h hv
    cases i with
    | zero => simp at h; subst h; rw [List.set_cons_zero, szL, szL, hv]
    | succ i => rw [List.set_cons_succ, szL, szL, ih (by simpa using h) hv]

/-- One kid, adjusted where it is alone. -/
theorem adjO_is {ax b : Int} (hax : ax = 1 ∨ ax = 2) {u : T} (hs : sz u ≤ 20000) (ht : tileB u = true) (hb : canB ax b u) (hm : szA u.r ax + b ≤ 10000) :
    adjO ax b (setT 0 0 u) = setT 0 0 (adjT ax b u) ∧ tileB (setT 0 0 (adjT ax b u)) = true ∧ szA (setT 0 0 (adjT ax b u)).r ax = szA u.r ax + b ∧ gvT ax (setT 0 0 (adjT ax b u)) = gvT ax u + b ∧ sz (setT 0 0 (adjT ax b u)) = sz u := by
  have hr := may_rect (well_rect (tile_top hs ht).1)
  have hg := gv_bounds hax hs ht
  have hb' := hb
  unfold canB at hb'
  have h1 : tileB (setT 0 0 u) = true := set_tile hs ht (by omega) (by omega) (by omega) (by omega)
  have h2 : szA (setT 0 0 u).r ax = szA u.r ax := set_szA 0 0 ax u
  have h3 : atA (setT 0 0 u).r ax = 0 := by rw [set_r]; unfold atA; simp only; split <;> (try split) <;> rfl
  have h4 : lsT ax (setT 0 0 u) = lsT ax u := ls_set ax 0 0 u
  have h5 : ajE ax b (setT 0 0 u) = 0 := by
    rw [aj_do ⟨h1, (axB_iff ax).2 hax⟩, h2, h3, h4]
    unfold gvT at hg hb'
    exact if_neg (by omega)
  have hw : (adjR ax b u.r).w ≤ 10000 ∧ (adjR ax b u.r).h ≤ 10000 := by
    rcases hax with rfl | rfl
    · show u.r.w + b ≤ 10000 ∧ u.r.h ≤ 10000
      have : szA u.r 1 = u.r.w := rfl
      omega
    · show u.r.w ≤ 10000 ∧ u.r.h + b ≤ 10000
      have : szA u.r 2 = u.r.h := rfl
      omega
  refine ⟨?_, adj_tile hax hs ht hb (by omega) (by omega) (by omega) (by omega), ?_, ?_, ?_⟩
  · unfold adjO
    rw [if_pos h5]
    unfold ajT
    rw [set_r]
    exact adj_set ax b 0 0 0 0 u
  · rw [set_szA, adjT_r, szA_adj hax]
  · rw [gv_set, gv_adj hax]
  · rw [setT_sz, adjT_sz]

theorem bw_is {ax : Int} {ks : List T} : ∀ {n : Nat}, n ≤ ks.length → 0 ≤ bwN ax ks n → ∃ (j : Nat) (u : T), bwN ax ks n = j ∧ j < n ∧ ks[j]? = some u ∧ 0 < gvT ax u
  | 0, _, h => by rw [bwN] at h; omega
  | n + 1, hn, h => by
    obtain ⟨u, hu⟩ : ∃ u, ks[n]? = some u := ⟨_, List.getElem?_eq_getElem (by omega)⟩
    by_cases hg : 0 < gvT ax u
    · exact ⟨n, u, bw_yes hu hg, by omega, hu, hg⟩
    · rw [bw_no hu hg] at h ⊢
      obtain ⟨j, v, h1, h2, h3⟩ := bw_is (by omega) h
      exact ⟨j, v, h1, by omega, h3⟩
theorem fw_is {ax : Int} {ks : List T} (n : Nat) : ∀ {k : Nat}, ks.length ≤ k + n → 0 ≤ fwN ax (ks.drop k) k → ∃ (j : Nat) (u : T), fwN ax (ks.drop k) k = j ∧ k ≤ j ∧ ks[j]? = some u ∧ 0 < gvT ax u := by
  induction n with
  | zero => intro k hk h; rw [fw_end (by omega)] at h; omega
  | succ n ih =>
    intro k hk h
    by_cases hlt : k < ks.length
    · obtain ⟨u, hu⟩ : ∃ u, ks[k]? = some u := ⟨_, List.getElem?_eq_getElem hlt⟩
      by_cases hg : 0 < gvT ax u
      · exact ⟨k, u, fw_yes hu hg, Nat.le_refl _, hu, hg⟩
      · rw [fw_no hu hg] at h ⊢
        obtain ⟨j, v, h1, h2, h3⟩ := ih (k := k + 1) (by omega) h
        exact ⟨j, v, h1, by omega, h3⟩
    · rw [fw_end (by omega)] at h; omega
/-- The one that gets. -/
def getN (p : Nat) (up : Bool) : Nat := if up = true then p else p + 1
/-- The one that gives can, and is another one. -/
theorem giver_is {ax : Int} {ks : List T} {p : Nat} {up : Bool} (hp : p < ks.length) (h : 0 ≤ gvrN ax ks p up) : ∃ (j : Nat) (u : T), gvrN ax ks p up = j ∧ ks[j]? = some u ∧ 0 < gvT ax u ∧ j ≠ getN p up := by
  cases up with
  | true =>
    have e : gvrN ax ks p true = if 0 ≤ fwN ax (ks.drop (p + 1)) (p + 1) then fwN ax (ks.drop (p + 1)) (p + 1) else bwN ax ks p := rfl
    rw [e] at h ⊢
    have eg : getN p true = p := rfl
    rw [eg]
    by_cases h0 : 0 ≤ fwN ax (ks.drop (p + 1)) (p + 1)
    · rw [if_pos h0]
      obtain ⟨j, u, h1, h2, h3, h4⟩ := fw_is ks.length (by omega) h0
      exact ⟨j, u, h1, h3, h4, by omega⟩
    · rw [if_neg h0] at h ⊢
      obtain ⟨j, u, h1, h2, h3, h4⟩ := bw_is (by omega) h
      exact ⟨j, u, h1, h3, h4, by omega⟩
  | false =>
    have e : gvrN ax ks p false = bwN ax ks (p + 1) := rfl
    rw [e] at h ⊢
    have eg : getN p false = p + 1 := rfl
    rw [eg]
    obtain ⟨j, u, h1, h2, h3, h4⟩ := bw_is (by omega) h
    exact ⟨j, u, h1, h3, h4, by omega⟩

/-- What holds of a frame while its cells give and get. -/
structure PuInv (ax whole : Int) (N L : Nat) (X : T) : Prop where
  kids : ∀ (j : Nat) (u : T), X.kids[j]? = some u → tileB u = true ∧ sz u ≤ 990
  sum : (X.kids.map fun u => szA u.r ax).sum + X.kids.length = whole + 1
  sz : sz X = N
  len : X.kids.length = L
theorem with_inv {ax b whole : Int} (hax : ax = 1 ∨ ax = 2) {N L i : Nat} {X u : T} (h : PuInv ax whole N L X) (hu : X.kids[i]? = some u) (hb : canB ax b u) (hm : szA u.r ax + b ≤ 10000) :
    PuInv ax (whole + b) N L (withT ax b i X) ∧ (withT ax b i X).kids = X.kids.set i (setT 0 0 (adjT ax b u)) ∧ ((withT ax b i X).k = X.k ∧ (withT ax b i X).r = X.r ∧ (withT ax b i X).id = X.id) := by
  obtain ⟨h1, h2⟩ := h.kids i u hu
  obtain ⟨e1, e2, e3, e4, e5⟩ := adjO_is hax (by omega) h1 hb hm
  have hk : (withT ax b i X).kids = X.kids.set i (setT 0 0 (adjT ax b u)) := by
    unfold withT
    show X.kids.set i _ = _
    rw [List.getD_eq_getElem?_getD, hu]
    simp only [Option.getD_some]
    rw [e1]
  refine ⟨⟨fun j v hv => ?_, ?_, ?_, ?_⟩, hk, rfl, rfl, rfl⟩
  · rw [hk] at hv
    by_cases hij : i = j
    · subst hij
      rw [List.getElem?_set_self (List.getElem?_eq_some_iff.1 hu).1] at hv
      cases hv
      exact ⟨e2, by omega⟩
    · rw [List.getElem?_set_ne hij] at hv
      exact h.kids j v hv
  · rw [hk, List.map_set, List.length_set, isum_set (x := szA u.r ax) (by rw [List.getElem?_map, hu]; rfl), e3]
    have := h.sum; omega
  · have h9 := h.sz
    have hz : sz (withT ax b i X) = 1 + szL (withT ax b i X).kids := by rw [sz_node]
    rw [hz, hk, szL_set hu e5, ← h9, sz_node]
  · rw [hk, List.length_set]; exact h.len
/-- One step: i gives n, q gets it. -/
noncomputable def mvT (ax n : Int) (i q : Nat) (X : T) : T := withT ax n q (withT ax (-n) i X)
end Go.Proofs.Ytodcabaihhmhnaa
/- How much is given, and what stands behind it: the document's Leaf, in words. No walk. -/
namespace Go.Proofs.Ytodcabaihhmhnaa
open Go.RowKit Sh

theorem mem_le_isum {l : List Int} (h : ∀ x ∈ l, 0 ≤ x) {a : Int} (ha : a ∈ l) : a ≤ l.sum := by
  induction l with
  | nil => cases ha
  | cons x l ih =>
    have h1 : 0 ≤ l.sum := by
      clear ih ha
      induction l with
      | nil => simp
      | cons y l ih2 =>
        have := h y (by simp)
        have := ih2 fun z hz => h z (by
          rcases List.mem_cons.1 hz with rfl | hz
          · simp
          · simp [hz])
        rw [List.sum_cons]; omega
    have h2 := h x (List.mem_cons_self ..)
    rw [List.sum_cons]
    rcases List.mem_cons.1 ha with rfl | ha
    · omega
    · have := ih (fun z hz => h z (List.mem_cons_of_mem _ hz)) ha; omega
theorem pu_size {ax whole : Int} (hax : ax = 1 ∨ ax = 2) {N L j : Nat} {X v : T} (h : PuInv ax whole N L X) (hv : X.kids[j]? = some v) : 1 ≤ szA v.r ax ∧ szA v.r ax ≤ whole := by
  have h1 := fun (j : Nat) (v : T) (hv : X.kids[j]? = some v) => szA_pos (well_rect (tile_top (by have := (h.kids j v hv).2; omega) (h.kids j v hv).1).1) hax
  have h2 := mem_le_isum (l := X.kids.map fun u => szA u.r ax) (fun x hx => by
    obtain ⟨u, hu, rfl⟩ := List.mem_map.1 hx
    obtain ⟨k, hk⟩ := List.getElem?_of_mem hu
    have := h1 k u hk; omega) (List.mem_map.2 ⟨v, List.mem_of_getElem? hv, rfl⟩)
  have h3 := h.sum
  have h4 := (List.getElem?_eq_some_iff.1 hv).1
  exact ⟨(h1 j v hv).1, by omega⟩
theorem mv_inv {ax n whole : Int} (hax : ax = 1 ∨ ax = 2) {N L i q : Nat} {X u v : T} (h : PuInv ax whole N L X) (hw : whole ≤ 10000) (hu : X.kids[i]? = some u) (hv : X.kids[q]? = some v) (hiq : i ≠ q) (h0 : 0 ≤ n) (hn : n ≤ gvT ax u) :
    PuInv ax (whole - n) N L (withT ax (-n) i X) ∧ PuInv ax whole N L (mvT ax n i q X) ∧ ((mvT ax n i q X).k = X.k ∧ (mvT ax n i q X).r = X.r ∧ (mvT ax n i q X).id = X.id) ∧ ∃ v', (mvT ax n i q X).kids[q]? = some v' ∧ szA v'.r ax = szA v.r ax + n := by
  have hg := gv_bounds hax (by have := (h.kids i u hu).2; omega) (h.kids i u hu).1
  have hgv := gv_bounds hax (by have := (h.kids q v hv).2; omega) (h.kids q v hv).1
  have hz := pu_size hax h hu
  obtain ⟨a1, a2, a3⟩ := with_inv (b := -n) hax h hu (by unfold canB; omega) (by omega)
  have a1 : PuInv ax (whole - n) N L (withT ax (-n) i X) := by rw [show whole - n = whole + -n by omega]; exact a1
  have hv1 : (withT ax (-n) i X).kids[q]? = some v := by rw [a2, List.getElem?_set_ne hiq]; exact hv
  have hz1 := pu_size hax a1 hv1
  obtain ⟨b1, b2, b3⟩ := with_inv (b := n) hax a1 hv1 (by unfold canB; omega) (by omega)
  have b1 : PuInv ax whole N L (mvT ax n i q X) := by
    have e : whole - n + n = whole := by omega
    rw [e] at b1; exact b1
  refine ⟨a1, b1, ⟨b3.1.trans a3.1, b3.2.1.trans a3.2.1, b3.2.2.trans a3.2.2⟩, setT 0 0 (adjT ax n v), ?_, ?_⟩
  · show (withT ax n q (withT ax (-n) i X)).kids[q]? = _
    rw [b2, List.getElem?_set_self (List.getElem?_eq_some_iff.1 hv1).1]
  · exact (adjO_is hax (by have := (h.kids q v hv).2; omega) (h.kids q v hv).1 (by unfold canB; omega) (by omega)).2.2.1

/-- How much is given in one step. -/
noncomputable def nxN (ax a d : Int) (u : T) : Int := if a - d < gvT ax u then a - d else gvT ax u
/-- Step by step, until there is no more to give, or to get. -/
noncomputable def psT (ax : Int) (p : Nat) (up : Bool) (a : Int) : Nat → T → Int → T × Int
  | 0, X, d => (X, d)
  | f + 1, X, d => if d = a ∨ gvrN ax X.kids p up < 0 then (X, d) else
    psT ax p up a f (mvT ax (nxN ax a d (X.kids.getD (gvrN ax X.kids p up).toNat default)) (gvrN ax X.kids p up).toNat (getN p up) X) (d + nxN ax a d (X.kids.getD (gvrN ax X.kids p up).toNat default))
theorem ps_stop {ax a d : Int} {p : Nat} {up : Bool} {f : Nat} {X : T} (h : d = a ∨ gvrN ax X.kids p up < 0) : psT ax p up a f X d = (X, d) := by
  cases f with
  | zero => rfl
  | succ f => rw [psT, if_pos h]
theorem ps_step {ax a d : Int} {p i : Nat} {up : Bool} {f : Nat} {X u : T} (h1 : d ≠ a) (h2 : gvrN ax X.kids p up = i) (hu : X.kids[i]? = some u) : psT ax p up a (f + 1) X d = psT ax p up a f (mvT ax (nxN ax a d u) i (getN p up) X) (d + nxN ax a d u) := by
  have h3 : X.kids.getD (gvrN ax X.kids p up).toNat default = u := by rw [h2, Int.toNat_natCast, List.getD_eq_getElem?_getD, hu]; rfl
  rw [psT, if_neg (by omega), h3, h2, Int.toNat_natCast]

noncomputable def frP (id ax : Int) (t : T) : List Int := match findT id t with
  | none => []
  | some p => match frN ax t p p.length with
    | none => []
    | some n => p.take n
theorem frp_is {id ax : Int} {t : T} {p : List Int} {n : Nat} (hf : findT id t = some p) (hr : frN ax t p p.length = some n) : frP id ax t = p.take n := by
  unfold frP; rw [hf]; simp only; rw [hr]
noncomputable def puR (id ax : Int) (up : Bool) (a : Int) (t : T) : T × Int := psT ax (frX id ax t).2.toNat up a 20001 (frX id ax t).1 0
def absN (b : Int) : Int := if 0 < b then b else -b
noncomputable def puD (id ax b : Int) (t : T) : Int := (puR id ax (decide (0 < b)) (absN b) t).2
noncomputable def puE (id ax b : Int) (t : T) : Int := if fdE id ax t = 0 then (if puD id ax b t = 0 ∧ b ≠ 0 then 7 else 0) else fdE id ax t
noncomputable def puN (id ax b : Int) (t : T) : Int := if 0 < b then puD id ax b t else -puD id ax b t
noncomputable def puT (id ax b : Int) (t : T) : T := setT t.r.x t.r.y ((putT (puR id ax (decide (0 < b)) (absN b) t).1 t (frP id ax t)).getD zT)
def PuSays (id ax b : Int) (t : T) (w : World) (e : Ending) (w' : World) : Prop :=
  Below w.heap.size w w' ∧ ((puE id ax b t ≠ 0 ∧ e = .returned (.tuple #[cval noC, .int .i64 0, .int .i64 (puE id ax b t)])) ∨
    (puE id ax b t = 0 ∧ ∃ d, e = .returned (.tuple #[cval d, .int .i64 (puN id ax b t), .int .i64 0]) ∧ Stands (fun _ => True) w' w.heap.size w'.heap.size d (puT id ax b t)))
theorem pu_err {id ax b n : Int} {t : T} {w w' : World} (h : puE id ax b t = n) (h0 : n ≠ 0) (hb : Below w.heap.size w w') : PuSays id ax b t w (.returned (.tuple #[cval noC, .int .i64 0, .int .i64 n])) w' := by
  subst h; exact ⟨hb, .inl ⟨h0, rfl⟩⟩
theorem pu_ok {id ax b m : Int} {t t' : T} {w w' : World} {d : C} (h : puE id ax b t = 0) (hm : puN id ax b t = m) (ht : puT id ax b t = t') (hs : Stands (fun _ => True) w' w.heap.size w'.heap.size d t') (hb : Below w.heap.size w w') : PuSays id ax b t w (.returned (.tuple #[cval d, .int .i64 m, .int .i64 0])) w' := by
  subst hm; subst ht; exact ⟨hb, .inr ⟨h, d, rfl, hs⟩⟩

/-- What holds of a frame when it is found. -/
theorem pu_start {ax : Int} (hax : ax = 1 ∨ ax = 2) {y : T} (hs : sz y ≤ 990) (ht : tileB y = true) (ha : alB y.k ax = true) : PuInv ax (szA y.r ax) (sz y) y.kids.length y ∧ szA y.r ax ≤ 10000 ∧ 2 ≤ y.kids.length := by
  have hk : y.k ≠ 1 := fun h => by rw [al_not h] at ha; cases ha
  obtain ⟨hw, hf⟩ := tile_top (by omega) ht
  have h1 := (fit_kids hw hf hk ax hax).1 ha
  have h2 := szA_pos (well_rect hw) hax
  refine ⟨⟨fun j u hu => ⟨tile_kid (by omega) ht hu, by have := sz_kid hu; omega⟩, ?_, rfl, rfl⟩, by omega, kids_two (by omega) ht hk⟩
  unfold szS at h1
  exact h1
end Go.Proofs.Ytodcabaihhmhnaa
/- A frame while its cells give and get: what stands, where. No walk. -/
namespace Go.Proofs.Ytodcabaihhmhnaa
open Go.RowKit Sh

theorem fr_al {ax : Int} {t x : T} {p : List Int} : ∀ {m n : Nat}, frN ax t p m = some n → atT t (p.take n) = some x → alB x.k ax = true
  | 0, n, h, _ => by rw [frN] at h; cases h
  | m + 1, n, h, hx => by
    rw [frN] at h
    cases ha : atT t (p.take m) with
    | none => rw [ha] at h; exact fr_al h hx
    | some y =>
      rw [ha] at h
      simp only at h
      by_cases hy : alB y.k ax = true
      · rw [if_pos hy] at h; cases h; rw [ha] at hx; cases hx; exact hy
      · rw [if_neg hy] at h; exact fr_al h hx
theorem plc_in {id k : Int} {t y : T} {p : List Int} {n : Nat} (hf : findT id t = some p) (hy : atT t (p.take n) = some y) (hk : p[n]? = some k) (h2 : 2 ≤ y.kids.length) : ∃ P : Nat, plcN y k = P ∧ P + 1 < y.kids.length := by
  obtain ⟨u', hu', -⟩ := find_there hf
  have h1 : atT t (p.take (n + 1)) = kidAt y k := by rw [take_snoc hk, atT_append, hy]; simp only [atT]; cases kidAt y k <;> rfl
  obtain ⟨z, hz⟩ := at_take hu' (n + 1)
  rw [hz] at h1
  obtain ⟨j, rfl, hj⟩ := kid_some h1.symm
  have hj2 := (List.getElem?_eq_some_iff.1 hj).1
  unfold plcN
  by_cases hl : (j : Int) = (y.kids.length : Int) - 1
  · rw [if_pos hl]; exact ⟨j - 1, by omega, by omega⟩
  · rw [if_neg hl]; exact ⟨j, rfl, by omega⟩

structure PuSt (w4 : World) (d : C) (cs : List C) (X : T) (W : World) : Prop where
  below : Below w4.heap.size w4 W
  box : Box7 W w4.heap.size d
  top : TopC d cs X
  fix : FixT (Eld w4) W (w4.heap.size + 1) W.heap.size d cs X
theorem PuSt.up {w4 W W' : World} {d : C} {cs : List C} {X : T} (h : PuSt w4 d cs X W) (hb : Below W.heap.size W W') : PuSt w4 d cs X W' := ⟨h.below.trans (hb.mono h.below.size), h.box.up hb, h.top, h.fix.up hb⟩
theorem pu_new {w4 : World} {d : C} {cs : List C} {y : T} (h1 : TopC d cs y) (h2 : Std d cs y w4) : PuSt w4 d cs y (w4.alloc (cbox d)) :=
  ⟨(Below.refl _ _).alloc (Nat.le_refl _) _, Box7.new w4 d, h1, fun W' hE _ => ⟨crow_same h2.1 hE, h2.2.1, fun j x u hx hu => (h2.2.2 j x u hx hu).same hE⟩⟩
theorem PuSt.std {w4 W : World} {d : C} {cs : List C} {X : T} (h : PuSt w4 d cs X W) : Std d cs X W := h.fix.std (Eld.of h.below)
theorem PuSt.is {w4 W : World} {d : C} {cs : List C} {X : T} (h : PuSt w4 d cs X W) : Is W d X := h.std.is h.top
theorem PuSt.lt {w4 W : World} {d : C} {cs : List C} {X : T} (h : PuSt w4 d cs X W) : w4.heap.size + 1 ≤ W.heap.size := lt_of_block h.box
/-- What two steps made is put in its place. -/
theorem pu_put {w4 W W1 W5 W6 : World} {d d1 d2 : C} {cs cs1 cs2 : List C} {X X1 X2 : T} (h : PuSt w4 d cs X W) (hb : Below W.heap.size W W1) (h1 : FixT (Std d cs X) W5 W1.heap.size W5.heap.size d1 cs1 X1) (hb1 : Below W1.heap.size W1 W5) (ht : TopC d2 cs2 X2) (h2 : FixT (Std d1 cs1 X1) W6 W5.heap.size W6.heap.size d2 cs2 X2) (hb2 : Below W5.heap.size W5 W6) : PuSt w4 d2 cs2 X2 (put7 W6 w4.heap.size d2) := by
  have hl := h.lt
  have e1 := hb.size
  have e2 := hb1.size
  have e3 := hb2.size
  have b1 : Below W.heap.size W W5 := hb.trans (hb1.mono hb.size)
  have b2 : Below W.heap.size W W6 := b1.trans (hb2.mono b1.size)
  have k1 := h.fix.trans h1 (fun k _ hk => b1.block k hk) (by omega) (by omega)
  have k2 := k1.trans h2 (fun k _ hk => hb2.block k hk) (by omega) (by omega)
  refine ⟨below_put7 (h.below.trans (b2.mono h.below.size)) (Nat.le_refl _) d2, (h.box.up b2).put d2, ht, ?_⟩
  exact (k2.move (w2 := put7 W6 w4.heap.size d2) fun k hk _ => heap_put7 (by omega)).wide (Nat.le_refl _) (by rw [size_put7]; exact Nat.le_refl _)

theorem nx_in {ax a d : Int} {u : T} (h1 : d < a) (h2 : 0 < gvT ax u) : 0 < nxN ax a d u ∧ nxN ax a d u ≤ gvT ax u ∧ d + nxN ax a d u ≤ a := by
  unfold nxN; split <;> omega
/-- What a step reads: a cell in its box, and a number. -/
abbrev Pz (h g : Nat) (d : C) (P : Nat) (W : World) : Prop := W.cell? ⟨h, 0, none⟩ = some (.int .u8 d.k) ∧ W.cell? ⟨h, 1, none⟩ = some (.int .i64 d.r.x) ∧ W.cell? ⟨h, 2, none⟩ = some (.int .i64 d.r.y) ∧ W.cell? ⟨h, 3, none⟩ = some (.int .i64 d.r.w) ∧ W.cell? ⟨h, 4, none⟩ = some (.int .i64 d.r.h) ∧ W.cell? ⟨h, 5, none⟩ = some (.int .i64 d.id) ∧ W.cell? ⟨h, 6, none⟩ = some (.slice d.a d.n d.cap) ∧ W.cell? ⟨g, 1, none⟩ = some (.int .i64 (P : Int))
theorem pz_of {h g : Nat} {d : C} {P : Nat} {W : World} (h1 : CAt W h 0 d) (h2 : W.cell? ⟨g, 1, none⟩ = some (.int .i64 (P : Int))) : Pz h g d P W := by
  obtain ⟨c0, c1, c2, c3, c4, c5, c6⟩ := c7_of h1
  exact ⟨c0, c1, c2, c3, c4, c5, c6, h2⟩
theorem pz_up {h g : Nat} {d : C} {P : Nat} {W W' : World} (z : Pz h g d P W) (hb : Below W.heap.size W W') : Pz h g d P W' := by
  obtain ⟨h0, h1, h2, h3, h4, h5, h6, h7⟩ := z
  exact ⟨(hb.cell (lt_of_cell h0)).trans h0, (hb.cell (lt_of_cell h1)).trans h1, (hb.cell (lt_of_cell h2)).trans h2, (hb.cell (lt_of_cell h3)).trans h3, (hb.cell (lt_of_cell h4)).trans h4, (hb.cell (lt_of_cell h5)).trans h5, (hb.cell (lt_of_cell h6)).trans h6, (hb.cell (lt_of_cell h7)).trans h7⟩
theorem box_drew {W : World} {g : Nat} {c : C} (h : Box7 W g c) : Box7 W.drew g c := h

set_option maxRecDepth 100000 in
theorem results_k3 {fn : Func} {p u u2 : Tmp} (h : fn.results = #[.cell p 26, .tmp u, .tmp u2]) (tmps : Array Value) (w : World) (g : Nat) (c : C) (hp : tmps.getD p undef = .pointer (some ⟨g, 0, none⟩)) (hg : Box7 w g c) :
    (results fn tmps).run Try.prog w = .ok (.tuple #[cval c, tmps.getD u undef, tmps.getD u2 undef]) w := by
  have hg' : w.heap[g]? = some (cbox c) := hg
  have hl := run_loadVar_row (P := Try.prog) w g 26 26 _ (0, 0) _ hg' Try.underlying26 rfl (by kernel_rfl)
  have hp' : tmps[p]?.getD undef = .pointer (some ⟨g, 0, none⟩) := by simpa using hp
  simp only [results, h]
  simp [Sem.run_bind, asAddr, Result.andThen]
  rw [hp']
  simp [hl]
end Go.Proofs.Ytodcabaihhmhnaa
