/- Texts of this seat, 3 in one file. -/
import Derived.Test.YtcdiogifgemjbaaGreatG22
import Derived.Test.YtcdiogifgemjbaaGreatG21
import Derived.Test.YtcdiogifgemjbaaGreatG06
import Derived.Test.YtcdiogifgemjbaaGreatG04
/- Shares are even, and together what was asked for. No walk. -/
namespace Go.Proofs.YtcdiogifgemjbaaGreat
open Go.RowKit Sh

theorem nsum_take (l : List Nat) (j : Nat) : (l.take j).sum ≤ l.sum := by
  have := congrArg List.sum (List.take_append_drop j l)
  rw [List.sum_append] at this
  omega
theorem nsum_mem {l : List Nat} {i a : Nat} (h : l[i]? = some a) : a ≤ l.sum := by
  have h1 := nsum_take l (i + 1)
  rw [List.take_add_one, h, List.sum_append] at h1
  simp at h1; omega
theorem natI_sum (l : List Nat) : (natI l).sum = (l.sum : Int) := by
  induction l with
  | nil => rfl
  | cons a l ih => simp only [natI, List.map_cons, List.sum_cons] at *; omega
theorem negI_sum (l : List Nat) : (negI l).sum = -(l.sum : Int) := by
  induction l with
  | nil => rfl
  | cons a l ih => simp only [negI, List.map_cons, List.sum_cons] at *; omega
theorem natI_take (l : List Nat) (j : Nat) : (natI l).take j = natI (l.take j) := by simp [natI, List.map_take]
theorem negI_take (l : List Nat) (j : Nat) : (negI l).take j = negI (l.take j) := by simp [negI, List.map_take]
theorem natI_at {l : List Nat} {i : Nat} {x : Int} (h : (natI l)[i]? = some x) : ∃ a, l[i]? = some a ∧ x = (a : Int) := by
  unfold natI at h
  rw [List.getElem?_map, Option.map_eq_some_iff] at h
  obtain ⟨a, ha, rfl⟩ := h
  exact ⟨a, ha, rfl⟩
theorem negI_at {l : List Nat} {i : Nat} {x : Int} (h : (negI l)[i]? = some x) : ∃ a, l[i]? = some a ∧ x = -(a : Int) := by
  unfold negI at h
  rw [List.getElem?_map, Option.map_eq_some_iff] at h
  obtain ⟨a, ha, rfl⟩ := h
  exact ⟨a, ha, rfl⟩
theorem out_get {g : Option (List Nat)} {n m i a : Nat} (h : (out g n m)[i]? = some a) : i < n ∧ a = cap g i (vis n m i) := by
  have hi : i < n := by
    rcases Nat.lt_or_ge i n with hi | hi
    · exact hi
    · rw [List.getElem?_eq_none (by rw [out_len]; exact hi)] at h; cases h
  rw [out_at g hi] at h
  exact ⟨hi, (Option.some.inj h).symm⟩

structure Ev (b : Int) (gs l : List Int) : Prop where
  len : l.length = gs.length
  sum : l.sum = b
  small : ∀ (i : Nat) (x : Int), l[i]? = some x → -3000 ≤ x ∧ x ≤ 3000
  part : ∀ j, -3000 ≤ (l.take j).sum ∧ (l.take j).sum ≤ 3000
  more : 0 ≤ b → ∀ (i k : Nat) (x y : Int), l[i]? = some x → l[k]? = some y → 0 ≤ x ∧ x ≤ y + 1
  less : b < 0 → ∀ (i k : Nat) (x y g : Int), l[i]? = some x → l[k]? = some y → gs[i]? = some g → x ≤ 0 ∧ (y + 1 < x → x = -g)
  can : ∀ (i : Nat) (x g : Int), l[i]? = some x → gs[i]? = some g → x < 0 → -x ≤ g

theorem ev_of {b : Int} {gs l : List Int} (hok : okS b gs) (hb : -3000 ≤ b ∧ b ≤ 3000) (h : ShIs b gs l) : Ev b gs l := by
  have hlen := h.len
  obtain ⟨hne, hgd, -, -, -⟩ := hok
  have hn : 0 < gs.length := List.length_pos_iff.2 hne
  rcases h with ⟨h0, rfl⟩ | ⟨h0, m, rfl, hm⟩
  · have hs := give_sum hn b.toNat
    refine ⟨hlen, by rw [natI_sum, hs]; omega, fun i x hx => ?_, fun j => ?_, fun _ i k x y hx hy => ?_, fun h1 => by omega, fun i x g hx hg hlt => ?_⟩
    · obtain ⟨a, ha, rfl⟩ := natI_at hx
      have := nsum_mem ha
      omega
    · rw [natI_take, natI_sum]
      have := nsum_take (out none gs.length b.toNat) j
      omega
    · obtain ⟨a, ha, rfl⟩ := natI_at hx
      obtain ⟨c, hc, rfl⟩ := natI_at hy
      obtain ⟨-, rfl⟩ := out_get ha
      obtain ⟨-, rfl⟩ := out_get hc
      have := vis_near (n := gs.length) (m := b.toNat) (i := i) (k := k)
      unfold cap
      simp only
      omega
    · obtain ⟨a, ha, rfl⟩ := natI_at hx
      omega
  · have hll : (gs.map Int.toNat).length = gs.length := by simp
    have hgt : ∀ (i : Nat) (g : Int), gs[i]? = some g → (((gs.map Int.toNat).getD i 0 : Nat) : Int) = g := fun i g hg => by
      have hgg := hgd g (List.mem_of_getElem? hg)
      rw [List.getD_eq_getElem?_getD, List.getElem?_map, hg]
      simp only [Option.map_some, Option.getD_some]
      omega
    refine ⟨hlen, by rw [negI_sum, hm]; omega, fun i x hx => ?_, fun j => ?_, fun h1 => by omega, fun _ i k x y g hx hy hg => ?_, fun i x g hx hg hlt => ?_⟩
    · obtain ⟨a, ha, rfl⟩ := negI_at hx
      have := nsum_mem ha
      omega
    · rw [negI_take, negI_sum]
      have := nsum_take (out (some (gs.map Int.toNat)) gs.length m) j
      omega
    · obtain ⟨a, ha, rfl⟩ := negI_at hx
      obtain ⟨c, hc, rfl⟩ := negI_at hy
      obtain ⟨-, rfl⟩ := out_get ha
      obtain ⟨-, rfl⟩ := out_get hc
      refine ⟨by omega, fun hlt => ?_⟩
      have := take_near (l := gs.map Int.toNat) (m := m) (i := i) (k := k)
      rw [hll] at this
      rw [this (by omega), hgt i g hg]
    · obtain ⟨a, ha, rfl⟩ := negI_at hx
      obtain ⟨-, rfl⟩ := out_get ha
      have h1 : cap (some (gs.map Int.toNat)) i (vis gs.length m i) ≤ (gs.map Int.toNat).getD i 0 := by unfold cap; simp only; omega
      have h2 := hgt i g hg
      omega
end Go.Proofs.YtcdiogifgemjbaaGreat
/- A tree that is adjusted: in words; what each kid is asked for, it can do. No walk. -/
namespace Go.Proofs.YtcdiogifgemjbaaGreat
open Go.RowKit Sh

/-- What is given is at most what is asked, what is taken at most what can be given. -/
theorem sh_bounds {b : Int} {gs l : List Int} (hok : okS b gs) (h : ShIs b gs l) {i : Nat} {x g : Int} (hx : l[i]? = some x) (hg : gs[i]? = some g) : -g ≤ x ∧ (x ≤ 0 ∨ x ≤ b) := by
  obtain ⟨hne, hgd, -, -, -⟩ := hok
  have hn : 0 < gs.length := List.length_pos_iff.2 hne
  have hgg := hgd g (List.mem_of_getElem? hg)
  rcases h with ⟨h0, rfl⟩ | ⟨h0, m, rfl, hm⟩
  · have hs := give_sum hn b.toNat
    obtain ⟨a, ha, rfl⟩ := natI_at hx
    have := nsum_mem ha
    omega
  · have hll : (gs.map Int.toNat).length = gs.length := by simp
    have hgt : (((gs.map Int.toNat).getD i 0 : Nat) : Int) = g := by
      rw [List.getD_eq_getElem?_getD, List.getElem?_map, hg]
      simp only [Option.map_some, Option.getD_some]
      omega
    obtain ⟨a, ha, rfl⟩ := negI_at hx
    obtain ⟨-, rfl⟩ := out_get ha
    have h1 : cap (some (gs.map Int.toNat)) i (vis gs.length m i) ≤ (gs.map Int.toNat).getD i 0 := by unfold cap; simp only; omega
    omega

open Classical in
noncomputable def shL (b : Int) (gs : List Int) : List Int := if h : ∃ l, ShIs b gs l then h.choose else []
theorem shL_of {b : Int} {gs l : List Int} (h : ShIs b gs l) : shL b gs = l := by
  have hx : ∃ l, ShIs b gs l := ⟨l, h⟩
  unfold shL
  rw [dif_pos hx]
  exact hx.choose_spec.one h
noncomputable def shF (k ax b : Int) (gs : List Int) (j : Nat) : Int := if alB k ax = true then (shL b gs).getD j 0 else b
def adjR (ax b : Int) (r : R) : R := if ax = 1 then ⟨r.x, r.y, r.w + b, r.h⟩ else ⟨r.x, r.y, r.w, r.h + b⟩
mutual
noncomputable def adjT (ax b : Int) : T → T
  | .node k r i l => .node k (adjR ax b r) i (adjL ax (shF k ax b (l.map (gvT ax))) l)
noncomputable def adjL (ax : Int) (s : Nat → Int) : List T → List T
  | [] => []
  | t :: l => adjT ax (s 0) t :: adjL ax (fun j => s (j + 1)) l
end
theorem adjT_eq (ax b : Int) (t : T) : adjT ax b t = .node t.k (adjR ax b t.r) t.id (adjL ax (shF t.k ax b (t.kids.map (gvT ax))) t.kids) := by cases t; rw [adjT]; rfl
theorem adjL_len (ax : Int) (l : List T) : ∀ s : Nat → Int, (adjL ax s l).length = l.length := by
  induction l with
  | nil => intro s; simp [adjL]
  | cons t l ih => intro s; simp [adjL, ih]
theorem adjL_snoc (ax : Int) (t : T) (l : List T) : ∀ s : Nat → Int, adjL ax s (l ++ [t]) = adjL ax s l ++ [adjT ax (s l.length) t] := by
  induction l with
  | nil => intro s; simp [adjL]
  | cons u l ih => intro s; simp only [List.cons_append, adjL]; rw [ih]; simp
theorem adjL_step {ax : Int} {s : Nat → Int} {l : List T} {j : Nat} {t : T} (h : l[j]? = some t) : adjL ax s (l.take (j + 1)) = adjL ax s (l.take j) ++ [adjT ax (s j) t] := by
  have hj := (List.getElem?_eq_some_iff.1 h).1
  have h1 : l.take (j + 1) = l.take j ++ [t] := by rw [List.take_add_one, h]; rfl
  rw [h1, adjL_snoc, List.length_take, Nat.min_eq_left (by omega)]
mutual
theorem adjT_sz (ax : Int) : ∀ (b : Int) (t : T), sz (adjT ax b t) = sz t
  | b, .node k r i l => by rw [adjT, sz, sz, adjL_sz ax _ l]
theorem adjL_sz (ax : Int) : ∀ (s : Nat → Int) (l : List T), szL (adjL ax s l) = szL l
  | s, [] => by simp [adjL]
  | s, t :: l => by rw [adjL, szL, szL, adjT_sz ax (s 0) t, adjL_sz ax (fun j => s (j + 1)) l]
end

theorem lsX_ge {ax : Int} {l : List T} {u : T} (h : u ∈ l) : lsT ax u ≤ lsX ax l := by
  induction l with
  | nil => cases h
  | cons t l ih =>
    rw [lsX]
    rcases List.mem_cons.1 h with rfl | h
    · omega
    · have := ih h; omega
theorem toNat_sum {l : List Int} (h : ∀ g ∈ l, 0 ≤ g) : ((l.map Int.toNat).sum : Int) = l.sum := by
  induction l with
  | nil => rfl
  | cons g l ih =>
    have h1 := ih fun x hx => h x (List.mem_cons_of_mem _ hx)
    have h2 := h g (List.mem_cons_self ..)
    simp only [List.map_cons, List.sum_cons]
    omega

/-- What a tree that tiles can be asked for. -/
def canB (ax b : Int) (t : T) : Prop := -gvT ax t ≤ b ∧ b ≤ 10000
theorem gv_bounds {ax : Int} (hax : ax = 1 ∨ ax = 2) {t : T} (hs : sz t ≤ 20000) (ht : tileB t = true) : 0 ≤ gvT ax t ∧ gvT ax t ≤ 10000 := by
  have h1 := tile_ls hax (sz t) t (Nat.le_refl _) hs ht
  have h2 := ls_pos ax t
  have h3 := szA_pos (well_rect (tile_top hs ht).1) hax
  unfold gvT
  omega
theorem kids_two {t : T} (hs : sz t ≤ 20000) (ht : tileB t = true) (hk : t.k ≠ 1) : 2 ≤ t.kids.length := by
  have hw := (tile_top hs ht).1
  unfold wellT wellB at hw
  simp only [Bool.and_eq_true, Bool.or_eq_true, decide_eq_true_eq] at hw
  omega
theorem leaf_none {t : T} (hs : sz t ≤ 20000) (ht : tileB t = true) (hk : t.k = 1) : t.kids = [] := by
  have hw := (tile_top hs ht).1
  unfold wellT wellB at hw
  simp only [Bool.and_eq_true, Bool.or_eq_true, decide_eq_true_eq] at hw
  exact List.length_eq_zero_iff.1 (by omega)
theorem al_not {k ax : Int} (h : k = 1) : alB k ax = false := by subst h; simp [alB]
/-- Along its kids' own axis: shares can be told. -/
theorem can_ok {ax b : Int} (hax : ax = 1 ∨ ax = 2) {t : T} (hs : sz t ≤ 20000) (ht : tileB t = true) (hb : canB ax b t) (ha : alB t.k ax = true) : okS b (t.kids.map (gvT ax)) := by
  have hk : t.k ≠ 1 := fun h => by rw [al_not h] at ha; cases ha
  have h2 := kids_two hs ht hk
  have hg := gv_bounds hax hs ht
  have hkid : ∀ g ∈ t.kids.map (gvT ax), 0 ≤ g ∧ g ≤ 10000 := fun g hg => by
    obtain ⟨u, hu, rfl⟩ := List.mem_map.1 hg
    obtain ⟨j, hj⟩ := List.getElem?_of_mem hu
    have := sz_kid hj
    exact gv_bounds hax (by omega) (tile_kid hs ht hj)
  refine ⟨fun e => ?_, fun g hg => ?_, ?_, ?_, fun h0 => ?_⟩
  · have h5 := congrArg List.length e
    rw [List.length_map, List.length_nil] at h5
    omega
  · have := hkid g hg; omega
  · unfold canB at hb; omega
  · unfold canB at hb; omega
  · have h3 := toNat_sum (l := t.kids.map (gvT ax)) fun g hg => (hkid g hg).1
    have h4 := gives_sum hax hs ht hk ha
    unfold gvS at h4
    unfold canB at hb
    omega
/-- What each kid is asked for, it can do. -/
theorem can_kid {ax b : Int} (hax : ax = 1 ∨ ax = 2) {t u : T} {j : Nat} (hs : sz t ≤ 20000) (ht : tileB t = true) (hb : canB ax b t) (hj : t.kids[j]? = some u) (hsh : alB t.k ax = true → ∃ l, ShIs b (t.kids.map (gvT ax)) l) : canB ax (shF t.k ax b (t.kids.map (gvT ax)) j) u := by
  have hk : t.k ≠ 1 := fun h => by
    have := leaf_none hs ht h
    rw [this] at hj; simp at hj
  cases ha : alB t.k ax with
  | true =>
    obtain ⟨l, hl⟩ := hsh ha
    have hok := can_ok hax hs ht hb ha
    have hgj : (t.kids.map (gvT ax))[j]? = some (gvT ax u) := by rw [List.getElem?_map, hj]; rfl
    have hjl : j < l.length := by
      rw [hl.len]
      exact (List.getElem?_eq_some_iff.1 hgj).1
    have hx := List.getElem?_eq_getElem hjl
    have h1 := sh_bounds hok hl hx hgj
    unfold shF
    rw [if_pos ha, shL_of hl, List.getD_eq_getElem?_getD, hx]
    unfold canB at hb ⊢
    simp only [Option.getD_some]
    omega
  | false =>
    have h1 := (fit_kids (tile_top hs ht).1 (tile_top hs ht).2 hk ax hax).2 ha j u hj
    have h2 := lsX_ge (ax := ax) (List.mem_of_getElem? hj)
    have h3 := ls_no (t := t) ha
    have h4 := ls_pos ax u
    unfold shF
    rw [if_neg (by rw [ha]; decide)]
    unfold canB gvT at *
    omega
theorem adjR_in {ax b : Int} (hax : ax = 1 ∨ ax = 2) {t : T} (hs : sz t ≤ 20000) (ht : tileB t = true) (hb : canB ax b t) : (adjR ax b t.r).fits ∧ -30000 ≤ t.r.w + b ∧ t.r.w + b ≤ 30000 ∧ -30000 ≤ t.r.h + b ∧ t.r.h + b ≤ 30000 := by
  have h1 := may_rect (well_rect (tile_top hs ht).1)
  have h2 := gv_bounds hax hs ht
  unfold canB at hb
  unfold adjR
  refine ⟨?_, by omega, by omega, by omega, by omega⟩
  split
  · refine ⟨?_, ?_, ?_, ?_⟩ <;> (unfold fits; simp only; omega)
  · refine ⟨?_, ?_, ?_, ?_⟩ <;> (unfold fits; simp only; omega)
end Go.Proofs.YtcdiogifgemjbaaGreat
/- Trees that stand as long as certain blocks do; rows of such trees, how they are made, added to. No walk. -/
namespace Go.Proofs.YtcdiogifgemjbaaGreat
open Go.RowKit

theorem block_size {W W' : World} {n : Nat} (hn : n ≤ W.heap.size) (h : ∀ k, k < n → W'.heap[k]? = W.heap[k]?) : n ≤ W'.heap.size := by
  rcases Nat.eq_zero_or_pos n with h0 | h0
  · omega
  · have h1 := h (n - 1) (by omega)
    rw [Array.getElem?_eq_getElem (show n - 1 < W.heap.size by omega)] at h1
    have := (Array.getElem?_eq_some_iff.1 h1).1
    omega
theorem crow_same {w w' : World} {v : Value} {cs : List C} (h : CRow w v cs) (hk : ∀ b, b < w.heap.size → w'.heap[b]? = w.heap[b]?) : CRow w' v cs := by
  have h2 : Below w.heap.size w { w with heap := w'.heap } := ⟨rfl, rfl, rfl, block_size (Nat.le_refl _) hk, hk⟩
  have h3 : CRow { w with heap := w'.heap } v cs := h.up h2
  exact h3
theorem Is.same {w w' : World} {c : C} {t : T} (h : Is w c t) (hk : ∀ b, b < w.heap.size → w'.heap[b]? = w.heap[b]?) : Is w' c t := by
  induction h with
  | mk c kids cs row len fine each ih => exact .mk c kids cs (crow_same row hk) len fine ih

/-- The elder memory stands. -/
def Eld (w0 W : World) : Prop := ∀ k, k < w0.heap.size → W.heap[k]? = w0.heap[k]?
theorem Eld.of {w0 W : World} (h : Below w0.heap.size w0 W) : Eld w0 W := h.block
theorem Eld.up {w0 W W' : World} (h : Eld w0 W) (hb : Below W.heap.size W W') : Eld w0 W' := fun k hk => by
  have h1 := h k hk
  rw [Array.getElem?_eq_getElem hk] at h1
  exact (hb.block k (Array.getElem?_eq_some_iff.1 h1).1).trans (h k hk)

/-- It is the tree in every world that is so, and has w's blocks from lo to hi. -/
def Stands (E : World → Prop) (w : World) (lo hi : Nat) (d : C) (t : T) : Prop := ∀ W' : World, E W' → (∀ k, lo ≤ k → k < hi → W'.heap[k]? = w.heap[k]?) → Is W' d t
theorem Stands.is {E : World → Prop} {w : World} {lo hi : Nat} {d : C} {t : T} (h : Stands E w lo hi d t) (hE : E w) : Is w d t := h w hE (fun _ _ _ => rfl)
theorem Stands.of {E : World → Prop} {w0 w : World} {lo hi : Nat} {d : C} {t : T} (h : Is w0 d t) (hE : ∀ W, E W → Eld w0 W) : Stands E w lo hi d t :=
  fun W' h0 _ => h.same (hE W' h0)
theorem Stands.move {E : World → Prop} {w w2 : World} {lo hi : Nat} {d : C} {t : T} (h : Stands E w lo hi d t) (h1 : ∀ k, lo ≤ k → k < hi → w2.heap[k]? = w.heap[k]?) : Stands E w2 lo hi d t :=
  fun W' g0 g1 => h W' g0 fun k hl hh => (g1 k hl hh).trans (h1 k hl hh)
theorem Stands.wide {E : World → Prop} {w : World} {lo hi lo' hi' : Nat} {d : C} {t : T} (h : Stands E w lo hi d t) (hl : lo' ≤ lo) (hh : hi ≤ hi') : Stands E w lo' hi' d t :=
  fun W' g0 g1 => h W' g0 fun k hl' hh' => g1 k (by omega) (by omega)
theorem Stands.up {E : World → Prop} {w w2 : World} {lo hi : Nat} {d : C} {t : T} (h : Stands E w lo hi d t) (hb : Below w.heap.size w w2) (hh : hi ≤ w.heap.size) : Stands E w2 lo hi d t :=
  h.move fun k _ hk => hb.block k (by omega)
/-- A leaf whose row is none stands everywhere. -/
theorem Stands.leaf {E : World → Prop} {w : World} {lo hi : Nat} {k : Int} {r : R} {id : Int} (hk : 0 ≤ k ∧ k ≤ 255) (hr : r.fits) (hi' : fits id) : Stands E w lo hi ⟨k, r, id, none, 0, 0⟩ (.node k r id []) :=
  fun _ _ _ => .mk ⟨k, r, id, none, 0, 0⟩ [] [] (.inl ⟨_, _, rfl, rfl⟩) rfl ⟨hk, hr, hi', by simp⟩ (fun j x t hx => by simp at hx)

/-- Trees in a row of the call's own; each stands as long as the elder ones do, and some blocks from base on, the row's own not among them. -/
structure Grove (E : World → Prop) (w : World) (base : Nat) (v : Value) (cs : List C) (l : List T) : Prop where
  row : OwnC w base v cs
  len : cs.length = l.length
  each : ∀ (j : Nat) (x : C) (t : T), cs[j]? = some x → l[j]? = some t → ∃ lo hi, base ≤ lo ∧ hi ≤ w.heap.size ∧ (∀ g, v.ownBlock = some g → g < lo ∨ hi ≤ g) ∧ Stands E w lo hi x t
theorem Grove.empty (E : World → Prop) (w : World) (base : Nat) (hb : base ≤ w.heap.size) : Grove E (w.alloc (.cells #[] 26)) base (.slice (some ⟨w.heap.size, 0, none⟩) 0 0) [] [] := ⟨OwnC.empty w base hb, rfl, fun j x t hx => by simp at hx⟩
theorem Grove.nil (E : World → Prop) (w : World) (base : Nat) : Grove E w base (.slice none 0 0) [] [] := ⟨OwnC.nil w base, rfl, fun j x t hx => by simp at hx⟩
theorem Grove.up {E : World → Prop} {w w2 : World} {base : Nat} {v : Value} {cs : List C} {l : List T} (h : Grove E w base v cs l) (hb : Below w.heap.size w w2) : Grove E w2 base v cs l :=
  ⟨h.row.up hb, h.len, fun j x t hx ht => by
    obtain ⟨lo, hi, a1, a2, a3, a4⟩ := h.each j x t hx ht
    exact ⟨lo, hi, a1, Nat.le_trans a2 hb.size, a3, a4.up hb a2⟩⟩
/-- Some more. -/
theorem Grove.add {E : World → Prop} {wr w2 w2' w3 : World} {base : Nat} {v : Value} {cs ds : List C} {l us : List T} {g cap : Nat}
    (h : Grove E wr base v cs l) (hb : Below wr.heap.size wr w2) (hb' : Below w2.heap.size w2 w2') (hdl : ds.length = us.length)
    (hd : ∀ (j : Nat) (x : C) (u : T), ds[j]? = some x → us[j]? = some u → ∃ lo hi, base ≤ lo ∧ (wr.heap.size ≤ lo ∨ hi ≤ lo) ∧ hi ≤ w2.heap.size ∧ Stands E w2 lo hi x u)
    (hown : OwnC w3 base (.slice (some ⟨g, 0, none⟩) (cs ++ ds).length cap) (cs ++ ds)) (hgr : w2'.grownBy w3 v.ownBlock) (hpl : v.ownBlock = some g ∨ g = w2'.heap.size) :
    Grove E w3 base (.slice (some ⟨g, 0, none⟩) (cs ++ ds).length cap) (cs ++ ds) (l ++ us) := by
  have hvb : ∀ k, v.ownBlock = some k → base ≤ k ∧ k < wr.heap.size := fun k hk => own_block h.row hk
  have hs := hb.size
  have hs' := hb'.size
  have hs3 := hgr.size
  have hsame : ∀ k, k < w2.heap.size → v.ownBlock ≠ some k → w3.heap[k]? = w2.heap[k]? := fun k hk hne => by
    rw [hgr.block k (by omega) (fun e => hne e.symm)]
    exact hb'.block k hk
  have hgo : ∀ k, (Value.slice (some ⟨g, 0, none⟩) (cs ++ ds).length cap).ownBlock = some k → k = g := fun k hk => by cases hk; rfl
  refine ⟨hown, by simp [h.len, hdl], fun j x t hx ht => ?_⟩
  rcases Nat.lt_or_ge j cs.length with hj | hj
  · rw [List.getElem?_append_left hj] at hx
    rw [List.getElem?_append_left (by rw [← h.len]; exact hj)] at ht
    obtain ⟨lo, hi, a1, a2, a3, a4⟩ := h.each j x t hx ht
    refine ⟨lo, hi, a1, by omega, fun k hk => ?_, a4.move fun k hl hh => ?_⟩
    · rw [hgo k hk]
      rcases hpl with hp | hp
      · exact a3 g hp
      · right; omega
    · rw [hsame k (by omega) (fun e => by have := a3 k e; omega)]
      exact hb.block k (by omega)
  · rw [List.getElem?_append_right hj] at hx
    rw [List.getElem?_append_right (by rw [← h.len]; exact hj), ← h.len] at ht
    obtain ⟨lo, hi, a1, a2, a3, a4⟩ := hd _ x t hx ht
    refine ⟨lo, hi, a1, by omega, fun k hk => ?_, a4.move fun k hl hh => ?_⟩
    · rw [hgo k hk]
      rcases hpl with hp | hp
      · have := hvb g hp; omega
      · right; omega
    · exact hsame k (by omega) fun e => by have := hvb k e; omega
/-- One more, that the call just made. -/
theorem Grove.one {E : World → Prop} {wr w2 w2' w3 : World} {base : Nat} {v : Value} {cs : List C} {l : List T} {d : C} {u : T} {g cap : Nat}
    (h : Grove E wr base v cs l) (hb : Below wr.heap.size wr w2) (hb' : Below w2.heap.size w2 w2') (hbase : base ≤ wr.heap.size)
    (hd : Stands E w2 wr.heap.size w2.heap.size d u)
    (hown : OwnC w3 base (.slice (some ⟨g, 0, none⟩) (cs ++ [d]).length cap) (cs ++ [d])) (hgr : w2'.grownBy w3 v.ownBlock) (hpl : v.ownBlock = some g ∨ g = w2'.heap.size) :
    Grove E w3 base (.slice (some ⟨g, 0, none⟩) (cs ++ [d]).length cap) (cs ++ [d]) (l ++ [u]) := by
  refine h.add hb hb' rfl (fun j x y hx hy => ?_) hown hgr hpl
  cases j with
  | zero => simp at hx hy; subst hx; subst hy; exact ⟨_, _, hbase, .inl (Nat.le_refl _), Nat.le_refl _, hd⟩
  | succ j => simp at hx
/-- The cell whose kids they are. -/
theorem Grove.tree {E : World → Prop} {w : World} {base : Nat} {k : Int} {r : R} {id : Int} {a : Option Addr} {n cap : Nat} {cs : List C} {l : List T} (h : Grove E w base (.slice a n cap) cs l) (hk : 0 ≤ k ∧ k ≤ 255) (hr : r.fits) (hi : fits id) (hl : l.length ≤ 1954687338211) :
    Stands E w base w.heap.size ⟨k, r, id, a, n, cap⟩ (.node k r id l) := by
  intro W' g0 g1
  have hn : n = cs.length := h.row.row.len
  refine .mk ⟨k, r, id, a, n, cap⟩ l cs (ownC_kept h.row fun g hg => ?_).row h.len ⟨hk, hr, hi, by show n ≤ _; rw [hn, h.len]; exact hl⟩ fun j x t hx ht => ?_
  · have := own_block h.row hg
    exact g1 g this.1 this.2
  · obtain ⟨lo, hi, a1, a2, a3, a4⟩ := h.each j x t hx ht
    exact a4 W' g0 fun k hl hh => g1 k (by omega) (by omega)
end Go.Proofs.YtcdiogifgemjbaaGreat
