/- Texts of this seat, 3 in one file. -/
import Derived.Test.YtodcabaihhmhnaaG27
import Derived.Test.YtodcabaihhmhnaaG29
import Derived.Test.YtodcabaihhmhnaaG08
import Derived.Test.YtodcabaihhmhnaaG18
import Derived.Test.YtodcabaihhmhnaaG09
import Derived.Test.YtodcabaihhmhnaaG17
/- A tree from which a leaf goes: what the document's walk keeps. No walk. -/
namespace Go.Proofs.Ytodcabaihhmhnaa
open Go.RowKit

mutual
theorem setT_sz (x y : Int) : ∀ t, sz (setT x y t) = sz t
  | .node k r i l => by
    rw [setT, sz, sz, setL_sz k x y l]
theorem setL_sz (k x y : Int) : ∀ l, szL (setL k x y l) = szL l
  | [] => by rw [setL]
  | t :: l => by
    rw [setL, szL, szL, setT_sz _ _ t, setL_sz k _ _ l]
end
theorem ast_al {w W : World} {c : C} (h : ASt w c W) (o : Obj) : ASt w c (W.alloc o) := h.up ((Below.refl _ _).alloc (Nat.le_refl _) o)
theorem is_al {W : World} {c : C} {t : T} (h : Is W c t) (o : Obj) : Is (W.alloc o) c t := h.up ((Below.refl _ _).alloc (Nat.le_refl _) o)
theorem ast_put {w W : World} {c : C} {b : Nat} (h : ASt w c W) (hb : w.heap.size + 1 < b) (x : C) : ASt w c (put7 W b x) :=
  ⟨below_put7 h.below (by omega) x, (heap_put7 (by omega)).trans h.box, (heap_put7 (by omega)).trans h.zero⟩
/-- A box of zeroes that is neither the tree's nor the answer's. -/
def ZB (w W : World) (b : Nat) : Prop := Zero7 W b ∧ w.heap.size + 1 < b
theorem ZB.up {w W W' : World} {b : Nat} (h : ZB w W b) (hb : Below W.heap.size W W') : ZB w W' b := ⟨zero_up h.1 hb, h.2⟩
theorem zb_new {w W : World} {c : C} (h : ASt w c W) : ZB w (W.alloc zeroBox) W.heap.size := ⟨zero_new W, lt_of_block h.zero⟩
theorem zb_drew {w W : World} {c : C} (h : ASt w c W) : ZB w (W.alloc zeroBox).drew W.heap.size := ⟨zero_new W, lt_of_block h.zero⟩

/-- The grown one, in a box of its own. -/
structure Gm (w : World) (c : C) (b : Nat) (d : C) (g : T) (W : World) : Prop where
  st : ASt w c W
  box : Box7 W b d
  far : w.heap.size + 1 < b
  stands : ∃ lo hi, w.heap.size + 2 ≤ lo ∧ hi ≤ W.heap.size ∧ Stands (fun _ => True) W lo hi d g
theorem Gm.up {w W W' : World} {c d : C} {b : Nat} {g : T} (h : Gm w c b d g W) (hb : Below W.heap.size W W') : Gm w c b d g W' := by
  obtain ⟨lo, hi, a1, a2, a3⟩ := h.stands
  exact ⟨h.st.up hb, h.box.up hb, h.far, lo, hi, a1, Nat.le_trans a2 hb.size, a3.up hb a2⟩
theorem gm_new {w W W6 : World} {c d : C} {g : T} (h : ASt w c W) (h6 : ASt w c W6) (hs : Stands (fun _ => True) W W6.heap.size W.heap.size d g) : Gm w c W.heap.size d g (W.alloc (cbox d)) := by
  have hb : Below W.heap.size W (W.alloc (cbox d)) := (Below.refl _ _).alloc (Nat.le_refl _) _
  have := lt_of_block h6.zero
  exact ⟨h.up hb, Box7.new W d, lt_of_block h.zero, _, _, by omega, hb.size, hs.up hb (Nat.le_refl _)⟩
theorem gm_put {w W W6 : World} {c d : C} {b : Nat} {g : T} (h : ASt w c W) (h6 : ASt w c W6) (hz : ZB w W b) (hz6 : ZB w W6 b) (hs : Stands (fun _ => True) W W6.heap.size W.heap.size d g) : Gm w c b d g (put7 W b d) := by
  have h1 := lt_of_block h6.zero
  have h2 := lt_of_block hz6.1
  refine ⟨ast_put h hz.2 d, (Box7.of_zero hz.1).put d, hz.2, _, _, show w.heap.size + 2 ≤ W6.heap.size by omega, by rw [size_put7]; exact Nat.le_refl _, ?_⟩
  exact hs.move fun k hk _ => heap_put7 (by omega)
/-- What the kids that stay stand on. -/
def WoE (w0 : World) (d : C) (g : T) (W : World) : Prop := Eld w0 W ∧ Is W d g
theorem wo_fin {w0 w W8 wr w' : World} {c d x : C} {b lo hi : Nat} {g y : T} (P : Gm w c b d g W8) (hb : Below W8.heap.size W8 wr) (he : ∀ k, w.heap.size + 2 ≤ k → w'.heap[k]? = wr.heap[k]?) (hsz : w'.heap.size = wr.heap.size) (hs : Stands (WoE w0 d g) wr lo hi x y) (hlo : W8.heap.size ≤ lo) (hhi : hi ≤ wr.heap.size) :
    Stands (Eld w0) w' w.heap.size w'.heap.size x y := by
  have h1 := lt_of_block P.st.zero
  have h2 := hb.size
  intro W' hE hW
  refine hs W' ⟨hE, ?_⟩ fun k h1 h2 => (hW k (by omega) (by omega)).trans (he k (by omega))
  obtain ⟨lo', hi', a1, a2, a3⟩ := P.stands
  exact a3 W' trivial fun k g1 g2 => ((hW k (by omega) (by omega)).trans (he k (by omega))).trans (hb.block k (by omega))
theorem outT_one {k : Int} {r : R} {id : Int} {ks : List T} {j : Int} {g x : T} (hg : adjO (k - 1) (szA (ks.getD j.toNat default).r (k - 1) + 1) (setT 0 0 (ks.getD (heirN j).toNat default)) = g) (h : gnL j (heirN j) g 0 ks = [x]) : outT k r id ks j = x := by
  subst hg; unfold outT; rw [h]
theorem outT_many {k : Int} {r : R} {id : Int} {ks : List T} {j : Int} {g : T} (hg : adjO (k - 1) (szA (ks.getD j.toNat default).r (k - 1) + 1) (setT 0 0 (ks.getD (heirN j).toNat default)) = g) (h : (gnL j (heirN j) g 0 ks).length ≠ 1) : outT k r id ks j = .node k r id (gnL j (heirN j) g 0 ks) := by
  subst hg; unfold outT
  split
  · rename_i e; rw [e] at h; exact absurd rfl h
  · rfl
/-- What the walk asks of a cell one of whose kids goes. -/
theorem wo_asks {t : T} {id : Int} (hm : sz t ≤ 990) (ht : tileB t = true) (hp : 0 ≤ plN id t.kids 0) : 2 ≤ t.kids.length ∧ (t.k = 2 ∨ t.k = 3) := by
  have hk : t.k ≠ 1 := fun hk => by
    rw [leaf_none (by omega) ht hk] at hp
    simp [plN] at hp
  refine ⟨kids_two (by omega) ht hk, ?_⟩
  have hw := (tile_top (by omega) ht).1
  unfold wellT wellB at hw
  simp only [Bool.and_eq_true, Bool.or_eq_true, decide_eq_true_eq] at hw
  omega
theorem Grove.std {E : World → Prop} {wr w2 w3 : World} {base : Nat} {v : Value} {cs : List C} {l : List T} {d : C} {u : T} {g cap : Nat} (h : Grove E wr base v cs l) (hbase : base ≤ wr.heap.size) (hb : Below wr.heap.size wr w2) (hd : ∀ W, E W → Is W d u)
    (hown : OwnC w3 base (.slice (some ⟨g, 0, none⟩) (cs ++ [d]).length cap) (cs ++ [d])) (hgr : w2.grownBy w3 v.ownBlock) (hpl : v.ownBlock = some g ∨ g = w2.heap.size) : Grove E w3 base (.slice (some ⟨g, 0, none⟩) (cs ++ [d]).length cap) (cs ++ [d]) (l ++ [u]) := by
  refine h.add (Below.refl _ _) hb rfl (fun j x y hx hy => ?_) hown hgr hpl
  cases j with
  | zero => simp at hx hy; subst hx; subst hy; exact ⟨base, base, Nat.le_refl _, .inr (Nat.le_refl _), hbase, fun W hE _ => hd W hE⟩
  | succ j => simp at hx
theorem wo_one {w0 w W8 wr : World} {c d x : C} {b : Nat} {g y t' : T} {v : Value} (P : Gm w c b d g W8) (hb : Below W8.heap.size W8 wr) (h : Grove (WoE w0 d g) wr W8.heap.size v [x] [y]) (he : t' = y) : GrSays (Eld w0) t' w (.returned (cval x)) (put7 wr (w.heap.size + 1) x) := by
  subst he
  obtain ⟨lo, hi, a1, a2, -, a4⟩ := h.each 0 x t' rfl rfl
  exact ⟨x, rfl, wo_fin P hb (fun k hk => heap_put7 (by omega)) (size_put7 ..) a4 a1 a2, below_put7 ((P.up hb).st.below) (by omega) x⟩
theorem wo_many {w0 w W8 wr : World} {c d : C} {b : Nat} {g t' : T} {k : Int} {r : R} {id : Int} {a : Option Addr} {cap : Nat} {cs : List C} {l : List T} (P : Gm w c b d g W8) (hb : Below W8.heap.size W8 wr) (h : Grove (WoE w0 d g) wr W8.heap.size (.slice a cs.length cap) cs l) (he : t' = .node k r id l) (hk : 0 ≤ k ∧ k ≤ 255) (hr : r.fits) (hi : fits id) (hl : l.length ≤ 1954687338211) :
    GrSays (Eld w0) t' w (.returned (cval ⟨k, r, id, a, cs.length, cap⟩)) (endW w wr ⟨k, r, id, a, cs.length, cap⟩) := by
  subst he
  exact ⟨_, rfl, wo_fin P hb (fun k hk => endW_other (by omega) (by omega)) (endW_size ..) (h.tree hk hr hi hl) (Nat.le_refl _) (Nat.le_refl _), below_put7 ((P.up hb).st.below.setCell (Nat.le_refl _) _) (by omega) _⟩
end Go.Proofs.Ytodcabaihhmhnaa
/- What stands at a path is turned: in words, and in memory of one's own. -/
namespace Go.Proofs.Ytodcabaihhmhnaa
open Go.RowKit

def setKid (t : T) (j : Nat) (u : T) : T := .node t.k t.r t.id (t.kids.set j u)
def putT (kid : T) : T → List Int → Option T
  | _, [] => some kid
  | t, k :: p => match kidAt t k with
    | some u => match putT kid u p with
      | some u' => some (setKid t k.toNat u')
      | none => none
    | none => none
theorem put_append {t u u2 v : T} {q : List Int} {j : Nat} (h : atT t q = some u) (hk : kidAt u (j : Int) = some u2) : putT v t (q ++ [(j : Int)]) = putT (setKid u j v) t q := by
  induction q generalizing t with
  | nil =>
    simp only [atT, Option.some.injEq] at h
    subst h
    simp only [List.nil_append, putT, hk, Int.toNat_natCast]
  | cons k q ih =>
    rw [atT] at h
    simp only [List.cons_append, putT]
    cases hk2 : kidAt t k with
    | none => rfl
    | some y =>
      rw [hk2] at h
      simp only
      rw [ih h]
theorem put_at {kid : T} : ∀ {p : List Int} {t : T}, (putT kid t p).isSome = (atT t p).isSome := by
  intro p
  induction p with
  | nil => intro t; rfl
  | cons k p ih =>
    intro t
    rw [putT, atT]
    cases kidAt t k with
    | none => rfl
    | some u =>
      have h := ih (t := u)
      simp only
      cases hp : putT kid u p with
      | some u' => rw [hp] at h; simpa using h
      | none => rw [hp] at h; simpa using h
theorem put_there {kid t t' : T} : ∀ {p : List Int}, putT kid t p = some t' → atT t' p = some kid := by
  intro p
  induction p generalizing t t' with
  | nil => intro h; simp only [putT, Option.some.injEq] at h; subst h; rfl
  | cons k p ih =>
    intro h
    rw [putT] at h
    cases hk : kidAt t k with
    | none => rw [hk] at h; cases h
    | some u =>
      rw [hk] at h
      simp only at h
      cases hp : putT kid u p with
      | none => rw [hp] at h; cases h
      | some u' =>
        rw [hp] at h
        simp only [Option.some.injEq] at h
        subst h
        obtain ⟨j, rfl, hj⟩ := kid_some hk
        have hjl := (List.getElem?_eq_some_iff.1 hj).1
        rw [atT]
        have : kidAt (setKid t (j : Int).toNat u') (j : Int) = some u' := by
          unfold kidAt setKid
          rw [if_pos (by omega)]
          show (t.kids.set (j : Int).toNat u')[(j : Int).toNat]? = some u'
          rw [Int.toNat_natCast, List.getElem?_set_self hjl]
        rw [this]
        exact ih hp

theorem flat_disj {Ss : List (List Nat)} (h : Ss.flatten.Nodup) : ∀ {i j : Nat} {A B : List Nat} {a : Nat}, Ss[i]? = some A → Ss[j]? = some B → a ∈ A → a ∈ B → i = j := by
  induction Ss with
  | nil => intro i j A B a hi; simp at hi
  | cons S Ss ih =>
    intro i j A B a hi hj ha hb
    rw [List.flatten_cons, List.nodup_append] at h
    cases i with
    | zero =>
      cases j with
      | zero => rfl
      | succ j =>
        simp at hi hj; subst hi
        exact absurd rfl (h.2.2 a ha a (mem_flat.2 ⟨j, B, hj, hb⟩))
    | succ i =>
      cases j with
      | zero =>
        simp at hi hj; subst hj
        exact absurd rfl (h.2.2 a hb a (mem_flat.2 ⟨i, A, hi, ha⟩))
      | succ j => exact congrArg (· + 1) (ih h.2.1 (i := i) (j := j) (by simpa using hi) (by simpa using hj) ha hb)
theorem flat_one_nodup {Ss : List (List Nat)} (h : Ss.flatten.Nodup) : ∀ {i : Nat} {A : List Nat}, Ss[i]? = some A → A.Nodup := by
  induction Ss with
  | nil => intro i A hi; simp at hi
  | cons S Ss ih =>
    intro i A hi
    rw [List.flatten_cons, List.nodup_append] at h
    cases i with
    | zero => simp at hi; subst hi; exact h.1
    | succ i => exact ih h.2.1 (by simpa using hi)

/-- A cell stored over another one. -/
abbrev putO (w : World) (b o : Nat) (c : C) : World := ((((((w.setCell ⟨b, o, none⟩ (.int .u8 c.k)).setCell ⟨b, o + 1, none⟩ (.int .i64 c.r.x)).setCell ⟨b, o + 2, none⟩ (.int .i64 c.r.y)).setCell ⟨b, o + 3, none⟩ (.int .i64 c.r.w)).setCell ⟨b, o + 4, none⟩ (.int .i64 c.r.h)).setCell ⟨b, o + 5, none⟩ (.int .i64 c.id)).setCell ⟨b, o + 6, none⟩ (.slice c.a c.n c.cap)
def setO (cs : Array Value) (o : Nat) (c : C) : Array Value := ((((((cs.setIfInBounds o (.int .u8 c.k)).setIfInBounds (o + 1) (.int .i64 c.r.x)).setIfInBounds (o + 2) (.int .i64 c.r.y)).setIfInBounds (o + 3) (.int .i64 c.r.w)).setIfInBounds (o + 4) (.int .i64 c.r.h)).setIfInBounds (o + 5) (.int .i64 c.id)).setIfInBounds (o + 6) (.slice c.a c.n c.cap)
theorem putO_block {w : World} {b o : Nat} {cs : Array Value} {t : TypeId} {fr : Nat × Nat} (h : w.heap[b]? = some (.cells cs t fr)) (c : C) : (putO w b o c).heap[b]? = some (.cells (setO cs o c) t fr) := by
  have h1 := set_block (i := o) h (.int .u8 c.k)
  have h2 := set_block (i := o + 1) h1 (.int .i64 c.r.x)
  have h3 := set_block (i := o + 2) h2 (.int .i64 c.r.y)
  have h4 := set_block (i := o + 3) h3 (.int .i64 c.r.w)
  have h5 := set_block (i := o + 4) h4 (.int .i64 c.r.h)
  have h6 := set_block (i := o + 5) h5 (.int .i64 c.id)
  exact set_block (i := o + 6) h6 (.slice c.a c.n c.cap)
theorem putO_other {w : World} {b o k : Nat} {c : C} (h : k ≠ b) : (putO w b o c).heap[k]? = w.heap[k]? := by
  unfold putO
  rw [Below.heap_setCell _ ⟨b, o + 6, none⟩ _ k h, Below.heap_setCell _ ⟨b, o + 5, none⟩ _ k h, Below.heap_setCell _ ⟨b, o + 4, none⟩ _ k h, Below.heap_setCell _ ⟨b, o + 3, none⟩ _ k h, Below.heap_setCell _ ⟨b, o + 2, none⟩ _ k h, Below.heap_setCell _ ⟨b, o + 1, none⟩ _ k h, Below.heap_setCell _ ⟨b, o, none⟩ _ k h]
theorem setO_size (cs : Array Value) (o : Nat) (c : C) : (setO cs o c).size = cs.size := by simp [setO]
theorem setO_get (cs : Array Value) (o : Nat) (c : C) (i : Nat) (h : o + 7 ≤ cs.size) : (setO cs o c)[i]? = if o ≤ i ∧ i < o + 7 then (encC c)[i - o]? else cs[i]? := by
  unfold setO
  simp only [Array.getElem?_setIfInBounds, Array.size_setIfInBounds]
  by_cases h6 : o + 6 = i
  · subst h6
    rw [if_pos rfl, if_pos (by omega), if_pos ⟨by omega, by omega⟩]
    simp [encC]
  rw [if_neg h6]
  by_cases h5 : o + 5 = i
  · subst h5
    rw [if_pos rfl, if_pos (by omega), if_pos ⟨by omega, by omega⟩]
    simp [encC]
  rw [if_neg h5]
  by_cases h4 : o + 4 = i
  · subst h4
    rw [if_pos rfl, if_pos (by omega), if_pos ⟨by omega, by omega⟩]
    simp [encC]
  rw [if_neg h4]
  by_cases h3 : o + 3 = i
  · subst h3
    rw [if_pos rfl, if_pos (by omega), if_pos ⟨by omega, by omega⟩]
    simp [encC]
  rw [if_neg h3]
  by_cases h2 : o + 2 = i
  · subst h2
    rw [if_pos rfl, if_pos (by omega), if_pos ⟨by omega, by omega⟩]
    simp [encC]
  rw [if_neg h2]
  by_cases h1 : o + 1 = i
  · subst h1
    rw [if_pos rfl, if_pos (by omega), if_pos ⟨by omega, by omega⟩]
    simp [encC]
  rw [if_neg h1]
  by_cases h0 : o = i
  · subst h0
    rw [if_pos rfl, if_pos (by omega), if_pos ⟨by omega, by omega⟩]
    simp [encC]
  rw [if_neg h0, if_neg (by omega)]
theorem cat_get {w : World} {b o : Nat} {cs : Array Value} {t : TypeId} {fr : Nat × Nat} {c : C} (h : w.heap[b]? = some (.cells cs t fr)) (hc : CAt w b o c) : ∀ i, i < 7 → cs[o + i]? = (encC c)[i]? := by
  have hcell : ∀ i, w.cell? ⟨b, i, none⟩ = cs[i]? := fun i => by simp [World.cell?, h]
  obtain ⟨h0, h1, h2, h3, h4, h5, h6⟩ := hc
  intro i hi
  match i, hi with
  | 0, _ => rw [← hcell, Nat.add_zero, h0]; rfl
  | 1, _ => rw [← hcell, h1]; rfl
  | 2, _ => rw [← hcell, h2]; rfl
  | 3, _ => rw [← hcell, h3]; rfl
  | 4, _ => rw [← hcell, h4]; rfl
  | 5, _ => rw [← hcell, h5]; rfl
  | 6, _ => rw [← hcell, h6]; rfl
theorem cat_size {w : World} {b o : Nat} {cs : Array Value} {t : TypeId} {fr : Nat × Nat} {c : C} (h : w.heap[b]? = some (.cells cs t fr)) (hc : CAt w b o c) : o + 7 ≤ cs.size := by
  have h6 := cat_get h hc 6 (by omega)
  have : cs[o + 6]? = some (.slice c.a c.n c.cap) := by rw [h6]; rfl
  have := (Array.getElem?_eq_some_iff.1 this).1
  omega
theorem setO_same {w : World} {b o : Nat} {cs : Array Value} {t : TypeId} {fr : Nat × Nat} {c : C} (h : w.heap[b]? = some (.cells cs t fr)) (hc : CAt w b o c) : setO cs o c = cs := by
  refine Array.ext_getElem? fun i => ?_
  rw [setO_get cs o c i (cat_size h hc)]
  split
  · rename_i hi
    have := cat_get h hc (i - o) (by omega)
    rw [show o + (i - o) = i by omega] at this
    exact this.symm
  · rfl
theorem cat_of_block {w : World} {b o : Nat} {cs : Array Value} {t : TypeId} {fr : Nat × Nat} {c : C} (h : w.heap[b]? = some (.cells (setO cs o c) t fr)) (hs : o + 7 ≤ cs.size) : CAt w b o c := by
  have hcell : ∀ i, i < 7 → w.cell? ⟨b, o + i, none⟩ = (encC c)[i]? := fun i hi => by
    have : w.cell? ⟨b, o + i, none⟩ = (setO cs o c)[o + i]? := by simp [World.cell?, h]
    rw [this, setO_get cs o c (o + i) hs, if_pos (by omega)]
    congr 1; omega
  exact ⟨hcell 0 (by omega), hcell 1 (by omega), hcell 2 (by omega), hcell 3 (by omega), hcell 4 (by omega), hcell 5 (by omega), hcell 6 (by omega)⟩

/-- A row of one's own, one of whose cells was stored over. -/
theorem own_put {w w' : World} {base g n cap : Nat} {cs : List C} {j : Nat} {y : C} (h : OwnC w base (.slice (some ⟨g, 0, none⟩) n cap) cs) (hj : j < cs.length) (hg : w'.heap[g]? = (putO w g (j * 7) y).heap[g]?) : OwnC w' base (.slice (some ⟨g, 0, none⟩) n cap) (cs.set j y) := by
  rcases h.2 with ⟨h0, -⟩ | ⟨g', cap', cur, he, hb, hgg, hn, hm, hs, ht⟩
  · cases h0
  · cases he
    rw [putO_block hgg y] at hg
    refine ⟨by rw [flatC_length, List.length_set], .inr ⟨g, cap, setO cur (j * 7) y, by simp, hb, hg, by simpa using hn, hm, by rw [setO_size]; exact hs, ?_⟩⟩
    rw [List.length_set]
    have hsz : j * 7 + 7 ≤ cur.size := by rw [hs]; omega
    refine List.ext_getElem? fun i => ?_
    rcases Nat.lt_or_ge i (cs.length * 7) with hi | hi
    · rw [List.getElem?_take, if_pos hi, Array.getElem?_toList, setO_get cur (j * 7) y i hsz]
      have hi7 : i / 7 < cs.length := by omega
      have hm7 : i % 7 < 7 := Nat.mod_lt _ (by omega)
      have e : i / 7 * 7 + i % 7 = i := by omega
      by_cases hij : i / 7 = j
      · rw [if_pos (by omega)]
        have := flatC_get (cs.set j y) j (i % 7) y (by simp [hj]) hm7
        rw [show j * 7 + i % 7 = i by omega] at this
        rw [this]
        congr 1; omega
      · rw [if_neg (by omega)]
        have h1 := flatC_get (cs.set j y) (i / 7) (i % 7) cs[i / 7] (by rw [List.getElem?_set_ne (by omega)]; exact List.getElem?_eq_getElem hi7) hm7
        have h2 := flatC_get cs (i / 7) (i % 7) cs[i / 7] (List.getElem?_eq_getElem hi7) hm7
        rw [e] at h1 h2
        rw [h1, ← h2, ← ht, List.getElem?_take, if_pos hi, Array.getElem?_toList]
    · rw [List.getElem?_eq_none (by rw [List.length_take]; omega), List.getElem?_eq_none (by rw [flatC_length, List.length_set]; omega)]
end Go.Proofs.Ytodcabaihhmhnaa
/- A leaf that becomes two: the program's way comes to what the document answers. No walk. -/
namespace Go.Proofs.Ytodcabaihhmhnaa
open Go.RowKit

theorem setL_get (k : Int) (l : List T) : ∀ (x y : Int) (j : Nat), (setL k x y l)[j]? = (l[j]?).map (setT (pX k x (l.take j)) (pY k y (l.take j))) := by
  induction l with
  | nil => intro x y j; simp [setL]
  | cons t l ih =>
    intro x y j
    cases j with
    | zero => simp [setL, pX, pY]
    | succ j =>
      rw [setL]
      simp only [List.getElem?_cons_succ, List.take_succ_cons]
      rw [ih]
      rfl
theorem pX_same {k : Int} : ∀ (l m : List T) (x : Int), l.map (fun t => t.r.w) = m.map (fun t => t.r.w) → pX k x l = pX k x m
  | [], [], _, _ => rfl
  | [], _ :: _, _, h => by simp at h
  | _ :: _, [], _, h => by simp at h
  | t :: l, u :: m, x, h => by
    simp only [List.map_cons, List.cons.injEq] at h
    have e : nxX k x t = nxX k x u := by unfold nxX; rw [h.1]
    show pX k (nxX k x t) l = pX k (nxX k x u) m
    rw [e]; exact pX_same l m _ h.2
theorem pY_same {k : Int} : ∀ (l m : List T) (y : Int), l.map (fun t => t.r.h) = m.map (fun t => t.r.h) → pY k y l = pY k y m
  | [], [], _, _ => rfl
  | [], _ :: _, _, h => by simp at h
  | _ :: _, [], _, h => by simp at h
  | t :: l, u :: m, y, h => by
    simp only [List.map_cons, List.cons.injEq] at h
    have e : nxY k y t = nxY k y u := by unfold nxY; rw [h.1]
    show pY k (nxY k y t) l = pY k (nxY k y u) m
    rw [e]; exact pY_same l m _ h.2
theorem map_set_same {α : Type} {l : List T} {f : T → α} {j : Nat} {u v : T} (h : l[j]? = some u) (hf : f v = f u) (i : Nat) : ((l.set j v).take i).map f = (l.take i).map f := by
  refine List.ext_getElem? fun n => ?_
  rw [List.getElem?_map, List.getElem?_map, List.getElem?_take, List.getElem?_take]
  split
  · by_cases hj : j = n
    · subst hj
      rw [List.getElem?_set_self (List.getElem?_eq_some_iff.1 h).1, h]
      simp [hf]
    · rw [List.getElem?_set_ne hj]
  · rfl
theorem pX_no {k x : Int} (l : List T) (h : k ≠ 2) : pX k x l = x := by
  induction l with
  | nil => rfl
  | cons t l ih => show pX k (nxX k x t) l = x; rw [nxX_no h]; exact ih
theorem pY_no {k y : Int} (l : List T) (h : k ≠ 3) : pY k y l = y := by
  induction l with
  | nil => rfl
  | cons t l ih => show pY k (nxY k y t) l = y; rw [nxY_no h]; exact ih
theorem pX_row {t : T} {ms : List Int} (hms : ms = wsT t) (hf : fitS t.r.w ms ms.length) (h0 : 0 ≤ t.r.x) (h1 : t.r.x + t.r.w ≤ 10000) : ∀ j, j ≤ t.kids.length → pX 2 t.r.x (t.kids.take j) = t.r.x + offS ms j := by
  intro j
  have hlen : ms.length = t.kids.length := by rw [hms]; simp [wsT]
  induction j with
  | zero => intro _; rw [off_zero]; simp [pX]
  | succ j ih =>
    intro hj
    obtain ⟨u, hu⟩ : ∃ u, t.kids[j]? = some u := ⟨_, List.getElem?_eq_getElem (by omega)⟩
    have hm : ms[j]? = some u.r.w := by rw [hms]; unfold wsT; rw [List.getElem?_map, hu]; rfl
    have h2 := hf j _ (by omega) hm
    have h3 := off_nonneg hf j (by omega) (by omega)
    rw [pX_take hu, nxX_row, ih (by omega), off_succ hm, wrap_id (by omega)]
    omega
theorem pY_col {t : T} {ms : List Int} (hms : ms = hsT t) (hf : fitS t.r.h ms ms.length) (h0 : 0 ≤ t.r.y) (h1 : t.r.y + t.r.h ≤ 10000) : ∀ j, j ≤ t.kids.length → pY 3 t.r.y (t.kids.take j) = t.r.y + offS ms j := by
  intro j
  have hlen : ms.length = t.kids.length := by rw [hms]; simp [hsT]
  induction j with
  | zero => intro _; rw [off_zero]; simp [pY]
  | succ j ih =>
    intro hj
    obtain ⟨u, hu⟩ : ∃ u, t.kids[j]? = some u := ⟨_, List.getElem?_eq_getElem (by omega)⟩
    have hm : ms[j]? = some u.r.h := by rw [hms]; unfold hsT; rw [List.getElem?_map, hu]; rfl
    have h2 := hf j _ (by omega) hm
    have h3 := off_nonneg hf j (by omega) (by omega)
    rw [pY_take hu, nxY_col, ih (by omega), off_succ hm, wrap_id (by omega)]
    omega

/-- Each kid of what tiles begins behind those ahead of it. -/
theorem fit_at {t : T} (hs : sz t ≤ 20000) (ht : tileB t = true) {j : Nat} {u : T} (hu : t.kids[j]? = some u) : pX t.k t.r.x (t.kids.take j) = u.r.x ∧ pY t.k t.r.y (t.kids.take j) = u.r.y := by
  obtain ⟨hw, hf⟩ := tile_top hs ht
  have hr := may_rect (well_rect hw)
  have hjl := (List.getElem?_eq_some_iff.1 hu).1
  obtain h1 | ⟨⟨-, hcut⟩, hrects⟩ := (fitB_iff t).1 hf
  · rw [leaf_none hs ht h1] at hu; simp at hu
  · have hlen : (sizesT t).length = t.kids.length := sizes_len t
    have hat : (cutParts t.r (axT t) (sizesT t) true)[j]? = some u.r := by rw [← hrects, List.getElem?_map, hu]; rfl
    rcases well_kind hw with h | h | h
    · rw [leaf_none hs ht h] at hu; simp at hu
    · have ha : axT t = 1 := by unfold axT; rw [if_neg (by omega)]
      have hss : sizesT t = wsT t := by unfold sizesT; rw [if_neg (by omega)]
      rw [ha] at hcut hat
      have hfill : fillP t.r.w (sizesT t) := by
        rcases hcut with ⟨-, h⟩ | ⟨h, -⟩
        · exact h
        · omega
      rw [cutParts, if_pos rfl, parts_at _ _ _ _ _ (by omega)] at hat
      have h4 := Option.some.inj hat
      have h5 := pX_row hss hfill.1 (by omega) (by omega) j (by omega)
      rw [h]
      refine ⟨h5.trans ?_, (pY_no _ (by decide)).trans ?_⟩
      · rw [← h4]; rfl
      · rw [← h4]; rfl
    · have ha : axT t = 2 := by unfold axT; rw [if_pos h]
      have hss : sizesT t = hsT t := by unfold sizesT; rw [if_pos h]
      rw [ha] at hcut hat
      have hfill : fillP t.r.h (sizesT t) := by
        rcases hcut with ⟨h, -⟩ | ⟨-, h⟩
        · omega
        · exact h
      rw [cutParts, if_neg (by decide), parts_at _ _ _ _ _ (by omega)] at hat
      have h4 := Option.some.inj hat
      have h5 := pY_col hss hfill.1 (by omega) (by omega) j (by omega)
      rw [h]
      refine ⟨(pX_no _ (by decide)).trans ?_, h5.trans ?_⟩
      · rw [← h4]; rfl
      · rw [← h4]; rfl
/-- What tiles is set. -/
theorem set_id (N : Nat) : ∀ t : T, sz t ≤ N → sz t ≤ 20000 → tileB t = true → setT t.r.x t.r.y t = t := by
  induction N with
  | zero => intro t h; have := sz_pos t; omega
  | succ N ih =>
    intro t hN hs ht
    have hk : setL t.k t.r.x t.r.y t.kids = t.kids := by
      refine List.ext_getElem? fun j => ?_
      rw [setL_get]
      cases hu : t.kids[j]? with
      | none => rfl
      | some u =>
        obtain ⟨h1, h2⟩ := fit_at hs ht hu
        have h3 := sz_kid hu
        rw [h1, h2]
        exact congrArg some (ih u (by omega) (by omega) (tile_kid hs ht hu))
    rw [setT_eq, hk]
    exact (T.eta t).symm
/-- One kid is another one, of the same rectangle. -/
theorem set_kid {t v y : T} {j : Nat} (hs : sz t ≤ 20000) (ht : tileB t = true) (hv : t.kids[j]? = some v) (hr : y.r = v.r) : setT t.r.x t.r.y (.node t.k t.r t.id (t.kids.set j y)) = setKid t j (setT v.r.x v.r.y y) := by
  have hjl := (List.getElem?_eq_some_iff.1 hv).1
  have hk : setL t.k t.r.x t.r.y (t.kids.set j y) = t.kids.set j (setT v.r.x v.r.y y) := by
    refine List.ext_getElem? fun i => ?_
    rw [setL_get, pX_same _ (t.kids.take i) _ (map_set_same hv (by rw [hr]) i), pY_same _ (t.kids.take i) _ (map_set_same hv (by rw [hr]) i)]
    by_cases hij : j = i
    · subst hij
      obtain ⟨h1, h2⟩ := fit_at hs ht hv
      rw [List.getElem?_set_self hjl, List.getElem?_set_self hjl, h1, h2]
      rfl
    · rw [List.getElem?_set_ne hij, List.getElem?_set_ne hij]
      cases hu : t.kids[i]? with
      | none => rfl
      | some u =>
        obtain ⟨h1, h2⟩ := fit_at hs ht hu
        have h3 := sz_kid hu
        rw [h1, h2]
        exact congrArg some (set_id (sz u) u (Nat.le_refl _) (by omega) (tile_kid hs ht hu))
  rw [setT_eq]
  show T.node t.k ⟨t.r.x, t.r.y, t.r.w, t.r.h⟩ t.id (setL t.k t.r.x t.r.y (t.kids.set j y)) = _
  rw [hk]; rfl

/-- No leaf there has the number. -/
def noId (id : Int) (l : List T) : Prop := ∀ x ∈ l, ¬ (x.k = 1 ∧ x.id = id)
mutual
theorem inT_no (id ax : Int) (l : List T) : ∀ t, noId id (preT t) → inT id ax l t = t
  | .node k r i ks => by
    intro h
    rw [inT]
    have h0 := h (.node k r i ks) (by rw [preT_eq]; exact List.mem_cons_self ..)
    have h1 := inL_no id ax l k ks (fun x hx => h x (by rw [preT_eq]; exact List.mem_cons_of_mem _ hx))
    split
    · rename_i hk
      split
      · rename_i hi; exact absurd ⟨hk, hi⟩ h0
      · rfl
    · rw [h1]
theorem inL_no (id ax : Int) (l : List T) (k : Int) : ∀ ks, noId id (preL ks) → inL id ax l k ks = ks
  | [] => by intro _; simp [inL]
  | t :: ts => by
    intro h
    have h1 := inT_no id ax l t (fun x hx => h x (by rw [preL]; exact List.mem_append_left _ hx))
    have h2 := inL_no id ax l k ts (fun x hx => h x (by rw [preL]; exact List.mem_append_right _ hx))
    have h3 := h t (by rw [preL]; exact List.mem_append_left _ (by rw [preT_eq]; exact List.mem_cons_self ..))
    rw [inL, h1, h2, if_neg (fun e => h3 ⟨e.1, e.2.1⟩)]
    rfl
end
theorem inT_r (id ax : Int) (l : List T) (t : T) : (inT id ax l t).r = t.r := by
  rw [inT_eq]
  split
  · split <;> rfl
  · rfl
theorem cut_at {α : Type} {l : List α} {k : Nat} {u : α} (h : l[k]? = some u) : l = l.take k ++ [u] ++ l.drop (k + 1) := by
  conv => lhs; rw [← List.take_append_drop (k + 1) l]
  rw [List.take_add_one, h]; rfl
theorem inL_at {id ax : Int} {l : List T} {kd : Int} {ks : List T} {k : Nat} {u : T} (hu : ks[k]? = some u) (h1 : noId id (preL (ks.take k))) (h2 : noId id (preL (ks.drop (k + 1)))) : inL id ax l kd ks = ks.take k ++ inK id ax l kd u ++ ks.drop (k + 1) := by
  conv => lhs; rw [cut_at hu]
  rw [inL_append, inL_append, inL_no _ _ _ _ _ h1, inL_no _ _ _ _ _ h2]
  congr 2
  simp [inL, inK]
theorem set_cut {α : Type} {l : List α} {k : Nat} {u y : α} (h : l[k]? = some u) : l.take k ++ [y] ++ l.drop (k + 1) = l.set k y := by
  have hk := (List.getElem?_eq_some_iff.1 h).1
  rw [List.set_eq_take_append_cons_drop, if_pos hk, List.append_assoc]; rfl

/-- Leaves have numbers of their own. -/
def onceI (l : List T) : Prop := ((l.filter leafB).map T.id).Nodup
theorem once_tile {t : T} (hs : sz t ≤ 20000) (ht : tileB t = true) : onceI (preT t) := by
  have h1 := tile_may ht
  rw [may_is hs] at h1
  unfold rmayT at h1
  rw [Bool.and_eq_true, decide_eq_true_eq] at h1
  exact h1.2
theorem once_mid {a b c : List T} {id : Int} {y : T} (h : onceI (a ++ b ++ c)) (hy : y ∈ b) (hk : y.k = 1 ∧ y.id = id) : noId id a ∧ noId id c := by
  have leaf : ∀ {x : T}, x.k = 1 → leafB x = true := fun h => by unfold leafB; simp [h]
  have mem : ∀ {l : List T} {x : T}, x ∈ l → x.k = 1 ∧ x.id = id → id ∈ (l.filter leafB).map T.id := fun hx e => List.mem_map.2 ⟨_, List.mem_filter.2 ⟨hx, leaf e.1⟩, e.2⟩
  unfold onceI at h
  rw [List.filter_append, List.filter_append, List.map_append, List.map_append, List.nodup_append, List.nodup_append] at h
  obtain ⟨⟨-, -, h1⟩, -, h2⟩ := h
  refine ⟨fun x hx e => ?_, fun x hx e => ?_⟩
  · exact h1 id (mem hx e) id (mem hy hk) rfl
  · exact h2 id (List.mem_append_right _ (mem hy hk)) id (mem hx e) rfl
theorem once_inj {l : List T} (h : onceI l) {x y : T} (hx : x ∈ l) (hy : y ∈ l) (kx : x.k = 1) (ky : y.k = 1) (he : x.id = y.id) : x = y := by
  have leaf : ∀ {x : T}, x.k = 1 → leafB x = true := fun h => by unfold leafB; simp [h]
  have gen : ∀ m : List T, (m.map T.id).Nodup → ∀ x y : T, x ∈ m → y ∈ m → x.id = y.id → x = y := by
    intro m
    induction m with
    | nil => intro _ x y hx; cases hx
    | cons z m ih =>
      intro hn x y hx hy e
      rw [List.map_cons, List.nodup_cons] at hn
      rcases List.mem_cons.1 hx with rfl | hx'
      · rcases List.mem_cons.1 hy with rfl | hy'
        · rfl
        · exact absurd (List.mem_map.2 ⟨y, hy', e.symm⟩) hn.1
      · rcases List.mem_cons.1 hy with rfl | hy'
        · exact absurd (List.mem_map.2 ⟨x, hx', e⟩) hn.1
        · exact ih hn.2 x y hx' hy' e
  exact gen _ h x y (List.mem_filter.2 ⟨hx, leaf kx⟩) (List.mem_filter.2 ⟨hy, leaf ky⟩) he

/-- The way to a leaf, taken apart. -/
theorem findL_inv {id : Int} : ∀ {l : List T} {j : Nat} {p : List Int}, findL id j l = some p → ∃ (k : Nat) (u : T) (q : List Int), l[k]? = some u ∧ findT id u = some q ∧ p = ((j + k : Nat) : Int) :: q := by
  intro l
  induction l with
  | nil => intro j p h; rw [findL] at h; cases h
  | cons t l ih =>
    intro j p h
    rw [findL] at h
    cases ht : findT id t with
    | some q =>
      rw [ht] at h
      cases h
      exact ⟨0, t, q, rfl, ht, rfl⟩
    | none =>
      rw [ht] at h
      obtain ⟨k, u, q, h1, h2, h3⟩ := ih h
      exact ⟨k + 1, u, q, by simpa using h1, h2, by rw [h3]; congr 2; omega⟩
theorem findT_top {id : Int} {t : T} (h : findT id t = some []) : t.k = 1 ∧ t.id = id := by
  rw [findT_eq] at h
  split at h
  · assumption
  · obtain ⟨k, u, q, -, -, h3⟩ := findL_inv h
    cases h3
theorem findT_more {id m : Int} {t : T} {p : List Int} (h : findT id t = some (m :: p)) : ∃ (j : Nat) (v : T), m = j ∧ t.kids[j]? = some v ∧ findT id v = some p := by
  rw [findT_eq] at h
  split at h
  · cases h
  · obtain ⟨k, u, q, h1, h2, h3⟩ := findL_inv h
    cases h3
    exact ⟨k, u, by simp, h1, h2⟩
theorem find_there {id : Int} : ∀ {p : List Int} {t : T}, findT id t = some p → ∃ u, atT t p = some u ∧ u.k = 1 ∧ u.id = id ∧ u ∈ preT t := by
  intro p
  induction p with
  | nil =>
    intro t h
    obtain ⟨h1, h2⟩ := findT_top h
    exact ⟨t, rfl, h1, h2, by rw [preT_eq]; exact List.mem_cons_self ..⟩
  | cons m p ih =>
    intro t h
    obtain ⟨j, v, rfl, hv, hf⟩ := findT_more h
    obtain ⟨u, h1, h2, h3, h4⟩ := ih hf
    refine ⟨u, ?_, h2, h3, (pre_sub hv).mem h4⟩
    have : kidAt t (j : Int) = some v := by unfold kidAt; rw [if_pos (by omega)]; simpa using hv
    rw [atT, this]; exact h1
mutual
theorem find_no (id : Int) : ∀ t, findT id t = none → noId id (preT t)
  | .node k r i l => by
    intro h
    rw [findT] at h
    split at h
    · cases h
    · rename_i hn
      intro x hx
      rw [preT] at hx
      rcases List.mem_cons.1 hx with rfl | hx
      · exact hn
      · exact findL_no id 0 l h x hx
theorem findL_no (id : Int) (j : Nat) : ∀ l, findL id j l = none → noId id (preL l)
  | [] => by intro _ x hx; rw [preL] at hx; cases hx
  | t :: l => by
    intro h
    rw [findL] at h
    cases ht : findT id t with
    | some q => rw [ht] at h; cases h
    | none =>
      rw [ht] at h
      intro x hx
      rw [preL] at hx
      rcases List.mem_append.1 hx with hx | hx
      · exact find_no id t ht x hx
      · exact findL_no id (j + 1) l h x hx
end
theorem lf_none {id : Int} {t : T} (h : findT id t = none) : lfF id t = none := by
  unfold lfF
  rw [List.find?_eq_none]
  intro x hx he
  rw [List.mem_filter] at hx
  refine find_no id t h x hx.1 ⟨?_, ?_⟩
  · have := hx.2; unfold leafB at this; simpa using this
  · unfold lfB at he; simpa using he
theorem lf_some {id : Int} {t u : T} {p : List Int} (hs : sz t ≤ 20000) (ht : tileB t = true) (h : findT id t = some p) (hu : atT t p = some u) : lfF id t = some u ∧ u.k = 1 ∧ u.id = id := by
  obtain ⟨u', h1, h2, h3, h4⟩ := find_there h
  rw [hu] at h1
  cases h1
  refine ⟨?_, h2, h3⟩
  cases hl : lfF id t with
  | none =>
    unfold lfF at hl
    rw [List.find?_eq_none] at hl
    refine absurd ?_ (hl u (List.mem_filter.2 ⟨h4, by unfold leafB; simp [h2]⟩))
    unfold lfB; simp [h3]
  | some v =>
    have g1 := List.find?_some hl
    have g2 := List.mem_of_find?_eq_some hl
    rw [List.mem_filter] at g2
    have g3 : v.k = 1 := by have := g2.2; unfold leafB at this; simpa using this
    have g4 : v.id = id := by unfold lfB at g1; simpa using g1
    exact congrArg some (once_inj (once_tile hs ht) g2.1 h4 g3 h2 (g4.trans h3.symm))
theorem tile_at {u : T} : ∀ {p : List Int} {t : T}, sz t ≤ 20000 → tileB t = true → atT t p = some u → tileB u = true ∧ sz u ≤ sz t := by
  intro p
  induction p with
  | nil => intro t hs ht h; rw [atT] at h; cases h; exact ⟨ht, Nat.le_refl _⟩
  | cons m p ih =>
    intro t hs ht h
    rw [atT] at h
    cases hk : kidAt t m with
    | none => rw [hk] at h; cases h
    | some v =>
      rw [hk] at h
      obtain ⟨j, rfl, hj⟩ := kid_some hk
      have h1 := sz_kid hj
      obtain ⟨h2, h3⟩ := ih (by omega) (tile_kid hs ht hj) h
      exact ⟨h2, by omega⟩

/-- The cell around a leaf that both go into, where it stands, which of its kids the leaf is. -/
def mkG (ax : Int) (u : T) : T := .node (if ax = 2 then 3 else 2) u.r 0 [u]
def Around (t : T) (p : List Int) (ax : Int) (u g : T) (pl : List Int) (k : Nat) : Prop :=
  (∃ (q : List Int) (j : Nat), p = q ++ [(j : Int)] ∧ atT t q = some g ∧ alB g.k ax = true ∧ pl = q ∧ k = j) ∨
  (g = mkG ax u ∧ pl = p ∧ k = 0 ∧ (p = [] ∨ ∃ (q : List Int) (j : Int) (g' : T), p = q ++ [j] ∧ atT t q = some g' ∧ alB g'.k ax = false))
abbrev swapK (g : T) (k : Nat) (l : List T) : T := .node g.k g.r g.id (g.kids.take k ++ l ++ g.kids.drop (k + 1))
theorem around_is {id ax : Int} (hax : ax = 1 ∨ ax = 2) (l : List T) (u g : T) : ∀ (p : List Int) (t : T) (pl : List Int) (k : Nat), sz t ≤ 20000 → tileB t = true → findT id t = some p → atT t p = some u → Around t p ax u g pl k →
    putT (setT g.r.x g.r.y (swapK g k l)) t pl = some (setT t.r.x t.r.y (inT id ax l t)) := by
  have hkd : (if ax = 2 then (3 : Int) else 2) = ax + 1 := by split <;> omega
  intro p
  induction p with
  | nil =>
    intro t pl k hs ht hf hu har
    obtain ⟨h1, h2⟩ := findT_top hf
    rw [atT] at hu
    cases hu
    rcases har with ⟨q, j, h, -⟩ | ⟨rfl, rfl, rfl, -⟩
    · simp at h
    · rw [putT, inT_eq, if_pos h1, if_pos h2]
      unfold swapK mkG
      simp only [T.k, T.r, T.id, T.kids, hkd, List.take_zero, List.nil_append, List.drop_succ_cons, List.drop_nil, List.append_nil]
  | cons m p ih =>
    intro t pl k hs ht hf hu har
    obtain ⟨j, v, rfl, hv, hfv⟩ := findT_more hf
    have hkid : kidAt t (j : Int) = some v := by unfold kidAt; rw [if_pos (by omega)]; simpa using hv
    rw [atT, hkid] at hu
    have hu : atT v p = some u := hu
    have hk1 : t.k ≠ 1 := fun e => by rw [leaf_none hs ht e] at hv; simp at hv
    have hsv := sz_kid hv
    have htv := tile_kid hs ht hv
    obtain ⟨u', h1, h2, h3, h4⟩ := find_there hfv
    have hon := once_tile hs ht
    have hcons : onceI ((t :: preL (t.kids.take j)) ++ preT v ++ preL (t.kids.drop (j + 1))) := by
      rw [preT_eq t, pre_cut hv] at hon
      simpa using hon
    obtain ⟨n1, n2⟩ := once_mid hcons h4 ⟨h2, h3⟩
    have hin : inT id ax l t = .node t.k t.r t.id (t.kids.take j ++ inK id ax l t.k v ++ t.kids.drop (j + 1)) := by
      rw [inT_eq, if_neg hk1, inL_at hv (fun x hx => n1 x (List.mem_cons_of_mem _ hx)) n2]
    have hin2 : inK id ax l t.k v = [inT id ax l v] → setT t.r.x t.r.y (inT id ax l t) = setKid t j (setT v.r.x v.r.y (inT id ax l v)) := fun e => by
      rw [hin, e, set_cut hv]
      exact set_kid hs ht hv (inT_r id ax l v)
    have hput : ∀ (x y : T) (q : List Int), putT x v q = some y → putT x t ((j : Int) :: q) = some (setKid t j y) := fun x y q e => by
      rw [putT, hkid]
      simp only [e, Int.toNat_natCast]
    cases p with
    | nil =>
      obtain ⟨g1, g2⟩ := findT_top hfv
      rw [atT] at hu
      cases hu
      rcases har with ⟨q, i, h, hg, ha, rfl, rfl⟩ | ⟨rfl, rfl, rfl, h⟩
      · obtain ⟨rfl, rfl⟩ : pl = [] ∧ k = j := by
          cases pl with
          | nil => simp at h; exact ⟨rfl, by omega⟩
          | cons a b => simp at h
        rw [atT] at hg
        cases hg
        rw [putT, hin]
        unfold inK
        rw [if_pos ⟨g1, g2, ha⟩]
      · have ha : alB t.k ax = false := by
          rcases h with h | ⟨q, i, g', h, hg, ha⟩
          · cases h
          · cases q with
            | nil => rw [atT] at hg; cases hg; exact ha
            | cons a b => simp at h
        rw [hin2 (by unfold inK; rw [if_neg (fun e => by rw [ha] at e; exact absurd e.2.2 (by decide))])]
        refine hput _ _ [] ?_
        rw [putT, inT_eq, if_pos g1, if_pos g2]
        unfold swapK mkG
        simp only [T.k, T.r, T.id, T.kids, hkd, List.take_zero, List.nil_append, List.drop_succ_cons, List.drop_nil, List.append_nil]
    | cons m2 p =>
      obtain ⟨j2, v2, -, hv2, -⟩ := findT_more hfv
      have hkv : v.k ≠ 1 := fun e => by rw [leaf_none (by omega) htv e] at hv2; simp at hv2
      rw [hin2 (by unfold inK; rw [if_neg (fun e => hkv e.1)])]
      rcases har with ⟨q, i, h, hg, ha, rfl, rfl⟩ | ⟨hgm, rfl, rfl, h⟩
      · cases pl with
        | nil => simp at h
        | cons a b =>
          rw [List.cons_append, List.cons.injEq] at h
          obtain ⟨rfl, h⟩ := h
          rw [atT, hkid] at hg
          exact hput _ _ _ (ih v b k (by omega) htv hfv hu (.inl ⟨b, k, h, hg, ha, rfl, rfl⟩))
      · refine hput _ _ _ (ih v (m2 :: p) 0 (by omega) htv hfv hu (.inr ⟨hgm, rfl, rfl, .inr ?_⟩))
        rcases h with h | ⟨q, i, g', h, hg, ha⟩
        · cases h
        · cases q with
          | nil => simp at h
          | cons a b =>
            rw [List.cons_append, List.cons.injEq] at h
            obtain ⟨rfl, h⟩ := h
            rw [atT, hkid] at hg
            exact ⟨b, i, g', h, hg, ha⟩

/-- A leaf that is adjusted. -/
theorem adj_leaf {ax a : Int} (hax : ax = 1 ∨ ax = 2) {u : T} (hs : sz u ≤ 20000) (ht : tileB u = true) (hk : u.k = 1) (h1 : 1 ≤ a) (h2 : a ≤ szA u.r ax) : ajE ax (a - szA u.r ax) u = 0 ∧ ajT ax (a - szA u.r ax) u = .node 1 (cutR u.r ax a) u.id [] := by
  obtain ⟨hw, -⟩ := tile_top hs ht
  have hp := szA_pos (well_rect hw) hax
  have hl := leaf_ls hw hk ax
  refine ⟨(aj_do ⟨ht, (axB_iff ax).2 hax⟩).trans (if_neg (by omega)), ?_⟩
  have he : adjR ax (a - szA u.r ax) u.r = cutR u.r ax a := by
    rcases hax with rfl | rfl
    · have : szA u.r 1 = u.r.w := rfl
      unfold adjR cutR
      rw [if_pos rfl, if_pos rfl, this]
      congr 1; omega
    · have : szA u.r 2 = u.r.h := rfl
      unfold adjR cutR
      rw [if_neg (by decide), if_neg (by decide), this]
      congr 1; omega
  have hx : cutR u.r ax a = ⟨u.r.x, u.r.y, (cutR u.r ax a).w, (cutR u.r ax a).h⟩ := by unfold cutR; split <;> rfl
  have hq : adjT ax (a - szA u.r ax) u = .node 1 (cutR u.r ax a) u.id [] := by
    rw [adjT_eq, leaf_none hs ht hk, he, hk]
    simp [adjL]
  unfold ajT
  rw [hq, setT_eq]
  show T.node 1 ⟨u.r.x, u.r.y, (cutR u.r ax a).w, (cutR u.r ax a).h⟩ u.id (setL 1 u.r.x u.r.y []) = _
  rw [← hx]
  simp [setL]
end Go.Proofs.Ytodcabaihhmhnaa
