/- Texts of this seat, 3 in one file. -/
import Derived.Test.YtodcabaihhmhnaaG32
import Derived.Test.YtodcabaihhmhnaaG30
import Derived.Test.YtodcabaihhmhnaaG33
import Derived.Test.YtodcabaihhmhnaaG22
/- A cell whose kids stand in one row, whatever else turns. No walk. -/
namespace Go.Proofs.Ytodcabaihhmhnaa
open Go.RowKit

structure TopC (d : C) (cs : List C) (t : T) : Prop where
  n : d.n = t.kids.length
  len : cs.length = t.kids.length
  he : t.k = d.k ∧ t.r = d.r ∧ t.id = d.id
  fine : d.fine
/-- Its kids stand there. -/
def Std (d : C) (cs : List C) (t : T) (W : World) : Prop := CRow W (.slice d.a d.n d.cap) cs ∧ Tops W cs t.kids
theorem Std.up {d : C} {cs : List C} {t : T} {W W' : World} (h : Std d cs t W) (hb : Below W.heap.size W W') : Std d cs t W' := ⟨h.1.up hb, h.2.up hb⟩
theorem std_of {w : World} {d : C} {t : T} (h : Is w d t) : ∃ cs, TopC d cs t ∧ Std d cs t w := by
  cases h with
  | mk c kids cs row len fine each => exact ⟨cs, ⟨row.len.trans len, len, ⟨rfl, rfl, rfl⟩, fine⟩, row, len, each⟩
theorem Std.is {d : C} {cs : List C} {t : T} {W : World} (h : Std d cs t W) (ht : TopC d cs t) : Is W d t := by
  obtain ⟨k, r, i, l⟩ := t
  obtain ⟨h1, h2, h3⟩ := ht.he
  obtain rfl : k = d.k := h1
  obtain rfl : r = d.r := h2
  obtain rfl : i = d.id := h3
  exact .mk d l cs h.1 h.2.1 ht.fine h.2.2
/-- They stand in every world that is so, and has w's blocks from lo to hi. -/
def FixT (E : World → Prop) (w : World) (lo hi : Nat) (d : C) (cs : List C) (t : T) : Prop := ∀ W', E W' → (∀ k, lo ≤ k → k < hi → W'.heap[k]? = w.heap[k]?) → Std d cs t W'
theorem FixT.std {E : World → Prop} {w : World} {lo hi : Nat} {d : C} {cs : List C} {t : T} (h : FixT E w lo hi d cs t) (hE : E w) : Std d cs t w := h w hE fun _ _ _ => rfl
theorem FixT.move {E : World → Prop} {w w2 : World} {lo hi : Nat} {d : C} {cs : List C} {t : T} (h : FixT E w lo hi d cs t) (h1 : ∀ k, lo ≤ k → k < hi → w2.heap[k]? = w.heap[k]?) : FixT E w2 lo hi d cs t :=
  fun W' g0 g1 => h W' g0 fun k hl hh => (g1 k hl hh).trans (h1 k hl hh)
theorem FixT.wide {E : World → Prop} {w : World} {lo hi lo' hi' : Nat} {d : C} {cs : List C} {t : T} (h : FixT E w lo hi d cs t) (hl : lo' ≤ lo) (hh : hi ≤ hi') : FixT E w lo' hi' d cs t :=
  fun W' g0 g1 => h W' g0 fun k hl' hh' => g1 k (by omega) (by omega)
theorem FixT.up {E : World → Prop} {w w2 : World} {lo : Nat} {d : C} {cs : List C} {t : T} (h : FixT E w lo w.heap.size d cs t) (hb : Below w.heap.size w w2) : FixT E w2 lo w2.heap.size d cs t :=
  (h.move fun k _ hk => hb.block k hk).wide (Nat.le_refl _) hb.size
theorem FixT.trans {E : World → Prop} {w w2 : World} {lo hi lo2 hi2 : Nat} {d d2 : C} {cs cs2 : List C} {t t2 : T} (h1 : FixT E w lo hi d cs t) (h2 : FixT (Std d cs t) w2 lo2 hi2 d2 cs2 t2) (ha : ∀ k, lo ≤ k → k < hi → w2.heap[k]? = w.heap[k]?) (hl : lo ≤ lo2) (hh : hi ≤ hi2) : FixT E w2 lo hi2 d2 cs2 t2 :=
  fun W' g0 g1 => h2 W' (h1 W' g0 fun k a1 a2 => (g1 k a1 (by omega)).trans (ha k a1 a2)) fun k a1 a2 => g1 k (by omega) a2
def FxSays (E : World → Prop) (t : T) (w : World) (e : Ending) (w' : World) : Prop := ∃ d cs, e = .returned (cval d) ∧ TopC d cs t ∧ FixT E w' w.heap.size w'.heap.size d cs t ∧ Below w.heap.size w w'
theorem Grove.fix {E : World → Prop} {w : World} {base : Nat} {k : Int} {r : R} {id : Int} {a : Option Addr} {n cap : Nat} {cs : List C} {l : List T} (h : Grove E w base (.slice a n cap) cs l) : FixT E w base w.heap.size ⟨k, r, id, a, n, cap⟩ cs (.node k r id l) := by
  intro W' g0 g1
  refine ⟨(ownC_kept h.row fun g hg => ?_).row, h.len, fun j x t hx ht => ?_⟩
  · have := own_block h.row hg
    exact g1 g this.1 this.2
  · obtain ⟨lo, hi, a1, a2, a3, a4⟩ := h.each j x t hx ht
    exact a4 W' g0 fun k hl hh => g1 k (by omega) (by omega)
theorem fx_end {E : World → Prop} {w wr : World} {k : Int} {r : R} {id : Int} {a : Option Addr} {cap : Nat} {cs : List C} {l : List T} {t' : T} (he : t' = .node k r id l) (hb : Below w.heap.size w wr) (h : Grove E wr (w.heap.size + 2) (.slice a cs.length cap) cs l) (hk : 0 ≤ k ∧ k ≤ 255) (hr : r.fits) (hi : fits id) (hl : l.length ≤ 1954687338211) :
    FxSays E t' w (.returned (cval ⟨k, r, id, a, cs.length, cap⟩)) (endW w wr ⟨k, r, id, a, cs.length, cap⟩) := by
  subst he
  refine ⟨_, cs, rfl, ⟨h.len, h.len, ⟨rfl, rfl, rfl⟩, hk, hr, hi, by show cs.length ≤ _; rw [h.len]; exact hl⟩, ?_, below_put7 (hb.setCell (Nat.le_refl _) _) (by omega) _⟩
  have hst := h.fix (k := k) (r := r) (id := id)
  exact (hst.move (w2 := endW w wr ⟨k, r, id, a, cs.length, cap⟩) fun j hj _ => endW_other (by omega) (by omega)).wide (by omega) (by rw [endW_size]; exact Nat.le_refl _)
end Go.Proofs.Ytodcabaihhmhnaa
/- A kid of a cell is adjusted: the document's. -/
namespace Go.Proofs.Ytodcabaihhmhnaa
open Go.RowKit

noncomputable def withT (ax b : Int) (i : Nat) (t : T) : T := .node t.k t.r t.id (t.kids.set i (adjO ax b (setT 0 0 (t.kids.getD i default))))
theorem with_grove {E : World → Prop} {W1 W : World} {base g cap i lo : Nat} {cs : List C} {l : List T} {d : C} {u : T} (h : OwnC W1 base (.slice (some ⟨g, 0, none⟩) cs.length cap) cs) (hl : cs.length = l.length) (hi : i < cs.length) (hT : ∀ W, E W → Tops W cs l) (hg : g < lo) (hlo : lo ≤ W.heap.size) (hb : Below W1.heap.size W1 W)
    (hs : Stands (fun _ => True) W lo W.heap.size d u) : Grove E (putO W g (i * 7) d) base (.slice (some ⟨g, 0, none⟩) cs.length cap) (cs.set i d) (l.set i u) := by
  have hown := own_block h (g := g) rfl
  refine ⟨own_put (h.up hb) hi rfl, by simp [hl], fun j x y hx hy => ?_⟩
  by_cases hij : i = j
  · subst hij
    rw [List.getElem?_set_self hi] at hx
    rw [List.getElem?_set_self (by omega)] at hy
    cases hx; cases hy
    refine ⟨lo, W.heap.size, by omega, by rw [size_putO']; exact Nat.le_refl _, fun k hk => ?_, fun W' _ hW => (hs.move (w2 := putO W g (i * 7) d) fun k h1 _ => putO_other (by omega)) W' trivial hW⟩
    cases hk
    exact .inl hg
  · rw [List.getElem?_set_ne hij] at hx hy
    exact ⟨base, base, Nat.le_refl _, by rw [size_putO']; have := hb.size; omega, fun k hk => by have := own_block (h.up hb) hk; right; exact this.1, fun W' hE _ => (hT W' hE).2 j x y hx hy⟩

end Go.Proofs.Ytodcabaihhmhnaa
/- A tree that is set elsewhere: it tiles there, too; and it is adjusted as it was. No walk. -/
namespace Go.Proofs.Ytodcabaihhmhnaa
open Go.RowKit

theorem setL_ws (k : Int) (l : List T) : ∀ x y, (setL k x y l).map (fun t => t.r.w) = l.map fun t => t.r.w := by
  induction l with
  | nil => intro x y; simp [setL]
  | cons t l ih =>
    intro x y
    rw [setL, List.map_cons, List.map_cons, ih, setT_eq]; rfl
theorem setL_hs (k : Int) (l : List T) : ∀ x y, (setL k x y l).map (fun t => t.r.h) = l.map fun t => t.r.h := by
  induction l with
  | nil => intro x y; simp [setL]
  | cons t l ih =>
    intro x y
    rw [setL, List.map_cons, List.map_cons, ih, setT_eq]; rfl
theorem set_r (x y : Int) (t : T) : (setT x y t).r = ⟨x, y, t.r.w, t.r.h⟩ := by rw [setT_eq]; rfl
theorem set_szA (x y ax : Int) (t : T) : szA (setT x y t).r ax = szA t.r ax := by rw [set_r]; rfl
theorem nxX_w {k x : Int} {t u : T} (h : t.r.w = u.r.w) : nxX k x t = nxX k x u := by unfold nxX; rw [h]
theorem nxY_h {k y : Int} {t u : T} (h : t.r.h = u.r.h) : nxY k y t = nxY k y u := by unfold nxY; rw [h]

mutual
theorem ls_set (ax : Int) : ∀ (x y : Int) (t : T), lsT ax (setT x y t) = lsT ax t
  | x, y, .node k r i l => by
    have h1 := setL_length k l x y
    have h2 : (setL k x y l).isEmpty = l.isEmpty := by
      cases l with
      | nil => simp [setL]
      | cons t l => simp [setL]
    rw [setT, lsT, lsT, lsS_set ax k x y l, lsX_set ax k x y l, h1, h2]
theorem lsS_set (ax k : Int) : ∀ (x y : Int) (l : List T), lsS ax (setL k x y l) = lsS ax l
  | x, y, [] => by simp [setL]
  | x, y, t :: l => by rw [setL, lsS, lsS, ls_set ax x y t, lsS_set ax k _ _ l]
theorem lsX_set (ax k : Int) : ∀ (x y : Int) (l : List T), lsX ax (setL k x y l) = lsX ax l
  | x, y, [] => by simp [setL]
  | x, y, t :: l => by rw [setL, lsX, lsX, ls_set ax x y t, lsX_set ax k _ _ l]
end
theorem gv_set (ax x y : Int) (t : T) : gvT ax (setT x y t) = gvT ax t := by unfold gvT; rw [set_szA, ls_set]
theorem gvs_set (ax k : Int) (l : List T) : ∀ x y, (setL k x y l).map (gvT ax) = l.map (gvT ax) := by
  induction l with
  | nil => intro x y; simp [setL]
  | cons t l ih =>
    intro x y
    rw [setL, List.map_cons, List.map_cons, ih, gv_set]
theorem adjR_w {ax b x y : Int} {r : R} : (adjR ax b ⟨x, y, r.w, r.h⟩).w = (adjR ax b r).w ∧ (adjR ax b ⟨x, y, r.w, r.h⟩).h = (adjR ax b r).h := by
  unfold adjR; split <;> exact ⟨rfl, rfl⟩
theorem adjT_r (ax b : Int) (t : T) : (adjT ax b t).r = adjR ax b t.r := by rw [adjT_eq]; rfl
mutual
/-- Wherever it stood. -/
theorem adj_set (ax : Int) : ∀ (b x y a c : Int) (t : T), setT a c (adjT ax b (setT x y t)) = setT a c (adjT ax b t)
  | b, x, y, a, c, .node k r i l => by
    have h1 := @adjR_w ax b x y r
    rw [setT, adjT, adjT, setT, setT, gvs_set, h1.1, h1.2, adjL_set ax k k]
theorem adjL_set (ax k k' : Int) : ∀ (s : Nat → Int) (x y a c : Int) (l : List T), setL k' a c (adjL ax s (setL k x y l)) = setL k' a c (adjL ax s l)
  | s, x, y, a, c, [] => by simp [setL]
  | s, x, y, a, c, t :: l => by
    have h1 : (adjT ax (s 0) (setT x y t)).r.w = (adjT ax (s 0) t).r.w := by rw [adjT_r, adjT_r, set_r]; exact adjR_w.1
    have h2 : (adjT ax (s 0) (setT x y t)).r.h = (adjT ax (s 0) t).r.h := by rw [adjT_r, adjT_r, set_r]; exact adjR_w.2
    rw [setL, adjL, adjL, setL, setL, adj_set ax (s 0) x y a c t, nxX_w h1, nxY_h h2, adjL_set ax k k']
end
mutual
theorem set_set : ∀ (x y a c : Int) (t : T), setT a c (setT x y t) = setT a c t
  | x, y, a, c, .node k r i l => by rw [setT, setT, setT, setL_set k k]
theorem setL_set (k k' : Int) : ∀ (x y a c : Int) (l : List T), setL k' a c (setL k x y l) = setL k' a c l
  | x, y, a, c, [] => by simp [setL]
  | x, y, a, c, t :: l => by
    have h1 : (setT x y t).r.w = t.r.w := by rw [set_r]
    have h2 : (setT x y t).r.h = t.r.h := by rw [set_r]
    rw [setL, setL, setL, set_set x y a c t, nxX_w h1, nxY_h h2, setL_set k k']
end

/-- A kid of what tiles is inside it. -/
theorem kid_in {t : T} (hs : sz t ≤ 20000) (ht : tileB t = true) {j : Nat} {u : T} (hu : t.kids[j]? = some u) : t.r.x ≤ u.r.x ∧ u.r.x + u.r.w ≤ t.r.x + t.r.w ∧ t.r.y ≤ u.r.y ∧ u.r.y + u.r.h ≤ t.r.y + t.r.h := by
  obtain ⟨hw, hf⟩ := tile_top hs ht
  have hr := may_rect (well_rect hw)
  have hjl := (List.getElem?_eq_some_iff.1 hu).1
  obtain h1 | ⟨⟨-, hcut⟩, hrects⟩ := (fitB_iff t).1 hf
  · rw [leaf_none hs ht h1] at hu; simp at hu
  · have hlen : (sizesT t).length = t.kids.length := sizes_len t
    have hat : (cutParts t.r (axT t) (sizesT t) true)[j]? = some u.r := by rw [← hrects, List.getElem?_map, hu]; rfl
    have hm : (sizesT t)[j]? = some ((sizesT t).getD j 0) := by rw [List.getD_eq_getElem?_getD, List.getElem?_eq_getElem (by omega)]; rfl
    generalize (sizesT t).getD j 0 = m at hm
    have hgd : (sizesT t).getD j 0 = m := by rw [List.getD_eq_getElem?_getD, hm]; rfl
    rcases well_kind hw with h | h | h
    · rw [leaf_none hs ht h] at hu; simp at hu
    · have ha : axT t = 1 := by unfold axT; rw [if_neg (by omega)]
      rw [ha] at hcut hat
      have hfill : fillP t.r.w (sizesT t) := by
        rcases hcut with ⟨-, h⟩ | ⟨h, -⟩
        · exact h
        · omega
      rw [cutParts, if_pos rfl, parts_at _ _ _ _ _ (by omega)] at hat
      have h4 := Option.some.inj hat
      have h5 := hfill.1 j m (by omega) hm
      have h6 := off_nonneg hfill.1 j (by omega) (by omega)
      unfold partK at h4
      rw [hgd] at h4
      rw [← h4]
      simp only [id]
      omega
    · have ha : axT t = 2 := by unfold axT; rw [if_pos h]
      rw [ha] at hcut hat
      have hfill : fillP t.r.h (sizesT t) := by
        rcases hcut with ⟨h, -⟩ | ⟨-, h⟩
        · omega
        · exact h
      rw [cutParts, if_neg (by decide), parts_at _ _ _ _ _ (by omega)] at hat
      have h4 := Option.some.inj hat
      have h5 := hfill.1 j m (by omega) hm
      have h6 := off_nonneg hfill.1 j (by omega) (by omega)
      unfold partK turnR at h4
      rw [hgd] at h4
      rw [← h4]
      simp only
      omega
theorem pX_shift {k d : Int} : ∀ (l : List T) {A B : Int}, IntKind.i64.wrap A = IntKind.i64.wrap (B + d) → IntKind.i64.wrap (pX k A l) = IntKind.i64.wrap (pX k B l + d)
  | [], _, _, h => h
  | t :: l, A, B, h => by
    show IntKind.i64.wrap (pX k (nxX k A t) l) = IntKind.i64.wrap (pX k (nxX k B t) l + d)
    refine pX_shift l ?_
    unfold nxX
    split
    · simp only [IntKind.wrap_i64] at *; omega
    · exact h
theorem pY_shift {k d : Int} : ∀ (l : List T) {A B : Int}, IntKind.i64.wrap A = IntKind.i64.wrap (B + d) → IntKind.i64.wrap (pY k A l) = IntKind.i64.wrap (pY k B l + d)
  | [], _, _, h => h
  | t :: l, A, B, h => by
    show IntKind.i64.wrap (pY k (nxY k A t) l) = IntKind.i64.wrap (pY k (nxY k B t) l + d)
    refine pY_shift l ?_
    unfold nxY
    split
    · simp only [IntKind.wrap_i64] at *; omega
    · exact h
/-- Where it stands elsewhere. -/
theorem kid_shift {t : T} (hs : sz t ≤ 20000) (ht : tileB t = true) {j : Nat} {u : T} (hu : t.kids[j]? = some u) {x y : Int} (hx : 0 ≤ x ∧ x ≤ 10000) (hy : 0 ≤ y ∧ y ≤ 10000) : pX t.k x (t.kids.take j) = u.r.x + (x - t.r.x) ∧ pY t.k y (t.kids.take j) = u.r.y + (y - t.r.y) := by
  obtain ⟨h1, h2⟩ := fit_at hs ht hu
  have h3 := may_rect (well_rect (tile_top hs ht).1)
  have h4 := kid_in hs ht hu
  have h5 := sz_kid hu
  have h6 := may_rect (well_rect (tile_top (by omega) (tile_kid hs ht hu)).1)
  have g1 := pX_shift (k := t.k) (d := x - t.r.x) (t.kids.take j) (A := x) (B := t.r.x) (by congr 1; omega)
  have g2 := pY_shift (k := t.k) (d := y - t.r.y) (t.kids.take j) (A := y) (B := t.r.y) (by congr 1; omega)
  have f1 : fits (pX t.k x (t.kids.take j)) := pX_fits _ (by unfold fits; omega)
  have f2 : fits (pY t.k y (t.kids.take j)) := pY_fits _ (by unfold fits; omega)
  unfold fits at f1 f2
  rw [wrap_id f1, h1, wrap_id (by omega)] at g1
  rw [wrap_id f2, h2, wrap_id (by omega)] at g2
  exact ⟨g1, g2⟩

theorem mem_preL {u : T} : ∀ {l : List T}, u ∈ preL l → ∃ (j : Nat) (t : T), l[j]? = some t ∧ u ∈ preT t
  | [], h => by rw [preL] at h; cases h
  | t :: l, h => by
    rw [preL] at h
    rcases List.mem_append.1 h with h | h
    · exact ⟨0, t, rfl, h⟩
    · obtain ⟨j, v, h1, h2⟩ := mem_preL h
      exact ⟨j + 1, v, by simpa using h1, h2⟩
theorem cut_shift {r : R} {ax : Int} {ms : List Int} {x y : Int} {j : Nat} {q : R} (h : (cutParts r ax ms true)[j]? = some q) : (cutParts ⟨x, y, r.w, r.h⟩ ax ms true)[j]? = some ⟨q.x + (x - r.x), q.y + (y - r.y), q.w, q.h⟩ := by
  have hj := (List.getElem?_eq_some_iff.1 h).1
  rw [parts_len] at hj
  rw [cutParts] at h ⊢
  split
  · rename_i ha
    rw [if_pos ha, parts_at _ _ _ _ _ hj] at h
    rw [parts_at _ _ _ _ _ hj, ← Option.some.inj h]
    unfold partK
    simp only [id]
    congr 2 <;> omega
  · rename_i ha
    rw [if_neg ha, parts_at _ _ _ _ _ hj] at h
    rw [parts_at _ _ _ _ _ hj, ← Option.some.inj h]
    unfold partK turnR
    simp only
    congr 2 <;> omega
/-- Each cell of it is as it should be there. -/
theorem good_set (N : Nat) : ∀ (t : T) (x y : Int), sz t ≤ N → sz t ≤ 20000 → tileB t = true → 0 ≤ x → x + t.r.w ≤ 10000 → 0 ≤ y → y + t.r.h ≤ 10000 → ∀ u ∈ preT (setT x y t), wellT u = true ∧ fitB u = true := by
  induction N with
  | zero => intro t x y h; have := sz_pos t; omega
  | succ N ih =>
    intro t x y hN hs ht hx0 hx1 hy0 hy1 u hu
    obtain ⟨hw, hf⟩ := tile_top hs ht
    have hr := may_rect (well_rect hw)
    have hmay : mayB ⟨x, y, t.r.w, t.r.h⟩ = true := (mayB_iff _).2 ⟨⟨hx0, hr.2.2.1, hx1⟩, hy0, hr.2.2.2.1, hy1⟩
    rw [preT_eq] at hu
    rcases List.mem_cons.1 hu with rfl | hu
    · rw [setT_eq]
      constructor
      · unfold wellT at hw ⊢
        show wellB t.k ⟨x, y, t.r.w, t.r.h⟩ t.id (setL t.k x y t.kids).length = true
        rw [setL_length]
        unfold wellB at hw ⊢
        rw [Bool.and_eq_true] at hw ⊢
        exact ⟨hmay, hw.2⟩
      · refine (fitB_iff _).2 ?_
        obtain h1 | ⟨⟨-, hcut⟩, hrects⟩ := (fitB_iff t).1 hf
        · exact .inl h1
        · right
          have hax : axT (.node t.k ⟨x, y, t.r.w, t.r.h⟩ t.id (setL t.k x y t.kids)) = axT t := rfl
          have hss : sizesT (.node t.k ⟨x, y, t.r.w, t.r.h⟩ t.id (setL t.k x y t.kids)) = sizesT t := by
            unfold sizesT wsT hsT
            show (if t.k = 3 then (setL t.k x y t.kids).map (fun u => u.r.h) else (setL t.k x y t.kids).map (fun u => u.r.w)) = _
            rw [setL_ws, setL_hs]
          rw [hax, hss]
          refine ⟨⟨hmay, hcut⟩, ?_⟩
          refine List.ext_getElem? fun j => ?_
          rw [List.getElem?_map]
          show ((setL t.k x y t.kids)[j]?).map T.r = (cutParts ⟨x, y, t.r.w, t.r.h⟩ (axT t) (sizesT t) true)[j]?
          rw [setL_get]
          cases hv : t.kids[j]? with
          | none =>
            have : (cutParts ⟨x, y, t.r.w, t.r.h⟩ (axT t) (sizesT t) true).length = t.kids.length := by rw [parts_len, sizes_len]
            rw [List.getElem?_eq_none_iff] at hv
            rw [List.getElem?_eq_none (by omega)]
            rfl
          | some v =>
            have hat : (cutParts t.r (axT t) (sizesT t) true)[j]? = some v.r := by rw [← hrects, List.getElem?_map, hv]; rfl
            obtain ⟨h1, h2⟩ := kid_shift hs ht hv (x := x) (y := y) ⟨hx0, by omega⟩ ⟨hy0, by omega⟩
            rw [cut_shift hat]
            simp only [Option.map_some]
            rw [set_r, h1, h2]
    · obtain ⟨j, v', hv', hu⟩ := mem_preL hu
      rw [setT_eq] at hv'
      have hv' : (setL t.k x y t.kids)[j]? = some v' := hv'
      rw [setL_get] at hv'
      cases hv : t.kids[j]? with
      | none => rw [hv] at hv'; cases hv'
      | some v =>
        rw [hv] at hv'
        obtain ⟨h1, h2⟩ := kid_shift hs ht hv (x := x) (y := y) ⟨hx0, by omega⟩ ⟨hy0, by omega⟩
        have h3 := kid_in hs ht hv
        have h4 := sz_kid hv
        rw [h1, h2] at hv'
        cases hv'
        exact ih v _ _ (by omega) (by omega) (tile_kid hs ht hv) (by omega) (by omega) (by omega) (by omega) u hu
mutual
theorem ids_set : ∀ (x y : Int) (t : T), idsP (preT (setT x y t)) = idsP (preT t)
  | x, y, .node k r i l => by rw [setT, preT, preT, idsP_cons, idsP_cons, idsL_set k x y l]; rfl
theorem idsL_set (k : Int) : ∀ (x y : Int) (l : List T), idsP (preL (setL k x y l)) = idsP (preL l)
  | x, y, [] => by simp [setL]
  | x, y, t :: l => by rw [setL, preL, preL, idsP_append, idsP_append, ids_set x y t, idsL_set k _ _ l]
end
/-- It tiles there, too. -/
theorem set_tile {t : T} {x y : Int} (hs : sz t ≤ 20000) (ht : tileB t = true) (hx0 : 0 ≤ x) (hx1 : x + t.r.w ≤ 10000) (hy0 : 0 ≤ y) (hy1 : y + t.r.h ≤ 10000) : tileB (setT x y t) = true := by
  have hg := good_set (sz t) t x y (Nat.le_refl _) hs ht hx0 hx1 hy0 hy1
  have hon := once_tile hs ht
  have hid := ids_set x y t
  have hsz := setT_sz x y t
  unfold tileB
  rw [may_is (by omega)]
  unfold rmayT
  rw [Bool.and_eq_true, Bool.and_eq_true, decide_eq_true_eq, List.all_eq_true, List.all_eq_true]
  refine ⟨⟨fun u hu => (hg u hu).1, ?_⟩, fun u hu => (hg u hu).2⟩
  unfold onceI at hon
  unfold idsP at hid
  rw [hid]
  exact hon
end Go.Proofs.Ytodcabaihhmhnaa
