/- Texts of this seat, 3 in one file. -/
import Derived.Test.YtcdiogifgemjbaaGreatG24
import Derived.Test.YtcdiogifgemjbaaGreatG20
import Derived.Test.YtcdiogifgemjbaaGreatG23
/- A tree that is set elsewhere: it tiles there, too; and it is adjusted as it was. No walk. -/
namespace Go.Proofs.YtcdiogifgemjbaaGreat
open Go.RowKit

theorem setL_ws (k : Int) (l : List T) : ∀ x y, (setL k x y l).map (fun t => t.r.w) = l.map fun t => t.r.w := by
  induction l with
  | nil => intro x y; simp [setL]
  | cons t l ih =>
    intro x y
    rw [setL, List.map_cons, List.map_cons, ih, setT_eq]; rfl
theorem setL_hs (k : Int) (l : List T) : ∀ x y, (setL k x y l).map (fun t => t.r.h) = l.map fun t => t.r.h := by
  induction l with
  | nil => intro x y; simp [setL]
  | cons t l ih =>
    intro x y
    rw [setL, List.map_cons, List.map_cons, ih, setT_eq]; rfl
theorem set_r (x y : Int) (t : T) : (setT x y t).r = ⟨x, y, t.r.w, t.r.h⟩ := by rw [setT_eq]; rfl
theorem set_szA (x y ax : Int) (t : T) : szA (setT x y t).r ax = szA t.r ax := by rw [set_r]; rfl
theorem nxX_w {k x : Int} {t u : T} (h : t.r.w = u.r.w) : nxX k x t = nxX k x u := by unfold nxX; rw [h]
theorem nxY_h {k y : Int} {t u : T} (h : t.r.h = u.r.h) : nxY k y t = nxY k y u := by unfold nxY; rw [h]

mutual
theorem ls_set (ax : Int) : ∀ (x y : Int) (t : T), lsT ax (setT x y t) = lsT ax t
  | x, y, .node k r i l => by
    have h1 := setL_length k l x y
    have h2 : (setL k x y l).isEmpty = l.isEmpty := by
      cases l with
      | nil => simp [setL]
      | cons t l => simp [setL]
    rw [setT, lsT, lsT, lsS_set ax k x y l, lsX_set ax k x y l, h1, h2]
theorem lsS_set (ax k : Int) : ∀ (x y : Int) (l : List T), lsS ax (setL k x y l) = lsS ax l
  | x, y, [] => by simp [setL]
  | x, y, t :: l => by rw [setL, lsS, lsS, ls_set ax x y t, lsS_set ax k _ _ l]
theorem lsX_set (ax k : Int) : ∀ (x y : Int) (l : List T), lsX ax (setL k x y l) = lsX ax l
  | x, y, [] => by simp [setL]
  | x, y, t :: l => by rw [setL, lsX, lsX, ls_set ax x y t, lsX_set ax k _ _ l]
end
theorem gv_set (ax x y : Int) (t : T) : gvT ax (setT x y t) = gvT ax t := by unfold gvT; rw [set_szA, ls_set]
theorem gvs_set (ax k : Int) (l : List T) : ∀ x y, (setL k x y l).map (gvT ax) = l.map (gvT ax) := by
  induction l with
  | nil => intro x y; simp [setL]
  | cons t l ih =>
    intro x y
    rw [setL, List.map_cons, List.map_cons, ih, gv_set]
theorem adjR_w {ax b x y : Int} {r : R} : (adjR ax b ⟨x, y, r.w, r.h⟩).w = (adjR ax b r).w ∧ (adjR ax b ⟨x, y, r.w, r.h⟩).h = (adjR ax b r).h := by
  unfold adjR; split <;> exact ⟨rfl, rfl⟩
theorem adjT_r (ax b : Int) (t : T) : (adjT ax b t).r = adjR ax b t.r := by rw [adjT_eq]; rfl
mutual
/-- Wherever it stood. -/
theorem adj_set (ax : Int) : ∀ (b x y a c : Int) (t : T), setT a c (adjT ax b (setT x y t)) = setT a c (adjT ax b t)
  | b, x, y, a, c, .node k r i l => by
    have h1 := @adjR_w ax b x y r
    rw [setT, adjT, adjT, setT, setT, gvs_set, h1.1, h1.2, adjL_set ax k k]
theorem adjL_set (ax k k' : Int) : ∀ (s : Nat → Int) (x y a c : Int) (l : List T), setL k' a c (adjL ax s (setL k x y l)) = setL k' a c (adjL ax s l)
  | s, x, y, a, c, [] => by simp [setL]
  | s, x, y, a, c, t :: l => by
    have h1 : (adjT ax (s 0) (setT x y t)).r.w = (adjT ax (s 0) t).r.w := by rw [adjT_r, adjT_r, set_r]; exact adjR_w.1
    have h2 : (adjT ax (s 0) (setT x y t)).r.h = (adjT ax (s 0) t).r.h := by rw [adjT_r, adjT_r, set_r]; exact adjR_w.2
    rw [setL, adjL, adjL, setL, setL, adj_set ax (s 0) x y a c t, nxX_w h1, nxY_h h2, adjL_set ax k k']
end
mutual
theorem set_set : ∀ (x y a c : Int) (t : T), setT a c (setT x y t) = setT a c t
  | x, y, a, c, .node k r i l => by rw [setT, setT, setT, setL_set k k]
theorem setL_set (k k' : Int) : ∀ (x y a c : Int) (l : List T), setL k' a c (setL k x y l) = setL k' a c l
  | x, y, a, c, [] => by simp [setL]
  | x, y, a, c, t :: l => by
    have h1 : (setT x y t).r.w = t.r.w := by rw [set_r]
    have h2 : (setT x y t).r.h = t.r.h := by rw [set_r]
    rw [setL, setL, setL, set_set x y a c t, nxX_w h1, nxY_h h2, setL_set k k']
end

/-- A kid of what tiles is inside it. -/
theorem kid_in {t : T} (hs : sz t ≤ 20000) (ht : tileB t = true) {j : Nat} {u : T} (hu : t.kids[j]? = some u) : t.r.x ≤ u.r.x ∧ u.r.x + u.r.w ≤ t.r.x + t.r.w ∧ t.r.y ≤ u.r.y ∧ u.r.y + u.r.h ≤ t.r.y + t.r.h := by
  obtain ⟨hw, hf⟩ := tile_top hs ht
  have hr := may_rect (well_rect hw)
  have hjl := (List.getElem?_eq_some_iff.1 hu).1
  obtain h1 | ⟨⟨-, hcut⟩, hrects⟩ := (fitB_iff t).1 hf
  · rw [leaf_none hs ht h1] at hu; simp at hu
  · have hlen : (sizesT t).length = t.kids.length := sizes_len t
    have hat : (cutParts t.r (axT t) (sizesT t) true)[j]? = some u.r := by rw [← hrects, List.getElem?_map, hu]; rfl
    have hm : (sizesT t)[j]? = some ((sizesT t).getD j 0) := by rw [List.getD_eq_getElem?_getD, List.getElem?_eq_getElem (by omega)]; rfl
    generalize (sizesT t).getD j 0 = m at hm
    have hgd : (sizesT t).getD j 0 = m := by rw [List.getD_eq_getElem?_getD, hm]; rfl
    rcases well_kind hw with h | h | h
    · rw [leaf_none hs ht h] at hu; simp at hu
    · have ha : axT t = 1 := by unfold axT; rw [if_neg (by omega)]
      rw [ha] at hcut hat
      have hfill : fillP t.r.w (sizesT t) := by
        rcases hcut with ⟨-, h⟩ | ⟨h, -⟩
        · exact h
        · omega
      rw [cutParts, if_pos rfl, parts_at _ _ _ _ _ (by omega)] at hat
      have h4 := Option.some.inj hat
      have h5 := hfill.1 j m (by omega) hm
      have h6 := off_nonneg hfill.1 j (by omega) (by omega)
      unfold partK at h4
      rw [hgd] at h4
      rw [← h4]
      simp only [id]
      omega
    · have ha : axT t = 2 := by unfold axT; rw [if_pos h]
      rw [ha] at hcut hat
      have hfill : fillP t.r.h (sizesT t) := by
        rcases hcut with ⟨h, -⟩ | ⟨-, h⟩
        · omega
        · exact h
      rw [cutParts, if_neg (by decide), parts_at _ _ _ _ _ (by omega)] at hat
      have h4 := Option.some.inj hat
      have h5 := hfill.1 j m (by omega) hm
      have h6 := off_nonneg hfill.1 j (by omega) (by omega)
      unfold partK turnR at h4
      rw [hgd] at h4
      rw [← h4]
      simp only
      omega
theorem pX_shift {k d : Int} : ∀ (l : List T) {A B : Int}, IntKind.i64.wrap A = IntKind.i64.wrap (B + d) → IntKind.i64.wrap (pX k A l) = IntKind.i64.wrap (pX k B l + d)
  | [], _, _, h => h
  | t :: l, A, B, h => by
    show IntKind.i64.wrap (pX k (nxX k A t) l) = IntKind.i64.wrap (pX k (nxX k B t) l + d)
    refine pX_shift l ?_
    unfold nxX
    split
    · simp only [IntKind.wrap_i64] at *; omega
    · exact h
theorem pY_shift {k d : Int} : ∀ (l : List T) {A B : Int}, IntKind.i64.wrap A = IntKind.i64.wrap (B + d) → IntKind.i64.wrap (pY k A l) = IntKind.i64.wrap (pY k B l + d)
  | [], _, _, h => h
  | t :: l, A, B, h => by
    show IntKind.i64.wrap (pY k (nxY k A t) l) = IntKind.i64.wrap (pY k (nxY k B t) l + d)
    refine pY_shift l ?_
    unfold nxY
    split
    · simp only [IntKind.wrap_i64] at *; omega
    · exact h
/-- Where it stands elsewhere. -/
theorem kid_shift {t : T} (hs : sz t ≤ 20000) (ht : tileB t = true) {j : Nat} {u : T} (hu : t.kids[j]? = some u) {x y : Int} (hx : 0 ≤ x ∧ x ≤ 10000) (hy : 0 ≤ y ∧ y ≤ 10000) : pX t.k x (t.kids.take j) = u.r.x + (x - t.r.x) ∧ pY t.k y (t.kids.take j) = u.r.y + (y - t.r.y) := by
  obtain ⟨h1, h2⟩ := fit_at hs ht hu
  have h3 := may_rect (well_rect (tile_top hs ht).1)
  have h4 := kid_in hs ht hu
  have h5 := sz_kid hu
  have h6 := may_rect (well_rect (tile_top (by omega) (tile_kid hs ht hu)).1)
  have g1 := pX_shift (k := t.k) (d := x - t.r.x) (t.kids.take j) (A := x) (B := t.r.x) (by congr 1; omega)
  have g2 := pY_shift (k := t.k) (d := y - t.r.y) (t.kids.take j) (A := y) (B := t.r.y) (by congr 1; omega)
  have f1 : fits (pX t.k x (t.kids.take j)) := pX_fits _ (by unfold fits; omega)
  have f2 : fits (pY t.k y (t.kids.take j)) := pY_fits _ (by unfold fits; omega)
  unfold fits at f1 f2
  rw [wrap_id f1, h1, wrap_id (by omega)] at g1
  rw [wrap_id f2, h2, wrap_id (by omega)] at g2
  exact ⟨g1, g2⟩

theorem mem_preL {u : T} : ∀ {l : List T}, u ∈ preL l → ∃ (j : Nat) (t : T), l[j]? = some t ∧ u ∈ preT t
  | [], h => by rw [preL] at h; cases h
  | t :: l, h => by
    rw [preL] at h
    rcases List.mem_append.1 h with h | h
    · exact ⟨0, t, rfl, h⟩
    · obtain ⟨j, v, h1, h2⟩ := mem_preL h
      exact ⟨j + 1, v, by simpa using h1, h2⟩
theorem cut_shift {r : R} {ax : Int} {ms : List Int} {x y : Int} {j : Nat} {q : R} (h : (cutParts r ax ms true)[j]? = some q) : (cutParts ⟨x, y, r.w, r.h⟩ ax ms true)[j]? = some ⟨q.x + (x - r.x), q.y + (y - r.y), q.w, q.h⟩ := by
  have hj := (List.getElem?_eq_some_iff.1 h).1
  rw [parts_len] at hj
  rw [cutParts] at h ⊢
  split
  · rename_i ha
    rw [if_pos ha, parts_at _ _ _ _ _ hj] at h
    rw [parts_at _ _ _ _ _ hj, ← Option.some.inj h]
    unfold partK
    simp only [id]
    congr 2 <;> omega
  · rename_i ha
    rw [if_neg ha, parts_at _ _ _ _ _ hj] at h
    rw [parts_at _ _ _ _ _ hj, ← Option.some.inj h]
    unfold partK turnR
    simp only
    congr 2 <;> omega
/-- Each cell of it is as it should be there. -/
theorem good_set (N : Nat) : ∀ (t : T) (x y : Int), sz t ≤ N → sz t ≤ 20000 → tileB t = true → 0 ≤ x → x + t.r.w ≤ 10000 → 0 ≤ y → y + t.r.h ≤ 10000 → ∀ u ∈ preT (setT x y t), wellT u = true ∧ fitB u = true := by
  induction N with
  | zero => intro t x y h; have := sz_pos t; omega
  | succ N ih =>
    intro t x y hN hs ht hx0 hx1 hy0 hy1 u hu
    obtain ⟨hw, hf⟩ := tile_top hs ht
    have hr := may_rect (well_rect hw)
    have hmay : mayB ⟨x, y, t.r.w, t.r.h⟩ = true := (mayB_iff _).2 ⟨⟨hx0, hr.2.2.1, hx1⟩, hy0, hr.2.2.2.1, hy1⟩
    rw [preT_eq] at hu
    rcases List.mem_cons.1 hu with rfl | hu
    · rw [setT_eq]
      constructor
      · unfold wellT at hw ⊢
        show wellB t.k ⟨x, y, t.r.w, t.r.h⟩ t.id (setL t.k x y t.kids).length = true
        rw [setL_length]
        unfold wellB at hw ⊢
        rw [Bool.and_eq_true] at hw ⊢
        exact ⟨hmay, hw.2⟩
      · refine (fitB_iff _).2 ?_
        obtain h1 | ⟨⟨-, hcut⟩, hrects⟩ := (fitB_iff t).1 hf
        · exact .inl h1
        · right
          have hax : axT (.node t.k ⟨x, y, t.r.w, t.r.h⟩ t.id (setL t.k x y t.kids)) = axT t := rfl
          have hss : sizesT (.node t.k ⟨x, y, t.r.w, t.r.h⟩ t.id (setL t.k x y t.kids)) = sizesT t := by
            unfold sizesT wsT hsT
            show (if t.k = 3 then (setL t.k x y t.kids).map (fun u => u.r.h) else (setL t.k x y t.kids).map (fun u => u.r.w)) = _
            rw [setL_ws, setL_hs]
          rw [hax, hss]
          refine ⟨⟨hmay, hcut⟩, ?_⟩
          refine List.ext_getElem? fun j => ?_
          rw [List.getElem?_map]
          show ((setL t.k x y t.kids)[j]?).map T.r = (cutParts ⟨x, y, t.r.w, t.r.h⟩ (axT t) (sizesT t) true)[j]?
          rw [setL_get]
          cases hv : t.kids[j]? with
          | none =>
            have : (cutParts ⟨x, y, t.r.w, t.r.h⟩ (axT t) (sizesT t) true).length = t.kids.length := by rw [parts_len, sizes_len]
            rw [List.getElem?_eq_none_iff] at hv
            rw [List.getElem?_eq_none (by omega)]
            rfl
          | some v =>
            have hat : (cutParts t.r (axT t) (sizesT t) true)[j]? = some v.r := by rw [← hrects, List.getElem?_map, hv]; rfl
            obtain ⟨h1, h2⟩ := kid_shift hs ht hv (x := x) (y := y) ⟨hx0, by omega⟩ ⟨hy0, by omega⟩
            rw [cut_shift hat]
            simp only [Option.map_some]
            rw [set_r, h1, h2]
    · obtain ⟨j, v', hv', hu⟩ := mem_preL hu
      rw [setT_eq] at hv'
      have hv' : (setL t.k x y t.kids)[j]? = some v' := hv'
      rw [setL_get] at hv'
      cases hv : t.kids[j]? with
      | none => rw [hv] at hv'; cases hv'
      | some v =>
        rw [hv] at hv'
        obtain ⟨h1, h2⟩ := kid_shift hs ht hv (x := x) (y := y) ⟨hx0, by omega⟩ ⟨hy0, by omega⟩
        have h3 := kid_in hs ht hv
        have h4 := sz_kid hv
        rw [h1, h2] at hv'
        cases hv'
        exact ih v _ _ (by omega) (by omega) (tile_kid hs ht hv) (by omega) (by omega) (by omega) (by omega) u hu
mutual
theorem ids_set : ∀ (x y : Int) (t : T), idsP (preT (setT x y t)) = idsP (preT t)
  | x, y, .node k r i l => by rw [setT, preT, preT, idsP_cons, idsP_cons, idsL_set k x y l]; rfl
theorem idsL_set (k : Int) : ∀ (x y : Int) (l : List T), idsP (preL (setL k x y l)) = idsP (preL l)
  | x, y, [] => by simp [setL]
  | x, y, t :: l => by rw [setL, preL, preL, idsP_append, idsP_append, ids_set x y t, idsL_set k _ _ l]
end
/-- It tiles there, too. -/
theorem set_tile {t : T} {x y : Int} (hs : sz t ≤ 20000) (ht : tileB t = true) (hx0 : 0 ≤ x) (hx1 : x + t.r.w ≤ 10000) (hy0 : 0 ≤ y) (hy1 : y + t.r.h ≤ 10000) : tileB (setT x y t) = true := by
  have hg := good_set (sz t) t x y (Nat.le_refl _) hs ht hx0 hx1 hy0 hy1
  have hon := once_tile hs ht
  have hid := ids_set x y t
  have hsz := setT_sz x y t
  unfold tileB
  rw [may_is (by omega)]
  unfold rmayT
  rw [Bool.and_eq_true, Bool.and_eq_true, decide_eq_true_eq, List.all_eq_true, List.all_eq_true]
  refine ⟨⟨fun u hu => (hg u hu).1, ?_⟩, fun u hu => (hg u hu).2⟩
  unfold onceI at hon
  unfold idsP at hid
  rw [hid]
  exact hon
end Go.Proofs.YtcdiogifgemjbaaGreat
/- When a row of trees, set one behind the other, fits. No walk. -/
namespace Go.Proofs.YtcdiogifgemjbaaGreat
open Go.RowKit

theorem off_mono {ms : List Int} (h : ∀ m ∈ ms, 1 ≤ m) : ∀ (n k : Nat), k ≤ n → n ≤ ms.length → offS ms k ≤ offS ms n
  | 0, k, h1, _ => by obtain rfl : k = 0 := by omega
                      exact Int.le_refl _
  | n + 1, k, h1, h2 => by
    rcases Nat.lt_or_ge k (n + 1) with hk | hk
    · have hm := List.getElem?_eq_getElem (show n < ms.length by omega)
      have h3 := off_mono h n k (by omega) (by omega)
      have h4 := h _ (List.getElem_mem (show n < ms.length by omega))
      rw [off_succ hm]; omega
    · obtain rfl : k = n + 1 := by omega
      exact Int.le_refl _
theorem fill_of {whole : Int} {ms : List Int} (h : ∀ m ∈ ms, 1 ≤ m) (hs : ms.sum + ms.length = whole + 1) : fillP whole ms := by
  have h1 : offS ms ms.length = whole + 1 := by rw [off_all]; exact hs
  refine ⟨fun k m hk hm => ?_, h1⟩
  have h2 := off_mono h ms.length (k + 1) (by omega) (Nat.le_refl _)
  rw [off_succ hm] at h2
  exact ⟨h _ (List.mem_of_getElem? hm), by omega⟩
/-- Side by side. -/
theorem made_row {x y W H i9 : Int} {L : List T} (hm : mayB ⟨x, y, W, H⟩ = true) (hA : ∀ u ∈ L, u.r.h = H) (hB : (L.map fun u => u.r.w).sum + L.length = W + 1) (hC : ∀ u ∈ L, 1 ≤ u.r.w) :
    fitB (.node 2 ⟨x, y, W, H⟩ i9 (setL 2 x y L)) = true ∧ ∀ (j : Nat) (u : T), L[j]? = some u → x ≤ pX 2 x (L.take j) ∧ pX 2 x (L.take j) + u.r.w ≤ x + W ∧ pY 2 y (L.take j) = y := by
  have hr := (mayB_iff _).1 hm
  obtain ⟨ms, hms⟩ : ∃ ms, (L.map fun u => u.r.w) = ms := ⟨_, rfl⟩
  have hlen : ms.length = L.length := by rw [← hms]; simp
  have hg1 : ∀ m ∈ ms, 1 ≤ m := fun m hmm => by
    rw [← hms] at hmm
    obtain ⟨u, hu, rfl⟩ := List.mem_map.1 hmm
    exact hC u hu
  have hfill : fillP W ms := fill_of hg1 (by rw [← hms, List.length_map]; exact hB)
  have hpx : ∀ j, j ≤ L.length → pX 2 x (L.take j) = x + offS ms j := fun j hj => pX_row (t := .node 2 ⟨x, y, W, H⟩ 0 L) hms.symm hfill.1 hr.1.1 hr.1.2.2 j hj
  refine ⟨(fitB_iff _).2 (.inr ⟨⟨hm, .inl ⟨rfl, ?_⟩⟩, ?_⟩), fun j u hu => ?_⟩
  · show fillP W ((setL 2 x y L).map fun u => u.r.w)
    rw [setL_ws, hms]; exact hfill
  · show (setL 2 x y L).map T.r = cutParts ⟨x, y, W, H⟩ 1 ((setL 2 x y L).map fun u => u.r.w) true
    rw [setL_ws, hms]
    refine List.ext_getElem? fun j => ?_
    rw [List.getElem?_map, setL_get, cutParts, if_pos rfl]
    cases hv : L[j]? with
    | none =>
      rw [List.getElem?_eq_none_iff] at hv
      rw [List.getElem?_eq_none (by rw [partsL_length]; omega)]
      rfl
    | some v =>
      have hj := (List.getElem?_eq_some_iff.1 hv).1
      have hmj : ms[j]? = some v.r.w := by rw [← hms, List.getElem?_map, hv]; rfl
      rw [parts_at _ _ _ _ _ (by omega)]
      unfold partK
      rw [List.getD_eq_getElem?_getD, hmj]
      simp only [Option.map_some, Option.getD_some, id]
      rw [set_r, hpx j (by omega), pY_no _ (by decide), hA v (List.mem_of_getElem? hv)]
  · have hj := (List.getElem?_eq_some_iff.1 hu).1
    have hmj : ms[j]? = some u.r.w := by rw [← hms, List.getElem?_map, hu]; rfl
    have h1 := hfill.1 j _ (by omega) hmj
    have h2 := off_nonneg hfill.1 j (by omega) (by omega)
    rw [hpx j (by omega), pY_no _ (by decide)]
    exact ⟨by omega, by omega, rfl⟩
/-- One below the other. -/
theorem made_col {x y W H i9 : Int} {L : List T} (hm : mayB ⟨x, y, W, H⟩ = true) (hA : ∀ u ∈ L, u.r.w = W) (hB : (L.map fun u => u.r.h).sum + L.length = H + 1) (hC : ∀ u ∈ L, 1 ≤ u.r.h) :
    fitB (.node 3 ⟨x, y, W, H⟩ i9 (setL 3 x y L)) = true ∧ ∀ (j : Nat) (u : T), L[j]? = some u → y ≤ pY 3 y (L.take j) ∧ pY 3 y (L.take j) + u.r.h ≤ y + H ∧ pX 3 x (L.take j) = x := by
  have hr := (mayB_iff _).1 hm
  obtain ⟨ms, hms⟩ : ∃ ms, (L.map fun u => u.r.h) = ms := ⟨_, rfl⟩
  have hlen : ms.length = L.length := by rw [← hms]; simp
  have hg1 : ∀ m ∈ ms, 1 ≤ m := fun m hmm => by
    rw [← hms] at hmm
    obtain ⟨u, hu, rfl⟩ := List.mem_map.1 hmm
    exact hC u hu
  have hfill : fillP H ms := fill_of hg1 (by rw [← hms, List.length_map]; exact hB)
  have hpy : ∀ j, j ≤ L.length → pY 3 y (L.take j) = y + offS ms j := fun j hj => pY_col (t := .node 3 ⟨x, y, W, H⟩ 0 L) hms.symm hfill.1 hr.2.1 hr.2.2.2 j hj
  refine ⟨(fitB_iff _).2 (.inr ⟨⟨hm, .inr ⟨rfl, ?_⟩⟩, ?_⟩), fun j u hu => ?_⟩
  · show fillP H ((setL 3 x y L).map fun u => u.r.h)
    rw [setL_hs, hms]; exact hfill
  · show (setL 3 x y L).map T.r = cutParts ⟨x, y, W, H⟩ 2 ((setL 3 x y L).map fun u => u.r.h) true
    rw [setL_hs, hms]
    refine List.ext_getElem? fun j => ?_
    rw [List.getElem?_map, setL_get, cutParts, if_neg (by decide)]
    cases hv : L[j]? with
    | none =>
      rw [List.getElem?_eq_none_iff] at hv
      rw [List.getElem?_eq_none (by rw [partsL_length]; omega)]
      rfl
    | some v =>
      have hj := (List.getElem?_eq_some_iff.1 hv).1
      have hmj : ms[j]? = some v.r.h := by rw [← hms, List.getElem?_map, hv]; rfl
      rw [parts_at _ _ _ _ _ (by omega)]
      unfold partK turnR
      rw [List.getD_eq_getElem?_getD, hmj]
      simp only [Option.map_some, Option.getD_some]
      rw [set_r, hpy j (by omega), pX_no _ (by decide), hA v (List.mem_of_getElem? hv)]
  · have hj := (List.getElem?_eq_some_iff.1 hu).1
    have hmj : ms[j]? = some u.r.h := by rw [← hms, List.getElem?_map, hu]; rfl
    have h1 := hfill.1 j _ (by omega) hmj
    have h2 := off_nonneg hfill.1 j (by omega) (by omega)
    rw [hpy j (by omega), pX_no _ (by decide)]
    exact ⟨by omega, by omega, rfl⟩
end Go.Proofs.YtcdiogifgemjbaaGreat
/- What was adjusted tiles. No walk. -/
namespace Go.Proofs.YtcdiogifgemjbaaGreat
open Go.RowKit Sh

theorem rounds_any {l : List Nat} {need : Nat} : ∀ M, need < rs M l → ∃ r, rs r l ≤ need ∧ need - rs r l ≤ cnt r l
  | 0, h => by rw [rs_zero] at h; omega
  | M + 1, h => by
    by_cases h1 : need < rs M l
    · exact rounds_any M h1
    · rw [rs_succ] at h; exact ⟨M, by omega, by omega⟩
/-- Shares can be told. -/
theorem shares_is {b : Int} {gs : List Int} (h : okS b gs) : ∃ l, ShIs b gs l := by
  obtain ⟨-, hgd, -, -, hn⟩ := h
  by_cases h0 : 0 ≤ b
  · exact ⟨_, .inl ⟨h0, rfl⟩⟩
  · have h1 := hn (by omega)
    have hlen : (gs.map Int.toNat).length = gs.length := by simp
    obtain ⟨r, hr1, hr2⟩ : ∃ r, rs r (gs.map Int.toNat) ≤ (-b).toNat ∧ (-b).toNat - rs r (gs.map Int.toNat) ≤ cnt r (gs.map Int.toNat) := by
      have ha := rs_all (goodN_of hgd)
      by_cases h2 : (-b).toNat < rs 2147483647 (gs.map Int.toNat)
      · exact rounds_any _ h2
      · exact ⟨2147483647, by omega, by omega⟩
    obtain ⟨m, hm⟩ := tk_out r _ _ hr2
    refine ⟨negI (out (some (gs.map Int.toNat)) gs.length m), .inr ⟨by omega, m, rfl, ?_⟩⟩
    rw [← hlen, ← hm, tk_sum _ _ _ hr2]
    omega
theorem shares_sum {b : Int} {gs l : List Int} (hok : okS b gs) (h : ShIs b gs l) : l.sum = b := by
  have hn : 0 < gs.length := List.length_pos_iff.2 hok.1
  rcases h with ⟨h0, rfl⟩ | ⟨h0, m, rfl, hm⟩
  · rw [natI_sum, give_sum hn]; omega
  · rw [negI_sum, hm]; omega

mutual
theorem ls_adj (ax a : Int) : ∀ (b : Int) (t : T), lsT a (adjT ax b t) = lsT a t
  | b, .node k r i l => by
    have h1 := lsS_adj ax a (shF k ax b (l.map (gvT ax))) l
    have h2 := lsX_adj ax a (shF k ax b (l.map (gvT ax))) l
    rw [adjT, lsT, lsT, h1, h2, adjL_len]
    cases l with
    | nil => simp [adjL]
    | cons t l => simp [adjL]
theorem lsS_adj (ax a : Int) : ∀ (s : Nat → Int) (l : List T), lsS a (adjL ax s l) = lsS a l
  | s, [] => by simp [adjL]
  | s, t :: l => by rw [adjL, lsS, lsS, ls_adj ax a (s 0) t, lsS_adj ax a _ l]
theorem lsX_adj (ax a : Int) : ∀ (s : Nat → Int) (l : List T), lsX a (adjL ax s l) = lsX a l
  | s, [] => by simp [adjL]
  | s, t :: l => by rw [adjL, lsX, lsX, ls_adj ax a (s 0) t, lsX_adj ax a _ l]
end
mutual
theorem ids_adj (ax : Int) : ∀ (b : Int) (t : T), idsP (preT (adjT ax b t)) = idsP (preT t)
  | b, .node k r i l => by rw [adjT, preT, preT, idsP_cons, idsP_cons, idsL_adj ax _ l]; rfl
theorem idsL_adj (ax : Int) : ∀ (s : Nat → Int) (l : List T), idsP (preL (adjL ax s l)) = idsP (preL l)
  | s, [] => by simp [adjL]
  | s, t :: l => by rw [adjL, preL, preL, idsP_append, idsP_append, ids_adj ax (s 0) t, idsL_adj ax _ l]
end
theorem adjL_get (ax : Int) : ∀ (l : List T) (s : Nat → Int) (j : Nat), (adjL ax s l)[j]? = (l[j]?).map (adjT ax (s j))
  | [], s, j => by simp [adjL]
  | t :: l, s, 0 => by simp [adjL]
  | t :: l, s, j + 1 => by rw [adjL, List.getElem?_cons_succ, List.getElem?_cons_succ, adjL_get ax l _ j]
theorem szA_adj {ax b : Int} (hax : ax = 1 ∨ ax = 2) (r : R) : szA (adjR ax b r) ax = szA r ax + b := by
  rcases hax with rfl | rfl <;> rfl
/-- Sizes together, when each is adjusted. -/
theorem adj_sum {f : R → Int} {ax : Int} : ∀ (l : List T) (s : Nat → Int) (ss : List Int), ss.length = l.length → (∀ (j : Nat) (u : T), l[j]? = some u → f (adjR ax (s j) u.r) = f u.r + ss.getD j 0) → ((adjL ax s l).map fun u => f u.r).sum = (l.map fun u => f u.r).sum + ss.sum
  | [], s, ss, h, _ => by
    have : ss = [] := List.length_eq_zero_iff.1 h
    subst this; simp [adjL]
  | t :: l, s, [], h, _ => by simp at h
  | t :: l, s, x :: ss, h, hs => by
    have h1 := hs 0 t rfl
    have h2 := adj_sum l (fun j => s (j + 1)) ss (by simpa using h) fun j u hu => by
      have := hs (j + 1) u (by simpa using hu)
      simpa using this
    rw [adjL]
    simp only [List.map_cons, List.sum_cons]
    rw [h2, adjT_r, h1]
    simp only [List.getD_cons_zero]
    omega

theorem adj_sum0 {f : R → Int} {ax : Int} {l : List T} {s : Nat → Int} (h : ∀ (j : Nat) (u : T), l[j]? = some u → f (adjR ax (s j) u.r) = f u.r) : ((adjL ax s l).map fun u => f u.r).sum = (l.map fun u => f u.r).sum := by
  have h1 := adj_sum (f := f) (ax := ax) l s (List.replicate l.length 0) (by simp) fun j u hu => by
    have hj := (List.getElem?_eq_some_iff.1 hu).1
    rw [h j u hu, List.getD_eq_getElem?_getD, List.getElem?_replicate, if_pos hj]
    simp
  have h2 : (List.replicate l.length (0 : Int)).sum = 0 := by simp
  rw [h1, h2]; omega
theorem adj_each {ax : Int} {l : List T} {s : Nat → Int} {P : T → Prop} (h : ∀ (j : Nat) (u : T), l[j]? = some u → P (adjT ax (s j) u)) : ∀ v ∈ adjL ax s l, P v := fun v hv => by
  obtain ⟨j, hj⟩ := List.getElem?_of_mem hv
  rw [adjL_get] at hj
  cases hq : l[j]? with
  | none => rw [hq] at hj; cases hj
  | some q => rw [hq] at hj; cases hj; exact h j q hq

/-- What its kids are asked for. -/
theorem adj_kids {ax b : Int} (hax : ax = 1 ∨ ax = 2) {t : T} (hs : sz t ≤ 20000) (ht : tileB t = true) (hk : t.k ≠ 1) (hb : canB ax b t) :
    (∀ (j : Nat) (u : T), t.kids[j]? = some u → canB ax (shF t.k ax b (t.kids.map (gvT ax)) j) u) ∧
    (alB t.k ax = true → ∃ l : List Int, l.length = t.kids.length ∧ l.sum = b ∧ ∀ j, shF t.k ax b (t.kids.map (gvT ax)) j = l.getD j 0) ∧
    (alB t.k ax = false → ∀ j, shF t.k ax b (t.kids.map (gvT ax)) j = b) := by
  have hsh : alB t.k ax = true → ∃ l, ShIs b (t.kids.map (gvT ax)) l := fun ha => shares_is (can_ok hax hs ht hb ha)
  refine ⟨fun j u hu => can_kid hax hs ht hb hu hsh, fun ha => ?_, fun ha j => ?_⟩
  · obtain ⟨l, hl⟩ := hsh ha
    refine ⟨l, by rw [hl.len, List.length_map], shares_sum (can_ok hax hs ht hb ha) hl, fun j => ?_⟩
    unfold shF
    rw [if_pos ha, shL_of hl]
  · unfold shF
    rw [if_neg (by rw [ha]; decide)]

theorem adj_good (ax : Int) (hax : ax = 1 ∨ ax = 2) (N : Nat) : ∀ (t : T) (x y b : Int), sz t ≤ N → sz t ≤ 20000 → tileB t = true → canB ax b t → 0 ≤ x → x + (adjR ax b t.r).w ≤ 10000 → 0 ≤ y → y + (adjR ax b t.r).h ≤ 10000 → ∀ u ∈ preT (setT x y (adjT ax b t)), wellT u = true ∧ fitB u = true := by
  induction N with
  | zero => intro t x y b h; have := sz_pos t; omega
  | succ N ih =>
    intro t x y b hN hs ht hb hx0 hx1 hy0 hy1 u hu
    obtain ⟨hw, hf⟩ := tile_top hs ht
    have hr := may_rect (well_rect hw)
    have hl1 := ls_pos ax t
    have hsz := szA_adj (b := b) hax t.r
    have hmay : mayB ⟨x, y, (adjR ax b t.r).w, (adjR ax b t.r).h⟩ = true := by
      refine (mayB_iff _).2 ?_
      unfold canB gvT at hb
      rcases hax with rfl | rfl
      · have e1 : szA t.r 1 = t.r.w := rfl
        have e2 : (adjR 1 b t.r).w = t.r.w + b := rfl
        have e3 : (adjR 1 b t.r).h = t.r.h := rfl
        rw [e2, e3] at *
        refine ⟨⟨hx0, ?_, hx1⟩, hy0, ?_, hy1⟩
        · show 1 ≤ t.r.w + b; omega
        · show 1 ≤ t.r.h; omega
      · have e1 : szA t.r 2 = t.r.h := rfl
        have e2 : (adjR 2 b t.r).w = t.r.w := rfl
        have e3 : (adjR 2 b t.r).h = t.r.h + b := rfl
        rw [e2, e3] at *
        refine ⟨⟨hx0, ?_, hx1⟩, hy0, ?_, hy1⟩
        · show 1 ≤ t.r.w; omega
        · show 1 ≤ t.r.h + b; omega
    have hwell : wellT (setT x y (adjT ax b t)) = true := by
      rw [setT_eq, adjT_eq]
      unfold wellT at hw ⊢
      show wellB t.k ⟨x, y, (adjR ax b t.r).w, (adjR ax b t.r).h⟩ t.id (setL t.k x y (adjL ax _ t.kids)).length = true
      rw [setL_length, adjL_len]
      unfold wellB at hw ⊢
      rw [Bool.and_eq_true] at hw ⊢
      exact ⟨hmay, hw.2⟩
    by_cases hk1 : t.k = 1
    · rw [setT_eq, adjT_eq, preT_eq] at hu
      have h0 : t.kids = [] := leaf_none hs ht hk1
      have hu : u ∈ (T.node t.k ⟨x, y, (adjR ax b t.r).w, (adjR ax b t.r).h⟩ t.id (setL t.k x y (adjL ax (shF t.k ax b (t.kids.map (gvT ax))) t.kids))) :: preL (setL t.k x y (adjL ax (shF t.k ax b (t.kids.map (gvT ax))) t.kids)) := hu
      rw [h0] at hu
      simp only [adjL, setL, preL, List.mem_cons, List.not_mem_nil, or_false] at hu
      rw [setT_eq, adjT_eq] at hwell
      have hwell : wellT (T.node t.k ⟨x, y, (adjR ax b t.r).w, (adjR ax b t.r).h⟩ t.id (setL t.k x y (adjL ax (shF t.k ax b (t.kids.map (gvT ax))) t.kids))) = true := hwell
      rw [h0] at hwell
      simp only [adjL, setL] at hwell
      subst hu
      exact ⟨hwell, (fitB_iff _).2 (.inl hk1)⟩
    · obtain ⟨hcan, hyes, hno⟩ := adj_kids hax hs ht hk1 hb
      obtain ⟨s, hsd⟩ : ∃ s, shF t.k ax b (t.kids.map (gvT ax)) = s := ⟨_, rfl⟩
      rw [hsd] at hcan hyes hno
      have hkt : ∀ (j : Nat) (v : T), t.kids[j]? = some v → tileB v = true ∧ sz v < sz t := fun j v hv => ⟨tile_kid hs ht hv, sz_kid hv⟩
      have hfk := fit_kids hw hf hk1
      -- each kid's sizes are at least 1
      have hpos : ∀ v ∈ adjL ax s t.kids, 1 ≤ v.r.w ∧ 1 ≤ v.r.h := fun v hv => by
        obtain ⟨j, hj⟩ := List.getElem?_of_mem hv
        rw [adjL_get] at hj
        cases hq : t.kids[j]? with
        | none => rw [hq] at hj; cases hj
        | some q =>
          rw [hq] at hj
          cases hj
          have h1 := hcan j q hq
          have h2 := ls_pos ax q
          have h3 := may_rect (well_rect (tile_top (by have := (hkt j q hq).2; omega) (hkt j q hq).1).1)
          rw [adjT_r]
          unfold canB gvT at h1
          rcases hax with rfl | rfl
          · have e1 : szA q.r 1 = q.r.w := rfl
            show 1 ≤ q.r.w + s j ∧ 1 ≤ q.r.h; omega
          · have e1 : szA q.r 2 = q.r.h := rfl
            show 1 ≤ q.r.w ∧ 1 ≤ q.r.h + s j; omega
      have hkind := well_kind hw
      have hmain : fitB (.node t.k ⟨x, y, (adjR ax b t.r).w, (adjR ax b t.r).h⟩ t.id (setL t.k x y (adjL ax s t.kids))) = true ∧ ∀ (j : Nat) (v : T), (adjL ax s t.kids)[j]? = some v → x ≤ pX t.k x ((adjL ax s t.kids).take j) ∧ pX t.k x ((adjL ax s t.kids).take j) + v.r.w ≤ x + (adjR ax b t.r).w ∧ y ≤ pY t.k y ((adjL ax s t.kids).take j) ∧ pY t.k y ((adjL ax s t.kids).take j) + v.r.h ≤ y + (adjR ax b t.r).h := by
        have hln := adjL_len ax t.kids s
        rcases hkind with hk | hk | hk
        · exact absurd hk hk1
        · rw [hk]
          rcases hax with rfl | rfl
          · have ha : alB t.k 1 = true := by rw [hk]; rfl
            have hc : alB t.k 2 = false := by rw [hk]; rfl
            obtain ⟨ss, hs1, hs2, hs3⟩ := hyes ha
            have h1 : (t.kids.map fun u => u.r.w).sum + t.kids.length = t.r.w + 1 := (hfk 1 (.inl rfl)).1 ha
            have h2 : ∀ (j : Nat) (v : T), t.kids[j]? = some v → v.r.h = t.r.h := (hfk 2 (.inr rfl)).2 hc
            have h3 := adj_sum (f := fun r => r.w) (ax := 1) t.kids s ss hs1 fun j u _ => by rw [← hs3]; rfl
            have hmd := made_row (i9 := t.id) hmay (L := adjL 1 s t.kids) (adj_each fun j q hq => by rw [adjT_r]; exact h2 j q hq) (by rw [hln]; show _ = t.r.w + b + 1; omega) (fun v hv => (hpos v hv).1)
            refine ⟨hmd.1, fun j v hv => ?_⟩
            obtain ⟨g1, g2, g3⟩ := hmd.2 j v hv
            have g4 := adj_each (ax := 1) (s := s) (l := t.kids) (P := fun v => v.r.h = t.r.h) (fun j q hq => by rw [adjT_r]; exact h2 j q hq) v (List.mem_of_getElem? hv)
            exact ⟨g1, g2, by omega, by rw [g3, g4]; exact Int.le_refl _⟩
          · have ha : alB t.k 2 = false := by rw [hk]; rfl
            have hc : alB t.k 1 = true := by rw [hk]; rfl
            have hs3 := hno ha
            have h1 : (t.kids.map fun u => u.r.w).sum + t.kids.length = t.r.w + 1 := (hfk 1 (.inl rfl)).1 hc
            have h2 : ∀ (j : Nat) (v : T), t.kids[j]? = some v → v.r.h = t.r.h := (hfk 2 (.inr rfl)).2 ha
            have h3 := adj_sum0 (f := fun r => r.w) (ax := 2) (l := t.kids) (s := s) fun j u _ => rfl
            have h4 : ∀ (j : Nat) (q : T), t.kids[j]? = some q → (adjT 2 (s j) q).r.h = t.r.h + b := fun j q hq => by
              rw [adjT_r, hs3]; show q.r.h + b = _; rw [h2 j q hq]
            have hmd := made_row (i9 := t.id) hmay (L := adjL 2 s t.kids) (adj_each h4) (by rw [hln]; show _ = t.r.w + 1; omega) (fun v hv => (hpos v hv).1)
            refine ⟨hmd.1, fun j v hv => ?_⟩
            obtain ⟨g1, g2, g3⟩ := hmd.2 j v hv
            have g4 := adj_each (ax := 2) (s := s) (l := t.kids) (P := fun v => v.r.h = t.r.h + b) h4 v (List.mem_of_getElem? hv)
            exact ⟨g1, g2, by omega, by rw [g3, g4]; exact Int.le_refl _⟩
        · rw [hk]
          rcases hax with rfl | rfl
          · have ha : alB t.k 1 = false := by rw [hk]; rfl
            have hc : alB t.k 2 = true := by rw [hk]; rfl
            have hs3 := hno ha
            have h1 : (t.kids.map fun u => u.r.h).sum + t.kids.length = t.r.h + 1 := (hfk 2 (.inr rfl)).1 hc
            have h2 : ∀ (j : Nat) (v : T), t.kids[j]? = some v → v.r.w = t.r.w := (hfk 1 (.inl rfl)).2 ha
            have h3 := adj_sum0 (f := fun r => r.h) (ax := 1) (l := t.kids) (s := s) fun j u _ => rfl
            have h4 : ∀ (j : Nat) (q : T), t.kids[j]? = some q → (adjT 1 (s j) q).r.w = t.r.w + b := fun j q hq => by
              rw [adjT_r, hs3]; show q.r.w + b = _; rw [h2 j q hq]
            have hmd := made_col (i9 := t.id) hmay (L := adjL 1 s t.kids) (adj_each h4) (by rw [hln]; show _ = t.r.h + 1; omega) (fun v hv => (hpos v hv).2)
            refine ⟨hmd.1, fun j v hv => ?_⟩
            obtain ⟨g1, g2, g3⟩ := hmd.2 j v hv
            have g4 := adj_each (ax := 1) (s := s) (l := t.kids) (P := fun v => v.r.w = t.r.w + b) h4 v (List.mem_of_getElem? hv)
            exact ⟨by omega, by rw [g3, g4]; exact Int.le_refl _, g1, g2⟩
          · have ha : alB t.k 2 = true := by rw [hk]; rfl
            have hc : alB t.k 1 = false := by rw [hk]; rfl
            obtain ⟨ss, hs1, hs2, hs3⟩ := hyes ha
            have h1 : (t.kids.map fun u => u.r.h).sum + t.kids.length = t.r.h + 1 := (hfk 2 (.inr rfl)).1 ha
            have h2 : ∀ (j : Nat) (v : T), t.kids[j]? = some v → v.r.w = t.r.w := (hfk 1 (.inl rfl)).2 hc
            have h3 := adj_sum (f := fun r => r.h) (ax := 2) t.kids s ss hs1 fun j u _ => by rw [← hs3]; rfl
            have hmd := made_col (i9 := t.id) hmay (L := adjL 2 s t.kids) (adj_each fun j q hq => by rw [adjT_r]; exact h2 j q hq) (by rw [hln]; show _ = t.r.h + b + 1; omega) (fun v hv => (hpos v hv).2)
            refine ⟨hmd.1, fun j v hv => ?_⟩
            obtain ⟨g1, g2, g3⟩ := hmd.2 j v hv
            have g4 := adj_each (ax := 2) (s := s) (l := t.kids) (P := fun v => v.r.w = t.r.w) (fun j q hq => by rw [adjT_r]; exact h2 j q hq) v (List.mem_of_getElem? hv)
            exact ⟨by omega, by rw [g3, g4]; exact Int.le_refl _, g1, g2⟩
      rw [setT_eq, adjT_eq, preT_eq] at hu
      rw [hsd] at hu
      rcases List.mem_cons.1 hu with rfl | hu
      · rw [setT_eq, adjT_eq, hsd] at hwell
        exact ⟨hwell, hmain.1⟩
      · have hu : u ∈ preL (setL t.k x y (adjL ax s t.kids)) := hu
        obtain ⟨j, v', hv', hu⟩ := mem_preL hu
        rw [setL_get, adjL_get] at hv'
        cases hq : t.kids[j]? with
        | none => rw [hq] at hv'; cases hv'
        | some q =>
          rw [hq] at hv'
          cases hv'
          obtain ⟨h1, h2, h3, h4⟩ := hmain.2 j (adjT ax (s j) q) (by rw [adjL_get, hq]; rfl)
          rw [adjT_r] at h2 h4
          exact ih q _ _ (s j) (by have := (hkt j q hq).2; omega) (by have := (hkt j q hq).2; omega) (hkt j q hq).1 (hcan j q hq) (by omega) (by omega) (by omega) (by omega) u hu
/-- What was adjusted tiles, wherever it is set. -/
theorem adj_tile {ax b x y : Int} (hax : ax = 1 ∨ ax = 2) {t : T} (hs : sz t ≤ 20000) (ht : tileB t = true) (hb : canB ax b t) (hx0 : 0 ≤ x) (hx1 : x + (adjR ax b t.r).w ≤ 10000) (hy0 : 0 ≤ y) (hy1 : y + (adjR ax b t.r).h ≤ 10000) : tileB (setT x y (adjT ax b t)) = true := by
  have hg := adj_good ax hax (sz t) t x y b (Nat.le_refl _) hs ht hb hx0 hx1 hy0 hy1
  have hon := once_tile hs ht
  have hid := (ids_set x y (adjT ax b t)).trans (ids_adj ax b t)
  have hsz : sz (setT x y (adjT ax b t)) = sz t := by rw [setT_sz, adjT_sz]
  unfold tileB
  rw [may_is (by omega)]
  unfold rmayT
  rw [Bool.and_eq_true, Bool.and_eq_true, decide_eq_true_eq, List.all_eq_true, List.all_eq_true]
  refine ⟨⟨fun u hu => (hg u hu).1, ?_⟩, fun u hu => (hg u hu).2⟩
  unfold onceI at hon
  unfold idsP at hid
  rw [hid]
  exact hon
theorem gv_adj {ax b : Int} (hax : ax = 1 ∨ ax = 2) (t : T) : gvT ax (adjT ax b t) = gvT ax t + b := by
  unfold gvT
  rw [adjT_r, szA_adj hax, ls_adj]
  omega
end Go.Proofs.YtcdiogifgemjbaaGreat
