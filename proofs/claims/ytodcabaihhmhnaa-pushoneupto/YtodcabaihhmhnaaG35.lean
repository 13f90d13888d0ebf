/- Texts of this seat, 3 in one file. -/
import Derived.Test.YtodcabaihhmhnaaG34
import Derived.Test.YtodcabaihhmhnaaG26
import Derived.Test.YtodcabaihhmhnaaG09
import Derived.Test.YtodcabaihhmhnaaG27
import Derived.Test.YtodcabaihhmhnaaG33
/- When a row of trees, set one behind the other, fits. No walk. -/
namespace Go.Proofs.Ytodcabaihhmhnaa
open Go.RowKit

theorem off_mono {ms : List Int} (h : ∀ m ∈ ms, 1 ≤ m) : ∀ (n k : Nat), k ≤ n → n ≤ ms.length → offS ms k ≤ offS ms n
  | 0, k, h1, _ => by obtain rfl : k = 0 := by omega
                      exact Int.le_refl _
  | n + 1, k, h1, h2 => by
    rcases Nat.lt_or_ge k (n + 1) with hk | hk
    · have hm := List.getElem?_eq_getElem (show n < ms.length by omega)
      have h3 := off_mono h n k (by omega) (by omega)
      have h4 := h _ (List.getElem_mem (show n < ms.length by omega))
      rw [off_succ hm]; omega
    · obtain rfl : k = n + 1 := by omega
      exact Int.le_refl _
theorem fill_of {whole : Int} {ms : List Int} (h : ∀ m ∈ ms, 1 ≤ m) (hs : ms.sum + ms.length = whole + 1) : fillP whole ms := by
  have h1 : offS ms ms.length = whole + 1 := by rw [off_all]; exact hs
  refine ⟨fun k m hk hm => ?_, h1⟩
  have h2 := off_mono h ms.length (k + 1) (by omega) (Nat.le_refl _)
  rw [off_succ hm] at h2
  exact ⟨h _ (List.mem_of_getElem? hm), by omega⟩
/-- Side by side. -/
theorem made_row {x y W H i9 : Int} {L : List T} (hm : mayB ⟨x, y, W, H⟩ = true) (hA : ∀ u ∈ L, u.r.h = H) (hB : (L.map fun u => u.r.w).sum + L.length = W + 1) (hC : ∀ u ∈ L, 1 ≤ u.r.w) :
    fitB (.node 2 ⟨x, y, W, H⟩ i9 (setL 2 x y L)) = true ∧ ∀ (j : Nat) (u : T), L[j]? = some u → x ≤ pX 2 x (L.take j) ∧ pX 2 x (L.take j) + u.r.w ≤ x + W ∧ pY 2 y (L.take j) = y := by
  have hr := (mayB_iff _).1 hm
  obtain ⟨ms, hms⟩ : ∃ ms, (L.map fun u => u.r.w) = ms := ⟨_, rfl⟩
  have hlen : ms.length = L.length := by rw [← hms]; simp
  have hg1 : ∀ m ∈ ms, 1 ≤ m := fun m hmm => by
    rw [← hms] at hmm
    obtain ⟨u, hu, rfl⟩ := List.mem_map.1 hmm
    exact hC u hu
  have hfill : fillP W ms := fill_of hg1 (by rw [← hms, List.length_map]; exact hB)
  have hpx : ∀ j, j ≤ L.length → pX 2 x (L.take j) = x + offS ms j := fun j hj => pX_row (t := .node 2 ⟨x, y, W, H⟩ 0 L) hms.symm hfill.1 hr.1.1 hr.1.2.2 j hj
  refine ⟨(fitB_iff _).2 (.inr ⟨⟨hm, .inl ⟨rfl, ?_⟩⟩, ?_⟩), fun j u hu => ?_⟩
  · show fillP W ((setL 2 x y L).map fun u => u.r.w)
    rw [setL_ws, hms]; exact hfill
  · show (setL 2 x y L).map T.r = cutParts ⟨x, y, W, H⟩ 1 ((setL 2 x y L).map fun u => u.r.w) true
    rw [setL_ws, hms]
    refine List.ext_getElem? fun j => ?_
    rw [List.getElem?_map, setL_get, cutParts, if_pos rfl]
    cases hv : L[j]? with
    | none =>
      rw [List.getElem?_eq_none_iff] at hv
      rw [List.getElem?_eq_none (by rw [partsL_length]; omega)]
      rfl
    | some v =>
      have hj := (List.getElem?_eq_some_iff.1 hv).1
      have hmj : ms[j]? = some v.r.w := by rw [← hms, List.getElem?_map, hv]; rfl
      rw [parts_at _ _ _ _ _ (by omega)]
      unfold partK
      rw [List.getD_eq_getElem?_getD, hmj]
      simp only [Option.map_some, Option.getD_some, id]
      rw [set_r, hpx j (by omega), pY_no _ (by decide), hA v (List.mem_of_getElem? hv)]
  · have hj := (List.getElem?_eq_some_iff.1 hu).1
    have hmj : ms[j]? = some u.r.w := by rw [← hms, List.getElem?_map, hu]; rfl
    have h1 := hfill.1 j _ (by omega) hmj
    have h2 := off_nonneg hfill.1 j (by omega) (by omega)
    rw [hpx j (by omega), pY_no _ (by decide)]
    exact ⟨by omega, by omega, rfl⟩
/-- One below the other. -/
theorem made_col {x y W H i9 : Int} {L : List T} (hm : mayB ⟨x, y, W, H⟩ = true) (hA : ∀ u ∈ L, u.r.w = W) (hB : (L.map fun u => u.r.h).sum + L.length = H + 1) (hC : ∀ u ∈ L, 1 ≤ u.r.h) :
    fitB (.node 3 ⟨x, y, W, H⟩ i9 (setL 3 x y L)) = true ∧ ∀ (j : Nat) (u : T), L[j]? = some u → y ≤ pY 3 y (L.take j) ∧ pY 3 y (L.take j) + u.r.h ≤ y + H ∧ pX 3 x (L.take j) = x := by
  have hr := (mayB_iff _).1 hm
  obtain ⟨ms, hms⟩ : ∃ ms, (L.map fun u => u.r.h) = ms := ⟨_, rfl⟩
  have hlen : ms.length = L.length := by rw [← hms]; simp
  have hg1 : ∀ m ∈ ms, 1 ≤ m := fun m hmm => by
    rw [← hms] at hmm
    obtain ⟨u, hu, rfl⟩ := List.mem_map.1 hmm
    exact hC u hu
  have hfill : fillP H ms := fill_of hg1 (by rw [← hms, List.length_map]; exact hB)
  have hpy : ∀ j, j ≤ L.length → pY 3 y (L.take j) = y + offS ms j := fun j hj => pY_col (t := .node 3 ⟨x, y, W, H⟩ 0 L) hms.symm hfill.1 hr.2.1 hr.2.2.2 j hj
  refine ⟨(fitB_iff _).2 (.inr ⟨⟨hm, .inr ⟨rfl, ?_⟩⟩, ?_⟩), fun j u hu => ?_⟩
  · show fillP H ((setL 3 x y L).map fun u => u.r.h)
    rw [setL_hs, hms]; exact hfill
  · show (setL 3 x y L).map T.r = cutParts ⟨x, y, W, H⟩ 2 ((setL 3 x y L).map fun u => u.r.h) true
    rw [setL_hs, hms]
    refine List.ext_getElem? fun j => ?_
    rw [List.getElem?_map, setL_get, cutParts, if_neg (by decide)]
    cases hv : L[j]? with
    | none =>
      rw [List.getElem?_eq_none_iff] at hv
      rw [List.getElem?_eq_none (by rw [partsL_length]; omega)]
      rfl
    | some v =>
      have hj := (List.getElem?_eq_some_iff.1 hv).1
      have hmj : ms[j]? = some v.r.h := by rw [← hms, List.getElem?_map, hv]; rfl
      rw [parts_at _ _ _ _ _ (by omega)]
      unfold partK turnR
      rw [List.getD_eq_getElem?_getD, hmj]
      simp only [Option.map_some, Option.getD_some]
      rw [set_r, hpy j (by omega), pX_no _ (by decide), hA v (List.mem_of_getElem? hv)]
  · have hj := (List.getElem?_eq_some_iff.1 hu).1
    have hmj : ms[j]? = some u.r.h := by rw [← hms, List.getElem?_map, hu]; rfl
    have h1 := hfill.1 j _ (by omega) hmj
    have h2 := off_nonneg hfill.1 j (by omega) (by omega)
    rw [hpy j (by omega), pX_no _ (by decide)]
    exact ⟨by omega, by omega, rfl⟩
end Go.Proofs.Ytodcabaihhmhnaa
/- What was adjusted tiles. No walk. -/
namespace Go.Proofs.Ytodcabaihhmhnaa
open Go.RowKit Sh

theorem rounds_any {l : List Nat} {need : Nat} : ∀ M, need < rs M l → ∃ r, rs r l ≤ need ∧ need - rs r l ≤ cnt r l
  | 0, h => by rw [rs_zero] at h; omega
  | M + 1, h => by
    by_cases h1 : need < rs M l
    · exact rounds_any M h1
    · rw [rs_succ] at h; exact ⟨M, by omega, by omega⟩
/-- Shares can be told. -/
theorem shares_is {b : Int} {gs : List Int} (h : okS b gs) : ∃ l, ShIs b gs l := by
  obtain ⟨-, hgd, -, -, hn⟩ := h
  by_cases h0 : 0 ≤ b
  · exact ⟨_, .inl ⟨h0, rfl⟩⟩
  · have h1 := hn (by omega)
    have hlen : (gs.map Int.toNat).length = gs.length := by simp
    obtain ⟨r, hr1, hr2⟩ : ∃ r, rs r (gs.map Int.toNat) ≤ (-b).toNat ∧ (-b).toNat - rs r (gs.map Int.toNat) ≤ cnt r (gs.map Int.toNat) := by
      have ha := rs_all (goodN_of hgd)
      by_cases h2 : (-b).toNat < rs 2147483647 (gs.map Int.toNat)
      · exact rounds_any _ h2
      · exact ⟨2147483647, by omega, by omega⟩
    obtain ⟨m, hm⟩ := tk_out r _ _ hr2
    refine ⟨negI (out (some (gs.map Int.toNat)) gs.length m), .inr ⟨by omega, m, rfl, ?_⟩⟩
    rw [← hlen, ← hm, tk_sum _ _ _ hr2]
    omega
theorem shares_sum {b : Int} {gs l : List Int} (hok : okS b gs) (h : ShIs b gs l) : l.sum = b := by
  have hn : 0 < gs.length := List.length_pos_iff.2 hok.1
  rcases h with ⟨h0, rfl⟩ | ⟨h0, m, rfl, hm⟩
  · rw [natI_sum, give_sum hn]; omega
  · rw [negI_sum, hm]; omega

mutual
theorem ls_adj (ax a : Int) : ∀ (b : Int) (t : T), lsT a (adjT ax b t) = lsT a t
  | b, .node k r i l => by
    have h1 := lsS_adj ax a (shF k ax b (l.map (gvT ax))) l
    have h2 := lsX_adj ax a (shF k ax b (l.map (gvT ax))) l
    rw [adjT, lsT, lsT, h1, h2, adjL_len]
    cases l with
    | nil => simp [adjL]
    | cons t l => simp [adjL]
theorem lsS_adj (ax a : Int) : ∀ (s : Nat → Int) (l : List T), lsS a (adjL ax s l) = lsS a l
  | s, [] => by simp [adjL]
  | s, t :: l => by rw [adjL, lsS, lsS, ls_adj ax a (s 0) t, lsS_adj ax a _ l]
theorem lsX_adj (ax a : Int) : ∀ (s : Nat → Int) (l : List T), lsX a (adjL ax s l) = lsX a l
  | s, [] => by simp [adjL]
  | s, t :: l => by rw [adjL, lsX, lsX, ls_adj ax a (s 0) t, lsX_adj ax a _ l]
end
mutual
theorem ids_adj (ax : Int) : ∀ (b : Int) (t : T), idsP (preT (adjT ax b t)) = idsP (preT t)
  | b, .node k r i l => by rw [adjT, preT, preT, idsP_cons, idsP_cons, idsL_adj ax _ l]; rfl
theorem idsL_adj (ax : Int) : ∀ (s : Nat → Int) (l : List T), idsP (preL (adjL ax s l)) = idsP (preL l)
  | s, [] => by simp [adjL]
  | s, t :: l => by rw [adjL, preL, preL, idsP_append, idsP_append, ids_adj ax (s 0) t, idsL_adj ax _ l]
end
theorem adjL_get (ax : Int) : ∀ (l : List T) (s : Nat → Int) (j : Nat), (adjL ax s l)[j]? = (l[j]?).map (adjT ax (s j))
  | [], s, j => by simp [adjL]
  | t :: l, s, 0 => by simp [adjL]
  | t :: l, s, j + 1 => by rw [adjL, List.getElem?_cons_succ, List.getElem?_cons_succ, adjL_get ax l _ j]
theorem szA_adj {ax b : Int} (hax : ax = 1 ∨ ax = 2) (r : R) : szA (adjR ax b r) ax = szA r ax + b := by
  rcases hax with rfl | rfl <;> rfl
/-- Sizes together, when each is adjusted. -/
theorem adj_sum {f : R → Int} {ax : Int} : ∀ (l : List T) (s : Nat → Int) (ss : List Int), ss.length = l.length → (∀ (j : Nat) (u : T), l[j]? = some u → f (adjR ax (s j) u.r) = f u.r + ss.getD j 0) → ((adjL ax s l).map fun u => f u.r).sum = (l.map fun u => f u.r).sum + ss.sum
  | [], s, ss, h, _ => by
    have : ss = [] := List.length_eq_zero_iff.1 h
    subst this; simp [adjL]
  | t :: l, s, [], h, _ => by simp at h
  | t :: l, s, x :: ss, h, hs => by
    have h1 := hs 0 t rfl
    have h2 := adj_sum l (fun j => s (j + 1)) ss (by simpa using h) fun j u hu => by
      have := hs (j + 1) u (by simpa using hu)
      simpa using this
    rw [adjL]
    simp only [List.map_cons, List.sum_cons]
    rw [h2, adjT_r, h1]
    simp only [List.getD_cons_zero]
    omega

theorem adj_sum0 {f : R → Int} {ax : Int} {l : List T} {s : Nat → Int} (h : ∀ (j : Nat) (u : T), l[j]? = some u → f (adjR ax (s j) u.r) = f u.r) : ((adjL ax s l).map fun u => f u.r).sum = (l.map fun u => f u.r).sum := by
  have h1 := adj_sum (f := f) (ax := ax) l s (List.replicate l.length 0) (by simp) fun j u hu => by
    have hj := (List.getElem?_eq_some_iff.1 hu).1
    rw [h j u hu, List.getD_eq_getElem?_getD, List.getElem?_replicate, if_pos hj]
    simp
  have h2 : (List.replicate l.length (0 : Int)).sum = 0 := by simp
  rw [h1, h2]; omega
theorem adj_each {ax : Int} {l : List T} {s : Nat → Int} {P : T → Prop} (h : ∀ (j : Nat) (u : T), l[j]? = some u → P (adjT ax (s j) u)) : ∀ v ∈ adjL ax s l, P v := fun v hv => by
  obtain ⟨j, hj⟩ := List.getElem?_of_mem hv
  rw [adjL_get] at hj
  cases hq : l[j]? with
  | none => rw [hq] at hj; cases hj
  | some q => rw [hq] at hj; cases hj; exact h j q hq

/-- What its kids are asked for. -/
theorem adj_kids {ax b : Int} (hax : ax = 1 ∨ ax = 2) {t : T} (hs : sz t ≤ 20000) (ht : tileB t = true) (hk : t.k ≠ 1) (hb : canB ax b t) :
    (∀ (j : Nat) (u : T), t.kids[j]? = some u → canB ax (shF t.k ax b (t.kids.map (gvT ax)) j) u) ∧
    (alB t.k ax = true → ∃ l : List Int, l.length = t.kids.length ∧ l.sum = b ∧ ∀ j, shF t.k ax b (t.kids.map (gvT ax)) j = l.getD j 0) ∧
    (alB t.k ax = false → ∀ j, shF t.k ax b (t.kids.map (gvT ax)) j = b) := by
  have hsh : alB t.k ax = true → ∃ l, ShIs b (t.kids.map (gvT ax)) l := fun ha => shares_is (can_ok hax hs ht hb ha)
  refine ⟨fun j u hu => can_kid hax hs ht hb hu hsh, fun ha => ?_, fun ha j => ?_⟩
  · obtain ⟨l, hl⟩ := hsh ha
    refine ⟨l, by rw [hl.len, List.length_map], shares_sum (can_ok hax hs ht hb ha) hl, fun j => ?_⟩
    unfold shF
    rw [if_pos ha, shL_of hl]
  · unfold shF
    rw [if_neg (by rw [ha]; decide)]

theorem adj_good (ax : Int) (hax : ax = 1 ∨ ax = 2) (N : Nat) : ∀ (t : T) (x y b : Int), sz t ≤ N → sz t ≤ 20000 → tileB t = true → canB ax b t → 0 ≤ x → x + (adjR ax b t.r).w ≤ 10000 → 0 ≤ y → y + (adjR ax b t.r).h ≤ 10000 → ∀ u ∈ preT (setT x y (adjT ax b t)), wellT u = true ∧ fitB u = true := by
  induction N with
  | zero => intro t x y b h; have := sz_pos t; omega
  | succ N ih =>
    intro t x y b hN hs ht hb hx0 hx1 hy0 hy1 u hu
    obtain ⟨hw, hf⟩ := tile_top hs ht
    have hr := may_rect (well_rect hw)
    have hl1 := ls_pos ax t
    have hsz := szA_adj (b := b) hax t.r
    have hmay : mayB ⟨x, y, (adjR ax b t.r).w, (adjR ax b t.r).h⟩ = true := by
      refine (mayB_iff _).2 ?_
      unfold canB gvT at hb
      rcases hax with rfl | rfl
      · have e1 : szA t.r 1 = t.r.w := rfl
        have e2 : (adjR 1 b t.r).w = t.r.w + b := rfl
        have e3 : (adjR 1 b t.r).h = t.r.h := rfl
        rw [e2, e3] at *
        refine ⟨⟨hx0, ?_, hx1⟩, hy0, ?_, hy1⟩
        · show 1 ≤ t.r.w + b; omega
        · show 1 ≤ t.r.h; omega
      · have e1 : szA t.r 2 = t.r.h := rfl
        have e2 : (adjR 2 b t.r).w = t.r.w := rfl
        have e3 : (adjR 2 b t.r).h = t.r.h + b := rfl
        rw [e2, e3] at *
        refine ⟨⟨hx0, ?_, hx1⟩, hy0, ?_, hy1⟩
        · show 1 ≤ t.r.w; omega
        · show 1 ≤ t.r.h + b; omega
    have hwell : wellT (setT x y (adjT ax b t)) = true := by
      rw [setT_eq, adjT_eq]
      unfold wellT at hw ⊢
      show wellB t.k ⟨x, y, (adjR ax b t.r).w, (adjR ax b t.r).h⟩ t.id (setL t.k x y (adjL ax _ t.kids)).length = true
      rw [setL_length, adjL_len]
      unfold wellB at hw ⊢
      rw [Bool.and_eq_true] at hw ⊢
      exact ⟨hmay, hw.2⟩
    by_cases hk1 : t.k = 1
    · rw [setT_eq, adjT_eq, preT_eq] at hu
      have h0 : t.kids = [] := leaf_none hs ht hk1
      have hu : u ∈ (T.node t.k ⟨x, y, (adjR ax b t.r).w, (adjR ax b t.r).h⟩ t.id (setL t.k x y (adjL ax (shF t.k ax b (t.kids.map (gvT ax))) t.kids))) :: preL (setL t.k x y (adjL ax (shF t.k ax b (t.kids.map (gvT ax))) t.kids)) := hu
      rw [h0] at hu
      simp only [adjL, setL, preL, List.mem_cons, List.not_mem_nil, or_false] at hu
      rw [setT_eq, adjT_eq] at hwell
      have hwell : wellT (T.node t.k ⟨x, y, (adjR ax b t.r).w, (adjR ax b t.r).h⟩ t.id (setL t.k x y (adjL ax (shF t.k ax b (t.kids.map (gvT ax))) t.kids))) = true := hwell
      rw [h0] at hwell
      simp only [adjL, setL] at hwell
      subst hu
      exact ⟨hwell, (fitB_iff _).2 (.inl hk1)⟩
    · obtain ⟨hcan, hyes, hno⟩ := adj_kids hax hs ht hk1 hb
      obtain ⟨s, hsd⟩ : ∃ s, shF t.k ax b (t.kids.map (gvT ax)) = s := ⟨_, rfl⟩
      rw [hsd] at hcan hyes hno
      have hkt : ∀ (j : Nat) (v : T), t.kids[j]? = some v → tileB v = true ∧ sz v < sz t := fun j v hv => ⟨tile_kid hs ht hv, sz_kid hv⟩
      have hfk := fit_kids hw hf hk1
      -- each kid's sizes are at least 1
      have hpos : ∀ v ∈ adjL ax s t.kids, 1 ≤ v.r.w ∧ 1 ≤ v.r.h := fun v hv => by
        obtain ⟨j, hj⟩ := List.getElem?_of_mem hv
        rw [adjL_get] at hj
        cases hq : t.kids[j]? with
        | none => rw [hq] at hj; cases hj
        | some q =>
          rw [hq] at hj
          cases hj
          have h1 := hcan j q hq
          have h2 := ls_pos ax q
          have h3 := may_rect (well_rect (tile_top (by have := (hkt j q hq).2; omega) (hkt j q hq).1).1)
          rw [adjT_r]
          unfold canB gvT at h1
          rcases hax with rfl | rfl
          · have e1 : szA q.r 1 = q.r.w := rfl
            show 1 ≤ q.r.w + s j ∧ 1 ≤ q.r.h; omega
          · have e1 : szA q.r 2 = q.r.h := rfl
            show 1 ≤ q.r.w ∧ 1 ≤ q.r.h + s j; omega
      have hkind := well_kind hw
      have hmain : fitB (.node t.k ⟨x, y, (adjR ax b t.r).w, (adjR ax b t.r).h⟩ t.id (setL t.k x y (adjL ax s t.kids))) = true ∧ ∀ (j : Nat) (v : T), (adjL ax s t.kids)[j]? = some v → x ≤ pX t.k x ((adjL ax s t.kids).take j) ∧ pX t.k x ((adjL ax s t.kids).take j) + v.r.w ≤ x + (adjR ax b t.r).w ∧ y ≤ pY t.k y ((adjL ax s t.kids).take j) ∧ pY t.k y ((adjL ax s t.kids).take j) + v.r.h ≤ y + (adjR ax b t.r).h := by
        have hln := adjL_len ax t.kids s
        rcases hkind with hk | hk | hk
        · exact absurd hk hk1
        · rw [hk]
          rcases hax with rfl | rfl
          · have ha : alB t.k 1 = true := by rw [hk]; rfl
            have hc : alB t.k 2 = false := by rw [hk]; rfl
            obtain ⟨ss, hs1, hs2, hs3⟩ := hyes ha
            have h1 : (t.kids.map fun u => u.r.w).sum + t.kids.length = t.r.w + 1 := (hfk 1 (.inl rfl)).1 ha
            have h2 : ∀ (j : Nat) (v : T), t.kids[j]? = some v → v.r.h = t.r.h := (hfk 2 (.inr rfl)).2 hc
            have h3 := adj_sum (f := fun r => r.w) (ax := 1) t.kids s ss hs1 fun j u _ => by rw [← hs3]; rfl
            have hmd := made_row (i9 := t.id) hmay (L := adjL 1 s t.kids) (adj_each fun j q hq => by rw [adjT_r]; exact h2 j q hq) (by rw [hln]; show _ = t.r.w + b + 1; omega) (fun v hv => (hpos v hv).1)
            refine ⟨hmd.1, fun j v hv => ?_⟩
            obtain ⟨g1, g2, g3⟩ := hmd.2 j v hv
            have g4 := adj_each (ax := 1) (s := s) (l := t.kids) (P := fun v => v.r.h = t.r.h) (fun j q hq => by rw [adjT_r]; exact h2 j q hq) v (List.mem_of_getElem? hv)
            exact ⟨g1, g2, by omega, by rw [g3, g4]; exact Int.le_refl _⟩
          · have ha : alB t.k 2 = false := by rw [hk]; rfl
            have hc : alB t.k 1 = true := by rw [hk]; rfl
            have hs3 := hno ha
            have h1 : (t.kids.map fun u => u.r.w).sum + t.kids.length = t.r.w + 1 := (hfk 1 (.inl rfl)).1 hc
            have h2 : ∀ (j : Nat) (v : T), t.kids[j]? = some v → v.r.h = t.r.h := (hfk 2 (.inr rfl)).2 ha
            have h3 := adj_sum0 (f := fun r => r.w) (ax := 2) (l := t.kids) (s := s) fun j u _ => rfl
            have h4 : ∀ (j : Nat) (q : T), t.kids[j]? = some q → (adjT 2 (s j) q).r.h = t.r.h + b := fun j q hq => by
              rw [adjT_r, hs3]; show q.r.h + b = _; rw [h2 j q hq]
            have hmd := made_row (i9 := t.id) hmay (L := adjL 2 s t.kids) (adj_each h4) (by rw [hln]; show _ = t.r.w + 1; omega) (fun v hv => (hpos v hv).1)
            refine ⟨hmd.1, fun j v hv => ?_⟩
            obtain ⟨g1, g2, g3⟩ := hmd.2 j v hv
            have g4 := adj_each (ax := 2) (s := s) (l := t.kids) (P := fun v => v.r.h = t.r.h + b) h4 v (List.mem_of_getElem? hv)
            exact ⟨g1, g2, by omega, by rw [g3, g4]; exact Int.le_refl _⟩
        · rw [hk]
          rcases hax with rfl | rfl
          · have ha : alB t.k 1 = false := by rw [hk]; rfl
            have hc : alB t.k 2 = true := by rw [hk]; rfl
            have hs3 := hno ha
            have h1 : (t.kids.map fun u => u.r.h).sum + t.kids.length = t.r.h + 1 := (hfk 2 (.inr rfl)).1 hc
            have h2 : ∀ (j : Nat) (v : T), t.kids[j]? = some v → v.r.w = t.r.w := (hfk 1 (.inl rfl)).2 ha
            have h3 := adj_sum0 (f := fun r => r.h) (ax := 1) (l := t.kids) (s := s) fun j u _ => rfl
            have h4 : ∀ (j : Nat) (q : T), t.kids[j]? = some q → (adjT 1 (s j) q).r.w = t.r.w + b := fun j q hq => by
              rw [adjT_r, hs3]; show q.r.w + b = _; rw [h2 j q hq]
            have hmd := made_col (i9 := t.id) hmay (L := adjL 1 s t.kids) (adj_each h4) (by rw [hln]; show _ = t.r.h + 1; omega) (fun v hv => (hpos v hv).2)
            refine ⟨hmd.1, fun j v hv => ?_⟩
            obtain ⟨g1, g2, g3⟩ := hmd.2 j v hv
            have g4 := adj_each (ax := 1) (s := s) (l := t.kids) (P := fun v => v.r.w = t.r.w + b) h4 v (List.mem_of_getElem? hv)
            exact ⟨by omega, by rw [g3, g4]; exact Int.le_refl _, g1, g2⟩
          · have ha : alB t.k 2 = true := by rw [hk]; rfl
            have hc : alB t.k 1 = false := by rw [hk]; rfl
            obtain ⟨ss, hs1, hs2, hs3⟩ := hyes ha
            have h1 : (t.kids.map fun u => u.r.h).sum + t.kids.length = t.r.h + 1 := (hfk 2 (.inr rfl)).1 ha
            have h2 : ∀ (j : Nat) (v : T), t.kids[j]? = some v → v.r.w = t.r.w := (hfk 1 (.inl rfl)).2 hc
            have h3 := adj_sum (f := fun r => r.h) (ax := 2) t.kids s ss hs1 fun j u _ => by rw [← hs3]; rfl
            have hmd := made_col (i9 := t.id) hmay (L := adjL 2 s t.kids) (adj_each fun j q hq => by rw [adjT_r]; exact h2 j q hq) (by rw [hln]; show _ = t.r.h + b + 1; omega) (fun v hv => (hpos v hv).2)
            refine ⟨hmd.1, fun j v hv => ?_⟩
            obtain ⟨g1, g2, g3⟩ := hmd.2 j v hv
            have g4 := adj_each (ax := 2) (s := s) (l := t.kids) (P := fun v => v.r.w = t.r.w) (fun j q hq => by rw [adjT_r]; exact h2 j q hq) v (List.mem_of_getElem? hv)
            exact ⟨by omega, by rw [g3, g4]; exact Int.le_refl _, g1, g2⟩
      rw [setT_eq, adjT_eq, preT_eq] at hu
      rw [hsd] at hu
      rcases List.mem_cons.1 hu with rfl | hu
      · rw [setT_eq, adjT_eq, hsd] at hwell
        exact ⟨hwell, hmain.1⟩
      · have hu : u ∈ preL (setL t.k x y (adjL ax s t.kids)) := hu
        obtain ⟨j, v', hv', hu⟩ := mem_preL hu
        rw [setL_get, adjL_get] at hv'
        cases hq : t.kids[j]? with
        | none => rw [hq] at hv'; cases hv'
        | some q =>
          rw [hq] at hv'
          cases hv'
          obtain ⟨h1, h2, h3, h4⟩ := hmain.2 j (adjT ax (s j) q) (by rw [adjL_get, hq]; rfl)
          rw [adjT_r] at h2 h4
          exact ih q _ _ (s j) (by have := (hkt j q hq).2; omega) (by have := (hkt j q hq).2; omega) (hkt j q hq).1 (hcan j q hq) (by omega) (by omega) (by omega) (by omega) u hu
/-- What was adjusted tiles, wherever it is set. -/
theorem adj_tile {ax b x y : Int} (hax : ax = 1 ∨ ax = 2) {t : T} (hs : sz t ≤ 20000) (ht : tileB t = true) (hb : canB ax b t) (hx0 : 0 ≤ x) (hx1 : x + (adjR ax b t.r).w ≤ 10000) (hy0 : 0 ≤ y) (hy1 : y + (adjR ax b t.r).h ≤ 10000) : tileB (setT x y (adjT ax b t)) = true := by
  have hg := adj_good ax hax (sz t) t x y b (Nat.le_refl _) hs ht hb hx0 hx1 hy0 hy1
  have hon := once_tile hs ht
  have hid := (ids_set x y (adjT ax b t)).trans (ids_adj ax b t)
  have hsz : sz (setT x y (adjT ax b t)) = sz t := by rw [setT_sz, adjT_sz]
  unfold tileB
  rw [may_is (by omega)]
  unfold rmayT
  rw [Bool.and_eq_true, Bool.and_eq_true, decide_eq_true_eq, List.all_eq_true, List.all_eq_true]
  refine ⟨⟨fun u hu => (hg u hu).1, ?_⟩, fun u hu => (hg u hu).2⟩
  unfold onceI at hon
  unfold idsP at hid
  rw [hid]
  exact hon
theorem gv_adj {ax b : Int} (hax : ax = 1 ∨ ax = 2) (t : T) : gvT ax (adjT ax b t) = gvT ax t + b := by
  unfold gvT
  rw [adjT_r, szA_adj hax, ls_adj]
  omega
end Go.Proofs.Ytodcabaihhmhnaa
/- The path to the first leaf with a number, and that it can be cut: the document's answer. -/
namespace Go.Proofs.Ytodcabaihhmhnaa
open Go.RowKit

theorem ownI_one (w : World) (base : Nat) (hb : base ≤ w.heap.size) (m : Int) : OwnI (w.alloc (.cells #[.int .i64 m] 3)) base (.slice (some ⟨w.heap.size, 0, none⟩) 1 1) [m] :=
  ⟨by simp [ints], .inr ⟨w.heap.size, 1, _, rfl, hb, heap_alloc_new w _, by simp, by unfold maxLen; omega, rfl, rfl⟩⟩
theorem path_of_own {w : World} {base : Nat} {v : Value} {p : List Int} (h : w.ownsRow base 3 1 v p.length (ints p)) : Path w v p := by
  refine ⟨Row.of_owns h, ?_⟩
  rcases h.2 with ⟨rfl, h0⟩ | ⟨g, cap, cur, rfl, -, -, hn, -⟩
  · exact ⟨none, 0, by rw [h0], by omega⟩
  · exact ⟨_, cap, rfl, hn⟩
def FarP (base : Nat) (v : Value) : Prop := ∀ a n cap, v = .slice (some a) n cap → base ≤ a.block
theorem FarP.lower {base base' : Nat} {v : Value} (h : FarP base v) (hb : base' ≤ base) : FarP base' v := fun a n cap e => Nat.le_trans hb (h a n cap e)
theorem far_own {w : World} {base : Nat} {v : Value} {n : Nat} {xs : List Value} (h : w.ownsRow base 3 1 v n xs) : FarP base v := fun a m cap e => by
  rcases h.2 with ⟨rfl, -⟩ | ⟨g, cap', cur, rfl, hg, -⟩
  · cases e
  · cases e; exact hg
theorem Path.kept {w w' : World} {base : Nat} {v : Value} {p : List Int} (h : Path w v p) (hf : FarP base v) (hk : ∀ g, base ≤ g → w'.heap[g]? = w.heap[g]?) : Path w' v p := by
  refine ⟨?_, h.cap⟩
  obtain ⟨a, n, rfl, h0, h1⟩ := h.row
  refine ⟨a, n, rfl, h0, fun x hx j u hu => ?_⟩
  subst hx
  have h2 := h1 x rfl j u hu
  exact (World.cell?_of_block (a := x.add j) (by
    have h3 : (x.add j).block = x.block := by unfold Addr.add; split <;> rfl
    rw [h3]
    exact hk _ (hf _ _ _ rfl))).trans h2
def FpSays (r : Option (List Int)) (w : World) (e : Ending) (w' : World) : Prop := ∃ v, e = .returned (.tuple #[v, .bool r.isSome]) ∧ Path w' v (r.getD []) ∧ FarP w.heap.size v ∧ Below w.heap.size w w'
theorem fp_none {r : Option (List Int)} {w w' : World} {e : Ending} {a : Option Addr} (h : r = none) (he : e = .returned (.tuple #[.slice a 0 0, .bool false])) (hr : Row w' (.slice a 0 0) []) (hf : FarP w.heap.size (.slice a 0 0)) (hb : Below w.heap.size w w') : FpSays r w e w' := by
  subst h; exact ⟨_, he, ⟨hr, a, 0, rfl, Nat.le_refl _⟩, hf, hb⟩
theorem fp_some {r : Option (List Int)} {p : List Int} {w w' : World} {e : Ending} {v : Value} (h : r = some p) (he : e = .returned (.tuple #[v, .bool true])) (hr : Path w' v p) (hf : FarP w.heap.size v) (hb : Below w.heap.size w w') : FpSays r w e w' := by
  subst h; exact ⟨v, he, hr, hf, hb⟩

set_option maxRecDepth 100000 in
theorem rfindp_any (id : Int) (N : Nat) : ∀ (t : T) (c : C) (w : World), sz t ≤ N → sz t ≤ 1000000 → Is w c t → Calls Try.prog 12 #[cval c, .int .i64 id] w (FpSays (findT id t) w) := by
  induction N with
  | zero => intro t c w h; have := sz_pos t; omega
  | succ N ih =>
    intro t c w hs hm hi
    have HR := Lib.hid hi.row
    have hn := hi.n
    have hfn := hi.fine.2.2.2
    have htk := hi.split.1
    have hti := hi.split.2.2.1
    obtain ⟨ck, cr, cid, ca, cn, ccap⟩ := c
    simp only at hn hfn htk hti
    subst hn
    clear hi
    have HS := Lib.hid hs
    have HM := Lib.hid hm
    have HIH := Lib.hid ih
    clear hs hm ih
    by_cases hk : ck = 1 ∧ cid = id
    · obtain ⟨rfl, rfl⟩ := hk
      have hv := Lib.hid (show findT cid t = some [] by rw [findT_eq, if_pos ⟨htk, hti⟩])
      clear htk hti
      go_enter Try.func12, Try.ntmps12
      go_wp2
      go_ret2
      refine fp_some (v := .slice (some ⟨w.heap.size + 1, 0, none⟩) 0 0) hv.out rfl ⟨?_, _, 0, rfl, Nat.le_refl _⟩ (fun a n cap e => by cases e; show w.heap.size ≤ w.heap.size + 1; omega) (((Below.refl _ _).alloc (Nat.le_refl _) _).alloc (by simp) _)
      exact ⟨some ⟨w.heap.size + 1, 0, none⟩, 0, rfl, (fun h => by cases h), fun x hx j u hu => by simp [ints] at hu⟩
    · have hv : Hid (findT id t = findL id 0 t.kids) := Lib.hid (by rw [findT_eq, if_neg (by rw [htk, hti]; exact hk)])
      have hcase : ((ck == 1) = false) ∨ ((ck == 1) = true ∧ (cid == id) = false) := by
        by_cases h1 : ck = 1
        · refine .inr ⟨by simpa using h1, ?_⟩
          rw [beq_eq_false_iff_ne]; exact fun h2 => hk ⟨h1, h2⟩
        · refine .inl ?_
          rw [beq_eq_false_iff_ne]; exact h1
      clear hk htk hti
      rcases hcase with e1 | ⟨e1, e2⟩
      all_goals
        go_enter Try.func12, Try.ntmps12
        go_wp2
        go_loopg [22] (t.kids.length + 1) (fun g i wr => ∃ k : Nat, g + k = t.kids.length + 1 ∧ k ≤ t.kids.length ∧ i = .int .i64 k ∧ (∀ (j : Nat) (u : T), j < k → t.kids[j]? = some u → findT id u = none) ∧ Below (w.alloc (cbox ⟨ck, cr, cid, ca, t.kids.length, ccap⟩)).heap.size (w.alloc (cbox ⟨ck, cr, cid, ca, t.kids.length, ccap⟩)) wr)
        case atStart => exact ⟨0, by omega, by omega, rfl, fun j u hj => by omega, Below.refl _ _⟩
        case round =>
          obtain ⟨k, hg, hk, rfl, hno, hb⟩ := hrel
          have HG := Lib.hid hg
          have HNO := Lib.hid hno
          have HBX := Lib.hid hb
          have HB := Lib.hid (below_one hb)
          clear hg hno hb
          by_cases hlt : k < t.kids.length
          · have hlti : (k : Int) < (t.kids.length : Int) := by omega
            obtain ⟨b, o, rfl, hf⟩ := HR.out.place (by omega)
            obtain ⟨u, hu⟩ : ∃ u, t.kids[k]? = some u := ⟨_, List.getElem?_eq_getElem hlt⟩
            obtain ⟨x, hx, hix⟩ := hf k u hu
            clear hf
            obtain ⟨c0, c1, c2, c3, c4, c5, c6⟩ := hx.up HB.out
            have q6 := (box_at HBX.out).2.2.2.2.2.2
            have HK := Lib.hid (HIH.out u x wr (by have := HS.out; have := sz_kid hu; omega) (by have := HM.out; have := sz_kid hu; omega) (hix.up HB.out))
            have HU := Lib.hid hu
            clear hix hu hx
            cases hfu : findT id u with
            | none =>
              rw [hfu] at HK
              have HFU := Lib.hid hfu
              clear hfu
              go_wp2_with fail
              refine HK.out.mono ?_
              rintro e w2 ⟨v2, rfl, -, -, hb2⟩
              have HB2 := Lib.hid hb2
              clear hb2
              go_wp2
              go_roundg (gk - 1)
              case measure => have := HG.out; omega
              case rel =>
                refine ⟨k + 1, by have := HG.out; omega, by omega, by go_num, fun j y hj hy => ?_, HBX.out.trans (HB2.out.mono HBX.out.size)⟩
                rcases Nat.lt_or_ge j k with h | h
                · exact HNO.out j y h hy
                · obtain rfl : j = k := by omega
                  rw [HU.out] at hy
                  cases hy
                  exact HFU.out
            | some p =>
              rw [hfu] at HK
              have hres := Lib.hid (hv.out.trans (findL_some (j := 0) HNO.out HU.out hfu))
              have hpl : Hid (p.length < 1000000) := by have := findT_len id p u hfu; have := HM.out; have := sz_kid HU.out; show p.length < 1000000; omega
              rw [Nat.zero_add] at hres
              clear hfu
              go_wp2_with fail
              refine HK.out.mono ?_
              rintro e w2 ⟨v2, rfl, hr2, -, hb2⟩
              have HR2 := Lib.hid (show Row w2 v2 (ints p) from hr2.row)
              have HB2 := Lib.hid (HB.out.trans (hb2.mono HB.out.size))
              obtain ⟨a2, cap2, rfl⟩ := row_shape HR2.out
              clear hr2 hb2 c0 c1 c2 c3 c4 c5 c6 q6
              have HLN : Hid ((ints [(k : Int)]).length + (ints p).length ≤ 1000000) := Lib.hid (by rw [ints_length, ints_length]; have := hpl.out; simp; omega)
              have HO := Lib.hid (ownI_one w2 w2.heap.size (Nat.le_refl _) (k : Int))
              go_wp2_with (at_builtin; refine wpList_append_row2 rfl _ _ 37 rfl w2.heap.size 3 (.int .i64 0) 8 Try.underlying37 infoI rfl (.slice (some ⟨w2.heap.size, 0, none⟩) 1 1) _ (ints [(k : Int)]) (ints p) rfl HO.out rfl (HR2.out.up ((Below.refl _ _).alloc (Nat.le_refl _) _)) (ints_one _) HLN.out (by decide) w2 ((Below.refl _ _).alloc (Nat.le_refl _) _) (Nat.le_refl _) ?_; intro v4 w4 hown4 hb4 hgr4)
              have HR4 := Lib.hid (path_of_own (p := (k : Int) :: p) (by simpa [ints, Nat.add_comm] using hown4))
              have HFAR := Lib.hid ((far_own hown4).lower HB2.out.size)
              have HB4 := Lib.hid (HB2.out.trans (hb4.mono HB2.out.size))
              clear hown4 hb4 hgr4
              go_wp2
              go_ret2
              exact fp_some hres.out rfl HR4.out HFAR.out HB4.out
          · obtain rfl : k = t.kids.length := by omega
            have hkl : ((t.kids.length : Int) < (t.kids.length : Int)) = False := by simp
            have hres := Lib.hid (hv.out.trans (findL_none 0 (fun k u hu => HNO.out k u (by
              rcases Nat.lt_or_ge k t.kids.length with h | h
              · exact h
              · rw [List.getElem?_eq_none h] at hu; cases hu) hu)))
            go_wp2
            go_ret2
            refine fp_none (a := some ⟨wr.heap.size, 0, none⟩) hres.out rfl ?_ (fun a n cap e => by cases e; exact HB.out.size) (HB.out.alloc HB.out.size _)
            exact ⟨some ⟨wr.heap.size, 0, none⟩, 0, rfl, (fun h => by cases h), fun x hx j u hu => by simp at hu⟩
end Go.Proofs.Ytodcabaihhmhnaa
