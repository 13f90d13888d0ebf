/- The least size of a tree along an axis, and what it can give: the mathematics. -/
import Derived.Test.YtajhojbnpajelaaLook
import Derived.Test.YtajhojbnpajelaaTileM
import Derived.Test.YtajhojbnpajelaaRCheck
namespace Go.Proofs.Ytajhojbnpajelaa
open Go.RowKit

mutual
def lsT (ax : Int) : T → Int
  | .node k _ _ l => if l.isEmpty then 1 else if alB k ax then lsS ax l + l.length - 1 else lsX ax l
/-- Together. -/
def lsS (ax : Int) : List T → Int
  | [] => 0
  | t :: l => lsT ax t + lsS ax l
/-- The greatest. -/
def lsX (ax : Int) : List T → Int
  | [] => 0
  | t :: l => max (lsT ax t) (lsX ax l)
end
theorem ls_eq (ax : Int) (t : T) : lsT ax t = if t.kids.isEmpty then 1 else if alB t.k ax then lsS ax t.kids + t.kids.length - 1 else lsX ax t.kids := by
  cases t; rw [lsT]; rfl
theorem lsS_append (ax : Int) (a b : List T) : lsS ax (a ++ b) = lsS ax a + lsS ax b := by
  induction a with
  | nil => simp [lsS]
  | cons t l ih => simp only [List.cons_append, lsS, ih]; omega
mutual
theorem ls_pos (ax : Int) : ∀ t, 1 ≤ lsT ax t
  | .node k r i l => by
    rw [lsT]
    cases l with
    | nil => simp
    | cons t l =>
      have h1 := lsS_pos ax (t :: l)
      have h2 := lsX_pos ax (t :: l) (by simp)
      simp only [List.isEmpty_cons, Bool.false_eq_true, if_false]
      split
      · simp only [List.length_cons] at h1 ⊢; omega
      · exact h2
theorem lsS_pos (ax : Int) : ∀ l, (l.length : Int) ≤ lsS ax l
  | [] => by simp [lsS]
  | t :: l => by
    have h1 := ls_pos ax t
    have h2 := lsS_pos ax l
    rw [lsS, List.length_cons]; omega
theorem lsX_pos (ax : Int) : ∀ l, l ≠ [] → 1 ≤ lsX ax l
  | [] => fun h => absurd rfl h
  | t :: l => fun _ => by
    have h1 := ls_pos ax t
    rw [lsX]; omega
end
theorem lsX_nonneg (ax : Int) (l : List T) : 0 ≤ lsX ax l := by
  cases l with
  | nil => simp [lsX]
  | cons t l => have := lsX_pos ax (t :: l) (by simp); omega
theorem lsX_append (ax : Int) (a b : List T) : lsX ax (a ++ b) = max (lsX ax a) (lsX ax b) := by
  induction a with
  | nil => have := lsX_nonneg ax b; simp only [List.nil_append, lsX]; omega
  | cons t l ih => simp only [List.cons_append, lsX, ih]; omega
theorem lsS_step {ax : Int} {l : List T} {k : Nat} {t : T} (h : l[k]? = some t) : lsS ax (l.take (k + 1)) = lsS ax (l.take k) + lsT ax t := by
  rw [List.take_add_one, h, lsS_append]; simp [lsS]
theorem lsX_step {ax : Int} {l : List T} {k : Nat} {t : T} (h : l[k]? = some t) : lsX ax (l.take (k + 1)) = max (lsX ax (l.take k)) (lsT ax t) := by
  rw [List.take_add_one, h, lsX_append]
  have := ls_pos ax t
  simp only [Option.toList, lsX]; omega
mutual
theorem ls_sz (ax : Int) : ∀ t, lsT ax t ≤ 2 * (sz t : Int) - 1
  | .node k r i l => by
    rw [lsT, sz]
    have h1 := lsS_sz ax l
    have h2 := lsX_sz ax l
    split
    · omega
    · split
      · omega
      · omega
theorem lsS_sz (ax : Int) : ∀ l, lsS ax l + (l.length : Int) ≤ 2 * (szL l : Int)
  | [] => by simp [lsS, szL]
  | t :: l => by
    have h1 := ls_sz ax t
    have h2 := lsS_sz ax l
    rw [lsS, szL, List.length_cons]; omega
theorem lsX_sz (ax : Int) : ∀ l, lsX ax l ≤ 2 * (szL l : Int)
  | [] => by simp [lsX, szL]
  | t :: l => by
    have h1 := ls_sz ax t
    have h2 := lsX_sz ax l
    rw [lsX, szL]; omega
end

/-- A tree whose cells without kids are leaves. -/
def okT (t : T) : Prop := ∀ u ∈ preT t, u.kids = [] → u.k = 1
theorem ok_kid {t u : T} {k : Nat} (h : okT t) (hu : t.kids[k]? = some u) : okT u := fun x hx => h x ((pre_sub hu).mem hx)
theorem ok_top {t : T} (h : okT t) : t.kids = [] → t.k = 1 := h t (by rw [preT_eq]; exact List.mem_cons_self ..)
theorem ok_may {t : T} (h : mayT t = true) : okT t := by
  rw [may_is (may_small h)] at h
  intro u hu he
  have hw := rmay_well h hu
  unfold wellT wellB at hw
  simp only [Bool.and_eq_true, Bool.or_eq_true, decide_eq_true_eq] at hw
  rw [he] at hw
  simp at hw
  exact hw.2.1
theorem ls_yes {ax : Int} {t : T} (h : okT t) (ha : alB t.k ax = true) : lsT ax t = lsS ax t.kids + t.kids.length - 1 := by
  rw [ls_eq, if_neg, if_pos ha]
  intro he
  have := ok_top h (by simpa using he)
  rw [this] at ha
  simp [alB] at ha
theorem ls_no {ax : Int} {t : T} (ha : alB t.k ax = false) : lsT ax t = max 1 (lsX ax t.kids) := by
  rw [ls_eq]
  cases hk : t.kids with
  | nil => simp [lsX]; rfl
  | cons u l =>
    have := lsX_pos ax (u :: l) (by simp)
    simp only [List.isEmpty_cons, Bool.false_eq_true, if_false, ha]
    omega

/-- What a tree can give. -/
def gvT (ax : Int) (t : T) : Int := szA t.r ax - lsT ax t
def gvS (ax : Int) (l : List T) : Int := (l.map (gvT ax)).sum
def szS (ax : Int) (l : List T) : Int := (l.map fun u => szA u.r ax).sum
theorem gvS_is (ax : Int) (l : List T) : gvS ax l = szS ax l - lsS ax l := by
  induction l with
  | nil => rfl
  | cons t l ih =>
    unfold gvS szS at *
    rw [List.map_cons, List.sum_cons, List.map_cons, List.sum_cons, ih, lsS]
    unfold gvT
    omega
theorem gvS_step {ax : Int} {l : List T} {k : Nat} {t : T} (h : l[k]? = some t) : gvS ax (l.take (k + 1)) = gvS ax (l.take k) + gvT ax t := by
  unfold gvS; rw [List.take_add_one, h]; simp

theorem may_rect {r : R} (h : mayB r = true) : 0 ≤ r.x ∧ 0 ≤ r.y ∧ 1 ≤ r.w ∧ 1 ≤ r.h ∧ r.x + r.w ≤ 10000 ∧ r.y + r.h ≤ 10000 := by
  have := (mayB_iff r).1 h
  omega
theorem well_rect {t : T} (h : wellT t = true) : mayB t.r = true := by
  unfold wellT wellB at h
  rw [Bool.and_eq_true] at h
  exact h.1

theorem off_sum (ms : List Int) : ∀ n : Int, ms.foldl (fun n m => n + (m + 1)) n = n + ms.sum + ms.length := by
  induction ms with
  | nil => intro n; simp
  | cons m ms ih => intro n; rw [List.foldl_cons, ih, List.sum_cons, List.length_cons]; omega
theorem off_all (ms : List Int) : offS ms ms.length = ms.sum + ms.length := by
  unfold offS; rw [List.take_length, off_sum]; omega
theorem parts_at (o : R) (tb : R → R) (ms : List Int) : ∀ (n k : Nat), k < n → (partsL o tb ms n)[k]? = some (partK o tb ms k)
  | 0, k, h => by omega
  | n + 1, k, h => by
    rw [partsL]
    rcases Nat.lt_or_ge k n with hk | hk
    · rw [List.getElem?_append_left (by rw [partsL_length]; exact hk)]
      exact parts_at o tb ms n k hk
    · obtain rfl : k = n := by omega
      rw [List.getElem?_append_right (by rw [partsL_length]; exact Nat.le_refl _), partsL_length]
      simp

/-- A row or a column that tiles: its kids' sizes. -/
theorem fit_kids {t : T} (hw : wellT t = true) (hf : fitB t = true) (hk : t.k ≠ 1) (ax : Int) (hax : ax = 1 ∨ ax = 2) :
    (alB t.k ax = true → szS ax t.kids + t.kids.length = szA t.r ax + 1) ∧ (alB t.k ax = false → ∀ (j : Nat) (u : T), t.kids[j]? = some u → szA u.r ax = szA t.r ax) := by
  have hkind := well_kind hw
  obtain h1 | ⟨⟨-, hcut⟩, hrects⟩ := (fitB_iff t).1 hf
  · exact absurd h1 hk
  · have hlen : (sizesT t).length = t.kids.length := sizes_len t
    have hat : ∀ (j : Nat) (u : T), t.kids[j]? = some u → (cutParts t.r (axT t) (sizesT t) true)[j]? = some u.r := fun j u hu => by
      rw [← hrects, List.getElem?_map, hu]; rfl
    have hlt : ∀ (j : Nat) (u : T), t.kids[j]? = some u → j < (sizesT t).length := fun j u hu => by
      rw [hlen]; exact (List.getElem?_eq_some_iff.1 hu).1
    rcases hkind with h | h | h
    · exact absurd h hk
    · have ha : axT t = 1 := by unfold axT; rw [if_neg (by omega)]
      have hs : sizesT t = wsT t := by unfold sizesT; rw [if_neg (by omega)]
      rw [ha] at hcut hat
      have hfill : fillP t.r.w (sizesT t) := by
        rcases hcut with ⟨-, h⟩ | ⟨h, -⟩
        · exact h
        · omega
      rcases hax with rfl | rfl
      · refine ⟨fun _ => ?_, fun hn => by rw [h] at hn; simp [alB] at hn⟩
        have h2 := hfill.2
        rw [off_all, hlen, hs] at h2
        exact h2
      · refine ⟨fun hn => by rw [h] at hn; simp [alB] at hn, fun _ j u hu => ?_⟩
        have h3 := hat j u hu
        rw [cutParts, if_pos rfl, parts_at _ _ _ _ _ (hlt j u hu)] at h3
        have h4 := Option.some.inj h3
        rw [← h4]; rfl
    · have ha : axT t = 2 := by unfold axT; rw [if_pos h]
      have hs : sizesT t = hsT t := by unfold sizesT; rw [if_pos h]
      rw [ha] at hcut hat
      have hfill : fillP t.r.h (sizesT t) := by
        rcases hcut with ⟨h, -⟩ | ⟨-, h⟩
        · omega
        · exact h
      rcases hax with rfl | rfl
      · refine ⟨fun hn => by rw [h] at hn; simp [alB] at hn, fun _ j u hu => ?_⟩
        have h3 := hat j u hu
        rw [cutParts, if_neg (by decide), parts_at _ _ _ _ _ (hlt j u hu)] at h3
        have h4 := Option.some.inj h3
        rw [← h4]; rfl
      · refine ⟨fun _ => ?_, fun hn => by rw [h] at hn; simp [alB] at hn⟩
        have h2 := hfill.2
        rw [off_all, hlen, hs] at h2
        exact h2

theorem leaf_ls {t : T} (hw : wellT t = true) (hk : t.k = 1) (ax : Int) : lsT ax t = 1 := by
  unfold wellT wellB at hw
  simp only [Bool.and_eq_true, Bool.or_eq_true, decide_eq_true_eq] at hw
  have hl : t.kids = [] := List.length_eq_zero_iff.1 (by omega)
  rw [ls_eq, hl]; rfl
theorem szS_ge {ax : Int} {l : List T} (h : ∀ u ∈ l, lsT ax u ≤ szA u.r ax) : lsS ax l ≤ szS ax l := by
  induction l with
  | nil => simp [lsS, szS]
  | cons t l ih =>
    have h1 := ih fun u hu => h u (List.mem_cons_of_mem _ hu)
    have h2 := h t (List.mem_cons_self ..)
    unfold szS at *
    rw [List.map_cons, List.sum_cons, lsS]
    omega
theorem lsX_le {ax s : Int} {l : List T} (h : ∀ u ∈ l, lsT ax u ≤ s) (h0 : 0 ≤ s) : lsX ax l ≤ s := by
  induction l with
  | nil => simpa [lsX] using h0
  | cons t l ih =>
    have h1 := ih fun u hu => h u (List.mem_cons_of_mem _ hu)
    have h2 := h t (List.mem_cons_self ..)
    rw [lsX]; omega
theorem szA_pos {r : R} (h : mayB r = true) {ax : Int} (hax : ax = 1 ∨ ax = 2) : 1 ≤ szA r ax ∧ 0 ≤ atA r ax ∧ atA r ax + szA r ax ≤ 10000 := by
  have := may_rect h
  rcases hax with rfl | rfl
  · show 1 ≤ r.w ∧ 0 ≤ r.x ∧ r.x + r.w ≤ 10000; omega
  · show 1 ≤ r.h ∧ 0 ≤ r.y ∧ r.y + r.h ≤ 10000; omega

/-- A tree that tiles is at least as great as its least size. -/
theorem tile_ls {ax : Int} (hax : ax = 1 ∨ ax = 2) (N : Nat) : ∀ t : T, sz t ≤ N → sz t ≤ 999 → tileB t = true → lsT ax t ≤ szA t.r ax := by
  induction N with
  | zero => intro t h; have := sz_pos t; omega
  | succ N ih =>
    intro t hN hs ht
    obtain ⟨hw, hf⟩ := tile_top hs ht
    have hr := szA_pos (well_rect hw) hax
    have hkid : ∀ u ∈ t.kids, lsT ax u ≤ szA u.r ax := fun u hu => by
      obtain ⟨j, hj⟩ := List.getElem?_of_mem hu
      have := sz_kid hj
      exact ih u (by omega) (by omega) (tile_kid hs ht hj)
    by_cases hk : t.k = 1
    · rw [leaf_ls hw hk]; omega
    · obtain ⟨f1, f2⟩ := fit_kids hw hf hk ax hax
      cases ha : alB t.k ax with
      | true =>
        rw [ls_yes (ok_may (tile_may ht)) ha]
        have h1 := f1 ha
        have h2 := szS_ge hkid
        omega
      | false =>
        rw [ls_no ha]
        have h3 := lsX_le (ax := ax) (s := szA t.r ax) (l := t.kids) (fun u hu => by
          obtain ⟨j, hj⟩ := List.getElem?_of_mem hu
          rw [← f2 ha j u hj]; exact hkid u hu) (by omega)
        omega

/-- What a tree that tiles can give: together, along its kids' own axis. -/
theorem gives_sum {ax : Int} (hax : ax = 1 ∨ ax = 2) {t : T} (hs : sz t ≤ 999) (ht : tileB t = true) (hk : t.k ≠ 1) (ha : alB t.k ax = true) : gvT ax t = gvS ax t.kids := by
  obtain ⟨hw, hf⟩ := tile_top hs ht
  have h1 := (fit_kids hw hf hk ax hax).1 ha
  rw [gvS_is, gvT, ls_yes (ok_may (tile_may ht)) ha]
  omega
/-- The least of the first ones, ahead of them 10000. -/
def mnK (ax s : Int) (l : List T) (k : Nat) : Int := if k = 0 then 10000 else s - lsX ax (l.take k)
theorem mn_zero (ax s : Int) (l : List T) : mnK ax s l 0 = 10000 := rfl
theorem mn_step {ax s : Int} {l : List T} {k : Nat} {u : T} (h : l[k]? = some u) (hs : s ≤ 10000) (hu : szA u.r ax = s) : mnK ax s l (k + 1) = min (mnK ax s l k) (gvT ax u) := by
  have hp := ls_pos ax u
  unfold mnK gvT
  rw [if_neg (by omega), lsX_step h, hu]
  by_cases hk : k = 0
  · rw [if_pos hk]
    subst hk
    simp only [List.take_zero, lsX]
    omega
  · rw [if_neg hk]
    omega
theorem gives_min {ax : Int} {t : T} (hs : sz t ≤ 999) (ht : tileB t = true) (hk : t.k ≠ 1) (ha : alB t.k ax = false) : gvT ax t = mnK ax (szA t.r ax) t.kids t.kids.length := by
  obtain ⟨hw, -⟩ := tile_top hs ht
  have hl : 2 ≤ t.kids.length := by
    unfold wellT wellB at hw
    simp only [Bool.and_eq_true, Bool.or_eq_true, decide_eq_true_eq] at hw
    omega
  have hp := lsX_pos ax t.kids (fun e => by rw [e] at hl; simp at hl)
  rw [gvT, mnK, if_neg (by omega), List.take_length, ls_no ha]
  omega
end Go.Proofs.Ytajhojbnpajelaa
