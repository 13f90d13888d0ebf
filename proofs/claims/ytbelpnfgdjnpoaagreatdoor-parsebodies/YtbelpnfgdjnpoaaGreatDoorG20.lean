/- Texts of this seat, 3 in one file. -/
import Derived.Test.YtbelpnfgdjnpoaaGreatDoorG18
import Derived.Test.YtbelpnfgdjnpoaaGreatDoorG19
import Derived.Test.YtbelpnfgdjnpoaaGreatDoorG06
import Derived.Test.YtbelpnfgdjnpoaaGreatDoorG09
/- What may be is small; the kids of what tiles tile. -/
namespace Go.Proofs.YtbelpnfgdjnpoaaGreatDoor
open Go.RowKit

theorem mayStep_small {s : Nat × List Int} {t : T} (h : (mayStep s t).1 = false) : (mayStep s t).2.1 = s.1 + 1 ∧ s.1 + 1 ≤ 20000 := by
  unfold mayStep at h ⊢
  split at h
  · cases h
  · rename_i hn
    rw [if_neg hn]
    constructor
    · split <;> rfl
    · omega
mutual
theorem go_small (s : Nat × List Int) : ∀ t, (goT mayStep s t).1 = false → (goT mayStep s t).2.1 = s.1 + sz t ∧ s.1 + sz t ≤ 20000
  | .node k r i l => by
    intro h
    rw [goT] at h ⊢
    rw [sz]
    by_cases hf : (mayStep s (.node k r i l)).1 = true
    · rw [if_pos hf, hf] at h; cases h
    · rw [if_neg hf] at h ⊢
      obtain ⟨h1, h2⟩ := mayStep_small (s := s) (t := .node k r i l) (by simpa using hf)
      have h3 := goL_small (mayStep s (.node k r i l)).2 l h (by omega)
      omega
theorem goL_small (s : Nat × List Int) : ∀ l, (goL mayStep s l).1 = false → s.1 ≤ 20000 → (goL mayStep s l).2.1 = s.1 + szL l ∧ s.1 + szL l ≤ 20000
  | [] => by
    intro _ hs
    rw [goL, szL]
    exact ⟨rfl, hs⟩
  | t :: l => by
    intro h hs
    rw [goL] at h ⊢
    rw [szL]
    by_cases hf : (goT mayStep s t).1 = true
    · rw [if_pos hf, hf] at h; cases h
    · rw [if_neg hf] at h ⊢
      have h1 := go_small s t (by simpa using hf)
      have h3 := goL_small (goT mayStep s t).2 l h (by omega)
      omega
end
theorem may_small {t : T} (h : mayT t = true) : sz t ≤ 20000 := by
  unfold mayT at h
  have := go_small (0, []) t (by simpa using h)
  simp only at this
  omega
theorem tile_may {t : T} (h : tileB t = true) : mayT t = true := by
  unfold tileB at h
  rw [Bool.and_eq_true] at h
  exact h.1
theorem pre_cut {l : List T} {k : Nat} {u : T} (h : l[k]? = some u) : preL l = preL (l.take k) ++ preT u ++ preL (l.drop (k + 1)) := by
  conv => lhs; rw [← List.take_append_drop (k + 1) l]
  rw [preL_append, preL_step h]
theorem pre_sub {t u : T} {k : Nat} (h : t.kids[k]? = some u) : List.Sublist (preT u) (preT t) := by
  rw [preT_eq t, pre_cut h]
  refine List.Sublist.cons _ ?_
  rw [List.append_assoc]
  exact (List.sublist_append_left _ _).trans (List.sublist_append_right _ _)
theorem tile_kid {t u : T} {k : Nat} (hs : sz t ≤ 20000) (ht : tileB t = true) (h : t.kids[k]? = some u) : tileB u = true := by
  have hu : sz u < sz t := sz_kid h
  have hsub := pre_sub h
  unfold tileB at ht ⊢
  rw [may_is (by omega)] at ht ⊢
  unfold rmayT at ht ⊢
  simp only [Bool.and_eq_true, decide_eq_true_eq] at ht ⊢
  obtain ⟨⟨h1, h2⟩, h3⟩ := ht
  refine ⟨⟨?_, ?_⟩, ?_⟩
  · rw [List.all_eq_true] at h1 ⊢
    exact fun x hx => h1 x (hsub.mem hx)
  · exact ((hsub.filter leafB).map T.id).nodup h2
  · rw [List.all_eq_true] at h3 ⊢
    exact fun x hx => h3 x (hsub.mem hx)
theorem tile_top {t : T} (hs : sz t ≤ 20000) (ht : tileB t = true) : wellT t = true ∧ fitB t = true := by
  unfold tileB at ht
  rw [may_is (by omega)] at ht
  unfold rmayT at ht
  simp only [Bool.and_eq_true] at ht
  have hm : t ∈ preT t := by rw [preT_eq]; exact List.mem_cons_self ..
  exact ⟨List.all_eq_true.1 ht.1.1 t hm, List.all_eq_true.1 ht.2 t hm⟩
end Go.Proofs.YtbelpnfgdjnpoaaGreatDoor
/- What tiles has a text of its own. -/
namespace Go.Proofs.YtbelpnfgdjnpoaaGreatDoor
open Go.RowKit

theorem ok_rect {r : R} (h : mayB r = true) : okR r := by
  unfold mayB extB at h
  simp only [Bool.and_eq_true, decide_eq_true_eq] at h
  unfold okR okN
  omega
theorem ok_tile (N : Nat) : ∀ t : T, sz t ≤ N → sz t ≤ 20000 → tileB t = true → OkB t := by
  induction N with
  | zero => intro t h; have := sz_pos t; omega
  | succ N ih =>
    intro t hN hs ht
    have hw := (tile_top hs ht).1
    have hkid : ∀ u ∈ t.kids, OkB u := fun u hu => by
      obtain ⟨k, hk⟩ := List.getElem?_of_mem hu
      have := sz_kid hk
      exact ih u (by omega) (by omega) (tile_kid hs ht hk)
    unfold wellT wellB at hw
    simp only [Bool.and_eq_true, Bool.or_eq_true, decide_eq_true_eq] at hw
    obtain ⟨k, r, i, l⟩ := t
    simp only [T.k, T.r, T.id, T.kids] at hw hkid
    obtain ⟨h1, ⟨rfl, h3, h4⟩ | ⟨h2, rfl, h4⟩⟩ := hw
    · obtain rfl := List.eq_nil_of_length_eq_zero h4
      exact .leaf r i (ok_rect h1) ⟨h3.1, h3.2⟩
    · exact .kids k r l h2 (ok_rect h1) h4 hkid
theorem text_inj {t u : T} (hs : sz t ≤ 20000) (hs' : sz u ≤ 20000) (ht : tileB t = true) (hu : tileB u = true) (h : Sash.Sum.putL (bodyT t) = Sash.Sum.putL (bodyT u)) : t = u :=
  body_inj (ok_tile _ t (Nat.le_refl _) hs ht) (ok_tile _ u (Nat.le_refl _) hs' hu) (putL_inj h)
theorem body_ne (t : T) : bodyT t ≠ [] := by
  rw [bodyT_eq]
  unfold headL
  simp
end Go.Proofs.YtbelpnfgdjnpoaaGreatDoor
/- How deep reading goes; how long a body is at least; columns in columns, and that they tile. No walk. -/
namespace Go.Proofs.YtbelpnfgdjnpoaaGreatDoor
open Sash.Num

theorem dpL_le {l : List T} {n : Nat} (h : ∀ t ∈ l, dpT t ≤ n) : dpL l ≤ n := by
  induction l with
  | nil => rw [dpL]; omega
  | cons t l ih =>
    rw [dpL]
    have h1 := h t (List.mem_cons_self ..)
    have h2 := ih fun u hu => h u (List.mem_cons_of_mem _ hu)
    omega
/-- What is read is at most so deep. -/
def DeepR : St → PR → Prop
  | .cell _ deep, .ok l _ => ∀ t ∈ l, deep ≤ 1000 → deep + dpT t ≤ 1001
  | .kids _ deep _ acc, .ok l _ => ∀ t ∈ l, t ∈ acc ∨ (deep ≤ 1000 → deep + dpT t ≤ 1001)
  | _, .bad _ _ => True
theorem Rd.deep {s : List UInt8} {st : St} {o : PR} (h : Rd s st o) : DeepR st o := by
  induction h with
  | headBad => exact trivial
  | form => exact trivial
  | idBad => exact trivial
  | leaf =>
    intro t ht hd
    rw [List.mem_singleton] at ht
    subst ht
    rw [dpT, dpL]; omega
  | long => exact trivial
  | kidsBad => exact trivial
  | @kids a deep r b k c l x h h1 h2 _ ih =>
    intro t ht hd
    rw [List.mem_singleton] at ht
    subst ht
    have : dpL l ≤ 1000 - deep := dpL_le fun u hu => by
      rcases ih u hu with h | h
      · simp at h
      · have := h (by omega); omega
    rw [dpT]; omega
  | done => exact fun t ht => .inl ht
  | comma => exact trivial
  | kidBad => exact trivial
  | @kid a deep c acc t b o h h1 _ _ ih ih2 =>
    cases o with
    | bad e x => exact trivial
    | ok l x =>
      intro u hu
      rcases ih2 u hu with h | h
      · rcases List.mem_append.1 h with h | h
        · exact .inl h
        · rw [List.mem_singleton] at h
          subst h
          exact .inr (ih u (List.mem_singleton.2 rfl))
      · exact .inr h

theorem dig_pos {n : Int} (h : okN n) : 1 ≤ (dig n).length := by
  rw [dig_is h]
  exact Nat.pos_of_ne_zero fun e => dec_ne _ (List.eq_nil_of_length_eq_zero e)
theorem head_ge {r : R} (h : okR r) : 7 ≤ (headL r).length := by
  obtain ⟨h1, h2, h3, h4⟩ := h
  have := dig_pos h1
  have := dig_pos h2
  have := dig_pos h3
  have := dig_pos h4
  simp only [headL, List.length_append, List.length_cons]; omega
theorem rest_ge : ∀ l : List T, (∀ t ∈ l, 9 * sz t ≤ (bodyT t).length) → 9 * szL l ≤ (bodyR l).length
  | [], _ => by simp [szL]
  | t :: l, h => by
    have h1 := h t (List.mem_cons_self ..)
    have h2 := rest_ge l fun u hu => h u (List.mem_cons_of_mem _ hu)
    rw [szL, bodyR]
    simp; omega
theorem kids_ge (l : List T) (h : ∀ t ∈ l, 9 * sz t ≤ (bodyT t).length) : 9 * szL l ≤ (bodyK l).length := by
  cases l with
  | nil => simp [szL]
  | cons t l =>
    have h1 := h t (List.mem_cons_self ..)
    have h2 := rest_ge l fun u hu => h u (List.mem_cons_of_mem _ hu)
    rw [szL, bodyK]
    simp; omega
theorem body_ge {t : T} (h : OkB t) : 9 * sz t ≤ (bodyT t).length := by
  induction h with
  | leaf r i hr hi =>
    have h1 := head_ge hr
    have h2 := dig_pos hi
    rw [bodyT, sz, szL, if_pos rfl]
    simp; omega
  | kids k r l hk hr two each ih =>
    have h1 := head_ge hr
    have h2 := kids_ge l ih
    rw [bodyT, sz]
    rcases hk with rfl | rfl
    · rw [if_neg (by decide), if_pos rfl]
      simp; omega
    · rw [if_neg (by decide), if_neg (by decide)]
      simp; omega

/-- Columns in columns: the tree that is so many of them in the last so many. -/
def dT (n : Nat) : Nat → T
  | 0 => .node 1 ⟨0, 0, 1, 1⟩ 0 []
  | m + 1 => .node 3 ⟨0, 0, 1, 2 * (m : Int) + 3⟩ 0 [dT n m, .node 1 ⟨0, 2 * (m : Int) + 2, 1, 1⟩ ((n : Int) - m) []]
theorem dT_r (n m : Nat) : (dT n m).r = ⟨0, 0, 1, 2 * (m : Int) + 1⟩ := by
  cases m with
  | zero => rfl
  | succ m =>
    have e : 2 * ((m + 1 : Nat) : Int) + 1 = 2 * (m : Int) + 3 := by omega
    rw [e]; rfl
theorem dT_sz (n m : Nat) : sz (dT n m) = 2 * m + 1 := by
  induction m with
  | zero => simp [dT, sz, szL]
  | succ m ih => simp only [dT, sz, szL, ih]; omega
theorem dT_dp (n m : Nat) : dpT (dT n m) = m + 1 := by
  induction m with
  | zero => simp [dT, dpT, dpL]
  | succ m ih => simp only [dT, dpT, dpL, ih]; omega
theorem okR_of {x y w h : Int} (h1 : 0 ≤ x ∧ x ≤ 2147483647) (h2 : 0 ≤ y ∧ y ≤ 2147483647) (h3 : 0 ≤ w ∧ w ≤ 2147483647) (h4 : 0 ≤ h ∧ h ≤ 2147483647) : okR ⟨x, y, w, h⟩ := ⟨h1, h2, h3, h4⟩
theorem dT_ok (n m : Nat) (hn : n ≤ 1100) (hm : m ≤ n) : OkB (dT n m) := by
  induction m with
  | zero => exact .leaf _ _ (okR_of (by omega) (by omega) (by omega) (by omega)) ⟨by omega, by omega⟩
  | succ m ih =>
    refine .kids 3 _ _ (.inr rfl) (okR_of (by omega) (by omega) (by omega) (by omega)) (by simp) fun t ht => ?_
    simp only [List.mem_cons, List.not_mem_nil, or_false] at ht
    rcases ht with rfl | rfl
    · exact ih (by omega)
    · exact .leaf _ _ (okR_of (by omega) (by omega) (by omega) (by omega)) ⟨by omega, by omega⟩
theorem dT_fit (n m : Nat) (hm : m ≤ 1100) : ∀ u ∈ preT (dT n m), fitB u = true := by
  induction m with
  | zero =>
    intro u hu
    simp only [dT, preT, preL, List.mem_singleton] at hu
    subst hu
    exact (fitB_iff _).2 (.inl rfl)
  | succ m ih =>
    intro u hu
    rw [dT, preT] at hu
    rcases List.mem_cons.1 hu with rfl | hu
    · refine (fitB_iff _).2 (.inr ?_)
      have hax : axT (.node 3 ⟨0, 0, 1, 2 * (m : Int) + 3⟩ 0 [dT n m, .node 1 ⟨0, 2 * (m : Int) + 2, 1, 1⟩ ((n : Int) - m) []]) = 2 := rfl
      have hsz : sizesT (.node 3 ⟨0, 0, 1, 2 * (m : Int) + 3⟩ 0 [dT n m, .node 1 ⟨0, 2 * (m : Int) + 2, 1, 1⟩ ((n : Int) - m) []]) = [2 * (m : Int) + 1, 1] := by
        show [(dT n m).r.h, (1 : Int)] = _
        rw [dT_r]
      rw [hax, hsz]
      refine ⟨⟨?_, .inr ⟨rfl, ?_, ?_⟩⟩, ?_⟩
      · simp [mayB, extB, T.r]; omega
      · intro k x hk hx
        match k, hk with
        | 0, _ => simp at hx; subst hx; simp [offS, T.r]; omega
        | 1, _ => simp at hx; subst hx; simp [offS, T.r]; omega
      · simp [offS, T.r]; omega
      · show [(dT n m).r, (⟨0, 2 * (m : Int) + 2, 1, 1⟩ : R)] = cutParts ⟨0, 0, 1, 2 * (m : Int) + 3⟩ 2 [2 * (m : Int) + 1, 1] true
        rw [dT_r]
        have e : 0 + (0 + (2 * (m : Int) + 1 + 1)) = 2 * (m : Int) + 2 := by omega
        simp [cutParts, partsL, partK, turnR, offS]
        omega
    · rw [preL, preL, preL, List.append_nil] at hu
      rcases List.mem_append.1 hu with hu | hu
      · exact ih (by omega) u hu
      · simp only [preT, preL, List.mem_singleton] at hu
        subst hu
        exact (fitB_iff _).2 (.inl rfl)
theorem dT_well (n m : Nat) (hn : n ≤ 1100) (hm : m ≤ n) : ∀ u ∈ preT (dT n m), wellT u = true := by
  induction m with
  | zero =>
    intro u hu
    simp only [dT, preT, preL, List.mem_singleton] at hu
    subst hu
    decide
  | succ m ih =>
    intro u hu
    rw [dT, preT] at hu
    rcases List.mem_cons.1 hu with rfl | hu
    · simp [wellT, wellB, mayB, extB, T.k, T.r, T.id, T.kids]; omega
    · rw [preL, preL, preL, List.append_nil] at hu
      rcases List.mem_append.1 hu with hu | hu
      · exact ih (by omega) u hu
      · simp only [preT, preL, List.mem_singleton] at hu
        subst hu
        simp [wellT, wellB, mayB, extB, T.k, T.r, T.id, T.kids]; omega
theorem dT_ids (n m : Nat) : ((preT (dT n m)).filter leafB).map T.id = 0 :: (List.range m).map fun j : Nat => (n : Int) - (j : Int) := by
  induction m with
  | zero => simp [dT, preT, preL, leafB, T.k, T.id]
  | succ m ih =>
    rw [dT, preT, preL, preL, preL, List.append_nil, List.filter_cons, if_neg (by simp [leafB, T.k]), List.filter_append, List.map_append, ih, List.range_succ, List.map_append]
    simp [preT, preL, leafB, T.k, T.id]
theorem dT_nodup (n m : Nat) (hm : m ≤ n) : (((preT (dT n m)).filter leafB).map T.id).Nodup := by
  rw [dT_ids, List.nodup_cons]
  constructor
  · intro h
    obtain ⟨j, hj, he⟩ := List.mem_map.1 h
    rw [List.mem_range] at hj
    omega
  · refine List.Pairwise.map _ (fun a b (hab : a ≠ b) => ?_) List.nodup_range
    omega
theorem dT_tile (n m : Nat) (hn : n ≤ 1100) (hm : m ≤ n) : tileB (dT n m) = true := by
  unfold tileB
  rw [may_is (by rw [dT_sz]; omega)]
  unfold rmayT
  rw [Bool.and_eq_true, Bool.and_eq_true, List.all_eq_true, List.all_eq_true, decide_eq_true_eq]
  exact ⟨⟨dT_well n m hn hm, dT_nodup n m hm⟩, dT_fit n m (by omega)⟩
/-- The columns that are open, and shut, when so many of n are told. -/
def dOpen (n : Nat) : Nat → List UInt8
  | 0 => []
  | i + 1 => dOpen n i ++ (headL ⟨0, 0, 1, 2 * ((n : Int) - i) + 1⟩ ++ [91])
def dShut (n : Nat) : Nat → List UInt8
  | 0 => []
  | i + 1 => (44 :: (headL ⟨0, 2 * ((n : Int) - i), 1, 1⟩ ++ 44 :: (dig ((i : Int) + 1) ++ [93]))) ++ dShut n i
theorem dT_told (n i : Nat) (hi : i ≤ n) : bodyT (dT n n) = dOpen n i ++ bodyT (dT n (n - i)) ++ dShut n i := by
  induction i with
  | zero => simp [dOpen, dShut]
  | succ i ih =>
    rw [ih (by omega)]
    obtain ⟨m, hm⟩ : ∃ m, n - i = m + 1 := ⟨n - i - 1, by omega⟩
    have hm2 : n - (i + 1) = m := by omega
    rw [hm, hm2, dT, bodyT, if_neg (by decide), if_neg (by decide), bodyK, bodyR, bodyR, bodyT, if_pos rfl, dOpen, dShut]
    have e1 : 2 * (m : Int) + 3 = 2 * ((n : Int) - i) + 1 := by omega
    have e2 : 2 * (m : Int) + 2 = 2 * ((n : Int) - i) := by omega
    have e3 : (n : Int) - m = (i : Int) + 1 := by omega
    rw [e1, e2, e3]
    simp
theorem dT_whole (n : Nat) : bodyT (dT n n) = dOpen n n ++ [49, 120, 49, 44, 48, 44, 48, 44, 48] ++ dShut n n := by
  rw [dT_told n n (Nat.le_refl _), Nat.sub_self]
  have e : bodyT (dT n 0) = [49, 120, 49, 44, 48, 44, 48, 44, 48] := by
    show bodyT (.node 1 ⟨0, 0, 1, 1⟩ 0 []) = _
    decide +kernel
  rw [e]
/-- Columns in columns are read to the limit, and no deeper. -/
theorem dT_read (n : Nat) (hn : n ≤ 999) : Rd (bodyT (dT n n)) (.cell 0 1) (.ok [dT n n] (bodyT (dT n n)).length) :=
  read_body (dT_ok n n (by omega) (Nat.le_refl _)) (by rw [dT_dp]; omega)
theorem dT_not {n : Nat} (h1 : 1000 ≤ n) (h2 : n ≤ 1100) {l : List T} (h : Rd (bodyT (dT n n)) (.cell 0 1) (.ok l (bodyT (dT n n)).length)) : False := by
  have hd := h.deep
  obtain ⟨t, rfl, hok, he⟩ := body_read h
  have := body_inj (dT_ok n n h2 (Nat.le_refl _)) hok he
  subst this
  have := hd _ (List.mem_singleton.2 rfl) (by decide)
  rw [dT_dp] at this
  omega
end Go.Proofs.YtbelpnfgdjnpoaaGreatDoor
