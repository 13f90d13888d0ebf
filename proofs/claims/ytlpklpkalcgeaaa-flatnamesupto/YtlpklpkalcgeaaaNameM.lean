/- Other numbers for the leaves of a tree. -/
import Derived.Test.YtlpklpkalcgeaaaFIsL
import Derived.Test.YtlpklpkalcgeaaaLeaves
namespace Go.Proofs.Ytlpklpkalcgeaaa
open Go.RowKit

mutual
def lvT : T → Nat
  | .node k _ _ l => (if k = 1 then 1 else 0) + lvL l
def lvL : List T → Nat
  | [] => 0
  | t :: l => lvT t + lvL l
end
mutual
def nmT (ms : List Int) : T → T
  | .node k r i l => .node k r (if k = 1 then ms.headD 0 else i) (nmL (ms.drop (if k = 1 then 1 else 0)) l)
def nmL (ms : List Int) : List T → List T
  | [] => []
  | t :: l => nmT ms t :: nmL (ms.drop (lvT t)) l
end
theorem lvT_eq (t : T) : lvT t = (if t.k = 1 then 1 else 0) + lvL t.kids := by cases t; rw [lvT]; rfl
theorem nmT_eq (ms : List Int) (t : T) : nmT ms t = .node t.k t.r (if t.k = 1 then ms.headD 0 else t.id) (nmL (ms.drop (if t.k = 1 then 1 else 0)) t.kids) := by cases t; rw [nmT]; rfl
theorem lvL_append (a b : List T) : lvL (a ++ b) = lvL a + lvL b := by
  induction a with
  | nil => simp [lvL]
  | cons t l ih => simp only [List.cons_append, lvL, ih]; omega
theorem lvL_step {l : List T} {k : Nat} {t : T} (h : l[k]? = some t) : lvL (l.take (k + 1)) = lvL (l.take k) + lvT t := by
  rw [List.take_add_one, h, lvL_append]; simp [lvL]
theorem lvL_take_le (l : List T) (k : Nat) : lvL (l.take k) ≤ lvL l := by
  have := lvL_append (l.take k) (l.drop k)
  rw [List.take_append_drop] at this; omega
theorem lvL_at {l : List T} {k : Nat} {t : T} (h : l[k]? = some t) : lvL (l.take k) + lvT t ≤ lvL l := by
  rw [← lvL_step h]; exact lvL_take_le l (k + 1)
theorem nmL_length (ms : List Int) (l : List T) : (nmL ms l).length = l.length := by
  induction l generalizing ms with
  | nil => simp [nmL]
  | cons t l ih => simp [nmL, ih]
theorem nmL_get (ms : List Int) (l : List T) (j : Nat) : (nmL ms l)[j]? = (l[j]?).map (fun t => nmT (ms.drop (lvL (l.take j))) t) := by
  induction l generalizing ms j with
  | nil => simp [nmL]
  | cons t l ih =>
    cases j with
    | zero => simp [nmL, lvL]
    | succ j =>
      simp only [nmL, List.getElem?_cons_succ, List.take_succ_cons, lvL]
      rw [ih, List.drop_drop]
theorem nmL_step {ms : List Int} {l : List T} {k : Nat} {t : T} (h : l[k]? = some t) : nmL ms (l.take (k + 1)) = nmL ms (l.take k) ++ [nmT (ms.drop (lvL (l.take k))) t] := by
  induction l generalizing ms k with
  | nil => simp at h
  | cons u l ih =>
    cases k with
    | zero => simp at h; subst h; simp [nmL, lvL]
    | succ k =>
      simp only [List.take_succ_cons, nmL, lvL, List.cons_append]
      rw [ih (by simpa using h), List.drop_drop]

theorem idsT_eq (t : T) : idsT t = (if t.k = 1 then [t.id] else []) ++ idsL t.kids := by
  unfold idsT idsL
  rw [preT_eq, List.filter_cons]
  by_cases h : t.k = 1
  · rw [if_pos h, if_pos (by simpa [leafB] using h)]; rfl
  · rw [if_neg h, if_neg (by simpa [leafB] using h)]; rfl
theorem idsL_cons (t : T) (l : List T) : idsL (t :: l) = idsT t ++ idsL l := by
  unfold idsT idsL
  rw [preL, List.filter_append, List.map_append]
mutual
theorem ids_len : ∀ t : T, (idsT t).length = lvT t
  | .node k r i l => by
    rw [idsT_eq, lvT_eq, List.length_append]
    show (if k = 1 then [i] else []).length + (idsL l).length = (if k = 1 then 1 else 0) + lvL l
    rw [idsL_len' l]
    split <;> rfl
theorem idsL_len' : ∀ l : List T, (idsL l).length = lvL l
  | [] => by rfl
  | t :: l => by rw [idsL_cons, lvL, List.length_append, ids_len t, idsL_len' l]
end
mutual
theorem nm_lv (ms : List Int) : ∀ t : T, lvT (nmT ms t) = lvT t
  | .node k r i l => by rw [nmT, lvT, lvT, nmL_lv _ l]
theorem nmL_lv (ms : List Int) : ∀ l : List T, lvL (nmL ms l) = lvL l
  | [] => by simp [nmL]
  | t :: l => by rw [nmL, lvL, lvL, nm_lv ms t, nmL_lv _ l]
end
mutual
theorem nm_sz (ms : List Int) : ∀ t : T, sz (nmT ms t) = sz t
  | .node k r i l => by rw [nmT, sz, sz, nmL_sz _ l]
theorem nmL_sz (ms : List Int) : ∀ l : List T, szL (nmL ms l) = szL l
  | [] => by simp [nmL]
  | t :: l => by rw [nmL, szL, szL, nm_sz ms t, nmL_sz _ l]
end
mutual
theorem nm_ids (ms : List Int) : ∀ t : T, lvT t ≤ ms.length → idsT (nmT ms t) = ms.take (lvT t)
  | .node k r i l => by
    intro h
    have ih := nmL_ids (ms.drop (if k = 1 then 1 else 0)) l
    rw [lvT] at h
    rw [nmT, idsT_eq, lvT]
    show (if k = 1 then [if k = 1 then ms.headD 0 else i] else []) ++ idsL (nmL (ms.drop (if k = 1 then 1 else 0)) l) = _
    by_cases hk : k = 1
    · simp only [hk, if_true] at h ih ⊢
      cases ms with
      | nil => simp at h
      | cons m ms =>
        simp only [List.drop_succ_cons, List.drop_zero, List.headD_cons] at ih ⊢
        rw [ih (by simp at h; omega), Nat.add_comm, List.take_succ_cons]; rfl
    · simp only [hk, if_false, List.drop_zero, List.nil_append, Nat.zero_add] at h ih ⊢
      exact ih h
theorem nmL_ids (ms : List Int) : ∀ l : List T, lvL l ≤ ms.length → idsL (nmL ms l) = ms.take (lvL l)
  | [] => by intro _; simp [nmL, lvL, idsL, preL]
  | t :: l => by
    intro h
    rw [lvL] at h
    rw [nmL, idsL_cons, nm_ids ms t (by omega), nmL_ids (ms.drop (lvT t)) l (by rw [List.length_drop]; omega), lvL, List.take_add]
end
theorem nm_ids_all {ms : List Int} {t : T} (h : ms.length = lvT t) : idsT (nmT ms t) = ms := by
  rw [nm_ids ms t (by omega), ← h, List.take_length]
mutual
theorem nm_back (ms rest : List Int) : ∀ t : T, nmT (idsT t ++ rest) (nmT ms t) = t
  | .node k r i l => by
    have ih := nmL_back (ms.drop (if k = 1 then 1 else 0)) rest l
    rw [nmT_eq]
    have e1 : (nmT ms (.node k r i l)).k = k := by rw [nmT]; rfl
    have e2 : (nmT ms (.node k r i l)).r = r := by rw [nmT]; rfl
    have e3 : (nmT ms (.node k r i l)).id = if k = 1 then ms.headD 0 else i := by rw [nmT]; rfl
    have e4 : (nmT ms (.node k r i l)).kids = nmL (ms.drop (if k = 1 then 1 else 0)) l := by rw [nmT]; rfl
    have e5 : idsT (.node k r i l) = (if k = 1 then [i] else []) ++ idsL l := idsT_eq _
    rw [e1, e2, e3, e4, e5]
    by_cases hk : k = 1
    · subst hk
      simp only [if_true, List.cons_append, List.nil_append, List.headD_cons, List.drop_succ_cons, List.drop_zero] at ih ⊢
      rw [ih]
    · simp only [hk, if_false, List.drop_zero, List.nil_append] at ih ⊢
      rw [ih]
theorem nmL_back (ms rest : List Int) : ∀ l : List T, nmL (idsL l ++ rest) (nmL ms l) = l
  | [] => by simp [nmL]
  | t :: l => by
    rw [nmL, nmL, idsL_cons, List.append_assoc, nm_back ms (idsL l ++ rest) t, nm_lv, ← ids_len t, List.drop_left, nmL_back _ rest l]
end
theorem nm_back_all (ms : List Int) (t : T) : nmT (idsT t) (nmT ms t) = t := by
  have := nm_back ms [] t
  rwa [List.append_nil] at this
theorem ids_panes (t : T) : (panesT t).map Pn.id = idsT t := by
  unfold panesT idsT; rw [List.map_map]; rfl
theorem panes_lv (t : T) : (panesT t).length = lvT t := by
  rw [← ids_len, ← ids_panes, List.length_map]
end Go.Proofs.Ytlpklpkalcgeaaa
