/- Trees in memory of the call's own: which blocks they are made of. -/
import Derived.Test.YtcmkhppkdbdfdaaBoxes
import Derived.Test.YtcmkhppkdbdfdaaOwnC
namespace Go.Proofs.Ytcmkhppkdbdfdaa
open Go.RowKit

def blk (v : Value) : List Nat := match v.ownBlock with | some g => [g] | none => []

/-- A tree all of whose rows are the call's own; S: their blocks. -/
inductive OwnT (w : World) (base : Nat) : C → T → List Nat → Prop
  | mk (c : C) (kids : List T) (cs : List C) (Ss : List (List Nat)) (fine : c.fine) (row : OwnC w base (.slice c.a c.n c.cap) cs) (len : cs.length = kids.length) (slen : Ss.length = kids.length)
      (each : ∀ (j : Nat) (x : C) (t : T) (S : List Nat), cs[j]? = some x → kids[j]? = some t → Ss[j]? = some S → OwnT w base x t S) : OwnT w base c (.node c.k c.r c.id kids) (blk (.slice c.a c.n c.cap) ++ Ss.flatten)

theorem OwnT.is {w : World} {base : Nat} {c : C} {t : T} {S : List Nat} (h : OwnT w base c t S) : Is w c t := by
  induction h with
  | mk c kids cs Ss fine row len slen each ih =>
    refine .mk c kids cs row.row len fine fun j x t hx ht => ?_
    have hj : j < Ss.length := by rw [slen]; exact (List.getElem?_eq_some_iff.1 ht).1
    exact ih j x t _ hx ht (List.getElem?_eq_getElem hj)
theorem own_block {w : World} {base : Nat} {v : Value} {l : List C} (h : OwnC w base v l) {g : Nat} (hg : v.ownBlock = some g) : base ≤ g ∧ g < w.heap.size := h.lt g hg
theorem mem_flat {Ss : List (List Nat)} {k : Nat} : k ∈ Ss.flatten ↔ ∃ (j : Nat) (S : List Nat), Ss[j]? = some S ∧ k ∈ S := by
  rw [List.mem_flatten]
  constructor
  · rintro ⟨S, hS, hk⟩
    obtain ⟨j, hj, rfl⟩ := List.getElem_of_mem hS
    exact ⟨j, _, List.getElem?_eq_getElem hj, hk⟩
  · rintro ⟨j, S, hS, hk⟩
    exact ⟨S, List.mem_of_getElem? hS, hk⟩
theorem OwnT.ge {w : World} {base : Nat} {c : C} {t : T} {S : List Nat} (h : OwnT w base c t S) : ∀ k ∈ S, base ≤ k ∧ k < w.heap.size := by
  induction h with
  | mk c kids cs Ss fine row len slen each ih =>
    intro k hk
    rcases List.mem_append.1 hk with hk | hk
    · unfold blk at hk
      split at hk
      · rename_i g hg
        simp at hk; subst hk
        exact own_block row hg
      · cases hk
    · obtain ⟨j, S, hS, hkS⟩ := mem_flat.1 hk
      have hj : j < kids.length := by rw [← slen]; exact (List.getElem?_eq_some_iff.1 hS).1
      exact ih j _ _ S (List.getElem?_eq_getElem (by rw [len]; exact hj)) (List.getElem?_eq_getElem hj) hS k hkS
theorem ownC_kept {w w' : World} {base : Nat} {v : Value} {l : List C} (h : OwnC w base v l) (hk : ∀ g, v.ownBlock = some g → w'.heap[g]? = w.heap[g]?) : OwnC w' base v l := by
  refine ⟨h.1, ?_⟩
  rcases h.2 with hn | ⟨g, cap, cur, rfl, hg0, hg, rest⟩
  · exact .inl hn
  · exact .inr ⟨g, cap, cur, rfl, hg0, (hk g rfl).trans hg, rest⟩
theorem OwnT.frame {w w' : World} {base : Nat} {c : C} {t : T} {S : List Nat} (h : OwnT w base c t S) (hk : ∀ k ∈ S, w'.heap[k]? = w.heap[k]?) : OwnT w' base c t S := by
  induction h with
  | mk c kids cs Ss fine row len slen each ih =>
    refine .mk c kids cs Ss fine (ownC_kept row fun g hg => hk g (List.mem_append_left _ (by unfold blk; rw [hg]; simp))) len slen fun j x t S hx ht hS => ?_
    exact ih j x t S hx ht hS fun k hkS => hk k (List.mem_append_right _ (mem_flat.2 ⟨j, S, hS, hkS⟩))
theorem OwnT.up {w w' : World} {base : Nat} {c : C} {t : T} {S : List Nat} (h : OwnT w base c t S) (hb : Below w.heap.size w w') : OwnT w' base c t S := h.frame fun k hk => hb.block k (h.ge k hk).2
theorem OwnT.lower {w : World} {base base' : Nat} {c : C} {t : T} {S : List Nat} (h : OwnT w base c t S) (hb : base' ≤ base) : OwnT w base' c t S := by
  induction h with
  | mk c kids cs Ss fine row len slen each ih => exact .mk c kids cs Ss fine (row.lower hb) len slen ih

/-- Trees of the call's own, in a row of its own; no block is used twice. -/
structure Forest (w : World) (base : Nat) (v : Value) (cs : List C) (l : List T) (Ss : List (List Nat)) : Prop where
  row : OwnC w base v cs
  len : cs.length = l.length
  slen : Ss.length = l.length
  each : ∀ (j : Nat) (x : C) (t : T) (S : List Nat), cs[j]? = some x → l[j]? = some t → Ss[j]? = some S → OwnT w base x t S
  nodup : Ss.flatten.Nodup
  apart : ∀ g, v.ownBlock = some g → g ∉ Ss.flatten
theorem Forest.nil (w : World) (base : Nat) : Forest w base (.slice none 0 0) [] [] [] := ⟨OwnC.nil w base, rfl, rfl, fun j x t S hx => by simp at hx, List.nodup_nil, fun g hg => by cases hg⟩
theorem Forest.ge {w : World} {base : Nat} {v : Value} {cs : List C} {l : List T} {Ss : List (List Nat)} (h : Forest w base v cs l Ss) : ∀ k ∈ Ss.flatten, base ≤ k ∧ k < w.heap.size := fun k hk => by
  obtain ⟨j, S, hS, hkS⟩ := mem_flat.1 hk
  have hj : j < l.length := by rw [← h.slen]; exact (List.getElem?_eq_some_iff.1 hS).1
  exact (h.each j _ _ S (List.getElem?_eq_getElem (by rw [h.len]; exact hj)) (List.getElem?_eq_getElem hj) hS).ge k hkS
theorem Forest.frame {w w' : World} {base : Nat} {v : Value} {cs : List C} {l : List T} {Ss : List (List Nat)} (h : Forest w base v cs l Ss) (hb : Below w.heap.size w w') : Forest w' base v cs l Ss :=
  ⟨h.row.up hb, h.len, h.slen, fun j x t S hx ht hS => (h.each j x t S hx ht hS).up hb, h.nodup, h.apart⟩

theorem snoc_get {α : Type} {l : List α} {y x : α} {j : Nat} (h : (l ++ [y])[j]? = some x) : (j < l.length ∧ l[j]? = some x) ∨ (j = l.length ∧ x = y) := by
  rcases Nat.lt_trichotomy j l.length with hj | hj | hj
  · rw [List.getElem?_append_left hj] at h; exact .inl ⟨hj, h⟩
  · subst hj; simp at h; exact .inr ⟨rfl, h.symm⟩
  · rw [List.getElem?_eq_none (by simp; omega)] at h; cases h

/-- One more. -/
theorem Forest.add {wr w2 w3 : World} {o : Obj} {base b2 : Nat} {v : Value} {cs : List C} {l : List T} {Ss : List (List Nat)} {d : C} {u : T} {S2 : List Nat} {g cap : Nat}
    (h : Forest wr base v cs l Ss) (hb : Below wr.heap.size wr w2) (hd : OwnT w2 b2 d u S2) (hS2 : S2.Nodup) (hb2 : wr.heap.size ≤ b2) (hbb : base ≤ b2)
    (hown : OwnC w3 base (.slice (some ⟨g, 0, none⟩) (cs ++ [d]).length cap) (cs ++ [d])) (hgr : (w2.alloc o).grownBy w3 v.ownBlock) (hpl : v.ownBlock = some g ∨ g = (w2.alloc o).heap.size) :
    Forest w3 base (.slice (some ⟨g, 0, none⟩) (cs ++ [d]).length cap) (cs ++ [d]) (l ++ [u]) (Ss ++ [S2]) := by
  have hsame : ∀ k, k < w2.heap.size → v.ownBlock ≠ some k → w3.heap[k]? = w2.heap[k]? := fun k hk hne => by
    rw [hgr.block k (by simp; omega) (fun e => hne e.symm)]
    exact ((Below.refl w2.heap.size w2).alloc (Nat.le_refl _) o).block k hk
  have hvb : ∀ k, v.ownBlock = some k → k < wr.heap.size := fun k hk => (own_block h.row hk).2
  have hold : ∀ k ∈ Ss.flatten, w3.heap[k]? = wr.heap[k]? := fun k hk => by
    have h1 := (h.ge k hk).2
    rw [hsame k (Nat.lt_of_lt_of_le h1 hb.size) (fun e => h.apart k e hk), hb.block k h1]
  have hnew : ∀ k ∈ S2, w3.heap[k]? = w2.heap[k]? := fun k hk => by
    have h1 := hd.ge k hk
    exact hsame k h1.2 fun e => by have := hvb k e; omega
  refine ⟨hown, by simp [h.len], by simp [h.slen], fun j x t S hx ht hS => ?_, ?_, fun k hk => ?_⟩
  · rcases snoc_get hx with ⟨hj, hx'⟩ | ⟨hj, rfl⟩
    · rcases snoc_get ht with ⟨_, ht'⟩ | ⟨hj', _⟩
      · rcases snoc_get hS with ⟨_, hS'⟩ | ⟨hj', _⟩
        · exact (h.each j x t S hx' ht' hS').frame fun k hk => hold k (mem_flat.2 ⟨j, S, hS', hk⟩)
        · rw [h.slen, ← h.len] at hj'; omega
      · rw [← h.len] at hj'; omega
    · rcases snoc_get ht with ⟨hj', _⟩ | ⟨_, rfl⟩
      · rw [← h.len] at hj'; omega
      · rcases snoc_get hS with ⟨hj', _⟩ | ⟨_, rfl⟩
        · rw [h.slen, ← h.len] at hj'; omega
        · exact (hd.lower hbb).frame hnew
  · rw [List.flatten_append]
    simp only [List.flatten_cons, List.flatten_nil, List.append_nil]
    rw [List.nodup_append]
    refine ⟨h.nodup, hS2, fun a ha b hb' e => ?_⟩
    subst e
    have h1 := (h.ge a ha).2
    have h2 := (hd.ge a hb').1
    omega
  · have hk' : g = k := by simpa [Value.ownBlock] using hk
    subst hk'
    rw [List.flatten_append, List.mem_append]
    simp only [List.flatten_cons, List.flatten_nil, List.append_nil]
    rintro (hm | hm)
    · rcases hpl with hp | hp
      · exact h.apart g hp hm
      · have h1 := (h.ge g hm).2; have := hb.size; simp at hp; omega
    · have h2 := hd.ge g hm
      rcases hpl with hp | hp
      · have := hvb g hp; omega
      · simp at hp; omega
end Go.Proofs.Ytcmkhppkdbdfdaa
