/- Texts of this seat, 3 in one file. -/
import Derived.Test.YtakofjbjciljjaaG06
import Derived.Test.YtakofjbjciljjaaG02
import Derived.Laws.ResultCell
import Derived.Deep.RegionHeld3
import Derived.Test.YtakofjbjciljjaaG04
import Derived.Test.YtakofjbjciljjaaG09
/- Boxes of cells that are written into; the cell at a path. -/
namespace Go.Proofs.Ytakofjbjciljjaa
open Go.RowKit

theorem trow_one {w : World} {c : C} {t : T} (h : Is w c t) : TRow (w.alloc (cbox c)) (.slice (some ⟨w.heap.size, 0, none⟩) 1 1) [t] := by
  refine ⟨[c], .inr ⟨w.heap.size, 0, 1, rfl, fun j x hx => ?_⟩, rfl, fun j x u hx hu => ?_⟩
  · cases j with
    | zero => simp at hx; subst hx; simpa using cbox_new w c
    | succ j => simp at hx
  · cases j with
    | zero => simp at hx hu; subst hx; subst hu; exact h.up ((Below.refl _ _).alloc (Nat.le_refl _) _)
    | succ j => simp at hx

abbrev zeroBox : Obj := .cells #[.int .u8 0, .int .i64 0, .int .i64 0, .int .i64 0, .int .i64 0, .int .i64 0, .slice none 0 0] 26
def Zero7 (w : World) (b : Nat) : Prop := w.heap[b]? = some zeroBox
theorem zero_up {w w' : World} {b : Nat} (h : Zero7 w b) (hb : Below w.heap.size w w') : Zero7 w' b := (hb.block b (lt_of_block h)).trans h
theorem zero_new (w : World) : Zero7 (w.alloc zeroBox) w.heap.size := heap_alloc_new w _
theorem zero_parts {w : World} {b : Nat} (h : Zero7 w b) : (w.cell? ⟨b, 0, none⟩ = some (.int .u8 0) ∧ w.cell? ⟨b, 1, none⟩ = some (.int .i64 0) ∧ w.cell? ⟨b, 2, none⟩ = some (.int .i64 0) ∧ w.cell? ⟨b, 3, none⟩ = some (.int .i64 0) ∧ w.cell? ⟨b, 4, none⟩ = some (.int .i64 0) ∧ w.cell? ⟨b, 5, none⟩ = some (.int .i64 0) ∧ w.cell? ⟨b, 6, none⟩ = some (.slice none 0 0)) ∧
    (w.frozen? ⟨b, 0, none⟩ = false ∧ w.frozen? ⟨b, 1, none⟩ = false ∧ w.frozen? ⟨b, 2, none⟩ = false ∧ w.frozen? ⟨b, 3, none⟩ = false ∧ w.frozen? ⟨b, 4, none⟩ = false ∧ w.frozen? ⟨b, 5, none⟩ = false ∧ w.frozen? ⟨b, 6, none⟩ = false) := by
  have h' : w.heap[b]? = some zeroBox := h
  refine ⟨⟨?_, ?_, ?_, ?_, ?_, ?_, ?_⟩, ?_, ?_, ?_, ?_, ?_, ?_, ?_⟩ <;> simp [World.cell?, World.frozen?, h']

abbrev put7 (w : World) (b : Nat) (c : C) : World := ((((((w.setCell ⟨b, 0, none⟩ (.int .u8 c.k)).setCell ⟨b, 1, none⟩ (.int .i64 c.r.x)).setCell ⟨b, 2, none⟩ (.int .i64 c.r.y)).setCell ⟨b, 3, none⟩ (.int .i64 c.r.w)).setCell ⟨b, 4, none⟩ (.int .i64 c.r.h)).setCell ⟨b, 5, none⟩ (.int .i64 c.id)).setCell ⟨b, 6, none⟩ (.slice c.a c.n c.cap)
theorem heap_put7 {w : World} {b k : Nat} {c : C} (h : k ≠ b) : (put7 w b c).heap[k]? = w.heap[k]? := by
  unfold put7
  rw [Below.heap_setCell _ ⟨b, 6, none⟩ _ k h, Below.heap_setCell _ ⟨b, 5, none⟩ _ k h, Below.heap_setCell _ ⟨b, 4, none⟩ _ k h, Below.heap_setCell _ ⟨b, 3, none⟩ _ k h, Below.heap_setCell _ ⟨b, 2, none⟩ _ k h, Below.heap_setCell _ ⟨b, 1, none⟩ _ k h, Below.heap_setCell _ ⟨b, 0, none⟩ _ k h]
theorem cat_put7 {w : World} {b : Nat} {c0 : C} (c : C) (h : CAt w b 0 c0) : CAt (put7 w b c) b 0 c := by
  have ne : ∀ i j : Nat, i ≠ j → (⟨b, i, none⟩ : Addr) ≠ ⟨b, j, none⟩ := fun i j hij he => hij (congrArg Addr.off he)
  obtain ⟨h0, h1, h2, h3, h4, h5, h6⟩ := h
  simp only [Nat.zero_add] at h1 h2 h3 h4 h5 h6
  refine ⟨?_, ?_, ?_, ?_, ?_, ?_, ?_⟩ <;> (try simp only [Nat.zero_add])
  · rw [World.cell?_setCell_other _ _ _ _ (ne 6 0 (by omega)), World.cell?_setCell_other _ _ _ _ (ne 5 0 (by omega)), World.cell?_setCell_other _ _ _ _ (ne 4 0 (by omega)), World.cell?_setCell_other _ _ _ _ (ne 3 0 (by omega)), World.cell?_setCell_other _ _ _ _ (ne 2 0 (by omega)), World.cell?_setCell_other _ _ _ _ (ne 1 0 (by omega))]
    exact World.cell?_setCell_same _ _ _ h0
  · rw [World.cell?_setCell_other _ _ _ _ (ne 6 1 (by omega)), World.cell?_setCell_other _ _ _ _ (ne 5 1 (by omega)), World.cell?_setCell_other _ _ _ _ (ne 4 1 (by omega)), World.cell?_setCell_other _ _ _ _ (ne 3 1 (by omega)), World.cell?_setCell_other _ _ _ _ (ne 2 1 (by omega))]
    exact World.cell?_setCell_same _ _ _ (by rw [World.cell?_setCell_other _ _ _ _ (ne 0 1 (by omega))]; exact h1)
  · rw [World.cell?_setCell_other _ _ _ _ (ne 6 2 (by omega)), World.cell?_setCell_other _ _ _ _ (ne 5 2 (by omega)), World.cell?_setCell_other _ _ _ _ (ne 4 2 (by omega)), World.cell?_setCell_other _ _ _ _ (ne 3 2 (by omega))]
    exact World.cell?_setCell_same _ _ _ (by rw [World.cell?_setCell_other _ _ _ _ (ne 1 2 (by omega)), World.cell?_setCell_other _ _ _ _ (ne 0 2 (by omega))]; exact h2)
  · rw [World.cell?_setCell_other _ _ _ _ (ne 6 3 (by omega)), World.cell?_setCell_other _ _ _ _ (ne 5 3 (by omega)), World.cell?_setCell_other _ _ _ _ (ne 4 3 (by omega))]
    exact World.cell?_setCell_same _ _ _ (by rw [World.cell?_setCell_other _ _ _ _ (ne 2 3 (by omega)), World.cell?_setCell_other _ _ _ _ (ne 1 3 (by omega)), World.cell?_setCell_other _ _ _ _ (ne 0 3 (by omega))]; exact h3)
  · rw [World.cell?_setCell_other _ _ _ _ (ne 6 4 (by omega)), World.cell?_setCell_other _ _ _ _ (ne 5 4 (by omega))]
    exact World.cell?_setCell_same _ _ _ (by rw [World.cell?_setCell_other _ _ _ _ (ne 3 4 (by omega)), World.cell?_setCell_other _ _ _ _ (ne 2 4 (by omega)), World.cell?_setCell_other _ _ _ _ (ne 1 4 (by omega)), World.cell?_setCell_other _ _ _ _ (ne 0 4 (by omega))]; exact h4)
  · rw [World.cell?_setCell_other _ _ _ _ (ne 6 5 (by omega))]
    exact World.cell?_setCell_same _ _ _ (by rw [World.cell?_setCell_other _ _ _ _ (ne 4 5 (by omega)), World.cell?_setCell_other _ _ _ _ (ne 3 5 (by omega)), World.cell?_setCell_other _ _ _ _ (ne 2 5 (by omega)), World.cell?_setCell_other _ _ _ _ (ne 1 5 (by omega)), World.cell?_setCell_other _ _ _ _ (ne 0 5 (by omega))]; exact h5)
  · exact World.cell?_setCell_same _ _ _ (by rw [World.cell?_setCell_other _ _ _ _ (ne 5 6 (by omega)), World.cell?_setCell_other _ _ _ _ (ne 4 6 (by omega)), World.cell?_setCell_other _ _ _ _ (ne 3 6 (by omega)), World.cell?_setCell_other _ _ _ _ (ne 2 6 (by omega)), World.cell?_setCell_other _ _ _ _ (ne 1 6 (by omega)), World.cell?_setCell_other _ _ _ _ (ne 0 6 (by omega))]; exact h6)
theorem size_put7 (w : World) (b : Nat) (c : C) : (put7 w b c).heap.size = w.heap.size := by simp [World.setCell]
theorem below_put7 {B : Nat} {w w' : World} (h : Below B w w') {b : Nat} (hb : B ≤ b) (c : C) : Below B w (put7 w' b c) := ((((((h.setCell hb _).setCell hb _).setCell hb _).setCell hb _).setCell hb _).setCell hb _).setCell hb _
def kidAt (t : T) (k : Int) : Option T := if 0 ≤ k then t.kids[k.toNat]? else none
def atT : T → List Int → Option T
  | t, [] => some t
  | t, k :: p => match kidAt t k with
    | some u => atT u p
    | none => none
theorem kid_some {t u : T} {k : Int} (h : kidAt t k = some u) : ∃ j : Nat, k = j ∧ t.kids[j]? = some u := by
  unfold kidAt at h
  split at h
  · exact ⟨k.toNat, by omega, h⟩
  · cases h
theorem kid_none {t : T} {k : Int} (h : kidAt t k = none) : k < 0 ∨ (t.kids.length : Int) ≤ k := by
  unfold kidAt at h
  split at h
  · rw [List.getElem?_eq_none_iff] at h; omega
  · omega
theorem atT_append (t : T) (p q : List Int) : atT t (p ++ q) = match atT t p with | some u => atT u q | none => none := by
  induction p generalizing t with
  | nil => rfl
  | cons k p ih =>
    simp only [List.cons_append, atT]
    cases h : kidAt t k with
    | some u => exact ih u
    | none => rfl
theorem atT_step {t u : T} {p : List Int} {i : Nat} {k : Int} (h : atT t (p.take i) = some u) (hk : p[i]? = some k) : atT t (p.take (i + 1)) = kidAt u k := by
  rw [List.take_add_one, hk, atT_append, h]
  simp only [Option.toList, atT]
  cases kidAt u k <;> rfl
theorem atT_stop {t : T} {p : List Int} {i : Nat} (h : atT t (p.take i) = none) : atT t p = none := by
  have := atT_append t (p.take i) (p.drop i)
  rw [List.take_append_drop, h] at this
  exact this

/-- A box of a cell. -/
def Box7 (w : World) (b : Nat) (c : C) : Prop := w.heap[b]? = some (cbox c)
theorem Box7.up {w w' : World} {b : Nat} {c : C} (h : Box7 w b c) (hb : Below w.heap.size w w') : Box7 w' b c := (hb.block b (lt_of_block h)).trans h
theorem Box7.cat {w : World} {b : Nat} {c : C} (h : Box7 w b c) : CAt w b 0 c := by
  have h' : w.heap[b]? = some (cbox c) := h
  refine ⟨?_, ?_, ?_, ?_, ?_, ?_, ?_⟩ <;> simp [World.cell?, h']
theorem Box7.free {w : World} {b : Nat} {c : C} (h : Box7 w b c) (o : Nat) : w.frozen? ⟨b, o, none⟩ = false := by
  have h' : w.heap[b]? = some (cbox c) := h
  simp [World.frozen?, h']
theorem Box7.new (w : World) (c : C) : Box7 (w.alloc (cbox c)) w.heap.size c := heap_alloc_new w _
theorem set_block {w : World} {b i : Nat} {cs : Array Value} {t : TypeId} {fr : Nat × Nat} (h : w.heap[b]? = some (.cells cs t fr)) (v : Value) : (w.setCell ⟨b, i, none⟩ v).heap[b]? = some (.cells (cs.setIfInBounds i v) t fr) := by
  have hlt := lt_of_block h
  have h' : w.heap[b] = .cells cs t fr := by simpa [Array.getElem?_eq_getElem hlt] using h
  show (w.heap.modify b _)[b]? = _
  rw [Array.getElem?_eq_getElem (by simpa using hlt), Array.getElem_modify_self, h']
  rfl
theorem Box7.put {w : World} {b : Nat} {c : C} (h : Box7 w b c) (d : C) : Box7 (put7 w b d) b d := by
  have h' : w.heap[b]? = some (cbox c) := h
  have h1 := set_block (i := 0) h' (.int .u8 d.k)
  have h2 := set_block (i := 1) h1 (.int .i64 d.r.x)
  have h3 := set_block (i := 2) h2 (.int .i64 d.r.y)
  have h4 := set_block (i := 3) h3 (.int .i64 d.r.w)
  have h5 := set_block (i := 4) h4 (.int .i64 d.r.h)
  have h6 := set_block (i := 5) h5 (.int .i64 d.id)
  have h7 := set_block (i := 6) h6 (.slice d.a d.n d.cap)
  refine h7.trans ?_
  simp

theorem results_cell1 {fn : Func} {p : Tmp} (h : fn.results = #[.cell p 26]) (tmps : Array Value) (w : World) (g : Nat) (c : C) (hp : tmps.getD p undef = .pointer (some ⟨g, 0, none⟩)) (hg : Box7 w g c) :
    (results fn tmps).run Try.prog w = .ok (cval c) w :=
  results_cell_row h tmps w g 26 _ (0, 0) _ hp hg Try.underlying26 rfl (by kernel_rfl)
theorem Box7.of_zero {w : World} {b : Nat} (h : Zero7 w b) : Box7 w b ⟨0, ⟨0, 0, 0, 0⟩, 0, none, 0, 0⟩ := h

/-- A box of a cell whose kids are turned. -/
theorem Box7.kids {w : World} {b : Nat} {c : C} (h : Box7 w b c) (a : Option Addr) (n cap : Nat) : Box7 (w.setCell ⟨b, 6, none⟩ (.slice a n cap)) b ⟨c.k, c.r, c.id, a, n, cap⟩ := by
  have h' : w.heap[b]? = some (cbox c) := h
  have h1 := set_block (i := 6) h' (.slice a n cap)
  refine h1.trans ?_
  simp

end Go.Proofs.Ytakofjbjciljjaa
/- Trees in memory of the call's own: which blocks they are made of. -/
namespace Go.Proofs.Ytakofjbjciljjaa
open Go.RowKit

def blk (v : Value) : List Nat := match v.ownBlock with | some g => [g] | none => []

/-- A tree all of whose rows are the call's own; S: their blocks. -/
inductive OwnT (w : World) (base : Nat) : C → T → List Nat → Prop
  | mk (c : C) (kids : List T) (cs : List C) (Ss : List (List Nat)) (fine : c.fine) (row : OwnC w base (.slice c.a c.n c.cap) cs) (len : cs.length = kids.length) (slen : Ss.length = kids.length)
      (each : ∀ (j : Nat) (x : C) (t : T) (S : List Nat), cs[j]? = some x → kids[j]? = some t → Ss[j]? = some S → OwnT w base x t S) : OwnT w base c (.node c.k c.r c.id kids) (blk (.slice c.a c.n c.cap) ++ Ss.flatten)

theorem OwnT.is {w : World} {base : Nat} {c : C} {t : T} {S : List Nat} (h : OwnT w base c t S) : Is w c t := by
  induction h with
  | mk c kids cs Ss fine row len slen each ih =>
    refine .mk c kids cs row.row len fine fun j x t hx ht => ?_
    have hj : j < Ss.length := by rw [slen]; exact (List.getElem?_eq_some_iff.1 ht).1
    exact ih j x t _ hx ht (List.getElem?_eq_getElem hj)
theorem own_block {w : World} {base : Nat} {v : Value} {l : List C} (h : OwnC w base v l) {g : Nat} (hg : v.ownBlock = some g) : base ≤ g ∧ g < w.heap.size := h.lt g hg
theorem mem_flat {Ss : List (List Nat)} {k : Nat} : k ∈ Ss.flatten ↔ ∃ (j : Nat) (S : List Nat), Ss[j]? = some S ∧ k ∈ S := by
  rw [List.mem_flatten]
  constructor
  · rintro ⟨S, hS, hk⟩
    obtain ⟨j, hj, rfl⟩ := List.getElem_of_mem hS
    exact ⟨j, _, List.getElem?_eq_getElem hj, hk⟩
  · rintro ⟨j, S, hS, hk⟩
    exact ⟨S, List.mem_of_getElem? hS, hk⟩
theorem OwnT.ge {w : World} {base : Nat} {c : C} {t : T} {S : List Nat} (h : OwnT w base c t S) : ∀ k ∈ S, base ≤ k ∧ k < w.heap.size := by
  induction h with
  | mk c kids cs Ss fine row len slen each ih =>
    intro k hk
    rcases List.mem_append.1 hk with hk | hk
    · unfold blk at hk
      split at hk
      · rename_i g hg
        simp at hk; subst hk
        exact own_block row hg
      · cases hk
    · obtain ⟨j, S, hS, hkS⟩ := mem_flat.1 hk
      have hj : j < kids.length := by rw [← slen]; exact (List.getElem?_eq_some_iff.1 hS).1
      exact ih j _ _ S (List.getElem?_eq_getElem (by rw [len]; exact hj)) (List.getElem?_eq_getElem hj) hS k hkS
theorem ownC_kept {w w' : World} {base : Nat} {v : Value} {l : List C} (h : OwnC w base v l) (hk : ∀ g, v.ownBlock = some g → w'.heap[g]? = w.heap[g]?) : OwnC w' base v l := by
  refine ⟨h.1, ?_⟩
  rcases h.2 with hn | ⟨g, cap, cur, rfl, hg0, hg, rest⟩
  · exact .inl hn
  · exact .inr ⟨g, cap, cur, rfl, hg0, (hk g rfl).trans hg, rest⟩
theorem OwnT.frame {w w' : World} {base : Nat} {c : C} {t : T} {S : List Nat} (h : OwnT w base c t S) (hk : ∀ k ∈ S, w'.heap[k]? = w.heap[k]?) : OwnT w' base c t S := by
  induction h with
  | mk c kids cs Ss fine row len slen each ih =>
    refine .mk c kids cs Ss fine (ownC_kept row fun g hg => hk g (List.mem_append_left _ (by unfold blk; rw [hg]; simp))) len slen fun j x t S hx ht hS => ?_
    exact ih j x t S hx ht hS fun k hkS => hk k (List.mem_append_right _ (mem_flat.2 ⟨j, S, hS, hkS⟩))
theorem OwnT.up {w w' : World} {base : Nat} {c : C} {t : T} {S : List Nat} (h : OwnT w base c t S) (hb : Below w.heap.size w w') : OwnT w' base c t S := h.frame fun k hk => hb.block k (h.ge k hk).2
theorem OwnT.lower {w : World} {base base' : Nat} {c : C} {t : T} {S : List Nat} (h : OwnT w base c t S) (hb : base' ≤ base) : OwnT w base' c t S := by
  induction h with
  | mk c kids cs Ss fine row len slen each ih => exact .mk c kids cs Ss fine (row.lower hb) len slen ih

/-- Trees of the call's own, in a row of its own; no block is used twice. -/
structure Forest (w : World) (base : Nat) (v : Value) (cs : List C) (l : List T) (Ss : List (List Nat)) : Prop where
  row : OwnC w base v cs
  len : cs.length = l.length
  slen : Ss.length = l.length
  each : ∀ (j : Nat) (x : C) (t : T) (S : List Nat), cs[j]? = some x → l[j]? = some t → Ss[j]? = some S → OwnT w base x t S
  nodup : Ss.flatten.Nodup
  apart : ∀ g, v.ownBlock = some g → g ∉ Ss.flatten
theorem Forest.nil (w : World) (base : Nat) : Forest w base (.slice none 0 0) [] [] [] := ⟨OwnC.nil w base, rfl, rfl, fun j x t S hx => by simp at hx, List.nodup_nil, fun g hg => by cases hg⟩
theorem Forest.ge {w : World} {base : Nat} {v : Value} {cs : List C} {l : List T} {Ss : List (List Nat)} (h : Forest w base v cs l Ss) : ∀ k ∈ Ss.flatten, base ≤ k ∧ k < w.heap.size := fun k hk => by
  obtain ⟨j, S, hS, hkS⟩ := mem_flat.1 hk
  have hj : j < l.length := by rw [← h.slen]; exact (List.getElem?_eq_some_iff.1 hS).1
  exact (h.each j _ _ S (List.getElem?_eq_getElem (by rw [h.len]; exact hj)) (List.getElem?_eq_getElem hj) hS).ge k hkS
theorem Forest.frame {w w' : World} {base : Nat} {v : Value} {cs : List C} {l : List T} {Ss : List (List Nat)} (h : Forest w base v cs l Ss) (hb : Below w.heap.size w w') : Forest w' base v cs l Ss :=
  ⟨h.row.up hb, h.len, h.slen, fun j x t S hx ht hS => (h.each j x t S hx ht hS).up hb, h.nodup, h.apart⟩

theorem snoc_get {α : Type} {l : List α} {y x : α} {j : Nat} (h : (l ++ [y])[j]? = some x) : (j < l.length ∧ l[j]? = some x) ∨ (j = l.length ∧ x = y) := by
  rcases Nat.lt_trichotomy j l.length with hj | hj | hj
  · rw [List.getElem?_append_left hj] at h; exact .inl ⟨hj, h⟩
  · subst hj; simp at h; exact .inr ⟨rfl, h.symm⟩
  · rw [List.getElem?_eq_none (by simp; omega)] at h; cases h

/-- One more. -/
theorem Forest.add {wr w2 w3 : World} {o : Obj} {base b2 : Nat} {v : Value} {cs : List C} {l : List T} {Ss : List (List Nat)} {d : C} {u : T} {S2 : List Nat} {g cap : Nat}
    (h : Forest wr base v cs l Ss) (hb : Below wr.heap.size wr w2) (hd : OwnT w2 b2 d u S2) (hS2 : S2.Nodup) (hb2 : wr.heap.size ≤ b2) (hbb : base ≤ b2)
    (hown : OwnC w3 base (.slice (some ⟨g, 0, none⟩) (cs ++ [d]).length cap) (cs ++ [d])) (hgr : (w2.alloc o).grownBy w3 v.ownBlock) (hpl : v.ownBlock = some g ∨ g = (w2.alloc o).heap.size) :
    Forest w3 base (.slice (some ⟨g, 0, none⟩) (cs ++ [d]).length cap) (cs ++ [d]) (l ++ [u]) (Ss ++ [S2]) := by
  have hsame : ∀ k, k < w2.heap.size → v.ownBlock ≠ some k → w3.heap[k]? = w2.heap[k]? := fun k hk hne => by
    rw [hgr.block k (by simp; omega) (fun e => hne e.symm)]
    exact ((Below.refl w2.heap.size w2).alloc (Nat.le_refl _) o).block k hk
  have hvb : ∀ k, v.ownBlock = some k → k < wr.heap.size := fun k hk => (own_block h.row hk).2
  have hold : ∀ k ∈ Ss.flatten, w3.heap[k]? = wr.heap[k]? := fun k hk => by
    have h1 := (h.ge k hk).2
    rw [hsame k (Nat.lt_of_lt_of_le h1 hb.size) (fun e => h.apart k e hk), hb.block k h1]
  have hnew : ∀ k ∈ S2, w3.heap[k]? = w2.heap[k]? := fun k hk => by
    have h1 := hd.ge k hk
    exact hsame k h1.2 fun e => by have := hvb k e; omega
  refine ⟨hown, by simp [h.len], by simp [h.slen], fun j x t S hx ht hS => ?_, ?_, fun k hk => ?_⟩
  · rcases snoc_get hx with ⟨hj, hx'⟩ | ⟨hj, rfl⟩
    · rcases snoc_get ht with ⟨_, ht'⟩ | ⟨hj', _⟩
      · rcases snoc_get hS with ⟨_, hS'⟩ | ⟨hj', _⟩
        · exact (h.each j x t S hx' ht' hS').frame fun k hk => hold k (mem_flat.2 ⟨j, S, hS', hk⟩)
        · rw [h.slen, ← h.len] at hj'; omega
      · rw [← h.len] at hj'; omega
    · rcases snoc_get ht with ⟨hj', _⟩ | ⟨_, rfl⟩
      · rw [← h.len] at hj'; omega
      · rcases snoc_get hS with ⟨hj', _⟩ | ⟨_, rfl⟩
        · rw [h.slen, ← h.len] at hj'; omega
        · exact (hd.lower hbb).frame hnew
  · rw [List.flatten_append]
    simp only [List.flatten_cons, List.flatten_nil, List.append_nil]
    rw [List.nodup_append]
    refine ⟨h.nodup, hS2, fun a ha b hb' e => ?_⟩
    subst e
    have h1 := (h.ge a ha).2
    have h2 := (hd.ge a hb').1
    omega
  · have hk' : g = k := by simpa [Value.ownBlock] using hk
    subst hk'
    rw [List.flatten_append, List.mem_append]
    simp only [List.flatten_cons, List.flatten_nil, List.append_nil]
    rintro (hm | hm)
    · rcases hpl with hp | hp
      · exact h.apart g hp hm
      · have h1 := (h.ge g hm).2; have := hb.size; simp at hp; omega
    · have h2 := hd.ge g hm
      rcases hpl with hp | hp
      · have := hvb g hp; omega
      · simp at hp; omega
end Go.Proofs.Ytakofjbjciljjaa
/- Where the cells of a tree of the call's own stand: no two at one place; what becomes of it if its leaves' numbers are written over. -/
namespace Go.Proofs.Ytakofjbjciljjaa
open Go.RowKit

mutual
def adT : L → List (Nat × Nat)
  | .node b o xs => (b, o) :: adL xs
def adL : List L → List (Nat × Nat)
  | [] => []
  | x :: xs => adT x ++ adL xs
end
theorem adT_eq (x : L) : adT x = (x.b, x.o) :: adL x.kids := by cases x; rw [adT]; rfl
theorem adL_flat (xs : List L) : adL xs = (xs.map adT).flatten := by
  induction xs with
  | nil => simp [adL]
  | cons x xs ih => simp [adL, ih]
theorem mem_adL {xs : List L} {a : Nat × Nat} : a ∈ adL xs ↔ ∃ (j : Nat) (y : L), xs[j]? = some y ∧ a ∈ adT y := by
  rw [adL_flat, List.mem_flatten]
  constructor
  · rintro ⟨l, hl, ha⟩
    obtain ⟨y, hy, rfl⟩ := List.mem_map.1 hl
    obtain ⟨j, hj, rfl⟩ := List.getElem_of_mem hy
    exact ⟨j, _, List.getElem?_eq_getElem hj, ha⟩
  · rintro ⟨j, y, hy, ha⟩
    exact ⟨adT y, List.mem_map.2 ⟨y, List.mem_of_getElem? hy, rfl⟩, ha⟩
theorem adL_nodup {xs : List L} : (adL xs).Nodup ↔ (∀ (j : Nat) (y : L), xs[j]? = some y → (adT y).Nodup) ∧ ∀ (i j : Nat) (x y : L), i < j → xs[i]? = some x → xs[j]? = some y → ∀ a ∈ adT x, ∀ b ∈ adT y, a ≠ b := by
  rw [adL_flat]
  unfold List.Nodup
  rw [List.pairwise_flatten, List.pairwise_map, List.pairwise_iff_getElem]
  constructor
  · rintro ⟨h1, h2⟩
    refine ⟨fun j y hy => h1 _ (List.mem_map.2 ⟨y, List.mem_of_getElem? hy, rfl⟩), fun i j x y hij hx hy => ?_⟩
    obtain ⟨hi, rfl⟩ := List.getElem?_eq_some_iff.1 hx
    obtain ⟨hj, rfl⟩ := List.getElem?_eq_some_iff.1 hy
    exact h2 i j hi hj hij
  · rintro ⟨h1, h2⟩
    refine ⟨fun l hl => ?_, fun i j hi hj hij => h2 i j _ _ hij (List.getElem?_eq_getElem hi) (List.getElem?_eq_getElem hj)⟩
    obtain ⟨y, hy, rfl⟩ := List.mem_map.1 hl
    obtain ⟨j, hj, rfl⟩ := List.getElem_of_mem hy
    exact h1 j _ (List.getElem?_eq_getElem hj)
theorem flat_apart {Ss : List (List Nat)} (h : Ss.flatten.Nodup) {i j : Nat} {S R : List Nat} (hij : i ≠ j) (hi : Ss[i]? = some S) (hj : Ss[j]? = some R) : ∀ a ∈ S, ∀ b ∈ R, a ≠ b := by
  unfold List.Nodup at h
  rw [List.pairwise_flatten, List.pairwise_iff_getElem] at h
  obtain ⟨hi', rfl⟩ := List.getElem?_eq_some_iff.1 hi
  obtain ⟨hj', rfl⟩ := List.getElem?_eq_some_iff.1 hj
  rcases Nat.lt_or_gt_of_ne hij with hh | hh
  · exact h.2 i j hi' hj' hh
  · exact fun a ha b hb e => h.2 j i hj' hi' hh b hb a ha e.symm
theorem flat_each {Ss : List (List Nat)} (h : Ss.flatten.Nodup) {j : Nat} {R : List Nat} (hj : Ss[j]? = some R) : R.Nodup := by
  unfold List.Nodup at h
  rw [List.pairwise_flatten] at h
  exact h.1 R (List.mem_of_getElem? hj)

theorem OwnT.stands {w : World} {base : Nat} {c : C} {t : T} {S : List Nat} (h : OwnT w base c t S) : S.Nodup → ∀ (b o : Nat), CAt w b o c → b ∉ S →
    ∃ x, IsL w x c t ∧ x.b = b ∧ x.o = o ∧ (∀ a ∈ adT x, a = (b, o) ∨ (a.1 ∈ S ∧ a.2 % 7 = 0)) ∧ (adT x).Nodup := by
  induction h with
  | mk c ts cs Ss fine row len slen each ih =>
    intro hnd b o hc hb
    have hn : c.n = cs.length := row.row.len
    rcases Nat.eq_zero_or_pos cs.length with h0 | hp
    · have hts : ts = [] := List.length_eq_zero_iff.1 (by omega)
      have hcs : cs = [] := List.length_eq_zero_iff.1 h0
      subst hts; subst hcs
      refine ⟨.node b o [], .mk b o c [] [] [] hc fine (by simpa using hn) rfl rfl (fun j y hy => by simp at hy) (fun j y x u hy => by simp at hy), rfl, rfl, ?_, ?_⟩
      · intro a ha
        rw [adT, adL] at ha
        exact .inl (by simpa using ha)
      · rw [adT, adL]; simp
    · obtain ⟨g, cap', hv, hg1, hg2⟩ := row.form hp
      have hca : c.a = some ⟨g, 0, none⟩ := by injection hv
      have hgS : blk (.slice c.a c.n c.cap) = [g] := by rw [hv]; rfl
      rw [hgS] at hnd hb ⊢
      have hgF : g ∉ Ss.flatten := by
        rw [List.singleton_append, List.nodup_cons] at hnd
        exact hnd.1
      have hFn : Ss.flatten.Nodup := by
        rw [List.singleton_append, List.nodup_cons] at hnd
        exact hnd.2
      have hfl : ∀ (j : Nat) (x : C), cs[j]? = some x → CAt w g (j * 7) x := fun j x hx => by
        rw [hv] at row
        exact cat_of_flat (row.cells (g := g) rfl) j x hx
      obtain ⟨xs, hxl, hxs⟩ := pick_lt (n := ts.length) (Q := fun j y => ∀ (x : C) (u : T) (S : List Nat), cs[j]? = some x → ts[j]? = some u → Ss[j]? = some S → IsL w y x u ∧ y.b = g ∧ y.o = j * 7 ∧ (∀ a ∈ adT y, a = (g, j * 7) ∨ (a.1 ∈ S ∧ a.2 % 7 = 0)) ∧ (adT y).Nodup) fun j hj => by
        obtain ⟨x, hx⟩ := get_of len hj
        obtain ⟨u, hu⟩ := get_of rfl hj
        obtain ⟨S, hS⟩ := get_of slen hj
        obtain ⟨y, hy⟩ := ih j x u S hx hu hS (flat_each hFn hS) g (j * 7) (hfl j x hx) (fun hm => hgF (mem_flat.2 ⟨j, S, hS, hm⟩))
        exact ⟨y, fun x' u' S' hx' hu' hS' => by rw [hx] at hx'; rw [hu] at hu'; rw [hS] at hS'; cases hx'; cases hu'; cases hS'; exact hy⟩
      have hall : ∀ (j : Nat) (y : L), xs[j]? = some y → ∃ S, Ss[j]? = some S ∧ y.b = g ∧ y.o = j * 7 ∧ (∀ a ∈ adT y, a = (g, j * 7) ∨ (a.1 ∈ S ∧ a.2 % 7 = 0)) ∧ (adT y).Nodup := fun j y hy => by
        have hj : j < ts.length := by rw [← hxl]; exact lt_of_get hy
        obtain ⟨x, hx⟩ := get_of len hj
        obtain ⟨u, hu⟩ := get_of rfl hj
        obtain ⟨S, hS⟩ := get_of slen hj
        exact ⟨S, hS, (hxs j y hy x u S hx hu hS).2⟩
      refine ⟨.node b o xs, .mk b o c ts xs cs hc fine (by rw [hn, len]) hxl len (fun j y hy => ?_) (fun j y x u hy hx hu => ?_), rfl, rfl, ?_, ?_⟩
      · obtain ⟨S, -, h1, h2, -⟩ := hall j y hy
        exact ⟨g, 0, hca, h1, by rw [h2, Nat.zero_add]⟩
      · obtain ⟨S, hS⟩ := get_of slen (lt_of_get hu)
        exact (hxs j y hy x u S hx hu hS).1
      · intro a ha
        rw [adT_eq] at ha
        rcases List.mem_cons.1 ha with rfl | ha
        · exact .inl rfl
        · obtain ⟨j, y, hy, hay⟩ := mem_adL.1 ha
          obtain ⟨S, hS, -, -, h3, -⟩ := hall j y hy
          rcases h3 a hay with rfl | ⟨h4, h5⟩
          · exact .inr ⟨by simp, by simp⟩
          · exact .inr ⟨List.mem_append_right _ (mem_flat.2 ⟨j, S, hS, h4⟩), h5⟩
      · rw [adT_eq, List.nodup_cons]
        refine ⟨fun ha => ?_, adL_nodup.2 ⟨fun j y hy => ?_, fun i j x y hij hx hy a ha b' hb' e => ?_⟩⟩
        · obtain ⟨j, y, hy, hay⟩ := mem_adL.1 ha
          obtain ⟨S, hS, -, -, h3, -⟩ := hall j y hy
          rcases h3 _ hay with h4 | ⟨h4, -⟩
          · have : b = g := congrArg Prod.fst h4
            exact hb (by simp [this])
          · exact hb (List.mem_append_right _ (mem_flat.2 ⟨j, S, hS, h4⟩))
        · obtain ⟨S, hS, -, -, -, h4⟩ := hall j y hy
          exact h4
        · subst e
          obtain ⟨S, hS, -, -, h3, -⟩ := hall i x hx
          obtain ⟨R, hR, -, -, g3, -⟩ := hall j y hy
          rcases h3 a ha with h4 | ⟨h4, -⟩
          · rcases g3 a hb' with g4 | ⟨g4, -⟩
            · rw [h4] at g4
              have := congrArg Prod.snd g4
              simp only at this
              omega
            · rw [h4] at g4
              exact hgF (mem_flat.2 ⟨j, R, hR, g4⟩)
          · rcases g3 a hb' with g4 | ⟨g4, -⟩
            · rw [g4] at h4
              exact hgF (mem_flat.2 ⟨i, S, hS, h4⟩)
            · exact flat_apart hFn (by omega) hS hR _ h4 _ g4 rfl

theorem mem_lfL {xs : List L} {ts : List T} {a : Nat × Nat} (h : a ∈ lfL xs ts) : ∃ (j : Nat) (y : L) (u : T), xs[j]? = some y ∧ ts[j]? = some u ∧ a ∈ lfT y u := by
  induction xs generalizing ts with
  | nil => rw [lfL_nil] at h; cases h
  | cons x xs ih =>
    cases ts with
    | nil => simp [lfL] at h
    | cons t ts =>
      rw [lfL] at h
      rcases List.mem_append.1 h with h | h
      · exact ⟨0, x, t, rfl, rfl, h⟩
      · obtain ⟨j, y, u, h1, h2, h3⟩ := ih h
        exact ⟨j + 1, y, u, by simpa using h1, by simpa using h2, h3⟩
mutual
theorem lf_sub : ∀ (x : L) (t : T), List.Sublist (lfT x t) (adT x)
  | .node b o xs, .node k r i ts => by
    have h := lfL_sub xs ts
    rw [lfT, adT]
    split
    · exact List.Sublist.cons_cons _ h
    · exact List.Sublist.cons _ h
theorem lfL_sub : ∀ (xs : List L) (ts : List T), List.Sublist (lfL xs ts) (adL xs)
  | [], ts => by rw [lfL_nil]; exact List.nil_sublist _
  | x :: xs, [] => by simp [lfL]
  | x :: xs, t :: ts => by
    rw [lfL, adL]
    exact (lf_sub x t).append (lfL_sub xs ts)
end
theorem lf_only {x y : L} {t u : T} {j : Nat} (hnd : (adT x).Nodup) (hy : x.kids[j]? = some y) (hu : t.kids[j]? = some u) {a : Nat × Nat} (ha : a ∈ adT y) (hl : a ∈ lfT x t) : a ∈ lfT y u := by
  rw [adT_eq, List.nodup_cons] at hnd
  rw [lfT_eq] at hl
  rcases List.mem_append.1 hl with h | h
  · split at h
    · simp at h; subst h
      exact absurd (mem_adL.2 ⟨j, y, hy, ha⟩) hnd.1
    · cases h
  · obtain ⟨i, y', u', hy', hu', h'⟩ := mem_lfL h
    obtain ⟨-, h2⟩ := adL_nodup.1 hnd.2
    rcases Nat.lt_trichotomy i j with hij | rfl | hij
    · exact absurd rfl (h2 i j y' y hij hy' hy a ((lf_sub y' u').subset h') a ha)
    · rw [hy] at hy'; rw [hu] at hu'; cases hy'; cases hu'
      exact h'
    · exact absurd rfl (h2 j i y y' hij hy hy' a ha a ((lf_sub y' u').subset h'))
theorem lf_top {x : L} {t : T} (hnd : (adT x).Nodup) (hk : t.k ≠ 1) : (x.b, x.o) ∉ lfT x t := by
  rw [adT_eq, List.nodup_cons] at hnd
  rw [lfT_eq, if_neg hk, List.nil_append]
  exact fun h => hnd.1 ((lfL_sub _ _).subset h)
theorem lfL_len {xs : List L} {ts : List T} (hl : xs.length = ts.length) (h : ∀ (j : Nat) (y : L) (u : T), xs[j]? = some y → ts[j]? = some u → (lfT y u).length = lvT u) : (lfL xs ts).length = lvL ts := by
  induction xs generalizing ts with
  | nil =>
    cases ts with
    | nil => rfl
    | cons t ts => simp at hl
  | cons x xs ih =>
    cases ts with
    | nil => simp at hl
    | cons t ts =>
      rw [lfL, lvL, List.length_append, h 0 x t rfl rfl, ih (by simpa using hl) fun j y u hy hu => h (j + 1) y u (by simpa using hy) (by simpa using hu)]
theorem IsL.lf_len {w : World} {x : L} {c : C} {t : T} (h : IsL w x c t) : (lfT x t).length = lvT t := by
  rw [h.fives.1, panes_lv]
theorem lfL_len_take {w : World} {xs : List L} {cs : List C} {ts : List T} (hl : xs.length = ts.length) (hc : cs.length = ts.length) (h : ∀ (j : Nat) (y : L) (x : C) (u : T), xs[j]? = some y → cs[j]? = some x → ts[j]? = some u → IsL w y x u) (k : Nat) : (lfL (xs.take k) (ts.take k)).length = lvL (ts.take k) := by
  refine lfL_len (by simp [hl]) fun j y u hy hu => ?_
  rw [List.getElem?_take] at hy hu
  split at hy
  · rename_i hjk
    rw [if_pos hjk] at hu
    obtain ⟨x, hx⟩ := get_of hc (lt_of_get hu)
    exact (h j y x u hy hx hu).lf_len
  · cases hy

/-- A tree of whose leaves the numbers were written over. -/
theorem IsL.rename {w W : World} {x : L} {c : C} {t : T} (h : IsL w x c t) : ∀ (ms : List Int), lvT t ≤ ms.length → (∀ m ∈ ms, fits m) → (adT x).Nodup →
    (∀ a ∈ adT x, ∀ i, i < 7 → i ≠ 5 → W.cell? ⟨a.1, a.2 + i, none⟩ = w.cell? ⟨a.1, a.2 + i, none⟩) → (∀ a ∈ adT x, a ∉ lfT x t → W.cell? ⟨a.1, a.2 + 5, none⟩ = w.cell? ⟨a.1, a.2 + 5, none⟩) →
    (∀ (i : Nat) (a : Nat × Nat) (m : Int), (lfT x t)[i]? = some a → ms[i]? = some m → W.cell? ⟨a.1, a.2 + 5, none⟩ = some (.int .i64 m)) →
    IsL W x ⟨c.k, c.r, if c.k = 1 then ms.headD 0 else c.id, c.a, c.n, c.cap⟩ (nmT ms t) := by
  induction h with
  | mk b o c ts xs cs cat fine cn xl cl place each ih =>
    intro ms hms hfit hnd h1 h2 h3
    have htop : (b, o) ∈ adT (.node b o xs) := by rw [adT_eq]; exact List.mem_cons_self ..
    have hq : ∀ i, i < 7 → i ≠ 5 → W.cell? ⟨b, o + i, none⟩ = w.cell? ⟨b, o + i, none⟩ := h1 _ htop
    rw [lvT] at hms
    have hid : W.cell? ⟨b, o + 5, none⟩ = some (.int .i64 (if c.k = 1 then ms.headD 0 else c.id)) := by
      by_cases hk : c.k = 1
      · rw [if_pos hk] at hms ⊢
        cases ms with
        | nil => simp at hms
        | cons m ms => exact h3 0 (b, o) m (by rw [lfT, if_pos hk]; rfl) rfl
      · rw [if_neg hk]
        refine (h2 (b, o) htop (lf_top (t := .node c.k c.r c.id ts) hnd hk)).trans cat.2.2.2.2.2.1
    have hmf : fits (if c.k = 1 then ms.headD 0 else c.id) := by
      split
      · rename_i hk
        rw [if_pos hk] at hms
        cases ms with
        | nil => simp at hms
        | cons m ms => exact hfit m (List.mem_cons_self ..)
      · exact fine.2.2.1
    rw [nmT]
    refine .mk b o ⟨c.k, c.r, if c.k = 1 then ms.headD 0 else c.id, c.a, c.n, c.cap⟩ _ xs ((List.range ts.length).map fun j => match cs[j]?, ts[j]? with | some x, some u => (⟨x.k, x.r, if x.k = 1 then (((ms.drop (if c.k = 1 then 1 else 0)).drop (lvL (ts.take j))).headD 0) else x.id, x.a, x.n, x.cap⟩ : C) | _, _ => default) ?_ ⟨fine.1, fine.2.1, hmf, fine.2.2.2⟩ (by rw [nmL_length]; exact cn) (by rw [nmL_length]; exact xl) (by rw [nmL_length]; simp) place fun j y x u hy hx hu => ?_
    · obtain ⟨a0, a1, a2, a3, a4, a5, a6⟩ := cat
      refine ⟨?_, ?_, ?_, ?_, ?_, hid, ?_⟩
      · have := hq 0 (by omega) (by omega); rw [Nat.add_zero] at this; rw [this]; exact a0
      · rw [hq 1 (by omega) (by omega)]; exact a1
      · rw [hq 2 (by omega) (by omega)]; exact a2
      · rw [hq 3 (by omega) (by omega)]; exact a3
      · rw [hq 4 (by omega) (by omega)]; exact a4
      · rw [hq 6 (by omega) (by omega)]; exact a6
    · rw [nmL_get] at hu
      obtain ⟨u0, hu0, rfl⟩ := Option.map_eq_some_iff.1 hu
      have hj : j < ts.length := lt_of_get hu0
      obtain ⟨x0, hx0⟩ := get_of cl hj
      have hx' : x = ⟨x0.k, x0.r, if x0.k = 1 then (((ms.drop (if c.k = 1 then 1 else 0)).drop (lvL (ts.take j))).headD 0) else x0.id, x0.a, x0.n, x0.cap⟩ := by
        simp [hj, hx0] at hx
        have hu1 : ts[j] = u0 := by rw [List.getElem?_eq_getElem hj] at hu0; exact Option.some.inj hu0
        simpa using hx.symm
      subst hx'
      have hkid : (L.node b o xs).kids[j]? = some y := hy
      have hlv := lvL_at hu0
      have hsub : ∀ a ∈ adT y, a ∈ adT (.node b o xs) := fun a ha => by
        rw [adT]; exact List.mem_cons_of_mem _ (mem_adL.2 ⟨j, y, hy, ha⟩)
      have hlt := lfL_len_take xl cl each j
      refine ih j y x0 u0 hy hx0 hu0 _ (by rw [List.length_drop, List.length_drop]; omega) (fun m hm => hfit m (List.mem_of_mem_drop (List.mem_of_mem_drop hm))) ?_ (fun a ha => h1 a (hsub a ha)) (fun a ha hn => h2 a (hsub a ha) fun hl => hn (lf_only (t := .node c.k c.r c.id ts) hnd hkid hu0 ha hl)) (fun i a m ha hm => ?_)
      · rw [adT_eq, List.nodup_cons] at hnd
        exact (adL_nodup.1 hnd.2).1 j y hy
      · refine h3 ((if c.k = 1 then 1 else 0) + lvL (ts.take j) + i) a m ?_ ?_
        · rw [← hlt]
          exact lf_at (x := .node b o xs) (t := .node c.k c.r c.id ts) (by show (if c.k = 1 then [(b, o)] else []).length = _; split <;> rfl) hkid hu0 ha
        · rw [List.getElem?_drop, List.getElem?_drop] at hm
          rw [← hm]; congr 1; omega
end Go.Proofs.Ytakofjbjciljjaa
