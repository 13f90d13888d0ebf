/- Boxes of cells that are written into; the cell at a path. -/
import Derived.Test.YtcmkhppkdbdfdaaCnt
import Derived.Laws.ResultCell
import Derived.Deep.RegionHeld3
namespace Go.Proofs.Ytcmkhppkdbdfdaa
open Go.RowKit

theorem cbox_new (w : World) (c : C) : CAt (w.alloc (cbox c)) w.heap.size 0 c := by
  refine ⟨?_, ?_, ?_, ?_, ?_, ?_, ?_⟩ <;> simp

theorem trow_one {w : World} {c : C} {t : T} (h : Is w c t) : TRow (w.alloc (cbox c)) (.slice (some ⟨w.heap.size, 0, none⟩) 1 1) [t] := by
  refine ⟨[c], .inr ⟨w.heap.size, 0, 1, rfl, fun j x hx => ?_⟩, rfl, fun j x u hx hu => ?_⟩
  · cases j with
    | zero => simp at hx; subst hx; simpa using cbox_new w c
    | succ j => simp at hx
  · cases j with
    | zero => simp at hx hu; subst hx; subst hu; exact h.up ((Below.refl _ _).alloc (Nat.le_refl _) _)
    | succ j => simp at hx

abbrev zeroBox : Obj := .cells #[.int .u8 0, .int .i64 0, .int .i64 0, .int .i64 0, .int .i64 0, .int .i64 0, .slice none 0 0] 33
def Zero7 (w : World) (b : Nat) : Prop := w.heap[b]? = some zeroBox
theorem zero_up {w w' : World} {b : Nat} (h : Zero7 w b) (hb : Below w.heap.size w w') : Zero7 w' b := (hb.block b (lt_of_block h)).trans h
theorem zero_new (w : World) : Zero7 (w.alloc zeroBox) w.heap.size := heap_alloc_new w _
theorem zero_parts {w : World} {b : Nat} (h : Zero7 w b) : (w.cell? ⟨b, 0, none⟩ = some (.int .u8 0) ∧ w.cell? ⟨b, 1, none⟩ = some (.int .i64 0) ∧ w.cell? ⟨b, 2, none⟩ = some (.int .i64 0) ∧ w.cell? ⟨b, 3, none⟩ = some (.int .i64 0) ∧ w.cell? ⟨b, 4, none⟩ = some (.int .i64 0) ∧ w.cell? ⟨b, 5, none⟩ = some (.int .i64 0) ∧ w.cell? ⟨b, 6, none⟩ = some (.slice none 0 0)) ∧
    (w.frozen? ⟨b, 0, none⟩ = false ∧ w.frozen? ⟨b, 1, none⟩ = false ∧ w.frozen? ⟨b, 2, none⟩ = false ∧ w.frozen? ⟨b, 3, none⟩ = false ∧ w.frozen? ⟨b, 4, none⟩ = false ∧ w.frozen? ⟨b, 5, none⟩ = false ∧ w.frozen? ⟨b, 6, none⟩ = false) := by
  have h' : w.heap[b]? = some zeroBox := h
  refine ⟨⟨?_, ?_, ?_, ?_, ?_, ?_, ?_⟩, ?_, ?_, ?_, ?_, ?_, ?_, ?_⟩ <;> simp [World.cell?, World.frozen?, h']

abbrev put7 (w : World) (b : Nat) (c : C) : World := ((((((w.setCell ⟨b, 0, none⟩ (.int .u8 c.k)).setCell ⟨b, 1, none⟩ (.int .i64 c.r.x)).setCell ⟨b, 2, none⟩ (.int .i64 c.r.y)).setCell ⟨b, 3, none⟩ (.int .i64 c.r.w)).setCell ⟨b, 4, none⟩ (.int .i64 c.r.h)).setCell ⟨b, 5, none⟩ (.int .i64 c.id)).setCell ⟨b, 6, none⟩ (.slice c.a c.n c.cap)
theorem heap_put7 {w : World} {b k : Nat} {c : C} (h : k ≠ b) : (put7 w b c).heap[k]? = w.heap[k]? := by
  unfold put7
  rw [Below.heap_setCell _ ⟨b, 6, none⟩ _ k h, Below.heap_setCell _ ⟨b, 5, none⟩ _ k h, Below.heap_setCell _ ⟨b, 4, none⟩ _ k h, Below.heap_setCell _ ⟨b, 3, none⟩ _ k h, Below.heap_setCell _ ⟨b, 2, none⟩ _ k h, Below.heap_setCell _ ⟨b, 1, none⟩ _ k h, Below.heap_setCell _ ⟨b, 0, none⟩ _ k h]
theorem cat_put7 {w : World} {b : Nat} {c0 : C} (c : C) (h : CAt w b 0 c0) : CAt (put7 w b c) b 0 c := by
  have ne : ∀ i j : Nat, i ≠ j → (⟨b, i, none⟩ : Addr) ≠ ⟨b, j, none⟩ := fun i j hij he => hij (congrArg Addr.off he)
  obtain ⟨h0, h1, h2, h3, h4, h5, h6⟩ := h
  simp only [Nat.zero_add] at h1 h2 h3 h4 h5 h6
  refine ⟨?_, ?_, ?_, ?_, ?_, ?_, ?_⟩ <;> (try simp only [Nat.zero_add])
  · rw [World.cell?_setCell_other _ _ _ _ (ne 6 0 (by omega)), World.cell?_setCell_other _ _ _ _ (ne 5 0 (by omega)), World.cell?_setCell_other _ _ _ _ (ne 4 0 (by omega)), World.cell?_setCell_other _ _ _ _ (ne 3 0 (by omega)), World.cell?_setCell_other _ _ _ _ (ne 2 0 (by omega)), World.cell?_setCell_other _ _ _ _ (ne 1 0 (by omega))]
    exact World.cell?_setCell_same _ _ _ h0
  · rw [World.cell?_setCell_other _ _ _ _ (ne 6 1 (by omega)), World.cell?_setCell_other _ _ _ _ (ne 5 1 (by omega)), World.cell?_setCell_other _ _ _ _ (ne 4 1 (by omega)), World.cell?_setCell_other _ _ _ _ (ne 3 1 (by omega)), World.cell?_setCell_other _ _ _ _ (ne 2 1 (by omega))]
    exact World.cell?_setCell_same _ _ _ (by rw [World.cell?_setCell_other _ _ _ _ (ne 0 1 (by omega))]; exact h1)
  · rw [World.cell?_setCell_other _ _ _ _ (ne 6 2 (by omega)), World.cell?_setCell_other _ _ _ _ (ne 5 2 (by omega)), World.cell?_setCell_other _ _ _ _ (ne 4 2 (by omega)), World.cell?_setCell_other _ _ _ _ (ne 3 2 (by omega))]
    exact World.cell?_setCell_same _ _ _ (by rw [World.cell?_setCell_other _ _ _ _ (ne 1 2 (by omega)), World.cell?_setCell_other _ _ _ _ (ne 0 2 (by omega))]; exact h2)
  · rw [World.cell?_setCell_other _ _ _ _ (ne 6 3 (by omega)), World.cell?_setCell_other _ _ _ _ (ne 5 3 (by omega)), World.cell?_setCell_other _ _ _ _ (ne 4 3 (by omega))]
    exact World.cell?_setCell_same _ _ _ (by rw [World.cell?_setCell_other _ _ _ _ (ne 2 3 (by omega)), World.cell?_setCell_other _ _ _ _ (ne 1 3 (by omega)), World.cell?_setCell_other _ _ _ _ (ne 0 3 (by omega))]; exact h3)
  · rw [World.cell?_setCell_other _ _ _ _ (ne 6 4 (by omega)), World.cell?_setCell_other _ _ _ _ (ne 5 4 (by omega))]
    exact World.cell?_setCell_same _ _ _ (by rw [World.cell?_setCell_other _ _ _ _ (ne 3 4 (by omega)), World.cell?_setCell_other _ _ _ _ (ne 2 4 (by omega)), World.cell?_setCell_other _ _ _ _ (ne 1 4 (by omega)), World.cell?_setCell_other _ _ _ _ (ne 0 4 (by omega))]; exact h4)
  · rw [World.cell?_setCell_other _ _ _ _ (ne 6 5 (by omega))]
    exact World.cell?_setCell_same _ _ _ (by rw [World.cell?_setCell_other _ _ _ _ (ne 4 5 (by omega)), World.cell?_setCell_other _ _ _ _ (ne 3 5 (by omega)), World.cell?_setCell_other _ _ _ _ (ne 2 5 (by omega)), World.cell?_setCell_other _ _ _ _ (ne 1 5 (by omega)), World.cell?_setCell_other _ _ _ _ (ne 0 5 (by omega))]; exact h5)
  · exact World.cell?_setCell_same _ _ _ (by rw [World.cell?_setCell_other _ _ _ _ (ne 5 6 (by omega)), World.cell?_setCell_other _ _ _ _ (ne 4 6 (by omega)), World.cell?_setCell_other _ _ _ _ (ne 3 6 (by omega)), World.cell?_setCell_other _ _ _ _ (ne 2 6 (by omega)), World.cell?_setCell_other _ _ _ _ (ne 1 6 (by omega)), World.cell?_setCell_other _ _ _ _ (ne 0 6 (by omega))]; exact h6)
theorem size_put7 (w : World) (b : Nat) (c : C) : (put7 w b c).heap.size = w.heap.size := by simp [World.setCell]
theorem below_put7 {B : Nat} {w w' : World} (h : Below B w w') {b : Nat} (hb : B ≤ b) (c : C) : Below B w (put7 w' b c) := ((((((h.setCell hb _).setCell hb _).setCell hb _).setCell hb _).setCell hb _).setCell hb _).setCell hb _
def kidAt (t : T) (k : Int) : Option T := if 0 ≤ k then t.kids[k.toNat]? else none
def atT : T → List Int → Option T
  | t, [] => some t
  | t, k :: p => match kidAt t k with
    | some u => atT u p
    | none => none
theorem kid_some {t u : T} {k : Int} (h : kidAt t k = some u) : ∃ j : Nat, k = j ∧ t.kids[j]? = some u := by
  unfold kidAt at h
  split at h
  · exact ⟨k.toNat, by omega, h⟩
  · cases h
theorem kid_none {t : T} {k : Int} (h : kidAt t k = none) : k < 0 ∨ (t.kids.length : Int) ≤ k := by
  unfold kidAt at h
  split at h
  · rw [List.getElem?_eq_none_iff] at h; omega
  · omega
theorem atT_append (t : T) (p q : List Int) : atT t (p ++ q) = match atT t p with | some u => atT u q | none => none := by
  induction p generalizing t with
  | nil => rfl
  | cons k p ih =>
    simp only [List.cons_append, atT]
    cases h : kidAt t k with
    | some u => exact ih u
    | none => rfl
theorem atT_step {t u : T} {p : List Int} {i : Nat} {k : Int} (h : atT t (p.take i) = some u) (hk : p[i]? = some k) : atT t (p.take (i + 1)) = kidAt u k := by
  rw [List.take_add_one, hk, atT_append, h]
  simp only [Option.toList, atT]
  cases kidAt u k <;> rfl
theorem atT_stop {t : T} {p : List Int} {i : Nat} (h : atT t (p.take i) = none) : atT t p = none := by
  have := atT_append t (p.take i) (p.drop i)
  rw [List.take_append_drop, h] at this
  exact this

/-- A box of a cell. -/
def Box7 (w : World) (b : Nat) (c : C) : Prop := w.heap[b]? = some (cbox c)
theorem Box7.up {w w' : World} {b : Nat} {c : C} (h : Box7 w b c) (hb : Below w.heap.size w w') : Box7 w' b c := (hb.block b (lt_of_block h)).trans h
theorem Box7.cat {w : World} {b : Nat} {c : C} (h : Box7 w b c) : CAt w b 0 c := by
  have h' : w.heap[b]? = some (cbox c) := h
  refine ⟨?_, ?_, ?_, ?_, ?_, ?_, ?_⟩ <;> simp [World.cell?, h']
theorem Box7.free {w : World} {b : Nat} {c : C} (h : Box7 w b c) (o : Nat) : w.frozen? ⟨b, o, none⟩ = false := by
  have h' : w.heap[b]? = some (cbox c) := h
  simp [World.frozen?, h']
theorem Box7.new (w : World) (c : C) : Box7 (w.alloc (cbox c)) w.heap.size c := heap_alloc_new w _
theorem set_block {w : World} {b i : Nat} {cs : Array Value} {t : TypeId} {fr : Nat × Nat} (h : w.heap[b]? = some (.cells cs t fr)) (v : Value) : (w.setCell ⟨b, i, none⟩ v).heap[b]? = some (.cells (cs.setIfInBounds i v) t fr) := by
  have hlt := lt_of_block h
  have h' : w.heap[b] = .cells cs t fr := by simpa [Array.getElem?_eq_getElem hlt] using h
  show (w.heap.modify b _)[b]? = _
  rw [Array.getElem?_eq_getElem (by simpa using hlt), Array.getElem_modify_self, h']
  rfl
theorem Box7.put {w : World} {b : Nat} {c : C} (h : Box7 w b c) (d : C) : Box7 (put7 w b d) b d := by
  have h' : w.heap[b]? = some (cbox c) := h
  have h1 := set_block (i := 0) h' (.int .u8 d.k)
  have h2 := set_block (i := 1) h1 (.int .i64 d.r.x)
  have h3 := set_block (i := 2) h2 (.int .i64 d.r.y)
  have h4 := set_block (i := 3) h3 (.int .i64 d.r.w)
  have h5 := set_block (i := 4) h4 (.int .i64 d.r.h)
  have h6 := set_block (i := 5) h5 (.int .i64 d.id)
  have h7 := set_block (i := 6) h6 (.slice d.a d.n d.cap)
  refine h7.trans ?_
  simp

theorem results_cell1 {fn : Func} {p : Tmp} (h : fn.results = #[.cell p 33]) (tmps : Array Value) (w : World) (g : Nat) (c : C) (hp : tmps.getD p undef = .pointer (some ⟨g, 0, none⟩)) (hg : Box7 w g c) :
    (results fn tmps).run Try.prog w = .ok (cval c) w :=
  results_cell_row h tmps w g 33 _ (0, 0) _ hp hg Try.underlying33 rfl (by kernel_rfl)
theorem Box7.of_zero {w : World} {b : Nat} (h : Zero7 w b) : Box7 w b ⟨0, ⟨0, 0, 0, 0⟩, 0, none, 0, 0⟩ := h

/-- A box of a cell whose kids are turned. -/
theorem Box7.kids {w : World} {b : Nat} {c : C} (h : Box7 w b c) (a : Option Addr) (n cap : Nat) : Box7 (w.setCell ⟨b, 6, none⟩ (.slice a n cap)) b ⟨c.k, c.r, c.id, a, n, cap⟩ := by
  have h' : w.heap[b]? = some (cbox c) := h
  have h1 := set_block (i := 6) h' (.slice a n cap)
  refine h1.trans ?_
  simp

end Go.Proofs.Ytcmkhppkdbdfdaa
