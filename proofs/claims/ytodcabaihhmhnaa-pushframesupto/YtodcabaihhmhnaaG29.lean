/- Texts of this seat, 3 in one file. -/
import Derived.Test.YtodcabaihhmhnaaG26
import Derived.Test.YtodcabaihhmhnaaG28
import Derived.Test.YtodcabaihhmhnaaG19
import Derived.Test.YtodcabaihhmhnaaG24
import Derived.Test.YtodcabaihhmhnaaG27
/- A cell that can be adjusted: the document's answer. -/
namespace Go.Proofs.Ytodcabaihhmhnaa
open Go.RowKit

abbrev CellsT (W : World) (b o : Nat) (c : C) : Prop := W.cell? ⟨b, o, none⟩ = some (.int .u8 c.k) ∧ W.cell? ⟨b, o + 1, none⟩ = some (.int .i64 c.r.x) ∧ W.cell? ⟨b, o + 2, none⟩ = some (.int .i64 c.r.y) ∧ W.cell? ⟨b, o + 3, none⟩ = some (.int .i64 c.r.w) ∧ W.cell? ⟨b, o + 4, none⟩ = some (.int .i64 c.r.h) ∧ W.cell? ⟨b, o + 5, none⟩ = some (.int .i64 c.id) ∧ W.cell? ⟨b, o + 6, none⟩ = some (.slice c.a c.n c.cap)
theorem Grove.lower {E : World → Prop} {w : World} {base base' : Nat} {v : Value} {cs : List C} {l : List T} (h : Grove E w base v cs l) (hb : base' ≤ base) : Grove E w base' v cs l :=
  ⟨h.row.lower hb, h.len, fun j x t hx ht => by
    obtain ⟨lo, hi, a1, a2, a3, a4⟩ := h.each j x t hx ht
    exact ⟨lo, hi, Nat.le_trans hb a1, a2, a3, a4⟩⟩
theorem adjx_up {w W W' : World} {v : Value} {b o : Nat} {z : C} (h : W.cell? ⟨w.heap.size, 6, none⟩ = some v ∧ CellsT W b o z) (hb : Below W.heap.size W W') : W'.cell? ⟨w.heap.size, 6, none⟩ = some v ∧ CellsT W' b o z := by
  have h2 : CAt W b o z := h.2
  exact ⟨(hb.cell (lt_of_cell h.1)).trans h.1, h2.up hb⟩
theorem adjx_w {w W : World} {b o : Nat} {c z : C} (h1 : Below w.heap.size w W) (hbx : Box7 (cellW w c) w.heap.size c) (hb : Below (cellW w c).heap.size (cellW w c) W) (hz : CAt w b o z) : W.cell? ⟨w.heap.size, 6, none⟩ = some (.slice c.a c.n c.cap) ∧ CellsT W b o z :=
  ⟨(c7_of (hbx.up hb).cat).2.2.2.2.2.2, hz.up h1⟩

end Go.Proofs.Ytodcabaihhmhnaa
/- A cell that can be adjusted, along the other axis: the document's answer. -/
namespace Go.Proofs.Ytodcabaihhmhnaa
open Go.RowKit

end Go.Proofs.Ytodcabaihhmhnaa
/- Adjust: the document's answer. -/
namespace Go.Proofs.Ytodcabaihhmhnaa
open Go.RowKit

/-- What the call keeps: its tree's box, its answer's. -/
structure ASt (w : World) (c : C) (W : World) : Prop where
  below : Below w.heap.size w W
  box : Box7 W w.heap.size c
  zero : Zero7 W (w.heap.size + 1)
theorem ASt.up {w W W' : World} {c : C} (h : ASt w c W) (hb : Below W.heap.size W W') : ASt w c W' := ⟨h.below.trans (hb.mono h.below.size), h.box.up hb, zero_up h.zero hb⟩
theorem ASt.start (w : World) (c : C) : ASt w c (cellW w c) := ⟨cellW_below w c, cellW_box w c, cellW_zero w c⟩
theorem ASt.is {w W : World} {c : C} {t : T} (h : ASt w c W) (hi : Is w c t) : Is W c t := hi.up h.below
theorem c7_up {b : Nat} {c : C} {W W' : World} (h : C7 b c W) (hb : Below W.heap.size W W') : C7 b c W' := by
  obtain ⟨a0, a1, a2, a3, a4, a5, a6⟩ := h
  exact ⟨(hb.cell (lt_of_cell a0)).trans a0, (hb.cell (lt_of_cell a1)).trans a1, (hb.cell (lt_of_cell a2)).trans a2, (hb.cell (lt_of_cell a3)).trans a3, (hb.cell (lt_of_cell a4)).trans a4, (hb.cell (lt_of_cell a5)).trans a5, (hb.cell (lt_of_cell a6)).trans a6⟩
theorem c7_put7 {b k : Nat} {c x : C} {W : World} (h : C7 b c W) (h1 : b ≠ k) : C7 b c (put7 W k x) := by
  have g1 : ∀ o, (put7 W k x).cell? ⟨b, o, none⟩ = W.cell? ⟨b, o, none⟩ := fun o => World.cell?_of_block (a := ⟨b, o, none⟩) (heap_put7 h1)
  obtain ⟨a0, a1, a2, a3, a4, a5, a6⟩ := h
  exact ⟨(g1 _).trans a0, (g1 _).trans a1, (g1 _).trans a2, (g1 _).trans a3, (g1 _).trans a4, (g1 _).trans a5, (g1 _).trans a6⟩
/-- The answer's box is written: what stands behind it still does. -/
theorem stands_put {w W W0 : World} {c d : C} {base : Nat} {t : T} {S : List Nat} (h : ASt w c W) (ho : OwnT W base d t S) (hb : base = W0.heap.size) (hlt : w.heap.size + 1 < W0.heap.size) :
    Stands (fun _ => True) (put7 W (w.heap.size + 1) d) w.heap.size (put7 W (w.heap.size + 1) d).heap.size d t := by
  rw [size_put7]
  refine (ho.stands.move (w2 := put7 W (w.heap.size + 1) d) fun k hk _ => heap_put7 (by omega)).wide (by omega) (Nat.le_refl _)

end Go.Proofs.Ytodcabaihhmhnaa
