/- The cell at a path: the document's answer. -/
import Derived.Test.YtibjpkicchdomaaAt
import Derived.Test.YtibjpkicchdomaaSameB
import Derived.Deep.RegionHeld3
namespace Go.Proofs.Ytibjpkicchdomaa
open Go.RowKit

/-- Numbers that can be cut: as many as there is room for. -/
structure Path (w : World) (v : Value) (p : List Int) : Prop where
  row : Row w v (ints p)
  cap : ∃ a cap, v = .slice a p.length cap ∧ p.length ≤ cap
theorem Path.up {w w' : World} {v : Value} {p : List Int} (h : Path w v p) (hb : Below w.heap.size w w') : Path w' v p := ⟨h.row.up hb, h.cap⟩
/-- The rest of a path. -/
theorem Path.tail {w : World} {b o cap : Nat} {k : Int} {p : List Int} (h : Path w (.slice (some ⟨b, o, none⟩) (k :: p).length cap) (k :: p)) (A : Addr) (hA : A = ⟨b, o + 1, none⟩ ∨ p = []) (c : Nat) (hc : p.length ≤ c) : Path w (.slice (some A) p.length c) p := by
  refine ⟨⟨some A, c, by rw [ints_length], (fun h => by cases h), fun x hx j u hu => ?_⟩, _, c, rfl, hc⟩
  cases hx
  rcases hA with rfl | rfl
  · obtain ⟨b', o', he, hf⟩ := int_at h.row (by simp)
    cases he
    have hj : j < p.length := by
      rcases Nat.lt_or_ge j p.length with h | h
      · exact h
      · rw [List.getElem?_eq_none (by rw [ints_length]; exact h)] at hu; cases hu
    simp [ints, hj] at hu
    rw [← hu, Go.WideShapes.add_plain, Nat.add_assoc, Nat.add_comm 1 j]
    exact hf (j + 1) _ (by simp [hj])
  · simp [ints] at hu

theorem path_if {w : World} {b o cap : Nat} {k : Int} {p : List Int} (h : Path w (.slice (some ⟨b, o, none⟩) (k :: p).length cap) (k :: p)) (hc : p.length + 1 ≤ cap) : Path w (.slice (if cap = 1 then some ⟨b, o, none⟩ else some ⟨b, o + 1, none⟩) p.length (cap - 1)) p := by
  split
  · exact h.tail _ (.inr (List.length_eq_zero_iff.1 (by omega))) _ (by omega)
  · exact h.tail _ (.inl rfl) _ (by omega)

abbrev Nine (n : Nat) (s m : Value) (pb po bb oo : Nat) (y : C) (W : World) : Prop := W.cell? ⟨n, 6, none⟩ = some s ∧ W.cell? ⟨pb, po, none⟩ = some m ∧ W.cell? ⟨bb, oo, none⟩ = some (.int .u8 y.k) ∧ W.cell? ⟨bb, oo + 1, none⟩ = some (.int .i64 y.r.x) ∧ W.cell? ⟨bb, oo + 2, none⟩ = some (.int .i64 y.r.y) ∧ W.cell? ⟨bb, oo + 3, none⟩ = some (.int .i64 y.r.w) ∧ W.cell? ⟨bb, oo + 4, none⟩ = some (.int .i64 y.r.h) ∧ W.cell? ⟨bb, oo + 5, none⟩ = some (.int .i64 y.id) ∧ W.cell? ⟨bb, oo + 6, none⟩ = some (.slice y.a y.n y.cap)
theorem Nine.up {n : Nat} {s m : Value} {pb po bb oo : Nat} {y : C} {W W' : World} (h : Nine n s m pb po bb oo y W) (hb : Below W.heap.size W W') : Nine n s m pb po bb oo y W' := by
  obtain ⟨h0, h1, h2, h3, h4, h5, h6, h7, h8⟩ := h
  exact ⟨(hb.cell (lt_of_cell h0)).trans h0, (hb.cell (lt_of_cell h1)).trans h1, (hb.cell (lt_of_cell h2)).trans h2, (hb.cell (lt_of_cell h3)).trans h3, (hb.cell (lt_of_cell h4)).trans h4, (hb.cell (lt_of_cell h5)).trans h5, (hb.cell (lt_of_cell h6)).trans h6, (hb.cell (lt_of_cell h7)).trans h7, (hb.cell (lt_of_cell h8)).trans h8⟩
theorem Nine.put {n : Nat} {s m : Value} {pb po bb oo : Nat} {y d : C} {W : World} {b : Nat} (h : Nine n s m pb po bb oo y W) (h1 : n ≠ b) (h2 : pb ≠ b) (h3 : bb ≠ b) : Nine n s m pb po bb oo y (put7 W b d) := by
  obtain ⟨h0, h1, h2, h3, h4, h5, h6, h7, h8⟩ := h
  exact ⟨(World.cell?_of_block (heap_put7 (by assumption))).trans h0, (World.cell?_of_block (heap_put7 (by assumption))).trans h1, (World.cell?_of_block (heap_put7 (by assumption))).trans h2, (World.cell?_of_block (heap_put7 (by assumption))).trans h3, (World.cell?_of_block (heap_put7 (by assumption))).trans h4, (World.cell?_of_block (heap_put7 (by assumption))).trans h5, (World.cell?_of_block (heap_put7 (by assumption))).trans h6, (World.cell?_of_block (heap_put7 (by assumption))).trans h7, (World.cell?_of_block (heap_put7 (by assumption))).trans h8⟩

end Go.Proofs.Ytibjpkicchdomaa
