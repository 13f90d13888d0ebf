/- Rows of numbers in a block of the call's own, that are written into. -/
import Derived.Test.YtcmkhppkdbdfdaaInts
import Derived.Test.YtcmkhppkdbdfdaaBoxes
import Derived.Laws.CopyOwn
import Derived.Laws.MakeOwn
namespace Go.Proofs.Ytcmkhppkdbdfdaa
open Go.RowKit

def IBlk (w : World) (g : Nat) (l : List Int) : Prop := w.heap[g]? = some (.cells (ints l).toArray 3 (0, 0))
theorem IBlk.lt {w : World} {g : Nat} {l : List Int} (h : IBlk w g l) : g < w.heap.size := lt_of_block h
theorem IBlk.up {w w' : World} {g : Nat} {l : List Int} (h : IBlk w g l) (hb : Below w.heap.size w w') : IBlk w' g l := (hb.block g h.lt).trans h
theorem ints_get {l : List Int} {j : Nat} {m : Int} (h : l[j]? = some m) : (ints l)[j]? = some (.int .i64 m) := by simp [ints, h]
theorem IBlk.cell {w : World} {g : Nat} {l : List Int} (h : IBlk w g l) {j : Nat} {m : Int} (hj : l[j]? = some m) : w.cell? ⟨g, j, none⟩ = some (.int .i64 m) := by
  have h' : w.heap[g]? = some (.cells (ints l).toArray 3 (0, 0)) := h
  have := ints_get hj
  simp [World.cell?, h', this]
theorem IBlk.free {w : World} {g : Nat} {l : List Int} (h : IBlk w g l) (o : Nat) : w.frozen? ⟨g, o, none⟩ = false := by
  have h' : w.heap[g]? = some (.cells (ints l).toArray 3 (0, 0)) := h
  simp [World.frozen?, h']
theorem ints_set (l : List Int) (j : Nat) (m : Int) : (ints l).set j (.int .i64 m) = ints (l.set j m) := by simp [ints, List.map_set]
theorem IBlk.set {w : World} {g : Nat} {l : List Int} (h : IBlk w g l) (j : Nat) (m : Int) : IBlk (w.setCell ⟨g, j, none⟩ (.int .i64 m)) g (l.set j m) := by
  have h1 := set_block (i := j) h (.int .i64 m)
  refine h1.trans ?_
  rw [← ints_set]; simp
theorem IBlk.row {w : World} {g : Nat} {l : List Int} (h : IBlk w g l) (n cap : Nat) (hn : n = l.length) : Row w (.slice (some ⟨g, 0, none⟩) n cap) (ints l) := by
  subst hn
  refine ⟨_, cap, by rw [ints_length], fun h => (by cases h), fun x hx j u hu => ?_⟩
  cases hx
  unfold ints at hu
  rw [List.getElem?_map, Option.map_eq_some_iff] at hu
  obtain ⟨m, hm, rfl⟩ := hu
  rw [Go.WideShapes.add_plain, Nat.zero_add]
  exact h.cell hm
theorem IBlk.three (w : World) (a b c : Int) : IBlk (w.alloc (.cells #[.int .i64 a, .int .i64 b, .int .i64 c] 3)) w.heap.size [a, b, c] := heap_alloc_new w _
theorem IBlk.one (w : World) (a : Int) : IBlk (w.alloc (.cells #[.int .i64 a] 3)) w.heap.size [a] := heap_alloc_new w _

theorem ints_rep (n : Nat) (m : Int) : ints (List.replicate n m) = List.replicate n (.int .i64 m) := by simp [ints]
/-- make([]int, n). -/
theorem made_ints (n : Nat) (hn : (n : Int) ≤ 1000000) (w : World) : (Instr.makeSlice 22 (.int .i64 (n : Int)) (.int .i64 (n : Int))).run Try.prog w = .ok (.slice (some ⟨w.heap.size, 0, none⟩) n n) (w.alloc (.cells (ints (List.replicate n 0)).toArray 3)) := by
  obtain ⟨i0, hi, hz0, hz1, hz2⟩ := info_parts (P := Try.prog) (e := 3) (z := .int .i64 0) (size := 1) (bytes := 8) (by kernel_rfl)
  have h := run_make (P := Try.prog) w 22 3 i0 (.int .i64 0) Try.underlying22 hi hz0 .i64 .i64 (n : Int) (n : Int) (by omega) (by omega) (by rw [hz2]; omega) (by omega)
  rw [hz1, Nat.mul_one, Int.toNat_natCast] at h
  rw [h]
  congr 3
  rw [ints_rep]
  apply Array.ext'
  refine List.ext_getElem? fun x => ?_
  by_cases hx : x < n
  · simp [madeCells, hx, Value.cells, Nat.mod_one]
  · rw [List.getElem?_eq_none (by simp [madeCells]; omega), List.getElem?_eq_none (by simp; omega)]
end Go.Proofs.Ytcmkhppkdbdfdaa
