/- The way to a leaf. -/
import Derived.Test.YtcmkhppkdbdfdaaMem
namespace Go.Proofs.Ytcmkhppkdbdfdaa
open Go.RowKit

def ints (p : List Int) : List Value := p.map (Value.int .i64)
theorem ints_length (p : List Int) : (ints p).length = p.length := by simp [ints]
theorem ints_append (p q : List Int) : ints (p ++ q) = ints p ++ ints q := by simp [ints]
theorem ints_one (p : List Int) : ∀ u ∈ ints p, u.oneCell' = true := by
  intro u hu
  obtain ⟨n, -, rfl⟩ := List.mem_map.1 hu
  rfl
theorem row_one (w : World) (v : Value) (t : TypeId) : Row (w.alloc (.cells #[v] t)) (.slice (some ⟨w.heap.size, 0, none⟩) 1 1) [v] := by
  refine ⟨_, 1, rfl, (fun h => by cases h), fun x hx j u hu => ?_⟩
  cases hx
  cases j with
  | zero => simp at hu; subst hu; simp [Addr.add]
  | succ j => simp at hu
theorem infoI : (Try.prog.info? 3).map (fun i => (i.zero, i.size, i.bytes)) = some (some (.int .i64 0), 1, 8) := by kernel_rfl

end Go.Proofs.Ytcmkhppkdbdfdaa
