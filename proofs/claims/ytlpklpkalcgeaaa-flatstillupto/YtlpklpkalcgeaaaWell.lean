/- May a cell be, whatever the others are? -/
import Derived.Test.YtlpklpkalcgeaaaSize
import Derived.Test.YtlpklpkalcgeaaaOne
namespace Go.Proofs.Ytlpklpkalcgeaaa
open Go.RowKit

def wellB (k : Int) (r : R) (id : Int) (n : Nat) : Bool := mayB r && ((decide (k = 1) && (decide (0 ≤ id ∧ id ≤ 2147483647) && decide (n = 0))) || ((decide (k = 2) || decide (k = 3)) && (decide (id = 0) && decide (2 ≤ n))))
def wellC (c : C) : Bool := wellB c.k c.r c.id c.n
def wellT (t : T) : Bool := wellB t.k t.r t.id t.kids.length
theorem well_is {w : World} {c : C} {t : T} (h : Is w c t) : wellC c = wellT t := by
  obtain ⟨h1, h2, h3, -, cs, -, -, h4, -⟩ := h.split
  rw [wellC, wellT, h1, h2, h3, h4]
end Go.Proofs.Ytlpklpkalcgeaaa
