/- Numbers that come in as an argument: they fit, and can be cut. -/
import Derived.Test.YtlpklpkalcgeaaaFrame
import Derived.Test.YtlpklpkalcgeaaaRName
namespace Go.Proofs.Ytlpklpkalcgeaaa
open Go.ChangeShapes Go.WideShapes Go.ChangeAt Go.WideMaps Go.WideElems Go.RowKit

section
variable {H : Type} {enc : TypeId × Value → H} {w : World} {spare : Nat → Bool} {held : Bool}

theorem cutt_of {fuel : Nat} {v : Value} {x : DataW H × List MemPlace} (h : DataW.trod enc Try.prog w 0 spare held fuel 38 [v] = some x) : ∃ ms : List Int, Cutt w v ms ∧ ∀ m ∈ ms, fits m := by
  rcases open_ints Try.underlying38 Try.underlying3 (by kernel_rfl) h with ⟨hcs, _⟩ | ⟨a, l, c, zs, hcs, _, hl, hm, hz, _, hcell, hwz⟩
  · simp at hcs
    subst hcs
    exact ⟨[], ⟨⟨none, 0, rfl, fun _ => ⟨rfl, rfl⟩, fun _ h => by cases h⟩, none, 0, rfl, Nat.le_refl _⟩, fun m hm => by cases hm⟩
  · simp at hcs
    subst hcs
    have hlm : l ≤ zs.length := by rw [hz]; split <;> omega
    have htl : (zs.take l).length = l := by rw [List.length_take]; omega
    refine ⟨zs.take l, ⟨⟨some a, c, by rw [ints_length, htl], fun h => (by cases h), fun y hy j u hu => ?_⟩, some a, c, by rw [htl], by rw [htl]; exact hl⟩, fun m hm => fits_wf (hwz m (List.mem_of_mem_take hm))⟩
    cases hy
    unfold ints at hu
    rw [List.getElem?_map, Option.map_eq_some_iff] at hu
    obtain ⟨n, hn, rfl⟩ := hu
    have hjl : j < zs.length := by
      rcases Nat.lt_or_ge j zs.length with h | h
      · exact h
      · rw [List.getElem?_take, List.getElem?_eq_none h] at hn; split at hn <;> cases hn
    rw [hcell j hjl]
    rw [List.getElem?_take] at hn
    split at hn
    · rw [List.getD_eq_getElem?_getD, hn]; rfl
    · cases hn
end
end Go.Proofs.Ytlpklpkalcgeaaa
