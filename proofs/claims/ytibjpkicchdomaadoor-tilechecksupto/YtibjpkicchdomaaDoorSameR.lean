/- The same rectangles; the document's example. -/
import Derived.Test.YtibjpkicchdomaaDoorCutC
import Derived.Test.YtibjpkicchdomaaDoorREq
import Derived.Laws.StructEq
namespace Go.Proofs.YtibjpkicchdomaaDoor
open Go.RowKit

theorem eq_self (r : R) (w : World) : (Op.equalIn 10000 23 (val r) (val r)).run Tryd.prog w = .ok true w := by
  have := eq_run r r w
  simpa using this

set_option maxRecDepth 100000 in
set_option maxHeartbeats 1600000 in
theorem sameR_any (v1 v2 : Value) (l : List R) (w : World) (h1 : RRow w v1 l) (h2 : RRow w v2 l) (hlen : l.length ≤ 1000000) :
    Calls Tryd.prog 10 #[v1, v2] w fun e w' => e = .returned (.bool true) ∧ Below w.heap.size w w' := by
  obtain ⟨a1, cap1, rfl⟩ := h1.shape
  obtain ⟨a2, cap2, rfl⟩ := h2.shape
  have H1 := Lib.hid h1
  have H2 := Lib.hid h2
  clear h1 h2
  have hg := eq_guard
  go_enter Tryd.func10, Tryd.ntmps10
  go_wp2
  go_loopg [13] (l.length + 1) (fun g i wr => ∃ k : Nat, g + k = l.length + 1 ∧ k ≤ l.length ∧ i = .int .i64 k ∧ Below w.heap.size w wr)
  case atStart => exact ⟨0, by omega, by omega, rfl, Below.refl _ _⟩
  case round =>
    obtain ⟨k, hg', hk, rfl, hb⟩ := hrel
    have HB : Hid (Below w.heap.size w wr ∧ gk + k = l.length + 1) := ⟨hb, hg'⟩
    clear hb hg'
    by_cases hlt : k < l.length
    · obtain ⟨r, hr⟩ : ∃ r, l[k]? = some r := ⟨_, List.getElem?_eq_getElem hlt⟩
      obtain ⟨b1, o1, rfl, hat1⟩ := H1.out.place (by omega)
      obtain ⟨b2, o2, rfl, hat2⟩ := H2.out.place (by omega)
      obtain ⟨c0, c1, c2, c3⟩ := (hat1 k r hr).up HB.out.1
      obtain ⟨e0, e1, e2, e3⟩ := (hat2 k r hr).up HB.out.1
      have d1 : (k : Int) < (l.length : Int) := by omega
      have hE : ∀ w, (Op.equalIn 10000 23 (.agg #[.int .i64 r.x, .int .i64 r.y, .int .i64 r.w, .int .i64 r.h]) (.agg #[.int .i64 r.x, .int .i64 r.y, .int .i64 r.w, .int .i64 r.h])).run Tryd.prog w = .ok true w := eq_self r
      clear hat1 hat2 hr
      go_wp2
      go_quiet (fail)
      go_wp2
      go_roundg (gk - 1)
      case measure => have := HB.out.2; omega
      case rel =>
        refine ⟨k + 1, ?_, by omega, by go_num, ⟨HB.out.1.os, HB.out.1.tape, HB.out.1.output, HB.out.1.size, HB.out.1.block⟩⟩
        have := HB.out.2; omega
    · obtain rfl : k = l.length := by omega
      have hkl : ((l.length : Int) < (l.length : Int)) = False := by simp
      go_wp2
      go_ret
      exact ⟨rfl, HB.out.1⟩
end Go.Proofs.YtibjpkicchdomaaDoor
