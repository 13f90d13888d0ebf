/- The document's example. -/
import Derived.Test.YtlpklpkalcgeaaaFPane
import Derived.Test.YtlpklpkalcgeaaaPSame
namespace Go.Proofs.Ytlpklpkalcgeaaa
open Go.RowKit

abbrev exR : R := ⟨0, 0, 3, 2⟩
abbrev exT : T := .node 1 exR 5 []
theorem ex_fits : exR.fits := ⟨by simp [fits], by simp [fits], by simp [fits], by simp [fits]⟩
theorem ex_panes : panesT exT = [⟨5, exR⟩] := by rfl
theorem ex_next : nextP (panesT exT) 5 1 = (5, true) := by rw [ex_panes]; rfl

set_option maxRecDepth 100000 in
theorem awake_any (w : World) : Calls Try.prog 9 #[] w fun e w' => e = .returned (.bool true) ∧ Below w.heap.size w w' := by
  have A1 : Hid (Below w.heap.size w (w.alloc (cbox (leafC exR 5)))) := (Below.refl _ _).alloc (Nat.le_refl _) _
  have X1 := Lib.hid (cbox_new w (leafC exR 5))
  have I1 := Lib.hid (leaf_is exR 5 (w.alloc (cbox (leafC exR 5))) ex_fits (by simp [fits]))
  have HN := Lib.hid (next_any exT (leafC exR 5) 5 1 (w.alloc (cbox (leafC exR 5))) (by decide) I1.out)
  rw [ex_next] at HN
  have hgd := eqg_pane
  have hE : ∀ w, (Op.equalIn 10000 32 (.agg #[.int .i64 5, .int .i64 0, .int .i64 0, .int .i64 3, .int .i64 2]) (.agg #[.int .i64 5, .int .i64 0, .int .i64 0, .int .i64 3, .int .i64 2])).run Try.prog w = .ok true w := fun w => by
    have := eq_pane ⟨5, exR⟩ ⟨5, exR⟩ w
    rw [show eqPn ⟨5, exR⟩ ⟨5, exR⟩ = true by decide] at this
    exact this
  go_enter Try.func9, Try.ntmps9
  go_wp2_with fail
  refine HN.out.mono ?_
  rintro e w2 ⟨rfl, hb2⟩
  have B2 := Lib.hid (A1.out.trans (hb2.mono A1.out.size))
  have I2 := Lib.hid (I1.out.up hb2)
  obtain ⟨c0, c1, c2, c3, c4, c5, c6⟩ := X1.out.up hb2
  simp only [Nat.zero_add] at c1 c2 c3 c4 c5 c6
  have HL := Lib.hid (list_any exT (leafC exR 5) w2 (by decide) I2.out)
  rw [ex_panes] at HL
  clear hb2
  go_wp2_with fail
  refine HL.out.mono ?_
  rintro e w3 ⟨v3, rfl, ho3, hb3⟩
  have B3 := Lib.hid (B2.out.trans (hb3.mono B2.out.size))
  have R3 := Lib.hid ho3.row
  obtain ⟨a3, cap3, rfl⟩ := ho3.row.shape
  obtain ⟨b, o, rfl, hf⟩ := R3.out.place (by simp)
  obtain ⟨e0, e1, e2, e3, e4⟩ := hf 0 ⟨5, exR⟩ rfl
  simp only [Nat.zero_mul, Nat.add_zero] at e0 e1 e2 e3 e4
  clear ho3 hb3 hf c0 c1 c2 c3 c4 c5 c6
  go_wp2
  go_ret
  exact ⟨rfl, B3.out⟩
end Go.Proofs.Ytlpklpkalcgeaaa
