/- Are two panes the same? -/
import Derived.Test.YtlpklpkalcgeaaaPane
namespace Go.Proofs.Ytlpklpkalcgeaaa
open Go.RowKit

def eqPn (p q : Pn) : Bool := decide (p = q)
theorem eqPn_parts (p q : Pn) : eqPn p q = (p.id == q.id && (p.r.x == q.r.x && (p.r.y == q.r.y && (p.r.w == q.r.w && p.r.h == q.r.h)))) := by
  obtain ⟨i, ⟨a, b, c, d⟩⟩ := p
  obtain ⟨i', ⟨a', b', c', d'⟩⟩ := q
  unfold eqPn
  rw [Bool.eq_iff_iff]
  simp
theorem eqg_pane : Try.prog.eqGuardType Try.prog.depth 32 = false := by kernel_rfl
set_option maxRecDepth 100000 in
theorem eq_pane (p q : Pn) (w : World) : (Op.equalIn 10000 32 (pval p) (pval q)).run Try.prog w = .ok (eqPn p q) w := by
  have u3 := Try.underlying3
  have a3 := Try.isAgg3
  have z3 := Try.sizeOf3
  have a23 := Try.isAgg23
  have z23 := Try.sizeOf23
  have hS : Try.prog.underlying 32 = some (.struct (Try.prog.fieldsOf 32)) := by kernel_rfl
  have hp : Try.prog.stoodInHeld 32 = false := by kernel_rfl
  have hS' : Try.prog.underlying 23 = some (.struct (Try.prog.fieldsOf 23)) := by kernel_rfl
  have hp' : Try.prog.stoodInHeld 23 = false := by kernel_rfl
  rw [show (10000 : Nat) = 9998 + 1 + 1 from rfl, run_equalIn_agg w 9999 32 _ _ hS hp]
  simp only [Program.fieldsOf, Try.underlying32]
  rw [eqPn_parts]
  have e23 : ∀ xs ys : Array Value, (Op.equalIn 9999 23 (.agg xs) (.agg ys)).run Try.prog w = (Op.eqFields 9998 xs ys (Try.prog.fieldsOf 23).toList).run Try.prog w := fun xs ys => run_equalIn_agg w 9998 23 xs ys hS' hp'
  simp only [Program.fieldsOf, Try.underlying23] at e23
  clear hS hS' hp hp'
  cases h0 : p.id == q.id <;> cases h1 : p.r.x == q.r.x <;> cases h2 : p.r.y == q.r.y <;> cases h3 : p.r.w == q.r.w <;> cases h4 : p.r.h == q.r.h
  all_goals
    go_simp
    try simp [h0, h1, h2, h3, h4, e23]
    try go_simp
    try simp [h0, h1, h2, h3, h4]
end Go.Proofs.Ytlpklpkalcgeaaa
