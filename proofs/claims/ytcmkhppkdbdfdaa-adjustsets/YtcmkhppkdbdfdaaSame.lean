/- Are two trees the same? The program's answer. -/
import Derived.Test.YtcmkhppkdbdfdaaCnt
import Derived.Laws.StructEq
namespace Go.Proofs.Ytcmkhppkdbdfdaa
open Go.RowKit

def eqR (r q : R) : Bool := decide (r = q)
theorem eqR_parts (r q : R) : eqR r q = (r.x == q.x && (r.y == q.y && (r.w == q.w && r.h == q.h))) := by
  obtain ⟨a, b, c, d⟩ := r
  obtain ⟨a', b', c', d'⟩ := q
  unfold eqR
  rw [Bool.eq_iff_iff]
  simp

theorem eq_guard : Try.prog.eqGuardType Try.prog.depth 30 = false := by kernel_rfl
theorem eq_rect (r q : R) (w : World) : (Op.equalIn 10000 30 (val r) (val q)).run Try.prog w = .ok (eqR r q) w := by
  have u3 := Try.underlying3
  have a3 := Try.isAgg3
  have z3 := Try.sizeOf3
  have hS : Try.prog.underlying 30 = some (.struct (Try.prog.fieldsOf 30)) := by kernel_rfl
  have hp : Try.prog.stoodInHeld 30 = false := by kernel_rfl
  rw [show (10000 : Nat) = 9999 + 1 from rfl, run_equalIn_agg w 9999 30 _ _ hS hp]
  simp only [Program.fieldsOf, Try.underlying30]
  rw [eqR_parts]
  cases h1 : r.x == q.x <;> cases h2 : r.y == q.y <;> cases h3 : r.w == q.w <;> cases h4 : r.h == q.h
  all_goals
    go_simp
    try simp [h1, h2, h3, h4]

mutual
def sameT : T → T → Bool
  | .node k r i l, .node k' r' i' l' => decide (k = k') && (eqR r r' && (decide (i = i') && sameL l l'))
def sameL : List T → List T → Bool
  | [], [] => true
  | t :: l, u :: m => sameT t u && sameL l m
  | [], _ :: _ => false
  | _ :: _, [] => false
end
theorem sameT_eq (a b : T) : sameT a b = (decide (a.k = b.k) && (eqR a.r b.r && (decide (a.id = b.id) && sameL a.kids b.kids))) := by cases a; cases b; rw [sameT]; rfl
mutual
theorem sameT_iff : ∀ a b : T, sameT a b = true ↔ a = b
  | .node k r i l, .node k' r' i' l' => by
    rw [sameT]
    simp only [Bool.and_eq_true, decide_eq_true_eq, sameL_iff l l', eqR, T.node.injEq]
theorem sameL_iff : ∀ a b : List T, sameL a b = true ↔ a = b
  | [], [] => by simp [sameL]
  | t :: l, u :: m => by
    rw [sameL, Bool.and_eq_true, sameT_iff t u, sameL_iff l m, List.cons.injEq]
  | [], _ :: _ => by simp [sameL]
  | _ :: _, [] => by simp [sameL]
end
theorem sameL_len {a b : List T} (h : a.length ≠ b.length) : sameL a b = false := by
  cases e : sameL a b with
  | false => rfl
  | true => exact absurd (congrArg List.length ((sameL_iff a b).1 e)) h
theorem sameL_no {a b : List T} {k : Nat} {t u : T} (ha : a[k]? = some t) (hb : b[k]? = some u) (h : sameT t u = false) : sameL a b = false := by
  cases e : sameL a b with
  | false => rfl
  | true =>
    have := (sameL_iff a b).1 e
    subst this
    rw [ha] at hb; cases hb
    rw [(sameT_iff t t).2 rfl] at h; cases h
theorem sameL_yes {a b : List T} (hl : a.length = b.length) (h : ∀ (k : Nat) (t u : T), a[k]? = some t → b[k]? = some u → sameT t u = true) : sameL a b = true := by
  rw [sameL_iff]
  refine List.ext_getElem? fun k => ?_
  rcases Nat.lt_or_ge k a.length with hk | hk
  · have h1 := List.getElem?_eq_getElem hk
    have h2 := List.getElem?_eq_getElem (show k < b.length by omega)
    rw [h1, h2, (sameT_iff _ _).1 (h k _ _ h1 h2)]
  · rw [List.getElem?_eq_none hk, List.getElem?_eq_none (by omega)]
end Go.Proofs.Ytcmkhppkdbdfdaa
