/- Are two rows of numbers the same? And a leaf. -/
import Derived.Test.YtajhojbnpajelaaFind
namespace Go.Proofs.Ytajhojbnpajelaa
open Go.RowKit

theorem int_at {w : World} {a : Option Addr} {cap n : Nat} {p : List Int} (h : Row w (.slice a n cap) (ints p)) (hp : 0 < p.length) : ∃ b o, a = some ⟨b, o, none⟩ ∧ ∀ (j : Nat) (m : Int), p[j]? = some m → w.cell? ⟨b, o + j, none⟩ = some (.int .i64 m) := by
  obtain ⟨a', cap', he, h0, hc⟩ := h
  cases he
  obtain ⟨b, o, h1, h2⟩ := row_at h0 hc (by rw [ints_length]; exact hp)
  exact ⟨b, o, h1, fun j m hm => h2 j _ (by simp [ints, hm])⟩
theorem row_shape {w : World} {v : Value} {p : List Int} (h : Row w v (ints p)) : ∃ a cap, v = .slice a p.length cap := by
  obtain ⟨a, cap, he, -⟩ := h
  exact ⟨a, cap, by rw [he, ints_length]⟩

def eqI (p q : List Int) : Bool := decide (p = q)
theorem eqI_len {p q : List Int} (h : p.length ≠ q.length) : eqI p q = false := by
  unfold eqI; rw [decide_eq_false]; exact fun e => h (congrArg _ e)
theorem eqI_no {p q : List Int} {k : Nat} {a b : Int} (ha : p[k]? = some a) (hb : q[k]? = some b) (h : a ≠ b) : eqI p q = false := by
  unfold eqI; rw [decide_eq_false]; intro e; subst e; rw [ha] at hb; cases hb; exact h rfl
theorem eqI_yes {p q : List Int} (hl : p.length = q.length) (h : ∀ (k : Nat) (a b : Int), p[k]? = some a → q[k]? = some b → a = b) : eqI p q = true := by
  unfold eqI
  rw [decide_eq_true]
  refine List.ext_getElem? fun k => ?_
  rcases Nat.lt_or_ge k p.length with hk | hk
  · have h1 := List.getElem?_eq_getElem hk
    have h2 := List.getElem?_eq_getElem (show k < q.length by omega)
    rw [h1, h2, h k _ _ h1 h2]
  · rw [List.getElem?_eq_none hk, List.getElem?_eq_none (by omega)]
end Go.Proofs.Ytajhojbnpajelaa
