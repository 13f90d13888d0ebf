/- How many cells trees have, together. -/
import Derived.Test.YtlpklpkalcgeaaaEach
namespace Go.Proofs.Ytlpklpkalcgeaaa
open Go.RowKit

theorem wrap_more (n : Nat) : wrap64 (wrap64 (n : Int) + 1) = wrap64 ((n + 1 : Nat) : Int) := by unfold wrap64; omega
theorem wrap_small {n : Nat} (h : n ≤ 1099511627776) : wrap64 (n : Int) = n := by unfold wrap64; omega

/-- A box of one cell. -/
abbrev Box1 (w : World) (b : Nat) (v : Value) (t : TypeId) : Prop := w.heap[b]? = some (.cells #[v] t (0, 0))
theorem Box1.up {w w' : World} {b : Nat} {v : Value} {t : TypeId} (h : Box1 w b v t) (hb : Below w.heap.size w w') : Box1 w' b v t := (hb.block b (lt_of_block h)).trans h
theorem Box1.new (w : World) (v : Value) (t : TypeId) : Box1 (w.alloc (.cells #[v] t)) w.heap.size v t := by
  show (w.heap.push _)[w.heap.size]? = _
  simp

theorem fr_set {σ : Type} {own : σ → Option Obj → Nat → Prop} {s s1 s2 : σ} {W w1 : World} (h : Fr own s W s1 w1) (b : Nat) (v : Value) (hb : ∀ o, own s o b) (hs : ∀ k, own s2 (w1.setCell ⟨b, 0, none⟩ v).heap[k]? k → own s W.heap[k]? k ∨ W.heap.size ≤ k) : Fr own s W s2 (w1.setCell ⟨b, 0, none⟩ v) :=
  ⟨h.os, h.tape, h.output, by simpa [World.setCell] using h.size, fun k hk hn => (Below.heap_setCell w1 ⟨b, 0, none⟩ v k (fun e => hn (by subst e; exact hb _))).trans (h.block k hk hn), hs⟩
end Go.Proofs.Ytlpklpkalcgeaaa
