/- A tree that stands as long as certain blocks do. -/
import Derived.Test.YtibjpkicchdomaaPutB
import Derived.Test.YtibjpkicchdomaaRAt
namespace Go.Proofs.Ytibjpkicchdomaa
open Go.RowKit

theorem crow_agree {w w' : World} {v : Value} {cs : List C} (h : CRow w v cs) (hs : w.heap.size ≤ w'.heap.size) (hk : ∀ b, b < w.heap.size → w'.heap[b]? = w.heap[b]?) : CRow w' v cs := by
  have h2 : Below w.heap.size w { w with heap := w'.heap } := ⟨rfl, rfl, rfl, hs, hk⟩
  have h3 : CRow { w with heap := w'.heap } v cs := h.up h2
  exact h3
theorem Is.agree {w w' : World} {c : C} {t : T} (h : Is w c t) (hs : w.heap.size ≤ w'.heap.size) (hk : ∀ b, b < w.heap.size → w'.heap[b]? = w.heap[b]?) : Is w' c t := by
  induction h with
  | mk c kids cs row len fine each ih => exact .mk c kids cs (crow_agree row hs hk) len fine ih

/-- It is the tree in every world that has the blocks of w0, and those of W from hi on. -/
def IsFor (w0 W : World) (hi : Nat) (d : C) (t : T) : Prop := ∀ W' : World, w0.heap.size ≤ W'.heap.size → (∀ b, b < w0.heap.size → W'.heap[b]? = w0.heap[b]?) → (∀ b, hi ≤ b → b < W.heap.size → W'.heap[b]? = W.heap[b]?) → Is W' d t
theorem IsFor.step {w0 W W2 : World} {hi hi' : Nat} {d : C} {t : T} (h : IsFor w0 W hi d t) (hh : hi' ≤ hi) (hs : W.heap.size ≤ W2.heap.size) (hk : ∀ b, hi ≤ b → b < W.heap.size → W2.heap[b]? = W.heap[b]?) : IsFor w0 W2 hi' d t :=
  fun W' h0 h1 h2 => h W' h0 h1 fun b hb hl => (h2 b (by omega) (by omega)).trans (hk b hb hl)
theorem IsFor.up {w0 W W2 : World} {hi hi' : Nat} {d : C} {t : T} (h : IsFor w0 W hi d t) (hh : hi' ≤ hi) (hb : Below W.heap.size W W2) : IsFor w0 W2 hi' d t := h.step hh hb.size fun b _ hl => hb.block b hl
theorem IsFor.of {w0 W : World} {hi : Nat} {d : C} {t : T} (h : Is w0 d t) : IsFor w0 W hi d t := fun _ h0 h1 _ => h.agree h0 h1
theorem IsFor.zero {w0 W : World} {hi : Nat} : IsFor w0 W hi zC zT := fun W' _ _ _ => zero_is W'
theorem IsFor.is {w0 W : World} {hi : Nat} {d : C} {t : T} (h : IsFor w0 W hi d t) (hb : Below w0.heap.size w0 W) : Is W d t := h W hb.size hb.block fun _ _ _ => rfl

/-- The kids of a cell, one of them another one, in a row of one's own. -/
theorem isFor_set {w0 W : World} {hi g cap j : Nat} {c d : C} {t u' : T} {cs : List C} (hc : Is w0 c t) (hrow : OwnC W hi (.slice (some ⟨g, 0, none⟩) t.kids.length cap) (cs.set j d)) (hcs : cs.length = t.kids.length) (hj : j < t.kids.length)
    (hkids : ∀ (i : Nat) (x : C) (u : T), cs[i]? = some x → t.kids[i]? = some u → Is w0 x u) (hd : IsFor w0 W hi d u') (hf : (⟨c.k, c.r, c.id, some ⟨g, 0, none⟩, t.kids.length, cap⟩ : C).fine) : IsFor w0 W hi ⟨c.k, c.r, c.id, some ⟨g, 0, none⟩, t.kids.length, cap⟩ (setKid t j u') := by
  intro W' h0 h1 h2
  obtain ⟨e1, e2, e3, -⟩ := hc.split
  have hl := own_block hrow (g := g) rfl
  have hrow' : OwnC W' hi (.slice (some ⟨g, 0, none⟩) t.kids.length cap) (cs.set j d) := ownC_kept hrow fun g' hg' => by
    cases hg'
    exact h2 g hl.1 hl.2
  unfold setKid
  rw [e1, e2, e3]
  refine .mk ⟨c.k, c.r, c.id, some ⟨g, 0, none⟩, t.kids.length, cap⟩ (t.kids.set j u') (cs.set j d) hrow'.row (by rw [List.length_set, List.length_set]; exact hcs) hf fun i x u hx hu => ?_
  by_cases hij : j = i
  · subst hij
    rw [List.getElem?_set_self (by omega)] at hx
    rw [List.getElem?_set_self hj] at hu
    cases hx; cases hu
    exact hd W' h0 h1 h2
  · rw [List.getElem?_set_ne hij] at hx hu
    exact (hkids i x u hx hu).agree h0 h1
end Go.Proofs.Ytibjpkicchdomaa
