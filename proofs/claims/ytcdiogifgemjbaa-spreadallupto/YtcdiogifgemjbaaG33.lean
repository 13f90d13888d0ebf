/- Texts of this seat, 3 in one file. -/
import Derived.Test.YtcdiogifgemjbaaG19
import Derived.Test.YtcdiogifgemjbaaG07
import Derived.Deep.RegionHeld3
import Derived.Test.YtcdiogifgemjbaaG32
import Derived.Deep.Cut
/- The cell at a path: the document's answer. -/
namespace Go.Proofs.Ytcdiogifgemjbaa
open Go.RowKit

/-- Numbers that can be cut: as many as there is room for. -/
structure Path (w : World) (v : Value) (p : List Int) : Prop where
  row : Row w v (ints p)
  cap : ∃ a cap, v = .slice a p.length cap ∧ p.length ≤ cap
theorem Path.up {w w' : World} {v : Value} {p : List Int} (h : Path w v p) (hb : Below w.heap.size w w') : Path w' v p := ⟨h.row.up hb, h.cap⟩
/-- The rest of a path. -/
theorem Path.tail {w : World} {b o cap : Nat} {k : Int} {p : List Int} (h : Path w (.slice (some ⟨b, o, none⟩) (k :: p).length cap) (k :: p)) (A : Addr) (hA : A = ⟨b, o + 1, none⟩ ∨ p = []) (c : Nat) (hc : p.length ≤ c) : Path w (.slice (some A) p.length c) p := by
  refine ⟨⟨some A, c, by rw [ints_length], (fun h => by cases h), fun x hx j u hu => ?_⟩, _, c, rfl, hc⟩
  cases hx
  rcases hA with rfl | rfl
  · obtain ⟨b', o', he, hf⟩ := int_at h.row (by simp)
    cases he
    have hj : j < p.length := by
      rcases Nat.lt_or_ge j p.length with h | h
      · exact h
      · rw [List.getElem?_eq_none (by rw [ints_length]; exact h)] at hu; cases hu
    simp [ints, hj] at hu
    rw [← hu, Go.WideShapes.add_plain, Nat.add_assoc, Nat.add_comm 1 j]
    exact hf (j + 1) _ (by simp [hj])
  · simp [ints] at hu

theorem path_if {w : World} {b o cap : Nat} {k : Int} {p : List Int} (h : Path w (.slice (some ⟨b, o, none⟩) (k :: p).length cap) (k :: p)) (hc : p.length + 1 ≤ cap) : Path w (.slice (if cap = 1 then some ⟨b, o, none⟩ else some ⟨b, o + 1, none⟩) p.length (cap - 1)) p := by
  split
  · exact h.tail _ (.inr (List.length_eq_zero_iff.1 (by omega))) _ (by omega)
  · exact h.tail _ (.inl rfl) _ (by omega)

abbrev Nine (n : Nat) (s m : Value) (pb po bb oo : Nat) (y : C) (W : World) : Prop := W.cell? ⟨n, 6, none⟩ = some s ∧ W.cell? ⟨pb, po, none⟩ = some m ∧ W.cell? ⟨bb, oo, none⟩ = some (.int .u8 y.k) ∧ W.cell? ⟨bb, oo + 1, none⟩ = some (.int .i64 y.r.x) ∧ W.cell? ⟨bb, oo + 2, none⟩ = some (.int .i64 y.r.y) ∧ W.cell? ⟨bb, oo + 3, none⟩ = some (.int .i64 y.r.w) ∧ W.cell? ⟨bb, oo + 4, none⟩ = some (.int .i64 y.r.h) ∧ W.cell? ⟨bb, oo + 5, none⟩ = some (.int .i64 y.id) ∧ W.cell? ⟨bb, oo + 6, none⟩ = some (.slice y.a y.n y.cap)
theorem Nine.up {n : Nat} {s m : Value} {pb po bb oo : Nat} {y : C} {W W' : World} (h : Nine n s m pb po bb oo y W) (hb : Below W.heap.size W W') : Nine n s m pb po bb oo y W' := by
  obtain ⟨h0, h1, h2, h3, h4, h5, h6, h7, h8⟩ := h
  exact ⟨(hb.cell (lt_of_cell h0)).trans h0, (hb.cell (lt_of_cell h1)).trans h1, (hb.cell (lt_of_cell h2)).trans h2, (hb.cell (lt_of_cell h3)).trans h3, (hb.cell (lt_of_cell h4)).trans h4, (hb.cell (lt_of_cell h5)).trans h5, (hb.cell (lt_of_cell h6)).trans h6, (hb.cell (lt_of_cell h7)).trans h7, (hb.cell (lt_of_cell h8)).trans h8⟩
theorem Nine.put {n : Nat} {s m : Value} {pb po bb oo : Nat} {y d : C} {W : World} {b : Nat} (h : Nine n s m pb po bb oo y W) (h1 : n ≠ b) (h2 : pb ≠ b) (h3 : bb ≠ b) : Nine n s m pb po bb oo y (put7 W b d) := by
  obtain ⟨h0, h1, h2, h3, h4, h5, h6, h7, h8⟩ := h
  exact ⟨(World.cell?_of_block (heap_put7 (by assumption))).trans h0, (World.cell?_of_block (heap_put7 (by assumption))).trans h1, (World.cell?_of_block (heap_put7 (by assumption))).trans h2, (World.cell?_of_block (heap_put7 (by assumption))).trans h3, (World.cell?_of_block (heap_put7 (by assumption))).trans h4, (World.cell?_of_block (heap_put7 (by assumption))).trans h5, (World.cell?_of_block (heap_put7 (by assumption))).trans h6, (World.cell?_of_block (heap_put7 (by assumption))).trans h7, (World.cell?_of_block (heap_put7 (by assumption))).trans h8⟩

end Go.Proofs.Ytcdiogifgemjbaa
/- A tree that stands as long as certain blocks do. -/
namespace Go.Proofs.Ytcdiogifgemjbaa
open Go.RowKit

theorem crow_agree {w w' : World} {v : Value} {cs : List C} (h : CRow w v cs) (hs : w.heap.size ≤ w'.heap.size) (hk : ∀ b, b < w.heap.size → w'.heap[b]? = w.heap[b]?) : CRow w' v cs := by
  have h2 : Below w.heap.size w { w with heap := w'.heap } := ⟨rfl, rfl, rfl, hs, hk⟩
  have h3 : CRow { w with heap := w'.heap } v cs := h.up h2
  exact h3
theorem Is.agree {w w' : World} {c : C} {t : T} (h : Is w c t) (hs : w.heap.size ≤ w'.heap.size) (hk : ∀ b, b < w.heap.size → w'.heap[b]? = w.heap[b]?) : Is w' c t := by
  induction h with
  | mk c kids cs row len fine each ih => exact .mk c kids cs (crow_agree row hs hk) len fine ih

/-- It is the tree in every world that has the blocks of w0, and those of W from hi on. -/
def IsFor (w0 W : World) (hi : Nat) (d : C) (t : T) : Prop := ∀ W' : World, w0.heap.size ≤ W'.heap.size → (∀ b, b < w0.heap.size → W'.heap[b]? = w0.heap[b]?) → (∀ b, hi ≤ b → b < W.heap.size → W'.heap[b]? = W.heap[b]?) → Is W' d t
theorem IsFor.step {w0 W W2 : World} {hi hi' : Nat} {d : C} {t : T} (h : IsFor w0 W hi d t) (hh : hi' ≤ hi) (hs : W.heap.size ≤ W2.heap.size) (hk : ∀ b, hi ≤ b → b < W.heap.size → W2.heap[b]? = W.heap[b]?) : IsFor w0 W2 hi' d t :=
  fun W' h0 h1 h2 => h W' h0 h1 fun b hb hl => (h2 b (by omega) (by omega)).trans (hk b hb hl)
theorem IsFor.up {w0 W W2 : World} {hi hi' : Nat} {d : C} {t : T} (h : IsFor w0 W hi d t) (hh : hi' ≤ hi) (hb : Below W.heap.size W W2) : IsFor w0 W2 hi' d t := h.step hh hb.size fun b _ hl => hb.block b hl
theorem IsFor.of {w0 W : World} {hi : Nat} {d : C} {t : T} (h : Is w0 d t) : IsFor w0 W hi d t := fun _ h0 h1 _ => h.agree h0 h1
theorem IsFor.zero {w0 W : World} {hi : Nat} : IsFor w0 W hi zC zT := fun W' _ _ _ => zero_is W'
theorem IsFor.is {w0 W : World} {hi : Nat} {d : C} {t : T} (h : IsFor w0 W hi d t) (hb : Below w0.heap.size w0 W) : Is W d t := h W hb.size hb.block fun _ _ _ => rfl

/-- The kids of a cell, one of them another one, in a row of one's own. -/
theorem isFor_set {w0 W : World} {hi g cap j : Nat} {c d : C} {t u' : T} {cs : List C} (hc : Is w0 c t) (hrow : OwnC W hi (.slice (some ⟨g, 0, none⟩) t.kids.length cap) (cs.set j d)) (hcs : cs.length = t.kids.length) (hj : j < t.kids.length)
    (hkids : ∀ (i : Nat) (x : C) (u : T), cs[i]? = some x → t.kids[i]? = some u → Is w0 x u) (hd : IsFor w0 W hi d u') (hf : (⟨c.k, c.r, c.id, some ⟨g, 0, none⟩, t.kids.length, cap⟩ : C).fine) : IsFor w0 W hi ⟨c.k, c.r, c.id, some ⟨g, 0, none⟩, t.kids.length, cap⟩ (setKid t j u') := by
  intro W' h0 h1 h2
  obtain ⟨e1, e2, e3, -⟩ := hc.split
  have hl := own_block hrow (g := g) rfl
  have hrow' : OwnC W' hi (.slice (some ⟨g, 0, none⟩) t.kids.length cap) (cs.set j d) := ownC_kept hrow fun g' hg' => by
    cases hg'
    exact h2 g hl.1 hl.2
  unfold setKid
  rw [e1, e2, e3]
  refine .mk ⟨c.k, c.r, c.id, some ⟨g, 0, none⟩, t.kids.length, cap⟩ (t.kids.set j u') (cs.set j d) hrow'.row (by rw [List.length_set, List.length_set]; exact hcs) hf fun i x u hx hu => ?_
  by_cases hij : j = i
  · subst hij
    rw [List.getElem?_set_self (by omega)] at hx
    rw [List.getElem?_set_self hj] at hu
    cases hx; cases hu
    exact hd W' h0 h1 h2
  · rw [List.getElem?_set_ne hij] at hx hu
    exact (hkids i x u hx hu).agree h0 h1
end Go.Proofs.Ytcdiogifgemjbaa
/- The tree in which a kid stands at a path: the document's answer. -/
namespace Go.Proofs.Ytcdiogifgemjbaa
open Go.RowKit

abbrev rputW (w : World) (c k : C) : World := ((w.alloc (cbox c)).alloc (cbox k)).alloc zeroBox
theorem rput_below (w : World) (c k : C) : Below w.heap.size w (rputW w c k) := (((Below.refl _ _).alloc (Nat.le_refl _) _).alloc (by simp) _).alloc (by simp; omega) _
theorem rput_fst (w : World) (c k : C) : Box7 (rputW w c k) w.heap.size c := ((Box7.new w c).up ((Below.refl _ _).alloc (Nat.le_refl _) _)).up ((Below.refl _ _).alloc (Nat.le_refl _) _)
theorem rput_snd (w : World) (c k : C) : Box7 (rputW w c k) (w.heap.size + 1) k := by
  have := (Box7.new (w.alloc (cbox c)) k).up ((Below.refl _ _).alloc (Nat.le_refl _) zeroBox)
  simpa using this
theorem rput_zero (w : World) (c k : C) : Zero7 (rputW w c k) (w.heap.size + 2) := by
  have := zero_new ((w.alloc (cbox c)).alloc (cbox k))
  simpa using this

abbrev Held (n : Nat) (s m : Value) (pb po bb oo : Nat) (y k : C) (W : World) : Prop := W.cell? ⟨n, 6, none⟩ = some s ∧ W.cell? ⟨pb, po, none⟩ = some m ∧ W.cell? ⟨bb, oo, none⟩ = some (.int .u8 y.k) ∧ W.cell? ⟨bb, oo + 1, none⟩ = some (.int .i64 y.r.x) ∧ W.cell? ⟨bb, oo + 2, none⟩ = some (.int .i64 y.r.y) ∧ W.cell? ⟨bb, oo + 3, none⟩ = some (.int .i64 y.r.w) ∧ W.cell? ⟨bb, oo + 4, none⟩ = some (.int .i64 y.r.h) ∧ W.cell? ⟨bb, oo + 5, none⟩ = some (.int .i64 y.id) ∧ W.cell? ⟨bb, oo + 6, none⟩ = some (.slice y.a y.n y.cap) ∧ W.cell? ⟨n + 1, 0, none⟩ = some (.int .u8 k.k) ∧ W.cell? ⟨n + 1, 1, none⟩ = some (.int .i64 k.r.x) ∧ W.cell? ⟨n + 1, 2, none⟩ = some (.int .i64 k.r.y) ∧ W.cell? ⟨n + 1, 3, none⟩ = some (.int .i64 k.r.w) ∧ W.cell? ⟨n + 1, 4, none⟩ = some (.int .i64 k.r.h) ∧ W.cell? ⟨n + 1, 5, none⟩ = some (.int .i64 k.id) ∧ W.cell? ⟨n + 1, 6, none⟩ = some (.slice k.a k.n k.cap)
theorem Held.agree {n : Nat} {s m : Value} {pb po bb oo : Nat} {y k : C} {W W' : World} (h : Held n s m pb po bb oo y k W) (hk : ∀ b, b = n ∨ b = n + 1 ∨ b = pb ∨ b = bb → W'.heap[b]? = W.heap[b]?) : Held n s m pb po bb oo y k W' := by
  obtain ⟨h0, h1, h2, h3, h4, h5, h6, h7, h8, g0, g1, g2, g3, g4, g5, g6⟩ := h
  have e : ∀ (b o : Nat), (b = n ∨ b = n + 1 ∨ b = pb ∨ b = bb) → W'.cell? ⟨b, o, none⟩ = W.cell? ⟨b, o, none⟩ := fun b o hb => World.cell?_of_block (a := ⟨b, o, none⟩) (hk b hb)
  exact ⟨(e _ _ (by simp)).trans h0, (e _ _ (by simp)).trans h1, (e _ _ (by simp)).trans h2, (e _ _ (by simp)).trans h3, (e _ _ (by simp)).trans h4, (e _ _ (by simp)).trans h5, (e _ _ (by simp)).trans h6, (e _ _ (by simp)).trans h7, (e _ _ (by simp)).trans h8, (e _ _ (by simp)).trans g0, (e _ _ (by simp)).trans g1, (e _ _ (by simp)).trans g2, (e _ _ (by simp)).trans g3, (e _ _ (by simp)).trans g4, (e _ _ (by simp)).trans g5, (e _ _ (by simp)).trans g6⟩
theorem Held.up {n : Nat} {s m : Value} {pb po bb oo : Nat} {y k : C} {W W' : World} (h : Held n s m pb po bb oo y k W) (hb : Below W.heap.size W W') : Held n s m pb po bb oo y k W' := h.agree fun b hh => hb.block b (by
  obtain ⟨h0, h1, h2, h3, h4, h5, h6, h7, h8, g0, g1, g2, g3, g4, g5, g6⟩ := h
  have a0 := lt_of_cell h0
  have a1 := lt_of_cell h1
  have a2 := lt_of_cell h2
  have a3 := lt_of_cell g0
  simp only at a0 a1 a2 a3
  omega)
theorem Held.put {n : Nat} {s m : Value} {pb po bb oo : Nat} {y k d : C} {W : World} {b : Nat} (h : Held n s m pb po bb oo y k W) (h1 : n ≠ b) (h2 : n + 1 ≠ b) (h3 : pb ≠ b) (h4 : bb ≠ b) : Held n s m pb po bb oo y k (put7 W b d) := h.agree fun i hi => heap_put7 (by omega)
theorem Held.alloc {n : Nat} {s m : Value} {pb po bb oo : Nat} {y k : C} {W : World} {o : Obj} (h : Held n s m pb po bb oo y k W) : Held n s m pb po bb oo y k (W.alloc o) := h.up ((Below.refl _ _).alloc (Nat.le_refl _) _)

theorem free_of_block' {w : World} {b : Nat} {cs : Array Value} {t : TypeId} (h : w.heap[b]? = some (.cells cs t (0, 0))) (o : Nat) : w.frozen? ⟨b, o, none⟩ = false := by simp [World.frozen?, h]

theorem below_putO' {B : Nat} {w w' : World} (h : Below B w w') {b : Nat} (hb : B ≤ b) (o : Nat) (c : C) : Below B w (putO w' b o c) := ((((((h.setCell hb _).setCell hb _).setCell hb _).setCell hb _).setCell hb _).setCell hb _).setCell hb _
theorem size_putO' (w : World) (b o : Nat) (c : C) : (putO w b o c).heap.size = w.heap.size := by simp [World.setCell]

/-- What is there behind the inner call. -/
structure After (w0 w W : World) (c d : C) (bk : Nat) (ut : T) : Prop where
  below : Below w.heap.size w W
  top : Box7 W w.heap.size c
  zero : Zero7 W (w.heap.size + 2)
  ge : w.heap.size + 3 ≤ bk
  box : Box7 W bk d
  ans : IsFor w0 W (w.heap.size + 3) d ut
theorem after_one {w0 w w3 w5 : World} {c d : C} {ut : T} (hb : Below w.heap.size w w3) (hc : Box7 w3 w.heap.size c) (hz : Zero7 w3 (w.heap.size + 2)) (hs : w3.heap.size = w.heap.size + 3) (h5 : Below w3.heap.size w3 w5) (hd : IsFor w0 w5 w3.heap.size d ut) : After w0 w (w5.alloc (cbox d)) c d w5.heap.size ut := by
  have ha : Below w5.heap.size w5 (w5.alloc (cbox d)) := (Below.refl _ _).alloc (Nat.le_refl _) _
  have h6 := h5.trans (ha.mono h5.size)
  exact ⟨hb.trans (h6.mono hb.size), hc.up h6, zero_up hz h6, by have := h5.size; omega, Box7.new w5 d, hd.up (by omega) ha⟩
theorem after_two {w0 w w3 w5 : World} {c d : C} {ut : T} (hb : Below w.heap.size w w3) (hc : Box7 w3 w.heap.size c) (hz : Zero7 w3 (w.heap.size + 2)) (hk : Zero7 w3 (w.heap.size + 3)) (hs : w3.heap.size = w.heap.size + 4) (h5 : Below w3.heap.size w3 w5) (hd : IsFor w0 w5 w3.heap.size d ut) : After w0 w (put7 w5 (w.heap.size + 3) d) c d (w.heap.size + 3) ut := by
  have hb5 := hb.trans (h5.mono hb.size)
  refine ⟨below_put7 hb5 (by omega) d, ?_, ?_, Nat.le_refl _, (Box7.of_zero (zero_up hk h5)).put d, hd.step (by omega) (by rw [size_put7]; exact Nat.le_refl _) fun b hb' hl => heap_put7 (by omega)⟩
  · exact (heap_put7 (by omega)).trans (hc.up h5)
  · exact (heap_put7 (by omega)).trans (zero_up hz h5)

def RPutSays (w0 : World) (r : Option T) (w : World) (e : Ending) (w' : World) : Prop := ∃ d, e = .returned (.tuple #[cval d, .bool r.isSome]) ∧ IsFor w0 w' w.heap.size d (r.getD zT) ∧ Below w.heap.size w w'

theorem rput_some {w0 w WA : World} {z : C} {r : Option T} {t' : T} {e : Ending} (hr : r = some t') (he : e = .returned (.tuple #[cval z, .bool true])) (hb : Below w.heap.size w WA) (hd : IsFor w0 WA (w.heap.size + 3) z t') : RPutSays w0 r w e (put7 WA (w.heap.size + 2) z) := by
  subst hr
  exact ⟨z, he, hd.step (by omega) (by rw [size_put7]; exact Nat.le_refl _) fun b hb hl => heap_put7 (by omega), below_put7 hb (by omega) z⟩

end Go.Proofs.Ytcdiogifgemjbaa
