/- Texts of this seat, 3 in one file. -/
import Derived.Test.YtakofjbjciljjaaG13
import Derived.Test.YtakofjbjciljjaaG11
import Derived.Test.YtakofjbjciljjaaG08
import Derived.Laws.AppendOwn
import Derived.Laws.AppendOwnNone
import Derived.Lib.SliceRun
import Derived.WideShapes
/- The law FlatNames. -/
namespace Go.Proofs.Ytakofjbjciljjaa
open Go.RowKit

theorem mem_idsL {l : List T} {m : Int} (h : m ∈ idsL l) : ∃ (j : Nat) (u : T), l[j]? = some u ∧ m ∈ idsT u := by
  induction l with
  | nil => simp [idsL, preL] at h
  | cons t l ih =>
    rw [idsL_cons] at h
    rcases List.mem_append.1 h with h | h
    · exact ⟨0, t, rfl, h⟩
    · obtain ⟨j, u, h1, h2⟩ := ih h
      exact ⟨j + 1, u, by simpa using h1, h2⟩
theorem Is.ids {w : World} {c : C} {t : T} (h : Is w c t) : ∀ m ∈ idsT t, fits m := by
  induction h with
  | mk c ts cs row len fine each ih =>
    intro m hm
    rw [idsT_eq] at hm
    rcases List.mem_append.1 hm with hm | hm
    · have hm' : m ∈ (if c.k = 1 then [c.id] else []) := hm
      split at hm'
      · simp at hm'; subst hm'; exact fine.2.2.1
      · cases hm'
    · obtain ⟨j, u, hu, hmu⟩ := mem_idsL hm
      obtain ⟨x, hx⟩ := get_of len (lt_of_get hu)
      exact ih j x u hx hu m hmu
theorem same_self (t : T) : sameT t t = true := (sameT_iff t t).2 rfl
theorem eqI_self (p : List Int) : eqI p p = true := by simp [eqI]

/-- What is there behind the inner call. -/
structure Aft7 (W W9 : World) (b : C) (bk : Nat) (u : T) : Prop where
  below : Below W.heap.size W W9
  box : Box7 W9 bk b
  ans : Is W9 b u
theorem aft7_one {W w5 w6 : World} {b : C} {u : T} (h5 : Below W.heap.size W w5) (h6 : Below w5.heap.size w5 w6) (hi : ∀ W', (∀ k, w5.heap.size ≤ k → W'.heap[k]? = w6.heap[k]?) → Is W' b u) : Aft7 W (w6.alloc (cbox b)) b w6.heap.size u := by
  have ha : Below w6.heap.size w6 (w6.alloc (cbox b)) := (Below.refl _ _).alloc (Nat.le_refl _) _
  have h56 := h5.trans (h6.mono h5.size)
  exact ⟨h56.trans (ha.mono h56.size), Box7.new w6 b, (hi w6 fun _ _ => rfl).up ha⟩
theorem aft7_two {W w5 w6 : World} {b : C} {u : T} {z : Nat} (h5 : Below W.heap.size W w5) (hz : Zero7 w5 z) (hzl : W.heap.size ≤ z) (h6 : Below w5.heap.size w5 w6) (hi : ∀ W', (∀ k, w5.heap.size ≤ k → W'.heap[k]? = w6.heap[k]?) → Is W' b u) : Aft7 W (put7 w6 z b) b z u := by
  have hzs := lt_of_block hz
  exact ⟨below_put7 (h5.trans (h6.mono h5.size)) hzl b, (Box7.of_zero (zero_up hz h6)).put b, hi _ fun k hk => heap_put7 (by omega)⟩

abbrev CX (n m : Nat) (c d : C) (W : World) : Prop := (W.cell? ⟨n, 0, none⟩ = some (.int .u8 c.k) ∧ W.cell? ⟨n, 1, none⟩ = some (.int .i64 c.r.x) ∧ W.cell? ⟨n, 2, none⟩ = some (.int .i64 c.r.y) ∧ W.cell? ⟨n, 3, none⟩ = some (.int .i64 c.r.w) ∧ W.cell? ⟨n, 4, none⟩ = some (.int .i64 c.r.h) ∧ W.cell? ⟨n, 5, none⟩ = some (.int .i64 c.id) ∧ W.cell? ⟨n, 6, none⟩ = some (.slice c.a c.n c.cap)) ∧ (W.cell? ⟨m, 0, none⟩ = some (.int .u8 d.k) ∧ W.cell? ⟨m, 1, none⟩ = some (.int .i64 d.r.x) ∧ W.cell? ⟨m, 2, none⟩ = some (.int .i64 d.r.y) ∧ W.cell? ⟨m, 3, none⟩ = some (.int .i64 d.r.w) ∧ W.cell? ⟨m, 4, none⟩ = some (.int .i64 d.r.h) ∧ W.cell? ⟨m, 5, none⟩ = some (.int .i64 d.id) ∧ W.cell? ⟨m, 6, none⟩ = some (.slice d.a d.n d.cap))
theorem cx_of {n m : Nat} {c d : C} {W : World} (h1 : CAt W n 0 c) (h2 : CAt W m 0 d) : CX n m c d W := by
  obtain ⟨a0, a1, a2, a3, a4, a5, a6⟩ := h1
  obtain ⟨b0, b1, b2, b3, b4, b5, b6⟩ := h2
  simp only [Nat.zero_add] at a1 a2 a3 a4 a5 a6 b1 b2 b3 b4 b5 b6
  exact ⟨⟨a0, a1, a2, a3, a4, a5, a6⟩, b0, b1, b2, b3, b4, b5, b6⟩
theorem cx_cat {n m : Nat} {c d : C} {W : World} (h : CX n m c d W) : CAt W n 0 c ∧ CAt W m 0 d := by
  obtain ⟨⟨a0, a1, a2, a3, a4, a5, a6⟩, b0, b1, b2, b3, b4, b5, b6⟩ := h
  refine ⟨⟨a0, ?_, ?_, ?_, ?_, ?_, ?_⟩, b0, ?_, ?_, ?_, ?_, ?_, ?_⟩ <;> (simp only [Nat.zero_add]; assumption)
theorem cx_up {n m : Nat} {c d : C} {W W' : World} (h : CX n m c d W) (hb : Below W.heap.size W W') : CX n m c d W' := cx_of ((cx_cat h).1.up hb) ((cx_cat h).2.up hb)
theorem cx_alloc {n m : Nat} {c d : C} {W : World} {o : Obj} (h : CX n m c d W) : CX n m c d (W.alloc o) := cx_up h ((Below.refl _ _).alloc (Nat.le_refl _) _)
theorem cx_put {n m : Nat} {c d e : C} {W : World} {b : Nat} (h : CX n m c d W) (h1 : n ≠ b) (h2 : m ≠ b) : CX n m c d (put7 W b e) := by
  have hc := cx_cat h
  have g : ∀ (k o : Nat) (x : C), k ≠ b → CAt W k o x → CAt (put7 W b e) k o x := fun k o x hk hx => by
    have q : ∀ i v, W.cell? ⟨k, i, none⟩ = some v → (put7 W b e).cell? ⟨k, i, none⟩ = some v := fun i v hv => (World.cell?_of_block (a := ⟨k, i, none⟩) (heap_put7 hk)).trans hv
    obtain ⟨a0, a1, a2, a3, a4, a5, a6⟩ := hx
    exact ⟨q _ _ a0, q _ _ a1, q _ _ a2, q _ _ a3, q _ _ a4, q _ _ a5, q _ _ a6⟩
  exact cx_of (g _ _ _ h1 hc.1) (g _ _ _ h2 hc.2)

end Go.Proofs.Ytakofjbjciljjaa
/- (This seat has no rect.Has: nothing but what it leans on.) -/
/- Rows of rectangles in memory of the call's own: how they are made, copied, added to. -/
namespace Go.Proofs.Ytakofjbjciljjaa
open Go.RowKit

/-- The cells of rectangles, one behind the other. -/
def flat (l : List R) : List Value := l.flatMap enc
theorem flat_length (l : List R) : (flat l).length = l.length * 4 := by
  induction l with
  | nil => rfl
  | cons r l ih => simp only [flat, List.flatMap_cons, List.length_append] at *; rw [ih]; simp [enc]; omega
theorem flat_append (a b : List R) : flat (a ++ b) = flat a ++ flat b := by simp [flat]
theorem flat_one (r : R) : flat [r] = enc r := by simp [flat]
theorem flat_get (l : List R) (j c : Nat) (r : R) (hj : l[j]? = some r) (hc : c < 4) : (flat l)[j * 4 + c]? = (enc r)[c]? := by
  induction l generalizing j with
  | nil => simp at hj
  | cons q l ih =>
    have he : flat (q :: l) = enc q ++ flat l := by simp [flat]
    rw [he]
    have hq : (enc q).length = 4 := rfl
    cases j with
    | zero =>
      simp at hj; subst hj
      rw [List.getElem?_append_left (by omega)]
      simp
    | succ j =>
      rw [List.getElem?_append_right (by omega), hq, show (j + 1) * 4 + c - 4 = j * 4 + c by omega]
      exact ih j (by simpa using hj)
theorem flat_oneCell (l : List R) : ∀ u ∈ flat l, u.oneCell' = true := by
  intro u hu
  simp only [flat, List.mem_flatMap] at hu
  obtain ⟨r, -, hr⟩ := hu
  simp [enc] at hr
  rcases hr with rfl | rfl | rfl | rfl <;> rfl

/-- A row of the call's own. -/
def Owns (w : World) (base : Nat) (v : Value) (l : List R) : Prop := w.ownsRow base 23 4 v l.length (flat l)

theorem rat_of_flat {w : World} {x : Addr} {l : List R} (h : ∀ j u, (flat l)[j]? = some u → w.cell? (x.add j) = some u) (b o : Nat) (hx : x = ⟨b, o, none⟩) (j : Nat) (r : R) (hj : l[j]? = some r) : RAt w b (o + j * 4) r := by
  subst hx
  have hc : ∀ c, c < 4 → ∀ u, (enc r)[c]? = some u → w.cell? ⟨b, o + j * 4 + c, none⟩ = some u := fun c hc u hu => by
    have := h (j * 4 + c) u (by rw [flat_get l j c r hj hc]; exact hu)
    rw [Go.WideShapes.add_plain] at this
    rw [Nat.add_assoc]; exact this
  exact ⟨hc 0 (by omega) _ rfl, hc 1 (by omega) _ rfl, hc 2 (by omega) _ rfl, hc 3 (by omega) _ rfl⟩

theorem Owns.row {w : World} {base : Nat} {v : Value} {l : List R} (h : Owns w base v l) : RRow w v l := by
  rcases h.2 with ⟨rfl, hn⟩ | ⟨g, cap, cur, rfl, hb, hg, hn, hm, hs, ht⟩
  · exact .inl ⟨_, _, rfl, List.length_eq_zero_iff.1 hn⟩
  · exact .inr ⟨g, 0, cap, rfl, fun j r hj => rat_of_flat (h.cells (g := g) rfl) g 0 rfl j r hj⟩

theorem Owns.up {w w' : World} {base : Nat} {v : Value} {l : List R} (h : Owns w base v l) (hb : Below w.heap.size w w') : Owns w' base v l := by
  refine ⟨h.1, ?_⟩
  rcases h.2 with hn | ⟨g, cap, cur, rfl, hg0, hg, rest⟩
  · exact .inl hn
  · exact .inr ⟨g, cap, cur, rfl, hg0, (hb.block g (Array.getElem?_eq_some_iff.1 hg).1).trans hg, rest⟩

theorem Owns.nil (w : World) (base : Nat) : Owns w base (.slice none 0 0) [] := World.ownsRow_nil w base _ _

theorem rat_cells {w : World} {b o : Nat} {l : List R} (h : ∀ (j : Nat) (r : R), l[j]? = some r → RAt w b (o + j * 4) r) : ∀ j u, (flat l)[j]? = some u → w.cell? ((⟨b, o, none⟩ : Addr).add j) = some u := fun j u hu => by
  have hj : j / 4 < l.length := by
    rcases Nat.lt_or_ge j (flat l).length with h1 | h1
    · rw [flat_length] at h1; omega
    · rw [List.getElem?_eq_none h1] at hu; cases hu
  have hr := List.getElem?_eq_getElem hj
  have hc : j % 4 < 4 := Nat.mod_lt _ (by omega)
  have e : j / 4 * 4 + j % 4 = j := by omega
  have h1 := flat_get l (j / 4) (j % 4) _ hr hc
  rw [e, hu] at h1
  obtain ⟨a0, a1, a2, a3⟩ := h _ _ hr
  rw [Go.WideShapes.add_plain]
  generalize hm : j % 4 = m at *
  have e' : o + j = o + j / 4 * 4 + m := by omega
  rw [e']
  match m, hc with
  | 0, _ => simp [enc] at h1; rw [h1]; exact a0
  | 1, _ => simp [enc] at h1; rw [h1]; exact a1
  | 2, _ => simp [enc] at h1; rw [h1]; exact a2
  | 3, _ => simp [enc] at h1; rw [h1]; exact a3

abbrev zeroR : Value := .agg #[.int .i64 0, .int .i64 0, .int .i64 0, .int .i64 0]
theorem rinfo : ∃ i, Try.prog.info? 23 = some i ∧ i.zero = some zeroR ∧ i.size = 4 ∧ i.bytes = 32 := info_parts (P := Try.prog) (e := 23) (z := zeroR) (size := 4) (bytes := 32) (by kernel_rfl)

end Go.Proofs.Ytakofjbjciljjaa
