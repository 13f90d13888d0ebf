/- The cell at a path, as it stands there. -/
import Derived.Test.YtlpklpkalcgeaaaAwake
namespace Go.Proofs.Ytlpklpkalcgeaaa
open Go.RowKit

def kidAt (t : T) (k : Int) : Option T := if 0 ≤ k then t.kids[k.toNat]? else none
def atT : T → List Int → Option T
  | t, [] => some t
  | t, k :: p => match kidAt t k with
    | some u => atT u p
    | none => none
theorem kid_some {t u : T} {k : Int} (h : kidAt t k = some u) : ∃ j : Nat, k = j ∧ t.kids[j]? = some u := by
  unfold kidAt at h
  split at h
  · exact ⟨k.toNat, by omega, h⟩
  · cases h
theorem kid_none {t : T} {k : Int} (h : kidAt t k = none) : k < 0 ∨ (t.kids.length : Int) ≤ k := by
  unfold kidAt at h
  split at h
  · rw [List.getElem?_eq_none_iff] at h; omega
  · omega
theorem atT_append (t : T) (p q : List Int) : atT t (p ++ q) = match atT t p with | some u => atT u q | none => none := by
  induction p generalizing t with
  | nil => rfl
  | cons k p ih =>
    simp only [List.cons_append, atT]
    cases h : kidAt t k with
    | some u => exact ih u
    | none => rfl
theorem atT_step {t u : T} {p : List Int} {i : Nat} {k : Int} (h : atT t (p.take i) = some u) (hk : p[i]? = some k) : atT t (p.take (i + 1)) = kidAt u k := by
  rw [List.take_add_one, hk, atT_append, h]
  simp only [Option.toList, atT]
  cases kidAt u k <;> rfl
theorem atT_stop {t : T} {p : List Int} {i : Nat} (h : atT t (p.take i) = none) : atT t p = none := by
  have := atT_append t (p.take i) (p.drop i)
  rw [List.take_append_drop, h] at this
  exact this

/-- A box of a cell. -/
def Box7 (w : World) (b : Nat) (c : C) : Prop := w.heap[b]? = some (cbox c)
theorem Box7.up {w w' : World} {b : Nat} {c : C} (h : Box7 w b c) (hb : Below w.heap.size w w') : Box7 w' b c := (hb.block b (lt_of_block h)).trans h
theorem Box7.cat {w : World} {b : Nat} {c : C} (h : Box7 w b c) : CAt w b 0 c := by
  have h' : w.heap[b]? = some (cbox c) := h
  refine ⟨?_, ?_, ?_, ?_, ?_, ?_, ?_⟩ <;> simp [World.cell?, h']
theorem Box7.free {w : World} {b : Nat} {c : C} (h : Box7 w b c) (o : Nat) : w.frozen? ⟨b, o, none⟩ = false := by
  have h' : w.heap[b]? = some (cbox c) := h
  simp [World.frozen?, h']
theorem Box7.new (w : World) (c : C) : Box7 (w.alloc (cbox c)) w.heap.size c := heap_alloc_new w _
theorem set_block {w : World} {b i : Nat} {cs : Array Value} {t : TypeId} {fr : Nat × Nat} (h : w.heap[b]? = some (.cells cs t fr)) (v : Value) : (w.setCell ⟨b, i, none⟩ v).heap[b]? = some (.cells (cs.setIfInBounds i v) t fr) := by
  have hlt := lt_of_block h
  have h' : w.heap[b] = .cells cs t fr := by simpa [Array.getElem?_eq_getElem hlt] using h
  show (w.heap.modify b _)[b]? = _
  rw [Array.getElem?_eq_getElem (by simpa using hlt), Array.getElem_modify_self, h']
  rfl
theorem Box7.put {w : World} {b : Nat} {c : C} (h : Box7 w b c) (d : C) : Box7 (put7 w b d) b d := by
  have h' : w.heap[b]? = some (cbox c) := h
  have h1 := set_block (i := 0) h' (.int .u8 d.k)
  have h2 := set_block (i := 1) h1 (.int .i64 d.r.x)
  have h3 := set_block (i := 2) h2 (.int .i64 d.r.y)
  have h4 := set_block (i := 3) h3 (.int .i64 d.r.w)
  have h5 := set_block (i := 4) h4 (.int .i64 d.r.h)
  have h6 := set_block (i := 5) h5 (.int .i64 d.id)
  have h7 := set_block (i := 6) h6 (.slice d.a d.n d.cap)
  refine h7.trans ?_
  simp

/-- One step of a path. -/
def StepSays (w0 : World) (t : T) (k : Int) (b : Nat) (W : World) (e : Ending) (w' : World) : Prop :=
  match kidAt t k with
  | some u => ∃ y, e = .returned (.bool false) ∧ Is w0 y u ∧ w' = put7 W b y
  | none => e = .returned (.bool true) ∧ w' = W
theorem step_some {w0 : World} {t u : T} {k : Int} {b : Nat} {W w' : World} {e : Ending} {y : C} (h : kidAt t k = some u) (he : e = .returned (.bool false)) (hi : Is w0 y u) (hw : w' = put7 W b y) : StepSays w0 t k b W e w' := by
  unfold StepSays; rw [h]; exact ⟨y, he, hi, hw⟩
theorem step_none {w0 : World} {t : T} {k : Int} {b : Nat} {W w' : World} {e : Ending} (h : kidAt t k = none) (he : e = .returned (.bool true)) (hw : w' = W) : StepSays w0 t k b W e w' := by
  unfold StepSays; rw [h]; exact ⟨he, hw⟩

set_option maxRecDepth 100000 in
theorem fol1_any (w0 : World) (t : T) (x : C) (k : Int) (b : Nat) (W : World) (hb0 : Below w0.heap.size w0 W) (hb : w0.heap.size ≤ b) (hx : Box7 W b x) (hi : Is w0 x t) :
    Calls Try.prog 45 #[.int .i64 k, .pointer (some ⟨b, 0, none⟩)] W (StepSays w0 t k b W) := by
  obtain ⟨c0, c1, c2, c3, c4, c5, c6⟩ := hx.cat
  simp only [Nat.zero_add] at c1 c2 c3 c4 c5 c6
  have f0 := hx.free 0
  have f1 := hx.free 1
  have f2 := hx.free 2
  have f3 := hx.free 3
  have f4 := hx.free 4
  have f5 := hx.free 5
  have f6 := hx.free 6
  have hn := hi.n
  have HR := Lib.hid hi.row
  obtain ⟨xk, xr, xid, xa, xn, xcap⟩ := x
  simp only at hn
  subst hn
  simp only at c0 c1 c2 c3 c4 c5 c6
  clear hi hx
  cases hk : kidAt t k with
  | none =>
    have HK := Lib.hid hk
    rcases kid_none hk with h | h
    · have d0 : decide (k < 0) = true := decide_eq_true h
      clear hk
      go_enter Try.func45, Try.ntmps45
      go_wp2
      go_ret
      exact step_none HK.out rfl rfl
    · clear hk
      by_cases h0 : k < 0
      · have d0 : decide (k < 0) = true := decide_eq_true h0
        go_enter Try.func45, Try.ntmps45
        go_wp2
        go_ret
        exact step_none HK.out rfl rfl
      · have d0 : decide (k < 0) = false := decide_eq_false h0
        have d1 : decide ((t.kids.length : Int) ≤ k) = true := decide_eq_true h
        go_enter Try.func45, Try.ntmps45
        go_wp2
        go_ret
        exact step_none HK.out rfl rfl
  | some u =>
    have HK := Lib.hid hk
    obtain ⟨j, rfl, hj⟩ := kid_some hk
    have hjl : j < t.kids.length := (List.getElem?_eq_some_iff.1 hj).1
    obtain ⟨bb, o, rfl, hf⟩ := HR.out.place (by omega)
    obtain ⟨y, hy, hiy⟩ := hf j u hj
    clear hf hk hj
    have hbb : bb < w0.heap.size := hy.lt
    have hne : bb ≠ b := by omega
    obtain ⟨e0, e1, e2, e3, e4, e5, e6⟩ := hy.up hb0
    have HY := Lib.hid hiy
    clear hy hiy
    have d0 : decide ((j : Int) < 0) = false := decide_eq_false (by omega)
    have d1 : decide ((t.kids.length : Int) ≤ (j : Int)) = false := decide_eq_false (by omega)
    have d2 : decide (t.kids.length ≤ j) = false := decide_eq_false (by omega)
    go_enter Try.func45, Try.ntmps45
    go_wp2
    go_ret
    exact step_some HK.out rfl HY.out rfl
end Go.Proofs.Ytlpklpkalcgeaaa
