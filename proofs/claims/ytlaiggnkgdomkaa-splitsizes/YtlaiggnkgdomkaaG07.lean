/- Texts of this seat, 3 in one file. -/
import Derived.Test.YtlaiggnkgdomkaaG04
import Derived.Test.YtlaiggnkgdomkaaG05
/- The cell at a path, as it stands there. -/
namespace Go.Proofs.Ytlaiggnkgdomkaa
open Go.RowKit

/-- One step of a path. -/
def StepSays (w0 : World) (t : T) (k : Int) (b : Nat) (W : World) (e : Ending) (w' : World) : Prop :=
  match kidAt t k with
  | some u => ∃ y, e = .returned (.bool false) ∧ Is w0 y u ∧ w' = put7 W b y
  | none => e = .returned (.bool true) ∧ w' = W
theorem step_some {w0 : World} {t u : T} {k : Int} {b : Nat} {W w' : World} {e : Ending} {y : C} (h : kidAt t k = some u) (he : e = .returned (.bool false)) (hi : Is w0 y u) (hw : w' = put7 W b y) : StepSays w0 t k b W e w' := by
  unfold StepSays; rw [h]; exact ⟨y, he, hi, hw⟩
theorem step_none {w0 : World} {t : T} {k : Int} {b : Nat} {W w' : World} {e : Ending} (h : kidAt t k = none) (he : e = .returned (.bool true)) (hw : w' = W) : StepSays w0 t k b W e w' := by
  unfold StepSays; rw [h]; exact ⟨he, hw⟩

set_option maxRecDepth 100000 in
theorem fol1_any (w0 : World) (t : T) (x : C) (k : Int) (b : Nat) (W : World) (hb0 : Below w0.heap.size w0 W) (hb : w0.heap.size ≤ b) (hx : Box7 W b x) (hi : Is w0 x t) :
    Calls Try.prog 39 #[.int .i64 k, .pointer (some ⟨b, 0, none⟩)] W (StepSays w0 t k b W) := by
  obtain ⟨c0, c1, c2, c3, c4, c5, c6⟩ := hx.cat
  simp only [Nat.zero_add] at c1 c2 c3 c4 c5 c6
  have f0 := hx.free 0
  have f1 := hx.free 1
  have f2 := hx.free 2
  have f3 := hx.free 3
  have f4 := hx.free 4
  have f5 := hx.free 5
  have f6 := hx.free 6
  have hn := hi.n
  have HR := Lib.hid hi.row
  obtain ⟨xk, xr, xid, xa, xn, xcap⟩ := x
  simp only at hn
  subst hn
  simp only at c0 c1 c2 c3 c4 c5 c6
  clear hi hx
  cases hk : kidAt t k with
  | none =>
    have HK := Lib.hid hk
    rcases kid_none hk with h | h
    · have d0 : decide (k < 0) = true := decide_eq_true h
      clear hk
      go_enter Try.func39, Try.ntmps39
      go_wp2
      go_ret
      exact step_none HK.out rfl rfl
    · clear hk
      by_cases h0 : k < 0
      · have d0 : decide (k < 0) = true := decide_eq_true h0
        go_enter Try.func39, Try.ntmps39
        go_wp2
        go_ret
        exact step_none HK.out rfl rfl
      · have d0 : decide (k < 0) = false := decide_eq_false h0
        have d1 : decide ((t.kids.length : Int) ≤ k) = true := decide_eq_true h
        go_enter Try.func39, Try.ntmps39
        go_wp2
        go_ret
        exact step_none HK.out rfl rfl
  | some u =>
    have HK := Lib.hid hk
    obtain ⟨j, rfl, hj⟩ := kid_some hk
    have hjl : j < t.kids.length := (List.getElem?_eq_some_iff.1 hj).1
    obtain ⟨bb, o, rfl, hf⟩ := HR.out.place (by omega)
    obtain ⟨y, hy, hiy⟩ := hf j u hj
    clear hf hk hj
    have hbb : bb < w0.heap.size := hy.lt
    have hne : bb ≠ b := by omega
    obtain ⟨e0, e1, e2, e3, e4, e5, e6⟩ := hy.up hb0
    have HY := Lib.hid hiy
    clear hy hiy
    have d0 : decide ((j : Int) < 0) = false := decide_eq_false (by omega)
    have d1 : decide ((t.kids.length : Int) ≤ (j : Int)) = false := decide_eq_false (by omega)
    have d2 : decide (t.kids.length ≤ j) = false := decide_eq_false (by omega)
    go_enter Try.func39, Try.ntmps39
    go_wp2
    go_ret
    exact step_some HK.out rfl HY.out rfl
end Go.Proofs.Ytlaiggnkgdomkaa
/- The document's row of a tree's cells, of its leaves, of their numbers. -/
namespace Go.Proofs.Ytlaiggnkgdomkaa
open Go.RowKit

mutual
def preT : T → List T
  | .node k r i l => .node k r i l :: preL l
def preL : List T → List T
  | [] => []
  | t :: l => preT t ++ preL l
end
theorem preT_eq (t : T) : preT t = t :: preL t.kids := by cases t; rw [preT]; rfl
theorem preL_append (a b : List T) : preL (a ++ b) = preL a ++ preL b := by
  induction a with
  | nil => simp [preL]
  | cons t l ih => simp only [List.cons_append, preL, ih, List.append_assoc]
theorem preL_step {l : List T} {k : Nat} {t : T} (h : l[k]? = some t) : preL (l.take (k + 1)) = preL (l.take k) ++ preT t := by
  rw [List.take_add_one, h, preL_append]; simp [preL]
mutual
theorem preT_len : ∀ t, (preT t).length = sz t
  | .node _ _ _ l => by rw [preT, sz, List.length_cons, preL_len l]; omega
theorem preL_len : ∀ l, (preL l).length = szL l
  | [] => by simp [preL, szL]
  | t :: l => by rw [preL, szL, List.length_append, preT_len t, preL_len l]
end

/-- Cells that are the tops of trees, one by one. -/
def Tops (w : World) (cs : List C) (l : List T) : Prop := cs.length = l.length ∧ ∀ (j : Nat) (x : C) (u : T), cs[j]? = some x → l[j]? = some u → Is w x u
theorem Tops.up {w w' : World} {cs : List C} {l : List T} (h : Tops w cs l) (hb : Below w.heap.size w w') : Tops w' cs l := ⟨h.1, fun j x u hx hu => (h.2 j x u hx hu).up hb⟩
theorem Tops.append {w : World} {cs ds : List C} {l m : List T} (h : Tops w cs l) (g : Tops w ds m) : Tops w (cs ++ ds) (l ++ m) := by
  refine ⟨by simp [h.1, g.1], fun j x u hx hu => ?_⟩
  rcases Nat.lt_or_ge j cs.length with hj | hj
  · rw [List.getElem?_append_left hj] at hx
    rw [List.getElem?_append_left (by rw [← h.1]; exact hj)] at hu
    exact h.2 j x u hx hu
  · rw [List.getElem?_append_right hj] at hx
    rw [List.getElem?_append_right (by rw [← h.1]; exact hj), ← h.1] at hu
    exact g.2 _ x u hx hu
theorem Tops.one {w : World} {c : C} {t : T} (h : Is w c t) : Tops w [c] [t] := by
  refine ⟨rfl, fun j x u hx hu => ?_⟩
  cases j with
  | zero => simp at hx hu; subst hx; subst hu; exact h
  | succ j => simp at hx
theorem Tops.nil (w : World) : Tops w [] [] := ⟨rfl, fun j x u hx => by simp at hx⟩
theorem Tops.at {w : World} {cs : List C} {l : List T} (h : Tops w cs l) {j : Nat} (hj : j < cs.length) : ∃ c t, cs[j]? = some c ∧ l[j]? = some t ∧ Is w c t := by
  have h1 := List.getElem?_eq_getElem hj
  have h2 := List.getElem?_eq_getElem (show j < l.length by rw [← h.1]; exact hj)
  exact ⟨_, _, h1, h2, h.2 j _ _ h1 h2⟩

/-- A new row of cells, the tops of these trees, which lie in w0. -/
def RowSays (l : List T) (w0 w : World) (e : Ending) (w' : World) : Prop :=
  ∃ v cs, e = .returned v ∧ OwnC w' w.heap.size v cs ∧ Tops w0 cs l ∧ Below w.heap.size w w'

end Go.Proofs.Ytlaiggnkgdomkaa
/- The document's row of a tree's leaves. -/
namespace Go.Proofs.Ytlaiggnkgdomkaa
open Go.RowKit

def leafB (t : T) : Bool := t.k == 1
theorem filter_step {l : List T} {k : Nat} {t : T} (p : T → Bool) (h : l[k]? = some t) : (l.take (k + 1)).filter p = (l.take k).filter p ++ (if p t then [t] else []) := by
  rw [List.take_add_one, h, List.filter_append]
  cases hp : p t <;> simp [hp]

theorem CAt.grown {w w' : World} {b o : Nat} {c : C} {row : Option Nat} (h : CAt w b o c) (hb : w.grownBy w' row) (hne : some b ≠ row) : CAt w' b o c := by
  obtain ⟨h1, h2, h3, h4, h5, h6, h7⟩ := h
  exact ⟨hb.cell h1 hne, hb.cell h2 hne, hb.cell h3 hne, hb.cell h4 hne, hb.cell h5 hne, hb.cell h6 hne, hb.cell h7 hne⟩

/-- A row of one's own that is added to: it lies in one block, or in one that came later. -/
def OwnLater (w2 : World) (b : Nat) (v : Value) : Prop := v.ownBlock = some b ∨ ∃ g, v.ownBlock = some g ∧ w2.heap.size ≤ g
theorem later_gb {w2 wr w' : World} {b : Nat} {v : Value} (hb : b < w2.heap.size) (hl : OwnLater w2 b v) (h : w2.grownBy wr (some b)) (g : wr.grownBy w' v.ownBlock) : w2.grownBy w' (some b) := by
  rcases hl with hl | ⟨x, hl, hx⟩
  · rw [hl] at g; exact h.trans g
  · rw [hl] at g
    refine ⟨g.os.trans h.os, g.tape.trans h.tape, g.output.trans h.output, Nat.le_trans h.size g.size, fun k hk hne => ?_⟩
    exact (g.block k (Nat.lt_of_lt_of_le hk h.size) (fun e => by cases e; omega)).trans (h.block k hk hne)
theorem gb_alloc {w2 wr : World} {b : Nat} (h : w2.grownBy wr (some b)) (o : Obj) : w2.grownBy (wr.alloc o) (some b) := h.trans (Below.gb ((Below.refl _ _).alloc (Nat.le_refl _) _) _)

end Go.Proofs.Ytlaiggnkgdomkaa
