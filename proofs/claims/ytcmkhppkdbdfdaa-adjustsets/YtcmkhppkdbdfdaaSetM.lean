/- A tree that is set: each cell begins behind those ahead of it. No walk. -/
import Derived.Test.YtcmkhppkdbdfdaaOwnT
import Derived.Test.YtcmkhppkdbdfdaaSameB
namespace Go.Proofs.Ytcmkhppkdbdfdaa
open Go.RowKit

def nxX (k x : Int) (t : T) : Int := if k = 2 then IntKind.i64.wrap (x + t.r.w + 1) else x
def nxY (k y : Int) (t : T) : Int := if k = 3 then IntKind.i64.wrap (y + t.r.h + 1) else y
mutual
def setT (x y : Int) : T → T
  | .node k r i l => .node k ⟨x, y, r.w, r.h⟩ i (setL k x y l)
def setL (k x y : Int) : List T → List T
  | [] => []
  | t :: l => setT x y t :: setL k (nxX k x t) (nxY k y t) l
end
theorem setT_eq (x y : Int) (t : T) : setT x y t = .node t.k ⟨x, y, t.r.w, t.r.h⟩ t.id (setL t.k x y t.kids) := by cases t; rw [setT]; rfl

/-- Where the kid behind these begins. -/
def pX (k x : Int) (l : List T) : Int := l.foldl (nxX k) x
def pY (k y : Int) (l : List T) : Int := l.foldl (nxY k) y
theorem setL_snoc (k : Int) (t : T) (l : List T) : ∀ x y, setL k x y (l ++ [t]) = setL k x y l ++ [setT (pX k x l) (pY k y l) t] := by
  induction l with
  | nil => intro x y; simp [setL, pX, pY]
  | cons u l ih => intro x y; simp only [List.cons_append, setL]; rw [ih]; simp [pX, pY]
theorem pX_take {k x : Int} {l : List T} {j : Nat} {t : T} (h : l[j]? = some t) : pX k x (l.take (j + 1)) = nxX k (pX k x (l.take j)) t := by
  rw [List.take_add_one, h]; simp [pX]
theorem pY_take {k y : Int} {l : List T} {j : Nat} {t : T} (h : l[j]? = some t) : pY k y (l.take (j + 1)) = nxY k (pY k y (l.take j)) t := by
  rw [List.take_add_one, h]; simp [pY]
theorem nxX_fits {k x : Int} {t : T} (h : fits x) : fits (nxX k x t) := by unfold nxX; split; exact wrap_fits _; exact h
theorem nxY_fits {k x : Int} {t : T} (h : fits x) : fits (nxY k x t) := by unfold nxY; split; exact wrap_fits _; exact h
theorem pX_fits {k x : Int} (l : List T) (h : fits x) : fits (pX k x l) := by
  induction l generalizing x with
  | nil => exact h
  | cons t l ih => exact ih (nxX_fits h)
theorem pY_fits {k x : Int} (l : List T) (h : fits x) : fits (pY k x l) := by
  induction l generalizing x with
  | nil => exact h
  | cons t l ih => exact ih (nxY_fits h)
theorem setL_length (k : Int) (l : List T) : ∀ x y, (setL k x y l).length = l.length := by
  induction l with
  | nil => intro x y; simp [setL]
  | cons t l ih => intro x y; simp [setL, ih]
theorem wrap_a (x b : Int) : IntKind.i64.wrap (x + IntKind.i64.wrap (b + 1)) = IntKind.i64.wrap (x + b + 1) := by
  simp only [IntKind.wrap_i64]; omega
theorem wrap_b (x b : Int) : IntKind.i64.wrap (IntKind.i64.wrap (x + b) + 1) = IntKind.i64.wrap (x + b + 1) := by
  simp only [IntKind.wrap_i64]; omega
theorem wrapE (n : Int) : IntKind.i64.wrap n = wrap64 n := IntWalk.i64_left n
theorem nxX_row {x : Int} {t : T} : nxX 2 x t = IntKind.i64.wrap (x + t.r.w + 1) := if_pos rfl
theorem nxY_col {y : Int} {t : T} : nxY 3 y t = IntKind.i64.wrap (y + t.r.h + 1) := if_pos rfl
theorem nxX_no {k x : Int} {t : T} (h : k ≠ 2) : nxX k x t = x := if_neg h
theorem nxY_no {k y : Int} {t : T} (h : k ≠ 3) : nxY k y t = y := if_neg h

def SetSays (t : T) (w : World) (e : Ending) (w' : World) : Prop := ∃ d S, e = .returned (cval d) ∧ OwnT w' w.heap.size d t S ∧ S.Nodup ∧ Below w.heap.size w w'

theorem take_snoc {α : Type} {l : List α} {k : Nat} {x : α} (h : l[k]? = some x) : l.take (k + 1) = l.take k ++ [x] := by
  rw [List.take_add_one, h]; rfl

/-- What was made: its kids' rows are as they were, its own cell is new. -/
theorem set_end {w wr : World} {k : Int} {r : R} {id : Int} {a : Option Addr} {cap : Nat} {cs : List C} {l : List T} {Ss : List (List Nat)} (hb : Below w.heap.size w wr) (hsz : w.heap.size + 2 ≤ wr.heap.size) (h : Forest wr (w.heap.size + 2) (.slice a cs.length cap) cs l Ss) (hk : 0 ≤ k ∧ k ≤ 255) (hr : r.fits) (hi : fits id) (hl : l.length ≤ 1954687338211) :
    OwnT (put7 (wr.setCell ⟨w.heap.size, 6, none⟩ (.slice a cs.length cap)) (w.heap.size + 1) ⟨k, r, id, a, cs.length, cap⟩) w.heap.size ⟨k, r, id, a, cs.length, cap⟩ (.node k r id l) (blk (.slice a cs.length cap) ++ Ss.flatten) ∧ (blk (.slice a cs.length cap) ++ Ss.flatten).Nodup ∧ Below w.heap.size w (put7 (wr.setCell ⟨w.heap.size, 6, none⟩ (.slice a cs.length cap)) (w.heap.size + 1) ⟨k, r, id, a, cs.length, cap⟩) := by
  have hsame : ∀ j, w.heap.size + 2 ≤ j → (put7 (wr.setCell ⟨w.heap.size, 6, none⟩ (.slice a cs.length cap)) (w.heap.size + 1) ⟨k, r, id, a, cs.length, cap⟩).heap[j]? = wr.heap[j]? := fun j hj => by
    rw [heap_put7 (by omega), Below.heap_setCell wr ⟨w.heap.size, 6, none⟩ _ j (by simp; omega)]
  refine ⟨?_, ?_, ?_⟩
  · refine .mk ⟨k, r, id, a, cs.length, cap⟩ l cs Ss ⟨hk, hr, hi, by simp only; rw [h.len]; exact hl⟩ ((ownC_kept h.row fun g hg => hsame g (own_block h.row hg).1).lower (by omega)) h.len h.slen fun j x t S hx ht hS => ?_
    exact ((h.each j x t S hx ht hS).frame fun m hm => hsame m ((h.each j x t S hx ht hS).ge m hm).1).lower (by omega)
  · rw [List.nodup_append]
    refine ⟨?_, h.nodup, fun x hx y hy e => ?_⟩
    · unfold blk; split <;> simp
    · subst e
      unfold blk at hx
      split at hx
      · rename_i g hg
        simp at hx; subst hx
        exact h.apart _ hg hy
      · cases hx
  · exact below_put7 (hb.setCell (Nat.le_refl _) _) (by omega) _
theorem Forest.empty (w : World) (base : Nat) (hb : base ≤ w.heap.size) : Forest (w.alloc (.cells #[] 33)) base (.slice (some ⟨w.heap.size, 0, none⟩) 0 0) [] [] [] := ⟨OwnC.empty w base hb, rfl, rfl, fun j x t S hx => by simp at hx, List.nodup_nil, fun g hg => by simp⟩

/-- A box that isn't the row's own block stands behind an append. -/
theorem Box7.grown {w w' : World} {b : Nat} {c : C} {g : Option Nat} (h : Box7 w b c) (hg : w.grownBy w' g) (hn : g ≠ some b) : Box7 w' b c := (hg.block b (lt_of_block h) (fun e => hn e.symm)).trans h
end Go.Proofs.Ytcmkhppkdbdfdaa
