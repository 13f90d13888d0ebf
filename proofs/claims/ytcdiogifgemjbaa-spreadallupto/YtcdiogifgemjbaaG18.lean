/- Texts of this seat, 3 in one file. -/
import Derived.Test.YtcdiogifgemjbaaG07
import Derived.Test.YtcdiogifgemjbaaG06
import Derived.Test.YtcdiogifgemjbaaG04
import Derived.Test.YtcdiogifgemjbaaG05
import Derived.Laws.ResultCell
/- The same tree in new memory. -/
namespace Go.Proofs.Ytcdiogifgemjbaa
open Go.RowKit

def FreshSays (t : T) (w : World) (e : Ending) (w' : World) : Prop := ∃ d S, e = .returned (cval d) ∧ OwnT w' w.heap.size d t S ∧ S.Nodup ∧ Below w.heap.size w w'

/-- What was copied: its kids' rows are as they were, its own cell is new. -/
theorem fresh_end {w wr : World} {k : Int} {r : R} {id : Int} {a : Option Addr} {cap : Nat} {cs : List C} {l : List T} {Ss : List (List Nat)} (hb : Below w.heap.size w wr) (hsz : w.heap.size + 2 ≤ wr.heap.size) (h : Forest wr (w.heap.size + 2) (.slice a cs.length cap) cs l Ss) (hk : 0 ≤ k ∧ k ≤ 255) (hr : r.fits) (hi : fits id) (hl : l.length ≤ 1954687338211) :
    OwnT (put7 (wr.setCell ⟨w.heap.size, 6, none⟩ (.slice a cs.length cap)) (w.heap.size + 1) ⟨k, r, id, a, cs.length, cap⟩) w.heap.size ⟨k, r, id, a, cs.length, cap⟩ (.node k r id l) (blk (.slice a cs.length cap) ++ Ss.flatten) ∧ (blk (.slice a cs.length cap) ++ Ss.flatten).Nodup ∧ Below w.heap.size w (put7 (wr.setCell ⟨w.heap.size, 6, none⟩ (.slice a cs.length cap)) (w.heap.size + 1) ⟨k, r, id, a, cs.length, cap⟩) := by
  have hsame : ∀ j, w.heap.size + 2 ≤ j → (put7 (wr.setCell ⟨w.heap.size, 6, none⟩ (.slice a cs.length cap)) (w.heap.size + 1) ⟨k, r, id, a, cs.length, cap⟩).heap[j]? = wr.heap[j]? := fun j hj => by
    rw [heap_put7 (by omega), Below.heap_setCell wr ⟨w.heap.size, 6, none⟩ _ j (by simp; omega)]
  refine ⟨?_, ?_, ?_⟩
  · refine .mk ⟨k, r, id, a, cs.length, cap⟩ l cs Ss ⟨hk, hr, hi, by simp only; rw [h.len]; exact hl⟩ ((ownC_kept h.row fun g hg => hsame g (own_block h.row hg).1).lower (by omega)) h.len h.slen fun j x t S hx ht hS => ?_
    exact ((h.each j x t S hx ht hS).frame fun m hm => hsame m ((h.each j x t S hx ht hS).ge m hm).1).lower (by omega)
  · rw [List.nodup_append]
    refine ⟨?_, h.nodup, fun x hx y hy e => ?_⟩
    · unfold blk; split <;> simp
    · subst e
      unfold blk at hx
      split at hx
      · rename_i g hg
        simp at hx; subst hx
        exact h.apart _ hg hy
      · cases hx
  · exact below_put7 (hb.setCell (Nat.le_refl _) _) (by omega) _

abbrev freshW (w : World) (c : C) : World := (w.alloc (cbox c)).alloc zeroBox

end Go.Proofs.Ytcdiogifgemjbaa
/- The cell at a path, as it stands there. -/
namespace Go.Proofs.Ytcdiogifgemjbaa
open Go.RowKit

/-- One step of a path. -/
def StepSays (w0 : World) (t : T) (k : Int) (b : Nat) (W : World) (e : Ending) (w' : World) : Prop :=
  match kidAt t k with
  | some u => ∃ y, e = .returned (.bool false) ∧ Is w0 y u ∧ w' = put7 W b y
  | none => e = .returned (.bool true) ∧ w' = W
theorem step_some {w0 : World} {t u : T} {k : Int} {b : Nat} {W w' : World} {e : Ending} {y : C} (h : kidAt t k = some u) (he : e = .returned (.bool false)) (hi : Is w0 y u) (hw : w' = put7 W b y) : StepSays w0 t k b W e w' := by
  unfold StepSays; rw [h]; exact ⟨y, he, hi, hw⟩
theorem step_none {w0 : World} {t : T} {k : Int} {b : Nat} {W w' : World} {e : Ending} (h : kidAt t k = none) (he : e = .returned (.bool true)) (hw : w' = W) : StepSays w0 t k b W e w' := by
  unfold StepSays; rw [h]; exact ⟨he, hw⟩

end Go.Proofs.Ytcdiogifgemjbaa
/- The cell at a path, as it stands there: all steps. -/
namespace Go.Proofs.Ytcdiogifgemjbaa
open Go.RowKit

theorem set_gb (w : World) (b i : Nat) (v : Value) : w.grownBy (w.setCell ⟨b, i, none⟩ v) (some b) :=
  ⟨rfl, rfl, rfl, by simp [World.setCell], fun k _ hk => Below.heap_setCell w ⟨b, i, none⟩ v k (fun e => hk (by rw [e]))⟩
theorem put7_gb (w : World) (b : Nat) (c : C) : w.grownBy (put7 w b c) (some b) :=
  ((((((set_gb w b 0 _).trans (set_gb _ b 1 _)).trans (set_gb _ b 2 _)).trans (set_gb _ b 3 _)).trans (set_gb _ b 4 _)).trans (set_gb _ b 5 _)).trans (set_gb _ b 6 _)
theorem gb_low {w0 w w' : World} {b : Nat} (h0 : Below w0.heap.size w0 w) (h : w.grownBy w' (some b)) (hb : w0.heap.size ≤ b) : Below w0.heap.size w0 w' :=
  ⟨h.os.trans h0.os, h.tape.trans h0.tape, h.output.trans h0.output, Nat.le_trans h0.size h.size, fun k hk => (h.block k (Nat.lt_of_lt_of_le hk h0.size) (fun e => by cases e; omega)).trans (h0.block k hk)⟩

def PathSays (w0 : World) (t : T) (p : List Int) (b : Nat) (W : World) (e : Ending) (w' : World) : Prop :=
  W.grownBy w' (some b) ∧ match atT t p with
  | some u => ∃ y, e = .returned (.bool true) ∧ Is w0 y u ∧ Box7 w' b y
  | none => ∃ y, e = .returned (.bool false) ∧ Box7 w' b y
theorem path_some {w0 : World} {t u : T} {p : List Int} {b : Nat} {W w' : World} {e : Ending} {y : C} (h : atT t p = some u) (hg : W.grownBy w' (some b)) (he : e = .returned (.bool true)) (hi : Is w0 y u) (hb : Box7 w' b y) : PathSays w0 t p b W e w' := by
  unfold PathSays; rw [h]; exact ⟨hg, y, he, hi, hb⟩
theorem path_none {w0 : World} {t : T} {p : List Int} {b : Nat} {W w' : World} {e : Ending} {y : C} (h : atT t p = none) (hg : W.grownBy w' (some b)) (he : e = .returned (.bool false)) (hb : Box7 w' b y) : PathSays w0 t p b W e w' := by
  unfold PathSays; rw [h]; exact ⟨hg, y, he, hb⟩

/-- A cell and a bool, handed back. -/
theorem results_cell2 {fn : Func} {p u : Tmp} (h : fn.results = #[.cell p 32, .tmp u]) (tmps : Array Value) (w : World) (g : Nat) (c : C) (hp : tmps.getD p undef = .pointer (some ⟨g, 0, none⟩)) (hg : Box7 w g c) :
    (results fn tmps).run Try.prog w = .ok (.tuple #[cval c, tmps.getD u undef]) w := by
  have hg' : w.heap[g]? = some (cbox c) := hg
  have hl := run_loadVar_row (P := Try.prog) w g 32 32 _ (0, 0) _ hg' Try.underlying32 rfl (by kernel_rfl)
  rw [results_cell_tmp h, hp]
  simp [asAddr, hl, Result.andThen]
def FollowSays (w0 : World) (t : T) (p : List Int) (w : World) (e : Ending) (w' : World) : Prop :=
  Below w.heap.size w w' ∧ match atT t p with
  | some u => ∃ y, e = .returned (.tuple #[cval y, .bool true]) ∧ Is w0 y u
  | none => ∃ y : C, e = .returned (.tuple #[cval y, .bool false])
theorem fol_some {w0 : World} {t u : T} {p : List Int} {w w' : World} {e : Ending} {y : C} (h : atT t p = some u) (hb : Below w.heap.size w w') (he : e = .returned (.tuple #[cval y, .bool true])) (hi : Is w0 y u) : FollowSays w0 t p w e w' := by
  unfold FollowSays; rw [h]; exact ⟨hb, y, he, hi⟩
theorem fol_none {w0 : World} {t : T} {p : List Int} {w w' : World} {e : Ending} {y : C} (h : atT t p = none) (hb : Below w.heap.size w w') (he : e = .returned (.tuple #[cval y, .bool false])) : FollowSays w0 t p w e w' := by
  unfold FollowSays; rw [h]; exact ⟨hb, y, he⟩

end Go.Proofs.Ytcdiogifgemjbaa
