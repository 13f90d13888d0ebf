/- Texts of this seat, 3 in one file. -/
import Derived.Test.YtlaiggnkgdomkaaG24
import Derived.Test.YtlaiggnkgdomkaaG21
import Derived.IntWalk
import Derived.Deep.RegionHeld3
/- A tree in which a leaf is two: the document's answer. -/
namespace Go.Proofs.Ytlaiggnkgdomkaa
open Go.RowKit

abbrev cellW (w : World) (c : C) : World := (w.alloc (cbox c)).alloc zeroBox
theorem cellW_below (w : World) (c : C) : Below w.heap.size w (cellW w c) := ((Below.refl _ _).alloc (Nat.le_refl _) _).alloc (by simp) _
theorem cellW_box (w : World) (c : C) : Box7 (cellW w c) w.heap.size c := (Box7.new w c).up ((Below.refl _ _).alloc (Nat.le_refl _) _)
theorem cellW_zero (w : World) (c : C) : Zero7 (cellW w c) (w.heap.size + 1) := by
  have := zero_new (w.alloc (cbox c))
  simpa using this
theorem cellW_size (w : World) (c : C) : (cellW w c).heap.size = w.heap.size + 2 := by simp

/-- A tree that stands on elder memory and what the call made. -/
def GrSays (E : World → Prop) (t : T) (w : World) (e : Ending) (w' : World) : Prop := ∃ d, e = .returned (cval d) ∧ Stands E w' w.heap.size w'.heap.size d t ∧ Below w.heap.size w w'
theorem gr_of {E : World → Prop} {w w' : World} {t t' : T} {d : C} (he : t' = t) (h : ∀ W, E W → Is W d t) (hb : Below w.heap.size w w') : GrSays E t' w (.returned (cval d)) w' := by
  subst he
  exact ⟨d, rfl, fun W' h0 _ => h W' h0, hb⟩
abbrev endW (w wr : World) (d : C) : World := put7 (wr.setCell ⟨w.heap.size, 6, none⟩ (.slice d.a d.n d.cap)) (w.heap.size + 1) d
theorem endW_other {w wr : World} {d : C} {k : Nat} (h1 : k ≠ w.heap.size) (h2 : k ≠ w.heap.size + 1) : (endW w wr d).heap[k]? = wr.heap[k]? := by
  rw [heap_put7 h2, Below.heap_setCell wr ⟨w.heap.size, 6, none⟩ _ k h1]
theorem endW_size (w wr : World) (d : C) : (endW w wr d).heap.size = wr.heap.size := by rw [size_put7]; simp [World.setCell]
theorem gr_end {E : World → Prop} {w wr : World} {k : Int} {r : R} {id : Int} {a : Option Addr} {cap : Nat} {cs : List C} {l : List T} {t' : T} (he : t' = .node k r id l) (hb : Below w.heap.size w wr) (h : Grove E wr (w.heap.size + 2) (.slice a cs.length cap) cs l) (hk : 0 ≤ k ∧ k ≤ 255) (hr : r.fits) (hi : fits id) (hl : l.length ≤ 1954687338211) :
    GrSays E t' w (.returned (cval ⟨k, r, id, a, cs.length, cap⟩)) (endW w wr ⟨k, r, id, a, cs.length, cap⟩) := by
  subst he
  refine ⟨_, rfl, ?_, below_put7 (hb.setCell (Nat.le_refl _) _) (by omega) _⟩
  have hst := h.tree (k := k) (r := r) (id := id) hk hr hi hl
  exact (hst.move (w2 := endW w wr ⟨k, r, id, a, cs.length, cap⟩) fun j hj _ => endW_other (by omega) (by omega)).wide (by omega) (by rw [endW_size]; exact Nat.le_refl _)

end Go.Proofs.Ytlaiggnkgdomkaa
/- The least size of a tree: the program's walk. -/
namespace Go.Proofs.Ytlaiggnkgdomkaa
open Go.RowKit

theorem ls_fin {ax : Int} {t : T} (h : okT t) (a : Bool) (ha : alB t.k ax = a) : lsT ax t = if a = true then ((t.kids.length : Int) - 1) + lsS ax t.kids else max 1 (lsX ax t.kids) := by
  cases a with
  | true => rw [ls_yes h ha, if_pos rfl]; omega
  | false => rw [ls_no ha, if_neg (by decide)]

end Go.Proofs.Ytlaiggnkgdomkaa
/- Least, Gives, Fits: the program's. -/
namespace Go.Proofs.Ytlaiggnkgdomkaa
open Go.RowKit

abbrev C7 (b : Nat) (c : C) (W : World) : Prop := W.cell? ⟨b, 0, none⟩ = some (.int .u8 c.k) ∧ W.cell? ⟨b, 1, none⟩ = some (.int .i64 c.r.x) ∧ W.cell? ⟨b, 2, none⟩ = some (.int .i64 c.r.y) ∧ W.cell? ⟨b, 3, none⟩ = some (.int .i64 c.r.w) ∧ W.cell? ⟨b, 4, none⟩ = some (.int .i64 c.r.h) ∧ W.cell? ⟨b, 5, none⟩ = some (.int .i64 c.id) ∧ W.cell? ⟨b, 6, none⟩ = some (.slice c.a c.n c.cap)
theorem c7_of {W : World} {b : Nat} {c : C} (h : CAt W b 0 c) : C7 b c W := by
  obtain ⟨c0, c1, c2, c3, c4, c5, c6⟩ := h
  simp only [Nat.zero_add] at c1 c2 c3 c4 c5 c6
  exact ⟨c0, c1, c2, c3, c4, c5, c6⟩

def leT (ax : Int) (t : T) : Int := if mayT t = true ∧ axB ax = true then lsT ax t else 0
theorem le_yes {ax : Int} {t : T} (h : mayT t = true) (ha : axB ax = true) : leT ax t = lsT ax t := if_pos ⟨h, ha⟩
theorem le_may {ax : Int} {t : T} (h : mayT t = false) : leT ax t = 0 := if_neg (fun e => by rw [h] at e; cases e.1)
theorem le_axis {ax : Int} {t : T} (h : axB ax = false) : leT ax t = 0 := if_neg (fun e => by rw [h] at e; cases e.2)
noncomputable def giT (ax : Int) (t : T) : Int := if tileB t = true ∧ axB ax = true then gvT ax t else 0
theorem gi_yes {ax : Int} {t : T} (h : tileB t = true) (ha : axB ax = true) : giT ax t = gvT ax t := if_pos ⟨h, ha⟩
theorem gi_tile {ax : Int} {t : T} (h : tileB t = false) : giT ax t = 0 := if_neg (fun e => by rw [h] at e; cases e.1)
theorem gi_axis {ax : Int} {t : T} (h : axB ax = false) : giT ax t = 0 := if_neg (fun e => by rw [h] at e; cases e.2)
def roomB (ax s : Int) (t : T) : Bool := decide (lsT ax t ≤ s) && decide (s ≤ 10000 - atA t.r ax)
def fits8 (t : T) (w h : Int) : Bool := mayT t && roomB 1 w t && roomB 2 h t

/-- May, of one. -/
theorem may8_any (t : T) (c : C) (w : World) (hi : Is w c t) (n : Nat) (hn : n = w.heap.size) :
    Calls Try.prog 21 #[.slice (some ⟨n, 0, none⟩) 1 1] (w.alloc (cbox c)) fun e w' => e = .returned (.bool (mayT t)) ∧ Below w.heap.size w w' := by
  subst hn
  refine (mayAll_any _ [t] _ (trow1 hi) (by simp)).mono ?_
  rintro e w' ⟨rfl, hb⟩
  exact ⟨by simp, below_one hb⟩

end Go.Proofs.Ytlaiggnkgdomkaa
