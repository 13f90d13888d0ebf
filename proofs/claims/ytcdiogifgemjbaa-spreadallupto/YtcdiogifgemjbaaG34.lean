/- Texts of this seat, 3 in one file. -/
import Derived.Test.YtcdiogifgemjbaaG32
import Derived.Test.YtcdiogifgemjbaaG33
import Derived.Test.YtcdiogifgemjbaaG19
import Derived.Test.YtcdiogifgemjbaaG05
/- The cell at a path is spread: the document's walk. -/
namespace Go.Proofs.Ytcdiogifgemjbaa
open Go.RowKit

/-- What is answered: by its number, and the tree. -/
def AtSays (n : Int) (u : T) (w : World) (e : Ending) (w' : World) : Prop :=
  ∃ d, e = .returned (.tuple #[cval d, .int .i64 n]) ∧ Stands (fun _ => True) w' w.heap.size w'.heap.size d (if n = 0 then u else zT) ∧ Below w.heap.size w w'
theorem at_err {n : Int} {u : T} {w w' : World} (h : n ≠ 0) (hb : Below w.heap.size w w') : AtSays n u w (.returned (.tuple #[cval zC, .int .i64 n])) w' :=
  ⟨zC, rfl, fun W' _ _ => by rw [if_neg h]; exact zero_is W', hb⟩
theorem at_ok {n : Int} {u : T} {w w' : World} {d : C} (h : n = 0) (hi : Stands (fun _ => True) w' w.heap.size w'.heap.size d u) (hb : Below w.heap.size w w') : AtSays n u w (.returned (.tuple #[cval d, .int .i64 0])) w' :=
  ⟨d, by rw [h], by rw [if_pos h]; exact hi, hb⟩
theorem at_all {n : Int} {u : T} {w : World} {e : Ending} {w' : World} (h : AtSays n u w e w') : ∃ d, e = .returned (.tuple #[cval d, .int .i64 n]) ∧ Is w' d (if n = 0 then u else zT) ∧ Below w.heap.size w w' := by
  obtain ⟨d, he, hi, hb⟩ := h
  exact ⟨d, he, hi.is trivial, hb⟩

/-- The tree's box, the answer's, and one of none. -/
structure NSt (w : World) (c : C) (W : World) : Prop where
  st : ASt w c W
  non : Box7 W (w.heap.size + 2) zC
theorem NSt.up {w W W' : World} {c : C} (h : NSt w c W) (hb : Below W.heap.size W W') : NSt w c W' := ⟨h.st.up hb, h.non.up hb⟩
theorem NSt.is {w W : World} {c : C} {t : T} (h : NSt w c W) (hi : Is w c t) : Is W c t := h.st.is hi
theorem NSt.lt {w W : World} {c : C} (h : NSt w c W) : w.heap.size + 2 < W.heap.size := lt_of_block h.non
abbrev nsW (w : World) (c : C) : World := (cellW w c).alloc (cbox zC)
theorem NSt.start (w : World) (c : C) : NSt w c (nsW w c) := by
  have hb : Below (cellW w c).heap.size (cellW w c) (nsW w c) := (Below.refl _ _).alloc (Nat.le_refl _) _
  refine ⟨(ASt.start w c).up hb, ?_⟩
  have h := Box7.new (cellW w c) zC
  rw [cellW_size] at h
  exact h
theorem NSt.err {w W : World} {c : C} (h : NSt w c W) : Below w.heap.size w (put7 W (w.heap.size + 1) zC) := below_put7 h.st.below (by omega) _

theorem put_is {t u k : T} {p : List Int} (h : atT t p = some u) : ∃ t', putT k t p = some t' := by
  have := @put_at k p t
  rw [h] at this
  exact Option.isSome_iff_exists.1 this

theorem kid_cell {w : World} {c : C} {t : T} (h : Is w c t) : (0 ≤ c.k ∧ c.k ≤ 255) ∧ c.r.fits ∧ fits c.id ∧ t.k = c.k ∧ t.r = c.r ∧ t.id = c.id := ⟨h.fine.1, h.fine.2.1, h.fine.2.2.1, h.split.1, h.split.2.1, h.split.2.2.1⟩

/-- A cell's row is another one. -/
theorem box_row {w : World} {b : Nat} {c : C} (a : Option Addr) (n cap : Nat) (h : Box7 w b c) : Box7 (w.setCell ⟨b, 6, none⟩ (.slice a n cap)) b ⟨c.k, c.r, c.id, a, n, cap⟩ := by
  have h' : w.heap[b]? = some (cbox c) := h
  obtain ⟨hlt, hk⟩ := Array.getElem?_eq_some_iff.1 h'
  show (w.heap.modify b _)[b]? = _
  rw [Array.getElem?_eq_getElem (by rw [Array.size_modify]; exact hlt), Array.getElem_modify_self, hk]
  rfl
theorem row_other {w : World} {b k : Nat} (v : Value) (h : k ≠ b) : (w.setCell ⟨b, 6, none⟩ v).heap[k]? = w.heap[k]? := Below.heap_setCell w ⟨b, 6, none⟩ v k h
theorem row_size (w : World) (b : Nat) (v : Value) : (w.setCell ⟨b, 6, none⟩ v).heap.size = w.heap.size := by simp [World.setCell]
theorem NSt.row {w W : World} {c : C} {b : Nat} (h : NSt w c W) (v : Value) (hb : w.heap.size + 2 < b) : NSt w c (W.setCell ⟨b, 6, none⟩ v) :=
  ⟨⟨h.st.below.setCell (p := ⟨b, 6, none⟩) (by show w.heap.size ≤ b; omega) v, (row_other v (by omega)).trans h.st.box, (row_other v (by omega)).trans h.st.zero⟩, (row_other v (by omega)).trans h.non⟩

end Go.Proofs.Ytcdiogifgemjbaa
/- The path to the first leaf with a number, and that it can be cut: the document's answer. -/
namespace Go.Proofs.Ytcdiogifgemjbaa
open Go.RowKit

theorem ownI_one (w : World) (base : Nat) (hb : base ≤ w.heap.size) (m : Int) : OwnI (w.alloc (.cells #[.int .i64 m] 3)) base (.slice (some ⟨w.heap.size, 0, none⟩) 1 1) [m] :=
  ⟨by simp [ints], .inr ⟨w.heap.size, 1, _, rfl, hb, heap_alloc_new w _, by simp, by unfold maxLen; omega, rfl, rfl⟩⟩
theorem path_of_own {w : World} {base : Nat} {v : Value} {p : List Int} (h : w.ownsRow base 3 1 v p.length (ints p)) : Path w v p := by
  refine ⟨Row.of_owns h, ?_⟩
  rcases h.2 with ⟨rfl, h0⟩ | ⟨g, cap, cur, rfl, -, -, hn, -⟩
  · exact ⟨none, 0, by rw [h0], by omega⟩
  · exact ⟨_, cap, rfl, hn⟩
def FarP (base : Nat) (v : Value) : Prop := ∀ a n cap, v = .slice (some a) n cap → base ≤ a.block
theorem FarP.lower {base base' : Nat} {v : Value} (h : FarP base v) (hb : base' ≤ base) : FarP base' v := fun a n cap e => Nat.le_trans hb (h a n cap e)
theorem far_own {w : World} {base : Nat} {v : Value} {n : Nat} {xs : List Value} (h : w.ownsRow base 3 1 v n xs) : FarP base v := fun a m cap e => by
  rcases h.2 with ⟨rfl, -⟩ | ⟨g, cap', cur, rfl, hg, -⟩
  · cases e
  · cases e; exact hg
theorem Path.kept {w w' : World} {base : Nat} {v : Value} {p : List Int} (h : Path w v p) (hf : FarP base v) (hk : ∀ g, base ≤ g → w'.heap[g]? = w.heap[g]?) : Path w' v p := by
  refine ⟨?_, h.cap⟩
  obtain ⟨a, n, rfl, h0, h1⟩ := h.row
  refine ⟨a, n, rfl, h0, fun x hx j u hu => ?_⟩
  subst hx
  have h2 := h1 x rfl j u hu
  exact (World.cell?_of_block (a := x.add j) (by
    have h3 : (x.add j).block = x.block := by unfold Addr.add; split <;> rfl
    rw [h3]
    exact hk _ (hf _ _ _ rfl))).trans h2
def FpSays (r : Option (List Int)) (w : World) (e : Ending) (w' : World) : Prop := ∃ v, e = .returned (.tuple #[v, .bool r.isSome]) ∧ Path w' v (r.getD []) ∧ FarP w.heap.size v ∧ Below w.heap.size w w'
theorem fp_none {r : Option (List Int)} {w w' : World} {e : Ending} {a : Option Addr} (h : r = none) (he : e = .returned (.tuple #[.slice a 0 0, .bool false])) (hr : Row w' (.slice a 0 0) []) (hf : FarP w.heap.size (.slice a 0 0)) (hb : Below w.heap.size w w') : FpSays r w e w' := by
  subst h; exact ⟨_, he, ⟨hr, a, 0, rfl, Nat.le_refl _⟩, hf, hb⟩
theorem fp_some {r : Option (List Int)} {p : List Int} {w w' : World} {e : Ending} {v : Value} (h : r = some p) (he : e = .returned (.tuple #[v, .bool true])) (hr : Path w' v p) (hf : FarP w.heap.size v) (hb : Below w.heap.size w w') : FpSays r w e w' := by
  subst h; exact ⟨v, he, hr, hf, hb⟩

end Go.Proofs.Ytcdiogifgemjbaa
/- The cell around a leaf is spread: the document's walk. -/
namespace Go.Proofs.Ytcdiogifgemjbaa
open Go.RowKit

theorem path_cut {w : World} {a : Option Addr} {n cap : Nat} {p : List Int} (h : Path w (.slice a n cap) p) (k : Nat) (hk : k ≤ p.length) : Path w (.slice a k cap) (p.take k) := by
  obtain ⟨a', cap', he, hc⟩ := h.cap
  cases he
  obtain ⟨a', cap', he, h0, h1⟩ := h.row
  rw [ints_length] at he
  cases he
  refine ⟨⟨a, cap, by rw [ints_length, List.length_take, Nat.min_eq_left hk], fun e => ?_, fun x hx j v hv => ?_⟩, a, cap, by rw [List.length_take, Nat.min_eq_left hk], by rw [List.length_take, Nat.min_eq_left hk]; omega⟩
  · obtain ⟨h2, h3⟩ := h0 e
    have h4 : p = [] := by cases p with | nil => rfl | cons a l => simp [ints] at h2
    subst h4
    exact ⟨by simp [ints], h3⟩
  · refine h1 x hx j v ?_
    have h5 : ints (p.take k) = (ints p).take k := by unfold ints; rw [List.map_take]
    rw [h5, List.getElem?_take] at hv
    split at hv
    · exact hv
    · cases hv
theorem ar_none {t : T} {id : Int} (ht : tileB t = true) (h : findT id t = none) : arE t id = 6 := by
  unfold arE; rw [if_pos ht, h]
theorem ar_top {t : T} {id : Int} (ht : tileB t = true) (h : findT id t = some []) : arE t id = 10 := by
  unfold arE; rw [if_pos ht, h]; rfl
theorem ar_at {t : T} {id : Int} {p : List Int} (ht : tileB t = true) (h : findT id t = some p) (hp : p ≠ []) : arE t id = atE t (p.take (p.length - 1)) ∧ arS t id = atS t (p.take (p.length - 1)) := by
  refine ⟨?_, ?_⟩
  · unfold arE; rw [if_pos ht, h]; exact if_neg hp
  · unfold arS; rw [h]; rfl
theorem st_put {W5 : World} {d : C} {u : T} {lo b base : Nat} (h : Stands (fun _ => True) W5 lo W5.heap.size d u) (hb : b < lo) (hl : base ≤ lo) : Stands (fun _ => True) (put7 W5 b d) base (put7 W5 b d).heap.size d u := by
  rw [size_put7]
  exact (h.move (w2 := put7 W5 b d) fun k hk _ => heap_put7 (by omega)).wide hl (Nat.le_refl _)

end Go.Proofs.Ytcdiogifgemjbaa
