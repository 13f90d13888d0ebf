/- Texts of this seat, 3 in one file. -/
import Derived.Test.YtbbjnimadnbmnaaGreatG08
import Derived.Test.YtbbjnimadnbmnaaGreatG09
import Derived.Test.YtbbjnimadnbmnaaGreatShelf
import Derived.Sort.OwnSortedInts
import Derived.Test.YtbbjnimadnbmnaaGreatG01
import Derived.Test.YtbbjnimadnbmnaaGreatG02
/- The path to the first leaf with a number. -/
namespace Go.Proofs.YtbbjnimadnbmnaaGreat
open Go.RowKit

theorem holds_ints (q : List Int) (w : World) (g : Nat) (hc : ∀ j u, (ints q)[j]? = some u → w.cell? ((⟨g, 0, none⟩ : Addr).add j) = some u) (hf : ∀ j, w.frozen? ⟨g, j, none⟩ = false) : Sort.Holds (Value.int .i64) w g 0 q.toArray := by
  intro j hj
  have hj' : j < q.length := by simpa using hj
  have h := hc j (.int .i64 q[j]) (by simp [ints, List.getElem?_eq_getElem hj'])
  rw [Go.WideShapes.add_plain] at h
  refine ⟨?_, hf _⟩
  rw [h]
  simp [hj']
theorem ints_of_holds {q : List Int} {w : World} {g cap : Nat} (h : Sort.Holds (Value.int .i64) w g 0 q.toArray) : Row w (.slice (some ⟨g, 0, none⟩) q.length cap) (ints q) := by
  refine ⟨some ⟨g, 0, none⟩, cap, by rw [ints_length], (fun h => by cases h), fun x hx j u hu => ?_⟩
  cases hx
  have hj : j < q.length := by
    rcases Nat.lt_or_ge j q.length with h | h
    · exact h
    · rw [List.getElem?_eq_none (by rw [ints_length]; exact h)] at hu; cases hu
  have h1 := (h j (by simpa using hj)).1
  rw [Go.WideShapes.add_plain, h1]
  simp [ints, hj] at hu
  rw [← hu]
  simp [hj]

theorem rev_any (v : Value) (p : List Int) (base : Nat) (w : World) (h : w.ownsRow base 3 1 v p.length (ints p.reverse)) (hl : p.length ≤ 1000000) :
    Calls Tryz.prog 23 #[v] w fun e w' => e = .returned (.tuple #[]) ∧ Row w' v (ints p) ∧ Below base w w' := by
  rcases h.2 with ⟨rfl, h0⟩ | ⟨g, cap, cur, rfl, hb, hg, hn, hm, hs, ht⟩
  · obtain rfl : p = [] := List.length_eq_zero_iff.1 h0
    refine (Tryz.slices_Reverse_int_empty none 0 w).mono ?_
    rintro e w' ⟨rfl, hw⟩
    subst hw
    exact ⟨rfl, ⟨none, 0, rfl, fun _ => ⟨rfl, rfl⟩, fun x hx => by cases hx⟩, Below.refl _ _⟩
  · have hH : Sort.Holds (Value.int .i64) w g 0 p.reverse.toArray := holds_ints _ w g (h.cells (g := g) rfl) (fun j => by simp [World.frozen?, hg])
    have := Tryz.slices_Reverse_int g 0 cap p.reverse w hH (by simp; omega)
    rw [List.length_reverse, List.reverse_reverse] at this
    refine this.mono ?_
    rintro e w' ⟨rfl, n, rfl⟩
    have hG := Sort.holds_putRow (Value.int .i64) (Sort.ahead w n) g 0 p.reverse.toArray p.toArray (Sort.holds_ahead _ w n g 0 _ hH) (by simp)
    have hgr := grownBy_sortedI (w := w) (g := g) (n := n) (os := #[]) p.toArray
    rw [Sort.grow_empty] at hgr
    refine ⟨rfl, ints_of_holds hG, ⟨hgr.os, hgr.tape, hgr.output, hgr.size, fun k hk => ?_⟩⟩
    rcases Nat.lt_or_ge k w.heap.size with h1 | h1
    · exact hgr.block k h1 (fun e => by cases e; omega)
    · have hlt := lt_of_block hg
      omega

def FindSays (r : Option (List Int)) (w : World) (e : Ending) (w' : World) : Prop :=
  Below w.heap.size w w' ∧ match r with
  | some p => ∃ v, e = .returned (.tuple #[v, .bool true]) ∧ Row w' v (ints p)
  | none => e = .returned (.tuple #[.slice none 0 0, .bool false])

set_option maxRecDepth 100000 in
theorem find_any (id : Int) (t : T) (c : C) (w : World) (hs : sz t ≤ 1000000) (hi : Is w c t) : Calls Tryz.prog 43 #[cval c, .int .i64 id] w (FindSays (findT id t) w) := by
  have HA : Hid (Below w.heap.size w (w.alloc (cbox c))) := (Below.refl _ _).alloc (Nat.le_refl _) _
  have H := Lib.hid (way_any id (sz t) t c (w.alloc (cbox c)) (Nat.le_refl _) hs (hi.up HA.out))
  have HS := Lib.hid hs
  clear hi hs
  cases hf : findT id t with
  | none =>
    rw [hf] at H
    clear hf
    go_enter Tryz.func43, Tryz.ntmps43
    go_wp2_with fail
    refine H.out.mono ?_
    rintro e w2 ⟨hb, rfl⟩
    have HB := Lib.hid hb
    clear hb
    go_wp2_with fail
    refine (Tryz.slices_Reverse_int_empty none 0 w2).mono ?_
    rintro e w3 ⟨rfl, hw⟩
    rw [hw]
    clear hw w3
    go_wp2
    go_ret2
    exact ⟨below_one HB.out, rfl⟩
  | some p =>
    rw [hf] at H
    have HL := Lib.hid (show p.length ≤ 1000000 by have := findT_len id p t hf; have := HS.out; omega)
    clear hf
    go_enter Tryz.func43, Tryz.ntmps43
    go_wp2_with fail
    refine H.out.mono ?_
    rintro e w2 ⟨hb, v, rfl, hown⟩
    have HB := Lib.hid hb
    have HO := Lib.hid hown
    clear hb hown
    go_wp2_with fail
    refine (rev_any v p _ w2 HO.out HL.out).mono ?_
    rintro e w3 ⟨rfl, hr, hb⟩
    have HR := Lib.hid hr
    have HB3 := Lib.hid (HB.out.trans hb)
    clear hr hb
    go_wp2
    go_ret2
    exact ⟨below_one HB3.out, v, rfl, HR.out⟩
end Go.Proofs.YtbbjnimadnbmnaaGreat
/- What both have of a size: the document's Sizes. -/
namespace Go.Proofs.YtbbjnimadnbmnaaGreat
open Go.RowKit

/-- The new one's, of a size that is asked. -/
def spB (s z : Int) : Int := if z = 0 then (s + 1) / 2 - 1 else if s - 2 < z then s - 2 else z
def spOk (s z : Int) : Bool := decide (3 ≤ s) && decide (0 ≤ z)
theorem spB_in {s z : Int} (hs : 3 ≤ s) (hz : 0 ≤ z) : 1 ≤ spB s z ∧ spB s z ≤ s - 2 := by
  unfold spB
  split
  · omega
  · split <;> omega
theorem spB_even {s : Int} (hs : 3 ≤ s) : 0 ≤ s - 1 - spB s 0 - spB s 0 ∧ s - 1 - spB s 0 - spB s 0 ≤ 1 := by
  unfold spB
  rw [if_pos rfl]
  omega
/-- What Sizes answers. -/
def SzSays (s z : Int) (w : World) (e : Ending) (w' : World) : Prop := w' = w ∧ e = if spOk s z = true then .returned (.tuple #[.int .i64 (s - 1 - spB s z), .int .i64 (spB s z), .bool true]) else .returned (.tuple #[.int .i64 0, .int .i64 0, .bool false])
theorem sz_no {s z : Int} (w : World) (h : spOk s z = false) : SzSays s z w (.returned (.tuple #[.int .i64 0, .int .i64 0, .bool false])) w := ⟨rfl, by rw [h]; rfl⟩
theorem sz_yes {s z n : Int} (w : World) (h : spOk s z = true) (hn : spB s z = n) : SzSays s z w (.returned (.tuple #[.int .i64 (s - 1 - n), .int .i64 n, .bool true])) w := ⟨rfl, by rw [h, hn]; rfl⟩

end Go.Proofs.YtbbjnimadnbmnaaGreat
/- One rectangle in a row of its own: may it be? -/
namespace Go.Proofs.YtbbjnimadnbmnaaGreat
open Go.RowKit

abbrev box (r : R) : Obj := .cells #[.int .i64 r.x, .int .i64 r.y, .int .i64 r.w, .int .i64 r.h] 23
theorem rat_new (w : World) (r : R) : RAt (w.alloc (box r)) w.heap.size 0 r := by
  refine ⟨?_, ?_, ?_, ?_⟩ <;> simp
theorem rrow_one (w : World) (r : R) : RRow (w.alloc (box r)) (.slice (some ⟨w.heap.size, 0, none⟩) 1 1) [r] := by
  refine .inr ⟨w.heap.size, 0, 1, rfl, fun j q hq => ?_⟩
  cases j with
  | zero => simp at hq; subst hq; simpa using rat_new w r
  | succ j => simp at hq

def hasB (r : R) (x y : Int) : Bool := mayB r && decide (r.x ≤ x) && decide (x < r.x + r.w) && decide (r.y ≤ y) && decide (y < r.y + r.h)
theorem bool_cases (b : Bool) : b = true ∨ b = false := by cases b <;> simp
theorem mays_one (r : R) : mays [r] = mayB r := by simp [mays]
theorem fits_one {r : R} (h : r.fits) : fitsAll [r] := fun q hq => by simp at hq; subst hq; exact h

/-- May, of one. -/
theorem may_one (r : R) (w : World) (hr : r.fits) (n : Nat) (hn : n = w.heap.size) :
    Calls Tryz.prog 102 #[.slice (some ⟨n, 0, none⟩) 1 1] (w.alloc (box r)) fun e w' => e = .returned (.bool (mayB r)) ∧ Below w.heap.size w w' := by
  subst hn
  refine (may_any _ [r] _ (rrow_one w r) (by simp) (fits_one hr)).mono ?_
  rintro e w' ⟨rfl, hb⟩
  exact ⟨by rw [mays_one], ((Below.refl _ _).alloc (Nat.le_refl _) _).trans (hb.mono (by simp))⟩

end Go.Proofs.YtbbjnimadnbmnaaGreat
