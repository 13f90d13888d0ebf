/- The path to the first leaf with a number. -/
import Derived.Test.YtibjpkicchdomaaInts
import Derived.Test.YtibjpkicchdomaaShelf
import Derived.Sort.OwnSortedInts
namespace Go.Proofs.Ytibjpkicchdomaa
open Go.RowKit

theorem holds_ints (q : List Int) (w : World) (g : Nat) (hc : ∀ j u, (ints q)[j]? = some u → w.cell? ((⟨g, 0, none⟩ : Addr).add j) = some u) (hf : ∀ j, w.frozen? ⟨g, j, none⟩ = false) : Sort.Holds (Value.int .i64) w g 0 q.toArray := by
  intro j hj
  have hj' : j < q.length := by simpa using hj
  have h := hc j (.int .i64 q[j]) (by simp [ints, List.getElem?_eq_getElem hj'])
  rw [Go.WideShapes.add_plain] at h
  refine ⟨?_, hf _⟩
  rw [h]
  simp [hj']
theorem ints_of_holds {q : List Int} {w : World} {g cap : Nat} (h : Sort.Holds (Value.int .i64) w g 0 q.toArray) : Row w (.slice (some ⟨g, 0, none⟩) q.length cap) (ints q) := by
  refine ⟨some ⟨g, 0, none⟩, cap, by rw [ints_length], (fun h => by cases h), fun x hx j u hu => ?_⟩
  cases hx
  have hj : j < q.length := by
    rcases Nat.lt_or_ge j q.length with h | h
    · exact h
    · rw [List.getElem?_eq_none (by rw [ints_length]; exact h)] at hu; cases hu
  have h1 := (h j (by simpa using hj)).1
  rw [Go.WideShapes.add_plain, h1]
  simp [ints, hj] at hu
  rw [← hu]
  simp [hj]

theorem rev_any (v : Value) (p : List Int) (base : Nat) (w : World) (h : w.ownsRow base 3 1 v p.length (ints p.reverse)) (hl : p.length ≤ 1000000) :
    Calls Try.prog 48 #[v] w fun e w' => e = .returned (.tuple #[]) ∧ Row w' v (ints p) ∧ Below base w w' := by
  rcases h.2 with ⟨rfl, h0⟩ | ⟨g, cap, cur, rfl, hb, hg, hn, hm, hs, ht⟩
  · obtain rfl : p = [] := List.length_eq_zero_iff.1 h0
    refine (Try.slices_Reverse_int_empty none 0 w).mono ?_
    rintro e w' ⟨rfl, hw⟩
    subst hw
    exact ⟨rfl, ⟨none, 0, rfl, fun _ => ⟨rfl, rfl⟩, fun x hx => by cases hx⟩, Below.refl _ _⟩
  · have hH : Sort.Holds (Value.int .i64) w g 0 p.reverse.toArray := holds_ints _ w g (h.cells (g := g) rfl) (fun j => by simp [World.frozen?, hg])
    have := Try.slices_Reverse_int g 0 cap p.reverse w hH (by simp; omega)
    rw [List.length_reverse, List.reverse_reverse] at this
    refine this.mono ?_
    rintro e w' ⟨rfl, n, rfl⟩
    have hG := Sort.holds_putRow (Value.int .i64) (Sort.ahead w n) g 0 p.reverse.toArray p.toArray (Sort.holds_ahead _ w n g 0 _ hH) (by simp)
    have hgr := grownBy_sortedI (w := w) (g := g) (n := n) (os := #[]) p.toArray
    rw [Sort.grow_empty] at hgr
    refine ⟨rfl, ints_of_holds hG, ⟨hgr.os, hgr.tape, hgr.output, hgr.size, fun k hk => ?_⟩⟩
    rcases Nat.lt_or_ge k w.heap.size with h1 | h1
    · exact hgr.block k h1 (fun e => by cases e; omega)
    · have hlt := lt_of_block hg
      omega

def FindSays (r : Option (List Int)) (w : World) (e : Ending) (w' : World) : Prop :=
  Below w.heap.size w w' ∧ match r with
  | some p => ∃ v, e = .returned (.tuple #[v, .bool true]) ∧ Row w' v (ints p)
  | none => e = .returned (.tuple #[.slice none 0 0, .bool false])

set_option maxRecDepth 100000 in
theorem find_any (id : Int) (t : T) (c : C) (w : World) (hs : sz t ≤ 1000000) (hi : Is w c t) : Calls Try.prog 28 #[cval c, .int .i64 id] w (FindSays (findT id t) w) := by
  have HA : Hid (Below w.heap.size w (w.alloc (cbox c))) := (Below.refl _ _).alloc (Nat.le_refl _) _
  have H := Lib.hid (way_any id (sz t) t c (w.alloc (cbox c)) (Nat.le_refl _) hs (hi.up HA.out))
  have HS := Lib.hid hs
  clear hi hs
  cases hf : findT id t with
  | none =>
    rw [hf] at H
    clear hf
    go_enter Try.func28, Try.ntmps28
    go_wp2_with fail
    refine H.out.mono ?_
    rintro e w2 ⟨hb, rfl⟩
    have HB := Lib.hid hb
    clear hb
    go_wp2_with fail
    refine (Try.slices_Reverse_int_empty none 0 w2).mono ?_
    rintro e w3 ⟨rfl, hw⟩
    rw [hw]
    clear hw w3
    go_wp2
    go_ret2
    exact ⟨below_one HB.out, rfl⟩
  | some p =>
    rw [hf] at H
    have HL := Lib.hid (show p.length ≤ 1000000 by have := findT_len id p t hf; have := HS.out; omega)
    clear hf
    go_enter Try.func28, Try.ntmps28
    go_wp2_with fail
    refine H.out.mono ?_
    rintro e w2 ⟨hb, v, rfl, hown⟩
    have HB := Lib.hid hb
    have HO := Lib.hid hown
    clear hb hown
    go_wp2_with fail
    refine (rev_any v p _ w2 HO.out HL.out).mono ?_
    rintro e w3 ⟨rfl, hr, hb⟩
    have HR := Lib.hid hr
    have HB3 := Lib.hid (HB.out.trans hb)
    clear hr hb
    go_wp2
    go_ret2
    exact ⟨below_one HB3.out, v, rfl, HR.out⟩
end Go.Proofs.Ytibjpkicchdomaa
