/- The cell at a path: the program's answer. -/
import Derived.Test.YtlpklpkalcgeaaaFresh
namespace Go.Proofs.Ytlpklpkalcgeaaa
open Go.RowKit

abbrev zC : C := ⟨0, ⟨0, 0, 0, 0⟩, 0, none, 0, 0⟩
abbrev zT : T := .node 0 ⟨0, 0, 0, 0⟩ 0 []
theorem zero_fits : (⟨0, 0, 0, 0⟩ : R).fits := ⟨by simp [fits], by simp [fits], by simp [fits], by simp [fits]⟩
theorem zero_is (w : World) : Is w zC zT :=
  .mk zC [] [] (.inl ⟨_, _, rfl, rfl⟩) rfl ⟨⟨by simp, by simp⟩, zero_fits, by simp [fits], by simp⟩ (fun j x t hx => by simp at hx)

/-- A tree and whether there is one. -/
def TreeSays (r : Option T) (w : World) (e : Ending) (w' : World) : Prop := ∃ d, e = .returned (.tuple #[cval d, .bool r.isSome]) ∧ Is w' d (r.getD zT) ∧ Below w.heap.size w w'
theorem tree_some {r : Option T} {u : T} {w w' : World} {e : Ending} {d : C} (h : r = some u) (he : e = .returned (.tuple #[cval d, .bool true])) (hi : Is w' d u) (hb : Below w.heap.size w w') : TreeSays r w e w' := by
  subst h; exact ⟨d, he, hi, hb⟩
theorem tree_none {r : Option T} {w w' : World} {e : Ending} (h : r = none) (he : e = .returned (.tuple #[cval zC, .bool false])) (hb : Below w.heap.size w w') : TreeSays r w e w' := by
  subst h; exact ⟨zC, he, zero_is w', hb⟩

set_option maxRecDepth 100000 in
theorem at_any (t : T) (c : C) (v : Value) (p : List Int) (w : World) (hi : Is w c t) (hr : Row w v (ints p)) (hl : p.length ≤ 1000000) : Calls Try.prog 32 #[cval c, v] w (TreeSays (atT t p) w) := by
  have B1 : Hid (Below w.heap.size w ((w.alloc (cbox c)).alloc zeroBox)) := ((Below.refl _ _).alloc (Nat.le_refl _) _).alloc (by simp) _
  have Z1 : Hid (Zero7 ((w.alloc (cbox c)).alloc zeroBox) (w.heap.size + 1)) := Lib.hid (by
    have := zero_new (w.alloc (cbox c))
    simpa using this)
  have HC := Lib.hid (follow_any w t c v p ((w.alloc (cbox c)).alloc zeroBox) B1.out hi hr hl)
  obtain ⟨a, cap, rfl⟩ := row_shape hr
  clear hi hr
  cases hat : atT t p with
  | some u =>
    have HC2 : Hid (Calls Try.prog 40 #[cval c, .slice a p.length cap] ((w.alloc (cbox c)).alloc zeroBox) fun e w' => ∃ y, e = .returned (.tuple #[cval y, .bool true]) ∧ Is w y u ∧ Below ((w.alloc (cbox c)).alloc zeroBox).heap.size ((w.alloc (cbox c)).alloc zeroBox) w') := HC.out.mono fun e w' h => by
      unfold FollowSays at h; rw [hat] at h
      obtain ⟨hb, y, h1, h2⟩ := h
      exact ⟨y, h1, h2, hb⟩
    clear HC hat
    go_enter Try.func32, Try.ntmps32
    go_wp2_with fail
    refine HC2.out.mono ?_
    rintro e w2 ⟨y, rfl, hiy, hb2⟩
    have HB2 := Lib.hid (B1.out.trans (hb2.mono B1.out.size))
    have HZ2 := Lib.hid (zero_up Z1.out hb2)
    have HA : Hid (Below w2.heap.size w2 (w2.alloc (cbox y))) := (Below.refl _ _).alloc (Nat.le_refl _) _
    have HF := Lib.hid (fresh_any (sz u) u y (w2.alloc (cbox y)) (Nat.le_refl _) ((hiy.up HB2.out).up HA.out))
    clear hiy hb2
    go_wp2_with fail
    refine HF.out.mono ?_
    rintro e w3 ⟨d, S3, rfl, hown, -, hb3⟩
    have HO := Lib.hid hown
    have HB3 := Lib.hid (HB2.out.trans ((below_one hb3).mono HB2.out.size))
    have HZ3 := Lib.hid (zero_up HZ2.out (below_one hb3))
    have HSZ : Hid (w.heap.size + 2 ≤ w2.heap.size) := Lib.hid (by have := lt_of_block HZ2.out; omega)
    obtain ⟨⟨z0, z1, z2, z3, z4, z5, z6⟩, f0, f1, f2, f3, f4, f5, f6⟩ := zero_parts HZ3.out
    clear hown hb3
    go_wp2
    (try simp only [Exit.inBlock, Exit.then])
    refine bodyPost_ret (results_cell2 rfl _ _ (w.heap.size + 1) d rfl ((Box7.of_zero HZ3.out).put d)) rfl ?_
    refine tree_some rfl rfl ?_ (below_put7 HB3.out (by omega) d)
    refine (HO.out.frame fun k hk => ?_).is
    have := (HO.out.ge k hk).1
    have := HSZ.out
    simp at *
    exact heap_put7 (by omega)
  | none =>
    have HC2 : Hid (Calls Try.prog 40 #[cval c, .slice a p.length cap] ((w.alloc (cbox c)).alloc zeroBox) fun e w' => ∃ y : C, e = .returned (.tuple #[cval y, .bool false]) ∧ Below ((w.alloc (cbox c)).alloc zeroBox).heap.size ((w.alloc (cbox c)).alloc zeroBox) w') := HC.out.mono fun e w' h => by
      unfold FollowSays at h; rw [hat] at h
      obtain ⟨hb, y, h1⟩ := h
      exact ⟨y, h1, hb⟩
    clear HC hat
    go_enter Try.func32, Try.ntmps32
    go_wp2_with fail
    refine HC2.out.mono ?_
    rintro e w2 ⟨y, rfl, hb2⟩
    have HB2 := Lib.hid (B1.out.trans (hb2.mono B1.out.size))
    have HZ2 := Lib.hid (zero_up Z1.out hb2)
    have hlt := lt_of_block HZ2.out
    have hne : w.heap.size + 1 ≠ w2.heap.size := by omega
    obtain ⟨⟨z0, z1, z2, z3, z4, z5, z6⟩, f0, f1, f2, f3, f4, f5, f6⟩ := zero_parts HZ2.out
    clear hb2
    go_wp2
    (try simp only [Exit.inBlock, Exit.then])
    have HA : Below (put7 w2 (w.heap.size + 1) zC).heap.size (put7 w2 (w.heap.size + 1) zC) ((put7 w2 (w.heap.size + 1) zC).alloc (cbox y)) := (Below.refl _ _).alloc (Nat.le_refl _) _
    refine bodyPost_ret (results_cell2 rfl _ _ (w.heap.size + 1) zC rfl (((Box7.of_zero HZ2.out).put zC).up HA)) rfl ?_
    refine tree_none rfl rfl ?_
    have hbp := below_put7 HB2.out (show w.heap.size ≤ w.heap.size + 1 by omega) zC
    exact hbp.trans (HA.mono hbp.size)
end Go.Proofs.Ytlpklpkalcgeaaa
