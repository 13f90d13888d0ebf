/- The document's own cut. -/
import Derived.Test.YtajhojbnpajelaaCutC
import Derived.Deep.RegionHeld3
namespace Go.Proofs.Ytajhojbnpajelaa
open Go.RowKit

theorem Two.drew {w : World} {base : Nat} {v1 : Value} {l1 : List R} {v2 : Value} {l2 : List R} (h : Two w base v1 l1 v2 l2) : Two w.drew base v1 l1 v2 l2 := ⟨h.own1, h.own2, h.ne⟩
theorem two_new {w : World} : Two ((w.alloc (.cells #[] 23)).alloc (.cells #[] 23)) w.heap.size (.slice (some ⟨w.heap.size, 0, none⟩) 0 0) [] (.slice (some ⟨w.heap.size + 1, 0, none⟩) 0 0) [] := by
  refine ⟨?_, ?_, fun k h1 h2 => ?_⟩
  · exact Owns.up (World.ownsRow_made w #[] 0 (Nat.le_refl _) (Nat.zero_le _) (by simp)) ((Below.refl _ _).alloc (Nat.le_refl _) _)
  · have := World.ownsRow_made (base := w.heap.size) (e := 23) (size := 4) (w.alloc (.cells #[] 23)) #[] 0 (by simp) (Nat.zero_le _) (by simp)
    rw [World.size_alloc] at this
    exact this
  · simp [Value.ownBlock] at h1 h2
    omega

theorem c5_of {w : World} {q b j : Nat} {r : R} {m : Int} (h : RAt w q 0 r) (hm : w.cell? ⟨b, j, none⟩ = some (.int .i64 m)) :
    w.cell? ⟨q, 0, none⟩ = some (.int .i64 r.x) ∧ w.cell? ⟨q, 1, none⟩ = some (.int .i64 r.y) ∧ w.cell? ⟨q, 2, none⟩ = some (.int .i64 r.w) ∧ w.cell? ⟨q, 3, none⟩ = some (.int .i64 r.h) ∧ w.cell? ⟨b, j, none⟩ = some (.int .i64 m) := by
  obtain ⟨h0, h1, h2, h3⟩ := h
  simp only [Nat.zero_add] at h1 h2 h3
  exact ⟨h0, h1, h2, h3, hm⟩

theorem fill_none {whole : Int} (h : 1 ≤ whole) : ¬ fillP whole [] := fun h' => by
  have := h'.2
  simp [offS] at this
  omega
theorem rcut_no {r : R} {ax : Int} {ms : List Int} {w w' : World} {b c b' c' : Nat} (h : ¬ cutP r ax ms) (hb : Below w.heap.size w w') : CutSays r ax ms w (.returned (.tuple #[.slice (some ⟨b, c, none⟩) 0 0, .slice (some ⟨b', c', none⟩) 0 0, .bool false])) w' :=
  ⟨_, _, false, rfl, by simp [h], .inl ⟨_, _, rfl, rfl⟩, .inl ⟨_, _, rfl, rfl⟩, hb⟩

set_option maxRecDepth 100000 in
set_option maxHeartbeats 1600000 in
/-- .. where it can't be. -/
theorem rcut_not (r : R) (ax : Int) (v : Value) (ms : List Int) (w : World) (hf : r.fits) (hr : IRow w v ms) (hax : 0 ≤ ax ∧ ax ≤ 255) (hno : ¬ (mayB r = true ∧ (ax = 1 ∨ ax = 2) ∧ 0 < ms.length)) :
    Calls Try.prog 51 #[val r, .int .u8 ax, v] w fun e w' => CutSays r ax ms w e w' := by
  obtain ⟨a, cap, rfl⟩ := hr.shape
  have B1 : Hid (Below w.heap.size w ((w.alloc (box r)).alloc (.cells #[] 23))) := ((Below.refl _ _).alloc (Nat.le_refl _) _).alloc (by simp) _
  have H := Lib.hid (rmay_any r ((w.alloc (box r)).alloc (.cells #[] 23)) hf)
  have hn : Hid (¬ cutP r ax ms) := fun h => by
    refine hno ⟨h.1, ?_, ?_⟩
    · rcases h.2 with h | h
      · exact .inl h.1
      · exact .inr h.1
    · have hb := (mayB_iff r).1 h.1
      rcases Nat.eq_zero_or_pos ms.length with h0 | h0
      · rw [List.length_eq_zero_iff.1 h0] at h
        rcases h.2 with h | h
        · exact absurd h.2 (fill_none (by omega))
        · exact absurd h.2 (fill_none (by omega))
      · exact h0
  clear hr hf
  rcases bool_cases (mayB r) with hm | hm
  case inr =>
    rw [hm] at H
    go_enter Try.func51, Try.ntmps51
    go_wp2_with fail
    refine H.out.mono ?_
    rintro e w2 ⟨rfl, hb2⟩
    have B2 := Lib.hid (B1.out.trans (hb2.mono B1.out.size))
    clear hb2
    go_wp2
    go_ret3
    exact rcut_no hn.out B2.out
  rw [hm] at H
  by_cases h1 : ax < 1
  · have d1 : decide (ax < 1) = true := decide_eq_true h1
    go_enter Try.func51, Try.ntmps51
    go_wp2_with fail
    refine H.out.mono ?_
    rintro e w2 ⟨rfl, hb2⟩
    have B2 := Lib.hid (B1.out.trans (hb2.mono B1.out.size))
    clear hb2
    go_wp2
    go_ret3
    exact rcut_no hn.out B2.out
  have d1 : decide (ax < 1) = false := decide_eq_false h1
  by_cases h2 : 2 < ax
  · have d2 : decide (2 < ax) = true := decide_eq_true h2
    go_enter Try.func51, Try.ntmps51
    go_wp2_with fail
    refine H.out.mono ?_
    rintro e w2 ⟨rfl, hb2⟩
    have B2 := Lib.hid (B1.out.trans (hb2.mono B1.out.size))
    clear hb2
    go_wp2
    go_ret3
    exact rcut_no hn.out B2.out
  have d2 : decide (2 < ax) = false := decide_eq_false h2
  have h0 : ms.length = 0 := by
    rcases Nat.eq_zero_or_pos ms.length with h0 | h0
    · exact h0
    · exact absurd ⟨hm, by omega, h0⟩ hno
  clear hno
  go_enter Try.func51, Try.ntmps51
  go_wp2_with fail
  refine H.out.mono ?_
  rintro e w2 ⟨rfl, hb2⟩
  have B2 := Lib.hid (B1.out.trans (hb2.mono B1.out.size))
  clear hb2
  go_wp2
  go_ret3
  exact rcut_no hn.out B2.out
end Go.Proofs.Ytajhojbnpajelaa
