/- A cell as one sees it along an axis: turn, look; its size, whether its kids stand along it. -/
import Derived.Test.YtajhojbnpajelaaBoxes
import Derived.Test.YtajhojbnpajelaaOne
import Derived.Deep.Cut
namespace Go.Proofs.Ytajhojbnpajelaa
open Go.RowKit

def turnK (k : Int) : Int := if k = 2 then 3 else if k = 3 then 2 else k
def turnC (c : C) : C := ⟨turnK c.k, ⟨c.r.y, c.r.x, c.r.h, c.r.w⟩, c.id, c.a, c.n, c.cap⟩
abbrev bare (c : C) : C := ⟨c.k, c.r, c.id, none, 0, 0⟩
abbrev noneC : C := ⟨0, ⟨0, 0, 0, 0⟩, 0, none, 0, 0⟩
def lookC (c : C) (ax : Int) : C := if ax = 2 then bare (turnC c) else if ax = 1 then bare c else noneC
/-- Do kids stand along an axis? -/
def alB (k ax : Int) : Bool := (k == 2 && ax == 1) || (k == 3 && ax == 2)
/-- Where a rectangle begins along an axis, and its size. -/
def szA (r : R) (ax : Int) : Int := if ax = 1 then r.w else if ax = 2 then r.h else 0
def atA (r : R) (ax : Int) : Int := if ax = 1 then r.x else if ax = 2 then r.y else 0
def axB (ax : Int) : Bool := ax == 1 || ax == 2
theorem axB_iff (ax : Int) : axB ax = true ↔ ax = 1 ∨ ax = 2 := by simp [axB]

theorem look_w (c : C) (ax : Int) : (lookC c ax).r.w = szA c.r ax := by
  unfold lookC szA
  by_cases h1 : ax = 1
  · subst h1; rfl
  · by_cases h2 : ax = 2
    · subst h2; rfl
    · rw [if_neg h1, if_neg h1, if_neg h2, if_neg h2]
theorem look_x (c : C) (ax : Int) : (lookC c ax).r.x = atA c.r ax := by
  unfold lookC atA
  by_cases h1 : ax = 1
  · subst h1; rfl
  · by_cases h2 : ax = 2
    · subst h2; rfl
    · rw [if_neg h1, if_neg h1, if_neg h2, if_neg h2]
theorem look_k (c : C) (ax : Int) : ((lookC c ax).k == 2) = alB c.k ax := by
  unfold lookC alB
  by_cases h1 : ax = 1
  · subst h1
    have : ((1 : Int) == 2) = false := rfl
    simp [this]
  · by_cases h2 : ax = 2
    · subst h2
      have : ((2 : Int) == 1) = false := rfl
      simp only [if_pos, this, Bool.and_false, Bool.false_or]
      show (turnK c.k == 2) = _
      unfold turnK
      by_cases k2 : c.k = 2
      · rw [if_pos k2, k2]; rfl
      · rw [if_neg k2]
        by_cases k3 : c.k = 3
        · rw [if_pos k3, k3]; rfl
        · rw [if_neg k3]
          have e2 : (c.k == 2) = false := by simpa using k2
          have e3 : (c.k == 3) = false := by simpa using k3
          rw [e2, e3]; rfl
    · rw [if_neg h2, if_neg h1]
      have e1 : (ax == 1) = false := by simpa using h1
      have e2 : (ax == 2) = false := by simpa using h2
      rw [e1, e2]; simp

theorem pair_new (w : World) (o1 o2 : Obj) (h : w.heap.size ≤ w.heap.size) : Below w.heap.size w ((w.alloc o1).alloc o2) := ((Below.refl _ _).alloc h _).alloc (by simp) _

set_option maxRecDepth 100000 in
theorem cturn_any (c : C) (w : World) : Calls Try.prog 41 #[cval c] w fun e w' => e = .returned (cval (turnC c)) ∧ Below w.heap.size w w' := by
  by_cases h2 : c.k = 2
  · have d2 : (c.k == 2) = true := by simpa using h2
    have ht : turnC c = ⟨3, ⟨c.r.y, c.r.x, c.r.h, c.r.w⟩, c.id, c.a, c.n, c.cap⟩ := by unfold turnC turnK; rw [if_pos h2]
    rw [ht]
    clear ht
    go_enter Try.func41, Try.ntmps41
    go_wp2
    (try simp only [Exit.inBlock, Exit.then])
    refine bodyPost_ret (results_cell_row rfl _ _ (w.heap.size + 1) 26 _ (0, 0) _ rfl (heap_alloc2_new w _ (cbox ⟨3, ⟨c.r.y, c.r.x, c.r.h, c.r.w⟩, c.id, c.a, c.n, c.cap⟩)) Try.underlying26 rfl (by kernel_rfl)) rfl ?_
    exact ⟨rfl, pair_new w _ _ (Nat.le_refl _)⟩
  · have d2 : (c.k == 2) = false := by simpa using h2
    by_cases h3 : c.k = 3
    · have d3 : (c.k == 3) = true := by simpa using h3
      have ht : turnC c = ⟨2, ⟨c.r.y, c.r.x, c.r.h, c.r.w⟩, c.id, c.a, c.n, c.cap⟩ := by unfold turnC turnK; rw [if_neg h2, if_pos h3]
      rw [ht]
      clear ht h2
      go_enter Try.func41, Try.ntmps41
      go_wp2
      (try simp only [Exit.inBlock, Exit.then])
      refine bodyPost_ret (results_cell_row rfl _ _ (w.heap.size + 1) 26 _ (0, 0) _ rfl (heap_alloc2_new w _ (cbox ⟨2, ⟨c.r.y, c.r.x, c.r.h, c.r.w⟩, c.id, c.a, c.n, c.cap⟩)) Try.underlying26 rfl (by kernel_rfl)) rfl ?_
      exact ⟨rfl, pair_new w _ _ (Nat.le_refl _)⟩
    · have d3 : (c.k == 3) = false := by simpa using h3
      have ht : turnC c = ⟨c.k, ⟨c.r.y, c.r.x, c.r.h, c.r.w⟩, c.id, c.a, c.n, c.cap⟩ := by unfold turnC turnK; rw [if_neg h2, if_neg h3]
      rw [ht]
      clear ht h2 h3
      go_enter Try.func41, Try.ntmps41
      go_wp2
      (try simp only [Exit.inBlock, Exit.then])
      refine bodyPost_ret (results_cell_row rfl _ _ (w.heap.size + 1) 26 _ (0, 0) _ rfl (heap_alloc2_new w _ (cbox ⟨c.k, ⟨c.r.y, c.r.x, c.r.h, c.r.w⟩, c.id, c.a, c.n, c.cap⟩)) Try.underlying26 rfl (by kernel_rfl)) rfl ?_
      exact ⟨rfl, pair_new w _ _ (Nat.le_refl _)⟩

set_option maxRecDepth 100000 in
theorem look_any (c : C) (ax : Int) (w : World) : Calls Try.prog 30 #[cval c, .int .u8 ax] w fun e w' => e = .returned (cval (lookC c ax)) ∧ Below w.heap.size w w' := by
  by_cases h2 : ax = 2
  · subst h2
    have ht : lookC c 2 = bare (turnC c) := rfl
    rw [ht]
    clear ht
    have B1 : Hid (Below w.heap.size w ((w.alloc (cbox c)).alloc zeroBox)) := Lib.hid (pair_new w _ _ (Nat.le_refl _))
    have C1 : Hid (Box7 ((w.alloc (cbox c)).alloc zeroBox) w.heap.size c) := Lib.hid ((Box7.new w c).up ((Below.refl _ _).alloc (Nat.le_refl _) _))
    have Z1 : Hid (Zero7 ((w.alloc (cbox c)).alloc zeroBox) (w.heap.size + 1)) := Lib.hid (by
      have := zero_new (w.alloc (cbox c))
      simpa using this)
    have HT := Lib.hid (cturn_any c ((w.alloc (cbox c)).alloc zeroBox))
    generalize turnC c = d at HT ⊢
    go_enter Try.func30, Try.ntmps30
    go_wp2_with fail
    refine HT.out.mono ?_
    rintro e w2 ⟨rfl, hb2⟩
    have B2 := Lib.hid (B1.out.trans (hb2.mono B1.out.size))
    have C2 := Lib.hid (C1.out.up hb2)
    have Z2 := Lib.hid (zero_up Z1.out hb2)
    clear hb2
    have hlt := lt_of_block C2.out
    obtain ⟨c0, c1, c2, c3, c4, c5, c6⟩ := C2.out.cat
    simp only [Nat.zero_add] at c1 c2 c3 c4 c5 c6
    have g0 := C2.out.free 0
    have g1 := C2.out.free 1
    have g2 := C2.out.free 2
    have g3 := C2.out.free 3
    have g4 := C2.out.free 4
    have g5 := C2.out.free 5
    have g6 := C2.out.free 6
    have C3 := Lib.hid (C2.out.put d)
    have Z3 : Hid (Zero7 (put7 w2 w.heap.size d) (w.heap.size + 1)) := Lib.hid ((heap_put7 (by omega)).trans Z2.out)
    have B3 := Lib.hid (below_put7 B2.out (Nat.le_refl _) d)
    go_upto_region 5 with (fail)
    change Code.wp _ _ _ _ (put7 w2 w.heap.size d)
    generalize put7 w2 w.heap.size d = w3 at C3 Z3 B3 ⊢
    clear c0 c1 c2 c3 c4 c5 c6 g0 g1 g2 g3 g4 g5 g6 hlt
    obtain ⟨c0, c1, c2, c3, c4, c5, c6⟩ := C3.out.cat
    simp only [Nat.zero_add] at c1 c2 c3 c4 c5 c6
    have g6 := C3.out.free 6
    have C4 := Lib.hid (C3.out.kids none 0 0)
    have Z4 : Hid (Zero7 (w3.setCell ⟨w.heap.size, 6, none⟩ (.slice none 0 0)) (w.heap.size + 1)) := Lib.hid ((Below.heap_setCell w3 ⟨w.heap.size, 6, none⟩ _ _ (by simp)).trans Z3.out)
    have B4 : Hid (Below w.heap.size w (w3.setCell ⟨w.heap.size, 6, none⟩ (.slice none 0 0))) := Lib.hid (B3.out.setCell (Nat.le_refl _) _)
    go_upto_region 6 with (fail)
    change Code.wp _ _ _ _ (w3.setCell ⟨w.heap.size, 6, none⟩ (.slice none 0 0))
    generalize w3.setCell ⟨w.heap.size, 6, none⟩ (.slice none 0 0) = w4 at C4 Z4 B4 ⊢
    clear c0 c1 c2 c3 c4 c5 c6 g6
    obtain ⟨c0, c1, c2, c3, c4, c5, c6⟩ := C4.out.cat
    simp only [Nat.zero_add] at c1 c2 c3 c4 c5 c6
    obtain ⟨⟨z0, z1, z2, z3, z4, z5, z6⟩, f0, f1, f2, f3, f4, f5, f6⟩ := zero_parts Z4.out
    go_wp2
    (try simp only [Exit.inBlock, Exit.then])
    refine bodyPost_ret (results_cell1 rfl _ (put7 w4 (w.heap.size + 1) (bare d)) (w.heap.size + 1) (bare d) rfl ((Box7.of_zero Z4.out).put (bare d))) rfl ?_
    exact ⟨rfl, below_put7 B4.out (by omega) (bare d)⟩
  · have d2 : (ax == 2) = false := by simpa using h2
    by_cases h1 : ax = 1
    · subst h1
      have ht : lookC c 1 = bare c := rfl
      rw [ht]
      clear ht
      go_enter Try.func30, Try.ntmps30
      go_wp2
      (try simp only [Exit.inBlock, Exit.then])
      refine bodyPost_ret (results_cell_row rfl _ _ (w.heap.size + 1) 26 _ (0, 0) _ rfl (heap_alloc2_new w _ (cbox (bare c))) Try.underlying26 rfl (by kernel_rfl)) rfl ?_
      exact ⟨rfl, pair_new w _ _ (Nat.le_refl _)⟩
    · have d1 : (ax == 1) = false := by simpa using h1
      have ht : lookC c ax = noneC := by unfold lookC; rw [if_neg h2, if_neg h1]
      rw [ht]
      clear ht h1 h2
      go_enter Try.func30, Try.ntmps30
      go_wp2
      (try simp only [Exit.inBlock, Exit.then])
      refine bodyPost_ret (results_cell_row rfl _ _ (w.heap.size + 1) 26 _ (0, 0) _ rfl (heap_alloc2_new w _ (cbox noneC)) Try.underlying26 rfl (by kernel_rfl)) rfl ?_
      exact ⟨rfl, pair_new w _ _ (Nat.le_refl _)⟩

theorem field_rect (c : C) (w : World) : Sem.run Try.prog (Instr.field 26 (cval c) 1) w = .ok (val c.r) w := by kernel_rfl
theorem field_kind (c : C) (w : World) : Sem.run Try.prog (Instr.field 26 (cval c) 0) w = .ok (.int .u8 c.k) w := by kernel_rfl
theorem field_w (r : R) (w : World) : Sem.run Try.prog (Instr.field 23 (val r) 2) w = .ok (.int .i64 r.w) w := by kernel_rfl
theorem field_x (r : R) (w : World) : Sem.run Try.prog (Instr.field 23 (val r) 0) w = .ok (.int .i64 r.x) w := by kernel_rfl

theorem size_any (r : R) (ax : Int) (w : World) : Calls Try.prog 15 #[val r, .int .u8 ax] w fun e w' => e = .returned (.int .i64 (szA r ax)) ∧ Below w.heap.size w w' := by
  have hw := look_w ⟨0, r, 0, none, 0, 0⟩ ax
  have HL := Lib.hid (look_any ⟨0, r, 0, none, 0, 0⟩ ax (w.alloc (box r)))
  simp only at hw
  generalize lookC ⟨0, r, 0, none, 0, 0⟩ ax = d at hw HL
  generalize szA r ax = s at hw ⊢
  subst hw
  have f1 := field_rect d
  have f2 := field_w d.r
  go_enter Try.func15, Try.ntmps15
  go_wp2_with fail
  refine HL.out.mono ?_
  rintro e w2 ⟨rfl, hb2⟩
  have B2 := Lib.hid (below_one hb2)
  clear hb2
  go_wp2
  go_ret
  exact ⟨rfl, B2.out⟩

theorem along8_any (c : C) (ax : Int) (w : World) : Calls Try.prog 17 #[cval c, .int .u8 ax] w fun e w' => e = .returned (.bool (alB c.k ax)) ∧ Below w.heap.size w w' := by
  have hw := look_k c ax
  have HL := Lib.hid (look_any c ax (w.alloc (cbox c)))
  generalize lookC c ax = d at hw HL
  generalize alB c.k ax = s at hw ⊢
  subst hw
  have f1 := field_kind d
  go_enter Try.func17, Try.ntmps17
  go_wp2_with fail
  refine HL.out.mono ?_
  rintro e w2 ⟨rfl, hb2⟩
  have B2 := Lib.hid (below_one hb2)
  clear hb2
  go_wp2
  go_ret
  exact ⟨rfl, B2.out⟩

theorem isAxis_any (ax : Int) (w : World) : Calls Try.prog 24 #[.int .u8 ax] w fun e w' => e = .returned (.bool (axB ax)) ∧ w = w' := by
  by_cases h1 : ax = 1
  · subst h1
    go_enter Try.func24, Try.ntmps24
    go_wp2
    go_ret
    exact ⟨rfl, rfl⟩
  · have d1 : (ax == 1) = false := by simpa using h1
    by_cases h2 : ax = 2
    · subst h2
      go_enter Try.func24, Try.ntmps24
      go_wp2
      go_ret
      exact ⟨rfl, rfl⟩
    · have d2 : (ax == 2) = false := by simpa using h2
      go_enter Try.func24, Try.ntmps24
      go_wp2
      go_ret
      exact ⟨by rw [axB, d1, d2]; rfl, rfl⟩

theorem rsize_any (r : R) (ax : Int) (w : World) : Calls Try.prog 16 #[val r, .int .u8 ax] w fun e w' => e = .returned (.int .i64 (szA r ax)) ∧ Below w.heap.size w w' := by
  have B1 : Hid (Below w.heap.size w (w.alloc (box r))) := (Below.refl _ _).alloc (Nat.le_refl _) _
  by_cases h1 : ax = 1
  · subst h1
    go_enter Try.func16, Try.ntmps16
    go_wp2
    go_ret
    exact ⟨rfl, B1.out⟩
  · have d1 : (ax == 1) = false := by simpa using h1
    by_cases h2 : ax = 2
    · subst h2
      go_enter Try.func16, Try.ntmps16
      go_wp2
      go_ret
      exact ⟨rfl, B1.out⟩
    · have d2 : (ax == 2) = false := by simpa using h2
      have hs : Hid (szA r ax = 0) := Lib.hid (by unfold szA; rw [if_neg h1, if_neg h2])
      clear h1 h2
      go_enter Try.func16, Try.ntmps16
      go_wp2
      go_ret
      exact ⟨by rw [hs.out]; rfl, B1.out⟩

set_option maxRecDepth 100000 in
theorem ralong_any (c : C) (ax : Int) (w : World) : Calls Try.prog 18 #[cval c, .int .u8 ax] w fun e w' => e = .returned (.bool (alB c.k ax)) ∧ Below w.heap.size w w' := by
  have B1 : Hid (Below w.heap.size w (w.alloc (cbox c))) := (Below.refl _ _).alloc (Nat.le_refl _) _
  have hv : Hid (alB c.k ax = ((c.k == 2 && ax == 1) || (c.k == 3 && ax == 2))) := Lib.hid rfl
  rcases bool_cases (c.k == 2) with d1 | d1 <;> rcases bool_cases (ax == 1) with d2 | d2 <;> rcases bool_cases (c.k == 3) with d3 | d3 <;> rcases bool_cases (ax == 2) with d4 | d4
  all_goals
    rw [d1, d2, d3, d4] at hv
    go_enter Try.func18, Try.ntmps18
    go_wp2
    go_ret
    exact ⟨by rw [hv.out]; rfl, B1.out⟩
end Go.Proofs.Ytajhojbnpajelaa
