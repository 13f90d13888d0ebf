/- Texts of this seat, 3 in one file. -/
import Derived.Test.YtcdiogifgemjbaaGreatG06
import Derived.Test.YtcdiogifgemjbaaGreatG08
import Derived.Deep.Cut
/- A cell as one sees it along an axis: turn, look; its size, whether its kids stand along it. -/
namespace Go.Proofs.YtcdiogifgemjbaaGreat
open Go.RowKit

def turnK (k : Int) : Int := if k = 2 then 3 else if k = 3 then 2 else k
def turnC (c : C) : C := ⟨turnK c.k, ⟨c.r.y, c.r.x, c.r.h, c.r.w⟩, c.id, c.a, c.n, c.cap⟩
abbrev bare (c : C) : C := ⟨c.k, c.r, c.id, none, 0, 0⟩
abbrev noneC : C := ⟨0, ⟨0, 0, 0, 0⟩, 0, none, 0, 0⟩
def lookC (c : C) (ax : Int) : C := if ax = 2 then bare (turnC c) else if ax = 1 then bare c else noneC
/-- Do kids stand along an axis? -/
def alB (k ax : Int) : Bool := (k == 2 && ax == 1) || (k == 3 && ax == 2)
/-- Where a rectangle begins along an axis, and its size. -/
def szA (r : R) (ax : Int) : Int := if ax = 1 then r.w else if ax = 2 then r.h else 0
def atA (r : R) (ax : Int) : Int := if ax = 1 then r.x else if ax = 2 then r.y else 0
def axB (ax : Int) : Bool := ax == 1 || ax == 2
theorem axB_iff (ax : Int) : axB ax = true ↔ ax = 1 ∨ ax = 2 := by simp [axB]

theorem look_w (c : C) (ax : Int) : (lookC c ax).r.w = szA c.r ax := by
  unfold lookC szA
  by_cases h1 : ax = 1
  · subst h1; rfl
  · by_cases h2 : ax = 2
    · subst h2; rfl
    · rw [if_neg h1, if_neg h1, if_neg h2, if_neg h2]
theorem look_x (c : C) (ax : Int) : (lookC c ax).r.x = atA c.r ax := by
  unfold lookC atA
  by_cases h1 : ax = 1
  · subst h1; rfl
  · by_cases h2 : ax = 2
    · subst h2; rfl
    · rw [if_neg h1, if_neg h1, if_neg h2, if_neg h2]
theorem look_k (c : C) (ax : Int) : ((lookC c ax).k == 2) = alB c.k ax := by
  unfold lookC alB
  by_cases h1 : ax = 1
  · subst h1
    have : ((1 : Int) == 2) = false := rfl
    simp [this]
  · by_cases h2 : ax = 2
    · subst h2
      have : ((2 : Int) == 1) = false := rfl
      simp only [if_pos, this, Bool.and_false, Bool.false_or]
      show (turnK c.k == 2) = _
      unfold turnK
      by_cases k2 : c.k = 2
      · rw [if_pos k2, k2]; rfl
      · rw [if_neg k2]
        by_cases k3 : c.k = 3
        · rw [if_pos k3, k3]; rfl
        · rw [if_neg k3]
          have e2 : (c.k == 2) = false := by simpa using k2
          have e3 : (c.k == 3) = false := by simpa using k3
          rw [e2, e3]; rfl
    · rw [if_neg h2, if_neg h1]
      have e1 : (ax == 1) = false := by simpa using h1
      have e2 : (ax == 2) = false := by simpa using h2
      rw [e1, e2]; simp

theorem pair_new (w : World) (o1 o2 : Obj) (h : w.heap.size ≤ w.heap.size) : Below w.heap.size w ((w.alloc o1).alloc o2) := ((Below.refl _ _).alloc h _).alloc (by simp) _

set_option maxRecDepth 100000 in
theorem cturn_any (c : C) (w : World) : Calls Tryz.prog 67 #[cval c] w fun e w' => e = .returned (cval (turnC c)) ∧ Below w.heap.size w w' := by
  by_cases h2 : c.k = 2
  · have d2 : (c.k == 2) = true := by simpa using h2
    have ht : turnC c = ⟨3, ⟨c.r.y, c.r.x, c.r.h, c.r.w⟩, c.id, c.a, c.n, c.cap⟩ := by unfold turnC turnK; rw [if_pos h2]
    rw [ht]
    clear ht
    go_enter Tryz.func67, Tryz.ntmps67
    go_wp2
    (try simp only [Exit.inBlock, Exit.then])
    refine bodyPost_ret (results_cell_row rfl _ _ (w.heap.size + 1) 26 _ (0, 0) _ rfl (heap_alloc2_new w _ (cbox ⟨3, ⟨c.r.y, c.r.x, c.r.h, c.r.w⟩, c.id, c.a, c.n, c.cap⟩)) Tryz.underlying26 rfl (by kernel_rfl)) rfl ?_
    exact ⟨rfl, pair_new w _ _ (Nat.le_refl _)⟩
  · have d2 : (c.k == 2) = false := by simpa using h2
    by_cases h3 : c.k = 3
    · have d3 : (c.k == 3) = true := by simpa using h3
      have ht : turnC c = ⟨2, ⟨c.r.y, c.r.x, c.r.h, c.r.w⟩, c.id, c.a, c.n, c.cap⟩ := by unfold turnC turnK; rw [if_neg h2, if_pos h3]
      rw [ht]
      clear ht h2
      go_enter Tryz.func67, Tryz.ntmps67
      go_wp2
      (try simp only [Exit.inBlock, Exit.then])
      refine bodyPost_ret (results_cell_row rfl _ _ (w.heap.size + 1) 26 _ (0, 0) _ rfl (heap_alloc2_new w _ (cbox ⟨2, ⟨c.r.y, c.r.x, c.r.h, c.r.w⟩, c.id, c.a, c.n, c.cap⟩)) Tryz.underlying26 rfl (by kernel_rfl)) rfl ?_
      exact ⟨rfl, pair_new w _ _ (Nat.le_refl _)⟩
    · have d3 : (c.k == 3) = false := by simpa using h3
      have ht : turnC c = ⟨c.k, ⟨c.r.y, c.r.x, c.r.h, c.r.w⟩, c.id, c.a, c.n, c.cap⟩ := by unfold turnC turnK; rw [if_neg h2, if_neg h3]
      rw [ht]
      clear ht h2 h3
      go_enter Tryz.func67, Tryz.ntmps67
      go_wp2
      (try simp only [Exit.inBlock, Exit.then])
      refine bodyPost_ret (results_cell_row rfl _ _ (w.heap.size + 1) 26 _ (0, 0) _ rfl (heap_alloc2_new w _ (cbox ⟨c.k, ⟨c.r.y, c.r.x, c.r.h, c.r.w⟩, c.id, c.a, c.n, c.cap⟩)) Tryz.underlying26 rfl (by kernel_rfl)) rfl ?_
      exact ⟨rfl, pair_new w _ _ (Nat.le_refl _)⟩

set_option maxRecDepth 100000 in
theorem look_any (c : C) (ax : Int) (w : World) : Calls Tryz.prog 51 #[cval c, .int .u8 ax] w fun e w' => e = .returned (cval (lookC c ax)) ∧ Below w.heap.size w w' := by
  by_cases h2 : ax = 2
  · subst h2
    have ht : lookC c 2 = bare (turnC c) := rfl
    rw [ht]
    clear ht
    have B1 : Hid (Below w.heap.size w ((w.alloc (cbox c)).alloc zeroBox)) := Lib.hid (pair_new w _ _ (Nat.le_refl _))
    have C1 : Hid (Box7 ((w.alloc (cbox c)).alloc zeroBox) w.heap.size c) := Lib.hid ((Box7.new w c).up ((Below.refl _ _).alloc (Nat.le_refl _) _))
    have Z1 : Hid (Zero7 ((w.alloc (cbox c)).alloc zeroBox) (w.heap.size + 1)) := Lib.hid (by
      have := zero_new (w.alloc (cbox c))
      simpa using this)
    have HT := Lib.hid (cturn_any c ((w.alloc (cbox c)).alloc zeroBox))
    generalize turnC c = d at HT ⊢
    go_enter Tryz.func51, Tryz.ntmps51
    go_wp2_with fail
    refine HT.out.mono ?_
    rintro e w2 ⟨rfl, hb2⟩
    have B2 := Lib.hid (B1.out.trans (hb2.mono B1.out.size))
    have C2 := Lib.hid (C1.out.up hb2)
    have Z2 := Lib.hid (zero_up Z1.out hb2)
    clear hb2
    have hlt := lt_of_block C2.out
    obtain ⟨c0, c1, c2, c3, c4, c5, c6⟩ := C2.out.cat
    simp only [Nat.zero_add] at c1 c2 c3 c4 c5 c6
    have g0 := C2.out.free 0
    have g1 := C2.out.free 1
    have g2 := C2.out.free 2
    have g3 := C2.out.free 3
    have g4 := C2.out.free 4
    have g5 := C2.out.free 5
    have g6 := C2.out.free 6
    have C3 := Lib.hid (C2.out.put d)
    have Z3 : Hid (Zero7 (put7 w2 w.heap.size d) (w.heap.size + 1)) := Lib.hid ((heap_put7 (by omega)).trans Z2.out)
    have B3 := Lib.hid (below_put7 B2.out (Nat.le_refl _) d)
    go_upto_region 5 with (fail)
    change Code.wp _ _ _ _ (put7 w2 w.heap.size d)
    generalize put7 w2 w.heap.size d = w3 at C3 Z3 B3 ⊢
    clear c0 c1 c2 c3 c4 c5 c6 g0 g1 g2 g3 g4 g5 g6 hlt
    obtain ⟨c0, c1, c2, c3, c4, c5, c6⟩ := C3.out.cat
    simp only [Nat.zero_add] at c1 c2 c3 c4 c5 c6
    have g6 := C3.out.free 6
    have C4 := Lib.hid (C3.out.kids none 0 0)
    have Z4 : Hid (Zero7 (w3.setCell ⟨w.heap.size, 6, none⟩ (.slice none 0 0)) (w.heap.size + 1)) := Lib.hid ((Below.heap_setCell w3 ⟨w.heap.size, 6, none⟩ _ _ (by simp)).trans Z3.out)
    have B4 : Hid (Below w.heap.size w (w3.setCell ⟨w.heap.size, 6, none⟩ (.slice none 0 0))) := Lib.hid (B3.out.setCell (Nat.le_refl _) _)
    go_upto_region 6 with (fail)
    change Code.wp _ _ _ _ (w3.setCell ⟨w.heap.size, 6, none⟩ (.slice none 0 0))
    generalize w3.setCell ⟨w.heap.size, 6, none⟩ (.slice none 0 0) = w4 at C4 Z4 B4 ⊢
    clear c0 c1 c2 c3 c4 c5 c6 g6
    obtain ⟨c0, c1, c2, c3, c4, c5, c6⟩ := C4.out.cat
    simp only [Nat.zero_add] at c1 c2 c3 c4 c5 c6
    obtain ⟨⟨z0, z1, z2, z3, z4, z5, z6⟩, f0, f1, f2, f3, f4, f5, f6⟩ := zero_parts Z4.out
    go_wp2
    (try simp only [Exit.inBlock, Exit.then])
    refine bodyPost_ret (results_cell1 rfl _ (put7 w4 (w.heap.size + 1) (bare d)) (w.heap.size + 1) (bare d) rfl ((Box7.of_zero Z4.out).put (bare d))) rfl ?_
    exact ⟨rfl, below_put7 B4.out (by omega) (bare d)⟩
  · have d2 : (ax == 2) = false := by simpa using h2
    by_cases h1 : ax = 1
    · subst h1
      have ht : lookC c 1 = bare c := rfl
      rw [ht]
      clear ht
      go_enter Tryz.func51, Tryz.ntmps51
      go_wp2
      (try simp only [Exit.inBlock, Exit.then])
      refine bodyPost_ret (results_cell_row rfl _ _ (w.heap.size + 1) 26 _ (0, 0) _ rfl (heap_alloc2_new w _ (cbox (bare c))) Tryz.underlying26 rfl (by kernel_rfl)) rfl ?_
      exact ⟨rfl, pair_new w _ _ (Nat.le_refl _)⟩
    · have d1 : (ax == 1) = false := by simpa using h1
      have ht : lookC c ax = noneC := by unfold lookC; rw [if_neg h2, if_neg h1]
      rw [ht]
      clear ht h1 h2
      go_enter Tryz.func51, Tryz.ntmps51
      go_wp2
      (try simp only [Exit.inBlock, Exit.then])
      refine bodyPost_ret (results_cell_row rfl _ _ (w.heap.size + 1) 26 _ (0, 0) _ rfl (heap_alloc2_new w _ (cbox noneC)) Tryz.underlying26 rfl (by kernel_rfl)) rfl ?_
      exact ⟨rfl, pair_new w _ _ (Nat.le_refl _)⟩

theorem field_rect (c : C) (w : World) : Sem.run Tryz.prog (Instr.field 26 (cval c) 1) w = .ok (val c.r) w := by kernel_rfl
theorem field_kind (c : C) (w : World) : Sem.run Tryz.prog (Instr.field 26 (cval c) 0) w = .ok (.int .u8 c.k) w := by kernel_rfl
theorem field_w (r : R) (w : World) : Sem.run Tryz.prog (Instr.field 23 (val r) 2) w = .ok (.int .i64 r.w) w := by kernel_rfl
theorem field_x (r : R) (w : World) : Sem.run Tryz.prog (Instr.field 23 (val r) 0) w = .ok (.int .i64 r.x) w := by kernel_rfl

theorem lsize_any (r : R) (ax : Int) (w : World) : Calls Tryz.prog 34 #[val r, .int .u8 ax] w fun e w' => e = .returned (.int .i64 (szA r ax)) ∧ Below w.heap.size w w' := by
  have hw := look_w ⟨0, r, 0, none, 0, 0⟩ ax
  have HL := Lib.hid (look_any ⟨0, r, 0, none, 0, 0⟩ ax (w.alloc (box r)))
  simp only at hw
  generalize lookC ⟨0, r, 0, none, 0, 0⟩ ax = d at hw HL
  generalize szA r ax = s at hw ⊢
  subst hw
  have f1 := field_rect d
  have f2 := field_w d.r
  go_enter Tryz.func34, Tryz.ntmps34
  go_wp2_with fail
  refine HL.out.mono ?_
  rintro e w2 ⟨rfl, hb2⟩
  have B2 := Lib.hid (below_one hb2)
  clear hb2
  go_wp2
  go_ret
  exact ⟨rfl, B2.out⟩

theorem along8_any (c : C) (ax : Int) (w : World) : Calls Tryz.prog 50 #[cval c, .int .u8 ax] w fun e w' => e = .returned (.bool (alB c.k ax)) ∧ Below w.heap.size w w' := by
  have hw := look_k c ax
  have HL := Lib.hid (look_any c ax (w.alloc (cbox c)))
  generalize lookC c ax = d at hw HL
  generalize alB c.k ax = s at hw ⊢
  subst hw
  have f1 := field_kind d
  go_enter Tryz.func50, Tryz.ntmps50
  go_wp2_with fail
  refine HL.out.mono ?_
  rintro e w2 ⟨rfl, hb2⟩
  have B2 := Lib.hid (below_one hb2)
  clear hb2
  go_wp2
  go_ret
  exact ⟨rfl, B2.out⟩

theorem isAxis_any (ax : Int) (w : World) : Calls Tryz.prog 68 #[.int .u8 ax] w fun e w' => e = .returned (.bool (axB ax)) ∧ w = w' := by
  by_cases h1 : ax = 1
  · subst h1
    go_enter Tryz.func68, Tryz.ntmps68
    go_wp2
    go_ret
    exact ⟨rfl, rfl⟩
  · have d1 : (ax == 1) = false := by simpa using h1
    by_cases h2 : ax = 2
    · subst h2
      go_enter Tryz.func68, Tryz.ntmps68
      go_wp2
      go_ret
      exact ⟨rfl, rfl⟩
    · have d2 : (ax == 2) = false := by simpa using h2
      go_enter Tryz.func68, Tryz.ntmps68
      go_wp2
      go_ret
      exact ⟨by rw [axB, d1, d2]; rfl, rfl⟩

theorem rsize_any (r : R) (ax : Int) (w : World) : Calls Tryz.prog 38 #[val r, .int .u8 ax] w fun e w' => e = .returned (.int .i64 (szA r ax)) ∧ Below w.heap.size w w' := by
  have B1 : Hid (Below w.heap.size w (w.alloc (box r))) := (Below.refl _ _).alloc (Nat.le_refl _) _
  by_cases h1 : ax = 1
  · subst h1
    go_enter Tryz.func38, Tryz.ntmps38
    go_wp2
    go_ret
    exact ⟨rfl, B1.out⟩
  · have d1 : (ax == 1) = false := by simpa using h1
    by_cases h2 : ax = 2
    · subst h2
      go_enter Tryz.func38, Tryz.ntmps38
      go_wp2
      go_ret
      exact ⟨rfl, B1.out⟩
    · have d2 : (ax == 2) = false := by simpa using h2
      have hs : Hid (szA r ax = 0) := Lib.hid (by unfold szA; rw [if_neg h1, if_neg h2])
      clear h1 h2
      go_enter Tryz.func38, Tryz.ntmps38
      go_wp2
      go_ret
      exact ⟨by rw [hs.out]; rfl, B1.out⟩

set_option maxRecDepth 100000 in
theorem ralong_any (c : C) (ax : Int) (w : World) : Calls Tryz.prog 75 #[cval c, .int .u8 ax] w fun e w' => e = .returned (.bool (alB c.k ax)) ∧ Below w.heap.size w w' := by
  have B1 : Hid (Below w.heap.size w (w.alloc (cbox c))) := (Below.refl _ _).alloc (Nat.le_refl _) _
  have hv : Hid (alB c.k ax = ((c.k == 2 && ax == 1) || (c.k == 3 && ax == 2))) := Lib.hid rfl
  rcases bool_cases (c.k == 2) with d1 | d1 <;> rcases bool_cases (ax == 1) with d2 | d2 <;> rcases bool_cases (c.k == 3) with d3 | d3 <;> rcases bool_cases (ax == 2) with d4 | d4
  all_goals
    rw [d1, d2, d3, d4] at hv
    go_enter Tryz.func75, Tryz.ntmps75
    go_wp2
    go_ret
    exact ⟨by rw [hv.out]; rfl, B1.out⟩
end Go.Proofs.YtcdiogifgemjbaaGreat
/- The cells of a tree, each ahead of its kids, asked by a closure up to the first that is so: which one it is. -/
namespace Go.Proofs.YtcdiogifgemjbaaGreat
open Go.RowKit

mutual
def firstT {σ : Type} (f : σ → T → Bool × σ) (s : σ) : T → (Nat × Bool) × σ
  | .node k r i l => if (f s (.node k r i l)).1 = true then ((0, true), (f s (.node k r i l)).2) else firstL f (f s (.node k r i l)).2 1 l
def firstL {σ : Type} (f : σ → T → Bool × σ) (s : σ) (n : Nat) : List T → (Nat × Bool) × σ
  | [] => ((n, false), s)
  | t :: l => if (firstT f s t).1.2 = true then ((n + (firstT f s t).1.1, true), (firstT f s t).2) else firstL f (firstT f s t).2 (n + (firstT f s t).1.1) l
end
theorem firstT_eq {σ : Type} (f : σ → T → Bool × σ) (s : σ) (t : T) : firstT f s t = if (f s t).1 = true then ((0, true), (f s t).2) else firstL f (f s t).2 1 t.kids := by
  cases t; rw [firstT]; rfl
theorem firstL_append {σ : Type} (f : σ → T → Bool × σ) (a b : List T) : ∀ (s : σ) (n : Nat), firstL f s n (a ++ b) = if (firstL f s n a).1.2 = true then firstL f s n a else firstL f (firstL f s n a).2 (firstL f s n a).1.1 b := by
  induction a with
  | nil => intro s n; simp [firstL]
  | cons t a ih =>
    intro s n
    rw [List.cons_append, firstL, firstL]
    by_cases h : (firstT f s t).1.2 = true
    · rw [if_pos h, if_pos h]; simp
    · rw [if_neg h, if_neg h]; exact ih _ _
theorem firstL_one {σ : Type} (f : σ → T → Bool × σ) (s : σ) (n : Nat) (t : T) : firstL f s n [t] = ((n + (firstT f s t).1.1, (firstT f s t).1.2), (firstT f s t).2) := by
  rw [firstL]
  by_cases h : (firstT f s t).1.2 = true
  · rw [if_pos h, h]
  · rw [if_neg h, firstL]
    have : (firstT f s t).1.2 = false := by simpa using h
    rw [this]
theorem firstL_step {σ : Type} (f : σ → T → Bool × σ) {l : List T} {k : Nat} {u : T} {s s1 : σ} {n m : Nat} (hu : l[k]? = some u) (h : firstL f s n (l.take k) = ((m, false), s1)) : firstL f s n (l.take (k + 1)) = ((m + (firstT f s1 u).1.1, (firstT f s1 u).1.2), (firstT f s1 u).2) := by
  rw [List.take_add_one, hu, Option.toList_some, firstL_append, h]
  simp only [Bool.false_eq_true, if_false]
  exact firstL_one f s1 m u
theorem firstL_stop {σ : Type} (f : σ → T → Bool × σ) {l : List T} {k : Nat} {s : σ} {n : Nat} (h : (firstL f s n (l.take k)).1.2 = true) : firstL f s n l = firstL f s n (l.take k) := by
  conv => lhs; rw [← List.take_append_drop k l]
  rw [firstL_append, if_pos h]
mutual
theorem firstT_le {σ : Type} (f : σ → T → Bool × σ) (s : σ) : ∀ t, (firstT f s t).1.1 ≤ sz t
  | .node k r i l => by
    have h := firstL_le f (f s (.node k r i l)).2 1 l
    rw [firstT, sz]
    split
    · exact Nat.zero_le _
    · exact h
theorem firstL_le {σ : Type} (f : σ → T → Bool × σ) (s : σ) (n : Nat) : ∀ l, (firstL f s n l).1.1 ≤ n + szL l
  | [] => by rw [firstL]; simp [szL]
  | t :: l => by
    have h1 := firstT_le f s t
    have h2 := firstL_le f (firstT f s t).2 (n + (firstT f s t).1.1) l
    rw [firstL, szL]
    split
    · simp only; omega
    · omega
end
mutual
theorem rem_firstT {σ : Type} (f : σ → T → Bool × σ) (rem : σ → Nat) (hrem : ∀ s t, rem s ≤ rem (f s t).2 + 1) (s : σ) : ∀ t, rem s ≤ rem (firstT f s t).2 + sz t
  | .node k r i l => by
    have h1 := hrem s (.node k r i l)
    have h2 := rem_firstL f rem hrem (f s (.node k r i l)).2 1 l
    rw [firstT, sz]
    split
    · simp only; omega
    · omega
theorem rem_firstL {σ : Type} (f : σ → T → Bool × σ) (rem : σ → Nat) (hrem : ∀ s t, rem s ≤ rem (f s t).2 + 1) (s : σ) (n : Nat) : ∀ l, rem s ≤ rem (firstL f s n l).2 + szL l
  | [] => by rw [firstL]; exact Nat.le_add_right _ _
  | t :: l => by
    have h1 := rem_firstT f rem hrem s t
    have h2 := rem_firstL f rem hrem (firstT f s t).2 (n + (firstT f s t).1.1) l
    rw [firstL, szL]
    split
    · simp only; omega
    · omega
end

/-- What a closure says of a cell, and what it keeps then. -/
def JudgeF {σ : Type} (rem : σ → Nat) (w0 : World) (own : σ → Option Obj → Nat → Prop) (I : σ → World → Prop) (F : Nat) (lb : Array Value) (f : σ → T → Bool × σ) (t : T) : Prop :=
  ∀ (s : σ) (c : C) (W : World), sz t ≤ rem s → Is w0 c t → I s W → Calls Tryz.prog F (#[cval c] ++ lb) W fun e w' => e = .returned (.bool (f s t).1) ∧ I (f s t).2 w' ∧ Fr own s W (f s t).2 w'
structure MachF {σ : Type} (w0 : World) (own : σ → Option Obj → Nat → Prop) (I : σ → World → Prop) : Prop where
  new : ∀ s W cs, I s W → ¬ own s (some (.cells cs 26 (0, 0))) W.heap.size
  below : ∀ s W, I s W → Below w0.heap.size w0 W
  up : ∀ s W W', I s W → Below W.heap.size W W' → I s W'

set_option maxRecDepth 100000 in
set_option maxHeartbeats 1600000 in
theorem first_any {σ : Type} {w0 : World} {own : σ → Option Obj → Nat → Prop} {I : σ → World → Prop} (hM : MachF w0 own I) (F : Nat) (hE : Enters F) (lb : Array Value) (f : σ → T → Bool × σ) (rem : σ → Nat) (hrem : ∀ s t, rem s ≤ rem (f s t).2 + 1) (hJ : ∀ t, JudgeF rem w0 own I F lb f t) (N : Nat) :
    ∀ (t : T) (c : C) (s : σ) (W : World), sz t ≤ N → sz t ≤ 1000000 → sz t ≤ rem s → Is w0 c t → I s W →
      Calls Tryz.prog 45 #[cval c, .func (.func F) #[] lb] W fun e w' => e = .returned (.tuple #[.int .i64 ((firstT f s t).1.1 : Nat), .bool (firstT f s t).1.2]) ∧ I (firstT f s t).2 w' ∧ Fr own s W (firstT f s t).2 w' := by
  have hent : ∀ (args : Array Value) (w : World), (callFunc F args).run Tryz.prog w = .ok (.enter F args) w := hE
  have HM := Lib.hid hM
  have HJ := Lib.hid hJ
  have HREM := Lib.hid hrem
  clear hM hJ hrem hE
  induction N with
  | zero => intro t c s W h; have := sz_pos t; omega
  | succ N ih =>
    intro t c s W hN hmil hsz hi hI
    have HIH := Lib.hid ih
    clear ih
    have HA : Hid (Below W.heap.size W (W.alloc (cbox c))) := (Below.refl _ _).alloc (Nat.le_refl _) _
    have HK := Lib.hid (HJ.out t s c (W.alloc (cbox c)) hsz hi (HM.out.up _ _ _ hI HA.out))
    have HNW : Hid (¬ own s (W.alloc (cbox c)).heap[W.heap.size]? W.heap.size) := Lib.hid (by rw [heap_alloc_new]; exact HM.out.new s W _ hI)
    have HROW := Lib.hid hi.row
    have hcn := hi.n
    have HLEN := Lib.hid hi.len
    have HSZ : Hid (szL t.kids ≤ rem (f s t).2) := Lib.hid (by have := HREM.out s t; have := sz_node t; omega)
    have HND := Lib.hid (sz_node t)
    have HMIL := Lib.hid hmil
    have HNN := Lib.hid hN
    clear hi hI hsz hN hmil
    rw [firstT_eq]
    generalize f s t = res at HK HSZ ⊢
    obtain ⟨rb, rs⟩ := res
    obtain ⟨ck, cr, cid, ca, cn, ccap⟩ := c
    simp only at hcn
    subst hcn
    cases rb
    · simp only [Bool.false_eq_true, if_false]
      go_enter Tryz.func45, Tryz.ntmps45
      go_wp2_with fail
      refine HK.out.mono ?_
      rintro e w2 ⟨rfl, hi2, hfr2⟩
      have HI2 := Lib.hid hi2
      have HF2 := Lib.hid ((Fr.of HA.out).trans hfr2)
      obtain ⟨-, -, -, -, -, -, q6⟩ := (cbox_new W _).fr hfr2 HNW.out
      clear hi2 hfr2
      go_wp2
      go_loopg [6, 17] (t.kids.length + 1) (fun g n i wr => ∃ (k m : Nat) (s1 : σ), g + k = t.kids.length + 1 ∧ k ≤ t.kids.length ∧ n = .int .i64 m ∧ i = .int .i64 k ∧ firstL f rs 1 (t.kids.take k) = ((m, false), s1) ∧ I s1 wr ∧ Fr own s W s1 wr)
      case atStart => exact ⟨0, 1, rs, by omega, by omega, rfl, rfl, by simp [firstL], HI2.out, HF2.out⟩
      case round =>
        obtain ⟨k, m, s1, hg, hk, rfl, rfl, hfd, hi1, hfr⟩ := hrel
        have HG := Lib.hid hg
        have HFD := Lib.hid hfd
        have HI1 := Lib.hid hi1
        have HFR := Lib.hid hfr
        clear hg hfd hi1 hfr
        have hln := HLEN.out
        by_cases hlt : k < t.kids.length
        · obtain ⟨b, o, hca, hf⟩ := HROW.out.place (by omega)
          subst hca
          obtain ⟨u, hu⟩ : ∃ u, t.kids[k]? = some u := ⟨_, List.getElem?_eq_getElem hlt⟩
          obtain ⟨x, hx, hxi⟩ := hf k u hu
          obtain ⟨c0, c1, c2, c3, c4, c5, c6⟩ := hx.up (HM.out.below _ _ HI1.out)
          clear hf hx
          have HB : Hid (Below wr.heap.size wr (wr.alloc (cbox x))) := (Below.refl _ _).alloc (Nat.le_refl _) _
          have hszu : sz u ≤ rem s1 := by
            have h1 := rem_firstL f rem HREM.out rs 1 (t.kids.take k)
            rw [HFD.out] at h1
            have h2 := szL_take_succ hu
            have h3 := szL_take_le t.kids (k + 1)
            have := HSZ.out
            simp only at h1 this
            omega
          have hszk := sz_kid hu
          have HKR := Lib.hid (HIH.out u x s1 (wr.alloc (cbox x)) (by have := HNN.out; omega) (by have := HMIL.out; omega) hszu hxi (HM.out.up _ _ _ HI1.out HB.out))
          have HST := Lib.hid (firstL_step f hu HFD.out)
          have hle : m + (firstT f s1 u).1.1 ≤ 1000000 := by
            have h1 := firstL_le f rs 1 (t.kids.take (k + 1))
            rw [HST.out] at h1
            have h3 := szL_take_le t.kids (k + 1)
            have := HND.out
            have := HMIL.out
            simp only at h1
            omega
          clear hu hxi hszu hszk
          generalize firstT f s1 u = res2 at HKR HST hle
          obtain ⟨⟨n2, b2⟩, s2⟩ := res2
          simp only at hle
          go_wp2_with fail
          refine HKR.out.mono ?_
          rintro e w3 ⟨rfl, hi3, hfr3⟩
          have HI3 := Lib.hid hi3
          have HF3 := Lib.hid ((HFR.out.trans (Fr.of HB.out)).trans hfr3)
          clear hi3 hfr3
          cases b2
          · go_wp2
            go_roundg (gk - 1)
            case measure => have := HG.out; omega
            case rel => exact ⟨k + 1, m + n2, s2, by have := HG.out; omega, by omega, by go_num, by go_num, HST.out, HI3.out, HF3.out⟩
          · go_wp2
            go_ret2
            have hs := firstL_stop f (l := t.kids) (k := k + 1) (s := rs) (n := 1) (by rw [HST.out])
            rw [hs, HST.out]
            exact ⟨by go_num, HI3.out, HF3.out⟩
        · obtain rfl : k = t.kids.length := by omega
          have hkl : ((t.kids.length : Int) < (t.kids.length : Int)) = False := by simp
          go_wp2
          go_ret2
          have := HFD.out
          rw [List.take_length] at this
          rw [this]
          exact ⟨rfl, HI1.out, HFR.out⟩
    · go_enter Tryz.func45, Tryz.ntmps45
      go_wp2_with fail
      refine HK.out.mono ?_
      rintro e w2 ⟨rfl, hi2, hfr2⟩
      have HI2 := Lib.hid hi2
      have HF2 := Lib.hid ((Fr.of HA.out).trans hfr2)
      clear hi2 hfr2
      go_wp2
      go_ret2
      exact ⟨rfl, HI2.out, HF2.out⟩
end Go.Proofs.YtcdiogifgemjbaaGreat
/- (This seat has no rect.Has: nothing but what it leans on.) -/
