/- From top to bottom, by each column's first free line: one rectangle. -/
import Derived.Test.YtdhibidjghpngaaOwn
namespace Go.Proofs.Ytdhibidjghpngaa
open Go.RowKit

/-- The columns' first free lines, where they lie. -/
def FreeAt (w : World) (fb : Nat) (f : Nat → Int) : Prop := ∀ x, x < 10000 → w.cell? ⟨fb, x, none⟩ = some (.int .i64 (f x)) ∧ w.frozen? ⟨fb, x, none⟩ = false
theorem FreeAt.up {w w' : World} {fb : Nat} {f : Nat → Int} (h : FreeAt w fb f) (hb : Below w.heap.size w w') : FreeAt w' fb f := fun x hx => by
  obtain ⟨h1, h2⟩ := h x hx
  exact ⟨(hb.cell (lt_of_cell h1)).trans h1, (hb.frozen (p := ⟨fb, x, none⟩) (lt_of_cell h1)).trans h2⟩
theorem FreeAt.congr {w : World} {fb : Nat} {f g : Nat → Int} (h : FreeAt w fb f) (he : ∀ x, x < 10000 → f x = g x) : FreeAt w fb g := fun x hx => by
  rw [← he x hx]; exact h x hx
theorem FreeAt.set {w : World} {fb : Nat} {f : Nat → Int} (h : FreeAt w fb f) (x : Nat) (hx : x < 10000) (v : Int) : FreeAt (w.setCell ⟨fb, x, none⟩ (.int .i64 v)) fb (fun y => if y = x then v else f y) := fun y hy => by
  refine ⟨?_, by rw [World.frozen?_setCell]; exact (h y hy).2⟩
  by_cases e : y = x
  · subst e
    simp only [if_true]
    exact World.cell?_setCell_same _ _ _ (h y hx).1
  · simp only [if_neg e]
    rw [World.cell?_setCell_other _ _ _ _ (by intro hh; exact e (congrArg Addr.off hh).symm)]
    exact (h y hy).1
theorem FreeAt.drewN {w : World} {fb n : Nat} {f : Nat → Int} (h : FreeAt w fb f) : FreeAt (w.drewN n) fb f := h
theorem gb_set {a w : World} {fb x n : Nat} {v : Value} (h : a.grownBy w (some fb)) : a.grownBy ((w.drewN n).setCell ⟨fb, x, none⟩ v) (some fb) :=
  ⟨h.os, h.tape, h.output, by simpa [World.setCell] using h.size, fun k hk hne => (Below.heap_setCell (w.drewN n) ⟨fb, x, none⟩ v k (fun e => hne (by rw [e]))).trans (h.block k hk hne)⟩

/-- May it lie there? -/
def okR (f : Nat → Int) (r : R) : Bool := (List.range r.w.toNat).all fun k => decide (f (r.x.toNat + k) ≤ r.y)
theorem okR_iff (f : Nat → Int) (r : R) (hx : 0 ≤ r.x) : okR f r = true ↔ ∀ x : Nat, r.x ≤ (x : Int) → (x : Int) < r.x + r.w → f x ≤ r.y := by
  simp only [okR, List.all_eq_true, List.mem_range, decide_eq_true_eq]
  constructor
  · intro h x h1 h2
    have := h (x - r.x.toNat) (by omega)
    rwa [show r.x.toNat + (x - r.x.toNat) = x by omega] at this
  · intro h k hk
    exact h _ (by omega) (by omega)
theorem okR_no {f : Nat → Int} {r : R} (hx : 0 ≤ r.x) {x : Nat} (h1 : r.x ≤ (x : Int)) (h2 : (x : Int) < r.x + r.w) (h3 : r.y < f x) : okR f r = false := by
  cases e : okR f r with
  | false => rfl
  | true => have := (okR_iff f r hx).1 e x h1 h2; omega
def setR (f : Nat → Int) (r : R) (x : Nat) : Int := if r.x ≤ (x : Int) ∧ (x : Int) < r.x + r.w then r.y + r.h else f x
/-- .. its first k columns. -/
def partR (f : Nat → Int) (r : R) (k : Nat) (x : Nat) : Int := if r.x ≤ (x : Int) ∧ (x : Int) < r.x + k then r.y + r.h else f x

theorem part_zero (f : Nat → Int) (r : R) (x : Nat) : partR f r 0 x = f x := if_neg (by omega)
theorem part_at (f : Nat → Int) (r : R) (k x : Nat) (h : (x : Int) = r.x + k) : partR f r k x = f x := if_neg (by omega)
theorem part_next (f : Nat → Int) (r : R) (k x : Nat) (h : (x : Int) = r.x + k) (y : Nat) : (if y = x then r.y + r.h else partR f r k y) = partR f r (k + 1) y := by
  unfold partR
  by_cases e : y = x
  · subst e; rw [if_pos rfl, if_pos (by omega)]
  · rw [if_neg e]
    by_cases c : r.x ≤ (y : Int) ∧ (y : Int) < r.x + k
    · rw [if_pos c, if_pos (by omega)]
    · rw [if_neg c, if_neg (by omega)]
theorem part_all (f : Nat → Int) (r : R) (k : Nat) (h : (k : Int) = r.w) (y : Nat) : partR f r k y = setR f r y := by unfold partR setR; rw [h]

set_option maxRecDepth 100000 in
set_option maxHeartbeats 1600000 in
theorem sweep_at (x0 wd : Nat) (ry rh : Int) (f : Nat → Int) (fb fx : Nat) (w : World) (hw : 1 ≤ wd) (hbnd : x0 + wd ≤ 10000) (hy0 : 0 ≤ ry) (hh : 1 ≤ rh) (hyh : ry + rh ≤ 10000) (hfx : w.cell? ⟨fx, 0, none⟩ = some (.slice (some ⟨fb, 0, none⟩) 10000 10000)) (hne : fx ≠ fb) (hf : FreeAt w fb f) :
    Calls Try.prog 29 #[val ⟨x0, ry, wd, rh⟩, .pointer (some ⟨fx, 0, none⟩)] w fun e w' => e = .returned (.bool (okR f ⟨x0, ry, wd, rh⟩)) ∧ w.grownBy w' (some fb) ∧ (okR f ⟨x0, ry, wd, rh⟩ = true → FreeAt w' fb (setR f ⟨x0, ry, wd, rh⟩)) := by
  have hfb : fb < w.heap.size := lt_of_cell (hf 0 (by omega)).1
  have hfxl : fx < w.heap.size := lt_of_cell hfx
  have B1 : Hid (Below w.heap.size w (w.alloc (box ⟨x0, ry, wd, rh⟩))) := (Below.refl _ _).alloc (Nat.le_refl _) _
  have HA : Hid (RAt (w.alloc (box ⟨x0, ry, wd, rh⟩)) w.heap.size 0 ⟨x0, ry, wd, rh⟩) := rat_new w ⟨x0, ry, wd, rh⟩
  have HF := Lib.hid (hf.up B1.out)
  have HFX := Lib.hid ((B1.out.cell (p := ⟨fx, 0, none⟩) hfxl).trans hfx)
  have HG := Lib.hid (Below.gb B1.out (some fb))
  have sxw : IntKind.i64.wrap ((x0 : Int) + (wd : Int)) = (x0 : Int) + (wd : Int) := wrap_id (by omega)
  have syh : IntKind.i64.wrap (ry + rh) = ry + rh := wrap_id (by omega)
  clear hf
  have HW : Hid (w.heap.size ≠ fb ∧ fx ≠ w.heap.size) := ⟨by omega, by omega⟩
  go_enter Try.func29, Try.ntmps29
  go_wp2
  go_loopg [4] (wd + 1) (fun g i wr => ∃ k : Nat, g + k = wd + 1 ∧ k ≤ wd ∧ i = .int .i64 ((x0 : Int) + (k : Int)) ∧ (w.alloc (box ⟨x0, ry, wd, rh⟩)).grownBy wr (some fb) ∧ FreeAt wr fb (partR f ⟨x0, ry, wd, rh⟩ k) ∧ ∀ x : Nat, x0 ≤ x → x < x0 + k → f x ≤ ry)
  case atStart => exact ⟨0, by omega, by omega, by simp, World.grownBy.refl _ _, HF.out.congr (fun x _ => (part_zero f _ x).symm), fun x h1 h2 => by omega⟩
  case round =>
    obtain ⟨k, hg, hk, rfl, hgr, hfr, hall⟩ := hrel
    have HB : Hid ((w.alloc (box ⟨x0, ry, wd, rh⟩)).grownBy wr (some fb) ∧ FreeAt wr fb (partR f ⟨x0, ry, wd, rh⟩ k) ∧ gk + k = wd + 1 ∧ ∀ x : Nat, x0 ≤ x → x < x0 + k → f x ≤ ry) := ⟨hgr, hfr, hg, hall⟩
    clear hgr hfr hg hall
    obtain ⟨c0, c1, c2, c3⟩ := HA.out.grown HB.out.1 (by intro h; exact HW.out.1 (Option.some.inj h))
    have cfx := HB.out.1.cell HFX.out (by intro h; exact hne (Option.some.inj h))
    by_cases hlt : k < wd
    · have d0 : (x0 : Int) + (k : Int) < (x0 : Int) + (wd : Int) := by omega
      obtain ⟨cf, cz⟩ := HB.out.2.1 (x0 + k) (by omega)
      rw [part_at f _ k (x0 + k) (by simp)] at cf
      obtain ⟨z, hz⟩ : ∃ z, f (x0 + k) = z := ⟨_, rfl⟩
      rw [hz] at cf
      have HZ := Lib.hid hz
      clear hz
      have hin0 : (0 : Int) ≤ (x0 : Int) + (k : Int) := by omega
      have hin : (x0 : Int) + (k : Int) < (10000 : Int) := by omega
      have htn : ((x0 : Int) + (k : Int)).toNat = x0 + k := by omega
      have swk : IntKind.i64.wrap ((x0 : Int) + (k : Int) + 1) = (x0 : Int) + (k : Int) + 1 := wrap_id (by omega)
      by_cases hy : ry < z
      · have d1 : decide (ry < z) = true := decide_eq_true hy
        go_wp2
        go_quiet (fail)
        go_wp2
        go_ret
        have hv : okR f ⟨x0, ry, wd, rh⟩ = false := okR_no (x := x0 + k) (by simp) (by simp; omega) (by simp; omega) (by rw [HZ.out]; exact hy)
        refine ⟨by rw [hv]; rfl, HG.out.trans ?_, fun h => by rw [hv] at h; cases h⟩
        exact ⟨HB.out.1.os, HB.out.1.tape, HB.out.1.output, HB.out.1.size, HB.out.1.block⟩
      · have d1 : decide (ry < z) = false := decide_eq_false hy
        go_wp2
        go_quiet (fail)
        go_wp2
        go_roundg (gk - 1)
        case measure => have := HB.out.2.2.1; omega
        case rel =>
          refine ⟨k + 1, ?_, by omega, by go_num, ?_, ?_, ?_⟩
          · have := HB.out.2.2.1; omega
          · exact gb_set HB.out.1
          · exact ((HB.out.2.1.drewN).set (x0 + k) (by omega) (ry + rh)).congr (fun y _ => part_next f ⟨x0, ry, wd, rh⟩ k (x0 + k) (by simp) y)
          · intro x h1 h2
            rcases Nat.lt_or_ge x (x0 + k) with h | h
            · exact HB.out.2.2.2 x h1 (by omega)
            · obtain rfl : x = x0 + k := by omega
              rw [HZ.out]; omega
    · obtain rfl : k = wd := by omega
      have d0 : ¬ (x0 : Int) + (k : Int) < (x0 : Int) + (k : Int) := by omega
      go_wp2
      go_ret
      have hv : okR f ⟨x0, ry, k, rh⟩ = true := by
        rw [okR_iff _ _ (by simp)]
        intro x h1 h2
        simp at h1 h2
        exact HB.out.2.2.2 x (by omega) (by omega)
      refine ⟨by rw [hv]; rfl, HG.out.trans HB.out.1, fun _ => HB.out.2.1.congr (fun x _ => part_all f _ k rfl x)⟩

theorem sweep_any (r : R) (f : Nat → Int) (fb fx : Nat) (w : World) (hr : mayB r = true) (hfx : w.cell? ⟨fx, 0, none⟩ = some (.slice (some ⟨fb, 0, none⟩) 10000 10000)) (hne : fx ≠ fb) (hf : FreeAt w fb f) :
    Calls Try.prog 29 #[val r, .pointer (some ⟨fx, 0, none⟩)] w fun e w' => e = .returned (.bool (okR f r)) ∧ w.grownBy w' (some fb) ∧ (okR f r = true → FreeAt w' fb (setR f r)) := by
  have hm := (mayB_iff r).1 hr
  obtain ⟨rx, ry, rw', rh⟩ := r
  simp only at hm
  obtain ⟨x0, rfl⟩ : ∃ x0 : Nat, rx = (x0 : Int) := ⟨rx.toNat, by omega⟩
  obtain ⟨wd, rfl⟩ : ∃ wd : Nat, rw' = (wd : Int) := ⟨rw'.toNat, by omega⟩
  exact sweep_at x0 wd ry rh f fb fx w (by omega) (by omega) (by omega) (by omega) (by omega) hfx hne hf
end Go.Proofs.Ytdhibidjghpngaa
