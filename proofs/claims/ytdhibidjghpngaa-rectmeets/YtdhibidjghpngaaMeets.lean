/- The law RectMeets. -/
import Derived.Test.YtdhibidjghpngaaAwake
import Derived.Test.YtdhibidjghpngaaIns
import Derived.Test.YtdhibidjghpngaaApart
import Derived.Deep.RegionHeld3
namespace Go.Proofs.Ytdhibidjghpngaa
open Go.RowKit

abbrev pair (p q : R) : Obj := .cells #[.int .i64 p.x, .int .i64 p.y, .int .i64 p.w, .int .i64 p.h, .int .i64 q.x, .int .i64 q.y, .int .i64 q.w, .int .i64 q.h] 29
theorem rrow_top0 (w : World) (p q : R) : RRow (w.alloc (pair p q)) (.slice (some ⟨w.heap.size, 0, none⟩) 2 2) [p, q] := by
  refine .inr ⟨w.heap.size, 0, 2, rfl, fun j r hj => ?_⟩
  match j with
  | 0 => simp at hj; subst hj; refine ⟨?_, ?_, ?_, ?_⟩ <;> simp
  | 1 => simp at hj; subst hj; refine ⟨?_, ?_, ?_, ?_⟩ <;> simp
  | j + 2 => simp at hj
theorem rrow_top1 (w : World) (o : Obj) (p q : R) : RRow ((w.alloc o).alloc (pair p q)) (.slice (some ⟨w.heap.size + 1, 0, none⟩) 2 2) [p, q] := by
  have h := rrow_top0 (w.alloc o) p q
  rw [World.size_alloc] at h
  exact h
theorem rrow_under (w : World) (o : Obj) (p q : R) : RRow ((w.alloc (pair p q)).alloc o) (.slice (some ⟨w.heap.size, 0, none⟩) 2 2) [p, q] := (rrow_top0 w p q).up ((Below.refl _ _).alloc (Nat.le_refl _) _)

theorem fits_two {p q : R} (hp : p.fits) (hq : q.fits) : fitsAll [p, q] := fun r hr => by
  simp at hr
  rcases hr with rfl | rfl
  · exact hp
  · exact hq
theorem inside_one (q r : R) (w : World) (hq : q.fits) (hr : r.fits) (n : Nat) (hn : n = w.heap.size) :
    Calls Try.prog 16 #[val q, .slice (some ⟨n, 0, none⟩) 1 1] (w.alloc (box r)) fun e w' => e = .returned (.bool (insideB q [r])) ∧ Below w.heap.size w w' := by
  subst hn
  refine (inside_any q _ [r] _ hq (rrow_one w r) (fits_one hr) (by simp)).mono ?_
  rintro e w' ⟨rfl, hb⟩
  exact ⟨rfl, ((Below.refl _ _).alloc (Nat.le_refl _) _).trans (hb.mono (by simp))⟩
theorem may_two (p q : R) (w : World) (hp : p.fits) (hq : q.fits) :
    Calls Try.prog 8 #[.slice (some ⟨w.heap.size, 0, none⟩) 2 2] (w.alloc (pair p q)) fun e w' => e = .returned (.bool (mays [p, q])) ∧ Below w.heap.size w w' := by
  refine (may_any _ [p, q] _ (rrow_top0 w p q) (by simp) (fits_two hp hq)).mono ?_
  rintro e w' ⟨rfl, hb⟩
  exact ⟨rfl, ((Below.refl _ _).alloc (Nat.le_refl _) _).trans (hb.mono (by simp))⟩
theorem apart_pair (p q : R) (hp : p.fits) (hq : q.fits) (ap : Bool) (h : apartB [p, q] = ap) (w : World) (n : Nat) (hr : RRow w (.slice (some ⟨n, 0, none⟩) 2 2) [p, q]) :
    Calls Try.prog 10 #[.slice (some ⟨n, 0, none⟩) 2 2] w fun e w' => e = .returned (.bool ap) ∧ Below w.heap.size w w' := by
  rw [← h]
  exact apart_any _ [p, q] w hr (by simp) (fits_two hp hq)

theorem apart_sym (p q : R) : apartB [q, p] = apartB [p, q] := by
  have h1 : mays [q, p] = mays [p, q] := by simp [mays, Bool.and_comm]
  rw [apartB, apartB, h1]
  congr 1
  rw [Bool.eq_iff_iff]
  simp only [decide_eq_true_eq, List.pairwise_cons, List.mem_singleton, List.not_mem_nil]
  constructor
  · intro h
    exact ⟨fun r hr => by subst hr; exact (h.1 _ rfl).symm, fun r hr => hr.elim, .nil⟩
  · intro h
    exact ⟨fun r hr => by subst hr; exact (h.1 _ rfl).symm, fun r hr => hr.elim, .nil⟩
theorem ins_not_apart {p q : R} (h : insB p q = true) : apartB [p, q] = false := by
  rw [apartB]
  rcases bool_cases (mays [p, q]) with hm | hm
  · rw [hm, Bool.true_and]
    apply decide_eq_false
    intro hp
    simp only [List.pairwise_cons, List.mem_singleton] at hp
    have h1 := hp.1 q rfl
    simp only [insB, Bool.and_eq_true, decide_eq_true_eq] at h
    have h2 := (mayB_iff p).1 h.1.1.1.1.1
    have h3 := (mayB_iff q).1 h.1.1.1.1.2
    unfold apartP at h1
    omega
  · rw [hm]; rfl
theorem not_may {p q : R} (h : mays [p, q] = false) : insideB p [q] = false ∧ apartB [p, q] = false := by
  refine ⟨?_, by rw [apartB, h]; rfl⟩
  simp [mays] at h
  rcases bool_cases (mayB p) with hp | hp
  · have hq := h hp
    simp [insideB, insB, hq]
  · simp [insideB, hp]
theorem inside_ins {p q : R} (hp : mayB p = true) : insideB p [q] = insB p q := by simp [insideB, hp]
theorem corners4 {p q : R} (hq : mayB q = true) : insB p q = (hasB p q.x q.y && hasB p (q.x + q.w - 1) q.y && hasB p q.x (q.y + q.h - 1) && hasB p (q.x + q.w - 1) (q.y + q.h - 1)) := by
  have hb := (mayB_iff q).1 hq
  rw [Bool.eq_iff_iff]
  simp only [hasB, insB, Bool.and_eq_true, decide_eq_true_eq, hq]
  constructor
  · rintro ⟨⟨⟨⟨⟨a, -⟩, b⟩, d⟩, f⟩, g⟩
    exact ⟨⟨⟨⟨⟨⟨⟨a, b⟩, by omega⟩, d⟩, by omega⟩, ⟨⟨⟨a, by omega⟩, by omega⟩, d⟩, by omega⟩, ⟨⟨⟨a, b⟩, by omega⟩, by omega⟩, by omega⟩, ⟨⟨⟨a, by omega⟩, by omega⟩, by omega⟩, by omega⟩
  · rintro ⟨⟨⟨⟨⟨⟨⟨a, b⟩, c⟩, d⟩, e⟩, -⟩, -⟩, ⟨⟨⟨-, f⟩, g⟩, h⟩, i⟩
    exact ⟨⟨⟨⟨⟨a, trivial⟩, b⟩, d⟩, by omega⟩, by omega⟩

/-- What the last test reads, and what was there before. -/
theorem c8_up {w w' W : World} {n m : Nat} {a b : R} (h : W.cell? ⟨n, 0, none⟩ = some (.int .i64 a.x) ∧ W.cell? ⟨n, 1, none⟩ = some (.int .i64 a.y) ∧ W.cell? ⟨n, 2, none⟩ = some (.int .i64 a.w) ∧ W.cell? ⟨n, 3, none⟩ = some (.int .i64 a.h) ∧ W.cell? ⟨m, 0, none⟩ = some (.int .i64 b.x) ∧ W.cell? ⟨m, 1, none⟩ = some (.int .i64 b.y) ∧ W.cell? ⟨m, 2, none⟩ = some (.int .i64 b.w) ∧ W.cell? ⟨m, 3, none⟩ = some (.int .i64 b.h) ∧ Below w.heap.size w W) (hb : Below W.heap.size W w') :
    w'.cell? ⟨n, 0, none⟩ = some (.int .i64 a.x) ∧ w'.cell? ⟨n, 1, none⟩ = some (.int .i64 a.y) ∧ w'.cell? ⟨n, 2, none⟩ = some (.int .i64 a.w) ∧ w'.cell? ⟨n, 3, none⟩ = some (.int .i64 a.h) ∧ w'.cell? ⟨m, 0, none⟩ = some (.int .i64 b.x) ∧ w'.cell? ⟨m, 1, none⟩ = some (.int .i64 b.y) ∧ w'.cell? ⟨m, 2, none⟩ = some (.int .i64 b.w) ∧ w'.cell? ⟨m, 3, none⟩ = some (.int .i64 b.h) ∧ Below w.heap.size w w' := by
  obtain ⟨h0, h1, h2, h3, h4, h5, h6, h7, h8⟩ := h
  have c : ∀ (p : Addr) (v : Value), W.cell? p = some v → w'.cell? p = some v := fun p v h => (hb.cell (lt_of_cell h)).trans h
  exact ⟨c _ _ h0, c _ _ h1, c _ _ h2, c _ _ h3, c _ _ h4, c _ _ h5, c _ _ h6, c _ _ h7, h8.trans (hb.mono h8.size)⟩
theorem c8_alloc {w W : World} {n m : Nat} {a b : R} {o : Obj} (h : W.cell? ⟨n, 0, none⟩ = some (.int .i64 a.x) ∧ W.cell? ⟨n, 1, none⟩ = some (.int .i64 a.y) ∧ W.cell? ⟨n, 2, none⟩ = some (.int .i64 a.w) ∧ W.cell? ⟨n, 3, none⟩ = some (.int .i64 a.h) ∧ W.cell? ⟨m, 0, none⟩ = some (.int .i64 b.x) ∧ W.cell? ⟨m, 1, none⟩ = some (.int .i64 b.y) ∧ W.cell? ⟨m, 2, none⟩ = some (.int .i64 b.w) ∧ W.cell? ⟨m, 3, none⟩ = some (.int .i64 b.h) ∧ Below w.heap.size w W) :
    (W.alloc o).cell? ⟨n, 0, none⟩ = some (.int .i64 a.x) ∧ (W.alloc o).cell? ⟨n, 1, none⟩ = some (.int .i64 a.y) ∧ (W.alloc o).cell? ⟨n, 2, none⟩ = some (.int .i64 a.w) ∧ (W.alloc o).cell? ⟨n, 3, none⟩ = some (.int .i64 a.h) ∧ (W.alloc o).cell? ⟨m, 0, none⟩ = some (.int .i64 b.x) ∧ (W.alloc o).cell? ⟨m, 1, none⟩ = some (.int .i64 b.y) ∧ (W.alloc o).cell? ⟨m, 2, none⟩ = some (.int .i64 b.w) ∧ (W.alloc o).cell? ⟨m, 3, none⟩ = some (.int .i64 b.h) ∧ Below w.heap.size w (W.alloc o) :=
  c8_up h ((Below.refl _ _).alloc (Nat.le_refl _) _)
theorem c8_alloc_drew {w W : World} {n m : Nat} {a b : R} {o : Obj} (h : W.drew.cell? ⟨n, 0, none⟩ = some (.int .i64 a.x) ∧ W.drew.cell? ⟨n, 1, none⟩ = some (.int .i64 a.y) ∧ W.drew.cell? ⟨n, 2, none⟩ = some (.int .i64 a.w) ∧ W.drew.cell? ⟨n, 3, none⟩ = some (.int .i64 a.h) ∧ W.drew.cell? ⟨m, 0, none⟩ = some (.int .i64 b.x) ∧ W.drew.cell? ⟨m, 1, none⟩ = some (.int .i64 b.y) ∧ W.drew.cell? ⟨m, 2, none⟩ = some (.int .i64 b.w) ∧ W.drew.cell? ⟨m, 3, none⟩ = some (.int .i64 b.h) ∧ Below w.heap.size w W.drew) :
    (W.alloc o).drew.cell? ⟨n, 0, none⟩ = some (.int .i64 a.x) ∧ (W.alloc o).drew.cell? ⟨n, 1, none⟩ = some (.int .i64 a.y) ∧ (W.alloc o).drew.cell? ⟨n, 2, none⟩ = some (.int .i64 a.w) ∧ (W.alloc o).drew.cell? ⟨n, 3, none⟩ = some (.int .i64 a.h) ∧ (W.alloc o).drew.cell? ⟨m, 0, none⟩ = some (.int .i64 b.x) ∧ (W.alloc o).drew.cell? ⟨m, 1, none⟩ = some (.int .i64 b.y) ∧ (W.alloc o).drew.cell? ⟨m, 2, none⟩ = some (.int .i64 b.w) ∧ (W.alloc o).drew.cell? ⟨m, 3, none⟩ = some (.int .i64 b.h) ∧ Below w.heap.size w (W.alloc o).drew :=
  c8_alloc (W := W.drew) h
theorem rrow_top0_drew (w : World) (p q : R) : RRow (w.alloc (pair p q)).drew (.slice (some ⟨w.heap.size, 0, none⟩) 2 2) [p, q] := rrow_top0 w.drew p q
theorem c8_of {w W : World} {n m : Nat} {a b : R} (h1 : RAt W n 0 a) (h2 : RAt W m 0 b) (hb : Below w.heap.size w W) :
    W.cell? ⟨n, 0, none⟩ = some (.int .i64 a.x) ∧ W.cell? ⟨n, 1, none⟩ = some (.int .i64 a.y) ∧ W.cell? ⟨n, 2, none⟩ = some (.int .i64 a.w) ∧ W.cell? ⟨n, 3, none⟩ = some (.int .i64 a.h) ∧ W.cell? ⟨m, 0, none⟩ = some (.int .i64 b.x) ∧ W.cell? ⟨m, 1, none⟩ = some (.int .i64 b.y) ∧ W.cell? ⟨m, 2, none⟩ = some (.int .i64 b.w) ∧ W.cell? ⟨m, 3, none⟩ = some (.int .i64 b.h) ∧ Below w.heap.size w W := by
  obtain ⟨a0, a1, a2, a3⟩ := h1
  obtain ⟨b0, b1, b2, b3⟩ := h2
  simp only [Nat.zero_add] at a1 a2 a3 b1 b2 b3
  exact ⟨a0, a1, a2, a3, b0, b1, b2, b3, hb⟩
end Go.Proofs.Ytdhibidjghpngaa
