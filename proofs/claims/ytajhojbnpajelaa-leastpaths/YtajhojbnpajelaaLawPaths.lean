/- The law LeastPaths. -/
import Derived.Test.YtajhojbnpajelaaAwake8
import Derived.Test.YtajhojbnpajelaaRPath
namespace Go.Proofs.Ytajhojbnpajelaa
open Go.RowKit

abbrev C11 (b : Nat) (c : C) (r : R) (W : World) : Prop := W.cell? ⟨b, 0, none⟩ = some (.int .u8 c.k) ∧ W.cell? ⟨b, 1, none⟩ = some (.int .i64 c.r.x) ∧ W.cell? ⟨b, 2, none⟩ = some (.int .i64 c.r.y) ∧ W.cell? ⟨b, 3, none⟩ = some (.int .i64 c.r.w) ∧ W.cell? ⟨b, 4, none⟩ = some (.int .i64 c.r.h) ∧ W.cell? ⟨b, 5, none⟩ = some (.int .i64 c.id) ∧ W.cell? ⟨b, 6, none⟩ = some (.slice c.a c.n c.cap) ∧ W.cell? ⟨b + 1, 0, none⟩ = some (.int .i64 r.x) ∧ W.cell? ⟨b + 1, 1, none⟩ = some (.int .i64 r.y) ∧ W.cell? ⟨b + 1, 2, none⟩ = some (.int .i64 r.w) ∧ W.cell? ⟨b + 1, 3, none⟩ = some (.int .i64 r.h)
theorem c11_of {W : World} {b : Nat} {c : C} {r : R} (h : CAt W b 0 c) (g : RAt W (b + 1) 0 r) : C11 b c r W := by
  obtain ⟨c0, c1, c2, c3, c4, c5, c6⟩ := h
  obtain ⟨r0, r1, r2, r3⟩ := g
  simp only [Nat.zero_add] at c1 c2 c3 c4 c5 c6 r0 r1 r2 r3
  exact ⟨c0, c1, c2, c3, c4, c5, c6, r0, r1, r2, r3⟩

structure PSt (w : World) (c : C) (r : R) (W : World) : Prop where
  below : Below w.heap.size w W
  cat : CAt W w.heap.size 0 c
  rat : RAt W (w.heap.size + 1) 0 r
theorem PSt.up {w : World} {c : C} {r : R} {W W' : World} (h : PSt w c r W) (hb : Below W.heap.size W W') : PSt w c r W' := ⟨h.below.trans (hb.mono h.below.size), h.cat.up hb, h.rat.up hb⟩
theorem PSt.c11 {w : World} {c : C} {r : R} {W : World} (h : PSt w c r W) : C11 w.heap.size c r W := c11_of h.cat h.rat
theorem PSt.new (w : World) (c : C) (r : R) : PSt w c r ((w.alloc (cbox c)).alloc (box r)) := by
  refine ⟨((Below.refl _ _).alloc (Nat.le_refl _) _).alloc (by simp) _, (cbox_new w c).up ((Below.refl _ _).alloc (Nat.le_refl _) _), ?_⟩
  have := rat_new (w.alloc (cbox c)) r
  simpa using this

set_option maxRecDepth 100000 in
set_option maxHeartbeats 4000000 in
theorem leastPaths_any (t : T) (c : C) (r : R) (ax : Int) (v : Value) (p : List Int) (w : World) (hi : Is w c t) (hp : Path w v p) :
    Calls Try.prog 4 #[cval c, val r, .int .u8 ax, v] w fun e w' => e = .returned (.bool true) ∧ Below w.heap.size w w' := by
  have S0 := Lib.hid (PSt.new w c r)
  have HG := Lib.hid (great_any t c ((w.alloc (cbox c)).alloc (box r)) (hi.up S0.out.below))
  have HI := Lib.hid hi
  have HP := Lib.hid hp
  obtain ⟨a, cap, rfl, -⟩ := hp.cap
  clear hi hp
  go_enter Try.func4, Try.ntmps4
  go_wp2_with fail
  refine HG.out.mono ?_
  rintro e w1 ⟨g, rfl, -, hb1⟩
  have S1 := Lib.hid (S0.out.up hb1)
  clear hb1
  cases g with
  | true =>
    go_wp2_with fail
    refine (awake8_any w1).mono ?_
    rintro e w2 ⟨rfl, hb2⟩
    have S2 := Lib.hid (S1.out.up hb2)
    clear hb2
    go_wp2
    go_ret
    exact ⟨rfl, S2.out.below⟩
  | false =>
    by_cases hl : 50 < p.length
    · have d1 : decide ((50 : Int) < (p.length : Int)) = true := decide_eq_true (by omega)
      have d2 : decide (50 < p.length) = true := decide_eq_true hl
      go_wp2_with fail
      refine (awake8_any w1).mono ?_
      rintro e w2 ⟨rfl, hb2⟩
      have S2 := Lib.hid (S1.out.up hb2)
      clear hb2
      go_wp2
      go_ret
      exact ⟨rfl, S2.out.below⟩
    · have d1 : decide ((50 : Int) < (p.length : Int)) = false := decide_eq_false (by omega)
      have d2 : decide (50 < p.length) = false := decide_eq_false hl
      have SD := Lib.hid (S1.out.up (Below.refl _ w1).drew)
      have X0 := Lib.hid SD.out.c11
      have K1 := Lib.hid (fun W => size_any r ax W)
      have K2 := Lib.hid (fun W => rsize_any r ax W)
      generalize szA r ax = ss at K1 K2
      have K3 := Lib.hid (fun W => along8_any c ax W)
      have K4 := Lib.hid (fun W => ralong_any c ax W)
      generalize alB c.k ax = ab at K3 K4
      have K5 := Lib.hid (fun W (h : PSt w c r W) => path_any t c ax _ p W (HI.out.up h.below) (HP.out.up h.below).row (by omega))
      have K6 := Lib.hid (fun W (h : PSt w c r W) => rpath_any ax p t c _ W (HI.out.up h.below) (HP.out.up h.below) (by omega))
      generalize ((pathT ax t p : Nat) : Int) = pp at K5 K6
      have b1 : (ss == ss) = true := by simp
      have b2 : (ab == ab) = true := by simp
      have b3 : (pp == pp) = true := by simp
      clear hl
      go_wp2_with fail
      go_region_held3 (fun W => W.cell? ⟨w.heap.size, 0, none⟩ = some (.int .u8 c.k) ∧ W.cell? ⟨w.heap.size, 1, none⟩ = some (.int .i64 c.r.x) ∧ W.cell? ⟨w.heap.size, 2, none⟩ = some (.int .i64 c.r.y) ∧ W.cell? ⟨w.heap.size, 3, none⟩ = some (.int .i64 c.r.w) ∧ W.cell? ⟨w.heap.size, 4, none⟩ = some (.int .i64 c.r.h) ∧ W.cell? ⟨w.heap.size, 5, none⟩ = some (.int .i64 c.id) ∧ W.cell? ⟨w.heap.size, 6, none⟩ = some (.slice c.a c.n c.cap) ∧ W.cell? ⟨w.heap.size + 1, 0, none⟩ = some (.int .i64 r.x) ∧ W.cell? ⟨w.heap.size + 1, 1, none⟩ = some (.int .i64 r.y) ∧ W.cell? ⟨w.heap.size + 1, 2, none⟩ = some (.int .i64 r.w) ∧ W.cell? ⟨w.heap.size + 1, 3, none⟩ = some (.int .i64 r.h)) (first | with_reducible exact X0.out | with_reducible exact X1.out | with_reducible exact X2.out | with_reducible exact X3.out | with_reducible exact X4.out | with_reducible exact X5.out | with_reducible exact X6.out | with_reducible exact X7.out)
        (first
          | (go_at_call 15; (with_reducible refine (K1.out w1.drew).mono ?_); rintro e y1 ⟨rfl, hb1⟩; have E1 := Lib.hid (SD.out.up hb1); have X1 := Lib.hid E1.out.c11; clear hb1)
          | (go_at_call 16; (with_reducible refine (K2.out y1).mono ?_); rintro e y2 ⟨rfl, hb2⟩; have E2 := Lib.hid (E1.out.up hb2); have X2 := Lib.hid E2.out.c11; clear hb2)
          | (go_at_call 17; (with_reducible refine (K3.out y2).mono ?_); rintro e y3 ⟨rfl, hb3⟩; have E3 := Lib.hid (E2.out.up hb3); have X3 := Lib.hid E3.out.c11; clear hb3)
          | (go_at_call 18; (with_reducible refine (K4.out y3).mono ?_); rintro e y4 ⟨rfl, hb4⟩; have E4 := Lib.hid (E3.out.up hb4); have X4 := Lib.hid E4.out.c11; clear hb4)
          | (go_at_call 19; (with_reducible refine (K5.out y4 E4.out).mono ?_); rintro e y5 ⟨rfl, hb5⟩; have E5 := Lib.hid (E4.out.up hb5); have X5 := Lib.hid E5.out.c11; clear hb5)
          | (go_at_call 20; (with_reducible refine (K6.out y5 E5.out).mono ?_); rintro e y6 ⟨rfl, hb6⟩; have E6 := Lib.hid (E5.out.up hb6); have X6 := Lib.hid E6.out.c11; clear hb6)
          | (go_at_call 8; (with_reducible refine (awake8_any y6).mono ?_); rintro e y7 ⟨rfl, hb7⟩; have E7 := Lib.hid (E6.out.up hb7); have X7 := Lib.hid E7.out.c11; clear hb7))
      go_wp2
      go_ret
      exact ⟨rfl, E7.out.below⟩

theorem leastPaths_wf (v0 v1 v3 : Value) (t : T) (c : C) (r : R) (ax : Int) (p : List Int) (w : World) (e0 : v0 = cval c) (e1 : v1 = val r) (hi : Is w c t) (hr : Row w v3 (ints p)) (hc : ∃ a cap, v3 = .slice a p.length cap ∧ p.length ≤ cap) :
    Calls Try.prog 4 #[v0, v1, .int .u8 ax, v3] w fun e w' => e = .returned (.bool true) ∧ Below w.heap.size w w' := by
  subst e0; subst e1
  exact leastPaths_any t c r ax v3 p w hi ⟨hr, hc⟩
end Go.Proofs.Ytajhojbnpajelaa
