/- The law LeastIs. -/
import Derived.Test.YtajhojbnpajelaaAwake8
namespace Go.Proofs.Ytajhojbnpajelaa
open Go.RowKit

structure QSt (w : World) (c : C) (W : World) : Prop where
  below : Below w.heap.size w W
  cat : CAt W w.heap.size 0 c
theorem QSt.up {w : World} {c : C} {W W' : World} (h : QSt w c W) (hb : Below W.heap.size W W') : QSt w c W' := ⟨h.below.trans (hb.mono h.below.size), h.cat.up hb⟩
theorem QSt.c7 {w : World} {c : C} {W : World} (h : QSt w c W) : C7 w.heap.size c W := c7_of h.cat
theorem QSt.new (w : World) (c : C) : QSt w c (w.alloc (cbox c)) := ⟨(Below.refl _ _).alloc (Nat.le_refl _) _, cbox_new w c⟩

set_option maxRecDepth 100000 in
set_option maxHeartbeats 4000000 in
theorem leastIs_any (t : T) (c : C) (ax a b : Int) (w : World) (hi : Is w c t) (hs : sz t ≤ 1099511627776) :
    Calls Try.prog 3 #[cval c, .int .u8 ax, .int .i64 a, .int .i64 b] w fun e w' => e = .returned (.bool true) ∧ Below w.heap.size w w' := by
  have S0 := Lib.hid (QSt.new w c)
  have HG := Lib.hid (great_any t c (w.alloc (cbox c)) (hi.up S0.out.below))
  have HI := Lib.hid hi
  clear hi
  go_enter Try.func3, Try.ntmps3
  go_wp2_with fail
  refine HG.out.mono ?_
  rintro e w1 ⟨g, rfl, hg, hb1⟩
  have S1 := Lib.hid (S0.out.up hb1)
  have HF := Lib.hid hg
  clear hb1 hg
  cases g with
  | true =>
    go_wp2_with fail
    refine (awake8_any w1).mono ?_
    rintro e w2 ⟨rfl, hb2⟩
    have S2 := Lib.hid (S1.out.up hb2)
    clear hb2
    go_wp2
    go_ret
    exact ⟨rfl, S2.out.below⟩
  | false =>
    have hsz : sz t ≤ 200 := HF.out rfl hs
    have SD := Lib.hid (S1.out.up (Below.refl _ w1).drew)
    have X0 := Lib.hid SD.out.c7
    have K1 := Lib.hid (fun W (h : QSt w c W) => lst_any t c ax W (HI.out.up h.below))
    have K2 := Lib.hid (fun W (h : QSt w c W) => rlst_any t c ax W (HI.out.up h.below) (by omega))
    generalize leT ax t = le at K1 K2
    have K3 := Lib.hid (fun W (h : QSt w c W) => giv_any t c ax W (HI.out.up h.below) (fun _ => by omega))
    have K4 := Lib.hid (fun W (h : QSt w c W) => rgiv_any t c ax W (HI.out.up h.below) (by omega))
    generalize giT ax t = gi at K3 K4
    have K5 := Lib.hid (fun W (h : QSt w c W) => fits8_any t c a b W (HI.out.up h.below))
    have K6 := Lib.hid (fun W (h : QSt w c W) => rfits8_any t c a b W (HI.out.up h.below) (by omega))
    generalize fits8 t a b = fi at K5 K6
    have b1 : (le == le) = true := by simp
    have b2 : (gi == gi) = true := by simp
    have b3 : (fi == fi) = true := by simp
    clear hsz hs
    go_wp2_with fail
    go_region_held3 (fun W => W.cell? ⟨w.heap.size, 0, none⟩ = some (.int .u8 c.k) ∧ W.cell? ⟨w.heap.size, 1, none⟩ = some (.int .i64 c.r.x) ∧ W.cell? ⟨w.heap.size, 2, none⟩ = some (.int .i64 c.r.y) ∧ W.cell? ⟨w.heap.size, 3, none⟩ = some (.int .i64 c.r.w) ∧ W.cell? ⟨w.heap.size, 4, none⟩ = some (.int .i64 c.r.h) ∧ W.cell? ⟨w.heap.size, 5, none⟩ = some (.int .i64 c.id) ∧ W.cell? ⟨w.heap.size, 6, none⟩ = some (.slice c.a c.n c.cap)) (first | with_reducible exact X0.out | with_reducible exact X1.out | with_reducible exact X2.out | with_reducible exact X3.out | with_reducible exact X4.out | with_reducible exact X5.out | with_reducible exact X6.out | with_reducible exact X7.out)
      (first
        | (go_at_call 9; (with_reducible refine (K1.out w1.drew SD.out).mono ?_); rintro e y1 ⟨rfl, hb1⟩; have E1 := Lib.hid (SD.out.up hb1); have X1 := Lib.hid E1.out.c7; clear hb1)
        | (go_at_call 10; (with_reducible refine (K2.out y1 E1.out).mono ?_); rintro e y2 ⟨rfl, hb2⟩; have E2 := Lib.hid (E1.out.up hb2); have X2 := Lib.hid E2.out.c7; clear hb2)
        | (go_at_call 11; (with_reducible refine (K3.out y2 E2.out).mono ?_); rintro e y3 ⟨rfl, hb3⟩; have E3 := Lib.hid (E2.out.up hb3); have X3 := Lib.hid E3.out.c7; clear hb3)
        | (go_at_call 12; (with_reducible refine (K4.out y3 E3.out).mono ?_); rintro e y4 ⟨rfl, hb4⟩; have E4 := Lib.hid (E3.out.up hb4); have X4 := Lib.hid E4.out.c7; clear hb4)
        | (go_at_call 13; (with_reducible refine (K5.out y4 E4.out).mono ?_); rintro e y5 ⟨rfl, hb5⟩; have E5 := Lib.hid (E4.out.up hb5); have X5 := Lib.hid E5.out.c7; clear hb5)
        | (go_at_call 14; (with_reducible refine (K6.out y5 E5.out).mono ?_); rintro e y6 ⟨rfl, hb6⟩; have E6 := Lib.hid (E5.out.up hb6); have X6 := Lib.hid E6.out.c7; clear hb6)
        | (go_at_call 8; (with_reducible refine (awake8_any y6).mono ?_); rintro e y7 ⟨rfl, hb7⟩; have E7 := Lib.hid (E6.out.up hb7); have X7 := Lib.hid E7.out.c7; clear hb7))
    go_wp2
    go_ret
    exact ⟨rfl, E7.out.below⟩

theorem leastIs_wf (v0 : Value) (t : T) (c : C) (ax a b : Int) (w : World) (e0 : v0 = cval c) (hi : Is w c t) (hs : sz t ≤ 1048576) :
    Calls Try.prog 3 #[v0, .int .u8 ax, .int .i64 a, .int .i64 b] w fun e w' => e = .returned (.bool true) ∧ Below w.heap.size w w' := by
  subst e0
  exact leastIs_any t c ax a b w hi (by omega)
end Go.Proofs.Ytajhojbnpajelaa
