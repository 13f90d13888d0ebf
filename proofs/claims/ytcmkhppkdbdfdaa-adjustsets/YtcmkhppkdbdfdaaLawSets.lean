/- The law AdjustSets. -/
import Derived.Test.YtcmkhppkdbdfdaaAwake9
import Derived.Test.YtcmkhppkdbdfdaaSetB
import Derived.Deep.RegionHeld3
namespace Go.Proofs.Ytcmkhppkdbdfdaa
open Go.RowKit

abbrev C7 (b : Nat) (c : C) (W : World) : Prop := W.cell? ⟨b, 0, none⟩ = some (.int .u8 c.k) ∧ W.cell? ⟨b, 1, none⟩ = some (.int .i64 c.r.x) ∧ W.cell? ⟨b, 2, none⟩ = some (.int .i64 c.r.y) ∧ W.cell? ⟨b, 3, none⟩ = some (.int .i64 c.r.w) ∧ W.cell? ⟨b, 4, none⟩ = some (.int .i64 c.r.h) ∧ W.cell? ⟨b, 5, none⟩ = some (.int .i64 c.id) ∧ W.cell? ⟨b, 6, none⟩ = some (.slice c.a c.n c.cap)
theorem c7_of {W : World} {b : Nat} {c : C} (h : CAt W b 0 c) : C7 b c W := by
  obtain ⟨c0, c1, c2, c3, c4, c5, c6⟩ := h
  simp only [Nat.zero_add] at c1 c2 c3 c4 c5 c6
  exact ⟨c0, c1, c2, c3, c4, c5, c6⟩
structure QSt (w : World) (c : C) (W : World) : Prop where
  below : Below w.heap.size w W
  cat : CAt W w.heap.size 0 c
theorem QSt.up {w : World} {c : C} {W W' : World} (h : QSt w c W) (hb : Below W.heap.size W W') : QSt w c W' := ⟨h.below.trans (hb.mono h.below.size), h.cat.up hb⟩
theorem QSt.c7 {w : World} {c : C} {W : World} (h : QSt w c W) : C7 w.heap.size c W := c7_of h.cat
theorem QSt.new (w : World) (c : C) : QSt w c (w.alloc (cbox c)) := ⟨(Below.refl _ _).alloc (Nat.le_refl _) _, cbox_new w c⟩

def SetIs (t : T) (w : World) (e : Ending) (w' : World) : Prop := ∃ d, e = .returned (cval d) ∧ Is w' d t ∧ Below w.heap.size w w'
theorem set_is {t : T} {w : World} {e : Ending} {w' : World} (h : SetSays t w e w') : SetIs t w e w' := by
  obtain ⟨d, S, h1, h2, -, h4⟩ := h
  exact ⟨d, h1, h2.is, h4⟩

set_option maxRecDepth 100000 in
set_option maxHeartbeats 4000000 in
theorem adjustSets_any (t : T) (c : C) (x y : Int) (w : World) (hi : Is w c t) (hx : fits x) (hy : fits y) :
    Calls Try.prog 4 #[cval c, .int .i64 x, .int .i64 y] w fun e w' => e = .returned (.bool true) ∧ Below w.heap.size w w' := by
  have S0 := Lib.hid (QSt.new w c)
  have HG := Lib.hid (great_any t c (w.alloc (cbox c)) (hi.up S0.out.below))
  have HI := Lib.hid hi
  have K1 := Lib.hid (fun W (h : QSt w c W) => (set_any (sz t) t c x y W (Nat.le_refl _) hx hy (hi.up h.below)).mono (fun e w' => set_is))
  have K2 := Lib.hid (fun W (h : QSt w c W) => (rset_any (sz t) t c x y W (Nat.le_refl _) hx hy (hi.up h.below)).mono (fun e w' => set_is))
  clear hi hx hy
  generalize setT x y t = u at K1 K2
  have HSM := Lib.hid ((sameT_iff u u).2 rfl)
  go_enter Try.func4, Try.ntmps4
  go_wp2_with fail
  refine HG.out.mono ?_
  rintro e w1 ⟨g, rfl, hg, hb1⟩
  have S1 := Lib.hid (S0.out.up hb1)
  clear hb1 hg
  cases g with
  | true =>
    go_wp2_with fail
    refine (awake_any w1).mono ?_
    rintro e w2 ⟨rfl, hb2⟩
    have S2 := Lib.hid (S1.out.up hb2)
    clear hb2
    go_wp2
    go_ret
    exact ⟨rfl, S2.out.below⟩
  | false =>
    have SD := Lib.hid (S1.out.up (Below.refl _ w1).drew)
    have X0 := Lib.hid SD.out.c7
    have K3 := Lib.hid (fun (d f : C) W (h : Is W d u) (h' : Is W f u) => rsame_any (sz u) u u d f W (Nat.le_refl _) h h')
    rw [HSM.out] at K3
    clear HSM
    go_wp2_with fail
    go_region_held3 (fun W => W.cell? ⟨w.heap.size, 0, none⟩ = some (.int .u8 c.k) ∧ W.cell? ⟨w.heap.size, 1, none⟩ = some (.int .i64 c.r.x) ∧ W.cell? ⟨w.heap.size, 2, none⟩ = some (.int .i64 c.r.y) ∧ W.cell? ⟨w.heap.size, 3, none⟩ = some (.int .i64 c.r.w) ∧ W.cell? ⟨w.heap.size, 4, none⟩ = some (.int .i64 c.r.h) ∧ W.cell? ⟨w.heap.size, 5, none⟩ = some (.int .i64 c.id) ∧ W.cell? ⟨w.heap.size, 6, none⟩ = some (.slice c.a c.n c.cap)) (first | with_reducible exact X0.out | with_reducible exact X1.out | with_reducible exact X2.out | with_reducible exact X3.out | with_reducible exact X4.out)
      (first
        | (go_at_call 12; (with_reducible refine (K1.out w1.drew SD.out).mono ?_); rintro e y1 ⟨d1, rfl, hd1, hb1⟩; have E1 := Lib.hid (SD.out.up hb1); have D1 := Lib.hid hd1; have X1 := Lib.hid E1.out.c7; clear hb1 hd1)
        | (go_at_call 13; (with_reducible refine (K2.out y1 E1.out).mono ?_); rintro e y2 ⟨d2, rfl, hd2, hb2⟩; have E2 := Lib.hid (E1.out.up hb2); have D2 := Lib.hid hd2; have D1' := Lib.hid (D1.out.up hb2); have X2 := Lib.hid E2.out.c7; clear hb2 hd2)
        | (go_at_call 11; (with_reducible refine (K3.out d1 d2 y2 D1'.out D2.out).mono ?_); rintro e y3 ⟨rfl, hb3⟩; have E3 := Lib.hid (E2.out.up hb3); have X3 := Lib.hid E3.out.c7; clear hb3)
        | (go_at_call 6; (with_reducible refine (awake_any y3).mono ?_); rintro e y4 ⟨rfl, hb4⟩; have E4 := Lib.hid (E3.out.up hb4); have X4 := Lib.hid E4.out.c7; clear hb4))
    go_wp2
    go_ret
    exact ⟨rfl, E4.out.below⟩

theorem adjustSets_wf (v0 : Value) (t : T) (c : C) (x y : Int) (w : World) (e0 : v0 = cval c) (hi : Is w c t) (hx : fits x) (hy : fits y) :
    Calls Try.prog 4 #[v0, .int .i64 x, .int .i64 y] w fun e w' => e = .returned (.bool true) ∧ Below w.heap.size w w' := by
  subst e0
  exact adjustSets_any t c x y w hi hx hy
end Go.Proofs.Ytcmkhppkdbdfdaa
