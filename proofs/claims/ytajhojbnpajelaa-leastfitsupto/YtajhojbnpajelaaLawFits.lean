/- The law LeastFits. -/
import Derived.Test.YtajhojbnpajelaaLawIs
namespace Go.Proofs.Ytajhojbnpajelaa
open Go.RowKit

theorem fits_is (t : T) (hm : mayT t = true) (a b : Int) : fits8 t a b = (decide (lsT 1 t ≤ a) && (decide (a ≤ 10000 - t.r.x) && (decide (lsT 2 t ≤ b) && decide (b ≤ 10000 - t.r.y)))) := by
  rw [fits_parts, hm]; rfl
theorem fits_yes {t : T} (hm : mayT t = true) {a b : Int} (h1 : lsT 1 t ≤ a) (h2 : a ≤ 10000 - t.r.x) (h3 : lsT 2 t ≤ b) (h4 : b ≤ 10000 - t.r.y) : fits8 t a b = true := by
  rw [fits_is t hm, decide_eq_true h1, decide_eq_true h2, decide_eq_true h3, decide_eq_true h4]; rfl
theorem fits_no1 {t : T} (hm : mayT t = true) {a b : Int} (h1 : a < lsT 1 t) : fits8 t a b = false := by
  rw [fits_is t hm, decide_eq_false (by omega)]; rfl
theorem fits_no2 {t : T} (hm : mayT t = true) {a b : Int} (h1 : b < lsT 2 t) : fits8 t a b = false := by
  rw [fits_is t hm, decide_eq_false (show ¬ lsT 2 t ≤ b by omega)]; simp

set_option maxRecDepth 100000 in
set_option maxHeartbeats 4000000 in
theorem leastFits_any (t : T) (c : C) (w : World) (hi : Is w c t) (hs : sz t ≤ 1099511627776) :
    Calls Try.prog 6 #[cval c] w fun e w' => e = .returned (.bool true) ∧ Below w.heap.size w w' := by
  have S0 := Lib.hid (QSt.new w c)
  have HG := Lib.hid (great_any t c (w.alloc (cbox c)) (hi.up S0.out.below))
  have HI := Lib.hid hi
  clear hi
  go_enter Try.func6, Try.ntmps6
  go_wp2_with fail
  refine HG.out.mono ?_
  rintro e w1 ⟨g, rfl, hg, hb1⟩
  have S1 := Lib.hid (S0.out.up hb1)
  have HF := Lib.hid hg
  clear hb1 hg
  cases g with
  | true =>
    go_wp2_with fail
    refine (awake8_any w1).mono ?_
    rintro e w2 ⟨rfl, hb2⟩
    have S2 := Lib.hid (S1.out.up hb2)
    clear hb2
    go_wp2
    go_ret
    exact ⟨rfl, S2.out.below⟩
  | false =>
    have hsz : sz t ≤ 200 := HF.out rfl hs
    have HT := Lib.hid (rtiles8_any t c w1 (HI.out.up S1.out.below) (by omega))
    obtain ⟨c0, c1, c2, c3, c4, c5, c6⟩ := S1.out.c7
    cases ht : tileB t with
    | false =>
      rw [ht] at HT
      clear ht hsz
      go_wp2_with fail
      refine HT.out.mono ?_
      rintro e w2 ⟨rfl, hb2⟩
      have S2 := Lib.hid (S1.out.up hb2)
      clear hb2 c0 c1 c2 c3 c4 c5 c6
      go_wp2_with fail
      refine (awake8_any w2).mono ?_
      rintro e w3 ⟨rfl, hb3⟩
      have S3 := Lib.hid (S2.out.up hb3)
      clear hb3
      go_wp2
      go_ret
      exact ⟨rfl, S3.out.below⟩
    | true =>
      rw [ht] at HT
      have hm := tile_may ht
      have hr := may_rect (well_rect (tile_top (show sz t ≤ 999 by omega) ht).1)
      have hl1 : lsT 1 t ≤ t.r.w := tile_ls (ax := 1) (.inl rfl) (sz t) t (Nat.le_refl _) (by omega) ht
      have hl2 : lsT 2 t ≤ t.r.h := tile_ls (ax := 2) (.inr rfl) (sz t) t (Nat.le_refl _) (by omega) ht
      have hp1 := ls_pos 1 t
      have hp2 := ls_pos 2 t
      have f1 := fits_yes hm (a := t.r.w) (b := t.r.h) hl1 (by omega) hl2 (by omega)
      have f2 := fits_yes hm (a := lsT 1 t) (b := lsT 2 t) (Int.le_refl _) (by omega) (Int.le_refl _) (by omega)
      have f3 := fits_no1 hm (a := lsT 1 t - 1) (b := lsT 2 t) (by omega)
      have f4 := fits_no2 hm (a := lsT 1 t) (b := lsT 2 t - 1) (by omega)
      have K1 := Lib.hid (fun W (h : QSt w c W) => lst_any t c 1 W (HI.out.up h.below))
      rw [le_yes hm rfl] at K1
      have K2 := Lib.hid (fun W (h : QSt w c W) => lst_any t c 2 W (HI.out.up h.below))
      rw [le_yes hm rfl] at K2
      have K3 := Lib.hid (fun W (h : QSt w c W) => fits8_any t c c.r.w c.r.h W (HI.out.up h.below))
      rw [← HI.out.split.2.1, f1, HI.out.split.2.1] at K3
      have K4 := Lib.hid (fun W (h : QSt w c W) => fits8_any t c (lsT 1 t) (lsT 2 t) W (HI.out.up h.below))
      rw [f2] at K4
      have K5 := Lib.hid (fun W (h : QSt w c W) => fits8_any t c (lsT 1 t - 1) (lsT 2 t) W (HI.out.up h.below))
      rw [f3] at K5
      have K6 := Lib.hid (fun W (h : QSt w c W) => fits8_any t c (lsT 1 t) (lsT 2 t - 1) W (HI.out.up h.below))
      rw [f4] at K6
      rw [HI.out.split.2.1] at hl1 hl2 hr
      clear ht hm f1 f2 f3 f4 hsz hs
      generalize lsT 1 t = l1 at K1 K4 K5 K6 hl1 hp1
      generalize lsT 2 t = l2 at K2 K4 K5 K6 hl2 hp2
      go_wp2_with fail
      refine HT.out.mono ?_
      rintro e w2 ⟨rfl, hb2⟩
      have S2 := Lib.hid (S1.out.up hb2)
      clear hb2 c0 c1 c2 c3 c4 c5 c6
      have SD := Lib.hid (S2.out.up (Below.refl _ w2).drew)
      have X0 := Lib.hid SD.out.c7
      go_wp2_with fail
      go_region_held3 (fun W => W.cell? ⟨w.heap.size, 0, none⟩ = some (.int .u8 c.k) ∧ W.cell? ⟨w.heap.size, 1, none⟩ = some (.int .i64 c.r.x) ∧ W.cell? ⟨w.heap.size, 2, none⟩ = some (.int .i64 c.r.y) ∧ W.cell? ⟨w.heap.size, 3, none⟩ = some (.int .i64 c.r.w) ∧ W.cell? ⟨w.heap.size, 4, none⟩ = some (.int .i64 c.r.h) ∧ W.cell? ⟨w.heap.size, 5, none⟩ = some (.int .i64 c.id) ∧ W.cell? ⟨w.heap.size, 6, none⟩ = some (.slice c.a c.n c.cap)) (first | with_reducible exact X0.out | with_reducible exact X1.out | with_reducible exact X2.out)
        (first
          | (go_at_call 9; (with_reducible refine (K1.out w2.drew SD.out).mono ?_); rintro e y1 ⟨rfl, hb1⟩; have E1 := Lib.hid (SD.out.up hb1); have X1 := Lib.hid E1.out.c7; clear hb1)
          | (go_at_call 9; (with_reducible refine (K2.out y1 E1.out).mono ?_); rintro e y2 ⟨rfl, hb2⟩; have E2 := Lib.hid (E1.out.up hb2); have X2 := Lib.hid E2.out.c7; clear hb2))
      obtain ⟨c0, c1, c2, c3, c4, c5, c6⟩ := E2.out.c7
      go_wp2_with fail
      refine (K3.out y2 E2.out).mono ?_
      rintro e y3 ⟨rfl, hb3⟩
      have E3 := Lib.hid (E2.out.up hb3)
      clear hb3 c0 c1 c2 c3 c4 c5 c6
      obtain ⟨c0, c1, c2, c3, c4, c5, c6⟩ := E3.out.c7
      go_wp2_with fail
      refine (K4.out y3 E3.out).mono ?_
      rintro e y4 ⟨rfl, hb4⟩
      have E4 := Lib.hid (E3.out.up hb4)
      clear hb4 c0 c1 c2 c3 c4 c5 c6
      obtain ⟨c0, c1, c2, c3, c4, c5, c6⟩ := E4.out.c7
      go_wp2_with fail
      refine (K5.out y4 E4.out).mono ?_
      rintro e y5 ⟨rfl, hb5⟩
      have E5 := Lib.hid (E4.out.up hb5)
      clear hb5 c0 c1 c2 c3 c4 c5 c6
      obtain ⟨c0, c1, c2, c3, c4, c5, c6⟩ := E5.out.c7
      go_wp2_with fail
      refine (K6.out y5 E5.out).mono ?_
      rintro e y6 ⟨rfl, hb6⟩
      have E6 := Lib.hid (E5.out.up hb6)
      clear hb6 c0 c1 c2 c3 c4 c5 c6
      obtain ⟨c0, c1, c2, c3, c4, c5, c6⟩ := E6.out.c7
      have t1 : decide (1 ≤ l1) = true := decide_eq_true hp1
      have t2 : decide (1 ≤ l2) = true := decide_eq_true hp2
      have t3 : decide (l1 ≤ c.r.w) = true := decide_eq_true hl1
      have t4 : decide (l2 ≤ c.r.h) = true := decide_eq_true hl2
      go_wp2_with fail
      refine (awake8_any y6).mono ?_
      rintro e y7 ⟨rfl, hb7⟩
      have E7 := Lib.hid (E6.out.up hb7)
      clear hb7 c0 c1 c2 c3 c4 c5 c6
      go_wp2
      go_ret
      exact ⟨rfl, E7.out.below⟩

theorem leastFits_wf (v0 : Value) (t : T) (c : C) (w : World) (e0 : v0 = cval c) (hi : Is w c t) (hs : sz t ≤ 1048576) :
    Calls Try.prog 6 #[v0] w fun e w' => e = .returned (.bool true) ∧ Below w.heap.size w w' := by
  subst e0
  exact leastFits_any t c w hi (by omega)
end Go.Proofs.Ytajhojbnpajelaa
