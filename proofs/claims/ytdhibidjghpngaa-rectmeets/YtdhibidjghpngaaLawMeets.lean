/- The law RectMeets: the walk. -/
import Derived.Test.YtdhibidjghpngaaMeets
import Derived.Deep.CutRange
namespace Go.Proofs.Ytdhibidjghpngaa
open Go.RowKit

set_option maxRecDepth 100000 in
set_option maxHeartbeats 6400000 in
theorem rectMeets_any (a b : R) (w : World) (ha : a.fits) (hb : b.fits) :
    Calls Try.prog 6 #[val a, val b] w fun e w' => e = .returned (.bool true) ∧ Below w.heap.size w w' := by
  have HFa := Lib.hid ha
  have HFb := Lib.hid hb
  clear ha hb
  have B0 : Hid (Below (w.alloc (box a)).heap.size (w.alloc (box a)) ((w.alloc (box a)).alloc (box b))) := (Below.refl _ _).alloc (Nat.le_refl _) _
  have B1 : Hid (Below w.heap.size w ((w.alloc (box a)).alloc (box b))) := ((Below.refl _ _).alloc (Nat.le_refl _) _).alloc (by simp) _
  have HA : Hid (RAt ((w.alloc (box a)).alloc (box b)) w.heap.size 0 a) := (rat_new w a).up B0.out
  have HC : Hid (RAt ((w.alloc (box a)).alloc (box b)) (w.heap.size + 1) 0 b) := by
    have h := rat_new (w.alloc (box a)) b
    rw [World.size_alloc] at h
    exact h
  have H1 := Lib.hid (inside_one a b ((w.alloc (box a)).alloc (box b)) HFa.out HFb.out (w.heap.size + 1 + 1) (by simp))
  rcases bool_cases (mays [a, b]) with hm | hm
  case inr =>
    obtain ⟨hi, hap⟩ := not_may hm
    rw [hi] at H1
    have HAp := Lib.hid hap
    clear hi hap
    go_enter Try.func6, Try.ntmps6
    go_wp2_with fail
    refine H1.out.mono ?_
    rintro e w2 ⟨rfl, hb2⟩
    have B2 := Lib.hid (B1.out.trans (hb2.mono B1.out.size))
    have A2 := Lib.hid (HA.out.up hb2)
    have C2 := Lib.hid (HC.out.up hb2)
    clear hb2
    obtain ⟨c0, c1, c2, c3⟩ := A2.out
    obtain ⟨e0, e1, e2, e3⟩ := C2.out
    go_wp2_with fail
    refine (may_two a b w2 HFa.out HFb.out).mono ?_
    rw [hm]
    rintro e w3 ⟨rfl, hb3⟩
    have B3 := Lib.hid (B2.out.trans (hb3.mono B2.out.size))
    clear c0 c1 c2 c3 e0 e1 e2 e3
    obtain ⟨c0, c1, c2, c3⟩ := A2.out.up hb3
    obtain ⟨e0, e1, e2, e3⟩ := C2.out.up hb3
    clear hb3
    go_wp2_with fail
    refine (apart_pair a b HFa.out HFb.out false HAp.out _ _ (rrow_top0 w3 a b)).mono ?_
    rintro e w4 ⟨rfl, hb4⟩
    have B4 : Hid (Below w.heap.size w w4) := (B3.out.alloc B3.out.size (pair a b)).trans (hb4.mono (B3.out.alloc B3.out.size (pair a b)).size)
    clear hb4
    go_wp2_with fail
    refine (awake_any _).mono ?_
    rintro e w5 ⟨rfl, hb5⟩
    have B5 := Lib.hid (B4.out.trans (hb5.mono B4.out.size))
    clear hb5
    go_wp2
    go_ret
    exact ⟨rfl, B5.out⟩
  have hma : mayB a = true := by simp [mays] at hm; exact hm.1
  have hmb : mayB b = true := by simp [mays] at hm; exact hm.2
  have hbb := (mayB_iff b).1 hmb
  have s1 : IntKind.i64.wrap (b.x + b.w) = b.x + b.w := wrap_id (by omega)
  have s2 : IntKind.i64.wrap (b.y + b.h) = b.y + b.h := wrap_id (by omega)
  have s3 : IntKind.i64.wrap (b.x + b.w - 1) = b.x + b.w - 1 := wrap_id (by omega)
  have s4 : IntKind.i64.wrap (b.y + b.h - 1) = b.y + b.h - 1 := wrap_id (by omega)
  clear hbb
  rw [inside_ins hma] at H1
  have HCo := Lib.hid (corners4 (p := a) hmb)
  have HNa := Lib.hid (fun h => ins_not_apart (p := a) (q := b) h)
  have HSy := Lib.hid (apart_sym a b)
  have K1 := fun W => Lib.hid (has_any a b.x b.y W HFa.out)
  have K2 := fun W => Lib.hid (has_any a (b.x + b.w - 1) b.y W HFa.out)
  have K3 := fun W => Lib.hid (has_any a b.x (b.y + b.h - 1) W HFa.out)
  have K4 := fun W => Lib.hid (has_any a (b.x + b.w - 1) (b.y + b.h - 1) W HFa.out)
  generalize hasB a b.x b.y = h1 at HCo K1
  generalize hasB a (b.x + b.w - 1) b.y = h2 at HCo K2
  generalize hasB a b.x (b.y + b.h - 1) = h3 at HCo K3
  generalize hasB a (b.x + b.w - 1) (b.y + b.h - 1) = h4 at HCo K4
  generalize insB a b = bi at HCo H1 HNa
  generalize hap : apartB [a, b] = ap at HNa HSy
  have HAp := Lib.hid hap
  clear hap hma hmb
  go_enter Try.func6, Try.ntmps6
  go_wp2_with fail
  refine H1.out.mono ?_
  rintro e w2 ⟨rfl, hb2⟩
  have B2 := Lib.hid (B1.out.trans (hb2.mono B1.out.size))
  have A2 := Lib.hid (HA.out.up hb2)
  have C2 := Lib.hid (HC.out.up hb2)
  clear hb2
  obtain ⟨c0, c1, c2, c3⟩ := A2.out
  obtain ⟨e0, e1, e2, e3⟩ := C2.out
  go_wp2_with fail
  refine (may_two a b w2 HFa.out HFb.out).mono ?_
  rw [hm]
  rintro e w3 ⟨rfl, hb3⟩
  have B3 := Lib.hid (B2.out.trans (hb3.mono B2.out.size))
  have A3 := Lib.hid (A2.out.up hb3)
  have C3 := Lib.hid (C2.out.up hb3)
  clear hb3 c0 c1 c2 c3 e0 e1 e2 e3
  go_upto_region 4 with fail
  go_cut [6] from 28 to 73 (fun s6 wx => s6 = .bool bi ∧ RAt wx w.heap.size 0 a ∧ RAt wx (w.heap.size + 1) 0 b ∧ Below w.heap.size w wx)
  case first =>
    cases h1 with
    | false =>
      obtain rfl : bi = false := by rw [HCo.out]; rfl
      obtain ⟨c0, c1, c2, c3⟩ := A3.out
      obtain ⟨e0, e1, e2, e3⟩ := C3.out
      go_wp2_with fail
      refine (K1 _).out.mono ?_
      rintro e wk1 ⟨rfl, hbk⟩
      replace B3 := Lib.hid (B3.out.trans (hbk.mono B3.out.size))
      replace A3 := Lib.hid (A3.out.up hbk)
      replace C3 := Lib.hid (C3.out.up hbk)
      clear hbk c0 c1 c2 c3 e0 e1 e2 e3
      go_wp2_with fail
      go_meet
      exact ⟨rfl, A3.out, C3.out, B3.out⟩
    | true =>
      cases h2 with
      | false =>
        obtain rfl : bi = false := by rw [HCo.out]; rfl
        obtain ⟨c0, c1, c2, c3⟩ := A3.out
        obtain ⟨e0, e1, e2, e3⟩ := C3.out
        go_wp2_with fail
        refine (K1 _).out.mono ?_
        rintro e wk1 ⟨rfl, hbk⟩
        replace B3 := Lib.hid (B3.out.trans (hbk.mono B3.out.size))
        replace A3 := Lib.hid (A3.out.up hbk)
        replace C3 := Lib.hid (C3.out.up hbk)
        clear hbk c0 c1 c2 c3 e0 e1 e2 e3
        obtain ⟨c0, c1, c2, c3⟩ := A3.out
        obtain ⟨e0, e1, e2, e3⟩ := C3.out
        go_wp2_with fail
        refine (K2 _).out.mono ?_
        rintro e wk2 ⟨rfl, hbk⟩
        replace B3 := Lib.hid (B3.out.trans (hbk.mono B3.out.size))
        replace A3 := Lib.hid (A3.out.up hbk)
        replace C3 := Lib.hid (C3.out.up hbk)
        clear hbk c0 c1 c2 c3 e0 e1 e2 e3
        go_wp2_with fail
        go_meet
        exact ⟨rfl, A3.out, C3.out, B3.out⟩
      | true =>
        cases h3 with
        | false =>
          obtain rfl : bi = false := by rw [HCo.out]; rfl
          obtain ⟨c0, c1, c2, c3⟩ := A3.out
          obtain ⟨e0, e1, e2, e3⟩ := C3.out
          go_wp2_with fail
          refine (K1 _).out.mono ?_
          rintro e wk1 ⟨rfl, hbk⟩
          replace B3 := Lib.hid (B3.out.trans (hbk.mono B3.out.size))
          replace A3 := Lib.hid (A3.out.up hbk)
          replace C3 := Lib.hid (C3.out.up hbk)
          clear hbk c0 c1 c2 c3 e0 e1 e2 e3
          obtain ⟨c0, c1, c2, c3⟩ := A3.out
          obtain ⟨e0, e1, e2, e3⟩ := C3.out
          go_wp2_with fail
          refine (K2 _).out.mono ?_
          rintro e wk2 ⟨rfl, hbk⟩
          replace B3 := Lib.hid (B3.out.trans (hbk.mono B3.out.size))
          replace A3 := Lib.hid (A3.out.up hbk)
          replace C3 := Lib.hid (C3.out.up hbk)
          clear hbk c0 c1 c2 c3 e0 e1 e2 e3
          obtain ⟨c0, c1, c2, c3⟩ := A3.out
          obtain ⟨e0, e1, e2, e3⟩ := C3.out
          go_wp2_with fail
          refine (K3 _).out.mono ?_
          rintro e wk3 ⟨rfl, hbk⟩
          replace B3 := Lib.hid (B3.out.trans (hbk.mono B3.out.size))
          replace A3 := Lib.hid (A3.out.up hbk)
          replace C3 := Lib.hid (C3.out.up hbk)
          clear hbk c0 c1 c2 c3 e0 e1 e2 e3
          go_wp2_with fail
          go_meet
          exact ⟨rfl, A3.out, C3.out, B3.out⟩
        | true =>
          cases h4 with
          | false =>
            obtain rfl : bi = false := by rw [HCo.out]; rfl
            obtain ⟨c0, c1, c2, c3⟩ := A3.out
            obtain ⟨e0, e1, e2, e3⟩ := C3.out
            go_wp2_with fail
            refine (K1 _).out.mono ?_
            rintro e wk1 ⟨rfl, hbk⟩
            replace B3 := Lib.hid (B3.out.trans (hbk.mono B3.out.size))
            replace A3 := Lib.hid (A3.out.up hbk)
            replace C3 := Lib.hid (C3.out.up hbk)
            clear hbk c0 c1 c2 c3 e0 e1 e2 e3
            obtain ⟨c0, c1, c2, c3⟩ := A3.out
            obtain ⟨e0, e1, e2, e3⟩ := C3.out
            go_wp2_with fail
            refine (K2 _).out.mono ?_
            rintro e wk2 ⟨rfl, hbk⟩
            replace B3 := Lib.hid (B3.out.trans (hbk.mono B3.out.size))
            replace A3 := Lib.hid (A3.out.up hbk)
            replace C3 := Lib.hid (C3.out.up hbk)
            clear hbk c0 c1 c2 c3 e0 e1 e2 e3
            obtain ⟨c0, c1, c2, c3⟩ := A3.out
            obtain ⟨e0, e1, e2, e3⟩ := C3.out
            go_wp2_with fail
            refine (K3 _).out.mono ?_
            rintro e wk3 ⟨rfl, hbk⟩
            replace B3 := Lib.hid (B3.out.trans (hbk.mono B3.out.size))
            replace A3 := Lib.hid (A3.out.up hbk)
            replace C3 := Lib.hid (C3.out.up hbk)
            clear hbk c0 c1 c2 c3 e0 e1 e2 e3
            obtain ⟨c0, c1, c2, c3⟩ := A3.out
            obtain ⟨e0, e1, e2, e3⟩ := C3.out
            go_wp2_with fail
            refine (K4 _).out.mono ?_
            rintro e wk4 ⟨rfl, hbk⟩
            replace B3 := Lib.hid (B3.out.trans (hbk.mono B3.out.size))
            replace A3 := Lib.hid (A3.out.up hbk)
            replace C3 := Lib.hid (C3.out.up hbk)
            clear hbk c0 c1 c2 c3 e0 e1 e2 e3
            go_wp2_with fail
            go_meet
            exact ⟨rfl, A3.out, C3.out, B3.out⟩
          | true =>
            obtain rfl : bi = true := by rw [HCo.out]; rfl
            obtain ⟨c0, c1, c2, c3⟩ := A3.out
            obtain ⟨e0, e1, e2, e3⟩ := C3.out
            go_wp2_with fail
            refine (K1 _).out.mono ?_
            rintro e wk1 ⟨rfl, hbk⟩
            replace B3 := Lib.hid (B3.out.trans (hbk.mono B3.out.size))
            replace A3 := Lib.hid (A3.out.up hbk)
            replace C3 := Lib.hid (C3.out.up hbk)
            clear hbk c0 c1 c2 c3 e0 e1 e2 e3
            obtain ⟨c0, c1, c2, c3⟩ := A3.out
            obtain ⟨e0, e1, e2, e3⟩ := C3.out
            go_wp2_with fail
            refine (K2 _).out.mono ?_
            rintro e wk2 ⟨rfl, hbk⟩
            replace B3 := Lib.hid (B3.out.trans (hbk.mono B3.out.size))
            replace A3 := Lib.hid (A3.out.up hbk)
            replace C3 := Lib.hid (C3.out.up hbk)
            clear hbk c0 c1 c2 c3 e0 e1 e2 e3
            obtain ⟨c0, c1, c2, c3⟩ := A3.out
            obtain ⟨e0, e1, e2, e3⟩ := C3.out
            go_wp2_with fail
            refine (K3 _).out.mono ?_
            rintro e wk3 ⟨rfl, hbk⟩
            replace B3 := Lib.hid (B3.out.trans (hbk.mono B3.out.size))
            replace A3 := Lib.hid (A3.out.up hbk)
            replace C3 := Lib.hid (C3.out.up hbk)
            clear hbk c0 c1 c2 c3 e0 e1 e2 e3
            obtain ⟨c0, c1, c2, c3⟩ := A3.out
            obtain ⟨e0, e1, e2, e3⟩ := C3.out
            go_wp2_with fail
            refine (K4 _).out.mono ?_
            rintro e wk4 ⟨rfl, hbk⟩
            replace B3 := Lib.hid (B3.out.trans (hbk.mono B3.out.size))
            replace A3 := Lib.hid (A3.out.up hbk)
            replace C3 := Lib.hid (C3.out.up hbk)
            clear hbk c0 c1 c2 c3 e0 e1 e2 e3
            go_wp2_with fail
            go_meet
            exact ⟨rfl, A3.out, C3.out, B3.out⟩
  case rest =>
    obtain ⟨rfl, hA4, hC4, hB4⟩ := hcut
    have S0 := Lib.hid (c8_of (show RAt wc.drew w.heap.size 0 a from hA4) (show RAt wc.drew (w.heap.size + 1) 0 b from hC4) hB4.drew)
    clear hA4 hC4 hB4 HCo K1 K2 K3 K4 B3 A3 C3 A2 C2 B2 B1 B0 HA HC H1
    cases bi with
    | true =>
      obtain rfl : ap = false := HNa.out rfl
      go_wp2
      go_region_held3 (fun W => W.cell? ⟨w.heap.size, 0, none⟩ = some (.int .i64 a.x) ∧ W.cell? ⟨w.heap.size, 1, none⟩ = some (.int .i64 a.y) ∧ W.cell? ⟨w.heap.size, 2, none⟩ = some (.int .i64 a.w) ∧ W.cell? ⟨w.heap.size, 3, none⟩ = some (.int .i64 a.h) ∧ W.cell? ⟨w.heap.size + 1, 0, none⟩ = some (.int .i64 b.x) ∧ W.cell? ⟨w.heap.size + 1, 1, none⟩ = some (.int .i64 b.y) ∧ W.cell? ⟨w.heap.size + 1, 2, none⟩ = some (.int .i64 b.w) ∧ W.cell? ⟨w.heap.size + 1, 3, none⟩ = some (.int .i64 b.h) ∧ Below w.heap.size w W) (first | exact S0.out | exact S5.out | exact S6.out | exact S7.out | (refine c8_alloc ?_; assumption) | (refine c8_alloc_drew ?_; assumption))
        (first
    | (go_at_call 10; refine (apart_pair a b HFa.out HFb.out false HAp.out _ _ ?hrow).mono ?_; (case hrow => (first | exact rrow_top0 _ a b | exact rrow_top0_drew _ a b | exact rrow_top1 _ _ a b | exact rrow_under _ _ a b)); rintro e w5 ⟨rfl, hb5⟩; have S5 := Lib.hid (c8_up (w := w) (n := w.heap.size) (m := w.heap.size + 1) (a := a) (b := b) (by assumption) hb5); (first | have R5 := Lib.hid ((rrow_top1 _ _ b a).up hb5) | have R5 := Lib.hid ((rrow_under _ _ b a).up hb5) | skip); clear hb5)
    | (go_at_call 10; refine (apart_pair b a HFb.out HFa.out false HSy.out _ _ ?hrow).mono ?_; (case hrow => (first | exact R5.out | exact rrow_top0 _ b a)); rintro e w6 ⟨rfl, hb6⟩; have S6 := Lib.hid (c8_up (w := w) (n := w.heap.size) (m := w.heap.size + 1) (a := a) (b := b) (by assumption) hb6); clear hb6)
    | (go_at_call 7; refine (awake_any _).mono ?_; rintro e w7 ⟨rfl, hb7⟩; have S7 := Lib.hid (c8_up (w := w) (n := w.heap.size) (m := w.heap.size + 1) (a := a) (b := b) (by assumption) hb7); clear hb7))
      all_goals
        go_wp2
        go_ret
        exact ⟨rfl, S7.out.2.2.2.2.2.2.2.2⟩
    | false =>
      go_wp2
      refine wp_region_noPanic ?_
      refine wp_region_held_drew (S := (fun W => W.cell? ⟨w.heap.size, 0, none⟩ = some (.int .i64 a.x) ∧ W.cell? ⟨w.heap.size, 1, none⟩ = some (.int .i64 a.y) ∧ W.cell? ⟨w.heap.size, 2, none⟩ = some (.int .i64 a.w) ∧ W.cell? ⟨w.heap.size, 3, none⟩ = some (.int .i64 a.h) ∧ W.cell? ⟨w.heap.size + 1, 0, none⟩ = some (.int .i64 b.x) ∧ W.cell? ⟨w.heap.size + 1, 1, none⟩ = some (.int .i64 b.y) ∧ W.cell? ⟨w.heap.size + 1, 2, none⟩ = some (.int .i64 b.w) ∧ W.cell? ⟨w.heap.size + 1, 3, none⟩ = some (.int .i64 b.h) ∧ Below w.heap.size w W)) (by kernel_rfl) S0.out (fun hHeld => ?_)
      clear S0
      have hap2 : (ap == ap) = true := by simp
      generalize wc.drew = wd at hHeld ⊢
      refine wpAnyH_take (i := 0) (v := .bool false) rfl (by kernel_rfl) (by kernel_rfl) (by kernel_rfl) (fun _ _ _ h => h) (Or.inl ⟨by rfl, ?_⟩) (by assumption) ?_
      · (intro W hSw; obtain ⟨s0, s1, s2, s3, s4, s5, s6, s7, -⟩ := hSw; go_simp)
      change wpAnyH _ _ _ _ _ _ _ (Act.put _ (some 74) _) _
      try simp only [Act.put, List.setIfInBounds_toArray, List.set_cons_zero, List.set_cons_succ]
      refine wpAnyH_take (i := 1) (v := .bool false) rfl (by kernel_rfl) (by kernel_rfl) (by kernel_rfl) (fun _ _ _ h => h) (Or.inl ⟨by rfl, ?_⟩) (by assumption) ?_
      · (intro W hSw; obtain ⟨s0, s1, s2, s3, s4, s5, s6, s7, -⟩ := hSw; go_simp)
      change wpAnyH _ _ _ _ _ _ _ (Act.put _ (some 75) _) _
      try simp only [Act.put, List.setIfInBounds_toArray, List.set_cons_zero, List.set_cons_succ]
      refine wpAnyH_take (i := 2) (v := .bool true) rfl (by kernel_rfl) (by kernel_rfl) (by kernel_rfl) (fun _ _ _ h => h) (Or.inl ⟨by rfl, ?_⟩) (by assumption) ?_
      · (intro W hSw; obtain ⟨s0, s1, s2, s3, s4, s5, s6, s7, -⟩ := hSw; go_simp)
      change wpAnyH _ _ _ _ _ _ _ (Act.put _ (some 76) _) _
      try simp only [Act.put, List.setIfInBounds_toArray, List.set_cons_zero, List.set_cons_succ]
      refine wpAnyH_take (i := 3) (v := .bool true) rfl (by kernel_rfl) (by kernel_rfl) (by kernel_rfl) (fun _ _ _ h => h) (Or.inl ⟨by rfl, ?_⟩) (by assumption) ?_
      · (intro W hSw; obtain ⟨s0, s1, s2, s3, s4, s5, s6, s7, -⟩ := hSw; go_simp)
      change wpAnyH _ _ _ _ _ _ _ (Act.put _ (some 77) _) _
      try simp only [Act.put, List.setIfInBounds_toArray, List.set_cons_zero, List.set_cons_succ]
      refine wpAnyH_take (i := 4) (v := .bool false) rfl (by kernel_rfl) (by kernel_rfl) (by kernel_rfl) (fun _ _ _ h => h) (Or.inl ⟨by rfl, ?_⟩) (by assumption) ?_
      · (intro W hSw; obtain ⟨s0, s1, s2, s3, s4, s5, s6, s7, -⟩ := hSw; go_simp)
      change wpAnyH _ _ _ _ _ _ _ (Act.put _ (some 78) _) _
      try simp only [Act.put, List.setIfInBounds_toArray, List.set_cons_zero, List.set_cons_succ]
      refine wpAnyH_take (i := 5) (v := .bool true) rfl (by kernel_rfl) (by kernel_rfl) (by kernel_rfl) (fun _ _ _ h => h) (Or.inl ⟨by rfl, ?_⟩) (by assumption) ?_
      · (intro W hSw; obtain ⟨s0, s1, s2, s3, s4, s5, s6, s7, -⟩ := hSw; go_simp)
      change wpAnyH _ _ _ _ _ _ _ (Act.put _ (some 79) _) _
      try simp only [Act.put, List.setIfInBounds_toArray, List.set_cons_zero, List.set_cons_succ]
      refine wpAnyH_take (i := 6) (v := .bool true) rfl (by kernel_rfl) (by kernel_rfl) (by kernel_rfl) (fun _ _ _ h => h) (Or.inl ⟨by rfl, ?_⟩) (by assumption) ?_
      · (intro W hSw; obtain ⟨s0, s1, s2, s3, s4, s5, s6, s7, -⟩ := hSw; go_simp)
      change wpAnyH _ _ _ _ _ _ _ (Act.put _ (some 80) _) _
      try simp only [Act.put, List.setIfInBounds_toArray, List.set_cons_zero, List.set_cons_succ]
      refine wpAnyH_take (i := 7) (v := undef) rfl (by kernel_rfl) (by kernel_rfl) (by kernel_rfl) (fun _ _ _ h => h) (Or.inr ⟨by rfl, rfl⟩) (by assumption) ?_
      change wpAnyH _ _ _ _ _ _ _ (Act.put _ (some 81) _) _
      try simp only [Act.put, List.setIfInBounds_toArray, List.set_cons_zero, List.set_cons_succ]
      refine wpAnyH_take (i := 8) (v := undef) rfl (by kernel_rfl) (by kernel_rfl) (by kernel_rfl) (fun _ _ _ h => h) (Or.inr ⟨by rfl, rfl⟩) (by assumption) ?_
      change wpAnyH _ _ _ _ _ _ _ (Act.put _ (some 82) _) _
      try simp only [Act.put, List.setIfInBounds_toArray, List.set_cons_zero, List.set_cons_succ]
      refine wpAnyH_take (i := 9) (v := undef) rfl (by kernel_rfl) (by kernel_rfl) (by kernel_rfl) (fun _ _ _ h => h) (Or.inr ⟨by rfl, rfl⟩) (by assumption) ?_
      change wpAnyH _ _ _ _ _ _ _ (Act.put _ (some 83) _) _
      try simp only [Act.put, List.setIfInBounds_toArray, List.set_cons_zero, List.set_cons_succ]
      refine wpAnyH_take (i := 10) (v := undef) rfl (by kernel_rfl) (by kernel_rfl) (by kernel_rfl) (fun _ _ _ h => h) (Or.inr ⟨by rfl, rfl⟩) (by assumption) ?_
      change wpAnyH _ _ _ _ _ _ _ (Act.put _ (some 84) _) _
      try simp only [Act.put, List.setIfInBounds_toArray, List.set_cons_zero, List.set_cons_succ]
      refine wpAnyH_take (i := 11) (v := undef) rfl (by kernel_rfl) (by kernel_rfl) (by kernel_rfl) (fun _ _ _ h => h) (Or.inr ⟨by rfl, rfl⟩) (by assumption) ?_
      change wpAnyH _ _ _ _ _ _ _ (Act.put _ (some 85) _) _
      try simp only [Act.put, List.setIfInBounds_toArray, List.set_cons_zero, List.set_cons_succ]
      refine wpAnyH_take (i := 12) (v := .bool true) rfl (by kernel_rfl) (by kernel_rfl) (by kernel_rfl) (fun _ _ _ h => h) (Or.inl ⟨by rfl, ?_⟩) (by assumption) ?_
      · (intro W hSw; obtain ⟨s0, s1, s2, s3, s4, s5, s6, s7, -⟩ := hSw; go_simp)
      change wpAnyH _ _ _ _ _ _ _ (Act.put _ (some 86) _) _
      try simp only [Act.put, List.setIfInBounds_toArray, List.set_cons_zero, List.set_cons_succ]
      refine wpAnyH_take (i := 13) (v := .bool true) rfl (by kernel_rfl) (by kernel_rfl) (by kernel_rfl) (fun _ _ _ h => h) (Or.inl ⟨by rfl, ?_⟩) (by assumption) ?_
      · (intro W hSw; obtain ⟨s0, s1, s2, s3, s4, s5, s6, s7, -⟩ := hSw; go_simp)
      change wpAnyH _ _ _ _ _ _ _ (Act.put _ (some 87) _) _
      try simp only [Act.put, List.setIfInBounds_toArray, List.set_cons_zero, List.set_cons_succ]
      refine wpAnyH_take (i := 14) (v := .bool true) rfl (by kernel_rfl) (by kernel_rfl) (by kernel_rfl) (fun _ _ _ h => h) (Or.inl ⟨by rfl, ?_⟩) (by assumption) ?_
      · (intro W hSw; obtain ⟨s0, s1, s2, s3, s4, s5, s6, s7, -⟩ := hSw; go_simp)
      change wpAnyH _ _ _ _ _ _ _ (Act.put _ (some 88) _) _
      try simp only [Act.put, List.setIfInBounds_toArray, List.set_cons_zero, List.set_cons_succ]
      refine wpAnyH_take (i := 15) (v := .agg #[.int .i64 a.x, .int .i64 a.y, .int .i64 a.w, .int .i64 a.h]) rfl (by kernel_rfl) (by kernel_rfl) (by kernel_rfl) (fun _ _ _ h => h) (Or.inl ⟨by rfl, ?_⟩) (by assumption) ?_
      · (intro W hSw; obtain ⟨s0, s1, s2, s3, s4, s5, s6, s7, -⟩ := hSw; go_simp)
      change wpAnyH _ _ _ _ _ _ _ (Act.put _ (some 89) _) _
      try simp only [Act.put, List.setIfInBounds_toArray, List.set_cons_zero, List.set_cons_succ]
      refine wpAnyH_take (i := 16) (v := .agg #[.int .i64 b.x, .int .i64 b.y, .int .i64 b.w, .int .i64 b.h]) rfl (by kernel_rfl) (by kernel_rfl) (by kernel_rfl) (fun _ _ _ h => h) (Or.inl ⟨by rfl, ?_⟩) (by assumption) ?_
      · (intro W hSw; obtain ⟨s0, s1, s2, s3, s4, s5, s6, s7, -⟩ := hSw; go_simp)
      change wpAnyH _ _ _ _ _ _ _ (Act.put _ (some 90) _) _
      try simp only [Act.put, List.setIfInBounds_toArray, List.set_cons_zero, List.set_cons_succ]
      refine wpAnyH_take (i := 19) (v := .agg #[.int .i64 b.x, .int .i64 b.y, .int .i64 b.w, .int .i64 b.h]) rfl (by kernel_rfl) (by kernel_rfl) (by kernel_rfl) (fun _ _ _ h => h) (Or.inl ⟨by rfl, ?_⟩) (by assumption) ?_
      · (intro W hSw; obtain ⟨s0, s1, s2, s3, s4, s5, s6, s7, -⟩ := hSw; go_simp)
      change wpAnyH _ _ _ _ _ _ _ (Act.put _ (some 93) _) _
      try simp only [Act.put, List.setIfInBounds_toArray, List.set_cons_zero, List.set_cons_succ]
      refine wpAnyH_take (i := 20) (v := .agg #[.int .i64 a.x, .int .i64 a.y, .int .i64 a.w, .int .i64 a.h]) rfl (by kernel_rfl) (by kernel_rfl) (by kernel_rfl) (fun _ _ _ h => h) (Or.inl ⟨by rfl, ?_⟩) (by assumption) ?_
      · (intro W hSw; obtain ⟨s0, s1, s2, s3, s4, s5, s6, s7, -⟩ := hSw; go_simp)
      change wpAnyH _ _ _ _ _ _ _ (Act.put _ (some 94) _) _
      try simp only [Act.put, List.setIfInBounds_toArray, List.set_cons_zero, List.set_cons_succ]
      refine wpAnyH_ready (rs := [17, 21]) (by kernel_rfl) (by simp) ?_
      refine AllReadyH.cons rfl (fun K hK => ?_) ?_
      · go_simp
        refine hK.out _ _ (c8_alloc hHeld) (fun hHeld => ?_)
        clear hK K
        try simp only [Act.put, List.setIfInBounds_toArray, List.set_cons_zero, List.set_cons_succ]
        refine wpAnyH_ready (rs := [18, 21]) (by kernel_rfl) (by simp) ?_
        refine AllReadyH.cons rfl (fun K hK => ?_) ?_
        · go_simp
          refine (apart_pair a b HFa.out HFb.out ap HAp.out _ _ (rrow_top0 wd a b)).mono ?_
          rintro e w5 ⟨rfl, hb5⟩
          have S_w5 := Lib.hid (c8_up (w := w) (n := w.heap.size) (m := w.heap.size + 1) (a := a) (b := b) hHeld hb5)
          clear hb5 hHeld
          go_wp2_with fail
          refine hK.out _ _ S_w5.out (fun hHeld => ?_)
          clear hK K
          try simp only [Act.put, List.setIfInBounds_toArray, List.set_cons_zero, List.set_cons_succ]
          refine wpAnyH_ready (rs := [21]) (by kernel_rfl) (by simp) ?_
          refine AllReadyH.cons rfl (fun K hK => ?_) ?_
          · go_simp
            refine hK.out _ _ (c8_alloc hHeld) (fun hHeld => ?_)
            clear hK K
            try simp only [Act.put, List.setIfInBounds_toArray, List.set_cons_zero, List.set_cons_succ]
            refine wpAnyH_ready (rs := [22]) (by kernel_rfl) (by simp) ?_
            refine AllReadyH.cons rfl (fun K hK => ?_) ?_
            · go_simp
              refine (apart_pair b a HFb.out HFa.out ap HSy.out _ _ (rrow_top0 w5 b a)).mono ?_
              rintro e w6 ⟨rfl, hb5⟩
              have S_w6 := Lib.hid (c8_up (w := w) (n := w.heap.size) (m := w.heap.size + 1) (a := a) (b := b) hHeld hb5)
              clear hb5 hHeld
              go_wp2_with fail
              refine hK.out _ _ S_w6.out (fun hHeld => ?_)
              clear hK K
              try simp only [Act.put, List.setIfInBounds_toArray, List.set_cons_zero, List.set_cons_succ]
              refine wpAnyH_take (i := 23) (v := .bool true) rfl (by kernel_rfl) (by kernel_rfl) (by kernel_rfl) (fun _ _ _ h => h) (Or.inl ⟨by rfl, ?_⟩) (by assumption) ?_
              · (intro W hSw; obtain ⟨s0, s1, s2, s3, s4, s5, s6, s7, -⟩ := hSw; go_simp)
              change wpAnyH _ _ _ _ _ _ _ (Act.put _ (some 97) _) _
              try simp only [Act.put, List.setIfInBounds_toArray, List.set_cons_zero, List.set_cons_succ]
              refine wpAnyH_take (i := 24) (v := .bool true) rfl (by kernel_rfl) (by kernel_rfl) (by kernel_rfl) (fun _ _ _ h => h) (Or.inl ⟨by rfl, ?_⟩) (by assumption) ?_
              · (intro W hSw; obtain ⟨s0, s1, s2, s3, s4, s5, s6, s7, -⟩ := hSw; go_simp)
              change wpAnyH _ _ _ _ _ _ _ (Act.put _ (some 98) _) _
              try simp only [Act.put, List.setIfInBounds_toArray, List.set_cons_zero, List.set_cons_succ]
              refine wpAnyH_take (i := 25) (v := .bool true) rfl (by kernel_rfl) (by kernel_rfl) (by kernel_rfl) (fun _ _ _ h => h) (Or.inl ⟨by rfl, ?_⟩) (by assumption) ?_
              · (intro W hSw; obtain ⟨s0, s1, s2, s3, s4, s5, s6, s7, -⟩ := hSw; go_simp)
              change wpAnyH _ _ _ _ _ _ _ (Act.put _ (some 99) _) _
              try simp only [Act.put, List.setIfInBounds_toArray, List.set_cons_zero, List.set_cons_succ]
              refine wpAnyH_ready (rs := [26]) (by kernel_rfl) (by simp) ?_
              refine AllReadyH.cons rfl (fun K hK => ?_) AllReadyH.nil
              go_simp
              refine (awake_any _).mono ?_
              rintro e w7 ⟨rfl, hb7⟩
              have S7 := Lib.hid (c8_up (w := w) (n := w.heap.size) (m := w.heap.size + 1) (a := a) (b := b) hHeld hb7)
              clear hb7 hHeld
              go_wp2_with fail
              refine hK.out _ _ S7.out (fun hHeld => ?_)
              clear hK K
              try simp only [Act.put, List.setIfInBounds_toArray, List.set_cons_zero, List.set_cons_succ]
              refine wpAnyH_take (i := 27) (v := .bool true) rfl (by kernel_rfl) (by kernel_rfl) (by kernel_rfl) (fun _ _ _ h => h) (Or.inl ⟨by rfl, ?_⟩) (by assumption) ?_
              · (intro W hSw; obtain ⟨s0, s1, s2, s3, s4, s5, s6, s7, -⟩ := hSw; go_simp)
              change wpAnyH _ _ _ _ _ _ _ (Act.put _ (some 101) _) _
              try simp only [Act.put, List.setIfInBounds_toArray, List.set_cons_zero, List.set_cons_succ]
              refine wpAnyH_take (i := 28) (v := .bool true) rfl (by kernel_rfl) (by kernel_rfl) (by kernel_rfl) (fun _ _ _ h => h) (Or.inl ⟨by rfl, ?_⟩) (by assumption) ?_
              · (intro W hSw; obtain ⟨s0, s1, s2, s3, s4, s5, s6, s7, -⟩ := hSw; go_simp)
              change wpAnyH _ _ _ _ _ _ _ (Act.put _ (some 4) _) _
              try simp only [Act.put, List.setIfInBounds_toArray, List.set_cons_zero, List.set_cons_succ]
              refine wpAnyH_done (by kernel_rfl) ?_ _
              refine NoPanic.normal ?_
              go_wp2
              go_ret
              exact ⟨rfl, S7.out.2.2.2.2.2.2.2.2⟩
            exact AllReadyH.nil
          exact AllReadyH.nil
        refine AllReadyH.cons rfl (fun K hK => ?_) ?_
        · go_simp
          refine hK.out _ _ (c8_alloc hHeld) (fun hHeld => ?_)
          clear hK K
          try simp only [Act.put, List.setIfInBounds_toArray, List.set_cons_zero, List.set_cons_succ]
          refine wpAnyH_ready (rs := [18]) (by kernel_rfl) (by simp) ?_
          refine AllReadyH.cons rfl (fun K hK => ?_) ?_
          · go_simp
            refine (apart_pair a b HFa.out HFb.out ap HAp.out _ _ (rrow_under wd _ a b)).mono ?_
            rintro e w5 ⟨rfl, hb5⟩
            have S_w5 := Lib.hid (c8_up (w := w) (n := w.heap.size) (m := w.heap.size + 1) (a := a) (b := b) hHeld hb5)
            have R5 := Lib.hid ((rrow_top1 wd (pair a b) b a).up hb5)
            clear hb5 hHeld
            go_wp2_with fail
            refine hK.out _ _ S_w5.out (fun hHeld => ?_)
            clear hK K
            try simp only [Act.put, List.setIfInBounds_toArray, List.set_cons_zero, List.set_cons_succ]
            refine wpAnyH_ready (rs := [22]) (by kernel_rfl) (by simp) ?_
            refine AllReadyH.cons rfl (fun K hK => ?_) ?_
            · go_simp
              refine (apart_pair b a HFb.out HFa.out ap HSy.out _ _ (R5.out)).mono ?_
              rintro e w6 ⟨rfl, hb5⟩
              have S_w6 := Lib.hid (c8_up (w := w) (n := w.heap.size) (m := w.heap.size + 1) (a := a) (b := b) hHeld hb5)
              clear hb5 hHeld
              go_wp2_with fail
              refine hK.out _ _ S_w6.out (fun hHeld => ?_)
              clear hK K
              try simp only [Act.put, List.setIfInBounds_toArray, List.set_cons_zero, List.set_cons_succ]
              refine wpAnyH_take (i := 23) (v := .bool true) rfl (by kernel_rfl) (by kernel_rfl) (by kernel_rfl) (fun _ _ _ h => h) (Or.inl ⟨by rfl, ?_⟩) (by assumption) ?_
              · (intro W hSw; obtain ⟨s0, s1, s2, s3, s4, s5, s6, s7, -⟩ := hSw; go_simp)
              change wpAnyH _ _ _ _ _ _ _ (Act.put _ (some 97) _) _
              try simp only [Act.put, List.setIfInBounds_toArray, List.set_cons_zero, List.set_cons_succ]
              refine wpAnyH_take (i := 24) (v := .bool true) rfl (by kernel_rfl) (by kernel_rfl) (by kernel_rfl) (fun _ _ _ h => h) (Or.inl ⟨by rfl, ?_⟩) (by assumption) ?_
              · (intro W hSw; obtain ⟨s0, s1, s2, s3, s4, s5, s6, s7, -⟩ := hSw; go_simp)
              change wpAnyH _ _ _ _ _ _ _ (Act.put _ (some 98) _) _
              try simp only [Act.put, List.setIfInBounds_toArray, List.set_cons_zero, List.set_cons_succ]
              refine wpAnyH_take (i := 25) (v := .bool true) rfl (by kernel_rfl) (by kernel_rfl) (by kernel_rfl) (fun _ _ _ h => h) (Or.inl ⟨by rfl, ?_⟩) (by assumption) ?_
              · (intro W hSw; obtain ⟨s0, s1, s2, s3, s4, s5, s6, s7, -⟩ := hSw; go_simp)
              change wpAnyH _ _ _ _ _ _ _ (Act.put _ (some 99) _) _
              try simp only [Act.put, List.setIfInBounds_toArray, List.set_cons_zero, List.set_cons_succ]
              refine wpAnyH_ready (rs := [26]) (by kernel_rfl) (by simp) ?_
              refine AllReadyH.cons rfl (fun K hK => ?_) AllReadyH.nil
              go_simp
              refine (awake_any _).mono ?_
              rintro e w7 ⟨rfl, hb7⟩
              have S7 := Lib.hid (c8_up (w := w) (n := w.heap.size) (m := w.heap.size + 1) (a := a) (b := b) hHeld hb7)
              clear hb7 hHeld
              go_wp2_with fail
              refine hK.out _ _ S7.out (fun hHeld => ?_)
              clear hK K
              try simp only [Act.put, List.setIfInBounds_toArray, List.set_cons_zero, List.set_cons_succ]
              refine wpAnyH_take (i := 27) (v := .bool true) rfl (by kernel_rfl) (by kernel_rfl) (by kernel_rfl) (fun _ _ _ h => h) (Or.inl ⟨by rfl, ?_⟩) (by assumption) ?_
              · (intro W hSw; obtain ⟨s0, s1, s2, s3, s4, s5, s6, s7, -⟩ := hSw; go_simp)
              change wpAnyH _ _ _ _ _ _ _ (Act.put _ (some 101) _) _
              try simp only [Act.put, List.setIfInBounds_toArray, List.set_cons_zero, List.set_cons_succ]
              refine wpAnyH_take (i := 28) (v := .bool true) rfl (by kernel_rfl) (by kernel_rfl) (by kernel_rfl) (fun _ _ _ h => h) (Or.inl ⟨by rfl, ?_⟩) (by assumption) ?_
              · (intro W hSw; obtain ⟨s0, s1, s2, s3, s4, s5, s6, s7, -⟩ := hSw; go_simp)
              change wpAnyH _ _ _ _ _ _ _ (Act.put _ (some 4) _) _
              try simp only [Act.put, List.setIfInBounds_toArray, List.set_cons_zero, List.set_cons_succ]
              refine wpAnyH_done (by kernel_rfl) ?_ _
              refine NoPanic.normal ?_
              go_wp2
              go_ret
              exact ⟨rfl, S7.out.2.2.2.2.2.2.2.2⟩
            exact AllReadyH.nil
          exact AllReadyH.nil
        exact AllReadyH.nil
      refine AllReadyH.cons rfl (fun K hK => ?_) ?_
      · go_simp
        refine hK.out _ _ (c8_alloc hHeld) (fun hHeld => ?_)
        clear hK K
        try simp only [Act.put, List.setIfInBounds_toArray, List.set_cons_zero, List.set_cons_succ]
        refine wpAnyH_ready (rs := [17]) (by kernel_rfl) (by simp) ?_
        refine AllReadyH.cons rfl (fun K hK => ?_) ?_
        · go_simp
          refine hK.out _ _ (c8_alloc hHeld) (fun hHeld => ?_)
          clear hK K
          try simp only [Act.put, List.setIfInBounds_toArray, List.set_cons_zero, List.set_cons_succ]
          refine wpAnyH_ready (rs := [18]) (by kernel_rfl) (by simp) ?_
          refine AllReadyH.cons rfl (fun K hK => ?_) ?_
          · go_simp
            refine (apart_pair a b HFa.out HFb.out ap HAp.out _ _ (rrow_top1 wd _ a b)).mono ?_
            rintro e w5 ⟨rfl, hb5⟩
            have S_w5 := Lib.hid (c8_up (w := w) (n := w.heap.size) (m := w.heap.size + 1) (a := a) (b := b) hHeld hb5)
            have R5 := Lib.hid ((rrow_under wd (pair a b) b a).up hb5)
            clear hb5 hHeld
            go_wp2_with fail
            refine hK.out _ _ S_w5.out (fun hHeld => ?_)
            clear hK K
            try simp only [Act.put, List.setIfInBounds_toArray, List.set_cons_zero, List.set_cons_succ]
            refine wpAnyH_ready (rs := [22]) (by kernel_rfl) (by simp) ?_
            refine AllReadyH.cons rfl (fun K hK => ?_) ?_
            · go_simp
              refine (apart_pair b a HFb.out HFa.out ap HSy.out _ _ (R5.out)).mono ?_
              rintro e w6 ⟨rfl, hb5⟩
              have S_w6 := Lib.hid (c8_up (w := w) (n := w.heap.size) (m := w.heap.size + 1) (a := a) (b := b) hHeld hb5)
              clear hb5 hHeld
              go_wp2_with fail
              refine hK.out _ _ S_w6.out (fun hHeld => ?_)
              clear hK K
              try simp only [Act.put, List.setIfInBounds_toArray, List.set_cons_zero, List.set_cons_succ]
              refine wpAnyH_take (i := 23) (v := .bool true) rfl (by kernel_rfl) (by kernel_rfl) (by kernel_rfl) (fun _ _ _ h => h) (Or.inl ⟨by rfl, ?_⟩) (by assumption) ?_
              · (intro W hSw; obtain ⟨s0, s1, s2, s3, s4, s5, s6, s7, -⟩ := hSw; go_simp)
              change wpAnyH _ _ _ _ _ _ _ (Act.put _ (some 97) _) _
              try simp only [Act.put, List.setIfInBounds_toArray, List.set_cons_zero, List.set_cons_succ]
              refine wpAnyH_take (i := 24) (v := .bool true) rfl (by kernel_rfl) (by kernel_rfl) (by kernel_rfl) (fun _ _ _ h => h) (Or.inl ⟨by rfl, ?_⟩) (by assumption) ?_
              · (intro W hSw; obtain ⟨s0, s1, s2, s3, s4, s5, s6, s7, -⟩ := hSw; go_simp)
              change wpAnyH _ _ _ _ _ _ _ (Act.put _ (some 98) _) _
              try simp only [Act.put, List.setIfInBounds_toArray, List.set_cons_zero, List.set_cons_succ]
              refine wpAnyH_take (i := 25) (v := .bool true) rfl (by kernel_rfl) (by kernel_rfl) (by kernel_rfl) (fun _ _ _ h => h) (Or.inl ⟨by rfl, ?_⟩) (by assumption) ?_
              · (intro W hSw; obtain ⟨s0, s1, s2, s3, s4, s5, s6, s7, -⟩ := hSw; go_simp)
              change wpAnyH _ _ _ _ _ _ _ (Act.put _ (some 99) _) _
              try simp only [Act.put, List.setIfInBounds_toArray, List.set_cons_zero, List.set_cons_succ]
              refine wpAnyH_ready (rs := [26]) (by kernel_rfl) (by simp) ?_
              refine AllReadyH.cons rfl (fun K hK => ?_) AllReadyH.nil
              go_simp
              refine (awake_any _).mono ?_
              rintro e w7 ⟨rfl, hb7⟩
              have S7 := Lib.hid (c8_up (w := w) (n := w.heap.size) (m := w.heap.size + 1) (a := a) (b := b) hHeld hb7)
              clear hb7 hHeld
              go_wp2_with fail
              refine hK.out _ _ S7.out (fun hHeld => ?_)
              clear hK K
              try simp only [Act.put, List.setIfInBounds_toArray, List.set_cons_zero, List.set_cons_succ]
              refine wpAnyH_take (i := 27) (v := .bool true) rfl (by kernel_rfl) (by kernel_rfl) (by kernel_rfl) (fun _ _ _ h => h) (Or.inl ⟨by rfl, ?_⟩) (by assumption) ?_
              · (intro W hSw; obtain ⟨s0, s1, s2, s3, s4, s5, s6, s7, -⟩ := hSw; go_simp)
              change wpAnyH _ _ _ _ _ _ _ (Act.put _ (some 101) _) _
              try simp only [Act.put, List.setIfInBounds_toArray, List.set_cons_zero, List.set_cons_succ]
              refine wpAnyH_take (i := 28) (v := .bool true) rfl (by kernel_rfl) (by kernel_rfl) (by kernel_rfl) (fun _ _ _ h => h) (Or.inl ⟨by rfl, ?_⟩) (by assumption) ?_
              · (intro W hSw; obtain ⟨s0, s1, s2, s3, s4, s5, s6, s7, -⟩ := hSw; go_simp)
              change wpAnyH _ _ _ _ _ _ _ (Act.put _ (some 4) _) _
              try simp only [Act.put, List.setIfInBounds_toArray, List.set_cons_zero, List.set_cons_succ]
              refine wpAnyH_done (by kernel_rfl) ?_ _
              refine NoPanic.normal ?_
              go_wp2
              go_ret
              exact ⟨rfl, S7.out.2.2.2.2.2.2.2.2⟩
            exact AllReadyH.nil
          exact AllReadyH.nil
        exact AllReadyH.nil
      exact AllReadyH.nil
theorem rectMeets_wf (v v1 : Value) (a b : R) (w : World) (hv : v = val a) (ha : a.fits) (hv1 : v1 = val b) (hb : b.fits) :
    Calls Try.prog 6 #[v, v1] w fun e w' => e = .returned (.bool true) ∧ Below w.heap.size w w' := by
  subst hv; subst hv1
  exact rectMeets_any a b w ha hb
end Go.Proofs.Ytdhibidjghpngaa
