/- The law RectInside. -/
import Derived.Test.YtdhibidjghpngaaAwake
import Derived.Test.YtdhibidjghpngaaIns
import Derived.Test.YtdhibidjghpngaaRHas
import Derived.Test.YtdhibidjghpngaaSwMath
import Derived.StillTailTactics
import Derived.Deep.RegionHeld3
namespace Go.Proofs.Ytdhibidjghpngaa
open Go.RowKit

/-- What is held inside so far. -/
def wantB (q : R) (l : List R) (k : Nat) : Bool := insideB q (l.take k)
theorem want_zero (q : R) (l : List R) : wantB q l 0 = mayB q := by simp [wantB, insideB]
theorem want_succ {q : R} {l : List R} {k : Nat} {r : R} (h : l[k]? = some r) : wantB q l (k + 1) = (wantB q l k && insB q r) := by
  unfold wantB insideB; rw [take_succ h, List.all_append]; simp [Bool.and_assoc]
theorem want_all (q : R) (l : List R) : wantB q l l.length = insideB q l := by unfold wantB; rw [List.take_length]

theorem c4_of {w : World} {q : Nat} {r : R} (h : RAt w q 0 r) :
    w.cell? ⟨q, 0, none⟩ = some (.int .i64 r.x) ∧ w.cell? ⟨q, 1, none⟩ = some (.int .i64 r.y) ∧ w.cell? ⟨q, 2, none⟩ = some (.int .i64 r.w) ∧ w.cell? ⟨q, 3, none⟩ = some (.int .i64 r.h) := by
  obtain ⟨h0, h1, h2, h3⟩ := h
  simp only [Nat.zero_add] at h1 h2 h3
  exact ⟨h0, h1, h2, h3⟩

set_option maxRecDepth 100000 in
set_option maxHeartbeats 6400000 in
theorem rectInside_any (q : R) (v : Value) (l : List R) (x y : Int) (w : World) (hq : q.fits) (hr : RRow w v l) (hf : fitsAll l) :
    Calls Try.prog 4 #[val q, v, .int .i64 x, .int .i64 y] w fun e w' => e = .returned (.bool true) ∧ Below w.heap.size w w' := by
  obtain ⟨a, cap, rfl⟩ := hr.shape
  have HR := Lib.hid hr
  have HF := Lib.hid hf
  have HQ := Lib.hid hq
  clear hr hf hq
  have B1 : Hid (Below w.heap.size w (w.alloc (box q))) := (Below.refl _ _).alloc (Nat.le_refl _) _
  have HA : Hid (RAt (w.alloc (box q)) w.heap.size 0 q) := rat_new w q
  by_cases h40 : 40 < l.length
  · have d0 : decide ((40 : Int) < (l.length : Int)) = true := by simp; omega
    go_enter Try.func4, Try.ntmps4
    go_wp2_with fail
    refine (awake_any _).mono ?_
    rintro e w2 ⟨rfl, hb2⟩
    have B2 := Lib.hid (B1.out.trans (hb2.mono B1.out.size))
    clear hb2
    go_wp2
    go_ret
    exact ⟨rfl, B2.out⟩
  · have d0 : decide ((40 : Int) < (l.length : Int)) = false := by simp; omega
    have HL : Hid (l.length ≤ 100000) := (by omega : l.length ≤ 100000)
    go_enter Try.func4, Try.ntmps4
    go_wp2_with fail
    refine (rmay_any q _ HQ.out).mono ?_
    rintro e w2 ⟨rfl, hb2⟩
    have B2 := Lib.hid (B1.out.trans (hb2.mono B1.out.size))
    have HA2 := Lib.hid (HA.out.up hb2)
    clear hb2
    rw [← want_zero q l]
    go_wp2
    go_loopg [9, 10] (l.length + 1) (fun g s i wr => ∃ k : Nat, g + k = l.length + 1 ∧ k ≤ l.length ∧ i = .int .i64 k ∧ s = .bool (wantB q l k) ∧ Below w2.heap.size w2 wr)
    case atStart => exact ⟨0, by omega, by omega, rfl, rfl, Below.refl _ _⟩
    case round =>
      obtain ⟨k, hg, hk, rfl, rfl, hb⟩ := hrel
      have HB : Hid (Below w2.heap.size w2 wr ∧ gk + k = l.length + 1) := ⟨hb, hg⟩
      clear hb hg
      have HBw : Hid (Below w.heap.size w wr) := B2.out.trans (HB.out.1.mono B2.out.size)
      have HA3 := Lib.hid (HA2.out.up HB.out.1)
      by_cases hlt : k < l.length
      · obtain ⟨r, hfr⟩ : ∃ r, l[k]? = some r := ⟨_, List.getElem?_eq_getElem hlt⟩
        obtain ⟨b, o, rfl, hat⟩ := HR.out.place (by omega)
        obtain ⟨e0, e1, e2, e3⟩ := (hat k r hfr).up HBw.out
        obtain ⟨c0, c1, c2, c3⟩ := c4_of HA3.out
        have HS := Lib.hid (want_succ (q := q) hfr)
        have HK := Lib.hid hfr
        clear hat hfr
        have d1 : (k : Int) < (l.length : Int) := by omega
        generalize hwk : wantB q l k = wk at HS
        have HWk := Lib.hid hwk
        clear hwk
        cases wk with
        | false =>
          go_wp2
          go_quiet (fail)
          go_wp2
          go_roundg (gk - 1)
          case measure => have := HB.out.2; omega
          case rel =>
            refine ⟨k + 1, ?_, by omega, by go_num, ?_, ⟨HB.out.1.os, HB.out.1.tape, HB.out.1.output, HB.out.1.size, HB.out.1.block⟩⟩
            · have := HB.out.2; omega
            · rw [HS.out]; rfl
        | true =>
          have BD := Lib.hid HB.out.1.drew
          go_wp2
          go_still_tail 7, (by kernel_rfl)
          change wpList _ _ _ _ _ wr.drew
          generalize wr.drew = w4 at BD ⊢
          clear c0 c1 c2 c3 e0 e1 e2 e3
          go_wp2_with fail
          refine (rins_any q r w4 HQ.out (HF.out r (List.mem_of_getElem? HK.out))).mono ?_
          rintro e w5 ⟨rfl, hb5⟩
          have B5 := Lib.hid (BD.out.trans (hb5.mono BD.out.size))
          clear hb5
          go_wp2
          go_roundg (gk - 1)
          case measure => have := HB.out.2; omega
          case rel =>
            refine ⟨k + 1, ?_, by omega, by go_num, ?_, B5.out⟩
            · have := HB.out.2; omega
            · rw [HS.out, Bool.true_and]
      · obtain rfl : k = l.length := by omega
        have hkl : ((l.length : Int) < (l.length : Int)) = False := by simp
        rw [want_all]
        have HI := Lib.hid (inside_any q _ l wr.drew HQ.out (HR.out.up HBw.out.drew) HF.out HL.out)
        have HH := fun W => Lib.hid (has_any q x y W HQ.out)
        have HH' := fun W => Lib.hid (rhas_any q x y W HQ.out)
        generalize insideB q l = bi at HI ⊢
        generalize hasB q x y = bh at HH HH'
        have S0 := Lib.hid (c4_of (show RAt wr.drew w.heap.size 0 q from HA3.out))
        have hbi : (bi == bi) = true := by simp
        have hbh : (bh == bh) = true := by simp
        have HD : Hid (Below w.heap.size w wr.drew) := HBw.out.drew
        have HAd : Hid (RAt wr.drew w.heap.size 0 q) := HA3.out
        have HX1 := Lib.hid HI.out
        go_wp2
        go_region_held3 (fun W => W.cell? ⟨w.heap.size, 0, none⟩ = some (.int .i64 q.x) ∧ W.cell? ⟨w.heap.size, 1, none⟩ = some (.int .i64 q.y) ∧ W.cell? ⟨w.heap.size, 2, none⟩ = some (.int .i64 q.w) ∧ W.cell? ⟨w.heap.size, 3, none⟩ = some (.int .i64 q.h)) (first | exact S0.out | exact S4.out | exact S5.out | exact S6.out | exact S7.out)
          (first
            | (go_at_call 16; refine HI.out.mono ?_; rintro e w4 ⟨rfl, hb4⟩; have B4 := Lib.hid (HD.out.trans (hb4.mono HD.out.size)); have A4 := Lib.hid (HAd.out.up hb4); have S4 := Lib.hid (c4_of A4.out); clear hb4)
            | (go_at_call 17; refine (HH _).out.mono ?_; rintro e w5 ⟨rfl, hb5⟩; have B5 := Lib.hid (B4.out.trans (hb5.mono B4.out.size)); have A5 := Lib.hid (A4.out.up hb5); have S5 := Lib.hid (c4_of A5.out); clear hb5)
            | (go_at_call 18; refine (HH' _).out.mono ?_; rintro e w6 ⟨rfl, hb6⟩; have B6 := Lib.hid (B5.out.trans (hb6.mono B5.out.size)); have A6 := Lib.hid (A5.out.up hb6); have S6 := Lib.hid (c4_of A6.out); clear hb6)
            | (go_at_call 7; refine (awake_any _).mono ?_; rintro e w7 ⟨rfl, hb7⟩; have B7 := Lib.hid (B6.out.trans (hb7.mono B6.out.size)); have A7 := Lib.hid (A6.out.up hb7); have S7 := Lib.hid (c4_of A7.out); clear hb7))
        go_wp2
        go_ret
        exact ⟨rfl, B7.out⟩
theorem rectInside_wf (v v1 : Value) (q : R) (l : List R) (x y : Int) (w : World) (hv : v = val q) (hq : q.fits) (hr : RRow w v1 l ∧ fitsAll l) :
    Calls Try.prog 4 #[v, v1, .int .i64 x, .int .i64 y] w fun e w' => e = .returned (.bool true) ∧ Below w.heap.size w w' := by
  subst hv
  exact rectInside_any q v1 l x y w hq hr.1 hr.2
end Go.Proofs.Ytdhibidjghpngaa
