/- Inside: are all of these in another one? -/
import Derived.Test.YtdhibidjghpngaaRIns
namespace Go.Proofs.Ytdhibidjghpngaa
open Go.RowKit

theorem corners_ins (q r : R) (hr : mayB r = true) : (hasB q r.x r.y && hasB q (r.x + r.w - 1) (r.y + r.h - 1)) = insB q r := by
  have hb := (mayB_iff r).1 hr
  rw [Bool.eq_iff_iff]
  simp only [hasB, insB, Bool.and_eq_true, decide_eq_true_eq, hr]
  constructor
  · rintro ⟨⟨⟨⟨⟨a, b⟩, c⟩, d⟩, e⟩, ⟨⟨⟨_, f⟩, g⟩, h⟩, i⟩
    exact ⟨⟨⟨⟨⟨a, trivial⟩, b⟩, d⟩, by omega⟩, by omega⟩
  · rintro ⟨⟨⟨⟨⟨a, -⟩, b⟩, d⟩, f⟩, g⟩
    exact ⟨⟨⟨⟨⟨a, b⟩, by omega⟩, d⟩, by omega⟩, ⟨⟨⟨a, by omega⟩, by omega⟩, by omega⟩, by omega⟩

set_option maxRecDepth 100000 in
theorem ins1_any (q r : R) (bx : Nat) (w : World) (hq : q.fits) (hr : mayB r = true) (hc : RAt w bx 0 q) :
    Calls Try.prog 31 #[val r, .pointer (some ⟨bx, 0, none⟩)] w fun e w' => e = .returned (.bool (insB q r)) ∧ Below w.heap.size w w' := by
  have hb := (mayB_iff r).1 hr
  have B1 : Hid (Below w.heap.size w (w.alloc (box r))) := (Below.refl _ _).alloc (Nat.le_refl _) _
  have HC := Lib.hid (hc.up B1.out)
  have hlt : bx < w.heap.size := lt_of_cell hc.1
  have hne : bx ≠ w.heap.size := by omega
  have HA : Hid (RAt (w.alloc (box r)) w.heap.size 0 r) := rat_new w r
  have HV := Lib.hid (corners_ins q r hr)
  have sx : IntKind.i64.wrap (r.x + r.w) = r.x + r.w := wrap_id (by omega)
  have sy : IntKind.i64.wrap (r.y + r.h) = r.y + r.h := wrap_id (by omega)
  have sx1 : IntKind.i64.wrap (r.x + r.w - 1) = r.x + r.w - 1 := wrap_id (by omega)
  have sy1 : IntKind.i64.wrap (r.y + r.h - 1) = r.y + r.h - 1 := wrap_id (by omega)
  clear hb
  obtain ⟨k0, k1, k2, k3⟩ := hc
  have HQ := Lib.hid hq
  clear hq
  rcases bool_cases (hasB q r.x r.y) with h1 | h1
  · rw [h1] at HV
    rw [Bool.true_and] at HV
    go_enter Try.func31, Try.ntmps31
    go_wp2_with fail
    refine (has_any q r.x r.y _ HQ.out).mono ?_
    rw [h1]
    rintro e w2 ⟨rfl, hb2⟩
    have B2 := Lib.hid (B1.out.trans (hb2.mono B1.out.size))
    clear k0 k1 k2 k3
    obtain ⟨k0, k1, k2, k3⟩ := HC.out.up hb2
    obtain ⟨c0, c1, c2, c3⟩ := HA.out.up hb2
    clear hb2
    go_wp2_with fail
    refine (has_any q (r.x + r.w - 1) (r.y + r.h - 1) _ HQ.out).mono ?_
    rw [HV.out]
    rintro e w3 ⟨rfl, hb3⟩
    have B3 := Lib.hid (B2.out.trans (hb3.mono B2.out.size))
    clear hb3
    go_wp2
    go_ret
    exact ⟨rfl, B3.out⟩
  · rw [h1, Bool.false_and] at HV
    go_enter Try.func31, Try.ntmps31
    go_wp2_with fail
    refine (has_any q r.x r.y _ HQ.out).mono ?_
    rw [h1]
    rintro e w2 ⟨rfl, hb2⟩
    have B2 := Lib.hid (B1.out.trans (hb2.mono B1.out.size))
    clear hb2
    go_wp2
    go_ret
    exact ⟨by rw [← HV.out]; rfl, B2.out⟩

def insideB (q : R) (l : List R) : Bool := mayB q && l.all (insB q)
theorem enters31 : Enters 31 := enters_of Try.func31 (by kernel_rfl) rfl

theorem mays_of_ins {q : R} {l : List R} (h : mays l = false) : l.all (insB q) = false := by
  cases e : l.all (insB q) with
  | false => rfl
  | true =>
    have : mays l = true := by
      rw [mays, List.all_eq_true]
      intro r hr
      have := List.all_eq_true.1 e r hr
      simp only [insB, Bool.and_eq_true] at this
      exact this.1.1.1.1.2
    rw [this] at h; cases h

set_option maxRecDepth 100000 in
theorem inside_any (q : R) (v : Value) (l : List R) (w : World) (hq : q.fits) (hr : RRow w v l) (hf : fitsAll l) (hlen : l.length ≤ 100000) :
    Calls Try.prog 16 #[val q, v] w fun e w' => e = .returned (.bool (insideB q l)) ∧ Below w.heap.size w w' := by
  have B1 : Hid (Below w.heap.size w (w.alloc (box q))) := (Below.refl _ _).alloc (Nat.le_refl _) _
  have H := Lib.hid (may_one q (w.alloc (box q)) hq (w.heap.size + 1) (by simp))
  have HA : Hid (RAt (w.alloc (box q)) w.heap.size 0 q) := rat_new w q
  have HR := Lib.hid hr
  have HF := Lib.hid hf
  have HQ := Lib.hid hq
  obtain ⟨a, cap, rfl⟩ := hr.shape
  clear hr hf hq
  rcases bool_cases (mayB q) with hm | hm
  case inr =>
    have hv : Hid (insideB q l = false) := (by rw [insideB, hm]; rfl : insideB q l = false)
    rw [hm] at H
    go_enter Try.func16, Try.ntmps16
    go_wp2_with fail
    refine H.out.mono ?_
    rintro e w2 ⟨rfl, hb2⟩
    have B2 := Lib.hid (B1.out.trans (hb2.mono B1.out.size))
    clear hb2
    go_wp2
    go_ret
    exact ⟨by rw [hv.out]; rfl, B2.out⟩
  rw [hm] at H
  rcases bool_cases (mays l) with hn | hn
  case inr =>
    have hv : Hid (insideB q l = false) := (by rw [insideB, mays_of_ins hn, Bool.and_false] : insideB q l = false)
    go_enter Try.func16, Try.ntmps16
    go_wp2_with fail
    refine H.out.mono ?_
    rintro e w2 ⟨rfl, hb2⟩
    have B2 := Lib.hid (B1.out.trans (hb2.mono B1.out.size))
    clear hb2
    go_wp2_with fail
    refine (may_any _ l _ (HR.out.up B2.out) hlen HF.out).mono ?_
    rw [hn]
    rintro e w3 ⟨rfl, hb3⟩
    have B3 := Lib.hid (B2.out.trans (hb3.mono B2.out.size))
    clear hb3
    go_wp2
    go_ret
    exact ⟨by rw [hv.out]; rfl, B3.out⟩
  have hv : Hid (insideB q l = l.all (insB q)) := (by rw [insideB, hm, Bool.true_and] : insideB q l = _)
  go_enter Try.func16, Try.ntmps16
  go_wp2_with fail
  refine H.out.mono ?_
  rintro e w2 ⟨rfl, hb2⟩
  have B2 := Lib.hid (B1.out.trans (hb2.mono B1.out.size))
  have HA2 := Lib.hid (HA.out.up hb2)
  clear hb2
  go_wp2_with fail
  refine (may_any _ l _ (HR.out.up B2.out) hlen HF.out).mono ?_
  rw [hn]
  rintro e w3 ⟨rfl, hb3⟩
  have B3 := Lib.hid (B2.out.trans (hb3.mono B2.out.size))
  have HA3 := Lib.hid (HA2.out.up hb3)
  clear hb3
  go_wp2_with fail
  refine (allp_any 31 enters31 #[.pointer (some ⟨w.heap.size, 0, none⟩)] l (insB q) _ w3 (HR.out.up B3.out) hlen (fun r hr W hW => ins1_any q r _ W HQ.out (List.all_eq_true.1 hn r hr) (HA3.out.up hW))).mono ?_
  rintro e w4 ⟨rfl, hb4⟩
  have B4 := Lib.hid (B3.out.trans (hb4.mono B3.out.size))
  clear hb4
  go_wp2
  go_ret
  exact ⟨by rw [hv.out]; rfl, B4.out⟩
end Go.Proofs.Ytdhibidjghpngaa
