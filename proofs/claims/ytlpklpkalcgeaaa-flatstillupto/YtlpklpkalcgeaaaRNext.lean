/- The pane so many places behind: the document's walk, step by step. -/
import Derived.Test.YtlpklpkalcgeaaaFPane
namespace Go.Proofs.Ytlpklpkalcgeaaa
open Go.RowKit

set_option maxRecDepth 100000 in
theorem rnext_any (t : T) (c : C) (id by_ : Int) (w : World) (hm : sz t ≤ 900000) (hi : Is w c t) :
    Calls Try.prog 21 #[cval c, .int .i64 id, .int .i64 by_] w fun e w' => e = .returned (.tuple #[.int .i64 (nextP (panesT t) id by_).1, .bool (nextP (panesT t) id by_).2]) ∧ Below w.heap.size w w' := by
  have A1 : Hid (Below w.heap.size w (w.alloc (cbox c))) := (Below.refl _ _).alloc (Nat.le_refl _) _
  have HL := Lib.hid (rlist_any t c _ hm (hi.up A1.out))
  have HN : Hid ((panesT t).length ≤ 900000) := Lib.hid (by have := panes_len t; omega)
  clear hi
  generalize panesT t = l at HL HN ⊢
  cases hix : idxP l id with
  | none =>
    rw [nextP_none hix]
    have HIX := Lib.hid hix
    clear hix
    go_enter Try.func21, Try.ntmps21
    go_wp2_with fail
    refine HL.out.mono ?_
    rintro e w2 ⟨v2, rfl, ho2, hb2⟩
    have B2 := Lib.hid (A1.out.trans (hb2.mono A1.out.size))
    have R2 := Lib.hid ho2.row
    obtain ⟨a2, cap2, rfl⟩ := ho2.row.shape
    clear ho2 hb2
    have HI := Lib.hid (rfindP_any _ l id w2 R2.out (by have := HN.out; omega))
    rw [HIX.out] at HI
    go_wp2_with fail
    refine HI.out.mono ?_
    rintro e w4 ⟨rfl, hb4⟩
    have B4 := Lib.hid (B2.out.trans (hb4.mono B2.out.size))
    clear hb4
    have hps : posP none = -1 := rfl
    rw [hps]
    go_wp2
    go_ret2
    exact ⟨rfl, B4.out⟩
  | some i =>
    obtain ⟨p, hp, -⟩ := idx_at hix
    have hil : i < l.length := lt_of_get hp
    obtain ⟨J, hJ, hJl⟩ := round_at (show 0 < l.length by omega) ((i : Int) + by_)
    obtain ⟨q, hq⟩ := get_of rfl hJl
    rw [nextP_some hix hJ hq]
    obtain ⟨r1, r2, r3⟩ := tmod_round (show 0 < l.length by omega) by_
    have hJ2 : ((i : Int) + by_.tmod (l.length : Int)) % (l.length : Int) = J := by
      rw [← hJ, ← r3 i, Int.add_emod_right]
    obtain ⟨r, hr⟩ : ∃ r, by_.tmod (l.length : Int) = r := ⟨_, rfl⟩
    rw [hr] at r1 r2 hJ2
    have hll := HN.out
    have s0 : ((l.length : Int) == 0) = false := by rw [beq_eq_false_iff_ne]; omega
    have s0' : (l.length == 0) = false := by rw [beq_eq_false_iff_ne]; omega
    have HIX := Lib.hid hix
    have HQ := Lib.hid hq
    have HJ2 := Lib.hid hJ2
    clear hix hp hq r3 hJ hJ2
    have d0 : decide ((i : Int) < 0) = false := decide_eq_false (by omega)
    go_enter Try.func21, Try.ntmps21
    go_wp2_with fail
    refine HL.out.mono ?_
    rintro e w2 ⟨v2, rfl, ho2, hb2⟩
    have B2 := Lib.hid (A1.out.trans (hb2.mono A1.out.size))
    have R2 := Lib.hid ho2.row
    obtain ⟨a2, cap2, rfl⟩ := ho2.row.shape
    clear ho2 hb2
    have HI := Lib.hid (rfindP_any _ l id w2 R2.out (by have := HN.out; omega))
    rw [HIX.out] at HI
    go_wp2_with fail
    refine HI.out.mono ?_
    rintro e w4 ⟨rfl, hb4⟩
    have B4 := Lib.hid (B2.out.trans (hb4.mono B2.out.size))
    have R4 := Lib.hid (R2.out.up hb4)
    clear hb4
    have hps : posP (some i) = (i : Int) := rfl
    rw [hps]
    go_wp2
    go_loopg [9, 10] (l.length + 1) (fun g vi vs wr => ∃ (j : Nat) (s : Int), vi = .int .i64 j ∧ vs = .int .i64 s ∧ j < l.length ∧ s + 1 ≤ (g : Int) ∧ -(l.length : Int) < s ∧ s < l.length ∧ ((j : Int) + s) % (l.length : Int) = J ∧ Below w4.heap.size w4 wr)
    case atStart => exact ⟨i, r, rfl, rfl, hil, by omega, r1, r2, HJ2.out, Below.refl _ _⟩
    case round =>
      obtain ⟨j, s, rfl, rfl, hjl, hsg, hs1, hs2, hjs, hb⟩ := hrel
      have HB := Lib.hid hb
      have HJS := Lib.hid hjs
      clear hb hjs
      by_cases hpos : 0 < s
      · have dp : decide (0 < s) = true := decide_eq_true hpos
        have e1 : IntKind.i64.wrap ((j : Int) + 1) = j + 1 := wrap_id (by omega)
        have e2 : IntKind.i64.wrap (s - 1) = s - 1 := wrap_id (by omega)
        by_cases hend : j + 1 = l.length
        · have d1 : (((j : Int) + 1) == (l.length : Int)) = true := by rw [beq_iff_eq]; omega
          have d2 : ((j : Int) + 1 = (l.length : Int)) = True := by rw [eq_iff_iff]; simp; omega
          go_wp2
          go_roundg (gk - 1)
          case measure => omega
          case rel =>
            refine ⟨0, s - 1, rfl, rfl, by omega, by omega, by omega, by omega, ?_, HB.out⟩
            rw [← HJS.out, show (j : Int) + s = ((0 : Nat) : Int) + (s - 1) + (l.length : Int) by omega, Int.add_emod_right]
        · have d1 : (((j : Int) + 1) == (l.length : Int)) = false := by rw [beq_eq_false_iff_ne]; omega
          have d2 : ((j : Int) + 1 = (l.length : Int)) = False := by rw [eq_iff_iff]; simp; omega
          go_wp2
          go_roundg (gk - 1)
          case measure => omega
          case rel =>
            refine ⟨j + 1, s - 1, by go_num, rfl, by omega, by omega, by omega, by omega, ?_, HB.out⟩
            rw [← HJS.out, show (((j + 1 : Nat) : Int)) + (s - 1) = (j : Int) + s by omega]
      · have dp : decide (0 < s) = false := decide_eq_false hpos
        go_wp2
        go_loopg [9, 10] (l.length + 1) (fun g vi vs wr => ∃ (j : Nat) (s : Int), vi = .int .i64 j ∧ vs = .int .i64 s ∧ j < l.length ∧ -s + 1 ≤ (g : Int) ∧ -(l.length : Int) < s ∧ s ≤ 0 ∧ ((j : Int) + s) % (l.length : Int) = J ∧ Below w4.heap.size w4 wr)
        case atStart => exact ⟨j, s, rfl, rfl, hjl, by omega, hs1, by omega, HJS.out, HB.out⟩
        case round =>
          clear hjl hsg hs1 hs2 HB HJS hpos dp
          obtain ⟨j, s, rfl, rfl, hjl, hsg, hs1, hs2, hjs, hb⟩ := hrel
          have HB := Lib.hid hb
          have HJS := Lib.hid hjs
          clear hb hjs
          by_cases hneg : s < 0
          · have dn : decide (s < 0) = true := decide_eq_true hneg
            have e1 : IntKind.i64.wrap ((j : Int) - 1) = j - 1 := wrap_id (by omega)
            have e2 : IntKind.i64.wrap (s + 1) = s + 1 := wrap_id (by omega)
            by_cases hz : j = 0
            · subst hz
              have e3 : IntKind.i64.wrap ((l.length : Int) - 1) = l.length - 1 := wrap_id (by omega)
              go_wp2
              go_roundg (gk - 1)
              case measure => omega
              case rel =>
                refine ⟨l.length - 1, s + 1, by congr 1; omega, rfl, by omega, by omega, by omega, by omega, ?_, HB.out⟩
                rw [← HJS.out, show ((l.length - 1 : Nat) : Int) + (s + 1) = ((0 : Nat) : Int) + s + (l.length : Int) by omega, Int.add_emod_right]
            · have d1 : decide ((j : Int) - 1 < 0) = false := decide_eq_false (by omega)
              go_wp2
              go_roundg (gk - 1)
              case measure => omega
              case rel =>
                refine ⟨j - 1, s + 1, by congr 1; omega, rfl, by omega, by omega, by omega, by omega, ?_, HB.out⟩
                rw [← HJS.out, show (((j - 1 : Nat) : Int)) + (s + 1) = (j : Int) + s by omega]
          · have dn : decide (s < 0) = false := decide_eq_false hneg
            obtain rfl : s = 0 := by omega
            have hjj : j = J := by
              have := HJS.out
              rw [Int.add_zero, Int.emod_eq_of_lt (by omega) (by omega)] at this
              omega
            subst hjj
            obtain ⟨b, o, rfl, hf⟩ := (R4.out.up HB.out).place (by omega)
            obtain ⟨c0, -⟩ := hf j q HQ.out
            clear hf
            have hjli : (j : Int) < (l.length : Int) := by omega
            go_wp2
            go_ret2
            exact ⟨rfl, B4.out.trans (HB.out.mono B4.out.size)⟩
end Go.Proofs.Ytlpklpkalcgeaaa
