/- The law TileChecks. -/
import Derived.Test.YtibjpkicchdomaaDoorAwake6
import Derived.Test.YtibjpkicchdomaaDoorSameR
import Derived.Test.YtibjpkicchdomaaDoorFltD
import Derived.Test.YtibjpkicchdomaaDoorMayMath
namespace Go.Proofs.YtibjpkicchdomaaDoor
open Go.RowKit

/-- What both answers come to: nothing, or an error's number and place. -/
def Told (t : T) (w : World) (v : Value) (n k : Int) : Prop := (v = .nilIface ∧ n = 0 ∧ k = 0 ∧ tileB t = true) ∨ (¬ n = 0 ∧ tileB t = false ∧ FaultAt w v n k)
theorem told_of {t : T} {w w1 w2 w3 : World} {e1 e2 : Ending} (hs : sz t ≤ 999) (h1 : CheckSays t w e1 w1) (h2 : RCheckSays t w2 e2 w3) : ∃ (v v2 : Value) (n k : Int), e1 = .returned v ∧ e2 = .returned (.tuple #[v2, .int .i64 n, .int .i64 k]) ∧ Told t w1 v n k ∧ RRow w3 v2 (linesIf t (tileB t)) ∧ Below w.heap.size w w1 ∧ Below w2.heap.size w2 w3 := by
  have hm : mayT t = rmayT t := may_is (by omega)
  obtain ⟨v, rfl, hb1, h1⟩ := h1
  obtain ⟨v2, n, k, l, rfl, hr, hb2, h2⟩ := h2
  refine ⟨v, v2, n, k, rfl, rfl, ?_⟩
  rw [hm] at h1
  rcases h1 with ⟨a, b⟩ | ⟨a, b, rfl⟩ | ⟨a, b, d⟩
  · rcases h2 with ⟨_, rfl, rfl, rfl⟩ | ⟨a2, _⟩ | ⟨a2, _⟩
    · have ht : tileB t = false := by unfold tileB; rw [hm, a]; rfl
      exact ⟨.inr ⟨by decide, ht, b⟩, by rw [ht]; exact hr, hb1, hb2⟩
    · rw [a] at a2; cases a2
    · rw [a] at a2; cases a2
  · rcases h2 with ⟨a2, _⟩ | ⟨_, _, rfl, rfl, rfl⟩ | ⟨_, b2, _⟩
    · rw [a] at a2; cases a2
    · have ht : tileB t = true := by unfold tileB; rw [hm, a, b]; rfl
      exact ⟨.inl ⟨rfl, rfl, rfl, ht⟩, by rw [ht]; exact hr, hb1, hb2⟩
    · rw [b] at b2; cases b2
  · rcases h2 with ⟨a2, _⟩ | ⟨_, b2, _⟩ | ⟨_, _, rfl, rfl, rfl⟩
    · rw [a] at a2; cases a2
    · rw [b] at b2; cases b2
    · have ht : tileB t = false := by unfold tileB; rw [hm, a, b]; rfl
      exact ⟨.inr ⟨by decide, ht, d⟩, by rw [ht]; exact hr, hb1, hb2⟩
theorem linesIf_lenD {t : T} {b : Bool} (hs : sz t ≤ 999) : (linesIf t b).length ≤ 1000000 := by
  unfold linesIf; split
  · have h1 := allLines_len (l := preT t) (n := 999) (fun u hu => Nat.le_trans (pre_kids t u hu) hs)
    rw [preT_len] at h1
    have := Nat.mul_le_mul_right 999 hs
    omega
  · simp

set_option maxRecDepth 100000 in
set_option maxHeartbeats 4000000 in
theorem tileChecks_any (t : T) (c : C) (w : World) (hi : Is w c t) (hs : sz t ≤ 1099511627776) (hg : Er.EtLaid w) : Calls Tryd.prog 3 #[cval c] w fun e w' => e = .returned (.bool true) ∧ Below w.heap.size w w' := by
  have HA : Hid (Below w.heap.size w (w.alloc (cbox c))) := (Below.refl _ _).alloc (Nat.le_refl _) _
  have HC := Lib.hid (cbox_new w c)
  have HG := Lib.hid (great_any t c (w.alloc (cbox c)) (hi.up HA.out))
  have HI := Lib.hid hi
  have HS := Lib.hid hs
  have HE := Lib.hid hg
  clear hi hs hg
  go_enter Tryd.func3, Tryd.ntmps3
  go_wp2_with fail
  refine HG.out.mono ?_
  rintro e w1 ⟨g, rfl, hg, hb1⟩
  have B1 := Lib.hid (HA.out.trans (hb1.mono HA.out.size))
  have C1 := Lib.hid (HC.out.up hb1)
  have HF := Lib.hid hg
  clear hb1 hg
  cases g with
  | true =>
    go_wp2_with fail
    refine (awake6_any w1).mono ?_
    rintro e w2 ⟨rfl, hb2⟩
    have B2 := Lib.hid (B1.out.trans (hb2.mono B1.out.size))
    clear hb2
    go_wp2
    go_ret
    exact ⟨rfl, B2.out⟩
  | false =>
    have HSZ : Hid (sz t ≤ 999) := Lib.hid (Nat.le_trans (HF.out rfl HS.out) (by decide))
    obtain ⟨c0, c1, c2, c3, c4, c5, c6⟩ := C1.out
    simp only [Nat.zero_add] at c1 c2 c3 c4 c5 c6
    have HCK := Lib.hid (check_any t c w1 (HI.out.up B1.out) HSZ.out)
    have HRC := Lib.hid (fun W (h : Below w.heap.size w W) => rcheck_any t c W (HI.out.up h) HSZ.out)
    have HLI := Lib.hid (fun W (h : Below w.heap.size w W) => lines_any t c W (HI.out.up h) HSZ.out)
    have HTL := Lib.hid (fun W (h : Below w.heap.size w W) (n : Nat) hn => tilesOne_any t c W (HI.out.up h) HSZ.out n hn)
    have HLL := Lib.hid (linesIf_lenD (b := tileB t) HSZ.out)
    go_wp2_with fail
    refine HCK.out.mono ?_
    intro e w2 hck
    have HCS := Lib.hid hck
    obtain ⟨v, rfl, hb2, hvs⟩ := hck
    have B2 := Lib.hid (B1.out.trans (hb2.mono B1.out.size))
    have C2 := Lib.hid (C1.out.up hb2)
    have hsh : v = .nilIface ∨ ∃ u x, v = .iface u x := by
      rcases hvs with ⟨-, b, rfl, -⟩ | ⟨-, -, rfl⟩ | ⟨-, -, b, rfl, -⟩
      · exact .inr ⟨_, _, rfl⟩
      · exact .inl rfl
      · exact .inr ⟨_, _, rfl⟩
    have HSH := Lib.hid hsh
    clear hb2 hvs hsh c0 c1 c2 c3 c4 c5 c6
    obtain ⟨c0, c1, c2, c3, c4, c5, c6⟩ := C2.out
    simp only [Nat.zero_add] at c1 c2 c3 c4 c5 c6
    go_wp2_with fail
    refine (HRC.out w2 B2.out).mono ?_
    intro e w3 hrc
    obtain ⟨v', v2, n, k, he1, rfl, htold, hr3, hb2', hb3⟩ := told_of HSZ.out HCS.out hrc
    have hvv : v = v' := by injection he1
    subst hvv
    have B3 := Lib.hid (B2.out.trans (hb3.mono B2.out.size))
    have C3 := Lib.hid (C2.out.up hb3)
    have R3 := Lib.hid hr3
    obtain ⟨a2, cap2, rfl⟩ := hr3.shape
    have E3 := Lib.hid (et_up HE.out B3.out)
    have HB3 := Lib.hid hb3
    clear hb3 hr3 hb2' he1 hrc c0 c1 c2 c3 c4 c5 c6
    generalize linesIf t (tileB t) = ll at R3 HLI HLL
    rcases htold with ⟨rfl, rfl, rfl, ht⟩ | ⟨hn, ht, b, rfl, hk0, hk1⟩
    · rw [ht] at HTL
      clear ht
      have e1 := eqlN
      go_wp2_with fail
      refine (atN w3).mono ?_
      rintro e w4 ⟨rfl, hb4⟩
      have B4 := Lib.hid (B3.out.trans (hb4.mono B3.out.size))
      have C4 := Lib.hid (C3.out.up hb4)
      have R4 := Lib.hid (R3.out.up hb4)
      clear hb4
      go_wp2_with fail
      refine (codeN w4).mono ?_
      rintro e w5 ⟨rfl, hb5⟩
      have B5 := Lib.hid (B4.out.trans (hb5.mono B4.out.size))
      have C5 := Lib.hid (C4.out.up hb5)
      have R5 := Lib.hid (R4.out.up hb5)
      clear hb5
      obtain ⟨c0, c1, c2, c3, c4, c5, c6⟩ := C5.out
      simp only [Nat.zero_add] at c1 c2 c3 c4 c5 c6
      go_wp2_with fail
      refine (HLI.out w5 B5.out).mono ?_
      rintro e w6 ⟨v6, rfl, hr6, hb6⟩
      have B6 := Lib.hid (B5.out.trans (hb6.mono B5.out.size))
      have C6 := Lib.hid (C5.out.up hb6)
      have HSM := Lib.hid (sameR_any v6 _ ll w6 hr6 (R5.out.up hb6) HLL.out)
      obtain ⟨a6, cap6, rfl⟩ := hr6.shape
      clear hb6 hr6 c0 c1 c2 c3 c4 c5 c6
      go_wp2_with fail
      refine HSM.out.mono ?_
      rintro e w7 ⟨rfl, hb7⟩
      have B7 := Lib.hid (B6.out.trans (hb7.mono B6.out.size))
      have C7 := Lib.hid (C6.out.up hb7)
      clear hb7
      obtain ⟨c0, c1, c2, c3, c4, c5, c6⟩ := C7.out
      simp only [Nat.zero_add] at c1 c2 c3 c4 c5 c6
      go_wp2_with fail
      refine (HTL.out w7 B7.out w7.heap.size rfl).mono ?_
      rintro e w8 ⟨rfl, hb8⟩
      have B8 := Lib.hid (B7.out.trans (hb8.mono B7.out.size))
      clear hb8 c0 c1 c2 c3 c4 c5 c6
      go_wp2_with fail
      refine (awake6_any w8).mono ?_
      rintro e w9 ⟨rfl, hb9⟩
      have B9 := Lib.hid (B8.out.trans (hb9.mono B8.out.size))
      clear hb9
      go_wp2
      go_ret
      exact ⟨rfl, B9.out⟩
    · rw [ht] at HTL
      clear ht
      have e1 := eqlS
      have d0 : (n == 0) = false := by simpa using hn
      have d1 : (n != 0) = true := by simpa using hn
      have d2 : (n != n) = false := by simp
      have d3 : (k != k) = false := by simp
      have k0 := (HB3.out.cell (lt_of_cell hk0)).trans hk0
      have k1 := (HB3.out.cell (lt_of_cell hk1)).trans hk1
      have HAT := Lib.hid (atF b k w3 k1 E3.out)
      have HCD := Lib.hid (fun W (h : Below w3.heap.size w3 W) => codeF b n W ((h.cell (lt_of_cell k0)).trans k0) (et_up E3.out h))
      clear hk0 hk1 k0 k1
      go_wp2_with fail
      refine HAT.out.mono ?_
      rintro e w4 ⟨rfl, hb4⟩
      have B4 := Lib.hid (B3.out.trans (hb4.mono B3.out.size))
      have C4 := Lib.hid (C3.out.up hb4)
      have R4 := Lib.hid (R3.out.up hb4)
      have HC4 := Lib.hid (HCD.out w4 hb4)
      clear hb4
      go_wp2_with fail
      refine HC4.out.mono ?_
      rintro e w5 ⟨rfl, hb5⟩
      have B5 := Lib.hid (B4.out.trans (hb5.mono B4.out.size))
      have C5 := Lib.hid (C4.out.up hb5)
      have R5 := Lib.hid (R4.out.up hb5)
      clear hb5
      obtain ⟨c0, c1, c2, c3, c4, c5, c6⟩ := C5.out
      simp only [Nat.zero_add] at c1 c2 c3 c4 c5 c6
      go_wp2_with fail
      refine (HLI.out w5 B5.out).mono ?_
      rintro e w6 ⟨v6, rfl, hr6, hb6⟩
      have B6 := Lib.hid (B5.out.trans (hb6.mono B5.out.size))
      have C6 := Lib.hid (C5.out.up hb6)
      have HSM := Lib.hid (sameR_any v6 _ ll w6 hr6 (R5.out.up hb6) HLL.out)
      obtain ⟨a6, cap6, rfl⟩ := hr6.shape
      clear hb6 hr6 c0 c1 c2 c3 c4 c5 c6
      go_wp2_with fail
      refine HSM.out.mono ?_
      rintro e w7 ⟨rfl, hb7⟩
      have B7 := Lib.hid (B6.out.trans (hb7.mono B6.out.size))
      have C7 := Lib.hid (C6.out.up hb7)
      clear hb7
      obtain ⟨c0, c1, c2, c3, c4, c5, c6⟩ := C7.out
      simp only [Nat.zero_add] at c1 c2 c3 c4 c5 c6
      go_wp2_with fail
      refine (HTL.out w7 B7.out w7.heap.size rfl).mono ?_
      rintro e w8 ⟨rfl, hb8⟩
      have B8 := Lib.hid (B7.out.trans (hb8.mono B7.out.size))
      clear hb8 c0 c1 c2 c3 c4 c5 c6
      go_wp2_with fail
      refine (awake6_any w8).mono ?_
      rintro e w9 ⟨rfl, hb9⟩
      have B9 := Lib.hid (B8.out.trans (hb9.mono B8.out.size))
      clear hb9
      go_wp2
      go_ret
      exact ⟨rfl, B9.out⟩

theorem tileChecks_wf (v : Value) (t : T) (c : C) (w : World) (e : v = cval c) (hi : Is w c t) (hs : sz t ≤ 1048576) (hg : Er.EtLaid w) : Calls Tryd.prog 3 #[v] w fun e w' => e = .returned (.bool true) ∧ Below w.heap.size w w' := by
  subst e
  exact tileChecks_any t c w hi (by omega) hg
end Go.Proofs.YtibjpkicchdomaaDoor
