/- FaultIs: whether one of any numbers is told by an error in words. -/
import Derived.Test.YtmlmgkaghcnpnaaDoorLawAlone
namespace Go.Proofs.YtmlmgkaghcnpnaaDoor
open Go.RowKit

def wantF (e0 : Int) (ms : List Int) : Bool := ms.any (fun m => decide (m = e0 ∧ e0 ≠ 0))
theorem want_step (e0 : Int) (ms : List Int) (k : Nat) (h : k < ms.length) : wantF e0 (ms.take (k + 1)) = (wantF e0 (ms.take k) || decide (ms[k] = e0 ∧ e0 ≠ 0)) := by
  rw [wantF, List.take_succ_eq_append_getElem h, List.any_append]
  simp [wantF]
theorem want_zero (ms : List Int) : wantF 0 ms = false := by simp [wantF]
theorem want_asks (e0 : Int) (ms : List Int) (h : ¬ e0 = 0) : wantF e0 ms = asks e0 ms := by
  unfold wantF asks
  induction ms with
  | nil => rfl
  | cons a r ih =>
    simp only [List.map_cons, List.any_cons, ih, id_eq]
    congr 1
    by_cases h1 : a = e0
    · subst h1; simp [h]
    · simp [h1, Ne.symm h1]

theorem take_map_step (ms : List Int) (k : Nat) (h : k < ms.length) : (ms.take (k + 1)).map (Value.int .i64) = (ms.take k).map (Value.int .i64) ++ [.int .i64 ms[k]] := by
  rw [List.take_succ_eq_append_getElem h, List.map_append]; rfl
theorem int_at {ms : List Int} {k : Nat} (h : k < ms.length) : (ms.map (Value.int .i64))[k]? = some (.int .i64 ms[k]) := by simp [h]
theorem ints_one (ms : List Int) : ∀ u ∈ ms.map (Value.int .i64), u.oneCell' = true := fun u hu => by
  obtain ⟨s, -, rfl⟩ := List.mem_map.1 hu
  rfl

/-- What is known behind the law's loop, as the world grows. -/
def Inv2 (w0 : World) (v sl : Value) (ns : List Value) (x y z : Value) (w : World) : Prop :=
  (∃ ws, ErrOf w v ws (.iface 33 (.int .i64 5))) ∧ Row w sl ns ∧ EtLaid w ∧ Below w0.heap.size w0 w ∧ (w.cell? ⟨w0.heap.size, 0, none⟩ = some x ∧ w.cell? ⟨w0.heap.size, 1, none⟩ = some y ∧ w.cell? ⟨w0.heap.size, 2, none⟩ = some z)
theorem Inv2.up {w0 w w' : World} {v sl x y z : Value} {ns : List Value} (h : Inv2 w0 v sl ns x y z w) (hb : Below w.heap.size w w') : Inv2 w0 v sl ns x y z w' := by
  obtain ⟨⟨ws, h1⟩, h2, h3, h4, h5⟩ := h
  exact ⟨⟨ws, h1.up hb⟩, h2.up hb, h3.up hb, h4.trans (hb.mono h4.size), box_up h5 hb⟩

set_option maxHeartbeats 1600000 in
set_option maxRecDepth 100000 in
/-- The law's loop: the numbers as errors' ones, and what is wanted. -/
theorem faultIs_any (e0 k0 : Int) (sl : Value) (wss : List (List ByteArray)) (a1 : Option Addr) (c1 : Nat) (ms : List Int) (w : World) (hg : EtLaid w) (hr : Rows w sl wss) (hl : Row w (.slice a1 ms.length c1) (ms.map (Value.int .i64))) :
    Calls Tryd.prog 5 #[.agg #[.int .i64 e0, .int .i64 k0, sl], .slice a1 ms.length c1] w fun e w' => e = .returned (.bool true) ∧ Below w.heap.size w w' := by
  have HG := Lib.hid hg
  have HR := Lib.hid hr
  have HLs := Lib.hid hl
  obtain ⟨vs, ⟨a, cap, rfl, -, -⟩, -, -⟩ := hr
  clear hg hl
  have HB1 := Lib.hid ((Below.refl w.heap.size w).alloc (Nat.le_refl _) (.cells #[.int .i64 e0, .int .i64 k0, .slice a vs.length cap] 24))
  have HGr := Lib.hid (great_any _ [(e0, k0, wss)] _ (frow_one (w.alloc (.cells #[.int .i64 e0, .int .i64 k0, .slice a vs.length cap] 24)) (e0, k0, wss) _ (HR.out.up HB1.out)))
  have HB2 := Lib.hid (HB1.out.alloc HB1.out.size (.cells #[.int .i64 e0, .int .i64 k0, .slice a vs.length cap] 24))
  have hbox : Hid ((w.alloc (.cells #[.int .i64 e0, .int .i64 k0, .slice a vs.length cap] 24)).cell? ⟨w.heap.size, 0, none⟩ = some (.int .i64 e0) ∧ (w.alloc (.cells #[.int .i64 e0, .int .i64 k0, .slice a vs.length cap] 24)).cell? ⟨w.heap.size, 1, none⟩ = some (.int .i64 k0) ∧ (w.alloc (.cells #[.int .i64 e0, .int .i64 k0, .slice a vs.length cap] 24)).cell? ⟨w.heap.size, 2, none⟩ = some (.slice a vs.length cap)) := ⟨by simp, by simp, by simp⟩
  have hbx2 := Lib.hid (box_up hbox.out ((Below.refl _ _).alloc (Nat.le_refl _) (.cells #[.int .i64 e0, .int .i64 k0, .slice a vs.length cap] 24)))
  rw [great_one, World.size_alloc] at HGr
  cases hgr : great1 (e0, k0, wss) with
  | true =>
    rw [hgr] at HGr
    go_enter Tryd.func5, Tryd.ntmps5
    go_wp2_with fail
    refine HGr.out.mono ?_
    rintro e w1 ⟨rfl, rfl⟩
    go_wp2_with fail
    refine (awake_any _ (HG.out.up HB2.out)).mono ?_
    rintro e w2 ⟨rfl, hb⟩
    have B2 := Lib.hid (HB2.out.trans (hb.mono HB2.out.size))
    clear hb
    go_wp2
    go_ret
    exact ⟨rfl, B2.out⟩
  | false =>
    rw [hgr] at HGr
    have HL := Lib.hid hgr
    clear hgr
    by_cases h20 : 20 < ms.length
    · have d0 : decide ((20 : Int) < (ms.length : Int)) = true := by simp; omega
      go_enter Tryd.func5, Tryd.ntmps5
      go_wp2_with fail
      refine HGr.out.mono ?_
      rintro e w1 ⟨rfl, rfl⟩
      go_wp2_with fail
      refine (awake_any _ (HG.out.up HB2.out)).mono ?_
      rintro e w2 ⟨rfl, hb⟩
      have B2 := Lib.hid (HB2.out.trans (hb.mono HB2.out.size))
      clear hb
      go_wp2
      go_ret
      exact ⟨rfl, B2.out⟩
    · have d0 : decide ((20 : Int) < (ms.length : Int)) = false := by simp; omega
      go_enter Tryd.func5, Tryd.ntmps5
      go_wp2_with fail
      refine HGr.out.mono ?_
      rintro e w1 ⟨rfl, hw1⟩
      have B1 : Hid (Below w.heap.size w w1) := hw1 ▸ HB2.out
      have X1 := Lib.hid (hw1 ▸ hbx2.out)
      clear hw1 HGr HB2 HB1 hbox hbx2
      go_wp2_with fail
      have HA1 := Lib.hid ((Below.refl w1.heap.size w1).alloc (Nat.le_refl _) (.cells #[] 33))
      go_loopg [5, 6, 7] (ms.length + 1) (fun g l b i wr => ∃ k : Nat, g + k = ms.length + 1 ∧ k ≤ ms.length ∧ i = .int .i64 k ∧ b = .bool (wantF e0 (ms.take k)) ∧ wr.ownsRow w1.heap.size 33 1 l ((ms.take k).map (Value.int .i64)).length ((ms.take k).map (Value.int .i64)) ∧ Below w1.heap.size w1 wr)
      case atStart => exact ⟨0, by omega, by omega, rfl, rfl, World.ownsRow_made w1 #[] 0 (Nat.le_refl _) (by decide) rfl, HA1.out⟩
      case round =>
        obtain ⟨k, hgk, hk, rfl, rfl, hown, hb⟩ := hrel
        have HB : Hid (Below w1.heap.size w1 wr ∧ wr.ownsRow w1.heap.size 33 1 u5 ((ms.take k).map (Value.int .i64)).length ((ms.take k).map (Value.int .i64)) ∧ gk + k = ms.length + 1) := ⟨hb, hown, hgk⟩
        have BW := Lib.hid (B1.out.trans (hb.mono B1.out.size))
        obtain ⟨x0, -, -⟩ := box_up X1.out hb
        clear hb hown hgk
        by_cases hlt : k < ms.length
        · obtain ⟨_, _, hsl, hn, hc⟩ := HLs.out
          rw [List.length_map] at hsl
          cases hsl
          obtain ⟨b1, o1, rfl, hcell⟩ := row_at hn hc (by simp; omega)
          have hm0 := hcell k _ (int_at hlt)
          have hm := (BW.out.cell (lt_of_cell hm0)).trans hm0
          have HW := Lib.hid (want_step e0 ms k hlt)
          obtain ⟨m, hmm⟩ : ∃ m, m = ms[k] := ⟨_, rfl⟩
          rw [← hmm] at hm HW
          have hx0' := cell_up x0 (.cells #[.int .i64 m] 33)
          have HT : Hid ((ms.take (k + 1)).map (Value.int .i64) = (ms.take k).map (Value.int .i64) ++ [.int .i64 m]) := (by rw [hmm]; exact take_map_step ms k hlt : (ms.take (k + 1)).map (Value.int .i64) = (ms.take k).map (Value.int .i64) ++ [.int .i64 m])
          have HLn : Hid (((ms.take k).map (Value.int .i64)).length + [Value.int .i64 m].length ≤ 1000000) := (by
            rw [List.length_map, List.length_take]
            simp only [List.length_singleton]
            omega : ((ms.take k).map (Value.int .i64)).length + [Value.int .i64 m].length ≤ 1000000)
          have HM : Hid (w.cell? ⟨b1, o1 + k, none⟩ = some (.int .i64 m)) := (by rw [hmm]; exact hm0 : w.cell? ⟨b1, o1 + k, none⟩ = some (.int .i64 m))
          clear hcell hm0 hmm hn hc
          generalize wantF e0 (ms.take k) = b at *
          go_wp2_with (at_builtin; refine wpList_append_row rfl (.tmp 27) (.tmp 32) 48 rfl w1.heap.size 33 (.int .i64 0) 8 Tryd.underlying48 info33 rfl _ _ ((ms.take k).map (Value.int .i64)) [.int .i64 m] rfl (HB.out.2.1.alloc _) rfl (row_one _ _ _) (fun u hu => by rw [List.mem_singleton.1 hu]; rfl) HLn.out (by decide) w1 (HB.out.1.alloc HB.out.1.size _) (Nat.le_refl _) ?_; intro v2 w2 hown2 hb2)
          have BW2 := Lib.hid (B1.out.trans (hb2.mono B1.out.size))
          obtain ⟨y0, -, -⟩ := box_up X1.out hb2
          have hm2 := (BW2.out.cell (lt_of_cell HM.out)).trans HM.out
          have HB2 := Lib.hid hb2
          have HO2 := Lib.hid hown2
          have hki : (k : Int) < (ms.length : Int) := by omega
          clear hb2 hown2 hm x0 hx0'
          cases b with
          | true =>
            go_quiet (fail)
            have HOq : Hid ((w2.drewN nq).ownsRow w1.heap.size 33 1 v2 ((ms.take k).map (Value.int .i64) ++ [Value.int .i64 m]).length ((ms.take k).map (Value.int .i64) ++ [.int .i64 m])) := HO2.out
            have HBq : Hid (Below w1.heap.size w1 (w2.drewN nq)) := ⟨HB2.out.os, HB2.out.tape, HB2.out.output, HB2.out.size, HB2.out.block⟩
            generalize w2.drewN nq = w3 at *
            go_wp2
            go_roundg (gk - 1)
            case measure => have := HB.out.2.2; omega
            case rel =>
              refine ⟨k + 1, ?_, by omega, by go_num, ?_, ?_, HBq.out⟩
              · have := HB.out.2.2; omega
              · rw [HW.out]; rfl
              · rw [HT.out]; exact HOq.out
          | false =>
            by_cases hme : m = e0
            · by_cases hz : e0 = 0
              · have q1 : (m == e0) = true := by simp [hme]
                have q2 : (e0 != 0) = false := by simp [hz]
                have HQ : Hid (decide (m = e0 ∧ e0 ≠ 0) = false) := (by simp [hz] : decide (m = e0 ∧ e0 ≠ 0) = false)
                clear hme hz
                go_quiet (fail)
                have HOq : Hid ((w2.drewN nq).ownsRow w1.heap.size 33 1 v2 ((ms.take k).map (Value.int .i64) ++ [Value.int .i64 m]).length ((ms.take k).map (Value.int .i64) ++ [.int .i64 m])) := HO2.out
                have HBq : Hid (Below w1.heap.size w1 (w2.drewN nq)) := ⟨HB2.out.os, HB2.out.tape, HB2.out.output, HB2.out.size, HB2.out.block⟩
                generalize w2.drewN nq = w3 at *
                go_wp2
                go_roundg (gk - 1)
                case measure => have := HB.out.2.2; omega
                case rel =>
                  refine ⟨k + 1, ?_, by omega, by go_num, ?_, ?_, HBq.out⟩
                  · have := HB.out.2.2; omega
                  · rw [HW.out]; rw [HQ.out]; rfl
                  · rw [HT.out]; exact HOq.out
              · have q1 : (m == e0) = true := by simp [hme]
                have q2 : (e0 != 0) = true := by simp [hz]
                have HQ : Hid (decide (m = e0 ∧ e0 ≠ 0) = true) := (by simp [hme, hz] : decide (m = e0 ∧ e0 ≠ 0) = true)
                clear hme hz
                go_quiet (fail)
                have HOq : Hid ((w2.drewN nq).ownsRow w1.heap.size 33 1 v2 ((ms.take k).map (Value.int .i64) ++ [Value.int .i64 m]).length ((ms.take k).map (Value.int .i64) ++ [.int .i64 m])) := HO2.out
                have HBq : Hid (Below w1.heap.size w1 (w2.drewN nq)) := ⟨HB2.out.os, HB2.out.tape, HB2.out.output, HB2.out.size, HB2.out.block⟩
                generalize w2.drewN nq = w3 at *
                go_wp2
                go_roundg (gk - 1)
                case measure => have := HB.out.2.2; omega
                case rel =>
                  refine ⟨k + 1, ?_, by omega, by go_num, ?_, ?_, HBq.out⟩
                  · have := HB.out.2.2; omega
                  · rw [HW.out]; rw [HQ.out]; rfl
                  · rw [HT.out]; exact HOq.out
            · have q1 : (m == e0) = false := by simp [hme]
              have HQ : Hid (decide (m = e0 ∧ e0 ≠ 0) = false) := (by simp [hme] : decide (m = e0 ∧ e0 ≠ 0) = false)
              clear hme
              go_quiet (fail)
              have HOq : Hid ((w2.drewN nq).ownsRow w1.heap.size 33 1 v2 ((ms.take k).map (Value.int .i64) ++ [Value.int .i64 m]).length ((ms.take k).map (Value.int .i64) ++ [.int .i64 m])) := HO2.out
              have HBq : Hid (Below w1.heap.size w1 (w2.drewN nq)) := ⟨HB2.out.os, HB2.out.tape, HB2.out.output, HB2.out.size, HB2.out.block⟩
              generalize w2.drewN nq = w3 at *
              go_wp2
              go_roundg (gk - 1)
              case measure => have := HB.out.2.2; omega
              case rel =>
                refine ⟨k + 1, ?_, by omega, by go_num, ?_, ?_, HBq.out⟩
                · have := HB.out.2.2; omega
                · rw [HW.out]; rw [HQ.out]; rfl
                · rw [HT.out]; exact HOq.out
        · obtain rfl : k = ms.length := by omega
          have HN := Lib.hid (show Row wr u5 (ms.map (Value.int .i64)) by
            have h := Row.of_owns HB.out.2.1
            rwa [List.take_length] at h)
          have X2 := Lib.hid (box_up X1.out HB.out.1)
          rw [List.take_length]
          have hNs := HN.out
          obtain ⟨aN, cN, rfl, -, -⟩ := hNs
          rw [List.length_map] at HN ⊢
          have HMl := Lib.hid (show ms.length ≤ 100000 by omega)
          clear HB hlt hk x0
          have nN := neqNone
          have e1 := eqlNone
          go_wp2_with fail
          have HA := Lib.hid ((Below.refl wr.heap.size wr).alloc (Nat.le_refl _) (.cells #[.string ⟨#[120]⟩] 9))
          refine (in_any (.iface 33 (.int .i64 5)) _ [] [.string ⟨#[120]⟩] 33 (.int .i64 5) _ ⟨[], rfl, rfl⟩ (row_lit wr [.string ⟨#[120]⟩] 9 1 rfl) (strs_one [⟨#[120]⟩]) (by simp)).mono ?_
          rintro e w3 ⟨v3, rfl, hE3, hb3'⟩
          have hb3 := HA.out.trans (hb3'.mono HA.out.size)
          obtain ⟨t3, z3, rfl⟩ := hE3.iface
          have I3 := Lib.hid (show Inv2 w (.iface t3 z3) (.slice aN ms.length cN) (ms.map (Value.int .i64)) (.int .i64 e0) (.int .i64 k0) (.slice a vs.length cap) w3 from ⟨⟨_, hE3⟩, HN.out.up hb3, HG.out.up (BW.out.trans (hb3.mono BW.out.size)), BW.out.trans (hb3.mono BW.out.size), box_up X2.out hb3⟩)
          clear hb3 hb3' hE3 HN X2 X1
          go_wp2_with fail
          obtain ⟨⟨ws3, hE3⟩, -, hG3, -, -⟩ := I3.out
          refine (at_errno _ ws3 5 _ hE3 hG3).mono ?_
          rintro e w4 ⟨rfl, hb4⟩
          have I4 := Lib.hid (I3.out.up hb4)
          clear hb4 hE3 hG3
          obtain ⟨x0, x1, x2⟩ := I4.out.2.2.2.2
          by_cases he : e0 = 0
          · subst he
            rw [want_zero]
            go_wp2_with fail
            refine (made_none _ k0 wss _ (HR.out.up I4.out.2.2.2.1) (great1_parts HL.out).1).mono ?_
            rintro e w5 ⟨rfl, hb5⟩
            have I5 := Lib.hid (I4.out.up hb5)
            clear hb5 x0 x1 x2
            go_wp2_with fail
            refine (is_nil _ _ ⟨_, _, _, rfl⟩).mono ?_
            rintro e w6 ⟨rfl, hb6⟩
            have I6 := Lib.hid (I5.out.up hb6)
            clear hb6
            go_wp2_with fail
            obtain ⟨⟨ws3, hE6⟩, -, hG6, -, -⟩ := I6.out
            refine (code_plain _ _ ws3 5 _ hE6 (.inl rfl) hG6).mono ?_
            rintro e w7 ⟨rfl, hb7⟩
            have I7 := Lib.hid (I6.out.up hb7)
            clear hb7 hE6 hG6
            go_wp2_with fail
            refine (code_nil _).mono ?_
            rintro e w' ⟨rfl, hw'⟩
            rw [hw']
            clear hw' w'
            go_wp2_with fail
            refine (in_nil _ _ ⟨_, _, _, rfl⟩).mono ?_
            rintro e w' ⟨rfl, hw'⟩
            rw [hw']
            clear hw' w'
            have I8 := Lib.hid (I7.out.up ((Below.refl w7.heap.size w7).alloc (Nat.le_refl _) (.cells #[.string ⟨#[120]⟩] 9)))
            go_wp2_with fail
            refine (awake_any _ I8.out.2.2.1).mono ?_
            rintro e w9 ⟨rfl, hb9⟩
            have I9 := Lib.hid (I8.out.up hb9)
            clear hb9
            go_wp2
            go_ret
            exact ⟨rfl, I9.out.2.2.2.1⟩
          · have HE := Lib.hid he
            rw [want_asks e0 ms he]
            clear he
            go_wp2_with fail
            refine (made_some _ e0 k0 wss _ (HR.out.up I4.out.2.2.2.1) HL.out HE.out).mono ?_
            rintro e w5 ⟨v5, bot, rfl, hE5, hF5, hb5⟩
            have I5 := Lib.hid (I4.out.up hb5)
            obtain ⟨t5, z5, rfl⟩ := tells_iface hE5 hF5.tells
            have HE5 := Lib.hid hE5
            have HF5 := Lib.hid hF5
            clear hb5 x0 x1 x2 hE5 hF5
            go_wp2_with fail
            refine (is_plain _ bot _ e0 ms _ _ HE5.out HF5.out.tells I5.out.2.1 HMl.out).mono ?_
            rintro e w6 ⟨rfl, hb6⟩
            have I6 := Lib.hid (I5.out.up hb6)
            clear hb6
            have q : (asks e0 ms == asks e0 ms) = true := by simp
            generalize asks e0 ms = y at *
            go_wp2_with fail
            obtain ⟨⟨ws3, hE6⟩, -, hG6, -, -⟩ := I6.out
            refine (code_plain _ _ ws3 5 _ hE6 (.inl rfl) hG6).mono ?_
            rintro e w7 ⟨rfl, hb7⟩
            have I7 := Lib.hid (I6.out.up hb7)
            clear hb7 hE6 hG6
            go_wp2_with fail
            refine (code_nil _).mono ?_
            rintro e w' ⟨rfl, hw'⟩
            rw [hw']
            clear hw' w'
            go_wp2_with fail
            refine (in_nil _ _ ⟨_, _, _, rfl⟩).mono ?_
            rintro e w' ⟨rfl, hw'⟩
            rw [hw']
            clear hw' w'
            have I8 := Lib.hid (I7.out.up ((Below.refl w7.heap.size w7).alloc (Nat.le_refl _) (.cells #[.string ⟨#[120]⟩] 9)))
            go_wp2_with fail
            refine (awake_any _ I8.out.2.2.1).mono ?_
            rintro e w9 ⟨rfl, hb9⟩
            have I9 := Lib.hid (I8.out.up hb9)
            clear hb9
            go_wp2
            go_ret
            exact ⟨rfl, I9.out.2.2.2.1⟩
end Go.Proofs.YtmlmgkaghcnpnaaDoor
