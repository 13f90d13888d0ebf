/- FaultAlone: an error put in no words, or joined with none, tells what it told. -/
import Derived.Test.YtmlmgkaghcnpnaaDoorLawTells
namespace Go.Proofs.YtmlmgkaghcnpnaaDoor
open Go.RowKit

/-- What is known of the errors of the law, as the world grows. -/
def Inv (w0 : World) (v2 v3 : Value) (W : List Value) (bot : Value) (e0 k0 : Int) (w : World) : Prop := ErrOf w v2 W bot ∧ ErrOf w v3 W bot ∧ IsFault w bot e0 k0 ∧ EtLaid w ∧ Below w0.heap.size w0 w
theorem Inv.up {w0 w w' : World} {v2 v3 bot : Value} {W : List Value} {e0 k0 : Int} (h : Inv w0 v2 v3 W bot e0 k0 w) (hb : Below w.heap.size w w') : Inv w0 v2 v3 W bot e0 k0 w' :=
  ⟨h.1.up hb, h.2.1.up hb, h.2.2.1.up hb, h.2.2.2.1.up hb, h.2.2.2.2.trans (hb.mono h.2.2.2.2.size)⟩
theorem filter_one (t : TypeId) (x : Value) : [Value.nilIface, .iface t x, .nilIface].filter isErr = [.iface t x] := rfl
theorem filter_none : [Value.nilIface, .nilIface, .nilIface].filter isErr = [] := rfl
theorem shape_one (t : TypeId) (x : Value) : ∀ u ∈ [Value.nilIface, .iface t x, .nilIface], u = .nilIface ∨ ∃ t y, u = .iface t y := by
  intro u hu
  simp at hu
  rcases hu with rfl | rfl | rfl
  · exact .inl rfl
  · exact .inr ⟨_, _, rfl⟩
  · exact .inl rfl
theorem shape_none : ∀ u ∈ [Value.nilIface, .nilIface, .nilIface], u = .nilIface ∨ ∃ t y, u = .iface t y := by
  intro u hu
  simp at hu
  exact .inl hu
theorem row_nil (w : World) : Row w (.slice none 0 0) [] := ⟨none, 0, rfl, fun _ => ⟨rfl, rfl⟩, fun _ h => by cases h⟩

set_option maxHeartbeats 1600000 in
set_option maxRecDepth 100000 in
theorem faultAlone_any (e0 k0 : Int) (sl : Value) (wss : List (List ByteArray)) (at0 : Int) (w : World) (hg : EtLaid w) (hr : Rows w sl wss) :
    Calls Tryd.prog 6 #[.agg #[.int .i64 e0, .int .i64 k0, sl], .int .i64 at0] w fun e w' => e = .returned (.bool true) ∧ Below w.heap.size w w' := by
  have HG := Lib.hid hg
  have HR := Lib.hid hr
  obtain ⟨vs, ⟨a, cap, rfl, -, -⟩, -, -⟩ := hr
  clear hg
  have HB1 := Lib.hid ((Below.refl w.heap.size w).alloc (Nat.le_refl _) (.cells #[.int .i64 e0, .int .i64 k0, .slice a vs.length cap] 24))
  have HGr := Lib.hid (great_any _ [(e0, k0, wss)] _ (frow_one (w.alloc (.cells #[.int .i64 e0, .int .i64 k0, .slice a vs.length cap] 24)) (e0, k0, wss) _ (HR.out.up HB1.out)))
  have HB2 := Lib.hid (HB1.out.alloc HB1.out.size (.cells #[.int .i64 e0, .int .i64 k0, .slice a vs.length cap] 24))
  have hbox : Hid ((w.alloc (.cells #[.int .i64 e0, .int .i64 k0, .slice a vs.length cap] 24)).cell? ⟨w.heap.size, 0, none⟩ = some (.int .i64 e0) ∧ (w.alloc (.cells #[.int .i64 e0, .int .i64 k0, .slice a vs.length cap] 24)).cell? ⟨w.heap.size, 1, none⟩ = some (.int .i64 k0) ∧ (w.alloc (.cells #[.int .i64 e0, .int .i64 k0, .slice a vs.length cap] 24)).cell? ⟨w.heap.size, 2, none⟩ = some (.slice a vs.length cap)) := ⟨by simp, by simp, by simp⟩
  have hbx2 := Lib.hid (box_up hbox.out ((Below.refl _ _).alloc (Nat.le_refl _) (.cells #[.int .i64 e0, .int .i64 k0, .slice a vs.length cap] 24)))
  rw [great_one, World.size_alloc] at HGr
  cases hgr : great1 (e0, k0, wss) with
  | true =>
    rw [hgr] at HGr
    go_enter Tryd.func6, Tryd.ntmps6
    go_wp2_with fail
    refine HGr.out.mono ?_
    rintro e w1 ⟨rfl, rfl⟩
    go_wp2_with fail
    refine (awake_any _ (HG.out.up HB2.out)).mono ?_
    rintro e w2 ⟨rfl, hb⟩
    have B2 := Lib.hid (HB2.out.trans (hb.mono HB2.out.size))
    clear hb
    go_wp2
    go_ret
    exact ⟨rfl, B2.out⟩
  | false =>
    rw [hgr] at HGr
    have HL := Lib.hid hgr
    clear hgr
    have nN := neqNone
    by_cases he : e0 = 0
    · subst he
      go_enter Tryd.func6, Tryd.ntmps6
      go_wp2_with fail
      refine HGr.out.mono ?_
      rintro e w1 ⟨rfl, hw1⟩
      have B1 : Hid (Below w.heap.size w w1) := hw1 ▸ HB2.out
      have X1 := hw1 ▸ hbx2.out
      obtain ⟨x0, x1, x2⟩ := X1
      clear hw1 HGr HB2 HB1 hbox hbx2
      go_wp2_with fail
      refine (made_none _ k0 wss _ (HR.out.up B1.out) (great1_parts HL.out).1).mono ?_
      rintro e w2 ⟨rfl, hb2⟩
      have B2 := Lib.hid (B1.out.trans (hb2.mono B1.out.size))
      clear hb2 x0 x1 x2
      go_wp2_with fail
      refine (in_nil _ _ ⟨_, _, _, rfl⟩).mono ?_
      rintro e w' ⟨rfl, hw'⟩
      rw [hw']
      clear hw' w'
      go_wp2_with fail
      have HA2 := Lib.hid ((Below.refl w2.heap.size w2).alloc (Nat.le_refl _) (.cells #[.nilIface, .nilIface, .nilIface] 29))
      refine (join_any _ [.nilIface, .nilIface, .nilIface] _ (row_lit w2 [.nilIface, .nilIface, .nilIface] 29 3 rfl) shape_none (by decide)).mono ?_
      rintro e w3 ⟨v3, rfl, hb3, hv3, -, -⟩
      obtain rfl := hv3 filter_none
      have B3 := Lib.hid (B2.out.trans ((HA2.out.trans (hb3.mono HA2.out.size)).mono B2.out.size))
      clear hb3
      go_wp2_with fail
      refine (at_nil _).mono ?_
      rintro e w4 ⟨rfl, hb4⟩
      have B4 := Lib.hid (B3.out.trans (hb4.mono B3.out.size))
      clear hb4
      go_wp2_with fail
      refine (at_nil _).mono ?_
      rintro e w5 ⟨rfl, hb5⟩
      have B5 := Lib.hid (B4.out.trans (hb5.mono B4.out.size))
      clear hb5
      go_wp2_with fail
      refine (at_nil _).mono ?_
      rintro e w6 ⟨rfl, hb6⟩
      have B6 := Lib.hid (B5.out.trans (hb6.mono B5.out.size))
      clear hb6
      go_wp2_with fail
      refine (new_ok at0 _).mono ?_
      rintro e w' ⟨rfl, rfl⟩
      go_wp2_with fail
      refine (code_nil _).mono ?_
      rintro e w' ⟨rfl, rfl⟩
      go_wp2_with fail
      refine (code_nil _).mono ?_
      rintro e w' ⟨rfl, rfl⟩
      go_wp2_with fail
      refine (code_nil _).mono ?_
      rintro e w' ⟨rfl, rfl⟩
      go_wp2_with fail
      refine (code_nil _).mono ?_
      rintro e w' ⟨rfl, rfl⟩
      go_wp2_with fail
      refine (words_nil _).mono ?_
      rintro e w7 ⟨r7, rfl, hr7, hb7⟩
      have B7 := Lib.hid (B6.out.trans (hb7.mono B6.out.size))
      have HR7 := Lib.hid hr7
      obtain ⟨a7, c7, rfl, -, -⟩ := hr7
      clear hb7
      go_wp2_with fail
      refine (words_nil _).mono ?_
      rintro e w8 ⟨r8, rfl, hr8, hb8⟩
      have B8 := Lib.hid (B7.out.trans (hb8.mono B7.out.size))
      have HQ7 := Lib.hid (HR7.out.up hb8)
      have HR8 := Lib.hid hr8
      obtain ⟨a8, c8, rfl, -, -⟩ := hr8
      clear hb8
      go_wp2_with fail
      refine (same_any _ _ [] [] _ HQ7.out HR8.out (by decide)).mono ?_
      rw [decide_self]
      rintro e w9 ⟨rfl, hb9⟩
      have B9 := Lib.hid (B8.out.trans (hb9.mono B8.out.size))
      clear hb9
      go_wp2_with fail
      refine (words_nil _).mono ?_
      rintro e w10 ⟨r10, rfl, hr10, hb10⟩
      have B10 := Lib.hid (B9.out.trans (hb10.mono B9.out.size))
      have HR10 := Lib.hid hr10
      obtain ⟨a10, c10, rfl, -, -⟩ := hr10
      clear hb10
      go_wp2_with fail
      refine (words_nil _).mono ?_
      rintro e w11 ⟨r11, rfl, hr11, hb11⟩
      have B11 := Lib.hid (B10.out.trans (hb11.mono B10.out.size))
      have HQ10 := Lib.hid (HR10.out.up hb11)
      have HR11 := Lib.hid hr11
      obtain ⟨a11, c11, rfl, -, -⟩ := hr11
      clear hb11
      go_wp2_with fail
      refine (same_any _ _ [] [] _ HQ10.out HR11.out (by decide)).mono ?_
      rw [decide_self]
      rintro e w12 ⟨rfl, hb12⟩
      have B12 := Lib.hid (B11.out.trans (hb12.mono B11.out.size))
      clear hb12
      go_wp2_with fail
      refine (awake_any _ (HG.out.up B12.out)).mono ?_
      rintro e w13 ⟨rfl, hb13⟩
      have B13 := Lib.hid (B12.out.trans (hb13.mono B12.out.size))
      clear hb13
      go_wp2
      go_ret
      exact ⟨rfl, B13.out⟩
    · have d2 : (e0 == e0) = true := by simp
      have d3 : (k0 != k0) = false := by simp
      have HE := Lib.hid he
      have HLen := Lib.hid (show ((rwords (e0, k0, wss)).map Value.string).length ≤ 100000 by
        rw [List.length_map, rwords, if_neg he]
        have := rev_le HL.out wss.length
        rw [List.take_length] at this
        simp only at this ⊢
        omega)
      have HLen2 := Lib.hid (show (rwords (e0, k0, wss)).length ≤ 1000000 by have := HLen.out; rw [List.length_map] at this; omega)
      clear he
      go_enter Tryd.func6, Tryd.ntmps6
      go_wp2_with fail
      refine HGr.out.mono ?_
      rintro e w1 ⟨rfl, hw1⟩
      have B1 : Hid (Below w.heap.size w w1) := hw1 ▸ HB2.out
      have X1 := hw1 ▸ hbx2.out
      obtain ⟨x0, x1, x2⟩ := X1
      clear hw1 HGr HB2 HB1 hbox hbx2
      go_wp2_with fail
      refine (made_some _ e0 k0 wss _ (HR.out.up B1.out) HL.out HE.out).mono ?_
      rintro e w2 ⟨v2, bot, rfl, hE2, hF2, hb2⟩
      have B2 := Lib.hid (B1.out.trans (hb2.mono B1.out.size))
      have HE2 := Lib.hid hE2
      have HF2 := Lib.hid hF2
      obtain ⟨t2, z2, rfl⟩ := tells_iface hE2 hF2.tells
      obtain ⟨bb, rfl, -, -⟩ := hF2
      clear hb2 x0 x1 x2 hE2
      generalize hW : rwords (e0, k0, wss) = W at *
      clear hW
      go_wp2_with fail
      refine (in_any _ _ _ [] _ _ _ HE2.out (row_nil _) (fun _ h => by cases h) (by decide)).mono ?_
      rintro e w3 ⟨v3, rfl, hE3, hb3⟩
      rw [List.nil_append] at hE3
      obtain ⟨t3, z3, rfl⟩ := hE3.iface
      have I3 := Lib.hid (show Inv w (.iface t2 z2) (.iface t3 z3) (W.map Value.string) (.iface 52 (.pointer (some ⟨bb, 0, none⟩))) e0 k0 w3 from ⟨HE2.out.up hb3, hE3, HF2.out.up hb3, HG.out.up (B2.out.trans (hb3.mono B2.out.size)), B2.out.trans (hb3.mono B2.out.size)⟩)
      clear hb3 hE3
      go_wp2_with fail
      have HA3 := Lib.hid ((Below.refl w3.heap.size w3).alloc (Nat.le_refl _) (.cells #[.nilIface, .iface t2 z2, .nilIface] 29))
      refine (join_any _ [.nilIface, .iface t2 z2, .nilIface] _ (row_lit w3 [.nilIface, .iface t2 z2, .nilIface] 29 3 rfl) (shape_one t2 z2) (by simp)).mono ?_
      rintro e w4 ⟨v4, rfl, hb4, -, hv4, -⟩
      obtain rfl := hv4 _ (filter_one t2 z2)
      have I4 := Lib.hid ((I3.out.up HA3.out).up hb4)
      clear hb4
      go_wp2_with fail
      refine (at_fault _ _ _ e0 k0 _ I4.out.1 I4.out.2.2.1 I4.out.2.2.2.1).mono ?_
      rintro e w5 ⟨rfl, hb5⟩
      have I5 := Lib.hid (I4.out.up hb5)
      clear hb5
      go_wp2_with fail
      refine (at_fault _ _ _ e0 k0 _ I5.out.2.1 I5.out.2.2.1 I5.out.2.2.2.1).mono ?_
      rintro e w6 ⟨rfl, hb6⟩
      have I6 := Lib.hid (I5.out.up hb6)
      clear hb6
      go_wp2_with fail
      refine (at_fault _ _ _ e0 k0 _ I6.out.1 I6.out.2.2.1 I6.out.2.2.2.1).mono ?_
      rintro e w7 ⟨rfl, hb7⟩
      have I7 := Lib.hid (I6.out.up hb7)
      clear hb7
      go_wp2_with fail
      refine (new_ok at0 _).mono ?_
      rintro e w' ⟨rfl, rfl⟩
      go_wp2_with fail
      refine (code_plain _ _ _ e0 _ I7.out.2.1 I7.out.2.2.1.tells I7.out.2.2.2.1).mono ?_
      rintro e w8 ⟨rfl, hb8⟩
      have I8 := Lib.hid (I7.out.up hb8)
      clear hb8
      go_wp2_with fail
      refine (code_plain _ _ _ e0 _ I8.out.1 I8.out.2.2.1.tells I8.out.2.2.2.1).mono ?_
      rintro e w9 ⟨rfl, hb9⟩
      have I9 := Lib.hid (I8.out.up hb9)
      clear hb9
      go_wp2_with fail
      refine (code_plain _ _ _ e0 _ I9.out.1 I9.out.2.2.1.tells I9.out.2.2.2.1).mono ?_
      rintro e w10 ⟨rfl, hb10⟩
      have I10 := Lib.hid (I9.out.up hb10)
      clear hb10
      go_wp2_with fail
      refine (code_plain _ _ _ e0 _ I10.out.1 I10.out.2.2.1.tells I10.out.2.2.2.1).mono ?_
      rintro e w11 ⟨rfl, hb11⟩
      have I11 := Lib.hid (I10.out.up hb11)
      clear hb11
      go_wp2_with fail
      refine (words_any _ _ _ _ I11.out.2.1 I11.out.2.2.1.isBot HLen.out).mono ?_
      rintro e w12 ⟨r12, rfl, hr12, hb12⟩
      have I12 := Lib.hid (I11.out.up hb12)
      have HR12 := Lib.hid hr12
      obtain ⟨a12, c12, rfl, -, -⟩ := hr12
      rw [List.length_map] at HR12
      rw [List.length_map]
      clear hb12
      go_wp2_with fail
      refine (words_any _ _ _ _ I12.out.1 I12.out.2.2.1.isBot HLen.out).mono ?_
      rintro e w13 ⟨r13, rfl, hr13, hb13⟩
      have I13 := Lib.hid (I12.out.up hb13)
      have HQ12 := Lib.hid (HR12.out.up hb13)
      have HR13 := Lib.hid hr13
      obtain ⟨a13, c13, rfl, -, -⟩ := hr13
      rw [List.length_map] at HR13
      rw [List.length_map]
      clear hb13
      go_wp2_with fail
      refine (same_any _ _ W W _ HQ12.out HR13.out HLen2.out).mono ?_
      rw [decide_self]
      rintro e w14 ⟨rfl, hb14⟩
      have I14 := Lib.hid (I13.out.up hb14)
      clear hb14
      go_wp2_with fail
      refine (words_any _ _ _ _ I14.out.1 I14.out.2.2.1.isBot HLen.out).mono ?_
      rintro e w15 ⟨r15, rfl, hr15, hb15⟩
      have I15 := Lib.hid (I14.out.up hb15)
      have HR15 := Lib.hid hr15
      obtain ⟨a15, c15, rfl, -, -⟩ := hr15
      rw [List.length_map] at HR15
      rw [List.length_map]
      clear hb15
      go_wp2_with fail
      refine (words_any _ _ _ _ I15.out.1 I15.out.2.2.1.isBot HLen.out).mono ?_
      rintro e w16 ⟨r16, rfl, hr16, hb16⟩
      have I16 := Lib.hid (I15.out.up hb16)
      have HQ15 := Lib.hid (HR15.out.up hb16)
      have HR16 := Lib.hid hr16
      obtain ⟨a16, c16, rfl, -, -⟩ := hr16
      rw [List.length_map] at HR16
      rw [List.length_map]
      clear hb16
      go_wp2_with fail
      refine (same_any _ _ W W _ HQ15.out HR16.out HLen2.out).mono ?_
      rw [decide_self]
      rintro e w17 ⟨rfl, hb17⟩
      have I17 := Lib.hid (I16.out.up hb17)
      clear hb17
      go_wp2_with fail
      refine (awake_any _ I17.out.2.2.2.1).mono ?_
      rintro e w18 ⟨rfl, hb18⟩
      have I18 := Lib.hid (I17.out.up hb18)
      clear hb18
      go_wp2
      go_ret
      exact ⟨rfl, I18.out.2.2.2.2⟩
end Go.Proofs.YtmlmgkaghcnpnaaDoor
