/- FaultTells: the number, the place and the words of an error that was put in any words. -/
import Derived.Test.YtmlmgkaghcnpnaaDoorAwake
import Derived.Deep.RegionHeld3
namespace Go.Proofs.YtmlmgkaghcnpnaaDoor
open Go.RowKit

/-- The three cells of a fault in words. -/
theorem box_up {w w' : World} {b : Nat} {x y z : Value} (h : w.cell? ⟨b, 0, none⟩ = some x ∧ w.cell? ⟨b, 1, none⟩ = some y ∧ w.cell? ⟨b, 2, none⟩ = some z) (hb : Below w.heap.size w w') :
    w'.cell? ⟨b, 0, none⟩ = some x ∧ w'.cell? ⟨b, 1, none⟩ = some y ∧ w'.cell? ⟨b, 2, none⟩ = some z :=
  ⟨(hb.cell (lt_of_cell h.1)).trans h.1, (hb.cell (lt_of_cell h.2.1)).trans h.2.1, (hb.cell (lt_of_cell h.2.2)).trans h.2.2⟩
theorem frow_one (w : World) (f : FD) (s : Value) (hr : Rows w s f.2.2) : FRow (w.alloc (.cells #[.int .i64 f.1, .int .i64 f.2.1, s] 24)) (.slice (some ⟨w.heap.size, 0, none⟩) 1 1) [f] := by
  refine .inr ⟨w.heap.size, 0, 1, rfl, fun j g hg => ?_⟩
  cases j with
  | zero =>
    obtain rfl : f = g := by simpa using hg
    exact ⟨by simp, by simp, s, by simp, hr.up ((Below.refl _ _).alloc (Nat.le_refl _) _)⟩
  | succ j => simp at hg
theorem great_one {f : FD} : greatF [f] = great1 f := by simp [greatF]

set_option maxHeartbeats 1600000 in
set_option maxRecDepth 100000 in
theorem faultTells_any (e0 k0 : Int) (sl : Value) (wss : List (List ByteArray)) (w : World) (hg : EtLaid w) (hr : Rows w sl wss) :
    Calls Tryd.prog 3 #[.agg #[.int .i64 e0, .int .i64 k0, sl]] w fun e w' => e = .returned (.bool true) ∧ Below w.heap.size w w' := by
  have HG := Lib.hid hg
  have HR := Lib.hid hr
  obtain ⟨vs, ⟨a, cap, rfl, -, -⟩, -, -⟩ := hr
  clear hg
  have HB1 := Lib.hid ((Below.refl w.heap.size w).alloc (Nat.le_refl _) (.cells #[.int .i64 e0, .int .i64 k0, .slice a vs.length cap] 24))
  have hbox : Hid ((w.alloc (.cells #[.int .i64 e0, .int .i64 k0, .slice a vs.length cap] 24)).cell? ⟨w.heap.size, 0, none⟩ = some (.int .i64 e0) ∧ (w.alloc (.cells #[.int .i64 e0, .int .i64 k0, .slice a vs.length cap] 24)).cell? ⟨w.heap.size, 1, none⟩ = some (.int .i64 k0) ∧ (w.alloc (.cells #[.int .i64 e0, .int .i64 k0, .slice a vs.length cap] 24)).cell? ⟨w.heap.size, 2, none⟩ = some (.slice a vs.length cap)) := ⟨by simp, by simp, by simp⟩
  have HGr := Lib.hid (great_any _ [(e0, k0, wss)] _ (frow_one (w.alloc (.cells #[.int .i64 e0, .int .i64 k0, .slice a vs.length cap] 24)) (e0, k0, wss) _ (HR.out.up HB1.out)))
  have HB2 := Lib.hid (HB1.out.alloc HB1.out.size (.cells #[.int .i64 e0, .int .i64 k0, .slice a vs.length cap] 24))
  have hbx2 := Lib.hid (box_up hbox.out ((Below.refl _ _).alloc (Nat.le_refl _) (.cells #[.int .i64 e0, .int .i64 k0, .slice a vs.length cap] 24)))
  rw [great_one, World.size_alloc] at HGr
  cases hgr : great1 (e0, k0, wss) with
  | true =>
    rw [hgr] at HGr
    go_enter Tryd.func3, Tryd.ntmps3
    go_wp2_with fail
    refine HGr.out.mono ?_
    rintro e w1 ⟨rfl, rfl⟩
    go_wp2_with fail
    refine (awake_any _ (HG.out.up HB2.out)).mono ?_
    rintro e w2 ⟨rfl, hb⟩
    have B2 := Lib.hid (HB2.out.trans (hb.mono HB2.out.size))
    clear hb
    go_wp2
    go_ret
    exact ⟨rfl, B2.out⟩
  | false =>
    rw [hgr] at HGr
    have HL := Lib.hid hgr
    clear hgr
    by_cases he : e0 = 0
    · subst he
      go_enter Tryd.func3, Tryd.ntmps3
      go_wp2_with fail
      refine HGr.out.mono ?_
      rintro e w1 ⟨rfl, hw1⟩
      have B1 : Hid (Below w.heap.size w w1) := hw1 ▸ HB2.out
      have X1 := hw1 ▸ hbx2.out
      obtain ⟨x0, x1, x2⟩ := X1
      clear hw1 HGr HB2 hbx2 hbox HB1
      go_wp2_with fail
      refine (made_none _ k0 wss _ (HR.out.up B1.out) (great1_parts HL.out).1).mono ?_
      rintro e w2 ⟨rfl, hb2⟩
      obtain ⟨y0, y1, y2⟩ := box_up ⟨x0, x1, x2⟩ hb2
      have B2 := Lib.hid (B1.out.trans (hb2.mono B1.out.size))
      clear hb2 x0 x1 x2
      go_wp2_with fail
      refine (at_nil _).mono ?_
      rintro e w3 ⟨rfl, hb3⟩
      obtain ⟨z0, z1, z2⟩ := box_up ⟨y0, y1, y2⟩ hb3
      have B3 := Lib.hid (B2.out.trans (hb3.mono B2.out.size))
      clear hb3 y0 y1 y2
      have B3' := Lib.hid B3.out.drew
      have S3 := Lib.hid (show w3.drew.cell? ⟨w.heap.size, 0, none⟩ = some (.int .i64 0) ∧ w3.drew.cell? ⟨w.heap.size, 1, none⟩ = some (.int .i64 k0) ∧ w3.drew.cell? ⟨w.heap.size, 2, none⟩ = some (.slice a vs.length cap) from ⟨z0, z1, z2⟩)
      have n1 := eqlNone
      go_wp2_with fail
      go_region_held3 (fun w' => w'.cell? ⟨w.heap.size, 0, none⟩ = some (.int .i64 0) ∧ w'.cell? ⟨w.heap.size, 1, none⟩ = some (.int .i64 k0) ∧ w'.cell? ⟨w.heap.size, 2, none⟩ = some (.slice a vs.length cap)) (first | exact S3.out | exact S4.out | exact S5.out | exact S6.out | exact S7.out)
        (first
          | (go_at_call 11; refine (code_nil _).mono ?_; rintro e w' ⟨rfl, rfl⟩)
          | (go_at_call 13; refine (words_nil _).mono ?_; rintro e w4 ⟨r4, rfl, hr4, hb4⟩; have B4 := Lib.hid (B3'.out.trans (hb4.mono B3'.out.size)); have HR4 := Lib.hid hr4; have S4 := Lib.hid (box_up S3.out hb4); obtain ⟨a4, c4, rfl, -, -⟩ := hr4; clear hb4)
          | (go_at_call 14; refine (rwords_any _ (0, k0, wss) _ (HR.out.up B4.out) HL.out).mono ?_; rintro e w5 ⟨r5, rfl, hr5, hb5⟩; have B5 := Lib.hid (B4.out.trans (hb5.mono B4.out.size)); have HR5 := Lib.hid hr5; have HR45 := Lib.hid (HR4.out.up hb5); have S5 := Lib.hid (box_up S4.out hb5); obtain ⟨a5, c5, rfl, -, -⟩ := hr5; clear hb5)
          | (go_at_call 12; refine (same_any _ _ [] [] _ HR45.out HR5.out (by decide)).mono ?_; rw [decide_self]; rintro e w6 ⟨rfl, hb6⟩; have B6 := Lib.hid (B5.out.trans (hb6.mono B5.out.size)); have S6 := Lib.hid (box_up S5.out hb6); clear hb6)
          | (go_at_call 8; refine (awake_any _ (HG.out.up B6.out)).mono ?_; rintro e w7 ⟨rfl, hb7⟩; have B7 := Lib.hid (B6.out.trans (hb7.mono B6.out.size)); have S7 := Lib.hid (box_up S6.out hb7); clear hb7))
      go_wp2
      go_ret
      exact ⟨rfl, B7.out⟩
    · have d0 : (e0 != 0) = true := by simp [he]
      have d1 : (e0 == 0) = false := by simp [he]
      have d2 : (e0 == e0) = true := by simp
      have d3 : (k0 == k0) = true := by simp
      have HE := Lib.hid he
      have HLen := Lib.hid (show ((rwords (e0, k0, wss)).map Value.string).length ≤ 100000 by
        rw [List.length_map, rwords, if_neg he]
        have := rev_le HL.out wss.length
        rw [List.take_length] at this
        simp only at this ⊢
        omega)
      have HLen2 := Lib.hid (show (rwords (e0, k0, wss)).length ≤ 1000000 by have := HLen.out; rw [List.length_map] at this; omega)
      clear he
      go_enter Tryd.func3, Tryd.ntmps3
      go_wp2_with fail
      refine HGr.out.mono ?_
      rintro e w1 ⟨rfl, hw1⟩
      have B1 : Hid (Below w.heap.size w w1) := hw1 ▸ HB2.out
      have X1 := hw1 ▸ hbx2.out
      obtain ⟨x0, x1, x2⟩ := X1
      clear hw1 HGr HB2 hbx2 hbox HB1
      go_wp2_with fail
      refine (made_some _ e0 k0 wss _ (HR.out.up B1.out) HL.out HE.out).mono ?_
      rintro e w2 ⟨v2, bot, rfl, hE2, hF2, hb2⟩
      obtain ⟨y0, y1, y2⟩ := box_up ⟨x0, x1, x2⟩ hb2
      have B2 := Lib.hid (B1.out.trans (hb2.mono B1.out.size))
      have HE2 := Lib.hid hE2
      have HF2 := Lib.hid hF2
      obtain ⟨t2, z2, rfl⟩ := tells_iface hE2 hF2.tells
      clear hb2 x0 x1 x2 hE2 hF2
      go_wp2_with fail
      refine (at_fault _ bot _ e0 k0 _ HE2.out HF2.out (HG.out.up B2.out)).mono ?_
      rintro e w3 ⟨rfl, hb3⟩
      obtain ⟨z0, z1, z2⟩ := box_up ⟨y0, y1, y2⟩ hb3
      have B3' := Lib.hid (B2.out.trans (hb3.mono B2.out.size)).drew
      have HE3 := Lib.hid (HE2.out.up hb3.drew)
      have HF3 := Lib.hid (HF2.out.up hb3.drew)
      clear hb3 y0 y1 y2
      have S3 := Lib.hid (show w3.drew.cell? ⟨w.heap.size, 0, none⟩ = some (.int .i64 e0) ∧ w3.drew.cell? ⟨w.heap.size, 1, none⟩ = some (.int .i64 k0) ∧ w3.drew.cell? ⟨w.heap.size, 2, none⟩ = some (.slice a vs.length cap) from ⟨z0, z1, z2⟩)
      have n1 := eqlSome
      go_wp2_with fail
      go_region_held3 (fun w' => w'.cell? ⟨w.heap.size, 0, none⟩ = some (.int .i64 e0) ∧ w'.cell? ⟨w.heap.size, 1, none⟩ = some (.int .i64 k0) ∧ w'.cell? ⟨w.heap.size, 2, none⟩ = some (.slice a vs.length cap)) (first | exact S3.out | exact S4.out | exact S5.out | exact S6.out | exact S7.out | exact S8.out)
        (first
          | (go_at_call 11; refine (code_plain _ bot _ e0 _ HE3.out HF3.out.tells (HG.out.up B3'.out)).mono ?_; rintro e w4 ⟨rfl, hb4⟩; have B4 := Lib.hid (B3'.out.trans (hb4.mono B3'.out.size)); have HE4 := Lib.hid (HE3.out.up hb4); have HF4 := Lib.hid (HF3.out.up hb4); have S4 := Lib.hid (box_up S3.out hb4); clear hb4)
          | (go_at_call 13; refine (words_any _ _ bot _ HE4.out HF4.out.isBot HLen.out).mono ?_; rintro e w5 ⟨r5, rfl, hr5, hb5⟩; have B5 := Lib.hid (B4.out.trans (hb5.mono B4.out.size)); have HR5 := Lib.hid hr5; have S5 := Lib.hid (box_up S4.out hb5); obtain ⟨a5, c5, rfl, -, -⟩ := hr5; rw [List.length_map] at HR5; rw [List.length_map]; clear hb5)
          | (go_at_call 14; refine (rwords_any _ (e0, k0, wss) _ (HR.out.up B5.out) HL.out).mono ?_; rintro e w6 ⟨r6, rfl, hr6, hb6⟩; have B6 := Lib.hid (B5.out.trans (hb6.mono B5.out.size)); have HR6 := Lib.hid hr6; have HR56 := Lib.hid (HR5.out.up hb6); have S6 := Lib.hid (box_up S5.out hb6); obtain ⟨a6, c6, rfl, -, -⟩ := hr6; rw [List.length_map] at HR6; rw [List.length_map]; clear hb6)
          | (go_at_call 12; refine (same_any _ _ (rwords (e0, k0, wss)) (rwords (e0, k0, wss)) _ HR56.out HR6.out HLen2.out).mono ?_; rw [decide_self]; rintro e w7 ⟨rfl, hb7⟩; have B7 := Lib.hid (B6.out.trans (hb7.mono B6.out.size)); have S7 := Lib.hid (box_up S6.out hb7); clear hb7)
          | (go_at_call 8; refine (awake_any _ (HG.out.up B7.out)).mono ?_; rintro e w8 ⟨rfl, hb8⟩; have B8 := Lib.hid (B7.out.trans (hb8.mono B7.out.size)); have S8 := Lib.hid (box_up S7.out hb8); clear hb8))
      go_wp2
      go_ret
      exact ⟨rfl, B8.out⟩
end Go.Proofs.YtmlmgkaghcnpnaaDoor
