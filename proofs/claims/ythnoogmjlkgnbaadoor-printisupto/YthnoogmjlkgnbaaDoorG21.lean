/- Texts of this seat, 3 in one file. -/
import Derived.Test.YthnoogmjlkgnbaaDoorG17
import Derived.Test.YthnoogmjlkgnbaaDoorG18
import Derived.Test.YthnoogmjlkgnbaaDoorG20
/- print.Body and print.Text: of trees that tile, and of others. -/
namespace Go.Proofs.YthnoogmjlkgnbaaDoor
open Go.RowKit
open Sash.Sum (putL putL_len)

theorem Bl.new (W : World) : Bl W.heap.size W.heap.size [] (W.alloc (.cells #[.pointer none, .slice none 0 0] 48)) :=
  .inl ⟨Nat.le_refl _, .slice none 0 0, Array.getElem?_push_size, World.ownsRowF_nil _ _ _ _, by simp [Value.ownBlock]⟩

set_option maxRecDepth 100000 in
set_option maxHeartbeats 2000000 in
theorem pbody_no (t : T) (c : C) (w : World) (hi : Is w c t) (hs : sz t ≤ 999) (ht : tileB t = false) :
    Calls Tryd.prog 11 #[cval c] w fun e w' => e = .returned (.tuple #[.string ⟨#[]⟩, .int .i64 1]) ∧ Below w.heap.size w w' := by
  have HA : Hid (Below w.heap.size w (w.alloc (cbox c))) := (Below.refl _ _).alloc (Nat.le_refl _) _
  have HT := Lib.hid (tilesOne_any t c (w.alloc (cbox c)) (hi.up HA.out) (fun _ => hs) (w.heap.size + 1) (by simp))
  rw [ht] at HT
  clear hi ht
  go_enter Tryd.func11, Tryd.ntmps11
  go_wp2_with fail
  refine HT.out.mono ?_
  rintro e w2 ⟨rfl, hb2⟩
  have HB2 := Lib.hid (HA.out.trans (hb2.mono HA.out.size))
  clear hb2
  go_wp2
  go_ret2
  exact ⟨rfl, HB2.out⟩

set_option maxRecDepth 100000 in
set_option maxHeartbeats 2000000 in
theorem pbody_yes (t : T) (c : C) (w : World) (hi : Is w c t) (hs : sz t ≤ 999) (ht : tileB t = true) (htab : Tab w) :
    Calls Tryd.prog 11 #[cval c] w fun e w' => e = .returned (.tuple #[.string ⟨(bodyT t).toArray⟩, .int .i64 0]) ∧ Below w.heap.size w w' := by
  have HA : Hid (Below w.heap.size w (w.alloc (cbox c))) := (Below.refl _ _).alloc (Nat.le_refl _) _
  have HBX := Lib.hid (box_heap w c)
  have HI := Lib.hid hi
  have HT := Lib.hid (tilesOne_any t c (w.alloc (cbox c)) (hi.up HA.out) (fun _ => hs) (w.heap.size + 1) (by simp))
  rw [ht] at HT
  have HO := Lib.hid (ok_tile (sz t) t (Nat.le_refl _) hs ht)
  have HNE := Lib.hid (body_ne t)
  clear hi ht
  go_enter Tryd.func11, Tryd.ntmps11
  go_wp2_with fail
  refine HT.out.mono ?_
  rintro e w2 ⟨rfl, hb2⟩
  have HB2 := Lib.hid (HA.out.trans (hb2.mono HA.out.size))
  have HX2 := Lib.hid ((hb2.block w.heap.size (by simp)).trans HBX.out)
  clear hb2
  go_upto_region 4 with (fail)
  change Code.wp _ _ _ _ (w2.alloc (.cells #[.pointer none, .slice none 0 0] 48))
  have HBL := Lib.hid (Bl.new w2)
  have HW3 : Hid (Below w2.heap.size w2 (w2.alloc (.cells #[.pointer none, .slice none 0 0] 48))) := Lib.hid ((Below.refl _ _).alloc (Nat.le_refl _) _)
  have HX3 := Lib.hid ((HW3.out.block w.heap.size (box_lt HX2.out)).trans HX2.out)
  generalize w2.alloc (.cells #[.pointer none, .slice none 0 0] 48) = W3 at HBL HW3 HX3 ⊢
  have HC := Lib.hid (tells_all (sz t) t c w2.heap.size w2.heap.size [] w2 W3 (Nat.le_refl _) HO.out (HI.out.up HB2.out) (Nat.le_refl _) HW3.out HW3.out.size (tab_on htab HB2.out) HBL.out (by simp; omega))
  rw [List.nil_append] at HC
  obtain ⟨c0, c1, c2, c3, c4, c5, c6⟩ := box_cells HX3.out
  go_wp2_with fail
  refine HC.out.mono ?_
  rintro e w4 ⟨rfl, h1, h2, h3⟩
  have HS := Lib.hid (string_any _ _ _ w4 h1 HNE.out)
  have HB4 := Lib.hid (HB2.out.trans ((HW3.out.trans h2).mono HB2.out.size))
  clear h1 h2 h3 c0 c1 c2 c3 c4 c5 c6
  go_wp2_with fail
  refine HS.out.mono ?_
  rintro e w5 ⟨rfl, hb5⟩
  have HB5 := Lib.hid (HB4.out.trans (hb5.mono HB2.out.size))
  clear hb5
  go_wp2
  go_ret2
  exact ⟨rfl, HB5.out⟩

set_option maxRecDepth 100000 in
theorem ptext_no (t : T) (c : C) (w : World) (hi : Is w c t) (hs : sz t ≤ 999) (ht : tileB t = false) :
    Calls Tryd.prog 9 #[cval c] w fun e w' => e = .returned (.tuple #[.string ⟨#[]⟩, .int .i64 1]) ∧ Below w.heap.size w w' := by
  have HA : Hid (Below w.heap.size w (w.alloc (cbox c))) := (Below.refl _ _).alloc (Nat.le_refl _) _
  have HP := Lib.hid (pbody_no t c (w.alloc (cbox c)) (hi.up HA.out) hs ht)
  clear hi ht
  go_enter Tryd.func9, Tryd.ntmps9
  go_wp2_with fail
  refine HP.out.mono ?_
  rintro e w2 ⟨rfl, hb2⟩
  have HB2 := Lib.hid (HA.out.trans (hb2.mono HA.out.size))
  clear hb2
  go_wp2
  go_ret2
  exact ⟨rfl, HB2.out⟩

set_option maxRecDepth 100000 in
set_option maxHeartbeats 2000000 in
theorem ptext_yes (t : T) (c : C) (w : World) (hi : Is w c t) (hs : sz t ≤ 999) (ht : tileB t = true) (htab : Tab w) :
    Calls Tryd.prog 9 #[cval c] w fun e w' => e = .returned (.tuple #[.string ⟨(putL (bodyT t)).toArray⟩, .int .i64 0]) ∧ Below w.heap.size w w' := by
  have HA : Hid (Below w.heap.size w (w.alloc (cbox c))) := (Below.refl _ _).alloc (Nat.le_refl _) _
  have HBX := Lib.hid (box_heap w c)
  have HI := Lib.hid hi
  have hbl := body_len t
  have hpl : (putL (bodyT t)).length ≤ 65535 := by rw [putL_len]; omega
  have HP := Lib.hid (pbody_yes t c (w.alloc (cbox c)) (hi.up HA.out) hs ht (tab_on htab HA.out))
  have HPUT := Lib.hid (fun W => put_any ⟨(bodyT t).toArray⟩ W (by show (bodyT t).length ≤ 1000000; omega))
  rw [show (⟨(bodyT t).toArray⟩ : ByteArray).data.toList = bodyT t from rfl] at HPUT
  have hdz := depthT_sz t
  have d2 : decide ((1000 : Int) < (depthT t : Int)) = false := decide_eq_false (by omega)
  have HD := Lib.hid (fun W (h : Is W c t) => depth_any (sz t) t c W (Nat.le_refl _) (by omega) h)
  clear hi ht
  generalize putL (bodyT t) = pl at HPUT hpl ⊢
  have d1 : decide ((65535 : Int) < (pl.length : Int)) = false := decide_eq_false (by omega)
  go_enter Tryd.func9, Tryd.ntmps9
  go_wp2_with fail
  refine HP.out.mono ?_
  rintro e w2 ⟨rfl, hb2⟩
  have HB2 := Lib.hid (HA.out.trans (hb2.mono HA.out.size))
  have HX2 := Lib.hid ((hb2.block w.heap.size (by simp)).trans HBX.out)
  clear hb2
  go_wp2_with fail
  refine (HPUT.out w2).mono ?_
  rintro e w3 ⟨rfl, hb3⟩
  have HB3 := Lib.hid (HB2.out.trans (hb3.mono HB2.out.size))
  have HX3 := Lib.hid ((hb3.block w.heap.size (box_lt HX2.out)).trans HX2.out)
  clear hb3
  obtain ⟨c0, c1, c2, c3, c4, c5, c6⟩ := box_cells HX3.out
  go_wp2_with fail
  refine (HD.out w3 (HI.out.up HB3.out)).mono ?_
  rintro e w4 ⟨rfl, hb4⟩
  have HB4 := Lib.hid (HB3.out.trans (hb4.mono HB3.out.size))
  clear hb4 c0 c1 c2 c3 c4 c5 c6
  go_wp2
  go_ret2
  exact ⟨rfl, HB4.out⟩
end Go.Proofs.YthnoogmjlkgnbaaDoor
/- The document's example. -/
namespace Go.Proofs.YthnoogmjlkgnbaaDoor
open Go.RowKit
open Sash.Sum (putL putL_len)

abbrev exT : T := .node 1 ⟨0, 0, 80, 24⟩ 1 []
abbrev exC : C := ⟨1, ⟨0, 0, 80, 24⟩, 1, none, 0, 0⟩
theorem ex_tile : tileB exT = true := by
  have hp : preT exT = [exT] := by simp [preT, preL]
  have hf : fitB exT = true := (fitB_iff _).2 (.inl rfl)
  unfold tileB; rw [hp, show mayT exT = true by decide]; simp [hf]
theorem ex_is (w : World) : Is w exC exT := .mk exC [] [] (.inl ⟨_, _, rfl, rfl⟩) rfl ⟨⟨by decide, by decide⟩, ⟨⟨by decide, by decide⟩, ⟨by decide, by decide⟩, ⟨by decide, by decide⟩, ⟨by decide, by decide⟩⟩, ⟨by decide, by decide⟩, by decide⟩ (fun j x t hx => by simp at hx)
theorem ex_body : bodyT exT = [56, 48, 120, 50, 52, 44, 48, 44, 48, 44, 49] := by decide +kernel
theorem ex_sz : sz exT = 1 := by simp [sz, szL]

set_option maxRecDepth 100000 in
theorem awake_any (w : World) (htab : Tab w) : Calls Tryd.prog 8 #[] w fun e w' => e = .returned (.bool true) ∧ Below w.heap.size w w' := by
  have H := Lib.hid (ptext_yes exT exC w (ex_is w) (by rw [ex_sz]; decide) ex_tile htab)
  rw [ex_body, Sash.Sum.sum_awake] at H
  go_enter Tryd.func8, Tryd.ntmps8
  go_wp2_with fail
  refine H.out.mono ?_
  rintro e w2 ⟨rfl, hb2⟩
  have HB2 := Lib.hid hb2
  clear hb2
  go_wp2
  go_ret
  exact ⟨rfl, HB2.out⟩
end Go.Proofs.YthnoogmjlkgnbaaDoor
/- The law PrintHeads. -/
namespace Go.Proofs.YthnoogmjlkgnbaaDoor
open Go.RowKit

set_option maxRecDepth 100000 in
set_option maxHeartbeats 2000000 in
theorem printHeads_any (r : R) (w : World) (hr : r.fits) (htab : Tab w) : Calls Tryd.prog 4 #[val r] w fun e w' => e = .returned (.bool true) ∧ Below w.heap.size w w' := by
  have K1 := Lib.hid (fun W (ht : Tab W) => phead_any r W hr ht)
  have K2 := Lib.hid (fun W => rhead_any r W)
  have T := Lib.hid (fun W (h : HS w w.heap.size r W) => tab_on htab h.below)
  have HN := Lib.hid (HS.new w r)
  generalize (⟨(headL r).toArray⟩ : ByteArray) = s at K1 K2
  have b1 : (s.toList == s.toList) = true := by simp
  go_enter Tryd.func4, Tryd.ntmps4
  go_upto_region 1 with (fail)
  change Code.wp _ _ _ _ (w.alloc (rbox r))
  generalize w.alloc (rbox r) = W0 at HN ⊢
  have S0 := Lib.hid HN.out.drew
  have X0 := Lib.hid S0.out.cells
  go_region_held3 (fun W => W.cell? ⟨w.heap.size, 0, none⟩ = some (.int .i64 r.x) ∧ W.cell? ⟨w.heap.size, 1, none⟩ = some (.int .i64 r.y) ∧ W.cell? ⟨w.heap.size, 2, none⟩ = some (.int .i64 r.w) ∧ W.cell? ⟨w.heap.size, 3, none⟩ = some (.int .i64 r.h)) (first | exact X0.out | exact X1.out | exact X2.out | exact X3.out)
    (first
      | (go_at_call 14; (with_reducible refine (K1.out _ (T.out _ S0.out)).mono ?_); rintro e w1 ⟨rfl, hb1⟩; have S1 := Lib.hid (S0.out.up hb1); have X1 := Lib.hid S1.out.cells; clear hb1)
      | (go_at_call 15; (with_reducible refine (K2.out _).mono ?_); rintro e w2 ⟨rfl, hb2⟩; have S2 := Lib.hid (S1.out.up hb2); have X2 := Lib.hid S2.out.cells; clear hb2)
      | (go_at_call 8; (with_reducible refine (awake_any _ (T.out _ S2.out)).mono ?_); rintro e w3 ⟨rfl, hb3⟩; have S3 := Lib.hid (S2.out.up hb3); have X3 := Lib.hid S3.out.cells; clear hb3))
  all_goals
    go_wp2
    go_ret
    exact ⟨rfl, S3.out.below⟩

theorem printHeads_wf (v0 : Value) (r : R) (w : World) (e0 : v0 = val r) (hr : r.fits) (htab : Tab w) :
    Calls Tryd.prog 4 #[v0] w fun e w' => e = .returned (.bool true) ∧ Below w.heap.size w w' := by
  subst e0
  exact printHeads_any r w hr htab
end Go.Proofs.YthnoogmjlkgnbaaDoor
