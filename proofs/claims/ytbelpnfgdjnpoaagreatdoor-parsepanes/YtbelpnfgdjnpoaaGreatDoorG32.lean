/- Texts of this seat, 3 in one file. -/
import Derived.Test.YtbelpnfgdjnpoaaGreatDoorG03
import Derived.Test.YtbelpnfgdjnpoaaGreatDoorG31
import Derived.Test.YtbelpnfgdjnpoaaGreatDoorG25
import Derived.Test.YtbelpnfgdjnpoaaGreatDoorG24
import Derived.Test.YtbelpnfgdjnpoaaGreatDoorG30
/- How deep a tree is: the program's answer and the document's. -/
namespace Go.Proofs.YtbelpnfgdjnpoaaGreatDoor
open Go.RowKit

mutual
def depthT : T → Nat
  | .node _ _ _ l => 1 + depthL l
def depthL : List T → Nat
  | [] => 0
  | t :: l => max (depthT t) (depthL l)
end
theorem depthT_eq (t : T) : depthT t = 1 + depthL t.kids := by cases t; rw [depthT]; rfl
theorem depthL_append (a b : List T) : depthL (a ++ b) = max (depthL a) (depthL b) := by
  induction a with
  | nil => simp [depthL]
  | cons t l ih => simp only [List.cons_append, depthL, ih]; omega
theorem depthL_step {l : List T} {k : Nat} {t : T} (h : l[k]? = some t) : depthL (l.take (k + 1)) = max (depthL (l.take k)) (depthT t) := by
  rw [List.take_add_one, h, depthL_append]; simp [depthL]
mutual
theorem depthT_sz : ∀ t, depthT t ≤ sz t
  | .node _ _ _ l => by rw [depthT, sz]; have := depthL_sz l; omega
theorem depthL_sz : ∀ l, depthL l ≤ szL l
  | [] => by simp [depthL]
  | t :: l => by rw [depthL, szL]; have := depthT_sz t; have := depthL_sz l; omega
end

set_option maxRecDepth 100000 in
theorem depth_any (N : Nat) : ∀ (t : T) (c : C) (w : World), sz t ≤ N → sz t ≤ 1000000 → Is w c t →
    Calls Tryz.prog 37 #[cval c] w fun e w' => e = .returned (.int .i64 (depthT t : Nat)) ∧ Below w.heap.size w w' := by
  induction N with
  | zero => intro t c w h; have := sz_pos t; omega
  | succ N ih =>
    intro t c w hs hm hi
    have HR := Lib.hid hi.row
    have hn := hi.n
    have hfn := hi.fine.2.2.2
    obtain ⟨ck, cr, cid, ca, cn, ccap⟩ := c
    simp only at hn hfn
    subst hn
    clear hi
    have HS := Lib.hid hs
    have HM := Lib.hid hm
    have HIH := Lib.hid ih
    clear hs hm ih
    go_enter Tryz.func37, Tryz.ntmps37
    go_wp2
    go_loopg [3, 9] (t.kids.length + 1) (fun g n i wr => ∃ k : Nat, g + k = t.kids.length + 1 ∧ k ≤ t.kids.length ∧ i = .int .i64 k ∧ n = .int .i64 ((depthL (t.kids.take k) : Nat) : Int) ∧ Below w.heap.size w wr)
    case atStart => exact ⟨0, by omega, by omega, rfl, by simp [depthL], (Below.refl _ _).alloc (Nat.le_refl _) _⟩
    case round =>
      obtain ⟨k, hg, hk, rfl, rfl, hb⟩ := hrel
      have HG := Lib.hid hg
      have HB := Lib.hid hb
      clear hg hb
      by_cases hlt : k < t.kids.length
      · obtain ⟨b, o, rfl, hf⟩ := HR.out.place (by omega)
        obtain ⟨u, hu⟩ : ∃ u, t.kids[k]? = some u := ⟨_, List.getElem?_eq_getElem hlt⟩
        obtain ⟨x, hx, hix⟩ := hf k u hu
        clear hf
        obtain ⟨c0, c1, c2, c3, c4, c5, c6⟩ := hx.up HB.out
        have HA : Hid (Below wr.heap.size wr (wr.alloc (cbox x))) := (Below.refl _ _).alloc (Nat.le_refl _) _
        have HK := Lib.hid (HIH.out u x (wr.alloc (cbox x)) (by have := HS.out; have := sz_kid hu; omega) (by have := HM.out; have := sz_kid hu; omega) ((hix.up HB.out).up HA.out))
        have HST := Lib.hid (depthL_step hu)
        clear hix hu hx
        generalize depthL (t.kids.take k) = m at HST ⊢
        generalize depthT u = dd at HK HST
        go_wp2_with fail
        refine HK.out.mono ?_
        rintro e w2 ⟨rfl, hb2⟩
        have HB2 := Lib.hid hb2
        clear hb2
        by_cases hmd : m ≤ dd
        · have e1 : max (m : Int) (dd : Int) = dd := by omega
          go_wp2
          go_roundg (gk - 1)
          case measure => have := HG.out; omega
          case rel => exact ⟨k + 1, by have := HG.out; omega, by omega, by go_num, by rw [HST.out]; congr 1; omega, HB.out.trans ((below_one HB2.out).mono HB.out.size)⟩
        · have e1 : max (m : Int) (dd : Int) = m := by omega
          go_wp2
          go_roundg (gk - 1)
          case measure => have := HG.out; omega
          case rel => exact ⟨k + 1, by have := HG.out; omega, by omega, by go_num, by rw [HST.out]; congr 1; omega, HB.out.trans ((below_one HB2.out).mono HB.out.size)⟩
      · obtain rfl : k = t.kids.length := by omega
        have hkl : ((t.kids.length : Int) < (t.kids.length : Int)) = False := by simp
        rw [List.take_length]
        have hd := Lib.hid (depthT_eq t)
        have hle : depthL t.kids ≤ 1000000 := by have := depthL_sz t.kids; have := HM.out; have := sz_node t; omega
        go_wp2
        go_ret
        refine ⟨ret_int ?_, HB.out⟩
        rw [hd.out]; omega

end Go.Proofs.YtbelpnfgdjnpoaaGreatDoor
/- print.Body and print.Text: of trees that tile, and of others. -/
namespace Go.Proofs.YtbelpnfgdjnpoaaGreatDoor
open Go.RowKit
open Sash.Sum (putL putL_len)

theorem Bl.new (W : World) : Bl W.heap.size W.heap.size [] (W.alloc (.cells #[.pointer none, .slice none 0 0] 102)) :=
  .inl ⟨Nat.le_refl _, .slice none 0 0, Array.getElem?_push_size, World.ownsRowF_nil _ _ _ _, by simp [Value.ownBlock]⟩

set_option maxRecDepth 100000 in
set_option maxHeartbeats 2000000 in
theorem pbody_no (t : T) (c : C) (w : World) (hi : Is w c t) (hs : sz t ≤ 999) (ht : tileB t = false) :
    Calls Tryz.prog 35 #[cval c] w fun e w' => e = .returned (.tuple #[.string ⟨#[]⟩, .int .i64 1]) ∧ Below w.heap.size w w' := by
  have HA : Hid (Below w.heap.size w (w.alloc (cbox c))) := (Below.refl _ _).alloc (Nat.le_refl _) _
  have HT := Lib.hid (tilesOne_any t c (w.alloc (cbox c)) (hi.up HA.out) (fun _ => by omega) (w.heap.size + 1) (by simp))
  rw [ht] at HT
  clear hi ht
  go_enter Tryz.func35, Tryz.ntmps35
  go_wp2_with fail
  refine HT.out.mono ?_
  rintro e w2 ⟨rfl, hb2⟩
  have HB2 := Lib.hid (HA.out.trans (hb2.mono HA.out.size))
  clear hb2
  go_wp2
  go_ret2
  exact ⟨rfl, HB2.out⟩

set_option maxRecDepth 100000 in
set_option maxHeartbeats 2000000 in
theorem pbody_yes (t : T) (c : C) (w : World) (hi : Is w c t) (hs : sz t ≤ 999) (ht : tileB t = true) (htab : Tab w) :
    Calls Tryz.prog 35 #[cval c] w fun e w' => e = .returned (.tuple #[.string ⟨(bodyT t).toArray⟩, .int .i64 0]) ∧ Below w.heap.size w w' := by
  have HA : Hid (Below w.heap.size w (w.alloc (cbox c))) := (Below.refl _ _).alloc (Nat.le_refl _) _
  have HBX := Lib.hid (box_heap w c)
  have HI := Lib.hid hi
  have HT := Lib.hid (tilesOne_any t c (w.alloc (cbox c)) (hi.up HA.out) (fun _ => by omega) (w.heap.size + 1) (by simp))
  rw [ht] at HT
  have HO := Lib.hid (ok_tile (sz t) t (Nat.le_refl _) (by omega) ht)
  have HNE := Lib.hid (body_ne t)
  clear hi ht
  go_enter Tryz.func35, Tryz.ntmps35
  go_wp2_with fail
  refine HT.out.mono ?_
  rintro e w2 ⟨rfl, hb2⟩
  have HB2 := Lib.hid (HA.out.trans (hb2.mono HA.out.size))
  have HX2 := Lib.hid ((hb2.block w.heap.size (by simp)).trans HBX.out)
  clear hb2
  go_upto_region 4 with (fail)
  change Code.wp _ _ _ _ (w2.alloc (.cells #[.pointer none, .slice none 0 0] 102))
  have HBL := Lib.hid (Bl.new w2)
  have HW3 : Hid (Below w2.heap.size w2 (w2.alloc (.cells #[.pointer none, .slice none 0 0] 102))) := Lib.hid ((Below.refl _ _).alloc (Nat.le_refl _) _)
  have HX3 := Lib.hid ((HW3.out.block w.heap.size (box_lt HX2.out)).trans HX2.out)
  generalize w2.alloc (.cells #[.pointer none, .slice none 0 0] 102) = W3 at HBL HW3 HX3 ⊢
  have HC := Lib.hid (tells_all (sz t) t c w2.heap.size w2.heap.size [] w2 W3 (Nat.le_refl _) HO.out (HI.out.up HB2.out) (Nat.le_refl _) HW3.out HW3.out.size (tab_on htab HB2.out) HBL.out (by simp; omega))
  rw [List.nil_append] at HC
  obtain ⟨c0, c1, c2, c3, c4, c5, c6⟩ := box_cells HX3.out
  go_wp2_with fail
  refine HC.out.mono ?_
  rintro e w4 ⟨rfl, h1, h2, h3⟩
  have HS := Lib.hid (string_any _ _ _ w4 h1 HNE.out)
  have HB4 := Lib.hid (HB2.out.trans ((HW3.out.trans h2).mono HB2.out.size))
  clear h1 h2 h3 c0 c1 c2 c3 c4 c5 c6
  go_wp2_with fail
  refine HS.out.mono ?_
  rintro e w5 ⟨rfl, hb5⟩
  have HB5 := Lib.hid (HB4.out.trans (hb5.mono HB2.out.size))
  clear hb5
  go_wp2
  go_ret2
  exact ⟨rfl, HB5.out⟩

set_option maxRecDepth 100000 in
theorem ptext_no (t : T) (c : C) (w : World) (hi : Is w c t) (hs : sz t ≤ 999) (ht : tileB t = false) :
    Calls Tryz.prog 14 #[cval c] w fun e w' => e = .returned (.tuple #[.string ⟨#[]⟩, .int .i64 1]) ∧ Below w.heap.size w w' := by
  have HA : Hid (Below w.heap.size w (w.alloc (cbox c))) := (Below.refl _ _).alloc (Nat.le_refl _) _
  have HP := Lib.hid (pbody_no t c (w.alloc (cbox c)) (hi.up HA.out) hs ht)
  clear hi ht
  go_enter Tryz.func14, Tryz.ntmps14
  go_wp2_with fail
  refine HP.out.mono ?_
  rintro e w2 ⟨rfl, hb2⟩
  have HB2 := Lib.hid (HA.out.trans (hb2.mono HA.out.size))
  clear hb2
  go_wp2
  go_ret2
  exact ⟨rfl, HB2.out⟩

set_option maxRecDepth 100000 in
set_option maxHeartbeats 2000000 in
theorem ptext_yes (t : T) (c : C) (w : World) (hi : Is w c t) (hs : sz t ≤ 999) (ht : tileB t = true) (htab : Tab w) :
    Calls Tryz.prog 14 #[cval c] w fun e w' => e = .returned (.tuple #[.string ⟨(putL (bodyT t)).toArray⟩, .int .i64 0]) ∧ Below w.heap.size w w' := by
  have HA : Hid (Below w.heap.size w (w.alloc (cbox c))) := (Below.refl _ _).alloc (Nat.le_refl _) _
  have HBX := Lib.hid (box_heap w c)
  have HI := Lib.hid hi
  have hbl := body_len t
  have hpl : (putL (bodyT t)).length ≤ 65535 := by rw [putL_len]; omega
  have HP := Lib.hid (pbody_yes t c (w.alloc (cbox c)) (hi.up HA.out) hs ht (tab_on htab HA.out))
  have HPUT := Lib.hid (fun W => put_any ⟨(bodyT t).toArray⟩ W (by show (bodyT t).length ≤ 1000000; omega))
  rw [show (⟨(bodyT t).toArray⟩ : ByteArray).data.toList = bodyT t from rfl] at HPUT
  have hdz := depthT_sz t
  have d2 : decide ((1000 : Int) < (depthT t : Int)) = false := decide_eq_false (by omega)
  have HD := Lib.hid (fun W (h : Is W c t) => depth_any (sz t) t c W (Nat.le_refl _) (by omega) h)
  clear hi ht
  generalize putL (bodyT t) = pl at HPUT hpl ⊢
  have d1 : decide ((65535 : Int) < (pl.length : Int)) = false := decide_eq_false (by omega)
  go_enter Tryz.func14, Tryz.ntmps14
  go_wp2_with fail
  refine HP.out.mono ?_
  rintro e w2 ⟨rfl, hb2⟩
  have HB2 := Lib.hid (HA.out.trans (hb2.mono HA.out.size))
  have HX2 := Lib.hid ((hb2.block w.heap.size (by simp)).trans HBX.out)
  clear hb2
  go_wp2_with fail
  refine (HPUT.out w2).mono ?_
  rintro e w3 ⟨rfl, hb3⟩
  have HB3 := Lib.hid (HB2.out.trans (hb3.mono HB2.out.size))
  have HX3 := Lib.hid ((hb3.block w.heap.size (box_lt HX2.out)).trans HX2.out)
  clear hb3
  obtain ⟨c0, c1, c2, c3, c4, c5, c6⟩ := box_cells HX3.out
  go_wp2_with fail
  refine (HD.out w3 (HI.out.up HB3.out)).mono ?_
  rintro e w4 ⟨rfl, hb4⟩
  have HB4 := Lib.hid (HB3.out.trans (hb4.mono HB3.out.size))
  clear hb4 c0 c1 c2 c3 c4 c5 c6
  go_wp2
  go_ret2
  exact ⟨rfl, HB4.out⟩
end Go.Proofs.YtbelpnfgdjnpoaaGreatDoor
/- The law ParsePanes. -/
namespace Go.Proofs.YtbelpnfgdjnpoaaGreatDoor
open Go.RowKit
open Sash.Sum (cutE cutX putL putL_len)

theorem textP_sz {S : List UInt8} {t : T} (h : TextP S (.yes t)) : 9 * sz t ≤ S.length := by
  obtain ⟨t', e1, hok, hd, -, -⟩ := h.2.1.back
  cases e1
  have := body_ge hok
  have h2 := congrArg List.length hd
  rw [List.length_append, List.length_drop] at h2
  omega

set_option maxRecDepth 100000 in
set_option maxHeartbeats 4000000 in
theorem parsePanes_any (s : ByteArray) (w : World) (hg : Er.EtLaid w) : Calls Tryz.prog 6 #[.string s] w fun e w' => e = .returned (.bool true) ∧ Below w.heap.size w w' := by
  have HE := Lib.hid hg
  by_cases hl : 3000 < s.size
  · have q1 : decide ((3000 : Int) < (s.size : Int)) = true := decide_eq_true (by omega)
    have q2 : decide (3000 < s.size) = true := decide_eq_true hl
    have q3 : (3000 < s.size) = True := eq_true hl
    clear hg
    go_enter Tryz.func6, Tryz.ntmps6
    go_wp2_with fail
    refine (awake11_any w HE.out).mono ?_
    rintro e w1 ⟨rfl, hb1⟩
    have B1 := Lib.hid hb1
    clear hb1
    go_wp2
    go_ret
    exact ⟨rfl, B1.out⟩
  · have q1 : decide ((3000 : Int) < (s.size : Int)) = false := decide_eq_false (by omega)
    have q2 : decide (3000 < s.size) = false := decide_eq_false hl
    have q3 : (3000 < s.size) = False := eq_false hl
    have hSL : s.data.toList.length = s.size := by simp
    have KN := Lib.hid (panes_any s (by omega) (fun t h => by have := textP_sz h; omega) w hg)
    have KD := Lib.hid (fun W => dtext_any s W (by omega))
    have HSZ : Hid (∀ o, TextP s.data.toList o → sz (oT o) ≤ 1000000) := Lib.hid (fun o h => by
      cases o with
      | no e p => simp [oT, sz, szL]
      | yes t => have := textP_sz h; simp only [oT]; omega)
    clear hg hSL
    generalize s.data.toList = S at KN KD HSZ
    go_enter Tryz.func6, Tryz.ntmps6
    go_wp2_with fail
    refine KN.out.mono ?_
    rintro e w1 ⟨o, hrel, rfl, hb1⟩
    have HR1 := Lib.hid hrel
    have HS1 := Lib.hid (HSZ.out o hrel)
    have B1 := Lib.hid hb1
    clear hrel hb1
    go_wp2_with fail
    refine (KD.out w1).mono ?_
    rintro e w3 ⟨o2, d2, rfl, hrel, hi, hb3⟩
    obtain rfl : o = o2 := HR1.out.one (TextP.of hrel)
    have hba : Below w3.heap.size w3 (w3.alloc (cbox d2)) := (Below.refl _ _).alloc (Nat.le_refl _) _
    have hb34 := hb3.trans (hba.mono hb3.size)
    have B4 := Lib.hid (B1.out.trans (hb34.mono B1.out.size))
    have Y4 := Lib.hid (Box7.new w3 d2)
    have J4 := Lib.hid (hi.up hba)
    clear hrel hi hb3 hba hb34
    go_upto_region 5 with (fail)
    change Code.wp _ _ _ _ (w3.alloc (cbox d2))
    generalize w3.alloc (cbox d2) = w4 at B4 Y4 J4 ⊢
    generalize w3.heap.size = g3 at Y4 ⊢
    have KI := Lib.hid (rids_any (oT o) d2 w4 HS1.out J4.out)
    generalize oE o = oe
    have p0 : (oe == oe) = true := by simp
    obtain ⟨c0, c1, c2, c3, c4, c5, c6⟩ := Y4.out.cat
    simp only [Nat.zero_add] at c1 c2 c3 c4 c5 c6
    go_wp2_with fail
    refine KI.out.mono ?_
    rintro e w5 ⟨v5, rfl, hown, hb5⟩
    have B5 := Lib.hid (B4.out.trans (hb5.mono B4.out.size))
    obtain ⟨a5, cap5, hv5, -, -⟩ := hown.row
    rw [ints_length] at hv5
    subst hv5
    clear hb5 hown c0 c1 c2 c3 c4 c5 c6
    generalize (idsT (oT o)).length = ln
    go_wp2_with fail
    refine (awake11_any w5 (et_up HE.out B5.out)).mono ?_
    rintro e wb ⟨rfl, hbb⟩
    have Bb := Lib.hid (B5.out.trans (hbb.mono B5.out.size))
    clear hbb
    go_wp2
    go_ret
    exact ⟨rfl, Bb.out⟩
end Go.Proofs.YtbelpnfgdjnpoaaGreatDoor
