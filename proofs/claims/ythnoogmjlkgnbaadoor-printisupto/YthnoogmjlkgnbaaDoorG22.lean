/- Texts of this seat, 3 in one file. -/
import Derived.Test.YthnoogmjlkgnbaaDoorG21
/- The document's Text: of trees that tile, and of others. -/
namespace Go.Proofs.YthnoogmjlkgnbaaDoor
open Go.RowKit
open Sash.Sum (putL putL_len)

set_option maxRecDepth 100000 in
theorem rtext_no (t : T) (c : C) (w : World) (hi : Is w c t) (hs : sz t ≤ 999) (ht : tileB t = false) :
    Calls Tryd.prog 10 #[cval c] w fun e w' => e = .returned (.tuple #[.string ⟨#[]⟩, .int .i64 1]) ∧ Below w.heap.size w w' := by
  have HA : Hid (Below w.heap.size w (w.alloc (cbox c))) := (Below.refl _ _).alloc (Nat.le_refl _) _
  have HT := Lib.hid (rtiles8_any t c (w.alloc (cbox c)) (hi.up HA.out) hs)
  rw [ht] at HT
  clear hi ht
  go_enter Tryd.func10, Tryd.ntmps10
  go_wp2_with fail
  refine HT.out.mono ?_
  rintro e w2 ⟨rfl, hb2⟩
  have HB2 := Lib.hid (HA.out.trans (hb2.mono HA.out.size))
  clear hb2
  go_wp2
  go_ret2
  exact ⟨rfl, HB2.out⟩

set_option maxRecDepth 100000 in
set_option maxHeartbeats 2000000 in
theorem rtext_yes (t : T) (c : C) (w : World) (hi : Is w c t) (hs : sz t ≤ 999) (ht : tileB t = true) :
    Calls Tryd.prog 10 #[cval c] w fun e w' => e = .returned (.tuple #[.string ⟨(putL (bodyT t)).toArray⟩, .int .i64 0]) ∧ Below w.heap.size w w' := by
  have HA : Hid (Below w.heap.size w (w.alloc (cbox c))) := (Below.refl _ _).alloc (Nat.le_refl _) _
  have HBX := Lib.hid (box_heap w c)
  have HI := Lib.hid hi
  have hbl := body_len t
  have hpl : (putL (bodyT t)).length ≤ 65535 := by rw [putL_len]; omega
  have HT := Lib.hid (rtiles8_any t c (w.alloc (cbox c)) (hi.up HA.out) hs)
  rw [ht] at HT
  have HP := Lib.hid (fun W (h : Is W c t) => rbody_any (sz t) t c W (Nat.le_refl _) (by omega) h)
  have HPUT := Lib.hid (fun W => refPut_any ⟨(bodyT t).toArray⟩ W (by show (bodyT t).length ≤ 1000000; omega))
  rw [show (⟨(bodyT t).toArray⟩ : ByteArray).data.toList = bodyT t from rfl] at HPUT
  have hdz := depthT_sz t
  have d2 : decide ((1000 : Int) < (depthT t : Int)) = false := decide_eq_false (by omega)
  have HD := Lib.hid (fun W (h : Is W c t) => rdepth_any (sz t) t c W (Nat.le_refl _) (by omega) h)
  clear hi ht
  generalize putL (bodyT t) = pl at HPUT hpl ⊢
  have d1 : decide ((65535 : Int) < (pl.length : Int)) = false := decide_eq_false (by omega)
  go_enter Tryd.func10, Tryd.ntmps10
  go_wp2_with fail
  refine HT.out.mono ?_
  rintro e w2 ⟨rfl, hb2⟩
  have HB2 := Lib.hid (HA.out.trans (hb2.mono HA.out.size))
  have HX2 := Lib.hid ((hb2.block w.heap.size (by simp)).trans HBX.out)
  clear hb2
  obtain ⟨c0, c1, c2, c3, c4, c5, c6⟩ := box_cells HX2.out
  go_wp2_with fail
  refine (HP.out w2 (HI.out.up HB2.out)).mono ?_
  rintro e w3 ⟨rfl, hb3⟩
  have HB3 := Lib.hid (HB2.out.trans (hb3.mono HB2.out.size))
  have HX3 := Lib.hid ((hb3.block w.heap.size (box_lt HX2.out)).trans HX2.out)
  clear hb3 c0 c1 c2 c3 c4 c5 c6
  go_wp2_with fail
  refine (HPUT.out w3).mono ?_
  rintro e w4 ⟨rfl, rfl⟩
  obtain ⟨c0, c1, c2, c3, c4, c5, c6⟩ := box_cells HX3.out
  go_wp2_with fail
  refine (HD.out w3 (HI.out.up HB3.out)).mono ?_
  rintro e w4 ⟨rfl, hb4⟩
  have HB4 := Lib.hid (HB3.out.trans (hb4.mono HB3.out.size))
  clear hb4 c0 c1 c2 c3 c4 c5 c6
  go_wp2
  go_ret2
  exact ⟨rfl, HB4.out⟩
end Go.Proofs.YthnoogmjlkgnbaaDoor
/- The law PrintIs. -/
namespace Go.Proofs.YthnoogmjlkgnbaaDoor
open Go.RowKit
open Sash.Sum (putL putL_len)

/-- What stands while a law asks of the tree in a box of its own. -/
structure QS (w : World) (c : C) (W : World) : Prop where
  below : Below w.heap.size w W
  box : W.heap[w.heap.size]? = some (cbox c)
theorem QS.up {w : World} {c : C} {W W' : World} (h : QS w c W) (hb : Below W.heap.size W W') : QS w c W' := ⟨h.below.trans (hb.mono h.below.size), (hb.block _ (box_lt h.box)).trans h.box⟩
theorem QS.new (w : World) (c : C) : QS w c (w.alloc (cbox c)) := ⟨(Below.refl _ _).alloc (Nat.le_refl _) _, box_heap w c⟩
theorem QS.d7 {w : World} {c : C} {W : World} (h : QS w c W) : D7 w.heap.size c W := box_cells h.box

set_option maxRecDepth 100000 in
set_option maxHeartbeats 4000000 in
theorem printIs_any (t : T) (c : C) (w : World) (hi : Is w c t) (hs : sz t ≤ 1099511627776) (htab : Tab w) :
    Calls Tryd.prog 3 #[cval c] w fun e w' => e = .returned (.bool true) ∧ Below w.heap.size w w' := by
  have S0 := Lib.hid (QS.new w c)
  have HG := Lib.hid (great_any t c (w.alloc (cbox c)) (hi.up S0.out.below))
  have HI := Lib.hid hi
  have HAW := Lib.hid (fun W (h : QS w c W) => awake_any W (tab_on htab h.below))
  clear hi
  go_enter Tryd.func3, Tryd.ntmps3
  go_wp2_with fail
  refine HG.out.mono ?_
  rintro e w1 ⟨g, rfl, hg, hb1⟩
  have S1 := Lib.hid (S0.out.up hb1)
  have HF := Lib.hid hg
  clear hb1 hg
  cases g with
  | true =>
    go_wp2_with fail
    refine (HAW.out w1 S1.out).mono ?_
    rintro e w2 ⟨rfl, hb2⟩
    have S2 := Lib.hid (S1.out.up hb2)
    clear hb2
    go_wp2
    go_ret
    exact ⟨rfl, S2.out.below⟩
  | false =>
    have hsz : sz t ≤ 999 := Nat.le_trans (HF.out rfl hs) (by decide)
    have KT := Lib.hid (fun W (h : QS w c W) => rtiles8_any t c W (HI.out.up h.below) hsz)
    cases ht : tileB t with
    | false =>
      rw [ht] at KT
      have K1 := Lib.hid (fun W (h : QS w c W) => ptext_no t c W (HI.out.up h.below) hsz ht)
      have K2 := Lib.hid (fun W (h : QS w c W) => rtext_no t c W (HI.out.up h.below) hsz ht)
      have K3 := Lib.hid (fun W (h : QS w c W) => pbody_no t c W (HI.out.up h.below) hsz ht)
      clear ht hsz
      obtain ⟨c0, c1, c2, c3, c4, c5, c6⟩ := S1.out.d7
      go_wp2_with fail
      refine (K1.out w1 S1.out).mono ?_
      rintro e w2 ⟨rfl, hb2⟩
      have S2 := Lib.hid (S1.out.up hb2)
      clear hb2 c0 c1 c2 c3 c4 c5 c6
      obtain ⟨c0, c1, c2, c3, c4, c5, c6⟩ := S2.out.d7
      go_wp2_with fail
      refine (K2.out w2 S2.out).mono ?_
      rintro e w3 ⟨rfl, hb3⟩
      have S3 := Lib.hid (S2.out.up hb3)
      clear hb3 c0 c1 c2 c3 c4 c5 c6
      obtain ⟨c0, c1, c2, c3, c4, c5, c6⟩ := S3.out.d7
      go_wp2_with fail
      refine (K3.out w3 S3.out).mono ?_
      rintro e w4 ⟨rfl, hb4⟩
      have S4 := Lib.hid (S3.out.up hb4)
      clear hb4 c0 c1 c2 c3 c4 c5 c6
      obtain ⟨c0, c1, c2, c3, c4, c5, c6⟩ := S4.out.d7
      go_wp2_with fail
      refine (KT.out w4 S4.out).mono ?_
      rintro e w5 ⟨rfl, hb5⟩
      have S5 := Lib.hid (S4.out.up hb5)
      clear hb5 c0 c1 c2 c3 c4 c5 c6
      go_wp2_with fail
      refine (HAW.out w5 S5.out).mono ?_
      rintro e w6 ⟨rfl, hb6⟩
      have S6 := Lib.hid (S5.out.up hb6)
      clear hb6
      go_wp2
      go_ret
      exact ⟨rfl, S6.out.below⟩
    | true =>
      rw [ht] at KT
      have K1 := Lib.hid (fun W (h : QS w c W) => ptext_yes t c W (HI.out.up h.below) hsz ht (tab_on htab h.below))
      have K2 := Lib.hid (fun W (h : QS w c W) => rtext_yes t c W (HI.out.up h.below) hsz ht)
      have K3 := Lib.hid (fun W (h : QS w c W) => pbody_yes t c W (HI.out.up h.below) hsz ht (tab_on htab h.below))
      have K4 := Lib.hid (fun W (h : QS w c W) => rbody_any (sz t) t c W (Nat.le_refl _) (by omega) (HI.out.up h.below))
      clear ht hsz
      generalize (⟨(putL (bodyT t)).toArray⟩ : ByteArray) = s at K1 K2
      generalize (⟨(bodyT t).toArray⟩ : ByteArray) = b at K3 K4
      have b1 : (s.toList == s.toList) = true := by simp
      have b2 : (b.toList == b.toList) = true := by simp
      have b3 : (s.toList != s.toList) = false := by simp
      obtain ⟨c0, c1, c2, c3, c4, c5, c6⟩ := S1.out.d7
      go_wp2_with fail
      refine (K1.out w1 S1.out).mono ?_
      rintro e w2 ⟨rfl, hb2⟩
      have S2 := Lib.hid (S1.out.up hb2)
      clear hb2 c0 c1 c2 c3 c4 c5 c6
      obtain ⟨c0, c1, c2, c3, c4, c5, c6⟩ := S2.out.d7
      go_wp2_with fail
      refine (K2.out w2 S2.out).mono ?_
      rintro e w3 ⟨rfl, hb3⟩
      have S3 := Lib.hid (S2.out.up hb3)
      clear hb3 c0 c1 c2 c3 c4 c5 c6
      obtain ⟨c0, c1, c2, c3, c4, c5, c6⟩ := S3.out.d7
      go_wp2_with fail
      refine (K3.out w3 S3.out).mono ?_
      rintro e w4 ⟨rfl, hb4⟩
      have S4 := Lib.hid (S3.out.up hb4)
      clear hb4 c0 c1 c2 c3 c4 c5 c6
      obtain ⟨c0, c1, c2, c3, c4, c5, c6⟩ := S4.out.d7
      go_wp2_with fail
      refine (KT.out w4 S4.out).mono ?_
      rintro e w5 ⟨rfl, hb5⟩
      have S5 := Lib.hid (S4.out.up hb5)
      clear hb5 c0 c1 c2 c3 c4 c5 c6
      obtain ⟨c0, c1, c2, c3, c4, c5, c6⟩ := S5.out.d7
      go_wp2_with fail
      refine (K4.out w5 S5.out).mono ?_
      rintro e w6 ⟨rfl, hb6⟩
      have S6 := Lib.hid (S5.out.up hb6)
      clear hb6 c0 c1 c2 c3 c4 c5 c6
      go_wp2_with fail
      refine (HAW.out w6 S6.out).mono ?_
      rintro e w7 ⟨rfl, hb7⟩
      have S7 := Lib.hid (S6.out.up hb7)
      clear hb7
      go_wp2
      go_ret
      exact ⟨rfl, S7.out.below⟩

theorem printIs_wf (v0 : Value) (t : T) (c : C) (w : World) (e0 : v0 = cval c) (hi : Is w c t) (hs : sz t ≤ 1048576) (htab : Tab w) :
    Calls Tryd.prog 3 #[v0] w fun e w' => e = .returned (.bool true) ∧ Below w.heap.size w w' := by
  subst e0
  exact printIs_any t c w hi (by omega) htab
end Go.Proofs.YthnoogmjlkgnbaaDoor
/- print.Fits: have all these trees a text? -/
namespace Go.Proofs.YthnoogmjlkgnbaaDoor
open Go.RowKit
open Sash.Sum (putL putL_len)

theorem entersFits : Enters 31 := enters_of Tryd.func31 (by kernel_rfl) rfl

set_option maxRecDepth 100000 in
theorem fits1_any (t : T) (c : C) (w : World) (hi : Is w c t) (hs : sz t ≤ 999) (htab : Tab w) : Calls Tryd.prog 31 #[cval c] w fun e w' => e = .returned (.bool (!tileB t)) ∧ Below w.heap.size w w' := by
  have HA : Hid (Below w.heap.size w (w.alloc (cbox c))) := (Below.refl _ _).alloc (Nat.le_refl _) _
  cases ht : tileB t with
  | true =>
    have HP := Lib.hid (ptext_yes t c (w.alloc (cbox c)) (hi.up HA.out) hs ht (tab_on htab HA.out))
    clear hi ht
    go_enter Tryd.func31, Tryd.ntmps31
    go_wp2_with fail
    refine HP.out.mono ?_
    rintro e w2 ⟨rfl, hb2⟩
    have HB2 := Lib.hid (HA.out.trans (hb2.mono HA.out.size))
    clear hb2
    go_wp2
    go_ret
    exact ⟨rfl, HB2.out⟩
  | false =>
    have HP := Lib.hid (ptext_no t c (w.alloc (cbox c)) (hi.up HA.out) hs ht)
    clear hi ht
    go_enter Tryd.func31, Tryd.ntmps31
    go_wp2_with fail
    refine HP.out.mono ?_
    rintro e w2 ⟨rfl, hb2⟩
    have HB2 := Lib.hid (HA.out.trans (hb2.mono HA.out.size))
    clear hb2
    go_wp2
    go_ret
    exact ⟨rfl, HB2.out⟩

set_option maxRecDepth 100000 in
set_option maxHeartbeats 800000 in
theorem idxF_any (l : List T) (v : Value) (w : World) (hr : TRow w v l) (hl : l.length ≤ 1954687338211) (hs : ∀ t ∈ l, sz t ≤ 999) (htab : Tab w) :
    Calls Tryd.prog 46 #[v, .func (.func 31) #[] #[]] w (IdxSays l w) := by
  have hent : ∀ (args : Array Value) (w : World), (callFunc 31 args).run Tryd.prog w = .ok (.enter 31 args) w := entersFits
  obtain ⟨a, cap, rfl⟩ := hr.shape
  have HR := Lib.hid hr
  have HS := Lib.hid hs
  clear hr hs
  go_enter Tryd.func46, Tryd.ntmps46
  go_wp2
  go_loopg [8] (l.length + 1) (fun g i wr => ∃ k : Nat, g + k = l.length + 1 ∧ k ≤ l.length ∧ i = .int .i64 k ∧ (∀ (j : Nat) (t : T), j < k → l[j]? = some t → tileB t = true) ∧ Below w.heap.size w wr)
  case atStart => exact ⟨0, by omega, by omega, rfl, fun j t hj => by omega, Below.refl _ _⟩
  case round =>
    obtain ⟨k, hg, hk, rfl, hsame, hb⟩ := hrel
    have HG := Lib.hid hg
    have HSM := Lib.hid hsame
    have HB := Lib.hid hb
    clear hg hsame hb
    by_cases hlt : k < l.length
    · obtain ⟨t, ht⟩ : ∃ t, l[k]? = some t := ⟨_, List.getElem?_eq_getElem hlt⟩
      obtain ⟨b1, o1, rfl, hf1⟩ := HR.out.place (by omega)
      obtain ⟨x, hx, hix⟩ := hf1 k t ht
      clear hf1
      obtain ⟨c0, c1, c2, c3, c4, c5, c6⟩ := hx.up HB.out
      have HC := Lib.hid (fits1_any t x wr (hix.up HB.out) (HS.out t (List.mem_of_getElem? ht)) (tab_on htab HB.out))
      have HT := Lib.hid ht
      clear ht hx hix
      cases hst : tileB t with
      | true =>
        rw [hst] at HC
        have HST := Lib.hid hst
        clear hst
        go_wp2_with fail
        refine HC.out.mono ?_
        rintro e w2 ⟨rfl, hb2⟩
        have HB2 := Lib.hid (HB.out.trans (hb2.mono HB.out.size))
        clear hb2
        go_wp2
        go_roundg (gk - 1)
        case measure => have := HG.out; omega
        case rel =>
          refine ⟨k + 1, by have := HG.out; omega, by omega, by go_num, fun j a hj ha => ?_, HB2.out⟩
          rcases Nat.lt_or_ge j k with h | h
          · exact HSM.out j a h ha
          · obtain rfl : j = k := by omega
            rw [HT.out] at ha
            cases ha
            exact HST.out
      | false =>
        rw [hst] at HC
        have HST := Lib.hid (all_no HT.out hst)
        clear hst
        go_wp2_with fail
        refine HC.out.mono ?_
        rintro e w2 ⟨rfl, hb2⟩
        have HB2 := Lib.hid (HB.out.trans (hb2.mono HB.out.size))
        clear hb2
        go_wp2
        go_ret
        exact ⟨k, rfl, (fun h => by rw [HST.out] at h; cases h), fun _ => by omega, HB2.out⟩
    · obtain rfl : k = l.length := by omega
      have hkl : ((l.length : Int) < (l.length : Int)) = False := by simp
      have HST := Lib.hid (all_yes (fun k t ht => HSM.out k t (by
        rcases Nat.lt_or_ge k l.length with h | h
        · exact h
        · rw [List.getElem?_eq_none h] at ht; cases ht) ht))
      go_wp2
      go_ret
      exact ⟨-1, rfl, fun _ => rfl, (fun h => by rw [HST.out] at h; cases h), HB.out⟩

set_option maxRecDepth 100000 in
theorem hasF_any (l : List T) (v : Value) (w : World) (hr : TRow w v l) (hl : l.length ≤ 1954687338211) (hs : ∀ t ∈ l, sz t ≤ 999) (htab : Tab w) :
    Calls Tryd.prog 30 #[v, .func (.func 31) #[] #[]] w fun e w' => e = .returned (.bool (!(l.all tileB))) ∧ Below w.heap.size w w' := by
  have H2 : Hid (Calls Tryd.prog 46 #[v, .func (.func 31) #[] #[]] w fun e w' => ∃ n : Int, e = .returned (.int .i64 n) ∧ decide (0 ≤ n) = (!(l.all tileB)) ∧ Below w.heap.size w w') := Lib.hid ((idxF_any l v w hr hl hs htab).mono fun e w' ⟨n, h1, h2, h3, h4⟩ => ⟨n, h1, by
    cases hb : l.all tileB with
    | true => rw [h2 hb]; rfl
    | false => exact decide_eq_true (h3 hb), h4⟩)
  obtain ⟨a, cap, rfl⟩ := hr.shape
  clear hr hs
  generalize (!(l.all tileB)) = b at H2 ⊢
  go_enter Tryd.func30, Tryd.ntmps30
  go_wp2_with fail
  refine H2.out.mono ?_
  rintro e w2 ⟨n, rfl, hd, hb2⟩
  have HB2 := Lib.hid hb2
  clear hb2
  subst hd
  go_wp2
  go_ret
  exact ⟨rfl, HB2.out⟩

set_option maxRecDepth 100000 in
theorem pfits_any (l : List T) (v : Value) (w : World) (hr : TRow w v l) (hl : l.length ≤ 1954687338211) (hs : ∀ t ∈ l, sz t ≤ 999) (htab : Tab w) :
    Calls Tryd.prog 17 #[v] w fun e w' => e = .returned (.bool (l.all tileB)) ∧ Below w.heap.size w w' := by
  have H := Lib.hid (hasF_any l v w hr hl hs htab)
  obtain ⟨a, cap, rfl⟩ := hr.shape
  clear hr hs
  generalize l.all tileB = b at H ⊢
  go_enter Tryd.func17, Tryd.ntmps17
  go_wp2_with fail
  refine H.out.mono ?_
  rintro e w2 ⟨rfl, hb2⟩
  have HB2 := Lib.hid hb2
  clear hb2
  go_wp2
  go_ret
  exact ⟨by simp, HB2.out⟩
end Go.Proofs.YthnoogmjlkgnbaaDoor
