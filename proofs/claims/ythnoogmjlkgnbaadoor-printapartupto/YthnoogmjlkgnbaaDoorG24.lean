/- Texts of this seat, 2 in one file. -/
import Derived.Test.YthnoogmjlkgnbaaDoorG23
import Derived.StillTailTactics
import Derived.Test.YthnoogmjlkgnbaaDoorG22
/- Are two trees the same? The document's walk. -/
namespace Go.Proofs.YthnoogmjlkgnbaaDoor
open Go.RowKit

theorem beq_dec (a b : Int) : (a == b) = decide (a = b) := by rw [Bool.eq_iff_iff]; simp
theorem cat_new (w : World) (c : C) : CAt (w.alloc (cbox c)) w.heap.size 0 c := by
  refine ⟨?_, ?_, ?_, ?_, ?_, ?_, ?_⟩ <;> simp
/-- Two boxes, one behind the other. -/
abbrev two (w : World) (c d : C) : World := (w.alloc (cbox c)).alloc (cbox d)
theorem two_fst {w w' : World} {c d : C} (h : Below (two w c d).heap.size (two w c d) w') : CAt w' w.heap.size 0 c :=
  ((cat_new w c).up ((Below.refl _ _).alloc (Nat.le_refl _) _)).up h
theorem two_snd {w w' : World} {c d : C} (h : Below (two w c d).heap.size (two w c d) w') : CAt w' (w.heap.size + 1) 0 d := by
  have := (cat_new (w.alloc (cbox c)) d).up h
  simpa using this

set_option maxRecDepth 100000 in
theorem rsame_any (N : Nat) : ∀ (t u : T) (c d : C) (w : World), sz t ≤ N → Is w c t → Is w d u →
    Calls Tryd.prog 18 #[cval c, cval d] w fun e w' => e = .returned (.bool (sameT t u)) ∧ Below w.heap.size w w' := by
  induction N with
  | zero => intro t u c d w h; have := sz_pos t; omega
  | succ N ih =>
    intro t u c d w hs hc hd
    have HA : Hid (Below w.heap.size w (two w c d)) := ((Below.refl _ _).alloc (Nat.le_refl _) _).alloc (by simp) _
    have HIH := Lib.hid ih
    have HS := Lib.hid hs
    have HC := Lib.hid hc.row
    have HD := Lib.hid hd.row
    have hcn := hc.n
    have hdn := hd.n
    have hlen := hc.len
    have hres : sameT t u = ((c.k == d.k) && (eqR c.r d.r && ((c.id == d.id) && sameL t.kids u.kids))) := by
      rw [sameT_eq, hc.split.1, hc.split.2.1, hc.split.2.2.1, hd.split.1, hd.split.2.1, hd.split.2.2.1, beq_dec, beq_dec]
    clear ih hs hc hd
    rw [hres]
    clear hres
    obtain ⟨ck, cr, cid, ca, cn, ccap⟩ := c
    obtain ⟨dk, dr, did, da, dn, dcap⟩ := d
    simp only at hcn hdn
    subst hcn
    subst hdn
    simp only
    have hg := eq_guardS
    have hE : ∀ w, (Op.equalIn 10000 23 (.agg #[.int .i64 cr.x, .int .i64 cr.y, .int .i64 cr.w, .int .i64 cr.h]) (.agg #[.int .i64 dr.x, .int .i64 dr.y, .int .i64 dr.w, .int .i64 dr.h])).run Tryd.prog w = .ok (eqR cr dr) w := eq_rect cr dr
    cases h1 : ck == dk with
    | false =>
      have h1' : (ck != dk) = true := by rw [bne, h1]; rfl
      go_enter Tryd.func18, Tryd.ntmps18
      go_wp2
      go_ret
      exact ⟨rfl, HA.out⟩
    | true =>
      have h1' : (ck != dk) = false := by rw [bne, h1]; rfl
      cases h2 : eqR cr dr with
      | false =>
        rw [h2] at hE
        go_enter Tryd.func18, Tryd.ntmps18
        go_wp2
        go_ret
        exact ⟨rfl, HA.out⟩
      | true =>
        rw [h2] at hE
        cases h3 : cid == did with
        | false =>
          have h3' : (cid != did) = true := by rw [bne, h3]; rfl
          go_enter Tryd.func18, Tryd.ntmps18
          go_wp2
          go_ret
          exact ⟨rfl, HA.out⟩
        | true =>
          have h3' : (cid != did) = false := by rw [bne, h3]; rfl
          simp only [Bool.true_and]
          by_cases h4 : t.kids.length = u.kids.length
          · have HLEN := Lib.hid h4
            have d0 : ((t.kids.length : Int) != (u.kids.length : Int)) = false := by simp; omega
            rw [← h4] at d0
            rw [← h4] at HD
            rw [← h4] at HA ⊢
            clear h4
            go_enter Tryd.func18, Tryd.ntmps18
            go_wp2
            go_loopg [37] (t.kids.length + 1) (fun g i wr => ∃ k : Nat, g + k = t.kids.length + 1 ∧ k ≤ t.kids.length ∧ i = .int .i64 k ∧ (∀ (j : Nat) (a b : T), j < k → t.kids[j]? = some a → u.kids[j]? = some b → sameT a b = true) ∧ Below (two w ⟨ck, cr, cid, ca, t.kids.length, ccap⟩ ⟨dk, dr, did, da, t.kids.length, dcap⟩).heap.size (two w ⟨ck, cr, cid, ca, t.kids.length, ccap⟩ ⟨dk, dr, did, da, t.kids.length, dcap⟩) wr)
            case atStart => exact ⟨0, by omega, by omega, rfl, fun j a b hj => by omega, Below.refl _ _⟩
            case round =>
              obtain ⟨k, hg', hk, rfl, hsame, hb⟩ := hrel
              have HG := Lib.hid hg'
              have HSM := Lib.hid hsame
              have HB := Lib.hid hb
              clear hg' hsame hb
              by_cases hlt : k < t.kids.length
              · obtain ⟨a, ha⟩ : ∃ a, t.kids[k]? = some a := ⟨_, List.getElem?_eq_getElem hlt⟩
                obtain ⟨b, hb⟩ : ∃ b, u.kids[k]? = some b := ⟨_, List.getElem?_eq_getElem (by have := HLEN.out; omega)⟩
                obtain ⟨b1, o1, rfl, hf1⟩ := HC.out.place (by omega)
                obtain ⟨b2, o2, rfl, hf2⟩ := HD.out.place (by have := HLEN.out; omega)
                obtain ⟨x, hx, hix⟩ := hf1 k a ha
                obtain ⟨y, hy, hiy⟩ := hf2 k b hb
                clear hf1 hf2
                have HBW := Lib.hid (HA.out.trans (HB.out.mono HA.out.size))
                obtain ⟨c0, c1, c2, c3, c4, c5, c6⟩ := hx.up HBW.out
                obtain ⟨e0, e1, e2, e3, e4, e5, e6⟩ := hy.up HBW.out
                have p6 := (two_fst HB.out).2.2.2.2.2.2
                have q6 := (two_snd HB.out).2.2.2.2.2.2
                have HX := Lib.hid hix
                have HY := Lib.hid hiy
                have HT := Lib.hid ha
                have HU := Lib.hid hb
                clear ha hb hx hy hix hiy
                have BD := Lib.hid HB.out.drew
                go_wp2
                go_still_tail 10, (by kernel_rfl)
                change wpList _ _ _ _ _ wr.drew
                generalize wr.drew = w4 at BD ⊢
                clear c0 c1 c2 c3 c4 c5 c6 e0 e1 e2 e3 e4 e5 e6 p6 q6
                have HW4 := Lib.hid (HA.out.trans (BD.out.mono HA.out.size))
                have HK := Lib.hid (HIH.out a b x y w4 (by have := HS.out; have := sz_kid HT.out; omega) (HX.out.up HW4.out) (HY.out.up HW4.out))
                cases hst : sameT a b with
                | true =>
                  rw [hst] at HK
                  have HST := Lib.hid hst
                  clear hst
                  go_wp2_with fail
                  refine HK.out.mono ?_
                  rintro e w5 ⟨rfl, hb5⟩
                  have B5 := Lib.hid (BD.out.trans (hb5.mono BD.out.size))
                  clear hb5
                  go_wp2
                  go_roundg (gk - 1)
                  case measure => have := HG.out; omega
                  case rel =>
                    refine ⟨k + 1, by have := HG.out; omega, by omega, by go_num, fun j p q hj hp hq => ?_, B5.out⟩
                    rcases Nat.lt_or_ge j k with h | h
                    · exact HSM.out j p q h hp hq
                    · obtain rfl : j = k := by omega
                      rw [HT.out] at hp; rw [HU.out] at hq
                      cases hp; cases hq
                      exact HST.out
                | false =>
                  rw [hst] at HK
                  have HST := Lib.hid (sameL_no HT.out HU.out hst)
                  clear hst
                  go_wp2_with fail
                  refine HK.out.mono ?_
                  rintro e w5 ⟨rfl, hb5⟩
                  have B5 := Lib.hid (BD.out.trans (hb5.mono BD.out.size))
                  clear hb5
                  go_wp2
                  go_ret
                  exact ⟨by rw [HST.out]; rfl, HA.out.trans (B5.out.mono HA.out.size)⟩
              · obtain rfl : k = t.kids.length := by omega
                have hkl : ((t.kids.length : Int) < (t.kids.length : Int)) = False := by simp
                have HST := Lib.hid (sameL_yes HLEN.out (fun k a b ha hb => HSM.out k a b (by
                  rcases Nat.lt_or_ge k t.kids.length with h | h
                  · exact h
                  · rw [List.getElem?_eq_none h] at ha; cases ha) ha hb))
                go_wp2
                go_ret
                exact ⟨by rw [HST.out]; rfl, HA.out.trans (HB.out.mono HA.out.size)⟩
          · have d0 : ((t.kids.length : Int) != (u.kids.length : Int)) = true := by simp; omega
            have d1 : (t.kids.length == u.kids.length) = false := by simpa using h4
            have HV := Lib.hid (sameL_len h4)
            go_enter Tryd.func18, Tryd.ntmps18
            go_wp2
            go_ret
            exact ⟨by rw [HV.out]; rfl, HA.out⟩
end Go.Proofs.YthnoogmjlkgnbaaDoor
/- The law PrintApart. -/
namespace Go.Proofs.YthnoogmjlkgnbaaDoor
open Go.RowKit
open Sash.Sum (putL putL_len)

/-- What stands while a law asks of two trees in boxes of its own. -/
structure Q2 (w : World) (c d : C) (W : World) : Prop where
  below : Below w.heap.size w W
  one : W.heap[w.heap.size]? = some (cbox c)
  two : W.heap[w.heap.size + 1]? = some (cbox d)
theorem Q2.up {w : World} {c d : C} {W W' : World} (h : Q2 w c d W) (hb : Below W.heap.size W W') : Q2 w c d W' := ⟨h.below.trans (hb.mono h.below.size), (hb.block _ (box_lt h.one)).trans h.one, (hb.block _ (box_lt h.two)).trans h.two⟩
theorem Q2.new (w : World) (c d : C) : Q2 w c d ((w.alloc (cbox c)).alloc (cbox d)) := by
  have h1 : (w.alloc (cbox c)).heap.size = w.heap.size + 1 := by simp
  have hb : Below (w.alloc (cbox c)).heap.size (w.alloc (cbox c)) ((w.alloc (cbox c)).alloc (cbox d)) := (Below.refl _ _).alloc (Nat.le_refl _) _
  refine ⟨((Below.refl _ _).alloc (Nat.le_refl _) _).alloc (by simp) _, (hb.block _ (by simp)).trans (box_heap w c), ?_⟩
  have := box_heap (w.alloc (cbox c)) d
  rwa [h1] at this
theorem Q2.a7 {w : World} {c d : C} {W : World} (h : Q2 w c d W) : D7 w.heap.size c W := box_cells h.one
theorem Q2.b7 {w : World} {c d : C} {W : World} (h : Q2 w c d W) : D7 (w.heap.size + 1) d W := box_cells h.two

theorem str_ne {a b : List UInt8} (h : a ≠ b) : ((⟨a.toArray⟩ : ByteArray).toList == (⟨b.toArray⟩ : ByteArray).toList) = false := by
  rw [Lib.toList_data, Lib.toList_data, beq_eq_false_iff_ne]
  exact h

set_option maxRecDepth 100000 in
set_option maxHeartbeats 8000000 in
theorem printApart_any (t u : T) (c d : C) (w : World) (hi : Is w c t) (hj : Is w d u) (hs : sz t ≤ 1099511627776) (hs' : sz u ≤ 1099511627776) (htab : Tab w) :
    Calls Tryd.prog 6 #[cval c, cval d] w fun e w' => e = .returned (.bool true) ∧ Below w.heap.size w w' := by
  have S0 := Lib.hid (Q2.new w c d)
  have HI := Lib.hid hi
  have HJ := Lib.hid hj
  have HG := Lib.hid (fun W (h : Q2 w c d W) => great_any t c W (HI.out.up h.below))
  have HH := Lib.hid (fun W (h : Q2 w c d W) => great_any u d W (HJ.out.up h.below))
  have HAW := Lib.hid (fun W (h : Q2 w c d W) => awake_any W (tab_on htab h.below))
  clear hi hj
  go_enter Tryd.func6, Tryd.ntmps6
  go_upto_region 1 with (fail)
  change Code.wp _ _ _ _ ((w.alloc (cbox c)).alloc (cbox d))
  generalize (w.alloc (cbox c)).alloc (cbox d) = w0 at S0 ⊢
  obtain ⟨a0, a1, a2, a3, a4, a5, a6⟩ := S0.out.a7
  obtain ⟨b0, b1, b2, b3, b4, b5, b6⟩ := S0.out.b7
  go_wp2_with fail
  refine (HG.out w0 S0.out).mono ?_
  rintro e w1 ⟨g, rfl, hg, hb1⟩
  have S1 := Lib.hid (S0.out.up hb1)
  have HF1 := Lib.hid hg
  clear hb1 hg a0 a1 a2 a3 a4 a5 a6 b0 b1 b2 b3 b4 b5 b6
  cases g with
  | true =>
    go_wp2_with fail
    refine (HAW.out w1 S1.out).mono ?_
    rintro e w2 ⟨rfl, hb2⟩
    have S2 := Lib.hid (S1.out.up hb2)
    clear hb2
    go_wp2
    go_ret
    exact ⟨rfl, S2.out.below⟩
  | false =>
    have hz1 : sz t ≤ 999 := Nat.le_trans (HF1.out rfl hs) (by decide)
    clear HF1 HG
    have KT := Lib.hid (fun W (h : Q2 w c d W) => rtiles8_any t c W (HI.out.up h.below) hz1)
    obtain ⟨a0, a1, a2, a3, a4, a5, a6⟩ := S1.out.a7
    obtain ⟨b0, b1, b2, b3, b4, b5, b6⟩ := S1.out.b7
    go_wp2_with fail
    refine (HH.out w1 S1.out).mono ?_
    rintro e w2 ⟨g, rfl, hg, hb2⟩
    have S2 := Lib.hid (S1.out.up hb2)
    have HF2 := Lib.hid hg
    clear hb2 hg a0 a1 a2 a3 a4 a5 a6 b0 b1 b2 b3 b4 b5 b6
    cases g with
    | true =>
      go_wp2_with fail
      refine (HAW.out w2 S2.out).mono ?_
      rintro e w3 ⟨rfl, hb3⟩
      have S3 := Lib.hid (S2.out.up hb3)
      clear hb3
      go_wp2
      go_ret
      exact ⟨rfl, S3.out.below⟩
    | false =>
      have hz2 : sz u ≤ 999 := Nat.le_trans (HF2.out rfl hs') (by decide)
      clear HF2 HH
      have KU := Lib.hid (fun W (h : Q2 w c d W) => rtiles8_any u d W (HJ.out.up h.below) hz2)
      cases ht : tileB t with
      | false =>
        rw [ht] at KT
        clear ht
        obtain ⟨a0, a1, a2, a3, a4, a5, a6⟩ := S2.out.a7
        obtain ⟨b0, b1, b2, b3, b4, b5, b6⟩ := S2.out.b7
        go_wp2_with fail
        refine (KT.out w2 S2.out).mono ?_
        rintro e w3 ⟨rfl, hb3⟩
        have S3 := Lib.hid (S2.out.up hb3)
        clear hb3 a0 a1 a2 a3 a4 a5 a6 b0 b1 b2 b3 b4 b5 b6
        go_wp2_with fail
        refine (HAW.out w3 S3.out).mono ?_
        rintro e w4 ⟨rfl, hb4⟩
        have S4 := Lib.hid (S3.out.up hb4)
        clear hb4
        go_wp2
        go_ret
        exact ⟨rfl, S4.out.below⟩
      | true =>
        rw [ht] at KT
        obtain ⟨a0, a1, a2, a3, a4, a5, a6⟩ := S2.out.a7
        obtain ⟨b0, b1, b2, b3, b4, b5, b6⟩ := S2.out.b7
        go_wp2_with fail
        refine (KT.out w2 S2.out).mono ?_
        rintro e w3 ⟨rfl, hb3⟩
        have S3 := Lib.hid (S2.out.up hb3)
        clear hb3 a0 a1 a2 a3 a4 a5 a6 b0 b1 b2 b3 b4 b5 b6
        cases hu : tileB u with
        | false =>
          rw [hu] at KU
          clear ht hu
          obtain ⟨a0, a1, a2, a3, a4, a5, a6⟩ := S3.out.a7
          obtain ⟨b0, b1, b2, b3, b4, b5, b6⟩ := S3.out.b7
          go_wp2_with fail
          refine (KU.out w3 S3.out).mono ?_
          rintro e w4 ⟨rfl, hb4⟩
          have S4 := Lib.hid (S3.out.up hb4)
          clear hb4 a0 a1 a2 a3 a4 a5 a6 b0 b1 b2 b3 b4 b5 b6
          go_wp2_with fail
          refine (HAW.out w4 S4.out).mono ?_
          rintro e w5 ⟨rfl, hb5⟩
          have S5 := Lib.hid (S4.out.up hb5)
          clear hb5
          go_wp2
          go_ret
          exact ⟨rfl, S5.out.below⟩
        | true =>
          rw [hu] at KU
          obtain ⟨a0, a1, a2, a3, a4, a5, a6⟩ := S3.out.a7
          obtain ⟨b0, b1, b2, b3, b4, b5, b6⟩ := S3.out.b7
          go_wp2_with fail
          refine (KU.out w3 S3.out).mono ?_
          rintro e w4 ⟨rfl, hb4⟩
          have S4 := Lib.hid (S3.out.up hb4)
          clear hb4 a0 a1 a2 a3 a4 a5 a6 b0 b1 b2 b3 b4 b5 b6
          have K1 := Lib.hid (fun W (h : Q2 w c d W) => ptext_yes t c W (HI.out.up h.below) hz1 ht (tab_on htab h.below))
          have K2 := Lib.hid (fun W (h : Q2 w c d W) => ptext_yes u d W (HJ.out.up h.below) hz2 hu (tab_on htab h.below))
          have K3 := Lib.hid (fun W (h : Q2 w c d W) => rsame_any (sz t) t u c d W (Nat.le_refl _) (HI.out.up h.below) (HJ.out.up h.below))
          have HS : Hid (((⟨(putL (bodyT t)).toArray⟩ : ByteArray).toList == (⟨(putL (bodyT u)).toArray⟩ : ByteArray).toList) = sameT t u) := Lib.hid (by
            cases e : sameT t u with
            | true => rw [(sameT_iff t u).1 e]; simp
            | false => exact str_ne (fun h => by rw [(sameT_iff t u).2 (text_inj hz1 hz2 ht hu h)] at e; cases e))
          clear ht hu hz1 hz2
          generalize (⟨(putL (bodyT t)).toArray⟩ : ByteArray) = s1 at K1 HS
          generalize (⟨(putL (bodyT u)).toArray⟩ : ByteArray) = s2 at K2 HS
          generalize sameT t u = q at K3 HS
          have hq := HS.out
          obtain ⟨a0, a1, a2, a3, a4, a5, a6⟩ := S4.out.a7
          obtain ⟨b0, b1, b2, b3, b4, b5, b6⟩ := S4.out.b7
          go_wp2_with fail
          refine (K1.out w4 S4.out).mono ?_
          rintro e w5 ⟨rfl, hb5⟩
          have S5 := Lib.hid (S4.out.up hb5)
          clear hb5 a0 a1 a2 a3 a4 a5 a6 b0 b1 b2 b3 b4 b5 b6
          obtain ⟨a0, a1, a2, a3, a4, a5, a6⟩ := S5.out.a7
          obtain ⟨b0, b1, b2, b3, b4, b5, b6⟩ := S5.out.b7
          go_wp2_with fail
          refine (K2.out w5 S5.out).mono ?_
          rintro e w6 ⟨rfl, hb6⟩
          have S6 := Lib.hid (S5.out.up hb6)
          clear hb6 a0 a1 a2 a3 a4 a5 a6 b0 b1 b2 b3 b4 b5 b6
          cases q
          all_goals
            obtain ⟨a0, a1, a2, a3, a4, a5, a6⟩ := S6.out.a7
            obtain ⟨b0, b1, b2, b3, b4, b5, b6⟩ := S6.out.b7
            go_wp2_with fail
            refine (K3.out w6 S6.out).mono ?_
            rintro e w7 ⟨rfl, hb7⟩
            have S7 := Lib.hid (S6.out.up hb7)
            clear hb7 a0 a1 a2 a3 a4 a5 a6 b0 b1 b2 b3 b4 b5 b6
            go_wp2_with fail
            refine (HAW.out w7 S7.out).mono ?_
            rintro e w8 ⟨rfl, hb8⟩
            have S8 := Lib.hid (S7.out.up hb8)
            clear hb8
            go_wp2
            go_ret
            exact ⟨rfl, S8.out.below⟩

theorem printApart_wf (v0 v1 : Value) (t u : T) (c d : C) (w : World) (e0 : v0 = cval c) (e1 : v1 = cval d) (hi : Is w c t) (hj : Is w d u) (hs : sz t ≤ 1048576) (hs' : sz u ≤ 1048576) (htab : Tab w) :
    Calls Tryd.prog 6 #[v0, v1] w fun e w' => e = .returned (.bool true) ∧ Below w.heap.size w w' := by
  subst e0 e1
  exact printApart_any t u c d w hi hj (by omega) (by omega) htab
end Go.Proofs.YthnoogmjlkgnbaaDoor
