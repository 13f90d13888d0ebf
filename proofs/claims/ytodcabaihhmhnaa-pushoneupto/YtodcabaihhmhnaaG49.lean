/- Texts of this seat, 3 in one file. -/
import Derived.Test.YtodcabaihhmhnaaG47
import Derived.Test.YtodcabaihhmhnaaG48
import Derived.Test.YtodcabaihhmhnaaG31
import Derived.Test.YtodcabaihhmhnaaG16
import Derived.Test.YtodcabaihhmhnaaG03
/- The law PushOne. -/
namespace Go.Proofs.Ytodcabaihhmhnaa
open Go.RowKit Sh

theorem pu_bound {id ax b : Int} {t : T} (hm : sz t ≤ 990) (h0 : fdE id ax t = 0) (hb : 0 ≤ b) : 0 ≤ puN id ax b t ∧ puN id ax b t ≤ b := by
  obtain ⟨hax, -, p, n, y, k, P, -, -, hy, -, -, hX, -, hPl, hP, hal, hty, hsy⟩ := frame_is hm h0
  obtain ⟨hinv, hS, -⟩ := pu_start hax hsy hty hal
  obtain ⟨v, hv⟩ : ∃ v, y.kids[P]? = some v := ⟨_, List.getElem?_eq_getElem (by omega)⟩
  unfold puN puD puR absN
  rw [hX]
  show 0 ≤ (if 0 < b then (psT ax P (decide (0 < b)) (if 0 < b then b else -b) 20001 y 0).2 else -(psT ax P (decide (0 < b)) (if 0 < b then b else -b) 20001 y 0).2) ∧ (if 0 < b then (psT ax P (decide (0 < b)) (if 0 < b then b else -b) 20001 y 0).2 else -(psT ax P (decide (0 < b)) (if 0 < b then b else -b) 20001 y 0).2) ≤ b
  by_cases h : 0 < b
  · rw [decide_eq_true h, if_pos h, if_pos h]
    obtain ⟨v', h1, h2, h3, h4⟩ := ps_place (a := b) (up := true) hax hS hPl 20001 y v 0 hinv hv hb
    exact ⟨h3, h4⟩
  · rw [decide_eq_false h, if_neg h, if_neg h, ps_stop (.inl (by omega))]
    simp; omega

set_option maxHeartbeats 4000000 in
set_option maxRecDepth 100000 in
theorem pushOne_any (t : T) (c : C) (id ax b : Int) (w : World) (hi : Is w c t) (hb0 : 0 ≤ b) (hb1 : b ≤ 65535) (hs : sz t ≤ 1099511627776) : Calls Try.prog 5 #[cval c, .int .i64 id, .int .u8 ax, .int .u16 b] w fun e w' => e = .returned (.bool true) ∧ Below w.heap.size w w' := by
  have S0 := Lib.hid (QSt.new w c)
  have HG := Lib.hid (great_any t c (w.alloc (cbox c)) (hi.up S0.out.below))
  have HI := Lib.hid hi
  have HB := Lib.hid (show 0 ≤ b ∧ b ≤ 65535 from ⟨hb0, hb1⟩)
  have hwb : IntKind.i64.wrap b = b := wrap_id (by omega)
  clear hi hb0 hb1
  obtain ⟨c0, c1, c2, c3, c4, c5, c6⟩ := S0.out.c7
  go_enter Try.func5, Try.ntmps5
  go_wp2_with fail
  refine HG.out.mono ?_
  rintro e w1 ⟨g, rfl, hg, hb1⟩
  have S1 := Lib.hid (S0.out.up hb1)
  have HGR := Lib.hid hg
  clear hb1 hg c0 c1 c2 c3 c4 c5 c6
  cases g with
  | true =>
    go_wp2_with fail
    refine (awake14_any w1).mono ?_
    rintro e w2 ⟨rfl, hb2⟩
    have S2 := Lib.hid (S1.out.up hb2)
    clear hb2
    go_wp2
    go_ret
    exact ⟨rfl, S2.out.below⟩
  | false =>
    have hsz : sz t ≤ 200 := HGR.out rfl hs
    have HM : Hid (sz t ≤ 990) := Lib.hid (by omega)
    have HA := Lib.hid (rall_any w1 (sz t) t c w1 (Nat.le_refl _) (by omega) (HI.out.up S1.out.below) (Below.refl _ _))
    have K1 := Lib.hid (fun W (h : QSt w c W) => rframe_any id ax t c W (by omega) (HI.out.up h.below))
    have K2 : Hid (∀ W, QSt w c W → Calls Try.prog 11 #[cval c, .int .i64 id, .int .u8 ax, .int .i64 b] W fun e w' => ∃ d, e = .returned (.tuple #[cval d, .int .i64 (puM id ax b t), .int .i64 (puE id ax b t)]) ∧ Is w' d (puU id ax b t) ∧ Below W.heap.size W w') := Lib.hid fun W h => (ppush_any id ax b t c W (by omega) (HI.out.up h.below) (by unfold fits; have := HB.out; omega)).mono fun e w' h => pu_all h
    clear hsz hs HGR
    obtain ⟨c0, c1, c2, c3, c4, c5, c6⟩ := S1.out.c7
    go_wp2_with fail
    refine HA.out.mono ?_
    rintro e wA ⟨v, cs, rfl, hown, -, hbA⟩
    have SA := Lib.hid (S1.out.up hbA)
    obtain ⟨va, vcap, rfl⟩ := hown.row.shape
    clear hbA hown c0 c1 c2 c3 c4 c5 c6 HA
    generalize cs.length = m
    by_cases hm : 100 < m
    · have d1 : decide ((100 : Int) < (m : Int)) = true := decide_eq_true (by omega)
      go_wp2_with fail
      refine (awake14_any wA).mono ?_
      rintro e w2 ⟨rfl, hb2⟩
      have S2 := Lib.hid (SA.out.up hb2)
      clear hb2
      go_wp2
      go_ret
      exact ⟨rfl, S2.out.below⟩
    · have d1 : decide ((100 : Int) < (m : Int)) = false := decide_eq_false (by omega)
      obtain ⟨c0, c1, c2, c3, c4, c5, c6⟩ := SA.out.c7
      go_wp2_with fail
      refine (K1.out wA SA.out).mono ?_
      rintro e w2 ⟨hb2, hcase⟩
      have S2 := Lib.hid (SA.out.up hb2)
      clear hb2 c0 c1 c2 c3 c4 c5 c6 hm d1 K1
      rcases hcase with ⟨h0, rfl⟩ | ⟨h0, p, n, y, k, a, cap, hf, hr, hy, hk, hn, rfl, hp, hfar⟩
      · have HE : puE id ax b t = fdE id ax t := if_neg h0
        rw [HE] at K2
        have b1 : (fdE id ax t == 0) = false := by simpa using h0
        have b2 : (fdE id ax t != 0) = true := by simpa using h0
        have b3 : (fdE id ax t == fdE id ax t) = true := by simp
        clear h0 HE
        generalize fdE id ax t = E at *
        have S3 := Lib.hid (S2.out.up ((Below.refl _ _).alloc (Nat.le_refl _) (fO (.slice none 0 0) 0 E)))
        have F3 := Lib.hid (heap_alloc_new w2 (fO (.slice none 0 0) 0 E))
        obtain ⟨c0, c1, c2, c3, c4, c5, c6⟩ := S3.out.c7
        go_wp2_with fail
        refine (K2.out _ S3.out).mono ?_
        rintro e w4 ⟨d, rfl, -, hb4⟩
        have A4 : Below w4.heap.size w4 (w4.alloc (cbox d)) := (Below.refl _ _).alloc (Nat.le_refl _) _
        have S4 := Lib.hid ((S3.out.up hb4).up A4)
        have F4 := Lib.hid ((A4.block _ (by have := hb4.size; have := lt_of_block F3.out; omega)).trans ((hb4.block _ (lt_of_block F3.out)).trans F3.out))
        clear hb4 A4 c0 c1 c2 c3 c4 c5 c6
        obtain ⟨⟨s0, s1, s2⟩, -⟩ := f_parts F4.out
        go_wp2_with fail
        refine (awake14_any _).mono ?_
        rintro e w7 ⟨rfl, hb7⟩
        have S7 := Lib.hid (S4.out.up hb7)
        clear hb7
        go_wp2
        go_ret
        exact ⟨rfl, S7.out.below⟩
      · obtain ⟨was, now, hwas, hnow, hsn⟩ := push_one HM.out h0 HB.out.1
        rw [frp_is hf hr, frx_is hf hr hy hk] at hwas hnow
        have HPL : Hid (p.length ≤ 990) := Lib.hid (by have := findT_len id p t hf; have := HM.out; omega)
        obtain ⟨z, hz⟩ : ∃ z, plcN y k = z := ⟨_, rfl⟩
        simp only [hz] at hwas hnow ⊢
        have HP := Lib.hid hp
        have HWAS := Lib.hid hwas
        have HNOW := Lib.hid hnow
        have HSN := Lib.hid hsn
        have H0 := Lib.hid h0
        have HNL := Lib.hid hn
        have HPB : Hid (puN id ax b t ≤ 65535 ∧ 0 ≤ puN id ax b t) := Lib.hid (by have h1 := pu_bound HM.out h0 HB.out.1; have h2 := HB.out; omega)
        clear hz hf hr hy hk hp hfar hwas hnow hsn h0 hn
        have S3 := Lib.hid (S2.out.up ((Below.refl _ _).alloc (Nat.le_refl _) (fO (.slice a n cap) z 0)))
        have F3 := Lib.hid (heap_alloc_new w2 (fO (.slice a n cap) z 0))
        have P3 := Lib.hid (HP.out.up ((Below.refl _ _).alloc (Nat.le_refl _) (fO (.slice a n cap) z 0)))
        obtain ⟨c0, c1, c2, c3, c4, c5, c6⟩ := S3.out.c7
        have b1 : ((0 : Int) == 0) = true := rfl
        by_cases hE : puE id ax b t = 0
        · have hM : puM id ax b t = puN id ax b t := if_pos hE
          have hU : puU id ax b t = puT id ax b t := if_pos hE
          rw [hE, hM, hU] at K2
          clear hE hM hU
          go_wp2_with fail
          refine (K2.out _ S3.out).mono ?_
          rintro e w4 ⟨d, rfl, hd, hb4⟩
          have A4 : Below w4.heap.size w4 (w4.alloc (cbox d)) := (Below.refl _ _).alloc (Nat.le_refl _) _
          have S4 := Lib.hid ((S3.out.up hb4).up A4)
          have F4 := Lib.hid ((A4.block _ (by have := hb4.size; have := lt_of_block F3.out; omega)).trans ((hb4.block _ (lt_of_block F3.out)).trans F3.out))
          have P4 := Lib.hid ((P3.out.up hb4).up A4)
          have D4 := Lib.hid (hd.up A4)
          have X4 := Lib.hid (Box7.new w4 d)
          clear hb4 A4 hd c0 c1 c2 c3 c4 c5 c6 S3 F3 P3
          go_upto_region 5 with (fail)
          change Code.wp _ _ _ _ (w4.alloc (cbox d))
          generalize w4.alloc (cbox d) = w5 at S4 F4 P4 D4 X4 ⊢
          obtain ⟨⟨s0, s1, s2⟩, -⟩ := f_parts F4.out
          have HX : Hid (∀ W, Below w5.heap.size w5 W → W.cell? ⟨w2.heap.size, 0, none⟩ = some (.slice a n cap) ∧ W.cell? ⟨w2.heap.size, 1, none⟩ = some (.int .i64 z)) := Lib.hid fun W hb => by
            obtain ⟨⟨s0, s1, s2⟩, -⟩ := f_parts ((hb.block _ (lt_of_block F4.out)).trans F4.out)
            exact ⟨s0, s1⟩
          have DF : Hid (Below w5.heap.size w5 (w5.alloc (.cells #[] 3))) := Lib.hid (bl_al (Below.refl _ _) _)
          have DE : Hid (Below w5.heap.size w5 (w5.alloc (.cells #[] 3)).drew) := Lib.hid DF.out.drew
          have DA : Hid (Below w5.heap.size w5 ((w5.alloc (.cells #[] 3)).alloc (.cells #[.int .i64 z] 3)).drew) := Lib.hid (bl_al DF.out _).drew
          have EC : Hid (OwnI (w5.alloc (.cells #[] 3)).drew w5.heap.size (.slice (some ⟨w5.heap.size, 0, none⟩) 0 0) []) := Lib.hid ((OwnI.empty w5 w5.heap.size (Nat.le_refl _)).up (Below.refl _ _).drew)
          have EA : Hid (OwnI ((w5.alloc (.cells #[] 3)).alloc (.cells #[.int .i64 z] 3)).drew w5.heap.size (.slice (some ⟨w5.heap.size, 0, none⟩) 0 0) []) := Lib.hid (((OwnI.empty w5 w5.heap.size (Nat.le_refl _)).up ((Below.refl _ _).alloc (Nat.le_refl _) _)).up (Below.refl _ _).drew)
          have CA : Hid (((w5.alloc (.cells #[] 3)).alloc (.cells #[.int .i64 z] 3)).drew.cell? ⟨w5.heap.size + 1, 0, none⟩ = some (.int .i64 z)) := Lib.hid (by
            have h := cell_of_one (Box1.new (w5.alloc (.cells #[] 3)) (.int .i64 z) 3)
            have hs : (w5.alloc (.cells #[] 3)).heap.size = w5.heap.size + 1 := by simp
            rw [hs] at h
            exact h)
          have DO : Hid (Below w5.heap.size w5 (w5.alloc (.cells #[.int .i64 z] 3))) := Lib.hid (bl_al (Below.refl _ _) _)
          have DB : Hid (Below w5.heap.size w5 ((w5.alloc (.cells #[.int .i64 z] 3)).alloc (.cells #[] 3)).drew) := Lib.hid (bl_al DO.out _).drew
          have EB : Hid (OwnI ((w5.alloc (.cells #[.int .i64 z] 3)).alloc (.cells #[] 3)).drew w5.heap.size (.slice (some ⟨w5.heap.size + 1, 0, none⟩) 0 0) []) := Lib.hid (by
            have h := OwnI.empty (w5.alloc (.cells #[.int .i64 z] 3)) w5.heap.size DO.out.size
            have hs : (w5.alloc (.cells #[.int .i64 z] 3)).heap.size = w5.heap.size + 1 := by simp
            rw [hs] at h
            exact h.up (Below.refl _ _).drew)
          have CB : Hid (((w5.alloc (.cells #[.int .i64 z] 3)).alloc (.cells #[] 3)).drew.cell? ⟨w5.heap.size, 0, none⟩ = some (.int .i64 z)) := Lib.hid (by
            have h := cell_of_one (Box1.new w5 (.int .i64 z) 3)
            exact (Lib.cell?_alloc_some _ h : ((w5.alloc (.cells #[.int .i64 z] 3)).alloc (.cells #[] 3)).cell? ⟨w5.heap.size, 0, none⟩ = _))
          have RW : Hid (∀ W, Below w5.heap.size w5 W → Row W (.slice a n cap) (ints (p.take n))) := Lib.hid fun W hb => (P4.out.up hb).row
          have HLN : Hid ((p.take n).length + 1 ≤ 1000000 ∧ 0 + (p.take n).length ≤ 100000) := Lib.hid (by rw [List.length_take]; have := HPL.out; omega)
          go_upto_region 7 with fail
          go_cut [13] from 60 to 67 (fun s13 wx => OwnI wx w5.heap.size s13 (p.take n ++ [z]) ∧ Below w5.heap.size w5 wx)
          case first =>
            obtain ⟨s10, s11⟩ := HX.out _ DF.out
            obtain ⟨s30, s31⟩ := HX.out _ (bl_al DF.out (.cells #[.int .i64 z] 3))
            obtain ⟨s20, s21⟩ := HX.out _ DO.out
            obtain ⟨s40, s41⟩ := HX.out _ (bl_al DO.out (.cells #[] 3))
            go_region_law
              (first
                | (refine step_appI rfl _ _ rfl w5.heap.size (.slice (some ⟨w5.heap.size, 0, none⟩) 0 0) (.slice a n cap) [] (p.take n) rfl EA.out rfl (RW.out _ DA.out) HLN.out.2 DA.out.size ?_
                   intro v6 w6 ho6 hg6
                   have B6 := Lib.hid (DA.out.grown hg6 DA.out.size (fun k hk => (EA.out.lt k hk).1))
                   have O6 : Hid (OwnI w6 w5.heap.size v6 (p.take n)) := Lib.hid (by simpa using ho6)
                   obtain ⟨s60, s61⟩ := HX.out _ B6.out
                   have C6 := Lib.hid (gb_cell hg6 CA.out (fun h => absurd (show w5.heap.size = w5.heap.size + 1 from Option.some.inj h) (by omega)))
                   clear ho6 hg6)
                | (refine step_appI rfl _ _ rfl w5.heap.size (.slice (some ⟨w5.heap.size + 1, 0, none⟩) 0 0) (.slice a n cap) [] (p.take n) rfl EB.out rfl (RW.out _ DB.out) HLN.out.2 DB.out.size ?_
                   intro v6 w6 ho6 hg6
                   have B6 := Lib.hid (DB.out.grown hg6 DB.out.size (fun k hk => (EB.out.lt k hk).1))
                   have O6 : Hid (OwnI w6 w5.heap.size v6 (p.take n)) := Lib.hid (by simpa using ho6)
                   obtain ⟨s60, s61⟩ := HX.out _ B6.out
                   have C6 := Lib.hid (gb_cell hg6 CB.out (fun h => absurd (show w5.heap.size + 1 = w5.heap.size from Option.some.inj h) (by omega)))
                   clear ho6 hg6)
                | (refine step_appI rfl _ _ rfl w5.heap.size (.slice (some ⟨w5.heap.size, 0, none⟩) 0 0) (.slice a n cap) [] (p.take n) rfl EC.out rfl (RW.out _ DE.out) HLN.out.2 DE.out.size ?_
                   intro v6 w6 ho6 hg6
                   have B6 := Lib.hid (DE.out.grown hg6 DE.out.size (fun k hk => (EC.out.lt k hk).1))
                   have O6 : Hid (OwnI w6 w5.heap.size v6 (p.take n)) := Lib.hid (by simpa using ho6)
                   obtain ⟨s60, s61⟩ := HX.out _ B6.out
                   clear ho6 hg6)
                | (refine step_append_int rfl _ _ rfl w5.heap.size v6 (p.take n) _ z rfl O6.out rfl C6.out HLN.out.1 w5 B6.out (Nat.le_refl _) ?_
                   intro g9 cap9 w9 ho9 hb9 hg9 hp9
                   have O9 := Lib.hid ho9
                   have B9 := Lib.hid hb9
                   clear ho9 hb9 hg9 hp9)
                | (refine step_append_int rfl _ _ rfl w5.heap.size v6 (p.take n) w6.heap.size z rfl (O6.out.up ((Below.refl _ _).alloc (Nat.le_refl _) _)) rfl (by simp) HLN.out.1 w5 (bl_al B6.out _) (Nat.le_refl _) ?_
                   intro g9 cap9 w9 ho9 hb9 hg9 hp9
                   have O9 := Lib.hid ho9
                   have B9 := Lib.hid hb9
                   clear ho9 hb9 hg9 hp9))
            all_goals (go_wp2_with fail; go_meet; exact ⟨by (have h9 := O9.out; first | exact h9 | (simpa using h9)), B9.out⟩)
          case rest =>
            obtain ⟨ho9, hb9⟩ := hcut
            have SC := Lib.hid (S4.out.up hb9)
            have XC := Lib.hid (X4.out.up hb9)
            have DC := Lib.hid (D4.out.up hb9)
            have PC := Lib.hid (path_of_own ho9)
            have HPN : Hid ((p.take n ++ [z]).length ≤ 1000000) := Lib.hid (by simp; have := HPL.out; omega)
            have RA1 := Lib.hid (rat_any wc (p.take n ++ [z]) t c _ wc (HI.out.up SC.out.below) (Below.refl _ _) PC.out HPN.out)
            have RA2 := Lib.hid (fun (W : World) (h : Below wc.heap.size wc W) => rat_any wc (p.take n ++ [z]) (puT id ax b t) d _ W DC.out h PC.out HPN.out)
            have hsw : (some was : Option T).isSome = true := rfl
            have hgw : (some was : Option T).getD zT = was := rfl
            have hsn2 : (some now : Option T).isSome = true := rfl
            have hgn : (some now : Option T).getD zT = now := rfl
            rw [HWAS.out, hsw, hgw] at RA1
            rw [HNOW.out, hsn2, hgn] at RA2
            have hbs : 1 ≤ szA was.r ax ∧ szA was.r ax ≤ 10000 := by
              have htl := fd_tile H0.out
              have h2 := tile_at (by have := HM.out; omega) htl.1 HWAS.out
              have h3 := szA_pos (well_rect (tile_top (by have := h2.2; have := HM.out; omega) h2.1).1) ((axB_iff ax).1 htl.2)
              omega
            clear ho9 hb9 S4 F4 P4 D4 X4
            obtain ⟨c0, c1, c2, c3, c4, c5, c6⟩ := SC.out.c7
            go_wp2_with fail
            refine RA1.out.mono ?_
            rintro e w6 ⟨dw, rfl, hiw, hb6⟩
            have A6 : Below w6.heap.size w6 (w6.alloc (cbox dw)) := (Below.refl _ _).alloc (Nat.le_refl _) _
            have B6 := Lib.hid (hb6.trans (A6.mono hb6.size))
            have X6 := Lib.hid (XC.out.up B6.out)
            have Y6 := Lib.hid (Box7.new w6 dw)
            have hrw : was.r = dw.r := hiw.split.2.1
            clear hb6 A6 hiw c0 c1 c2 c3 c4 c5 c6
            obtain ⟨c0, c1, c2, c3, c4, c5, c6⟩ := c7_of X6.out.cat
            go_wp2_with fail
            refine (RA2.out _ B6.out).mono ?_
            rintro e w7 ⟨dn, rfl, hin, hb7⟩
            have A7 : Below w7.heap.size w7 (w7.alloc (cbox dn)) := (Below.refl _ _).alloc (Nat.le_refl _) _
            have B7 := Lib.hid ((SC.out.below.trans (B6.out.mono SC.out.below.size)).trans ((hb7.trans (A7.mono hb7.size)).mono (Nat.le_trans SC.out.below.size B6.out.size)))
            have Y7 := Lib.hid ((Y6.out.up hb7).up A7)
            have Z7 := Lib.hid (Box7.new w7 dn)
            have hrn : now.r = dn.r := hin.split.2.1
            clear hb7 A7 hin c0 c1 c2 c3 c4 c5 c6 X6 Y6
            have hsn := HSN.out
            rw [hrw, hrn] at hsn
            rw [hrw] at hbs
            have K3 := Lib.hid (fun (W : World) => rsize_any dn.r ax W)
            have K4 := Lib.hid (fun (W : World) => rsize_any dw.r ax W)
            rw [hsn] at K3
            have hpb := HPB.out
            clear hsn
            generalize szA dw.r ax = s at K3 K4 hbs
            generalize puN id ax b t = NN at K3 hpb ⊢
            have hw : IntKind.i64.wrap (s + NN) = s + NN := wrap_id (by omega)
            have b9 : (s + NN == s + NN) = true := by simp
            clear HSN HPB K2
            go_upto_region 10 with (fail)
            change Code.wp _ _ _ _ (w7.alloc (cbox dn))
            generalize hbn : w7.heap.size = bn at Z7 ⊢
            generalize hbw : w6.heap.size = bw at Y7 ⊢
            generalize w7.alloc (cbox dn) = w8 at B7 Y7 Z7 ⊢
            have HX9 : Hid (∀ W, Below w8.heap.size w8 W → W.cell? ⟨bn, 1, none⟩ = some (.int .i64 dn.r.x) ∧ W.cell? ⟨bn, 2, none⟩ = some (.int .i64 dn.r.y) ∧ W.cell? ⟨bn, 3, none⟩ = some (.int .i64 dn.r.w) ∧ W.cell? ⟨bn, 4, none⟩ = some (.int .i64 dn.r.h) ∧ W.cell? ⟨bw, 1, none⟩ = some (.int .i64 dw.r.x) ∧ W.cell? ⟨bw, 2, none⟩ = some (.int .i64 dw.r.y) ∧ W.cell? ⟨bw, 3, none⟩ = some (.int .i64 dw.r.w) ∧ W.cell? ⟨bw, 4, none⟩ = some (.int .i64 dw.r.h)) := Lib.hid fun W hb => by
              obtain ⟨-, a1, a2, a3, a4, -, -⟩ := c7_of (Z7.out.up hb).cat
              obtain ⟨-, q1, q2, q3, q4, -, -⟩ := c7_of (Y7.out.up hb).cat
              exact ⟨a1, a2, a3, a4, q1, q2, q3, q4⟩
            have D0 : Hid (Below w8.heap.size w8 w8.drew) := Lib.hid (Below.refl _ _).drew
            go_wp2_with fail
            go_region_held3 (fun W => W.cell? ⟨bn, 1, none⟩ = some (.int .i64 dn.r.x) ∧ W.cell? ⟨bn, 2, none⟩ = some (.int .i64 dn.r.y) ∧ W.cell? ⟨bn, 3, none⟩ = some (.int .i64 dn.r.w) ∧ W.cell? ⟨bn, 4, none⟩ = some (.int .i64 dn.r.h) ∧ W.cell? ⟨bw, 1, none⟩ = some (.int .i64 dw.r.x) ∧ W.cell? ⟨bw, 2, none⟩ = some (.int .i64 dw.r.y) ∧ W.cell? ⟨bw, 3, none⟩ = some (.int .i64 dw.r.w) ∧ W.cell? ⟨bw, 4, none⟩ = some (.int .i64 dw.r.h)) (exact HX9.out _ (by first | with_reducible exact D0.out | with_reducible exact L5.out | with_reducible exact L6.out | with_reducible exact L7.out))
              (first
                | (go_at_call 17; (with_reducible refine (K3.out _).mono ?_); rintro e w9 ⟨rfl, hb9⟩; have L5 := Lib.hid (bl_up (by first | with_reducible exact D0.out | with_reducible exact L6.out) hb9); clear hb9)
                | (go_at_call 17; (with_reducible refine (K4.out _).mono ?_); rintro e w10 ⟨rfl, hb10⟩; have L6 := Lib.hid (bl_up (by first | with_reducible exact D0.out | with_reducible exact L5.out) hb10); clear hb10)
                | (go_at_call 8; (with_reducible refine (awake14_any _).mono ?_); rintro e w11 ⟨rfl, hb11⟩; have L7 := Lib.hid (bl_up (by first | with_reducible exact L5.out | with_reducible exact L6.out) hb11); clear hb11))
            all_goals (rename_i hh9; clear hh9)
            all_goals
              go_wp2
              go_ret
              exact ⟨rfl, B7.out.trans (L7.out.mono B7.out.size)⟩
        · have hE7 : puE id ax b t = 7 := by
            unfold puE at hE ⊢
            rw [if_pos H0.out] at hE ⊢
            by_cases h9 : puD id ax b t = 0 ∧ b ≠ 0
            · rw [if_pos h9]
            · rw [if_neg h9] at hE; exact absurd rfl hE
          rw [hE7] at K2
          clear hE hE7
          go_wp2_with fail
          refine (K2.out _ S3.out).mono ?_
          rintro e w4 ⟨d, rfl, -, hb4⟩
          have A4 : Below w4.heap.size w4 (w4.alloc (cbox d)) := (Below.refl _ _).alloc (Nat.le_refl _) _
          have S4 := Lib.hid ((S3.out.up hb4).up A4)
          have F4 := Lib.hid ((A4.block _ (by have := hb4.size; have := lt_of_block F3.out; omega)).trans ((hb4.block _ (lt_of_block F3.out)).trans F3.out))
          clear hb4 A4 c0 c1 c2 c3 c4 c5 c6
          obtain ⟨⟨s0, s1, s2⟩, -⟩ := f_parts F4.out
          have b7 : ((7 : Int) == 0) = false := rfl
          have b8 : ((7 : Int) != 0) = true := rfl
          go_wp2_with fail
          refine (awake14_any _).mono ?_
          rintro e w7 ⟨rfl, hb7⟩
          have S7 := Lib.hid (S4.out.up hb7)
          clear hb7
          go_wp2
          go_ret
          exact ⟨rfl, S7.out.below⟩

theorem pushOne_wf (v0 : Value) (t : T) (c : C) (id ax b : Int) (w : World) (e0 : v0 = cval c) (hi : Is w c t) (hb : 0 ≤ b ∧ b ≤ 65535) (hs : sz t ≤ 1048576) :
    Calls Try.prog 5 #[v0, .int .i64 id, .int .u8 ax, .int .u16 b] w fun e w' => e = .returned (.bool true) ∧ Below w.heap.size w w' := by
  subst e0
  exact pushOne_any t c id ax b w hi hb.1 hb.2 (by omega)
end Go.Proofs.Ytodcabaihhmhnaa
/- Whether a leaf can be split along axes: the program's Can. -/
namespace Go.Proofs.Ytodcabaihhmhnaa
open Go.RowKit

/-- Axes in a slice. -/
def u8s (l : List Int) : List Value := l.map (Value.int .u8)
theorem u8s_length (l : List Int) : (u8s l).length = l.length := by simp [u8s]
theorem u8_shape {w : World} {v : Value} {l : List Int} (h : Row w v (u8s l)) : ∃ a cap, v = .slice a l.length cap := by
  obtain ⟨a, cap, rfl, -, -⟩ := h
  rw [u8s_length]; exact ⟨_, _, rfl⟩
theorem u8_at {w : World} {a : Option Addr} {cap n : Nat} {l : List Int} (h : Row w (.slice a n cap) (u8s l)) (hp : 0 < l.length) : ∃ ad : Addr, a = some ad ∧ ∀ (j : Nat) (m : Int), l[j]? = some m → w.cell? (ad.add j) = some (.int .u8 m) := by
  obtain ⟨a', cap', he, h0, hc⟩ := h
  cases he
  cases a with
  | none => have := (h0 rfl).1; simp [u8s] at this; subst this; simp at hp
  | some ad => exact ⟨ad, rfl, fun j m hm => hc ad rfl j _ (by simp [u8s, hm])⟩

def lessB (r : R) (ax : Int) : Bool := decide (szA r ax < 3)
/-- Can it be split along all these? -/
noncomputable def canT (id : Int) (axs : List Int) (t : T) : Bool := tileB t && match lfF id t with | some u => !(axs.any (lessB u.r)) | none => false
theorem can_no {id : Int} {axs : List Int} {t : T} (h : tileB t = false) : canT id axs t = false := by unfold canT; rw [h]; rfl
theorem can_none {id : Int} {axs : List Int} {t : T} (h : lfF id t = none) : canT id axs t = false := by unfold canT; rw [h]; simp
theorem can_yes {id : Int} {axs : List Int} {t u : T} (ht : tileB t = true) (h : lfF id t = some u) : canT id axs t = !(axs.any (lessB u.r)) := by unfold canT; rw [h, ht]; rfl

end Go.Proofs.Ytodcabaihhmhnaa
/- What the rows of this seat ask of a walk: axes as an argument. -/
namespace Go.Proofs.Ytodcabaihhmhnaa
open Go.ChangeShapes Go.WideShapes Go.ChangeAt Go.WideMaps Go.WideElems Go.RowKit
open Go.ChangeMaps (open_string shut_string)
section
variable {H : Type} {enc : TypeId × Value → H} {w : World} {spare : Nat → Bool} {held : Bool}
theorem u8s_of {fuel : Nat} {v : Value} {x : DataW H × List MemPlace} (h : DataW.trod enc Try.prog w 0 spare held fuel 36 [v] = some x) : ∃ ms : List Int, Row w v (u8s ms) := by
  rcases open_ints Try.underlying36 Try.underlying5 (by kernel_rfl) h with ⟨hcs, _⟩ | ⟨a, l, c, zs, hcs, _, hl, hm, hz, _, hcell, hwz⟩
  · simp at hcs
    subst hcs
    exact ⟨[], none, 0, rfl, fun _ => ⟨rfl, rfl⟩, fun _ h => by cases h⟩
  · simp at hcs
    subst hcs
    have hlm : l ≤ zs.length := by rw [hz]; split <;> omega
    have htl : (zs.take l).length = l := by rw [List.length_take]; omega
    refine ⟨zs.take l, some a, c, by rw [u8s_length, htl], fun h => (by cases h), fun y hy j u hu => ?_⟩
    cases hy
    unfold u8s at hu
    rw [List.getElem?_map, Option.map_eq_some_iff] at hu
    obtain ⟨n, hn, rfl⟩ := hu
    have hjl : j < zs.length := by
      rcases Nat.lt_or_ge j zs.length with h | h
      · exact h
      · rw [List.getElem?_take, List.getElem?_eq_none h] at hn; split at hn <;> cases hn
    rw [hcell j hjl]
    rw [List.getElem?_take] at hn
    split at hn
    · rw [List.getD_eq_getElem?_getD, hn]; rfl
    · cases hn
end
end Go.Proofs.Ytodcabaihhmhnaa
