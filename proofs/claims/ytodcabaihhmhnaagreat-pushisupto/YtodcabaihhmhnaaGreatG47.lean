/- Texts of this seat, 3 in one file. -/
import Derived.Test.YtodcabaihhmhnaaGreatG46
import Derived.Test.YtodcabaihhmhnaaGreatG37
import Derived.Deep.CutRange
import Derived.Deep.CutBlock
/- A law over one tree: its box. What push answers, in one form. No walk. -/
namespace Go.Proofs.YtodcabaihhmhnaaGreat
open Go.RowKit Sh

structure QSt (w : World) (c : C) (W : World) : Prop where
  below : Below w.heap.size w W
  cat : CAt W w.heap.size 0 c
theorem QSt.up {w : World} {c : C} {W W' : World} (h : QSt w c W) (hb : Below W.heap.size W W') : QSt w c W' := ⟨h.below.trans (hb.mono h.below.size), h.cat.up hb⟩
theorem QSt.c7 {w : World} {c : C} {W : World} (h : QSt w c W) : C7 w.heap.size c W := c7_of h.cat
theorem QSt.new (w : World) (c : C) : QSt w c (w.alloc (cbox c)) := ⟨(Below.refl _ _).alloc (Nat.le_refl _) _, cbox_new w c⟩

noncomputable def puM (id ax b : Int) (t : T) : Int := if puE id ax b t = 0 then puN id ax b t else 0
noncomputable def puU (id ax b : Int) (t : T) : T := if puE id ax b t = 0 then puT id ax b t else noT
/-- What push answers, errors too. -/
theorem pu_all {id ax b : Int} {t : T} {w : World} {e : Ending} {w' : World} (h : PuSays id ax b t w e w') : ∃ d, e = .returned (.tuple #[cval d, .int .i64 (puM id ax b t), .int .i64 (puE id ax b t)]) ∧ Is w' d (puU id ax b t) ∧ Below w.heap.size w w' := by
  obtain ⟨hb, h⟩ := h
  unfold puM puU
  rcases h with ⟨h0, rfl⟩ | ⟨h0, d, rfl, hs⟩
  · rw [if_neg h0, if_neg h0]; exact ⟨noC, rfl, no_is _, hb⟩
  · rw [if_pos h0, if_pos h0, h0]; exact ⟨d, rfl, hs.is trivial, hb⟩
end Go.Proofs.YtodcabaihhmhnaaGreat
/- A leaf's cell is pushed: the document's walk, by more than 0. -/

namespace Go.Proofs.YtodcabaihhmhnaaGreat
open Go.RowKit Sh

set_option maxHeartbeats 1000000 in
set_option maxRecDepth 100000 in
theorem rpush_up (id ax b : Int) (t : T) (c : C) (w : World) (hm : sz t ≤ 990) (hi : Is w c t) (hb0 : 0 < b) (hbf : fits b) : Calls Tryz.prog 8 #[cval c, .int .i64 id, .int .u8 ax, .int .i64 b] w (PuSays id ax b t w) := by
  have L0 := Lib.hid (ASt.start w c)
  have HF := Lib.hid (rframe_any id ax t c (cellW w c) hm (L0.out.is hi))
  have HI := Lib.hid hi
  have HM := Lib.hid hm
  have HB := Lib.hid hbf
  clear hi hm hbf
  obtain ⟨c0, c1, c2, c3, c4, c5, c6⟩ := c7_of L0.out.box.cat
  go_enter Tryz.func8, Tryz.ntmps8
  go_wp2_with fail
  refine HF.out.mono ?_
  rintro e w2 ⟨hb2, hcase⟩
  have L2 := Lib.hid (L0.out.up hb2)
  clear c0 c1 c2 c3 c4 c5 c6 HF hb2
  rcases hcase with ⟨h0, rfl⟩ | ⟨h0, p, n, y, k, a, cap, hf, hr, hy, hk, hn, rfl, hp, hfar⟩
  · have HE : Hid (puE id ax b t = fdE id ax t) := Lib.hid (if_neg h0)
    have H0 := Lib.hid h0
    have b1 : (fdE id ax t == 0) = false := by simpa using h0
    have b2 : (fdE id ax t != 0) = true := by simpa using h0
    have n1 : ¬ fdE id ax t = 0 := h0
    obtain ⟨⟨s0, s1, s2⟩, f0, f1, f2⟩ := f_parts (heap_alloc_new w2 (fO (.slice none 0 0) 0 (fdE id ax t)))
    have L3 : Hid (ASt w c (w2.alloc (fO (.slice none 0 0) 0 (fdE id ax t)))) := Lib.hid (L2.out.up ((Below.refl _ _).alloc (Nat.le_refl _) _))
    clear h0
    generalize fdE id ax t = E at *
    go_upto_region 2 with (fail)
    change Code.wp _ _ _ _ (w2.alloc (fO (.slice none 0 0) 0 E))
    generalize w2.alloc (fO (.slice none 0 0) 0 E) = w3 at *
    obtain ⟨⟨z0, z1, z2, z3, z4, z5, z6⟩, g0, g1, g2, g3, g4, g5, g6⟩ := zero_parts L3.out.zero
    have hne : w2.heap.size ≠ w.heap.size + 1 := by have := lt_of_block L2.out.zero; omega
    have D5 : (put7 w3 (w.heap.size + 1) noC).cell? ⟨w2.heap.size, 2, none⟩ = some (.int .i64 E) := (World.cell?_of_block (heap_put7 hne)).trans s2
    go_upto_region 3 with (fail)
    go_region
    change Exit.then _ _ _ _ (put7 w3 (w.heap.size + 1) noC).drew
    have X5 : Hid (Box7 (put7 w3 (w.heap.size + 1) noC).drew (w.heap.size + 1) noC) := Lib.hid (box_drew ((Box7.of_zero L3.out.zero).put noC))
    have B5 : Hid (Below w.heap.size w (put7 w3 (w.heap.size + 1) noC).drew) := Lib.hid (below_put7 L3.out.below (by omega) noC).drew
    generalize (put7 w3 (w.heap.size + 1) noC).drew = w5 at *
    clear s0 s1 s2 f0 f1 f2 z0 z1 z2 z3 z4 z5 z6 g0 g1 g2 g3 g4 g5 g6
    go_wp2
    (try simp only [Exit.inBlock, Exit.then])
    refine bodyPost_ret (results_k3 rfl _ _ (w.heap.size + 1) noC rfl X5.out) rfl ?_
    exact pu_err HE.out H0.out B5.out
  · have HX := Lib.hid (frx_is hf hr hy hk)
    have HPP := Lib.hid (frp_is hf hr)
    have htl := fd_tile h0
    have hty := tile_at (by have := HM.out; omega) htl.1 hy
    have HTY := Lib.hid (show tileB y = true ∧ sz y ≤ 990 from ⟨hty.1, by have := HM.out; have := hty.2; omega⟩)
    have HAX := Lib.hid ((axB_iff ax).1 htl.2)
    have HAL := Lib.hid (fr_al hr hy)
    have hpl : p.length ≤ 1000000 := by have := findT_len id p t hf; have := HM.out; omega
    have HY := Lib.hid hy
    have HP := Lib.hid (show Path w2 (.slice a n cap) (p.take n) ∧ n ≤ 1000000 from ⟨hp, by omega⟩)
    have HAT := Lib.hid (fun (W : World) (h : Below w2.heap.size w2 W) => rat_any w2 (p.take n) t c (.slice a n cap) W (HI.out.up L2.out.below) h hp (by rw [List.length_take]; omega))
    rw [hy] at HAT
    have hsy : (some y : Option T).isSome = true := rfl
    have hgy : (some y : Option T).getD zT = y := rfl
    simp only [hsy, hgy] at HAT
    obtain ⟨hinv, hS, hl2⟩ := pu_start HAX.out HTY.out.2 HTY.out.1 HAL.out
    obtain ⟨P, hP, hPl⟩ := plc_in hf hy hk hl2
    rw [hP] at HX ⊢
    clear hf hr hy hn hp hfar htl hty hsy hgy hpl
    have H0 := Lib.hid h0
    clear h0 hk
    have F3 : Hid ((w2.alloc (fO (.slice a n cap) P 0)).heap[w2.heap.size]? = some (fO (.slice a n cap) P 0)) := Lib.hid (heap_alloc_new _ _)
    have B3 : Hid (Below w2.heap.size w2 (w2.alloc (fO (.slice a n cap) P 0))) := Lib.hid ((Below.refl _ _).alloc (Nat.le_refl _) _)
    have L3 : Hid (ASt w c (w2.alloc (fO (.slice a n cap) P 0))) := Lib.hid (L2.out.up B3.out)
    go_upto_region 2 with (fail)
    change Code.wp _ _ _ _ (w2.alloc (fO (.slice a n cap) P 0))
    generalize w2.alloc (fO (.slice a n cap) P 0) = w3 at *
    obtain ⟨⟨s0, s1, s2⟩, f0, f1, f2⟩ := f_parts F3.out
    obtain ⟨c0, c1, c2, c3, c4, c5, c6⟩ := c7_of L3.out.box.cat
    have HA := Lib.hid (HAT.out w3 B3.out)
    clear HAT
    go_wp2_with fail
    refine HA.out.mono ?_
    rintro e w4 ⟨d, rfl, hd, hb4⟩
    have B4 := Lib.hid (B3.out.trans (hb4.mono B3.out.size))
    have L4 := Lib.hid (L3.out.up hb4)
    have F4 : Hid (w4.heap[w2.heap.size]? = some (fO (.slice a n cap) P 0)) := Lib.hid ((hb4.block _ (lt_of_block F3.out)).trans F3.out)
    obtain ⟨cs, htop, hstd⟩ := std_of (hd.up B4.out)
    have S5 := Lib.hid (pu_new htop hstd)
    clear s0 s1 s2 f0 f1 f2 c0 c1 c2 c3 c4 c5 c6 HA hd hb4 htop hstd
    go_upto_region 5 with (fail)
    change Code.wp _ _ _ _ (w4.alloc (cbox d))
    generalize w4.alloc (cbox d) = w5 at *
    have HPI := Lib.hid hinv
    have HSW := Lib.hid hS
    have HPL := Lib.hid hPl
    clear hinv hS hPl hl2 hP
    go_upto_block 0 with (fail)
    go_cut [14, 15, 16] from 36 to 98 (fun s s15 s16 wx => ∃ X dn d' cs', s = .int .i64 dn ∧ psT ax P true b 20001 y 0 = (X, dn) ∧ PuInv ax (szA y.r ax) (sz y) y.kids.length X ∧ 0 ≤ dn ∧ dn ≤ b ∧ PuSt w4 d' cs' X wx)
    case first =>
      go_wp2_with fail
      go_loopg [14] 20001 (fun gg s wr => ∃ X dn v d' cs', s = .int .i64 dn ∧ psT ax P true b 20001 y 0 = psT ax P true b gg X dn ∧ 10001 - szA v.r ax ≤ (gg : Int) ∧ X.kids[P]? = some v ∧ PuInv ax (szA y.r ax) (sz y) y.kids.length X ∧ 0 ≤ dn ∧ dn ≤ b ∧ PuSt w4 d' cs' X wr)
      case atStart =>
        obtain ⟨v, hv⟩ : ∃ v, y.kids[P]? = some v := ⟨_, List.getElem?_eq_getElem (by have := HPL.out; omega)⟩
        have := pu_size HAX.out HPI.out hv
        exact ⟨y, 0, v, d, cs, rfl, rfl, by omega, hv, HPI.out, by omega, by omega, S5.out⟩
      case round =>
        obtain ⟨X, dn, v, d', cs', rfl, hps, hgg, hv, hpi, hd0, hdb, hst⟩ := hrel
        have hvs := pu_size HAX.out hpi hv
        have HPS := Lib.hid hps
        have HGG := Lib.hid (show 1 ≤ gk ∧ 10001 - szA v.r ax ≤ (gk : Int) from ⟨by have := HSW.out; omega, hgg⟩)
        have HV := Lib.hid hv
        have HQ := Lib.hid hpi
        have HS := Lib.hid hst
        clear hps hgg hv hpi hst hvs
        by_cases hdn : dn = b
        · subst hdn
          have b1 : (dn == dn) = true := by simp
          have HE := Lib.hid (HPS.out.trans (ps_stop (.inl rfl)))
          go_wp2
          go_meet
          exact ⟨X, dn, d', cs', rfl, HE.out, HQ.out, hd0, hdb, HS.out⟩
        · have b1 : (dn == b) = false := by rw [beq_eq_false_iff_ne]; exact hdn
          have b2 : (dn != b) = true := by rw [bne, b1]; rfl
          have b3 : decide (0 < b) = true := decide_eq_true hb0
          have hXl : X.kids.length ≤ 990 := by have h1 := HQ.out.len; have h2 := HTY.out.2; have h3 := kids_le h2; omega
          have hPX : P < X.kids.length := (List.getElem?_eq_some_iff.1 HV.out).1
          have HGV := Lib.hid (rgiver_any ax X d' P true wr HAX.out hPX (fun j u hu => ⟨(HQ.out.kids j u hu).1, by have := (HQ.out.kids j u hu).2; omega⟩) (by omega) HS.out.is)
          obtain ⟨c0, c1, c2, c3, c4, c5, c6⟩ := c7_of HS.out.box.cat
          have F6 : Hid (wr.heap[w2.heap.size]? = some (fO (.slice a n cap) P 0)) := Lib.hid ((HS.out.below.block _ (lt_of_block F4.out)).trans F4.out)
          obtain ⟨⟨s0, s1, s2⟩, f0, f1, f2⟩ := f_parts F6.out
          go_wp2_with fail
          refine HGV.out.mono ?_
          rintro e w6 ⟨rfl, hb6⟩
          have S6 := Lib.hid (HS.out.up hb6)
          clear hb6 c0 c1 c2 c3 c4 c5 c6 s0 s1 s2 f0 f1 f2
          by_cases hgi : gvrN ax X.kids P true < 0
          · have d1 : decide (gvrN ax X.kids P true < 0) = true := decide_eq_true hgi
            have HE := Lib.hid (HPS.out.trans (ps_stop (.inr hgi)))
            go_wp2
            go_meet
            exact ⟨X, dn, d', cs', rfl, HE.out, HQ.out, hd0, hdb, S6.out⟩
          · obtain ⟨i, u, hi, hu, hgu, hip⟩ := giver_is hPX (Int.not_lt.1 hgi)
            have hip : i ≠ P := hip
            have HGI := Lib.hid (rgives_any ax X u d' i w6 HAX.out hu (by have := (HQ.out.kids i u hu).2; omega) (HQ.out.kids i u hu).1 (by omega) S6.out.is)
            have hgb := gv_bounds HAX.out (by have := (HQ.out.kids i u hu).2; omega) (HQ.out.kids i u hu).1
            have hbf := HB.out
            unfold fits at hbf
            have hw1 : IntKind.i64.wrap (b - dn) = b - dn := wrap_id (by omega)
            have di : decide ((i : Int) < 0) = false := decide_eq_false (by omega)
            obtain ⟨c0, c1, c2, c3, c4, c5, c6⟩ := c7_of S6.out.box.cat
            rw [hi]
            clear hgi
            by_cases hlt : b - dn < gvT ax u
            · have HNX : Hid (nxN ax b dn u = b - dn) := Lib.hid (if_pos hlt)
              have d1 : decide (b - dn < gvT ax u) = true := decide_eq_true hlt
              have hn0 : 0 < (b - dn) ∧ (b - dn) ≤ gvT ax u ∧ dn + (b - dn) ≤ b := by have := nx_in (ax := ax) (u := u) (show dn < b by omega) hgu; rw [HNX.out] at this; exact this
              have hw2 : IntKind.i64.wrap (-(b - dn)) = -(b - dn) := wrap_id (by omega)
              have hw3 : IntKind.i64.wrap (dn + (b - dn)) = dn + (b - dn) := wrap_id (by omega)
              have HMV := Lib.hid (mv_inv HAX.out HQ.out HSW.out hu HV.out hip (by omega) hn0.2.1)
              have HPS2 : Hid (psT ax P true b 20001 y 0 = psT ax P true b (gk - 1) (mvT ax (b - dn) i P X) (dn + (b - dn))) := Lib.hid (by
                obtain ⟨f, hf⟩ : ∃ f, gk = f + 1 := ⟨gk - 1, by have := HGG.out.1; omega⟩
                have h1 := ps_step (f := f) (a := b) hdn hi hu
                rw [HNX.out] at h1
                rw [hf] at HPS ⊢
                exact HPS.out.trans h1)
              have HX1 : Hid (sz (withT ax (-(b - dn)) i X) ≤ 990 ∧ (withT ax (-(b - dn)) i X).kids.length = X.kids.length) := Lib.hid ⟨by have h1 := HMV.out.1.sz; have h2 := HTY.out.2; omega, by have h1 := HMV.out.1.len; have h2 := HQ.out.len; omega⟩
              have hi2 := (List.getElem?_eq_some_iff.1 hu).1
              have HX0 : Hid (sz X ≤ 990) := Lib.hid (by have h1 := HQ.out.sz; have h2 := HTY.out.2; omega)
              have HK1 := Lib.hid (fun (W : World) (h : Std d' cs' X W) => rwithS_any X d' cs' i ax (-(b - dn)) W HX0.out S6.out.top h hi2 (show fits (-(b - dn)) by unfold fits; omega))
              have HK2 := Lib.hid (fun (d1 : C) (cs1 : List C) (W : World) (ht : TopC d1 cs1 (withT ax (-(b - dn)) i X)) (h : Std d1 cs1 (withT ax (-(b - dn)) i X) W) => rwithS_any (withT ax (-(b - dn)) i X) d1 cs1 P ax (b - dn) W HX1.out.1 ht h (by rw [HX1.out.2]; exact hPX) (show fits (b - dn) by unfold fits; omega))
              go_wp2_with fail
              refine HGI.out.mono ?_
              rintro e w7 ⟨rfl, hb7⟩
              have S7 := Lib.hid (S6.out.up hb7)
              clear hb7 c0 c1 c2 c3 c4 c5 c6
              have SD : Hid (PuSt w4 d' cs' X w7.drew) := Lib.hid (S7.out.up (Below.refl _ _).drew)
              have FD : Hid (w7.drew.heap[w2.heap.size]? = some (fO (.slice a n cap) P 0)) := Lib.hid ((SD.out.below.block _ (lt_of_block F4.out)).trans F4.out)
              have ZD : Hid (Pz w4.heap.size w2.heap.size d' P w7.drew) := Lib.hid (pz_of SD.out.box.cat (f_parts FD.out).1.2.1)
              go_upto_region 13 with (fail)
              obtain ⟨c0, c1, c2, c3, c4, c5, c6, y7⟩ := ZD.out
              go_region_law (
                first
                | (go_simp; go_at_call 19; (with_reducible refine (HK1.out _ SD.out.std).mono ?_); rintro e w8 ⟨d1, cs1, rfl, ht1, hf1, hb8⟩; have T1 := Lib.hid ht1; have G1 := Lib.hid hf1; have B8 := Lib.hid hb8; have S8 := Lib.hid (SD.out.up hb8); have Z8 := Lib.hid (pz_up ZD.out hb8); have y8 := Z8.out.2.2.2.2.2.2.2; clear ht1 hf1 hb8)
                | (go_simp; go_at_call 19; (with_reducible refine (HK2.out d1 cs1 w8 T1.out (G1.out.std S8.out.std)).mono ?_); rintro e w9 ⟨d2, cs2, rfl, ht2, hf2, hb9⟩; have T2 := Lib.hid ht2; have G2 := Lib.hid hf2; have B9 := Lib.hid hb9; have S9 := Lib.hid (S8.out.up hb9); have Z9 := Lib.hid (pz_up Z8.out hb9); have y9 := Z9.out.2.2.2.2.2.2.2; obtain ⟨q0, q1, q2, q3, q4, q5, q6⟩ := c7_of S9.out.box.cat; have r0 := S9.out.box.free 0; have r1 := S9.out.box.free 1; have r2 := S9.out.box.free 2; have r3 := S9.out.box.free 3; have r4 := S9.out.box.free 4; have r5 := S9.out.box.free 5; have r6 := S9.out.box.free 6; clear ht2 hf2 hb9))
              all_goals
                change Exit.then _ _ _ _ (put7 w9 w4.heap.size d2)
                have PN := Lib.hid (pu_put SD.out (Below.refl _ _) G1.out B8.out T2.out G2.out B9.out)
                generalize put7 w9 w4.heap.size d2 = wz at PN ⊢
                clear q0 q1 q2 q3 q4 q5 q6 r0 r1 r2 r3 r4 r5 r6
                go_wp2
                go_roundg (gk - 1)
                case measure => have := HGG.out.1; omega
                case rel =>
                  obtain ⟨-, hm2, -, v', hv', hsz⟩ := HMV.out
                  have hgk := HGG.out
                  exact ⟨_, dn + (b - dn), v', d2, cs2, by first | rfl | (rw [hw3]), HPS2.out, by omega, hv', hm2, by omega, by omega, PN.out⟩
            · have HNX : Hid (nxN ax b dn u = gvT ax u) := Lib.hid (if_neg hlt)
              have d1 : decide (b - dn < gvT ax u) = false := decide_eq_false hlt
              have hn0 : 0 < (gvT ax u) ∧ (gvT ax u) ≤ (gvT ax u) ∧ dn + (gvT ax u) ≤ b := by have := nx_in (ax := ax) (u := u) (show dn < b by omega) hgu; rw [HNX.out] at this; exact this
              have hw2 : IntKind.i64.wrap (-(gvT ax u)) = -(gvT ax u) := wrap_id (by omega)
              have hw3 : IntKind.i64.wrap (dn + (gvT ax u)) = dn + (gvT ax u) := wrap_id (by omega)
              have HMV := Lib.hid (mv_inv HAX.out HQ.out HSW.out hu HV.out hip (by omega) hn0.2.1)
              have HPS2 : Hid (psT ax P true b 20001 y 0 = psT ax P true b (gk - 1) (mvT ax (gvT ax u) i P X) (dn + (gvT ax u))) := Lib.hid (by
                obtain ⟨f, hf⟩ : ∃ f, gk = f + 1 := ⟨gk - 1, by have := HGG.out.1; omega⟩
                have h1 := ps_step (f := f) (a := b) hdn hi hu
                rw [HNX.out] at h1
                rw [hf] at HPS ⊢
                exact HPS.out.trans h1)
              have HX1 : Hid (sz (withT ax (-(gvT ax u)) i X) ≤ 990 ∧ (withT ax (-(gvT ax u)) i X).kids.length = X.kids.length) := Lib.hid ⟨by have h1 := HMV.out.1.sz; have h2 := HTY.out.2; omega, by have h1 := HMV.out.1.len; have h2 := HQ.out.len; omega⟩
              have hi2 := (List.getElem?_eq_some_iff.1 hu).1
              have HX0 : Hid (sz X ≤ 990) := Lib.hid (by have h1 := HQ.out.sz; have h2 := HTY.out.2; omega)
              have HK1 := Lib.hid (fun (W : World) (h : Std d' cs' X W) => rwithS_any X d' cs' i ax (-(gvT ax u)) W HX0.out S6.out.top h hi2 (show fits (-(gvT ax u)) by unfold fits; omega))
              have HK2 := Lib.hid (fun (d1 : C) (cs1 : List C) (W : World) (ht : TopC d1 cs1 (withT ax (-(gvT ax u)) i X)) (h : Std d1 cs1 (withT ax (-(gvT ax u)) i X) W) => rwithS_any (withT ax (-(gvT ax u)) i X) d1 cs1 P ax (gvT ax u) W HX1.out.1 ht h (by rw [HX1.out.2]; exact hPX) (show fits (gvT ax u) by unfold fits; omega))
              go_wp2_with fail
              refine HGI.out.mono ?_
              rintro e w7 ⟨rfl, hb7⟩
              have S7 := Lib.hid (S6.out.up hb7)
              clear hb7 c0 c1 c2 c3 c4 c5 c6
              have SD : Hid (PuSt w4 d' cs' X w7.drew) := Lib.hid (S7.out.up (Below.refl _ _).drew)
              have FD : Hid (w7.drew.heap[w2.heap.size]? = some (fO (.slice a n cap) P 0)) := Lib.hid ((SD.out.below.block _ (lt_of_block F4.out)).trans F4.out)
              have ZD : Hid (Pz w4.heap.size w2.heap.size d' P w7.drew) := Lib.hid (pz_of SD.out.box.cat (f_parts FD.out).1.2.1)
              go_upto_region 13 with (fail)
              obtain ⟨c0, c1, c2, c3, c4, c5, c6, y7⟩ := ZD.out
              go_region_law (
                first
                | (go_simp; go_at_call 19; (with_reducible refine (HK1.out _ SD.out.std).mono ?_); rintro e w8 ⟨d1, cs1, rfl, ht1, hf1, hb8⟩; have T1 := Lib.hid ht1; have G1 := Lib.hid hf1; have B8 := Lib.hid hb8; have S8 := Lib.hid (SD.out.up hb8); have Z8 := Lib.hid (pz_up ZD.out hb8); have y8 := Z8.out.2.2.2.2.2.2.2; clear ht1 hf1 hb8)
                | (go_simp; go_at_call 19; (with_reducible refine (HK2.out d1 cs1 w8 T1.out (G1.out.std S8.out.std)).mono ?_); rintro e w9 ⟨d2, cs2, rfl, ht2, hf2, hb9⟩; have T2 := Lib.hid ht2; have G2 := Lib.hid hf2; have B9 := Lib.hid hb9; have S9 := Lib.hid (S8.out.up hb9); have Z9 := Lib.hid (pz_up Z8.out hb9); have y9 := Z9.out.2.2.2.2.2.2.2; obtain ⟨q0, q1, q2, q3, q4, q5, q6⟩ := c7_of S9.out.box.cat; have r0 := S9.out.box.free 0; have r1 := S9.out.box.free 1; have r2 := S9.out.box.free 2; have r3 := S9.out.box.free 3; have r4 := S9.out.box.free 4; have r5 := S9.out.box.free 5; have r6 := S9.out.box.free 6; clear ht2 hf2 hb9))
              all_goals
                change Exit.then _ _ _ _ (put7 w9 w4.heap.size d2)
                have PN := Lib.hid (pu_put SD.out (Below.refl _ _) G1.out B8.out T2.out G2.out B9.out)
                generalize put7 w9 w4.heap.size d2 = wz at PN ⊢
                clear q0 q1 q2 q3 q4 q5 q6 r0 r1 r2 r3 r4 r5 r6
                go_wp2
                go_roundg (gk - 1)
                case measure => have := HGG.out.1; omega
                case rel =>
                  obtain ⟨-, hm2, -, v', hv', hsz⟩ := HMV.out
                  have hgk := HGG.out
                  exact ⟨_, dn + (gvT ax u), v', d2, cs2, by first | rfl | (rw [hw3]), HPS2.out, by omega, hv', hm2, by omega, by omega, PN.out⟩
    case rest =>
      obtain ⟨X, dn, d', cs', rfl, hps, hpi, hd0, hdb, hst⟩ := hcut
      have HR := Lib.hid (show puR id ax (decide (0 < b)) (absN b) t = (X, dn) by
        unfold puR absN
        rw [HX.out, if_pos hb0, show decide (0 < b) = true from decide_eq_true hb0]
        exact hps)
      have HD := Lib.hid (show puD id ax b t = dn by unfold puD; rw [HR.out])
      have HS := Lib.hid hst
      have BW := Lib.hid (L4.out.below.trans (hst.below.mono L4.out.below.size))
      have LW := Lib.hid (L4.out.up hst.below)
      have FW : Hid (wc.heap[w2.heap.size]? = some (fO (.slice a n cap) P 0)) := Lib.hid ((hst.below.block _ (lt_of_block F4.out)).trans F4.out)
      have PW := Lib.hid (HP.out.1.up (B4.out.trans (hst.below.mono B4.out.size)))
      clear hps hpi hst
      have b4 : (b == 0) = false := by rw [beq_eq_false_iff_ne]; omega
      have b5 : (b != 0) = true := by rw [bne, b4]; rfl
      by_cases h00 : dn = 0
      · subst h00
        have HE : Hid (puE id ax b t = 7) := Lib.hid (by unfold puE; rw [if_pos H0.out, HD.out, if_pos ⟨rfl, by omega⟩])
        have b6 : ((0 : Int) == 0) = true := rfl
        obtain ⟨⟨z0, z1, z2, z3, z4, z5, z6⟩, g0, g1, g2, g3, g4, g5, g6⟩ := zero_parts LW.out.zero
        go_wp2
        (try simp only [Exit.inBlock, Exit.then])
        refine bodyPost_ret (results_k3 rfl _ _ (w.heap.size + 1) noC rfl ((Box7.of_zero LW.out.zero).put noC)) rfl ?_
        exact pu_err HE.out (by decide) (below_put7 LW.out.below (by omega) noC)
      · have b6 : (dn == 0) = false := by rw [beq_eq_false_iff_ne]; exact h00
        have HE : Hid (puE id ax b t = 0) := Lib.hid (by unfold puE; rw [if_pos H0.out, HD.out, if_neg (fun h => h00 h.1)])
        have HN : Hid (puN id ax b t = dn) := Lib.hid (by unfold puN; rw [if_pos hb0, HD.out])
        have HT : Hid (puT id ax b t = setT c.r.x c.r.y ((putT X t (p.take n)).getD zT)) := Lib.hid (by
          unfold puT
          rw [HR.out, HPP.out, HI.out.split.2.1])
        have HCF := Lib.hid HI.out.fine.2.1
        have HPUT := Lib.hid (rput_any wc X d' HS.out.is (p.take n) t c (.slice a n cap) wc (HI.out.up BW.out) (Below.refl _ _) PW.out (by rw [List.length_take]; have := HP.out.2; omega))
        obtain ⟨c0, c1, c2, c3, c4, c5, c6⟩ := c7_of LW.out.box.cat
        obtain ⟨q0, q1, q2, q3, q4, q5, q6⟩ := c7_of HS.out.box.cat
        obtain ⟨⟨s0, s1, s2⟩, f0, f1, f2⟩ := f_parts FW.out
        go_wp2_with fail
        refine HPUT.out.mono ?_
        rintro e w7 ⟨z, rfl, hz, hb7⟩
        have L7 := Lib.hid (LW.out.up hb7)
        have IZ := Lib.hid (hz.is hb7)
        clear hz hb7 c0 c1 c2 c3 c4 c5 c6 q0 q1 q2 q3 q4 q5 q6 s0 s1 s2 f0 f1 f2
        have L8 : Hid (ASt w c (w7.alloc (cbox z))) := Lib.hid (L7.out.up ((Below.refl _ _).alloc (Nat.le_refl _) _))
        have BZ : Hid (Box7 (w7.alloc (cbox z)) w7.heap.size z) := Lib.hid (Box7.new w7 z)
        have I8 := Lib.hid (is_al IZ.out (cbox z))
        go_upto_region 22 with (fail)
        change Code.wp _ _ _ _ (w7.alloc (cbox z))
        generalize w7.alloc (cbox z) = w8 at *
        generalize (putT X t (p.take n)).getD zT = u9 at *
        have HSET := Lib.hid (rset_any (sz u9) u9 z c.r.x c.r.y w8 (Nat.le_refl _) HCF.out.1 HCF.out.2.1 I8.out)
        generalize setT c.r.x c.r.y u9 = t9 at *
        obtain ⟨c0, c1, c2, c3, c4, c5, c6⟩ := c7_of L8.out.box.cat
        obtain ⟨q0, q1, q2, q3, q4, q5, q6⟩ := c7_of BZ.out.cat
        go_wp2_with fail
        refine HSET.out.mono ?_
        rintro e w9 ⟨d9, S9, rfl, ho9, -, hb9⟩
        have L9 := Lib.hid (L8.out.up hb9)
        have O9 := Lib.hid ho9
        clear ho9 hb9 c0 c1 c2 c3 c4 c5 c6 q0 q1 q2 q3 q4 q5 q6
        obtain ⟨⟨z0, z1, z2, z3, z4, z5, z6⟩, g0, g1, g2, g3, g4, g5, g6⟩ := zero_parts L9.out.zero
        go_wp2
        (try simp only [Exit.inBlock, Exit.then])
        refine bodyPost_ret (results_k3 rfl _ _ (w.heap.size + 1) d9 rfl ((Box7.of_zero L9.out.zero).put d9)) rfl ?_
        exact pu_ok HE.out HN.out HT.out (stands_put L9.out O9.out rfl (lt_of_block L8.out.zero)) (below_put7 L9.out.below (by omega) d9)
end Go.Proofs.YtodcabaihhmhnaaGreat
/- A leaf's cell is pushed: the document's walk, by 0 or less. -/

namespace Go.Proofs.YtodcabaihhmhnaaGreat
open Go.RowKit Sh

set_option maxHeartbeats 1500000 in
set_option maxRecDepth 100000 in
theorem rpush_down (id ax b : Int) (t : T) (c : C) (w : World) (hm : sz t ≤ 990) (hi : Is w c t) (hb0 : b ≤ 0) (hbf : fits b) : Calls Tryz.prog 8 #[cval c, .int .i64 id, .int .u8 ax, .int .i64 b] w (PuSays id ax b t w) := by
  have L0 := Lib.hid (ASt.start w c)
  have HF := Lib.hid (rframe_any id ax t c (cellW w c) hm (L0.out.is hi))
  have HI := Lib.hid hi
  have HM := Lib.hid hm
  have HB := Lib.hid hbf
  clear hi hm hbf
  obtain ⟨c0, c1, c2, c3, c4, c5, c6⟩ := c7_of L0.out.box.cat
  go_enter Tryz.func8, Tryz.ntmps8
  go_wp2_with fail
  refine HF.out.mono ?_
  rintro e w2 ⟨hb2, hcase⟩
  have L2 := Lib.hid (L0.out.up hb2)
  clear c0 c1 c2 c3 c4 c5 c6 HF hb2
  rcases hcase with ⟨h0, rfl⟩ | ⟨h0, p, n, y, k, a, cap, hf, hr, hy, hk, hn, rfl, hp, hfar⟩
  · have HE : Hid (puE id ax b t = fdE id ax t) := Lib.hid (if_neg h0)
    have H0 := Lib.hid h0
    have b1 : (fdE id ax t == 0) = false := by simpa using h0
    have b2 : (fdE id ax t != 0) = true := by simpa using h0
    have n1 : ¬ fdE id ax t = 0 := h0
    obtain ⟨⟨s0, s1, s2⟩, f0, f1, f2⟩ := f_parts (heap_alloc_new w2 (fO (.slice none 0 0) 0 (fdE id ax t)))
    have L3 : Hid (ASt w c (w2.alloc (fO (.slice none 0 0) 0 (fdE id ax t)))) := Lib.hid (L2.out.up ((Below.refl _ _).alloc (Nat.le_refl _) _))
    clear h0
    generalize fdE id ax t = E at *
    go_upto_region 2 with (fail)
    change Code.wp _ _ _ _ (w2.alloc (fO (.slice none 0 0) 0 E))
    generalize w2.alloc (fO (.slice none 0 0) 0 E) = w3 at *
    obtain ⟨⟨z0, z1, z2, z3, z4, z5, z6⟩, g0, g1, g2, g3, g4, g5, g6⟩ := zero_parts L3.out.zero
    have hne : w2.heap.size ≠ w.heap.size + 1 := by have := lt_of_block L2.out.zero; omega
    have D5 : (put7 w3 (w.heap.size + 1) noC).cell? ⟨w2.heap.size, 2, none⟩ = some (.int .i64 E) := (World.cell?_of_block (heap_put7 hne)).trans s2
    go_upto_region 3 with (fail)
    go_region
    change Exit.then _ _ _ _ (put7 w3 (w.heap.size + 1) noC).drew
    have X5 : Hid (Box7 (put7 w3 (w.heap.size + 1) noC).drew (w.heap.size + 1) noC) := Lib.hid (box_drew ((Box7.of_zero L3.out.zero).put noC))
    have B5 : Hid (Below w.heap.size w (put7 w3 (w.heap.size + 1) noC).drew) := Lib.hid (below_put7 L3.out.below (by omega) noC).drew
    generalize (put7 w3 (w.heap.size + 1) noC).drew = w5 at *
    clear s0 s1 s2 f0 f1 f2 z0 z1 z2 z3 z4 z5 z6 g0 g1 g2 g3 g4 g5 g6
    go_wp2
    (try simp only [Exit.inBlock, Exit.then])
    refine bodyPost_ret (results_k3 rfl _ _ (w.heap.size + 1) noC rfl X5.out) rfl ?_
    exact pu_err HE.out H0.out B5.out
  · have HX := Lib.hid (frx_is hf hr hy hk)
    have HPP := Lib.hid (frp_is hf hr)
    have htl := fd_tile h0
    have hty := tile_at (by have := HM.out; omega) htl.1 hy
    have HTY := Lib.hid (show tileB y = true ∧ sz y ≤ 990 from ⟨hty.1, by have := HM.out; have := hty.2; omega⟩)
    have HAX := Lib.hid ((axB_iff ax).1 htl.2)
    have HAL := Lib.hid (fr_al hr hy)
    have hpl : p.length ≤ 1000000 := by have := findT_len id p t hf; have := HM.out; omega
    have HY := Lib.hid hy
    have HP := Lib.hid (show Path w2 (.slice a n cap) (p.take n) ∧ n ≤ 1000000 from ⟨hp, by omega⟩)
    have HAT := Lib.hid (fun (W : World) (h : Below w2.heap.size w2 W) => rat_any w2 (p.take n) t c (.slice a n cap) W (HI.out.up L2.out.below) h hp (by rw [List.length_take]; omega))
    rw [hy] at HAT
    have hsy : (some y : Option T).isSome = true := rfl
    have hgy : (some y : Option T).getD zT = y := rfl
    simp only [hsy, hgy] at HAT
    obtain ⟨hinv, hS, hl2⟩ := pu_start HAX.out HTY.out.2 HTY.out.1 HAL.out
    obtain ⟨P, hP, hPl⟩ := plc_in hf hy hk hl2
    rw [hP] at HX ⊢
    clear hf hr hy hn hp hfar htl hty hsy hgy hpl
    have H0 := Lib.hid h0
    clear h0 hk
    have F3 : Hid ((w2.alloc (fO (.slice a n cap) P 0)).heap[w2.heap.size]? = some (fO (.slice a n cap) P 0)) := Lib.hid (heap_alloc_new _ _)
    have B3 : Hid (Below w2.heap.size w2 (w2.alloc (fO (.slice a n cap) P 0))) := Lib.hid ((Below.refl _ _).alloc (Nat.le_refl _) _)
    have L3 : Hid (ASt w c (w2.alloc (fO (.slice a n cap) P 0))) := Lib.hid (L2.out.up B3.out)
    go_upto_region 2 with (fail)
    change Code.wp _ _ _ _ (w2.alloc (fO (.slice a n cap) P 0))
    generalize w2.alloc (fO (.slice a n cap) P 0) = w3 at *
    obtain ⟨⟨s0, s1, s2⟩, f0, f1, f2⟩ := f_parts F3.out
    obtain ⟨c0, c1, c2, c3, c4, c5, c6⟩ := c7_of L3.out.box.cat
    have HA := Lib.hid (HAT.out w3 B3.out)
    clear HAT
    go_wp2_with fail
    refine HA.out.mono ?_
    rintro e w4 ⟨d, rfl, hd, hb4⟩
    have B4 := Lib.hid (B3.out.trans (hb4.mono B3.out.size))
    have L4 := Lib.hid (L3.out.up hb4)
    have F4 : Hid (w4.heap[w2.heap.size]? = some (fO (.slice a n cap) P 0)) := Lib.hid ((hb4.block _ (lt_of_block F3.out)).trans F3.out)
    obtain ⟨cs, htop, hstd⟩ := std_of (hd.up B4.out)
    have S5 := Lib.hid (pu_new htop hstd)
    clear s0 s1 s2 f0 f1 f2 c0 c1 c2 c3 c4 c5 c6 HA hd hb4 htop hstd
    go_upto_region 5 with (fail)
    change Code.wp _ _ _ _ (w4.alloc (cbox d))
    generalize w4.alloc (cbox d) = w5 at *
    have HPI := Lib.hid hinv
    have HSW := Lib.hid hS
    have HPL := Lib.hid hPl
    clear hinv hS hPl hl2 hP
    go_upto_block 0 with (fail)
    go_cut [14, 15, 16] from 36 to 98 (fun s s15 s16 wx => ∃ X dn d' cs', s = .int .i64 (-dn) ∧ psT ax P false (-b) 20001 y 0 = (X, dn) ∧ PuInv ax (szA y.r ax) (sz y) y.kids.length X ∧ 0 ≤ dn ∧ dn ≤ -b ∧ PuSt w4 d' cs' X wx)
    case first =>
      go_wp2_with fail
      go_loopg [14] 20001 (fun gg s wr => ∃ X dn v d' cs', s = .int .i64 (-dn) ∧ psT ax P false (-b) 20001 y 0 = psT ax P false (-b) gg X dn ∧ 10001 - szA v.r ax ≤ (gg : Int) ∧ X.kids[P + 1]? = some v ∧ PuInv ax (szA y.r ax) (sz y) y.kids.length X ∧ 0 ≤ dn ∧ dn ≤ -b ∧ dn < szA v.r ax ∧ PuSt w4 d' cs' X wr)
      case atStart =>
        obtain ⟨v, hv⟩ : ∃ v, y.kids[P + 1]? = some v := ⟨_, List.getElem?_eq_getElem (by have := HPL.out; omega)⟩
        have := pu_size HAX.out HPI.out hv
        exact ⟨y, 0, v, d, cs, rfl, rfl, by omega, hv, HPI.out, by omega, by omega, by omega, S5.out⟩
      case round =>
        obtain ⟨X, dn, v, d', cs', rfl, hps, hgg, hv, hpi, hd0, hdb, hdv, hst⟩ := hrel
        have hvs := pu_size HAX.out hpi hv
        have hd9 : dn < 10000 := by have := HSW.out; omega
        have HPS := Lib.hid hps
        have HGG := Lib.hid (show 1 ≤ gk ∧ 10001 - szA v.r ax ≤ (gk : Int) from ⟨by have := HSW.out; omega, hgg⟩)
        have HV := Lib.hid hv
        have HQ := Lib.hid hpi
        have HS := Lib.hid hst
        clear hps hgg hv hpi hst hvs
        by_cases hdn : dn = -b
        · have b1 : (-dn == b) = true := by rw [beq_iff_eq]; omega
          have b2 : (-dn != b) = false := by rw [bne, b1]; rfl
          have HE := Lib.hid (HPS.out.trans (ps_stop (.inl hdn)))
          go_wp2
          go_meet
          exact ⟨X, dn, d', cs', rfl, HE.out, HQ.out, hd0, hdb, HS.out⟩
        · have b1 : (-dn == b) = false := by rw [beq_eq_false_iff_ne]; omega
          have b2 : (-dn != b) = true := by rw [bne, b1]; rfl
          have b3 : decide (0 < b) = false := decide_eq_false (by omega)
          have hXl : X.kids.length ≤ 990 := by have h1 := HQ.out.len; have h2 := HTY.out.2; have h3 := kids_le h2; omega
          have hPX : P + 1 < X.kids.length := (List.getElem?_eq_some_iff.1 HV.out).1
          have HGV := Lib.hid (rgiver_any ax X d' P false wr HAX.out (by omega) (fun j u hu => ⟨(HQ.out.kids j u hu).1, by have := (HQ.out.kids j u hu).2; omega⟩) (by omega) HS.out.is)
          obtain ⟨c0, c1, c2, c3, c4, c5, c6⟩ := c7_of HS.out.box.cat
          have F6 : Hid (wr.heap[w2.heap.size]? = some (fO (.slice a n cap) P 0)) := Lib.hid ((HS.out.below.block _ (lt_of_block F4.out)).trans F4.out)
          obtain ⟨⟨s0, s1, s2⟩, f0, f1, f2⟩ := f_parts F6.out
          go_wp2_with fail
          refine HGV.out.mono ?_
          rintro e w6 ⟨rfl, hb6⟩
          have S6 := Lib.hid (HS.out.up hb6)
          clear hb6 c0 c1 c2 c3 c4 c5 c6 s0 s1 s2 f0 f1 f2
          by_cases hgi : gvrN ax X.kids P false < 0
          · have d1 : decide (gvrN ax X.kids P false < 0) = true := decide_eq_true hgi
            have HE := Lib.hid (HPS.out.trans (ps_stop (.inr hgi)))
            go_wp2
            go_meet
            exact ⟨X, dn, d', cs', rfl, HE.out, HQ.out, hd0, hdb, S6.out⟩
          · obtain ⟨i, u, hi, hu, hgu, hip⟩ := giver_is (show P < X.kids.length by omega) (Int.not_lt.1 hgi)
            have hip : i ≠ P + 1 := hip
            have HGI := Lib.hid (rgives_any ax X u d' i w6 HAX.out hu (by have := (HQ.out.kids i u hu).2; omega) (HQ.out.kids i u hu).1 (by omega) S6.out.is)
            have hgb := gv_bounds HAX.out (by have := (HQ.out.kids i u hu).2; omega) (HQ.out.kids i u hu).1
            have hbf := HB.out
            unfold fits at hbf
            have hw0 : IntKind.i64.wrap (-dn - gvT ax u) = -dn - gvT ax u := wrap_id (by omega)
            have hwp : IntKind.i64.wrap ((P : Int) + 1) = (P : Int) + 1 := wrap_id (by omega)
            have di : decide ((i : Int) < 0) = false := decide_eq_false (by omega)
            obtain ⟨c0, c1, c2, c3, c4, c5, c6⟩ := c7_of S6.out.box.cat
            rw [hi]
            clear hgi
            by_cases hlt : -dn - gvT ax u < b
            · have HNX : Hid (nxN ax (-b) dn u = -dn - b) := Lib.hid (by unfold nxN; rw [if_pos (by omega)]; omega)
              have d1 : decide (-dn - gvT ax u < b) = true := decide_eq_true hlt
              have hw1 : IntKind.i64.wrap (-dn - b) = -dn - b := wrap_id (by omega)
              have hn0 : 0 < (-dn - b) ∧ (-dn - b) ≤ gvT ax u ∧ dn + (-dn - b) ≤ -b := by have := nx_in (ax := ax) (u := u) (show dn < -b by omega) hgu; rw [HNX.out] at this; exact this
              have hw2 : IntKind.i64.wrap (-(-dn - b)) = -(-dn - b) := wrap_id (by omega)
              have hw3 : IntKind.i64.wrap (-dn - (-dn - b)) = -dn - (-dn - b) := wrap_id (by omega)
              have HMV := Lib.hid (mv_inv HAX.out HQ.out HSW.out hu HV.out hip (by omega) hn0.2.1)
              have HPS2 : Hid (psT ax P false (-b) 20001 y 0 = psT ax P false (-b) (gk - 1) (mvT ax (-dn - b) i (P + 1) X) (dn + (-dn - b))) := Lib.hid (by
                obtain ⟨f, hf⟩ : ∃ f, gk = f + 1 := ⟨gk - 1, by have := HGG.out.1; omega⟩
                have h1 := ps_step (f := f) (a := -b) hdn hi hu
                rw [HNX.out] at h1
                rw [hf] at HPS ⊢
                exact HPS.out.trans h1)
              have HX1 : Hid (sz (withT ax (-(-dn - b)) i X) ≤ 990 ∧ (withT ax (-(-dn - b)) i X).kids.length = X.kids.length) := Lib.hid ⟨by have h1 := HMV.out.1.sz; have h2 := HTY.out.2; omega, by have h1 := HMV.out.1.len; have h2 := HQ.out.len; omega⟩
              have hi2 := (List.getElem?_eq_some_iff.1 hu).1
              have HX0 : Hid (sz X ≤ 990) := Lib.hid (by have h1 := HQ.out.sz; have h2 := HTY.out.2; omega)
              have HK1 := Lib.hid (fun (W : World) (h : Std d' cs' X W) => rwithS_any X d' cs' i ax (-(-dn - b)) W HX0.out S6.out.top h hi2 (show fits (-(-dn - b)) by unfold fits; omega))
              have HK2 := Lib.hid (fun (d1 : C) (cs1 : List C) (W : World) (ht : TopC d1 cs1 (withT ax (-(-dn - b)) i X)) (h : Std d1 cs1 (withT ax (-(-dn - b)) i X) W) => show Calls Tryz.prog 19 #[cval d1, .int .i64 ((P : Int) + 1), .int .u8 ax, .int .i64 (-dn - b)] W (FxSays (Std d1 cs1 (withT ax (-(-dn - b)) i X)) (withT ax (-dn - b) (P + 1) (withT ax (-(-dn - b)) i X)) W) from by
                have h9 := rwithS_any (withT ax (-(-dn - b)) i X) d1 cs1 (P + 1) ax (-dn - b) W HX1.out.1 ht h (by rw [HX1.out.2]; exact hPX) (show fits (-dn - b) by unfold fits; omega)
                rw [show ((P + 1 : Nat) : Int) = (P : Int) + 1 by omega] at h9
                exact h9)
              go_wp2_with fail
              refine HGI.out.mono ?_
              rintro e w7 ⟨rfl, hb7⟩
              have S7 := Lib.hid (S6.out.up hb7)
              clear hb7 c0 c1 c2 c3 c4 c5 c6
              have SD : Hid (PuSt w4 d' cs' X w7.drew) := Lib.hid (S7.out.up (Below.refl _ _).drew)
              have FD : Hid (w7.drew.heap[w2.heap.size]? = some (fO (.slice a n cap) P 0)) := Lib.hid ((SD.out.below.block _ (lt_of_block F4.out)).trans F4.out)
              have ZD : Hid (Pz w4.heap.size w2.heap.size d' P w7.drew) := Lib.hid (pz_of SD.out.box.cat (f_parts FD.out).1.2.1)
              go_upto_region 17 with (fail)
              obtain ⟨c0, c1, c2, c3, c4, c5, c6, y7⟩ := ZD.out
              go_region_law (
                first
                | (go_simp; go_at_call 19; (with_reducible refine (HK1.out _ SD.out.std).mono ?_); rintro e w8 ⟨d1, cs1, rfl, ht1, hf1, hb8⟩; have T1 := Lib.hid ht1; have G1 := Lib.hid hf1; have B8 := Lib.hid hb8; have S8 := Lib.hid (SD.out.up hb8); have Z8 := Lib.hid (pz_up ZD.out hb8); have y8 := Z8.out.2.2.2.2.2.2.2; clear ht1 hf1 hb8)
                | (go_simp; go_at_call 19; (with_reducible refine (HK2.out d1 cs1 w8 T1.out (G1.out.std S8.out.std)).mono ?_); rintro e w9 ⟨d2, cs2, rfl, ht2, hf2, hb9⟩; have T2 := Lib.hid ht2; have G2 := Lib.hid hf2; have B9 := Lib.hid hb9; have S9 := Lib.hid (S8.out.up hb9); have Z9 := Lib.hid (pz_up Z8.out hb9); have y9 := Z9.out.2.2.2.2.2.2.2; obtain ⟨q0, q1, q2, q3, q4, q5, q6⟩ := c7_of S9.out.box.cat; have r0 := S9.out.box.free 0; have r1 := S9.out.box.free 1; have r2 := S9.out.box.free 2; have r3 := S9.out.box.free 3; have r4 := S9.out.box.free 4; have r5 := S9.out.box.free 5; have r6 := S9.out.box.free 6; clear ht2 hf2 hb9))
              all_goals
                change Exit.then _ _ _ _ (put7 w9 w4.heap.size d2)
                have PN := Lib.hid (pu_put SD.out (Below.refl _ _) G1.out B8.out T2.out G2.out B9.out)
                generalize put7 w9 w4.heap.size d2 = wz at PN ⊢
                clear q0 q1 q2 q3 q4 q5 q6 r0 r1 r2 r3 r4 r5 r6
                go_wp2
                go_roundg (gk - 1)
                case measure => have := HGG.out.1; omega
                case rel =>
                  obtain ⟨-, hm2, -, v', hv', hsz⟩ := HMV.out
                  have hgk := HGG.out
                  exact ⟨_, dn + (-dn - b), v', d2, cs2, by rw [show -(dn + (-dn - b)) = -dn - (-dn - b) by omega], HPS2.out, by omega, hv', hm2, by omega, by omega, by omega, PN.out⟩
            · have HNX : Hid (nxN ax (-b) dn u = gvT ax u) := Lib.hid (by unfold nxN; exact if_neg (by omega))
              have d1 : decide (-dn - gvT ax u < b) = false := decide_eq_false hlt
              have hn0 : 0 < (gvT ax u) ∧ (gvT ax u) ≤ (gvT ax u) ∧ dn + (gvT ax u) ≤ -b := by have := nx_in (ax := ax) (u := u) (show dn < -b by omega) hgu; rw [HNX.out] at this; exact this
              have hw2 : IntKind.i64.wrap (-(gvT ax u)) = -(gvT ax u) := wrap_id (by omega)
              have hw3 : IntKind.i64.wrap (-dn - (gvT ax u)) = -dn - (gvT ax u) := wrap_id (by omega)
              have HMV := Lib.hid (mv_inv HAX.out HQ.out HSW.out hu HV.out hip (by omega) hn0.2.1)
              have HPS2 : Hid (psT ax P false (-b) 20001 y 0 = psT ax P false (-b) (gk - 1) (mvT ax (gvT ax u) i (P + 1) X) (dn + (gvT ax u))) := Lib.hid (by
                obtain ⟨f, hf⟩ : ∃ f, gk = f + 1 := ⟨gk - 1, by have := HGG.out.1; omega⟩
                have h1 := ps_step (f := f) (a := -b) hdn hi hu
                rw [HNX.out] at h1
                rw [hf] at HPS ⊢
                exact HPS.out.trans h1)
              have HX1 : Hid (sz (withT ax (-(gvT ax u)) i X) ≤ 990 ∧ (withT ax (-(gvT ax u)) i X).kids.length = X.kids.length) := Lib.hid ⟨by have h1 := HMV.out.1.sz; have h2 := HTY.out.2; omega, by have h1 := HMV.out.1.len; have h2 := HQ.out.len; omega⟩
              have hi2 := (List.getElem?_eq_some_iff.1 hu).1
              have HX0 : Hid (sz X ≤ 990) := Lib.hid (by have h1 := HQ.out.sz; have h2 := HTY.out.2; omega)
              have HK1 := Lib.hid (fun (W : World) (h : Std d' cs' X W) => rwithS_any X d' cs' i ax (-(gvT ax u)) W HX0.out S6.out.top h hi2 (show fits (-(gvT ax u)) by unfold fits; omega))
              have HK2 := Lib.hid (fun (d1 : C) (cs1 : List C) (W : World) (ht : TopC d1 cs1 (withT ax (-(gvT ax u)) i X)) (h : Std d1 cs1 (withT ax (-(gvT ax u)) i X) W) => show Calls Tryz.prog 19 #[cval d1, .int .i64 ((P : Int) + 1), .int .u8 ax, .int .i64 (gvT ax u)] W (FxSays (Std d1 cs1 (withT ax (-(gvT ax u)) i X)) (withT ax (gvT ax u) (P + 1) (withT ax (-(gvT ax u)) i X)) W) from by
                have h9 := rwithS_any (withT ax (-(gvT ax u)) i X) d1 cs1 (P + 1) ax (gvT ax u) W HX1.out.1 ht h (by rw [HX1.out.2]; exact hPX) (show fits (gvT ax u) by unfold fits; omega)
                rw [show ((P + 1 : Nat) : Int) = (P : Int) + 1 by omega] at h9
                exact h9)
              go_wp2_with fail
              refine HGI.out.mono ?_
              rintro e w7 ⟨rfl, hb7⟩
              have S7 := Lib.hid (S6.out.up hb7)
              clear hb7 c0 c1 c2 c3 c4 c5 c6
              have SD : Hid (PuSt w4 d' cs' X w7.drew) := Lib.hid (S7.out.up (Below.refl _ _).drew)
              have FD : Hid (w7.drew.heap[w2.heap.size]? = some (fO (.slice a n cap) P 0)) := Lib.hid ((SD.out.below.block _ (lt_of_block F4.out)).trans F4.out)
              have ZD : Hid (Pz w4.heap.size w2.heap.size d' P w7.drew) := Lib.hid (pz_of SD.out.box.cat (f_parts FD.out).1.2.1)
              go_upto_region 17 with (fail)
              obtain ⟨c0, c1, c2, c3, c4, c5, c6, y7⟩ := ZD.out
              go_region_law (
                first
                | (go_simp; go_at_call 19; (with_reducible refine (HK1.out _ SD.out.std).mono ?_); rintro e w8 ⟨d1, cs1, rfl, ht1, hf1, hb8⟩; have T1 := Lib.hid ht1; have G1 := Lib.hid hf1; have B8 := Lib.hid hb8; have S8 := Lib.hid (SD.out.up hb8); have Z8 := Lib.hid (pz_up ZD.out hb8); have y8 := Z8.out.2.2.2.2.2.2.2; clear ht1 hf1 hb8)
                | (go_simp; go_at_call 19; (with_reducible refine (HK2.out d1 cs1 w8 T1.out (G1.out.std S8.out.std)).mono ?_); rintro e w9 ⟨d2, cs2, rfl, ht2, hf2, hb9⟩; have T2 := Lib.hid ht2; have G2 := Lib.hid hf2; have B9 := Lib.hid hb9; have S9 := Lib.hid (S8.out.up hb9); have Z9 := Lib.hid (pz_up Z8.out hb9); have y9 := Z9.out.2.2.2.2.2.2.2; obtain ⟨q0, q1, q2, q3, q4, q5, q6⟩ := c7_of S9.out.box.cat; have r0 := S9.out.box.free 0; have r1 := S9.out.box.free 1; have r2 := S9.out.box.free 2; have r3 := S9.out.box.free 3; have r4 := S9.out.box.free 4; have r5 := S9.out.box.free 5; have r6 := S9.out.box.free 6; clear ht2 hf2 hb9))
              all_goals
                change Exit.then _ _ _ _ (put7 w9 w4.heap.size d2)
                have PN := Lib.hid (pu_put SD.out (Below.refl _ _) G1.out B8.out T2.out G2.out B9.out)
                generalize put7 w9 w4.heap.size d2 = wz at PN ⊢
                clear q0 q1 q2 q3 q4 q5 q6 r0 r1 r2 r3 r4 r5 r6
                go_wp2
                go_roundg (gk - 1)
                case measure => have := HGG.out.1; omega
                case rel =>
                  obtain ⟨-, hm2, -, v', hv', hsz⟩ := HMV.out
                  have hgk := HGG.out
                  exact ⟨_, dn + (gvT ax u), v', d2, cs2, by rw [show -(dn + (gvT ax u)) = -dn - (gvT ax u) by omega], HPS2.out, by omega, hv', hm2, by omega, by omega, by omega, PN.out⟩
    case rest =>
      obtain ⟨X, dn, d', cs', rfl, hps, hpi, hd0, hdb, hst⟩ := hcut
      have HR := Lib.hid (show puR id ax (decide (0 < b)) (absN b) t = (X, dn) by
        unfold puR absN
        rw [HX.out, if_neg (by omega), show decide (0 < b) = false from decide_eq_false (by omega)]
        exact hps)
      have HD := Lib.hid (show puD id ax b t = dn by unfold puD; rw [HR.out])
      have HS := Lib.hid hst
      have BW := Lib.hid (L4.out.below.trans (hst.below.mono L4.out.below.size))
      have LW := Lib.hid (L4.out.up hst.below)
      have FW : Hid (wc.heap[w2.heap.size]? = some (fO (.slice a n cap) P 0)) := Lib.hid ((hst.below.block _ (lt_of_block F4.out)).trans F4.out)
      have PW := Lib.hid (HP.out.1.up (B4.out.trans (hst.below.mono B4.out.size)))
      clear hps hpi hst
      by_cases h00 : dn = 0
      · by_cases hb9 : b = 0
        · have b4 : (b == 0) = true := by rw [beq_iff_eq]; exact hb9
          have b5 : (b != 0) = false := by rw [bne, b4]; rfl
          subst h00
          have b6 : ((0 : Int) == 0) = true := rfl
          have HE : Hid (puE id ax b t = 0) := Lib.hid (by unfold puE; rw [if_pos H0.out, HD.out, if_neg (fun h => h.2 hb9)])
          have HN : Hid (puN id ax b t = 0) := Lib.hid (by unfold puN; rw [if_neg (by omega), HD.out]; rfl)
          have HT : Hid (puT id ax b t = setT c.r.x c.r.y ((putT X t (p.take n)).getD zT)) := Lib.hid (by
            unfold puT
            rw [HR.out, HPP.out, HI.out.split.2.1])
          have HCF := Lib.hid HI.out.fine.2.1
          have HPUT := Lib.hid (rput_any wc X d' HS.out.is (p.take n) t c (.slice a n cap) wc (HI.out.up BW.out) (Below.refl _ _) PW.out (by rw [List.length_take]; have := HP.out.2; omega))
          obtain ⟨c0, c1, c2, c3, c4, c5, c6⟩ := c7_of LW.out.box.cat
          obtain ⟨q0, q1, q2, q3, q4, q5, q6⟩ := c7_of HS.out.box.cat
          obtain ⟨⟨s0, s1, s2⟩, f0, f1, f2⟩ := f_parts FW.out
          go_wp2_with fail
          refine HPUT.out.mono ?_
          rintro e w7 ⟨z, rfl, hz, hb7⟩
          have L7 := Lib.hid (LW.out.up hb7)
          have IZ := Lib.hid (hz.is hb7)
          clear hz hb7 c0 c1 c2 c3 c4 c5 c6 q0 q1 q2 q3 q4 q5 q6 s0 s1 s2 f0 f1 f2
          have L8 : Hid (ASt w c (w7.alloc (cbox z))) := Lib.hid (L7.out.up ((Below.refl _ _).alloc (Nat.le_refl _) _))
          have BZ : Hid (Box7 (w7.alloc (cbox z)) w7.heap.size z) := Lib.hid (Box7.new w7 z)
          have I8 := Lib.hid (is_al IZ.out (cbox z))
          go_upto_region 22 with (fail)
          change Code.wp _ _ _ _ (w7.alloc (cbox z))
          generalize w7.alloc (cbox z) = w8 at *
          generalize (putT X t (p.take n)).getD zT = u9 at *
          have HSET := Lib.hid (rset_any (sz u9) u9 z c.r.x c.r.y w8 (Nat.le_refl _) HCF.out.1 HCF.out.2.1 I8.out)
          generalize setT c.r.x c.r.y u9 = t9 at *
          obtain ⟨c0, c1, c2, c3, c4, c5, c6⟩ := c7_of L8.out.box.cat
          obtain ⟨q0, q1, q2, q3, q4, q5, q6⟩ := c7_of BZ.out.cat
          go_wp2_with fail
          refine HSET.out.mono ?_
          rintro e w9 ⟨d9, S9, rfl, ho9, -, hb9⟩
          have L9 := Lib.hid (L8.out.up hb9)
          have O9 := Lib.hid ho9
          clear ho9 hb9 c0 c1 c2 c3 c4 c5 c6 q0 q1 q2 q3 q4 q5 q6
          obtain ⟨⟨z0, z1, z2, z3, z4, z5, z6⟩, g0, g1, g2, g3, g4, g5, g6⟩ := zero_parts L9.out.zero
          go_wp2
          (try simp only [Exit.inBlock, Exit.then])
          refine bodyPost_ret (results_k3 rfl _ _ (w.heap.size + 1) d9 rfl ((Box7.of_zero L9.out.zero).put d9)) rfl ?_
          exact pu_ok HE.out HN.out HT.out (stands_put L9.out O9.out rfl (lt_of_block L8.out.zero)) (below_put7 L9.out.below (by omega) d9)
        · have b4 : (b == 0) = false := by rw [beq_eq_false_iff_ne]; exact hb9
          have b5 : (b != 0) = true := by rw [bne, b4]; rfl
          subst h00
          have HE : Hid (puE id ax b t = 7) := Lib.hid (by unfold puE; rw [if_pos H0.out, HD.out, if_pos ⟨rfl, by omega⟩])
          have b6 : ((0 : Int) == 0) = true := rfl
          obtain ⟨⟨z0, z1, z2, z3, z4, z5, z6⟩, g0, g1, g2, g3, g4, g5, g6⟩ := zero_parts LW.out.zero
          go_wp2
          (try simp only [Exit.inBlock, Exit.then])
          refine bodyPost_ret (results_k3 rfl _ _ (w.heap.size + 1) noC rfl ((Box7.of_zero LW.out.zero).put noC)) rfl ?_
          exact pu_err HE.out (by decide) (below_put7 LW.out.below (by omega) noC)
      · have b4 : (b == 0) = false := by rw [beq_eq_false_iff_ne]; omega
        have b5 : (b != 0) = true := by rw [bne, b4]; rfl
        have b6 : (-dn == 0) = false := by rw [beq_eq_false_iff_ne]; omega
        have HE : Hid (puE id ax b t = 0) := Lib.hid (by unfold puE; rw [if_pos H0.out, HD.out, if_neg (fun h => h00 h.1)])
        have HN : Hid (puN id ax b t = -dn) := Lib.hid (by unfold puN; rw [if_neg (by omega), HD.out])
        have HT : Hid (puT id ax b t = setT c.r.x c.r.y ((putT X t (p.take n)).getD zT)) := Lib.hid (by
          unfold puT
          rw [HR.out, HPP.out, HI.out.split.2.1])
        have HCF := Lib.hid HI.out.fine.2.1
        have HPUT := Lib.hid (rput_any wc X d' HS.out.is (p.take n) t c (.slice a n cap) wc (HI.out.up BW.out) (Below.refl _ _) PW.out (by rw [List.length_take]; have := HP.out.2; omega))
        obtain ⟨c0, c1, c2, c3, c4, c5, c6⟩ := c7_of LW.out.box.cat
        obtain ⟨q0, q1, q2, q3, q4, q5, q6⟩ := c7_of HS.out.box.cat
        obtain ⟨⟨s0, s1, s2⟩, f0, f1, f2⟩ := f_parts FW.out
        go_wp2_with fail
        refine HPUT.out.mono ?_
        rintro e w7 ⟨z, rfl, hz, hb7⟩
        have L7 := Lib.hid (LW.out.up hb7)
        have IZ := Lib.hid (hz.is hb7)
        clear hz hb7 c0 c1 c2 c3 c4 c5 c6 q0 q1 q2 q3 q4 q5 q6 s0 s1 s2 f0 f1 f2
        have L8 : Hid (ASt w c (w7.alloc (cbox z))) := Lib.hid (L7.out.up ((Below.refl _ _).alloc (Nat.le_refl _) _))
        have BZ : Hid (Box7 (w7.alloc (cbox z)) w7.heap.size z) := Lib.hid (Box7.new w7 z)
        have I8 := Lib.hid (is_al IZ.out (cbox z))
        go_upto_region 22 with (fail)
        change Code.wp _ _ _ _ (w7.alloc (cbox z))
        generalize w7.alloc (cbox z) = w8 at *
        generalize (putT X t (p.take n)).getD zT = u9 at *
        have HSET := Lib.hid (rset_any (sz u9) u9 z c.r.x c.r.y w8 (Nat.le_refl _) HCF.out.1 HCF.out.2.1 I8.out)
        generalize setT c.r.x c.r.y u9 = t9 at *
        obtain ⟨c0, c1, c2, c3, c4, c5, c6⟩ := c7_of L8.out.box.cat
        obtain ⟨q0, q1, q2, q3, q4, q5, q6⟩ := c7_of BZ.out.cat
        go_wp2_with fail
        refine HSET.out.mono ?_
        rintro e w9 ⟨d9, S9, rfl, ho9, -, hb9⟩
        have L9 := Lib.hid (L8.out.up hb9)
        have O9 := Lib.hid ho9
        clear ho9 hb9 c0 c1 c2 c3 c4 c5 c6 q0 q1 q2 q3 q4 q5 q6
        obtain ⟨⟨z0, z1, z2, z3, z4, z5, z6⟩, g0, g1, g2, g3, g4, g5, g6⟩ := zero_parts L9.out.zero
        go_wp2
        (try simp only [Exit.inBlock, Exit.then])
        refine bodyPost_ret (results_k3 rfl _ _ (w.heap.size + 1) d9 rfl ((Box7.of_zero L9.out.zero).put d9)) rfl ?_
        exact pu_ok HE.out HN.out HT.out (stands_put L9.out O9.out rfl (lt_of_block L8.out.zero)) (below_put7 L9.out.below (by omega) d9)
end Go.Proofs.YtodcabaihhmhnaaGreat
