/- The law LeastSums. -/
import Derived.Test.YtajhojbnpajelaaLawIs
namespace Go.Proofs.Ytajhojbnpajelaa
open Go.RowKit

theorem gv_bound {ax : Int} (hax : ax = 1 ∨ ax = 2) {t : T} (hs : sz t ≤ 999) (ht : tileB t = true) : 0 ≤ gvT ax t ∧ gvT ax t ≤ 10000 := by
  have h1 := tile_ls hax (sz t) t (Nat.le_refl _) hs ht
  have h2 := ls_pos ax t
  have h3 := szA_pos (well_rect (tile_top hs ht).1) hax
  unfold gvT
  omega
/-- What the law's loop has gone through: the least so far, where the kids stand along the other axis. -/
def MnIs (ax : Int) (t : T) (k : Nat) (m : Int) : Prop := alB t.k ax = false → m = mnK ax (szA t.r ax) t.kids k

set_option maxRecDepth 100000 in
set_option maxHeartbeats 4000000 in
theorem leastSums_any (t : T) (c : C) (ax : Int) (w : World) (hi : Is w c t) (hs : sz t ≤ 1099511627776) :
    Calls Try.prog 5 #[cval c, .int .u8 ax] w fun e w' => e = .returned (.bool true) ∧ Below w.heap.size w w' := by
  have S0 := Lib.hid (QSt.new w c)
  have HG := Lib.hid (great_any t c (w.alloc (cbox c)) (hi.up S0.out.below))
  have HI := Lib.hid hi
  have hcn := hi.n
  clear hi
  obtain ⟨ck, cr, cid, ca, cn, ccap⟩ := c
  simp only at hcn
  subst hcn
  go_enter Try.func5, Try.ntmps5
  go_wp2_with fail
  refine HG.out.mono ?_
  rintro e w1 ⟨g, rfl, hg, hb1⟩
  have S1 := Lib.hid (S0.out.up hb1)
  have HF := Lib.hid hg
  clear hb1 hg
  cases g with
  | true =>
    go_wp2_with fail
    refine (awake8_any w1).mono ?_
    rintro e w2 ⟨rfl, hb2⟩
    have S2 := Lib.hid (S1.out.up hb2)
    clear hb2
    go_wp2
    go_ret
    exact ⟨rfl, S2.out.below⟩
  | false =>
    have hsz : sz t ≤ 200 := HF.out rfl hs
    have HSZ : Hid (sz t ≤ 999) := Lib.hid (by omega)
    have HT := Lib.hid (rtiles8_any t _ w1 (HI.out.up S1.out.below) (by omega))
    obtain ⟨c0, c1, c2, c3, c4, c5, c6⟩ := S1.out.c7
    cases ht : tileB t with
    | false =>
      rw [ht] at HT
      clear ht hsz
      go_wp2_with fail
      refine HT.out.mono ?_
      rintro e w2 ⟨rfl, hb2⟩
      have S2 := Lib.hid (S1.out.up hb2)
      clear hb2 c0 c1 c2 c3 c4 c5 c6
      go_wp2_with fail
      refine (awake8_any w2).mono ?_
      rintro e w3 ⟨rfl, hb3⟩
      have S3 := Lib.hid (S2.out.up hb3)
      clear hb3
      go_wp2
      go_ret
      exact ⟨rfl, S3.out.below⟩
    | true =>
      rw [ht] at HT
      have HTT := Lib.hid ht
      go_wp2_with fail
      refine HT.out.mono ?_
      rintro e w2 ⟨rfl, hb2⟩
      have S2 := Lib.hid (S1.out.up hb2)
      clear hb2 c0 c1 c2 c3 c4 c5 c6
      cases ha : axB ax with
      | false =>
        clear hsz
        rcases ax_test2 ha with d1 | ⟨d1, d2⟩
        all_goals
          clear ha
          go_wp2_with fail
          refine (awake8_any w2).mono ?_
          rintro e w3 ⟨rfl, hb3⟩
          have S3 := Lib.hid (S2.out.up hb3)
          clear hb3
          go_wp2
          go_ret
          exact ⟨rfl, S3.out.below⟩
      | true =>
        obtain ⟨d1, d2⟩ := ax_tests ha
        have HAX := Lib.hid ((axB_iff ax).1 ha)
        have HAB := Lib.hid ha
        have hkk : t.k = ck := HI.out.split.1
        have hrr : t.r = cr := HI.out.split.2.1
        have KG := Lib.hid (fun W (h : QSt w ⟨ck, cr, cid, ca, t.kids.length, ccap⟩ W) => giv_any t _ ax W (HI.out.up h.below) (fun _ => HSZ.out))
        rw [gi_yes ht ha] at KG
        by_cases hk : ck = 1
        · have dk : (ck == 1) = true := by simpa using hk
          have hv : gvT ax t = szA cr ax - 1 := by rw [gvT, leaf_ls (tile_top HSZ.out ht).1 (by rw [hkk]; exact hk), hrr]
          rw [hv] at KG
          have KZ := Lib.hid (fun W => rsize_any cr ax W)
          have hb := szA_pos (well_rect (tile_top HSZ.out ht).1) HAX.out
          rw [hrr] at hb
          have hz1 := hb.1
          have hz2 : szA cr ax ≤ 10000 := by omega
          generalize szA cr ax = ss at KG KZ hz1 hz2
          obtain ⟨sd, hsd⟩ : ∃ sd : Int, IntKind.i64.wrap (ss - 1) = sd := ⟨_, rfl⟩
          have hsd2 : ss - 1 = sd := by rw [← hsd]; exact (wrap_id (by omega)).symm
          rw [hsd2] at KG
          clear hsd2
          have b1 : (sd == sd) = true := by simp
          clear hb hv ha ht hsz hs hkk hrr hk
          obtain ⟨c0, c1, c2, c3, c4, c5, c6⟩ := S2.out.c7
          have SD := Lib.hid (S2.out.up (Below.refl _ w2).drew)
          have X0 := Lib.hid SD.out.c7
          go_wp2_with fail
          go_region_held3 (fun W => W.cell? ⟨w.heap.size, 0, none⟩ = some (.int .u8 ck) ∧ W.cell? ⟨w.heap.size, 1, none⟩ = some (.int .i64 cr.x) ∧ W.cell? ⟨w.heap.size, 2, none⟩ = some (.int .i64 cr.y) ∧ W.cell? ⟨w.heap.size, 3, none⟩ = some (.int .i64 cr.w) ∧ W.cell? ⟨w.heap.size, 4, none⟩ = some (.int .i64 cr.h) ∧ W.cell? ⟨w.heap.size, 5, none⟩ = some (.int .i64 cid) ∧ W.cell? ⟨w.heap.size, 6, none⟩ = some (.slice ca t.kids.length ccap)) (first | with_reducible exact X0.out | with_reducible exact X1.out | with_reducible exact X2.out | with_reducible exact X3.out)
            (first
              | (go_at_call 11; (with_reducible refine (KG.out w2.drew SD.out).mono ?_); rintro e y1 ⟨rfl, hb1⟩; have E1 := Lib.hid (SD.out.up hb1); have X1 := Lib.hid E1.out.c7; clear hb1)
              | (go_at_call 16; (with_reducible refine (KZ.out y1).mono ?_); rintro e y2 ⟨rfl, hb2⟩; have E2 := Lib.hid (E1.out.up hb2); have X2 := Lib.hid E2.out.c7; clear hb2)
              | (go_at_call 8; (with_reducible refine (awake8_any y2).mono ?_); rintro e y3 ⟨rfl, hb3⟩; have E3 := Lib.hid (E2.out.up hb3); have X3 := Lib.hid E3.out.c7; clear hb3))
          go_wp2
          go_ret
          exact ⟨rfl, E3.out.below⟩
        · have dk : (ck == 1) = false := by simpa using hk
          have HNK : Hid (t.k ≠ 1) := Lib.hid (by rw [hkk]; exact hk)
          have HSM : Hid (alB ck ax = true → gvT ax t = gvS ax t.kids) := Lib.hid fun h => gives_sum HAX.out HSZ.out ht HNK.out (by rw [hkk]; exact h)
          have HMN : Hid (alB ck ax = false → gvT ax t = mnK ax (szA t.r ax) t.kids t.kids.length) := Lib.hid fun h => gives_min HSZ.out ht HNK.out (by rw [hkk]; exact h)
          have HAL := Lib.hid (fun W => ralong_any ⟨ck, cr, cid, ca, t.kids.length, ccap⟩ ax W)
          simp only at HAL
          have HKK := Lib.hid hkk
          have HSW : Hid (szA t.r ax ≤ 10000) := Lib.hid (by have := szA_pos (well_rect (tile_top HSZ.out ht).1) HAX.out; omega)
          have hkl : t.kids.length ≤ 200 := kids_le hsz
          clear ha ht hs hkk hrr hk hsz
          obtain ⟨c0, c1, c2, c3, c4, c5, c6⟩ := S2.out.c7
          go_wp2
          go_loopg [5, 6, 7] (t.kids.length + 1) (fun g s n i wr => ∃ (k : Nat) (m : Int), g + k = t.kids.length + 1 ∧ k ≤ t.kids.length ∧ i = .int .i64 k ∧ s = .int .i64 (gvS ax (t.kids.take k)) ∧ n = .int .i64 m ∧ MnIs ax t k m ∧ 0 ≤ gvS ax (t.kids.take k) ∧ gvS ax (t.kids.take k) ≤ 10000 * (k : Int) ∧ QSt w ⟨ck, cr, cid, ca, t.kids.length, ccap⟩ wr)
          case atStart => exact ⟨0, 10000, by omega, by omega, rfl, by simp [gvS], rfl, fun _ => rfl, by simp [gvS], by simp [gvS], S2.out⟩
          case round =>
            obtain ⟨k, m, hg, hkk, rfl, rfl, rfl, hmn, hs1, hs2, hq⟩ := hrel
            have HGK := Lib.hid hg
            have HQ := Lib.hid hq
            have HMI := Lib.hid hmn
            clear hg hq hmn c0 c1 c2 c3 c4 c5 c6
            obtain ⟨c0, c1, c2, c3, c4, c5, c6⟩ := HQ.out.c7
            by_cases hlt : k < t.kids.length
            · have hlti : (k : Int) < (t.kids.length : Int) := by omega
              obtain ⟨b, o, hca, hf⟩ := HI.out.row.place (by omega)
              simp only at hca
              subst hca
              obtain ⟨u, hu⟩ : ∃ u, t.kids[k]? = some u := ⟨_, List.getElem?_eq_getElem hlt⟩
              obtain ⟨x, hx, hix⟩ := hf k u hu
              have hszu : sz u ≤ 999 := by have := sz_kid hu; have := HSZ.out; omega
              have htu := tile_kid HSZ.out HTT.out hu
              have HK := Lib.hid (giv_any u x ax wr (hix.up HQ.out.below) (fun _ => hszu))
              rw [gi_yes htu HAB.out] at HK
              have HST := Lib.hid (gvS_step (ax := ax) hu)
              obtain ⟨hu1, hu2⟩ := gv_bound HAX.out hszu htu
              have HMS : Hid (∀ q : Int, q = min m (gvT ax u) → MnIs ax t (k + 1) q) := Lib.hid fun q hq ha => by
                have h1 := HMI.out ha
                have h2 := (fit_kids (tile_top HSZ.out HTT.out).1 (tile_top HSZ.out HTT.out).2 HNK.out ax HAX.out).2 ha k u hu
                rw [mn_step hu HSW.out h2, ← h1, hq]
              obtain ⟨x0, x1, x2, x3, x4, x5, x6⟩ := hx.up HQ.out.below
              clear hf hu hx hix htu HMI
              generalize gvS ax (t.kids.take k) = s at HST hs1 hs2 ⊢
              generalize gvT ax u = gu at HK HST hu1 hu2 HMS
              obtain ⟨Z, hZ⟩ : ∃ Z : Int, min m gu = Z := ⟨_, rfl⟩
              go_wp2_with fail
              refine HK.out.mono ?_
              rintro e w4 ⟨rfl, hb4⟩
              have Q4 := Lib.hid (HQ.out.up hb4)
              clear hb4 c0 c1 c2 c3 c4 c5 c6 x0 x1 x2 x3 x4 x5 x6
              go_wp2
              go_roundg (gk - 1)
              case measure => have := HGK.out; omega
              case rel =>
                exact ⟨k + 1, Z, by have := HGK.out; omega, by omega, by go_num, by rw [HST.out], rfl, HMS.out Z hZ.symm, by rw [HST.out]; omega, by rw [HST.out]; omega, Q4.out⟩
            · obtain rfl : k = t.kids.length := by omega
              have hkl' : ((t.kids.length : Int) < (t.kids.length : Int)) = False := by simp
              have htk : t.kids.take t.kids.length = t.kids := List.take_length
              rw [htk] at hs1 hs2 ⊢
              have HMF : Hid (alB ck ax = false → m = gvT ax t) := Lib.hid fun h => by rw [HMN.out h]; exact HMI.out (by rw [HKK.out]; exact h)
              clear htk HMI HMN
              generalize gvS ax t.kids = s at HSM hs1 hs2 ⊢
              generalize gvT ax t = gt at KG HSM HMF
              generalize alB ck ax = ab at HAL HSM HMF
              have HAW := Lib.hid (HAL.out wr)
              go_wp2_with fail
              refine HAW.out.mono ?_
              rintro e w4 ⟨rfl, hb4⟩
              have Q4 := Lib.hid (HQ.out.up hb4)
              clear hb4 c0 c1 c2 c3 c4 c5 c6 HAW
              obtain ⟨c0, c1, c2, c3, c4, c5, c6⟩ := Q4.out.c7
              have HGW := Lib.hid (KG.out w4 Q4.out)
              cases ab with
              | true =>
                have hgs : gt = s := HSM.out rfl
                subst hgs
                have b1 : (gt == gt) = true := by simp
                go_wp2_with fail
                refine HGW.out.mono ?_
                rintro e w5 ⟨rfl, hb5⟩
                have Q5 := Lib.hid (Q4.out.up hb5)
                clear hb5 c0 c1 c2 c3 c4 c5 c6
                go_wp2_with fail
                refine (awake8_any w5).mono ?_
                rintro e w6 ⟨rfl, hb6⟩
                have Q6 := Lib.hid (Q5.out.up hb6)
                clear hb6
                go_wp2
                go_ret
                exact ⟨rfl, Q6.out.below⟩
              | false =>
                have hgs : m = gt := HMF.out rfl
                subst hgs
                have b1 : (m == m) = true := by simp
                go_wp2_with fail
                refine HGW.out.mono ?_
                rintro e w5 ⟨rfl, hb5⟩
                have Q5 := Lib.hid (Q4.out.up hb5)
                clear hb5 c0 c1 c2 c3 c4 c5 c6
                go_wp2_with fail
                refine (awake8_any w5).mono ?_
                rintro e w6 ⟨rfl, hb6⟩
                have Q6 := Lib.hid (Q5.out.up hb6)
                clear hb6
                go_wp2
                go_ret
                exact ⟨rfl, Q6.out.below⟩

theorem leastSums_wf (v0 : Value) (t : T) (c : C) (ax : Int) (w : World) (e0 : v0 = cval c) (hi : Is w c t) (hs : sz t ≤ 1048576) :
    Calls Try.prog 5 #[v0, .int .u8 ax] w fun e w' => e = .returned (.bool true) ∧ Below w.heap.size w w' := by
  subst e0
  exact leastSums_any t c ax w hi (by omega)
end Go.Proofs.Ytajhojbnpajelaa
