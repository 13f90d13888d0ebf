/- Texts of this seat, 3 in one file. -/
import Derived.Test.YtbbjnimadnbmnaaGreatG33
import Derived.Test.YtbbjnimadnbmnaaGreatG40
import Derived.Test.YtbbjnimadnbmnaaGreatG41
import Derived.Test.YtbbjnimadnbmnaaGreatG17
import Derived.Test.YtbbjnimadnbmnaaGreatG39
import Derived.Test.YtbbjnimadnbmnaaGreatG34
/- The leaf beside one that would go: the program's answer. -/
namespace Go.Proofs.YtbbjnimadnbmnaaGreat
open Go.RowKit

theorem kl_none {id : Int} {t : T} (ht : tileB t = true) (h : findT id t = none) : klE id t = 6 := by
  unfold klE
  rw [if_pos ht, lf_none h]; rfl
theorem kl_some {id : Int} {t : T} {p : List Int} (ht : tileB t = true) (h : findT id t = some p) : klE id t = if t.k = 1 then 10 else 0 := by
  obtain ⟨u, hu, -, -, -⟩ := find_there h
  unfold klE
  rw [if_pos ht, (lf_some (may_small (tile_may ht)) ht h hu).1]; rfl
theorem kl_top {id : Int} {t : T} (ht : tileB t = true) (h : findT id t = some []) : klE id t = 10 := (kl_some ht h).trans (if_pos (findT_top h).1)
theorem kl_more {id m : Int} {t : T} {p : List Int} (ht : tileB t = true) (h : findT id t = some (m :: p)) : klE id t = 0 := by
  refine (kl_some ht h).trans (if_neg fun e => ?_)
  obtain ⟨j, v, -, hv, -⟩ := findT_more h
  rw [leaf_none (may_small (tile_may ht)) ht e] at hv
  simp at hv

/-- The numbers, in a row of the call's own. -/
theorem leavesO_any (v : Value) (l : List T) (w : World) (hr : TRow w v l) (hl : szL l ≤ 1000000) : Calls Tryz.prog 21 #[v] w (IdsSays (idsL l) w) := by
  have hI : lvI w (szL l, []) (w.alloc (.cells #[.slice none 0 0] 52)) := ⟨(Below.refl _ _).alloc (Nat.le_refl _) _, by simpa using hl, .slice none 0 0, Box1.new _ _ _, OwnI.nil _ _⟩
  have H := Lib.hid (each_any (lvM w) 45 entersLv _ lvStep l (fun s => s.1) (fun s t => by simp only [lvStep]; omega) (leaves1_does w) (szL l, []) _ v (Nat.le_refl _) (RowIn.of (lvM w) hr (by have := szL_len l; omega)) hI)
  obtain ⟨a, cap, rfl⟩ := hr.shape
  clear hr hI
  have hids : (doL lvStep (szL l, []) l).2 = idsL l := by rw [doL_lv]; simp [idsL]
  generalize doL lvStep (szL l, []) l = st at H hids
  obtain ⟨rr, ids⟩ := st
  simp only at hids
  subst hids
  go_enter Tryz.func21, Tryz.ntmps21
  go_wp2_with fail
  refine H.out.mono ?_
  rintro e w2 ⟨rfl, hi2, hfr2⟩
  obtain ⟨v2, hv2, ho2⟩ := hi2.box
  have HB2 := Lib.hid hi2.below
  have HO2 := Lib.hid (ho2.lower (Nat.le_succ _))
  have q0 := cell_of_one hv2
  obtain ⟨a2, cap2, rfl⟩ := row_shape ho2.row
  clear hi2 hfr2 ho2 hv2
  go_wp2
  go_ret
  exact ⟨_, rfl, HO2.out, HB2.out⟩
theorem lvs_any (u : T) (z : C) (W : World) (hi : Is W z u) (hs : sz u ≤ 990) : Calls Tryz.prog 21 #[.slice (some ⟨W.heap.size, 0, none⟩) 1 1] (W.alloc (cbox z)) (IdsSays (idsT u) (W.alloc (cbox z))) := by
  have h1 : idsL [u] = idsT u := by unfold idsL idsT; rw [preL, preL, List.append_nil]
  rw [← h1]
  exact leavesO_any _ [u] _ (trow1 hi) (by simp [szL]; omega)

/-- Cells that stand there. -/
def Here (W : World) (_ : List Int) (b o : Nat) (u : T) : Prop := ∃ x, CAt W b o x ∧ Is W x u
theorem here_steps (W : World) : Steps (Here W) W := ⟨fun q b o u j u2 h hj => by
  obtain ⟨x, hx, hi⟩ := h
  have hjl := (List.getElem?_eq_some_iff.1 hj).1
  have hn := hi.n
  have hr := hi.row
  obtain ⟨xk, xr, xid, xa, xn, xcap⟩ := x
  simp only at hn
  subst hn
  obtain ⟨bb, oo, rfl, hf⟩ := hr.place (by omega)
  obtain ⟨z, hz, hiz⟩ := hf j u2 hj
  exact ⟨_, bb, oo, hx, rfl, rfl, z, hz, hiz⟩⟩
theorem hr_no {id : Int} {t : T} (h : klE id t ≠ 0) : hrO id t = none := if_neg h
theorem hr_yes {id : Int} {t : T} (h : klE id t = 0) : hrO id t = bsT id t := if_pos h

set_option maxHeartbeats 4000000 in
set_option maxRecDepth 100000 in
theorem pheir_any (id : Int) (t : T) (c : C) (w : World) (hm : sz t ≤ 990) (hi : Is w c t) : Calls Tryz.prog 9 #[cval c, .int .i64 id] w (BsSays (hrO id t) w) := by
  have B1 : Hid (Below w.heap.size w (w.alloc (cbox c))) := Lib.hid ((Below.refl _ _).alloc (Nat.le_refl _) _)
  have BX : Hid (Box7 (w.alloc (cbox c)) w.heap.size c) := Lib.hid (Box7.new w c)
  have HT := Lib.hid (tilesOne_any t c (w.alloc (cbox c)) (hi.up B1.out) may_small (w.heap.size + 1) (by simp))
  have HI := Lib.hid hi
  have HM := Lib.hid hm
  clear hi hm
  obtain ⟨c0, c1, c2, c3, c4, c5, c6⟩ := c7_of BX.out.cat
  cases htt : tileB t with
  | false =>
    rw [htt] at HT
    have HP : Hid (hrO id t = none) := Lib.hid (hr_no (by unfold klE; rw [if_neg (by rw [htt]; decide)]; decide))
    clear htt
    go_enter Tryz.func9, Tryz.ntmps9
    go_wp2_with fail
    refine HT.out.mono ?_
    rintro e w1 ⟨rfl, hb1⟩
    have L1 := Lib.hid (B1.out.trans (hb1.mono B1.out.size))
    clear hb1
    go_wp2
    go_ret2
    exact bs_no HP.out L1.out
  | true =>
    rw [htt] at HT
    have HTT := Lib.hid htt
    clear htt
    go_enter Tryz.func9, Tryz.ntmps9
    go_wp2_with fail
    refine HT.out.mono ?_
    rintro e w1 ⟨rfl, hb1⟩
    have L1 := Lib.hid (B1.out.trans (hb1.mono B1.out.size))
    have BX1 := Lib.hid (BX.out.up hb1)
    clear hb1 c0 c1 c2 c3 c4 c5 c6 HT
    have HSP := Lib.hid (spot_any (Here w1) t c w.heap.size id w1 (by have := HM.out; omega) BX1.out (HI.out.up L1.out) ⟨c, BX1.out.cat, HI.out.up L1.out⟩ (here_steps w1))
    cases hf : findT id t with
    | none =>
      have HSP2 : Hid (Calls Tryz.prog 20 #[.pointer (some ⟨w.heap.size, 0, none⟩), .int .i64 id] w1 fun e w' => e = .returned (.tuple #[noSpot, .int .i64 6]) ∧ Below w1.heap.size w1 w') := HSP.out.mono fun e w' h => by
        obtain ⟨hb, h⟩ := h
        rw [hf] at h
        exact ⟨h, hb⟩
      have HP : Hid (hrO id t = none) := Lib.hid (hr_no (by rw [kl_none HTT.out hf]; decide))
      clear HSP hf
      go_wp2_with fail
      refine HSP2.out.mono ?_
      rintro e w2 ⟨rfl, hb2⟩
      have L2 := Lib.hid ((L1.out.trans (hb2.mono L1.out.size)).alloc (L1.out.trans (hb2.mono L1.out.size)).size (spotO (.pointer none) 0))
      clear hb2 HSP2
      go_wp2
      go_ret2
      exact bs_no HP.out L2.out
    | some p =>
      cases p with
      | nil =>
        have HSP2 : Hid (Calls Tryz.prog 20 #[.pointer (some ⟨w.heap.size, 0, none⟩), .int .i64 id] w1 fun e w' => e = .returned (.tuple #[noSpot, .int .i64 10]) ∧ Below w1.heap.size w1 w') := HSP.out.mono fun e w' h => by
          obtain ⟨hb, h⟩ := h
          rw [hf] at h
          exact ⟨h, hb⟩
        have HP : Hid (hrO id t = none) := Lib.hid (hr_no (by rw [kl_top HTT.out hf]; decide))
        clear HSP hf
        go_wp2_with fail
        refine HSP2.out.mono ?_
        rintro e w2 ⟨rfl, hb2⟩
        have L2 := Lib.hid ((L1.out.trans (hb2.mono L1.out.size)).alloc (L1.out.trans (hb2.mono L1.out.size)).size (spotO (.pointer none) 0))
        clear hb2 HSP2
        go_wp2
        go_ret2
        exact bs_no HP.out L2.out
      | cons m p =>
        have HSP2 : Hid (Calls Tryz.prog 20 #[.pointer (some ⟨w.heap.size, 0, none⟩), .int .i64 id] w1 fun e w' => ∃ (q : List Int) (j b o : Nat) (g : T), e = .returned (.tuple #[spotV b o (j : Int), .int .i64 0]) ∧ m :: p = q ++ [(j : Int)] ∧ Here w1 q b o g ∧ atT t q = some g ∧ Below w1.heap.size w1 w') := HSP.out.mono fun e w' h => by
          obtain ⟨hb, h⟩ := h
          rw [hf] at h
          obtain ⟨q, j, b, o, g, h1, h2, h3, h4⟩ := h
          exact ⟨q, j, b, o, g, h4, h1, h2, h3, hb⟩
        have HP := Lib.hid (hr_yes (kl_more HTT.out hf))
        have HF := Lib.hid hf
        clear HSP hf
        go_wp2_with fail
        refine HSP2.out.mono ?_
        rintro e w2 ⟨q, j, b, o, g, rfl, hpq, hhere, hat, hb2⟩
        have L2 := Lib.hid (L1.out.trans (hb2.mono L1.out.size))
        have HFQ := HF.out
        rw [hpq] at HFQ
        have hst : sz t ≤ 20000 := by have := HM.out; omega
        obtain ⟨-, hbs, v, hv⟩ := kill_way (id := id) q t g j hst HTT.out HFQ hat
        obtain ⟨htg, hsg⟩ := tile_at hst HTT.out hat
        obtain ⟨x, hx, hix⟩ := hhere
        have hk1 : g.k ≠ 1 := fun e => by rw [leaf_none (by omega) htg e] at hv; simp at hv
        obtain ⟨a, c', u, hpair⟩ := pair_of hv (kids_two (by omega) htg hk1)
        have hu := hpair.grows
        rw [getD_of hu] at hbs
        have hul := (List.getElem?_eq_some_iff.1 hu).1
        have hszu := sz_kid hu
        have hub := tile_kid (by omega) htg hu
        have hxn := hix.n
        have hrow := hix.row
        obtain ⟨xk, xr, xid, xa, xn, xcap⟩ := x
        simp only at hxn
        subst hxn
        obtain ⟨kb, ko, rfl, hkf⟩ := hrow.place (by omega)
        obtain ⟨z, hz, hiz⟩ := hkf (nbN j) u hu
        have hjl : j ≤ 1000000 := by have := (List.getElem?_eq_some_iff.1 hv).1; have := sz_node g; have := szL_len g.kids; have := HM.out; omega
        have HNB := Lib.hid (fun W => nb_any b o j W hjl)
        have HLV := Lib.hid (fun (W : World) (h : Below w1.heap.size w1 W) => lvs_any u z W (hiz.up h) (by have := HM.out; omega))
        have hlen := Lib.hid (ids_some (ok_may (tile_may hub)))
        have hml : (idsT u).length ≤ 990 := by
          unfold idsT
          rw [List.length_map]
          have h1 := List.length_filter_le leafB (preT u)
          rw [preT_len] at h1
          have := HM.out
          omega
        have HBS := Lib.hid (HP.out.trans hbs)
        have AW : Below w2.heap.size w2 (w2.alloc (spotO (.pointer (some ⟨b, o, none⟩)) (j : Int))) := (Below.refl _ _).alloc (Nat.le_refl _) _
        have D2 : Hid (Below w1.heap.size w1 (w2.alloc (spotO (.pointer (some ⟨b, o, none⟩)) (j : Int))).drew) := Lib.hid (hb2.trans (AW.mono hb2.size)).drew
        have L3 : Hid (Below w.heap.size w (w2.alloc (spotO (.pointer (some ⟨b, o, none⟩)) (j : Int))).drew) := Lib.hid (L2.out.trans (AW.mono L2.out.size)).drew
        have SB : Hid ((w2.alloc (spotO (.pointer (some ⟨b, o, none⟩)) (j : Int))).drew.heap[w2.heap.size]? = some (spotO (.pointer (some ⟨b, o, none⟩)) (j : Int))) := Lib.hid (heap_alloc_new w2 _)
        have hx6 := (hx.up D2.out).2.2.2.2.2.2
        obtain ⟨z0, z1, z2, z3, z4, z5, z6⟩ := hz.up D2.out
        obtain ⟨⟨s0, s1⟩, -, -⟩ := spot_parts SB.out
        have X0 := Lib.hid (And.intro s0 (And.intro s1 (And.intro hx6 (And.intro z0 (And.intro z1 (And.intro z2 (And.intro z3 (And.intro z4 (And.intro z5 z6)))))))))
        have XUP : Hid (∀ (W W' : World), Below W.heap.size W W' → (W.cell? ⟨w2.heap.size, 0, none⟩ = some (.pointer (some ⟨b, o, none⟩)) ∧ W.cell? ⟨w2.heap.size, 1, none⟩ = some (.int .i64 (j : Int)) ∧ W.cell? ⟨b, o + 6, none⟩ = some (.slice (some ⟨kb, ko, none⟩) g.kids.length xcap) ∧ W.cell? ⟨kb, ko + nbN j * 7, none⟩ = some (.int .u8 z.k) ∧ W.cell? ⟨kb, ko + nbN j * 7 + 1, none⟩ = some (.int .i64 z.r.x) ∧ W.cell? ⟨kb, ko + nbN j * 7 + 2, none⟩ = some (.int .i64 z.r.y) ∧ W.cell? ⟨kb, ko + nbN j * 7 + 3, none⟩ = some (.int .i64 z.r.w) ∧ W.cell? ⟨kb, ko + nbN j * 7 + 4, none⟩ = some (.int .i64 z.r.h) ∧ W.cell? ⟨kb, ko + nbN j * 7 + 5, none⟩ = some (.int .i64 z.id) ∧ W.cell? ⟨kb, ko + nbN j * 7 + 6, none⟩ = some (.slice z.a z.n z.cap)) → (W'.cell? ⟨w2.heap.size, 0, none⟩ = some (.pointer (some ⟨b, o, none⟩)) ∧ W'.cell? ⟨w2.heap.size, 1, none⟩ = some (.int .i64 (j : Int)) ∧ W'.cell? ⟨b, o + 6, none⟩ = some (.slice (some ⟨kb, ko, none⟩) g.kids.length xcap) ∧ W'.cell? ⟨kb, ko + nbN j * 7, none⟩ = some (.int .u8 z.k) ∧ W'.cell? ⟨kb, ko + nbN j * 7 + 1, none⟩ = some (.int .i64 z.r.x) ∧ W'.cell? ⟨kb, ko + nbN j * 7 + 2, none⟩ = some (.int .i64 z.r.y) ∧ W'.cell? ⟨kb, ko + nbN j * 7 + 3, none⟩ = some (.int .i64 z.r.w) ∧ W'.cell? ⟨kb, ko + nbN j * 7 + 4, none⟩ = some (.int .i64 z.r.h) ∧ W'.cell? ⟨kb, ko + nbN j * 7 + 5, none⟩ = some (.int .i64 z.id) ∧ W'.cell? ⟨kb, ko + nbN j * 7 + 6, none⟩ = some (.slice z.a z.n z.cap))) := Lib.hid fun W W' hb h => by
          obtain ⟨a0, a1, a2, a3, a4, a5, a6, a7, a8, a9⟩ := h
          exact ⟨(hb.cell (lt_of_cell a0)).trans a0, (hb.cell (lt_of_cell a1)).trans a1, (hb.cell (lt_of_cell a2)).trans a2, (hb.cell (lt_of_cell a3)).trans a3, (hb.cell (lt_of_cell a4)).trans a4, (hb.cell (lt_of_cell a5)).trans a5, (hb.cell (lt_of_cell a6)).trans a6, (hb.cell (lt_of_cell a7)).trans a7, (hb.cell (lt_of_cell a8)).trans a8, (hb.cell (lt_of_cell a9)).trans a9⟩
        have hdlt : decide ((nbN j : Int) < (j : Int)) = !(decide (j = 0)) := by
          unfold nbN
          cases j with
          | zero => rfl
          | succ j => simp only [Nat.add_one_ne_zero, if_false, decide_false, Bool.not_false]; exact decide_eq_true (by omega)
        clear hb2 AW hpq HFQ hbs hv htg hsg hx hix hk1 hpair hu hszu hub hrow hkf hz hiz hst hx6 z0 z1 z2 z3 z4 z5 z6 s0 s1 HSP2 HF HP hat hjl L2
        generalize nbN j = h at *
        generalize idsT u = ls at *
        have hli : (h : Int) < (g.kids.length : Int) := by omega
        go_wp2_with fail
        go_region_held3 (fun W => W.cell? ⟨w2.heap.size, 0, none⟩ = some (.pointer (some ⟨b, o, none⟩)) ∧ W.cell? ⟨w2.heap.size, 1, none⟩ = some (.int .i64 (j : Int)) ∧ W.cell? ⟨b, o + 6, none⟩ = some (.slice (some ⟨kb, ko, none⟩) g.kids.length xcap) ∧ W.cell? ⟨kb, ko + h * 7, none⟩ = some (.int .u8 z.k) ∧ W.cell? ⟨kb, ko + h * 7 + 1, none⟩ = some (.int .i64 z.r.x) ∧ W.cell? ⟨kb, ko + h * 7 + 2, none⟩ = some (.int .i64 z.r.y) ∧ W.cell? ⟨kb, ko + h * 7 + 3, none⟩ = some (.int .i64 z.r.w) ∧ W.cell? ⟨kb, ko + h * 7 + 4, none⟩ = some (.int .i64 z.r.h) ∧ W.cell? ⟨kb, ko + h * 7 + 5, none⟩ = some (.int .i64 z.id) ∧ W.cell? ⟨kb, ko + h * 7 + 6, none⟩ = some (.slice z.a z.n z.cap)) (first | with_reducible exact X0.out | with_reducible exact X1.out | with_reducible exact XA.out | with_reducible exact X2.out | exact XA.out)
          (first
            | (go_at_call 22; (with_reducible refine (HNB.out _).mono ?_); rintro e w4 ⟨rfl, hb4⟩; have X1 := Lib.hid (XUP.out _ _ hb4 X0.out); have XA := Lib.hid (XUP.out _ (w4.alloc (cbox z)) ((Below.refl _ _).alloc (Nat.le_refl _) _) X1.out); have D4 := Lib.hid (D2.out.trans (hb4.mono D2.out.size)); have L4 := Lib.hid (L3.out.trans (hb4.mono L3.out.size)); clear hb4)
            | (go_at_call 21; (with_reducible refine (HLV.out w4 D4.out).mono ?_); rintro e w5 ⟨v5, rfl, hown5, hb5⟩; have O5 := Lib.hid hown5; have X2 := Lib.hid (XUP.out _ _ hb5 XA.out); have L5 := Lib.hid (L4.out.trans ((below_one hb5).mono L4.out.size)); clear hown5 hb5))
        rename_i hhl
        clear hhl HLV D4
        have Y0 : Hid (w5.drew.cell? ⟨w2.heap.size, 0, none⟩ = some (.pointer (some ⟨b, o, none⟩)) ∧ w5.drew.cell? ⟨w2.heap.size, 1, none⟩ = some (.int .i64 (j : Int))) := Lib.hid ⟨X2.out.1, X2.out.2.1⟩
        have HS4 := Lib.hid L4.out.size
        clear X0 X1 XA X2 XUP D2 L3 SB L4
        obtain ⟨a5, cap5, rfl⟩ : ∃ a cap, v5 = .slice a ls.length cap := by
          obtain ⟨a, cap, e⟩ := row_shape O5.out.row
          exact ⟨a, cap, e⟩
        go_wp2_with fail
        go_region_held3 (fun W => W.cell? ⟨w2.heap.size, 0, none⟩ = some (.pointer (some ⟨b, o, none⟩)) ∧ W.cell? ⟨w2.heap.size, 1, none⟩ = some (.int .i64 (j : Int))) (first | with_reducible exact Y0.out | with_reducible exact Y1.out)
          (first | (go_at_call 22; (with_reducible refine (HNB.out _).mono ?_); rintro e w6 ⟨rfl, hb6⟩; have Y1 : Hid (w6.cell? ⟨w2.heap.size, 0, none⟩ = some (.pointer (some ⟨b, o, none⟩)) ∧ w6.cell? ⟨w2.heap.size, 1, none⟩ = some (.int .i64 (j : Int))) := Lib.hid ⟨(hb6.cell (lt_of_cell Y0.out.1)).trans Y0.out.1, (hb6.cell (lt_of_cell Y0.out.2)).trans Y0.out.2⟩; have L6 := Lib.hid (L5.out.drew.trans (hb6.mono L5.out.size)); have O6 := Lib.hid ((show OwnI w5.drew _ _ _ from O5.out).up hb6); clear hb6))
        rename_i hhl
        clear hhl Y0 O5 L5
        have hlp := hlen.out
        by_cases hj0 : j = 0
        · have HV : Hid (hrO id t = some (ls.getD 0 0)) := Lib.hid (by rw [HBS.out, decide_eq_true hj0]; rfl)
          have hd : ¬ (h < j) := by omega
          have hd2 : decide ((h : Int) < (j : Int)) = false := decide_eq_false (by omega)
          obtain ⟨aa, cc, ee, h05, hc5⟩ := O6.out.row
          rw [ints_length] at ee
          cases ee
          obtain ⟨b5, o5, rfl, hcell5⟩ := row_at h05 hc5 (by rw [ints_length]; exact hlp)
          have r0 : w6.cell? ⟨b5, o5, none⟩ = some (.int .i64 (ls.getD 0 0)) := by
            have := hcell5 0 (.int .i64 (ls.getD 0 0)) (by unfold ints; rw [List.getElem?_map, List.getElem?_eq_getElem hlp, List.getD_eq_getElem?_getD, List.getElem?_eq_getElem hlp]; rfl)
            simpa using this
          clear hdlt hj0 h05 hc5 hcell5 HBS
          generalize ls.getD 0 0 = fv at r0 HV
          go_wp2
          go_ret2
          exact bs_yes HV.out L6.out
        · have HV : Hid (hrO id t = some (ls.getD (ls.length - 1) 0)) := Lib.hid (by rw [HBS.out, decide_eq_false hj0]; rfl)
          have hd : h < j := by rw [decide_eq_false hj0] at hdlt; have := of_decide_eq_true hdlt; omega
          have hd2 : decide ((h : Int) < (j : Int)) = true := decide_eq_true (by omega)
          have HR := Lib.hid (rev_any (.slice a5 ls.length cap5) ls.reverse _ w6 (by rw [List.length_reverse, List.reverse_reverse]; exact O6.out) (by rw [List.length_reverse]; omega))
          have hrl : 0 < ls.reverse.length := by rw [List.length_reverse]; exact hlp
          have hlast : ls.reverse.getD 0 0 = ls.getD (ls.length - 1) 0 := by
            rw [List.getD_eq_getElem?_getD, List.getD_eq_getElem?_getD, List.getElem?_reverse hlp]
            rfl
          have HLAST := Lib.hid hlast
          have HRL := Lib.hid hrl
          have O6B : Hid (w.heap.size ≤ (w4.alloc (cbox z)).heap.size) := Lib.hid (by have := HS4.out; simp; omega)
          clear hdlt hj0 HBS hlast hrl
          go_wp2_with fail
          refine HR.out.mono ?_
          rintro e w7 ⟨rfl, hr7, hb7⟩
          have L7 := Lib.hid (L6.out.trans (hb7.mono O6B.out))
          obtain ⟨aa, cc, ee, h05, hc5⟩ := hr7
          rw [ints_length, List.length_reverse] at ee
          cases ee
          obtain ⟨b5, o5, rfl, hcell5⟩ := row_at h05 hc5 (by rw [ints_length]; exact HRL.out)
          have r0 : w7.cell? ⟨b5, o5, none⟩ = some (.int .i64 (ls.getD (ls.length - 1) 0)) := by
            have := hcell5 0 (.int .i64 (ls.reverse.getD 0 0)) (by unfold ints; rw [List.getElem?_map, List.getElem?_eq_getElem HRL.out, List.getD_eq_getElem?_getD, List.getElem?_eq_getElem HRL.out]; rfl)
            rw [HLAST.out] at this
            simpa using this
          clear h05 hc5 hcell5 hb7 HR HLAST HRL
          generalize ls.getD (ls.length - 1) 0 = fv at r0 HV
          go_wp2
          go_ret2
          exact bs_yes HV.out L7.out
end Go.Proofs.YtbbjnimadnbmnaaGreat
/- A leaf is killed: the program's answer. -/
namespace Go.Proofs.YtbbjnimadnbmnaaGreat
open Go.RowKit

theorem kill_end {W3 W5 w6 : World} {base B b o : Nat} {t g u' t' : T} {q : List Int} {x y : C} {S : List Nat} {cur : Array Value} (h : SpotAt W3 base B t q b o g x S cur) (h35 : Below W3.heap.size W3 W5) (hB : base ≤ B) (hBW : B < W3.heap.size)
    (hsame : ∀ k, k < W5.heap.size → k ∉ S → k ≠ b → w6.heap[k]? = W5.heap[k]?) (hsz : W5.heap.size ≤ w6.heap.size) (hbl : w6.heap[b]? = some (.cells (setO cur o y) 26 (0, 0))) (hst : Stands (fun _ => True) w6 base w6.heap.size y u') (hput : putT u' t q = some t') :
    ∃ z, CAt w6 B 0 z ∧ Stands (fun _ => True) w6 base w6.heap.size z t' := by
  have h3 := h35.size
  have hb3 := lt_of_block h.blk
  have key : ∀ W' : World, (∀ m, base ≤ m → m < w6.heap.size → W'.heap[m]? = w6.heap[m]?) → ∃ z, CAt W' B 0 z ∧ Is W' z t' := fun W' hW => by
    obtain ⟨z, t'', g1, g2, g3⟩ := h.ctx W' y u' (fun k hk0 hk hkS hkb => (hW k hk0 (by omega)).trans ((hsame k (by omega) hkS hkb).trans (h35.block k hk))) ((hW b h.ge (by omega)).trans hbl) (hst W' trivial hW)
    rw [hput] at g1
    cases g1
    exact ⟨z, g2, g3⟩
  obtain ⟨z, hz, -⟩ := key w6 fun _ _ _ => rfl
  refine ⟨z, hz, fun W' _ hW => ?_⟩
  obtain ⟨z', g2, g3⟩ := key W' hW
  have hzz : z' = z := by
    have hh : ∀ i, W'.cell? ⟨B, i, none⟩ = w6.cell? ⟨B, i, none⟩ := fun i => World.cell?_of_block (a := ⟨B, i, none⟩) (hW B hB (by omega))
    obtain ⟨q0, q1, q2, q3, q4, q5, q6⟩ := hz
    exact cat_inj g2 ⟨(hh _).trans q0, (hh _).trans q1, (hh _).trans q2, (hh _).trans q3, (hh _).trans q4, (hh _).trans q5, (hh _).trans q6⟩
  subst hzz
  exact g3
theorem ast_low {w W W' : World} {c : C} {base : Nat} (h : ASt w c W) (hb : Below base W W') (hbase : w.heap.size + 2 ≤ base) : ASt w c W' :=
  ⟨h.below.trans (hb.mono (by omega)), (hb.block _ (by omega)).trans h.box, (hb.block _ (by omega)).trans h.zero⟩
theorem row_none (w : World) : Row w (.slice none 0 0) (ints []) := ⟨none, 0, rfl, fun _ => ⟨rfl, rfl⟩, fun x hx => by cases hx⟩

set_option maxHeartbeats 4000000 in
set_option maxRecDepth 100000 in
theorem pleaves_any (id : Int) (t : T) (c : C) (ib : Nat) (w : World) (hm : sz t ≤ 990) (hi : Is w c t) (hid : w.cell? ⟨ib, 0, none⟩ = some (.int .i64 id)) : Calls Tryz.prog 14 #[cval c, .slice (some ⟨ib, 0, none⟩) 1 1] w (KlSays id t .i64 w) := by
  have L0 := Lib.hid (ASt.start w c)
  have HT := Lib.hid (tilesOne_any t c (cellW w c) (L0.out.is hi) may_small (w.heap.size + 2) (by simp))
  have HI := Lib.hid hi
  have HM := Lib.hid hm
  have HID := Lib.hid hid
  clear hi hm hid
  obtain ⟨c0, c1, c2, c3, c4, c5, c6⟩ := c7_of L0.out.box.cat
  cases htt : tileB t with
  | false =>
    rw [htt] at HT
    have HE : Hid (klE id t = 1) := Lib.hid (by unfold klE; rw [if_neg (by rw [htt]; decide)])
    clear htt
    go_enter Tryz.func14, Tryz.ntmps14
    go_wp2_with fail
    refine HT.out.mono ?_
    rintro e w1 ⟨rfl, hb1⟩
    have L1 := Lib.hid (L0.out.up hb1)
    clear hb1 c0 c1 c2 c3 c4 c5 c6 HT
    obtain ⟨⟨z0, z1, z2, z3, z4, z5, z6⟩, f0, f1, f2, f3, f4, f5, f6⟩ := zero_parts L1.out.zero
    go_wp2
    (try simp only [Exit.inBlock, Exit.then])
    refine bodyPost_ret (results_c2 rfl _ _ (w.heap.size + 1) noC rfl ((Box7.of_zero L1.out.zero).put noC)) rfl ?_
    exact kl_err HE.out (by decide) (below_put7 L1.out.below (by omega) noC)
  | true =>
    rw [htt] at HT
    have HTT := Lib.hid htt
    clear htt
    go_enter Tryz.func14, Tryz.ntmps14
    go_wp2_with fail
    refine HT.out.mono ?_
    rintro e w1 ⟨rfl, hb1⟩
    have L1 := Lib.hid (L0.out.up hb1)
    have HW1 : Hid (w.heap.size + 2 ≤ w1.heap.size) := Lib.hid (by have := hb1.size; simp at this; omega)
    clear hb1 c0 c1 c2 c3 c4 c5 c6 HT
    obtain ⟨c0, c1, c2, c3, c4, c5, c6⟩ := c7_of L1.out.box.cat
    have HAT := Lib.hid (atO_any t t c (.slice none 0 0) [] w1 (L1.out.is HI.out) (row_none w1) (by simp) (by simp [atT]))
    go_wp2_with fail
    refine HAT.out.mono ?_
    rintro e w2 ⟨d, S, rfl, hown, hnd, hb2⟩
    have AL : Below w2.heap.size w2 (w2.alloc (cbox d)) := (Below.refl _ _).alloc (Nat.le_refl _) _
    have L3 := Lib.hid ((L1.out.up hb2).up AL)
    have SPT := Lib.hid (spot_top (Box7.new w2 d) (hown.up AL) hnd (fun hm => by have := (hown.ge _ hm).2; omega) hb2.size)
    have BX3 := Lib.hid (Box7.new w2 d)
    have IS3 := Lib.hid ((hown.up AL).is)
    have HBS : Hid (w1.heap.size ≤ w2.heap.size) := Lib.hid hb2.size
    have HLT3 : Hid (w2.heap.size < (w2.alloc (cbox d)).heap.size) := Lib.hid (by simp)
    clear hown hnd hb2 AL c0 c1 c2 c3 c4 c5 c6 HAT
    go_upto_region 4 with (fail)
    change Code.wp _ _ _ _ (w2.alloc (cbox d))
    generalize w2.alloc (cbox d) = w3 at L3 SPT BX3 IS3 HLT3 ⊢
    generalize w2.heap.size = B at SPT BX3 HBS HLT3 ⊢
    clear w2 L1
    go_wp2
    go_loopg [29] 2 (fun g i wr => ∃ k : Nat, g + k = 2 ∧ k ≤ 1 ∧ i = .int .i64 k ∧ ((k = 0 ∧ wr = w3) ∨ (k = 1 ∧ ASt w c wr ∧ klE id t = 0 ∧ ∃ z, CAt wr B 0 z ∧ Stands (fun _ => True) wr w1.heap.size wr.heap.size z (klT id t))))
    case atStart => exact ⟨0, by omega, by omega, rfl, .inl ⟨rfl, rfl⟩⟩
    case round =>
      obtain ⟨k, hg, hk, rfl, hor⟩ := hrel
      have HG := Lib.hid hg
      clear hg
      rcases hor with ⟨hk0, hwr⟩ | ⟨hk1, hst, he0, z, hz, hzs⟩
      · subst hk0
        rw [hwr]
        clear hwr hk
        have p0 := (L3.out.below.cell (lt_of_cell HID.out)).trans HID.out
        have HSP := Lib.hid (spot_any (Spot w3 w1.heap.size B t) t d B id w3 (by have := HM.out; omega) BX3.out IS3.out SPT.out (spot_steps w3 w1.heap.size B t))
        cases hf : findT id t with
        | none =>
          have HSP2 : Hid (Calls Tryz.prog 20 #[.pointer (some ⟨B, 0, none⟩), .int .i64 id] w3 fun e w' => e = .returned (.tuple #[noSpot, .int .i64 6]) ∧ Below w3.heap.size w3 w') := HSP.out.mono fun e w' h => by
            obtain ⟨hb, h⟩ := h
            rw [hf] at h
            exact ⟨h, hb⟩
          have HE : Hid (klE id t = 6) := Lib.hid (kl_none HTT.out hf)
          clear HSP hf
          go_wp2_with fail
          refine HSP2.out.mono ?_
          rintro e w4 ⟨rfl, hb4⟩
          have L5 := Lib.hid ((L3.out.up hb4).up ((Below.refl _ _).alloc (Nat.le_refl _) (spotO (.pointer none) 0)))
          clear hb4 HSP2 p0
          obtain ⟨⟨z0, z1, z2, z3, z4, z5, z6⟩, f0, f1, f2, f3, f4, f5, f6⟩ := zero_parts L5.out.zero
          go_wp2
          (try simp only [Exit.inBlock, Exit.then])
          refine bodyPost_ret (results_c2 rfl _ _ (w.heap.size + 1) noC rfl ((Box7.of_zero L5.out.zero).put noC)) rfl ?_
          exact kl_err HE.out (by decide) (below_put7 L5.out.below (by omega) noC)
        | some p =>
          cases p with
          | nil =>
            have HSP2 : Hid (Calls Tryz.prog 20 #[.pointer (some ⟨B, 0, none⟩), .int .i64 id] w3 fun e w' => e = .returned (.tuple #[noSpot, .int .i64 10]) ∧ Below w3.heap.size w3 w') := HSP.out.mono fun e w' h => by
              obtain ⟨hb, h⟩ := h
              rw [hf] at h
              exact ⟨h, hb⟩
            have HE : Hid (klE id t = 10) := Lib.hid (kl_top HTT.out hf)
            clear HSP hf
            go_wp2_with fail
            refine HSP2.out.mono ?_
            rintro e w4 ⟨rfl, hb4⟩
            have L5 := Lib.hid ((L3.out.up hb4).up ((Below.refl _ _).alloc (Nat.le_refl _) (spotO (.pointer none) 0)))
            clear hb4 HSP2 p0
            obtain ⟨⟨z0, z1, z2, z3, z4, z5, z6⟩, f0, f1, f2, f3, f4, f5, f6⟩ := zero_parts L5.out.zero
            go_wp2
            (try simp only [Exit.inBlock, Exit.then])
            refine bodyPost_ret (results_c2 rfl _ _ (w.heap.size + 1) noC rfl ((Box7.of_zero L5.out.zero).put noC)) rfl ?_
            exact kl_err HE.out (by decide) (below_put7 L5.out.below (by omega) noC)
          | cons m p =>
            have HSP2 : Hid (Calls Tryz.prog 20 #[.pointer (some ⟨B, 0, none⟩), .int .i64 id] w3 fun e w' => ∃ (q : List Int) (j b o : Nat) (g : T), e = .returned (.tuple #[spotV b o (j : Int), .int .i64 0]) ∧ m :: p = q ++ [(j : Int)] ∧ Spot w3 w1.heap.size B t q b o g ∧ atT t q = some g ∧ Below w3.heap.size w3 w') := HSP.out.mono fun e w' h => by
              obtain ⟨hb, h⟩ := h
              rw [hf] at h
              obtain ⟨q, j, b, o, g, h1, h2, h3, h4⟩ := h
              exact ⟨q, j, b, o, g, h4, h1, h2, h3, hb⟩
            have HE : Hid (klE id t = 0) := Lib.hid (kl_more HTT.out hf)
            have HF := Lib.hid hf
            clear HSP hf
            go_wp2_with fail
            refine HSP2.out.mono ?_
            rintro e w4 ⟨q, j, b, o, g, rfl, hpq, hspot, hat, hb4⟩
            have HFQ := HF.out
            rw [hpq] at HFQ
            have hst : sz t ≤ 20000 := by have := HM.out; omega
            obtain ⟨hput, -, v, hv⟩ := kill_way (id := id) q t g j hst HTT.out HFQ hat
            obtain ⟨htg, hsg⟩ := tile_at hst HTT.out hat
            obtain ⟨x, S', cur, hsp⟩ := hspot
            have AL : Below w4.heap.size w4 (w4.alloc (spotO (.pointer (some ⟨b, o, none⟩)) (j : Int))) := (Below.refl _ _).alloc (Nat.le_refl _) _
            have B35 := Lib.hid (hb4.trans (AL.mono hb4.size))
            have L5 := Lib.hid ((L3.out.up hb4).up AL)
            have hbx := lt_of_block hsp.blk
            have HLV := Lib.hid (leave_any (w4.alloc (spotO (.pointer (some ⟨b, o, none⟩)) (j : Int))) w1.heap.size b o j x g v S' cur (hsp.cat.up B35.out) (hsp.own.up B35.out) hsp.nodup hsp.out hsp.ge ((B35.out.block b hbx).trans hsp.blk) (by have := HM.out; omega) htg hv)
            obtain ⟨s0, s1⟩ := spot_new w4 (.pointer (some ⟨b, o, none⟩)) (j : Int)
            have HSPT := Lib.hid hsp
            have HPUT := Lib.hid hput
            clear hb4 AL hpq HFQ hput hv htg hsg hsp hat HSP2 hst hbx p0
            go_wp2_with fail
            refine HLV.out.mono ?_
            rintro e w6 ⟨rfl, hb6, hfr6, y, hbl6, hst6⟩
            have L6 := Lib.hid (ast_low L5.out hb6 HW1.out)
            have HEND := Lib.hid (kill_end HSPT.out B35.out HBS.out HLT3.out hfr6 hb6.size hbl6 hst6 HPUT.out)
            clear hb6 hfr6 hbl6 hst6 HLV s0 s1
            go_wp2
            go_roundg (gk - 1)
            case measure => have := HG.out; omega
            case rel => exact ⟨1, by have := HG.out; omega, by omega, by go_num, .inr ⟨rfl, L6.out, HE.out, HEND.out⟩⟩
      · subst hk1
        have LS := Lib.hid hst
        have HE := Lib.hid he0
        have HZ := Lib.hid hzs
        have HB := Lib.hid (show w.heap.size + 2 ≤ B by have := HW1.out; have := HBS.out; omega)
        clear hst he0 hzs hk
        obtain ⟨c0, c1, c2, c3, c4, c5, c6⟩ := c7_of hz
        clear hz
        obtain ⟨⟨z0, z1, z2, z3, z4, z5, z6⟩, f0, f1, f2, f3, f4, f5, f6⟩ := zero_parts LS.out.zero
        go_wp2
        (try simp only [Exit.inBlock, Exit.then])
        refine bodyPost_ret (results_c2 rfl _ _ (w.heap.size + 1) z rfl ((Box7.of_zero LS.out.zero).put z)) rfl ?_
        exact kl_ok HE.out (fun W' _ hW => HZ.out W' trivial fun m hm hm2 => (hW m (by have := HW1.out; omega) (by rw [size_put7]; exact hm2)).trans (heap_put7 (by have := HW1.out; omega))) (below_put7 LS.out.below (by omega) z)

set_option maxRecDepth 100000 in
theorem pkill_any (id : Int) (t : T) (c : C) (w : World) (hm : sz t ≤ 990) (hi : Is w c t) : Calls Tryz.prog 7 #[cval c, .int .i64 id] w (KlSays id t .i64 w) := by
  have L0 := Lib.hid (ASt.start w c)
  have AL : Below (cellW w c).heap.size (cellW w c) ((cellW w c).alloc (.cells #[.int .i64 id] 3)) := (Below.refl _ _).alloc (Nat.le_refl _) _
  have L1 := Lib.hid (L0.out.up AL)
  have HK := Lib.hid (pleaves_any id t c (w.heap.size + 2) ((cellW w c).alloc (.cells #[.int .i64 id] 3)) hm (L1.out.is hi) (by
    have h := cell_of_one (Box1.new (cellW w c) (.int .i64 id) 3)
    rw [cellW_size] at h
    exact h))
  clear hi hm AL
  obtain ⟨c0, c1, c2, c3, c4, c5, c6⟩ := c7_of L0.out.box.cat
  go_enter Tryz.func7, Tryz.ntmps7
  go_wp2_with fail
  refine HK.out.mono ?_
  rintro e w2 ⟨d, rfl, hd, hb2⟩
  have L2 := Lib.hid (L1.out.up hb2)
  have HD := Lib.hid hd
  have HSZ : Hid (w.heap.size + 3 ≤ ((cellW w c).alloc (.cells #[.int .i64 id] 3)).heap.size) := Lib.hid (by simp)
  clear hd hb2
  obtain ⟨⟨z0, z1, z2, z3, z4, z5, z6⟩, f0, f1, f2, f3, f4, f5, f6⟩ := zero_parts L2.out.zero
  clear c0 c1 c2 c3 c4 c5 c6 HK
  go_wp2
  (try simp only [Exit.inBlock, Exit.then])
  refine bodyPost_ret (results_c2 rfl _ _ (w.heap.size + 1) d rfl ((Box7.of_zero L2.out.zero).put d)) rfl ?_
  exact ⟨d, rfl, fun W' _ hW => HD.out W' trivial fun m hm hm2 => (hW m (by have := HSZ.out; omega) (by rw [size_put7]; exact hm2)).trans (heap_put7 (by have := HSZ.out; omega)), below_put7 L2.out.below (by omega) d⟩
end Go.Proofs.YtbbjnimadnbmnaaGreat
/- One cell gives way to two, where there is no room: slices.Replace. -/
namespace Go.Proofs.YtbbjnimadnbmnaaGreat
open Go.RowKit

set_option maxHeartbeats 2000000 in
set_option maxRecDepth 100000 in
theorem repl_grow (xs ps : List C) (n k base g cap pg : Nat) (w : World) (hown : OwnC w base (.slice (some ⟨g, 0, none⟩) n cap) xs) (hp : OwnC w 0 (.slice (some ⟨pg, 0, none⟩) 2 2) ps) (hkn : k + 1 < n) (hroom : cap < n + 1) (hn : n ≤ 100000) :
    Calls Tryz.prog 51 #[.slice (some ⟨g, 0, none⟩) n cap, .int .i64 (k : Int), .int .i64 ((k : Int) + 1), .slice (some ⟨pg, 0, none⟩) 2 2] w fun e w' => ∃ cap', e = .returned (.slice (some ⟨w.heap.size, 0, none⟩) (n + 1) cap') ∧ OwnC w' base (.slice (some ⟨w.heap.size, 0, none⟩) (n + 1) cap') (xs.take k ++ ps ++ xs.drop (k + 1)) ∧ Below w.heap.size w w' := by
  obtain ⟨cur, b1, b2, b3, b4, b5, b6, b7⟩ := own_blk hown
  obtain ⟨curp, p1, p2, p3, p4, p5, p6, p7⟩ := own_blk hp
  subst b7
  have hgs : g < w.heap.size := lt_of_block b1
  have hpgs : pg < w.heap.size := lt_of_block p1
  have hcap : cap ≤ 9223372036854775807 := by unfold maxLen at b5; omega
  have hdl : (flatC (xs.drop (k + 1))).length = (xs.length - (k + 1)) * 7 := by rw [flatC_length, List.length_drop]
  have hpl : (flatC ps).length = 14 := by rw [flatC_length]; omega
  have htl : (xs.take k).length = k := by rw [List.length_take]; omega
  have hmk : ∀ ty, ∃ cap' cur' w', (Builtin.append_ #[24, 3] ty #[.slice (some ⟨g, 0, none⟩) k cap, .int .i64 ((k : Int) + 2 + ((xs.length - (k + 1) : Nat) : Int) - (k : Int))]).run Tryz.prog w.drew = .ok (.slice (some ⟨w.heap.size, 0, none⟩) (xs.length + 1) cap') w' ∧
      CBlk w' w.heap.size cur' ∧ cur'.length = cap' * 7 ∧ xs.length + 1 ≤ cap' ∧ cap' ≤ maxLen ∧ cur'.take (k * 7) = flatC (xs.take k) ∧ w.grownBy w' none := fun ty => by
    obtain ⟨cap', cur', w', h1, h2, h3, h4, h5, h6, h7⟩ := run_makeC w.drew ty g k cap (xs.length + 1 - k) (xs.take k) ((own_take (w := w.drew) (base := base) hown k (by omega)).lower (Nat.zero_le _)) (by omega) (by omega) (by omega)
    rw [show k + (xs.length + 1 - k) = xs.length + 1 by omega] at h1 h4
    rw [show ((xs.length + 1 - k : Nat) : Int) = (k : Int) + 2 + ((xs.length - (k + 1) : Nat) : Int) - (k : Int) by omega] at h1
    exact ⟨cap', cur', w', h1, h2, h3, h4, h5, h6, ⟨h7.os, h7.tape, h7.output, h7.size, h7.block⟩⟩
  obtain ⟨cap', cur', W0, hmk, q1, q2, q3, q4, q5, q6⟩ := hmk 24
  obtain ⟨R, e2, e3⟩ := splices_down cur' (flatC (xs.take k)) (flatC ps) (flatC (xs.drop (k + 1))) (k * 7) 14 q5 hpl (by rw [hdl]; omega)
  rw [show k * 7 + 14 = (k + 2) * 7 by omega] at e2
  have hcap' : cap' ≤ 9223372036854775807 := by unfold maxLen at q4; omega
  obtain ⟨cur1, hcur1⟩ : ∃ c, c = splice cur' (k * 7) (flatC ps) := ⟨_, rfl⟩
  rw [← hcur1] at e2 e3
  have hfin : Hid (∀ W, CBlk W w.heap.size (splice cur1 ((k + 2) * 7) (flatC (xs.drop (k + 1)))) → OwnC W base (.slice (some ⟨w.heap.size, 0, none⟩) (xs.length + 1) cap') (xs.take k ++ ps ++ xs.drop (k + 1))) := Lib.hid fun W hW => by
    have hl : (xs.take k ++ ps ++ xs.drop (k + 1)).length = xs.length + 1 := by
      rw [List.length_append, List.length_append, List.length_take, List.length_drop]; omega
    have hf : flatC (xs.take k ++ ps ++ xs.drop (k + 1)) = flatC (xs.take k) ++ flatC ps ++ flatC (xs.drop (k + 1)) := by rw [flatC_append, flatC_append]
    have := blk_own (xs := xs.take k ++ ps ++ xs.drop (k + 1)) (base := base) (cap := cap') hW (by
      have h0 : (splice cur1 ((k + 2) * 7) (flatC (xs.drop (k + 1)))).length = cur1.length := length_splice _ _ _ (by rw [e3, hdl]; omega)
      rw [h0, e3, q2]) (by
      rw [e2, hf, hl]
      have h9 : (xs.length + 1) * 7 = (flatC (xs.take k) ++ flatC ps ++ flatC (xs.drop (k + 1))).length := by rw [← hf, flatC_length, hl]
      rw [h9, List.take_left]) (by omega) q4 (by omega)
    rw [hl] at this
    exact this
  have r1 : CBlk W0 pg curp := (q6.block pg hpgs (by simp)).trans p1
  have r2 : CBlk W0 g cur := (q6.block g hgs (by simp)).trans b1
  have hcp1 : ∀ ty dc, (Builtin.copy_ #[24, 24] ty #[.slice (some ⟨w.heap.size, k * 7, none⟩) (xs.length + 1 - k) dc, .slice (some ⟨pg, 0, none⟩) 2 2]).run Tryz.prog W0 = .ok (goInt (Nat.min 2 (xs.length + 1 - k))) (W0.setRow w.heap.size cur1.toArray) := fun ty dc => by
    rw [hcur1]
    exact run_copyC W0 ty w.heap.size (k * 7) _ dc _ 2 2 cur' (flatC ps) q1 (by rw [hpl, show Nat.min 2 (xs.length + 1 - k) = 2 from Nat.min_eq_left (by omega)]) (fun j v hj => by
      rw [← p3, List.getElem?_take] at hj
      split at hj
      · rw [Go.WideShapes.add_plain, r1.cell, Nat.zero_add]; exact hj
      · cases hj) (by rw [hpl]; omega) (flatC_oneCell _)
  obtain ⟨W1, hW1⟩ : ∃ W1, W1 = W0.setRow w.heap.size cur1.toArray := ⟨_, rfl⟩
  rw [← hW1] at hcp1
  have s1 : CBlk W1 w.heap.size cur1 := by rw [hW1]; exact set_blk q1 cur1
  have s2 : CBlk W1 g cur := by rw [hW1]; exact (setRow_other _ _ _ _ (by omega)).trans r2
  have hcp2 : ∀ ty dc sc, (Builtin.copy_ #[24, 24] ty #[.slice (some ⟨w.heap.size, (k + 2) * 7, none⟩) (xs.length - (k + 1)) dc, .slice (some ⟨g, (k + 1) * 7, none⟩) (xs.length - (k + 1)) sc]).run Tryz.prog W1.drew = .ok (goInt (Nat.min (xs.length - (k + 1)) (xs.length - (k + 1)))) (W1.drew.setRow w.heap.size (splice cur1 ((k + 2) * 7) (flatC (xs.drop (k + 1)))).toArray) := fun ty dc sc =>
    run_copyC W1.drew ty w.heap.size ((k + 2) * 7) _ dc _ _ sc cur1 (flatC (xs.drop (k + 1))) s1 (by rw [hdl, show Nat.min (xs.length - (k + 1)) (xs.length - (k + 1)) = xs.length - (k + 1) from Nat.min_self _]) (drop_cells (w := W1.drew) s2 b3 (k + 1)) (by rw [hdl, e3]; omega) (flatC_oneCell _)
  have HEND : Hid (Below w.heap.size w (W1.drew.setRow w.heap.size (splice cur1 ((k + 2) * 7) (flatC (xs.drop (k + 1)))).toArray)) := Lib.hid (by
    have g1 : Below w.heap.size w W0 := ⟨q6.os, q6.tape, q6.output, q6.size, fun j hj => q6.block j hj (by simp)⟩
    have g2 : Below w.heap.size w W1 := by rw [hW1]; exact below_setRow g1 (Nat.le_refl _) _
    exact below_setRow g2.drew (Nat.le_refl _) _)
  have HS1 := Lib.hid s1
  have HCP1 := Lib.hid hcp1
  have HCP2 := Lib.hid hcp2
  clear hcp2 hW1 hcp1 e2 e3 hcur1 b1 b2 b3 b5 b6 p1 p2 p3 p4 p5 p6 p7 hdl hpl htl q1 q2 q4 q5 q6 r1 r2 s1 s2 hown hp
  have n0 : ¬ (cap = k) := by omega
  have n1 : ¬ (cap = k + 1) := by omega
  have n5 : ¬ (cap' = k + 2) := by omega
  have n7 : ¬ (cap' = k) := by omega
  have n2 : ((k : Int) == (k : Int) + 1) = false := by rw [beq_eq_false_iff_ne]; omega
  have n3 : ((k : Int) + 1 == (xs.length : Int)) = false := by rw [beq_eq_false_iff_ne]; omega
  have n6 : decide ((cap : Int) < (k : Int) + 2 + ((xs.length - (k + 1) : Nat) : Int)) = true := decide_eq_true (by omega)
  have hw1 : IntKind.i64.wrap ((k : Int) + 2) = (k : Int) + 2 := wrap_id (by omega)
  have hb1 : (0 : Int) ≤ (k : Int) + 2 := by omega
  have hb6 : (0 : Int) ≤ (k : Int) + 1 := by omega
  have htn : ((k : Int) + 2).toNat = k + 2 := by omega
  have hb3 : (k : Int) + 2 ≤ (xs.length : Int) + 1 := by omega
  have hb4 : (k : Int) ≤ (xs.length : Int) + 1 := by omega
  have hb5 : (k : Int) + 1 ≤ (xs.length : Int) := by omega
  have hw2 : IntKind.i64.wrap ((k : Int) + 1) = (k : Int) + 1 := wrap_id (by omega)
  have htn2 : ((k : Int) + 1).toNat = k + 1 := by omega
  go_enter Tryz.func51, Tryz.ntmps51
  go_wp2
  go_region
  have hcp1 := HCP1.out
  have hcp2 := HCP2.out
  go_wp2_with (at_builtin; refine Lib.wpList_append_run _ rfl _ _ _ _ rfl _ _ rfl rfl _ _ hmk ?_)
  go_region
  go_wp2
  go_ret
  exact ⟨_, rfl, hfin.out _ (set_blk (w := W1.drew) HS1.out _), HEND.out⟩
end Go.Proofs.YtbbjnimadnbmnaaGreat
