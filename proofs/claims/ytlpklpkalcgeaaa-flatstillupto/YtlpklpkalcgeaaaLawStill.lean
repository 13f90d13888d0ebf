/- The law FlatStill. -/
import Derived.Test.YtlpklpkalcgeaaaFName
import Derived.Test.YtlpklpkalcgeaaaRChanged
import Derived.Test.YtlpklpkalcgeaaaLawNexts
import Derived.Deep.RegionHeld3
import Derived.Deep.Cut
namespace Go.Proofs.Ytlpklpkalcgeaaa
open Go.RowKit

def negs (n : Nat) : List Int := (List.range n).map fun (i : Nat) => -1 - (i : Int)
theorem negs_succ (n : Nat) : negs (n + 1) = negs n ++ [-1 - (n : Int)] := by
  unfold negs; rw [List.range_succ, List.map_append]; rfl
theorem negs_len (n : Nat) : (negs n).length = n := by simp [negs]
theorem negs_neg {n : Nat} {m : Int} (h : m ∈ negs n) : m < 0 ∧ -(n : Int) ≤ m := by
  unfold negs at h
  obtain ⟨i, hi, rfl⟩ := List.mem_map.1 h
  have := List.mem_range.1 hi
  omega
theorem ids_mem {w : World} {c : C} {t : T} (h : Is w c t) : ∀ m ∈ idsT t, fits m := by
  intro m hm
  obtain ⟨u, hu, rfl⟩ := List.mem_map.1 hm
  have hu' := (List.mem_filter.1 hu).1
  clear hm hu
  induction h with
  | mk c ts cs row len fine each ih =>
    rw [preT_eq] at hu'
    rcases List.mem_cons.1 hu' with rfl | hu'
    · exact fine.2.2.1
    · have hl : ∀ l : List T, u ∈ preL l → ∃ (j : Nat) (x : T), l[j]? = some x ∧ u ∈ preT x := by
        intro l
        induction l with
        | nil => intro h; simp [preL] at h
        | cons a l ihl =>
          intro h
          rw [preL] at h
          rcases List.mem_append.1 h with h | h
          · exact ⟨0, a, rfl, h⟩
          · obtain ⟨j, x, h1, h2⟩ := ihl h
            exact ⟨j + 1, x, by simpa using h1, h2⟩
      obtain ⟨j, x, hx, hux⟩ := hl _ hu'
      obtain ⟨y, hy⟩ := get_of len (lt_of_get hx)
      exact ih j y x hy hx hux
theorem panes_fit {t : T} (h : ∀ m ∈ idsT t, fits m) : fitsP (panesT t) := fun p hp => h p.id (by rw [← ids_panes]; exact List.mem_map.2 ⟨p, hp, rfl⟩)
theorem may_pos {t : T} (h : rmayT t = true) : ∀ p ∈ panesT t, 0 ≤ p.id := by
  intro p hp
  unfold panesT at hp
  obtain ⟨u, hu, rfl⟩ := List.mem_map.1 hp
  obtain ⟨hu1, hu2⟩ := List.mem_filter.1 hu
  unfold rmayT at h
  rw [Bool.and_eq_true] at h
  have hw := List.all_eq_true.1 h.1 u hu1
  have hk : u.k = 1 := by simpa [leafB] using hu2
  unfold wellT wellB at hw
  rw [hk] at hw
  simp at hw
  exact hw.2.1.1
theorem still_self {l : List Pn} (h : (l.map Pn.id).Nodup) : changedP l l = [] := by
  unfold changedP
  rw [List.filter_eq_nil_iff]
  intro p hp
  obtain ⟨j, hj, rfl⟩ := List.getElem_of_mem hp
  have hj' := List.getElem?_eq_getElem hj
  unfold chB
  rw [paneOf_some (idx_nodup h hj') hj']
  simp
theorem still_new {l m : List Pn} (h : ∀ p ∈ m, ∀ q ∈ l, q.id ≠ p.id) : changedP l m = m := by
  unfold changedP
  rw [List.filter_eq_self]
  intro p hp
  have hi : idxP l p.id = none := idx_none fun j q hj hq => h p hp q (List.mem_of_getElem? hq)
  unfold chB
  rw [paneOf_none hi]
  rfl
theorem still_far {t : T} (h : rmayT t = true) : ∀ p ∈ panesT (nmT (negs (lvT t)) t), ∀ q ∈ panesT t, q.id ≠ p.id := by
  intro p hp q hq e
  have h1 := may_pos h q hq
  have h2 : p.id ∈ idsT (nmT (negs (lvT t)) t) := by rw [← ids_panes]; exact List.mem_map.2 ⟨p, hp, rfl⟩
  rw [nm_ids_all (negs_len _)] at h2
  have := (negs_neg h2).1
  omega

abbrev C7 (n : Nat) (c : C) (W : World) : Prop := W.cell? ⟨n, 0, none⟩ = some (.int .u8 c.k) ∧ W.cell? ⟨n, 1, none⟩ = some (.int .i64 c.r.x) ∧ W.cell? ⟨n, 2, none⟩ = some (.int .i64 c.r.y) ∧ W.cell? ⟨n, 3, none⟩ = some (.int .i64 c.r.w) ∧ W.cell? ⟨n, 4, none⟩ = some (.int .i64 c.r.h) ∧ W.cell? ⟨n, 5, none⟩ = some (.int .i64 c.id) ∧ W.cell? ⟨n, 6, none⟩ = some (.slice c.a c.n c.cap)
theorem c7_of {n : Nat} {c : C} {W : World} (h1 : CAt W n 0 c) : C7 n c W := by
  obtain ⟨a0, a1, a2, a3, a4, a5, a6⟩ := h1
  simp only [Nat.zero_add] at a1 a2 a3 a4 a5 a6
  exact ⟨a0, a1, a2, a3, a4, a5, a6⟩

set_option maxRecDepth 100000 in
set_option maxHeartbeats 8000000 in
theorem flatStill_any (t : T) (c : C) (w : World) (hi : Is w c t) (hs : sz t ≤ 1099511627776) : Calls Try.prog 7 #[cval c] w fun e w' => e = .returned (.bool true) ∧ Below w.heap.size w w' := by
  have A1 : Hid (Below w.heap.size w (w.alloc (cbox c))) := (Below.refl _ _).alloc (Nat.le_refl _) _
  have HI := Lib.hid hi
  have X1 := Lib.hid (cbox_new w c)
  have HGR := Lib.hid (great_any t c _ (hi.up A1.out))
  have HS := Lib.hid hs
  have HFP := Lib.hid (panes_fit (ids_mem hi))
  clear hi hs
  go_enter Try.func7, Try.ntmps7
  go_wp2_with fail
  refine HGR.out.mono ?_
  rintro e w1 ⟨g, rfl, hg, hb1⟩
  have B1 := Lib.hid (A1.out.trans (hb1.mono A1.out.size))
  have C1 := Lib.hid (X1.out.up hb1)
  have HF := Lib.hid hg
  clear hb1 hg
  cases g with
  | true =>
    go_wp2_with fail
    refine (awake_any w1).mono ?_
    rintro e w2 ⟨rfl, hb2⟩
    have B2 := Lib.hid (B1.out.trans (hb2.mono B1.out.size))
    clear hb2
    go_wp2
    go_ret
    exact ⟨rfl, B2.out⟩
  | false =>
    have hsz : sz t ≤ 200 := HF.out rfl HS.out
    have HSZ := Lib.hid hsz
    clear hsz
    obtain ⟨c0, c1, c2, c3, c4, c5, c6⟩ := C1.out
    simp only [Nat.zero_add] at c1 c2 c3 c4 c5 c6
    have HM := Lib.hid (rmayOne_any t c w1 (by have := HSZ.out; omega) (HI.out.up B1.out))
    cases hmt : rmayT t with
    | false =>
      rw [hmt] at HM
      clear hmt
      go_wp2_with fail
      refine HM.out.mono ?_
      rintro e w2 ⟨rfl, hb2⟩
      have B2 := Lib.hid (B1.out.trans (hb2.mono B1.out.size))
      clear hb2
      go_wp2_with fail
      refine (awake_any w2).mono ?_
      rintro e w3 ⟨rfl, hb3⟩
      have B3 := Lib.hid (B2.out.trans (hb3.mono B2.out.size))
      clear hb3
      go_wp2
      go_ret
      exact ⟨rfl, B3.out⟩
    | true =>
      rw [hmt] at HM
      have HST1 := Lib.hid (still_self (may_nodup hmt))
      have HST2 := Lib.hid (still_new (still_far hmt))
      have HLV : Hid (lvT t ≤ 200) := Lib.hid (by rw [← panes_lv]; have := panes_len t; have := HSZ.out; omega)
      have HPL : Hid ((panesT t).length = lvT t) := Lib.hid (panes_lv t)
      have HFP2 : Hid (fitsP (panesT (nmT (negs (lvT t)) t))) := Lib.hid (panes_fit fun m hm => by
        rw [nm_ids_all (negs_len _)] at hm
        have := negs_neg hm
        have := HLV.out
        unfold fits; omega)
      have HNR : Hid (nameR (negs (lvT t)) t = some (nmT (negs (lvT t)) t)) := Lib.hid (by unfold nameR; rw [if_pos (negs_len _)])
      clear hmt
      go_wp2_with fail
      refine HM.out.mono ?_
      rintro e w2 ⟨rfl, hb2⟩
      have B2 := Lib.hid (B1.out.trans (hb2.mono B1.out.size))
      have C2 := Lib.hid (C1.out.up hb2)
      clear hb2 c0 c1 c2 c3 c4 c5 c6
      obtain ⟨c0, c1, c2, c3, c4, c5, c6⟩ := C2.out
      simp only [Nat.zero_add] at c1 c2 c3 c4 c5 c6
      have HL := Lib.hid (list_any t c w2 (by have := HSZ.out; omega) (HI.out.up B2.out))
      go_wp2_with fail
      refine HL.out.mono ?_
      rintro e w3 ⟨v3, rfl, ho3, hb3⟩
      have B3 := Lib.hid (B2.out.trans (hb3.mono B2.out.size))
      have C3 := Lib.hid (C2.out.up hb3)
      have R3 := Lib.hid ho3.row
      obtain ⟨a3, cap3, rfl⟩ := ho3.row.shape
      have HE := Lib.hid (OwnI.empty w3 w3.heap.size (Nat.le_refl _))
      clear ho3 hb3 c0 c1 c2 c3 c4 c5 c6
      rw [HPL.out] at R3 ⊢
      have hl200 : lvT t ≤ 200 := HLV.out
      go_wp2
      go_loopg [4, 5] (lvT t + 1) (fun g v i wr => ∃ k : Nat, g + k = lvT t + 1 ∧ k ≤ lvT t ∧ i = .int .i64 k ∧ OwnI wr w3.heap.size v (negs k) ∧ Below w3.heap.size w3 wr)
      case atStart => exact ⟨0, by omega, by omega, rfl, HE.out, (Below.refl _ _).alloc (Nat.le_refl _) _⟩
      case round =>
        obtain ⟨k, hg, hk, rfl, hown, hb⟩ := hrel
        have HG := Lib.hid hg
        have HO := Lib.hid hown
        have HB := Lib.hid hb
        clear hg hown hb
        by_cases hlt : k < lvT t
        · have hlti : (k : Int) < (lvT t : Int) := by omega
          have s1 : IntKind.i64.wrap (-1 - (k : Int)) = -1 - (k : Int) := wrap_id (by have := HLV.out; omega)
          have HLN : Hid ((negs k).length + [-1 - (k : Int)].length ≤ 1954687338211) := Lib.hid (by rw [negs_len]; have := HLV.out; simp; omega)
          go_wp2_with (at_builtin; refine wpList_append_ints rfl _ _ rfl w3.heap.size u4 _ (negs k) [-1 - (k : Int)] rfl (HO.out.up ((Below.refl _ _).alloc (Nat.le_refl _) _)) rfl (row_one wr (.int .i64 (-1 - (k : Int))) 3) (by simp) HLN.out w3 (HB.out.alloc HB.out.size _) (Nat.le_refl _) ?_; intro g cap4 w5 hown5 hb5 hgr5 hpl5)
          have O5 := Lib.hid hown5
          have B5 := Lib.hid hb5
          clear hown5 hb5 hgr5 hpl5
          go_wp2
          go_roundg (gk - 1)
          case measure => have := HG.out; omega
          case rel =>
            refine ⟨k + 1, by have := HG.out; omega, by omega, by go_num, ?_, B5.out⟩
            rw [negs_succ]
            simpa using O5.out
        · obtain rfl : k = lvT t := by omega
          have hkl : ((lvT t : Int) < (lvT t : Int)) = False := by simp
          have BR := Lib.hid (B3.out.trans (HB.out.mono B3.out.size))
          have CR := Lib.hid (C3.out.up HB.out)
          have RR := Lib.hid (R3.out.up HB.out)
          obtain ⟨c0, c1, c2, c3, c4, c5, c6⟩ := CR.out
          simp only [Nat.zero_add] at c1 c2 c3 c4 c5 c6
          have HN := Lib.hid (name_any t c _ (negs (lvT t)) wr (HI.out.up BR.out) (by have := HSZ.out; omega) HO.out.row (fun m hm => by have := negs_neg hm; have := HLV.out; unfold fits; omega))
          rw [HNR.out] at HN
          obtain ⟨a4, cap4, rfl⟩ := row_shape HO.out.row
          go_wp2_with fail
          refine HN.out.mono ?_
          rintro e w6 ⟨x, rfl, hx6, hb6⟩
          have so : (some (nmT (negs (lvT t)) t)).isSome = true := rfl
          rw [so]
          have A7 : Hid (Below w6.heap.size w6 (w6.alloc (cbox x))) := (Below.refl _ _).alloc (Nat.le_refl _) _
          have B67 := Lib.hid (hb6.trans (A7.out.mono hb6.size))
          have B7 := Lib.hid (BR.out.trans (B67.out.mono BR.out.size))
          have R7 := Lib.hid (RR.out.up B67.out)
          have D7 := Lib.hid (cbox_new w6 x)
          have J7 : Hid (Is (w6.alloc (cbox x)) x (nmT (negs (lvT t)) t)) := Lib.hid ((hx6 w6 fun _ _ => rfl).up A7.out)
          clear hx6 hb6 c0 c1 c2 c3 c4 c5 c6 so
          have HSX : Hid (sz (nmT (negs (lvT t)) t) ≤ 200) := Lib.hid (by rw [nm_sz]; exact HSZ.out)
          have HPX : Hid ((panesT (nmT (negs (lvT t)) t)).length ≤ 200) := Lib.hid (by have := panes_len (nmT (negs (lvT t)) t); have := HSX.out; omega)
          go_upto_region 10 with fail
          change Code.wp _ _ _ _ (w6.alloc (cbox x))
          generalize w6.alloc (cbox x) = W at B7 R7 D7 J7 ⊢
          generalize w6.heap.size = xb at D7 ⊢
          generalize nmT (negs (lvT t)) t = xt at HST2 HFP2 J7 HSX HPX
          have HPT : Hid ((panesT t).length ≤ 200) := Lib.hid (by rw [HPL.out]; exact HLV.out)
          generalize panesT t = l at HST1 HST2 HFP HPT R7
          have BD : Hid (Below w.heap.size w W.drew) := Lib.hid B7.out.drew
          have RD : Hid (PRow W.drew _ l) := Lib.hid R7.out
          have DD : Hid (CAt W.drew xb 0 x) := Lib.hid D7.out
          have JD : Hid (Is W.drew x xt) := Lib.hid (J7.out.up (Below.refl _ W).drew)
          have S0 := Lib.hid (c7_of DD.out)
          have K1 := Lib.hid (changed_any _ _ l l W.drew RD.out RD.out HFP.out HFP.out (by have := HPT.out; omega) (by have := HPT.out; omega))
          rw [HST1.out] at K1
          have K3 := Lib.hid (fun W' v (hr : PRow W' v (panesT xt)) (hl : PRow W' (.slice a3 (lvT t) cap3) l) => changed_any _ v l (panesT xt) W' hl hr HFP.out HFP2.out (by have := HPT.out; omega) (by have := HPX.out; omega))
          rw [HST2.out] at K3
          go_region_held3 (fun W => W.cell? ⟨xb, 0, none⟩ = some (.int .u8 x.k) ∧ W.cell? ⟨xb, 1, none⟩ = some (.int .i64 x.r.x) ∧ W.cell? ⟨xb, 2, none⟩ = some (.int .i64 x.r.y) ∧ W.cell? ⟨xb, 3, none⟩ = some (.int .i64 x.r.w) ∧ W.cell? ⟨xb, 4, none⟩ = some (.int .i64 x.r.h) ∧ W.cell? ⟨xb, 5, none⟩ = some (.int .i64 x.id) ∧ W.cell? ⟨xb, 6, none⟩ = some (.slice x.a x.n x.cap)) (first | with_reducible exact S0.out | with_reducible exact S1.out | with_reducible exact S2.out | with_reducible exact S3.out | with_reducible exact S4.out | with_reducible exact S5.out | with_reducible exact S6.out)
            (first
              | (go_at_call 23; (with_reducible refine K1.out.mono ?_); rintro e y1 ⟨u1, rfl, ho1, hb1⟩; obtain ⟨z1, q1, rfl⟩ := ho1.row.shape; have E1 := Lib.hid (BD.out.trans (hb1.mono BD.out.size)); have R1 := Lib.hid (RD.out.up hb1); have D1 := Lib.hid (DD.out.up hb1); have J1 := Lib.hid (JD.out.up hb1); have S1 := Lib.hid (c7_of (DD.out.up hb1)); clear ho1 hb1)
              | (go_at_call 14; (with_reducible refine (list_any xt x y1 (by have := HSX.out; omega) J1.out).mono ?_); rintro e y2 ⟨u2, rfl, ho2, hb2⟩; have Q2 := Lib.hid ho2.row; have E2 := Lib.hid (E1.out.trans (hb2.mono E1.out.size)); have R2 := Lib.hid (R1.out.up hb2); have D2 := Lib.hid (D1.out.up hb2); have J2 := Lib.hid (J1.out.up hb2); have S2 := Lib.hid (c7_of (D1.out.up hb2)); clear ho2 hb2)
              | (go_at_call 23; (with_reducible refine (K3.out y2 u2 Q2.out R2.out).mono ?_); rintro e y3 ⟨u3', rfl, ho3, hb3⟩; have Q3 := Lib.hid ho3.row; have E3 := Lib.hid (E2.out.trans (hb3.mono E2.out.size)); have D3 := Lib.hid (D2.out.up hb3); have J3 := Lib.hid (J2.out.up hb3); have S3 := Lib.hid (c7_of (D2.out.up hb3)); clear ho3 hb3)
              | (go_at_call 10; (with_reducible refine (rlist_any xt x y3 (by have := HSX.out; omega) J3.out).mono ?_); rintro e y4 ⟨u4', rfl, ho4, hb4⟩; have Q4 := Lib.hid ho4.row; have E4 := Lib.hid (E3.out.trans (hb4.mono E3.out.size)); have Q34 := Lib.hid (Q3.out.up hb4); have S4 := Lib.hid (c7_of (D3.out.up hb4)); have D4 := Lib.hid (D3.out.up hb4); clear ho4 hb4)
              | (go_at_call 13; (with_reducible refine (rsameP_any u3' u4' (panesT xt) (panesT xt) y4 Q34.out Q4.out (by have := HPX.out; omega)).mono ?_); rw [eqPs_self]; rintro e y5 ⟨rfl, hb5⟩; have E5 := Lib.hid (E4.out.trans (hb5.mono E4.out.size)); have S5 := Lib.hid (c7_of (D4.out.up hb5)); have D5 := Lib.hid (D4.out.up hb5); clear hb5)
              | (go_at_call 9; (with_reducible refine (awake_any y5).mono ?_); rintro e y6 ⟨rfl, hb6⟩; have E6 := Lib.hid (E5.out.trans (hb6.mono E5.out.size)); have S6 := Lib.hid (c7_of (D5.out.up hb6)); clear hb6))
          go_wp2
          go_ret
          exact ⟨rfl, E6.out⟩

theorem flatStill_wf (t : T) (c : C) (v : Value) (w : World) (hv : v = cval c) (hi : Is w c t) (hs : sz t ≤ 1048576) : Calls Try.prog 7 #[v] w fun e w' => e = .returned (.bool true) ∧ Below w.heap.size w w' := by
  subst hv
  exact flatStill_any t c w hi (by omega)
end Go.Proofs.Ytlpklpkalcgeaaa
