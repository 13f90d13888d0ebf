/- The law TileWhole. -/
import Derived.Test.YtibjpkicchdomaaRAp
import Derived.Deep.RegionHeld3
import Derived.StillTailTactics
namespace Go.Proofs.Ytibjpkicchdomaa
open Go.RowKit

set_option maxRecDepth 100000 in
set_option maxHeartbeats 800000 in
/-- The leaves' rectangles: the document's answer. -/
theorem rrects_any (t : T) (c : C) (w : World) (hi : Is w c t) (hs : sz t ≤ 999) : Calls Try.prog 18 #[cval c] w fun e w' => ∃ v, e = .returned v ∧ RRow w' v (leafR (preT t)) ∧ Below w.heap.size w w' := by
  have HA : Hid (Below w.heap.size w ((w.alloc (cbox c)).alloc (.cells #[] 23))) := ((Below.refl _ _).alloc (Nat.le_refl _) _).alloc (by simp) _
  have HC := Lib.hid ((cbox_new w c).up ((Below.refl _ _).alloc (Nat.le_refl _) (.cells #[] 23)))
  have HO := Lib.hid (Owns.empty (w.alloc (cbox c)) (w.heap.size + 1) (by simp))
  have HL := Lib.hid (rleaves_any w t c ((w.alloc (cbox c)).alloc (.cells #[] 23)) (by omega) hi HA.out)
  have HS := Lib.hid hs
  have HE : Hid (w.heap.size + 1 ≤ ((w.alloc (cbox c)).alloc (.cells #[] 23)).heap.size) := Lib.hid (by simp)
  have hle : leafR (preT t) = ((preT t).filter leafB).map T.r := rfl
  rw [hle]
  generalize hlv : (preT t).filter leafB = lv at HL ⊢
  have HLN : Hid (lv.length ≤ 999) := Lib.hid (by
    have := List.length_filter_le leafB (preT t)
    rw [hlv, preT_len] at this
    omega)
  clear hi hs hle hlv
  go_enter Try.func18, Try.ntmps18
  go_wp2_with fail
  refine HL.out.mono ?_
  rintro e w3 ⟨vl, al, rfl, howl, htl, hb3⟩
  have HTP := Lib.hid htl
  have HALN : Hid (al.length = lv.length) := Lib.hid htl.1
  have HOWL := Lib.hid howl
  obtain ⟨aa, capl, rfl⟩ := howl.row.shape
  have HB3 := Lib.hid (HA.out.trans (hb3.mono HA.out.size))
  have HO3 := Lib.hid (HO.out.up hb3)
  have hsz3 : w.heap.size + 2 ≤ w3.heap.size := by have := hb3.size; simpa using this
  have hall : al.length ≤ 999 := by have := HALN.out; have := HLN.out; omega
  clear hb3 howl htl
  go_wp2
  go_loopg [3, 11] (al.length + 1) (fun g v i wr => ∃ k : Nat, g + k = al.length + 1 ∧ k ≤ al.length ∧ i = .int .i64 k ∧ Owns wr (w.heap.size + 1) v ((lv.take k).map T.r) ∧ OwnLater w3 (w.heap.size + 1) v ∧ w3.grownBy wr (some (w.heap.size + 1)))
  case atStart => exact ⟨0, by omega, by omega, rfl, by simpa using HO3.out, .inl rfl, World.grownBy.refl _ _⟩
  case round =>
    obtain ⟨k, hg, hk, rfl, hown, hlat, hgr⟩ := hrel
    have HG := Lib.hid hg
    have HOW := Lib.hid hown
    have HLT := Lib.hid hlat
    have HGR := Lib.hid hgr
    clear hg hown hlat hgr
    by_cases hlt : k < al.length
    · obtain ⟨z, u, hz, hu, hzu⟩ := HTP.out.at hlt
      obtain ⟨gl, capl', hvl, hgl, hgl2⟩ := HOWL.out.form (by omega)
      have haa : aa = some ⟨gl, 0, none⟩ := by injection hvl
      subst haa
      have hgl' : w.heap.size + 2 ≤ gl := by simpa using hgl
      obtain ⟨-, c1, c2, c3, c4, -, -⟩ := (cat_of_flat (HOWL.out.cells (g := gl) rfl) k z hz).grown HGR.out (by intro e; cases e; omega)
      have hur : u.r = z.r := hzu.split.2.1
      have hki : (k : Int) < (al.length : Int) := by omega
      have HST : Hid ((lv.take (k + 1)).map T.r = (lv.take k).map T.r ++ [z.r]) := Lib.hid (by rw [List.take_add_one, hu]; simp [hur])
      have HLE : Hid (((lv.take k).map T.r).length + [z.r].length ≤ 1000000) := Lib.hid (by simp; omega)
      have hsr : w.heap.size + 1 ≤ wr.heap.size := by have := HGR.out.size; omega
      have HUP := Lib.hid (HOW.out.up ((Below.refl _ _).alloc (Nat.le_refl _) (box z.r)))
      have HAB : Hid (Below (w.heap.size + 1) wr (wr.alloc (box z.r))) := (Below.refl _ _).alloc hsr _
      have HSR := Lib.hid hsr
      clear hz hu hzu hvl hgl hur hsr
      go_wp2_with (at_builtin; refine wpList_append_rects rfl _ _ rfl (w.heap.size + 1) u3 _ _ [z.r] rfl HUP.out rfl (rrow_one wr z.r) HLE.out wr HAB.out HSR.out ?_)
      intro v6 w6 ho6 hb6 hg6 hpl6
      have HO6 := Lib.hid ho6
      have HG6 := Lib.hid (later_gb (by omega) HLT.out (gb_alloc HGR.out (box z.r)) hg6)
      have HL6 : Hid (OwnLater w3 (w.heap.size + 1) v6) := Lib.hid (by
        rcases hpl6 with h | h
        · rcases HLT.out with h2 | ⟨y, h2, h3⟩
          · exact .inl (h.trans h2)
          · exact .inr ⟨y, h.trans h2, h3⟩
        · exact .inr ⟨_, h, by have := HGR.out.size; simp; omega⟩)
      clear ho6 hb6 hg6 hpl6 c1 c2 c3 c4
      go_wp2
      go_roundg (gk - 1)
      case measure => have := HG.out; omega
      case rel => exact ⟨k + 1, by have := HG.out; omega, by omega, by go_num, by rw [HST.out]; simpa [List.map_take] using HO6.out, HL6.out, HG6.out⟩
    · obtain rfl : k = al.length := by omega
      have hkl : ((al.length : Int) < (al.length : Int)) = False := by simp
      have HOE : Hid (RRow wr u3 (lv.map T.r)) := Lib.hid (by
        have h := HOW.out.row
        rw [List.take_of_length_le (by rw [HALN.out]; exact Nat.le_refl _)] at h
        exact h)
      go_wp2
      go_ret
      refine ⟨_, rfl, HOE.out, ?_⟩
      exact HB3.out.trans ⟨HGR.out.os, HGR.out.tape, HGR.out.output, HGR.out.size, fun j hj => HGR.out.block j (by omega) (by intro e; cases e; omega)⟩

theorem leaf_lines {l : List T} (h : ∀ u ∈ l, (leafR (preT u)).length = (allLines (preT u)).length + 1) : (leafR (preL l)).length = (allLines (preL l)).length + l.length := by
  induction l with
  | nil => simp [preL, leafR, allLines]
  | cons t l ih =>
    rw [preL, leafR_append, allLines_append, List.length_append, List.length_append, h t (List.mem_cons_self ..), ih fun u hu => h u (List.mem_cons_of_mem _ hu), List.length_cons]
    omega
theorem count_tree (N : Nat) : ∀ t : T, sz t ≤ N → (∀ u ∈ preT t, wellT u = true) → (leafR (preT t)).length = (allLines (preT t)).length + 1 := by
  induction N with
  | zero => intro t h; have := sz_pos t; omega
  | succ N ih =>
    intro t hN hall
    have hw := hall t (by rw [preT_eq]; exact List.mem_cons_self ..)
    unfold wellT wellB at hw
    simp only [Bool.and_eq_true, Bool.or_eq_true, decide_eq_true_eq] at hw
    rw [preT_eq]
    by_cases h1 : t.k = 1
    · have hk : t.kids = [] := List.length_eq_zero_iff.1 (by omega)
      rw [hk]
      have hl : leafB t = true := by simp [leafB, h1]
      have e1 : leafR (t :: preL []) = [t.r] := by simp [leafR, preL, hl]
      have e2 : allLines (t :: preL []) = [] := by simp [allLines, preL, linesT, h1]
      rw [e1, e2]; rfl
    · have hl : leafB t = false := by simp [leafB, h1]
      have e1 : leafR (t :: preL t.kids) = leafR (preL t.kids) := by simp [leafR, hl]
      have e2 : allLines (t :: preL t.kids) = linesT t ++ allLines (preL t.kids) := by simp [allLines]
      have e3 : (linesT t).length = t.kids.length - 1 := by
        unfold linesT
        rw [if_neg h1]
        simp only [cutLines]
        split <;> rw [linesL_length, sizes_len]
      have h4 := leaf_lines (l := t.kids) fun u hu => by
        obtain ⟨k, hk⟩ := List.getElem?_of_mem hu
        have hs := sz_kid hk
        exact ih u (by omega) fun v hv => hall v ((pre_sub hk).mem hv)
      rw [e1, e2, List.length_append, e3, h4]
      omega
theorem count_tile {t : T} (hs : sz t ≤ 999) (ht : tileB t = true) : (leafR (preT t)).length = (allLines (preT t)).length + 1 := by
  unfold tileB at ht
  rw [may_is (by omega)] at ht
  unfold rmayT at ht
  simp only [Bool.and_eq_true] at ht
  exact count_tree (sz t) t (Nat.le_refl _) fun u hu => List.all_eq_true.1 ht.1.1 u hu
theorem leafR_len (t : T) : (leafR (preT t)).length ≤ sz t := by
  unfold leafR
  rw [List.length_map]
  have := List.length_filter_le leafB (preT t)
  rw [preT_len] at this
  exact this
theorem area_fold (l : List R) : ∀ a : Int, l.foldl (fun n r => n + oneR r) a = a + (l.map oneR).sum := by
  induction l with
  | nil => intro a; simp
  | cons q l ih => intro a; rw [List.foldl_cons, ih, List.map_cons, List.sum_cons]; omega
theorem area_is {l : List R} (h : ∀ q ∈ l, mayB q = true) : areaL l = areaS l := by
  unfold areaL areaS
  rw [area_fold, Int.zero_add]
  congr 1
  exact List.map_congr_left fun q hq => oneR_yes (h q hq)
theorem whole_may {r : R} {l : List R} (h : Whole r l) : ∀ q ∈ l, mayB q = true := fun q hq => ((ins_iff r q).1 (h.ins q hq)).2.1
theorem whole_apart {r : R} {l : List R} (h : Whole r l) : apartB l = true := by
  unfold apartB
  rw [Bool.and_eq_true, decide_eq_true_eq]
  exact ⟨List.all_eq_true.2 (whole_may h), h.apart⟩
theorem whole_area {r : R} {l : List R} (hm : mayB r = true) (h : Whole r l) : areaL l = areaL [r] := by
  rw [area_is (whole_may h), h.area, area_is (l := [r]) (fun q hq => by simp at hq; subst hq; exact hm)]
  simp [areaS]

abbrev Four (b : Nat) (r : R) (W : World) : Prop := W.cell? ⟨b, 1, none⟩ = some (.int .i64 r.x) ∧ W.cell? ⟨b, 2, none⟩ = some (.int .i64 r.y) ∧ W.cell? ⟨b, 3, none⟩ = some (.int .i64 r.w) ∧ W.cell? ⟨b, 4, none⟩ = some (.int .i64 r.h)
theorem four_of {W : World} {b : Nat} {c : C} (h : CAt W b 0 c) : Four b c.r W := by
  obtain ⟨c0, c1, c2, c3, c4, c5, c6⟩ := h
  simp only [Nat.zero_add] at c1 c2 c3 c4 c5 c6
  exact ⟨c1, c2, c3, c4⟩
theorem four_alloc {W : World} {b : Nat} {r : R} (o : Obj) (h : Four b r W) : Four b r (W.alloc o) := ⟨Lib.cell?_alloc_some o h.1, Lib.cell?_alloc_some o h.2.1, Lib.cell?_alloc_some o h.2.2.1, Lib.cell?_alloc_some o h.2.2.2⟩
theorem four_up {W W' : World} {b : Nat} {r : R} (h : Four b r W) (hb : Below W.heap.size W W') : Four b r W' := ⟨(hb.cell (lt_of_cell h.1)).trans h.1, (hb.cell (lt_of_cell h.2.1)).trans h.2.1, (hb.cell (lt_of_cell h.2.2.1)).trans h.2.2.1, (hb.cell (lt_of_cell h.2.2.2)).trans h.2.2.2⟩

set_option maxRecDepth 100000 in
set_option maxHeartbeats 4000000 in
theorem tileWhole_any (t : T) (c : C) (w : World) (hi : Is w c t) : Calls Try.prog 5 #[cval c] w fun e w' => e = .returned (.bool true) ∧ Below w.heap.size w w' := by
  have HA : Hid (Below w.heap.size w (w.alloc (cbox c))) := (Below.refl _ _).alloc (Nat.le_refl _) _
  have HC := Lib.hid (cbox_new w c)
  have HG := Lib.hid (great_any t c (w.alloc (cbox c)) (hi.up HA.out))
  have HI := Lib.hid hi
  clear hi
  go_enter Try.func5, Try.ntmps5
  go_wp2_with fail
  refine HG.out.mono ?_
  rintro e w1 ⟨g, rfl, hg, hb1⟩
  have B1 := Lib.hid (HA.out.trans (hb1.mono HA.out.size))
  have C1 := Lib.hid (HC.out.up hb1)
  have HF := Lib.hid hg
  clear hb1 hg
  cases g with
  | true =>
    go_wp2_with fail
    refine (awake6_any w1).mono ?_
    rintro e w2 ⟨rfl, hb2⟩
    have B2 := Lib.hid (B1.out.trans (hb2.mono B1.out.size))
    clear hb2
    go_wp2
    go_ret
    exact ⟨rfl, B2.out⟩
  | false =>
    have HSZ0 : Hid (mayT t = true → sz t ≤ 999) := Lib.hid fun hm => Nat.le_trans (HF.out rfl (by have := may_small hm; omega)) (by decide)
    obtain ⟨c0, c1, c2, c3, c4, c5, c6⟩ := C1.out
    simp only [Nat.zero_add] at c1 c2 c3 c4 c5 c6
    have HT := Lib.hid (tilesOne_any t c w1 (HI.out.up B1.out) HSZ0.out w1.heap.size rfl)
    cases ht : tileB t with
    | false =>
      rw [ht] at HT
      clear ht
      go_wp2_with fail
      refine HT.out.mono ?_
      rintro e w2 ⟨rfl, hb2⟩
      have B2 := Lib.hid (B1.out.trans (hb2.mono B1.out.size))
      clear hb2 c0 c1 c2 c3 c4 c5 c6
      go_wp2_with fail
      refine (awake6_any w2).mono ?_
      rintro e w3 ⟨rfl, hb3⟩
      have B3 := Lib.hid (B2.out.trans (hb3.mono B2.out.size))
      clear hb3
      go_wp2
      go_ret
      exact ⟨rfl, B3.out⟩
    | true =>
      rw [ht] at HT
      have HSZ := Lib.hid (HSZ0.out (tile_may ht))
      have hcr : t.r = c.r := HI.out.split.2.1
      have HWH := Lib.hid (whole_tile HSZ.out ht)
      have HCN := Lib.hid (count_tile HSZ.out ht)
      have HMR : Hid (mayB t.r = true) := Lib.hid (by
        have := (tile_top HSZ.out ht).1
        unfold wellT wellB at this
        simp only [Bool.and_eq_true] at this
        exact this.1)
      have HLL : Hid ((leafR (preT t)).length ≤ 999) := Lib.hid (Nat.le_trans (leafR_len t) HSZ.out)
      have HRR := Lib.hid (fun W (h : Below w.heap.size w W) => rrects_any t c W (HI.out.up h) HSZ.out)
      have HLI := Lib.hid (fun W (h : Below w.heap.size w W) => lines_any t c W (HI.out.up h) HSZ.out)
      rw [ht] at HLI
      have hli : linesIf t true = allLines (preT t) := rfl
      rw [hli] at HLI
      rw [hcr] at HWH HMR
      generalize leafR (preT t) = lf at HWH HCN HLL HRR
      generalize allLines (preT t) = ln at HWH HCN HLI
      have HRF := Lib.hid HI.out.fine.2.1
      clear ht hli hcr
      go_wp2_with fail
      refine HT.out.mono ?_
      rintro e w2 ⟨rfl, hb2⟩
      have B2 := Lib.hid (B1.out.trans (hb2.mono B1.out.size))
      have C2 := Lib.hid (C1.out.up hb2)
      clear hb2 c0 c1 c2 c3 c4 c5 c6
      obtain ⟨c0, c1, c2, c3, c4, c5, c6⟩ := C2.out
      simp only [Nat.zero_add] at c1 c2 c3 c4 c5 c6
      go_wp2_with fail
      refine (HRR.out w2 B2.out).mono ?_
      rintro e w3 ⟨v3, rfl, hr3, hb3⟩
      have B3 := Lib.hid (B2.out.trans (hb3.mono B2.out.size))
      have C3 := Lib.hid (C2.out.up hb3)
      have R3 := Lib.hid hr3
      obtain ⟨a3, cap3, rfl⟩ := hr3.shape
      clear hb3 hr3 c0 c1 c2 c3 c4 c5 c6
      obtain ⟨c0, c1, c2, c3, c4, c5, c6⟩ := C3.out
      simp only [Nat.zero_add] at c1 c2 c3 c4 c5 c6
      go_wp2_with fail
      refine (HLI.out w3 B3.out).mono ?_
      rintro e w4 ⟨v4, rfl, hr4, hb4⟩
      have B4 := Lib.hid (B3.out.trans (hb4.mono B3.out.size))
      have C4 := Lib.hid (C3.out.up hb4)
      have R34 := Lib.hid (R3.out.up hb4)
      have R4 := Lib.hid hr4
      obtain ⟨a4, cap4, rfl⟩ := hr4.shape
      have A5 : Hid (Below w4.heap.size w4 (w4.alloc (.cells #[] 23))) := (Below.refl _ _).alloc (Nat.le_refl _) _
      have O5 := Lib.hid (Owns.empty w4 w4.heap.size (Nat.le_refl _))
      have R35 := Lib.hid (R34.out.up A5.out)
      clear hb4 hr4 c0 c1 c2 c3 c4 c5 c6
      go_wp2_with (at_builtin; refine wpList_append_rects rfl _ _ rfl w4.heap.size _ _ [] lf rfl O5.out rfl R35.out (by have := HLL.out; simp; omega) w4 A5.out (Nat.le_refl _) ?_)
      intro v6 w6 ho6 hb6 _ _
      have O6 := Lib.hid ho6
      have B46 := Lib.hid hb6
      have R46 := Lib.hid (R4.out.up hb6)
      clear ho6 hb6
      go_wp2_with (at_builtin; refine wpList_append_rects rfl _ _ rfl w4.heap.size v6 _ _ ln rfl O6.out rfl R46.out (by have := HLL.out; have := HCN.out; simp; omega) w4 B46.out (Nat.le_refl _) ?_)
      intro v7 w7 ho7 hb7 _ _
      have B47 := Lib.hid hb7
      have R7 : Hid (RRow w7 v7 (lf ++ ln)) := Lib.hid (by simpa using ho7.row)
      have C7 := Lib.hid (C4.out.up hb7)
      have B7 := Lib.hid (B4.out.trans (hb7.mono B4.out.size))
      obtain ⟨a7, cap7, hv7⟩ := R7.out.shape
      subst hv7
      clear ho7 hb7
      have HFA : Hid (fitsAll (lf ++ ln)) := Lib.hid (whole_fits HWH.out)
      have HLA : Hid ((lf ++ ln).length ≤ 2000) := Lib.hid (by have := HLL.out; have := HCN.out; rw [List.length_append]; omega)
      have HIN : Hid (∀ q ∈ lf ++ ln, insB c.r q = true) := Lib.hid HWH.out.ins
      have HAP := Lib.hid (whole_apart HWH.out)
      have HAR := Lib.hid (whole_area HMR.out HWH.out)
      have HSW : Hid (IntKind.i64.wrap ((lf.length : Int) - 1) = (ln.length : Int)) := Lib.hid (by have := HLL.out; have := HCN.out; rw [wrap_id (by omega)]; omega)
      generalize hL : lf ++ ln = L at R7 HFA HLA HIN HAP HAR
      have hll := HLA.out
      clear hL
      go_wp2
      go_loopg [6] (L.length + 1) (fun g i wr => ∃ k : Nat, g + k = L.length + 1 ∧ k ≤ L.length ∧ i = .int .i64 k ∧ Below w7.heap.size w7 wr)
      case atStart => exact ⟨0, by omega, by omega, rfl, Below.refl _ _⟩
      case round =>
        obtain ⟨k, hg, hk, rfl, hb⟩ := hrel
        have HGK := Lib.hid hg
        have HB := Lib.hid hb
        clear hg hb
        have BW := Lib.hid (B7.out.trans (HB.out.mono B7.out.size))
        have C8 := Lib.hid (C7.out.up HB.out)
        by_cases hlt : k < L.length
        · obtain ⟨q, hq⟩ : ∃ q, L[k]? = some q := ⟨_, List.getElem?_eq_getElem hlt⟩
          obtain ⟨b, o, ha, hf⟩ := R7.out.place (by omega)
          subst ha
          have hqm := List.mem_of_getElem? hq
          obtain ⟨e0, e1, e2, e3⟩ := (hf k q hq).up HB.out
          obtain ⟨x1, x2, x3, x4⟩ := four_of C8.out
          have HRI := Lib.hid (fun W => rins_any c.r q W HRF.out (HFA.out q hqm))
          rw [HIN.out q hqm] at HRI
          have hki : (k : Int) < (L.length : Int) := by omega
          have BD := Lib.hid HB.out.drew
          clear hf hq hqm
          go_wp2
          go_still_tail 6, (by kernel_rfl)
          change wpList _ _ _ _ _ wr.drew
          generalize wr.drew = w8 at BD ⊢
          clear e0 e1 e2 e3 x1 x2 x3 x4
          go_wp2_with fail
          refine (HRI.out w8).mono ?_
          rintro e w9 ⟨rfl, hb9⟩
          have HB9 := Lib.hid (BD.out.trans (hb9.mono BD.out.size))
          clear hb9
          go_wp2
          go_roundg (gk - 1)
          case measure => have := HGK.out; omega
          case rel => exact ⟨k + 1, by have := HGK.out; omega, by omega, by go_num, HB9.out⟩
        · obtain rfl : k = L.length := by omega
          have hkl : ((L.length : Int) < (L.length : Int)) = False := by simp
          have BD := Lib.hid BW.out.drew
          have R8 := Lib.hid (R7.out.up HB.out.drew)
          have S0 := Lib.hid (four_of (C7.out.up HB.out.drew))
          have sw := HSW.out
          have hbb : ((ln.length : Int) == (ln.length : Int)) = true := by simp
          have HAP1 := Lib.hid (raparts_any _ L wr.drew R8.out (by omega) HFA.out)
          rw [HAP.out] at HAP1
          have HA2 := Lib.hid (fun W (h : RRow W (.slice a7 L.length cap7) L) => rarea_any _ L W h HLA.out HFA.out)
          rw [HAR.out] at HA2
          have HA3 := Lib.hid (fun W v (h : RRow W v [c.r]) => rarea_any v [c.r] W h (by simp) (fun q hq => by simp at hq; subst hq; exact HRF.out))
          obtain ⟨AR, hAR⟩ : ∃ n, areaL [c.r] = n := ⟨_, rfl⟩
          rw [hAR] at HA2 HA3
          have hba : (AR == AR) = true := by simp
          clear hAR
          go_wp2
          go_region_held3 (fun W => W.cell? ⟨w.heap.size, 1, none⟩ = some (.int .i64 c.r.x) ∧ W.cell? ⟨w.heap.size, 2, none⟩ = some (.int .i64 c.r.y) ∧ W.cell? ⟨w.heap.size, 3, none⟩ = some (.int .i64 c.r.w) ∧ W.cell? ⟨w.heap.size, 4, none⟩ = some (.int .i64 c.r.h)) (first | with_reducible exact S0.out | with_reducible exact S1.out | with_reducible exact four_alloc _ S1.out | with_reducible exact S2.out | with_reducible exact four_alloc _ S2.out | with_reducible exact S3.out | with_reducible exact S4.out)
            (first
              | (go_at_call 21
                 (with_reducible refine HAP1.out.mono ?_)
                 rintro e y1 ⟨rfl, hc1⟩
                 have D1 := Lib.hid (BD.out.trans (hc1.mono BD.out.size))
                 have S1 := Lib.hid (four_up S0.out hc1)
                 have Q1 := Lib.hid (R8.out.up hc1)
                 clear hc1)
              | (go_at_call 22
                 (with_reducible refine (HA2.out y1 Q1.out).mono ?_)
                 rintro e y2 ⟨rfl, hc2⟩
                 have D2 := Lib.hid (D1.out.trans (hc2.mono D1.out.size))
                 have S2 := Lib.hid (four_up S1.out hc2)
                 clear hc2)
              | (go_at_call 22
                 (with_reducible refine (HA2.out (y1.alloc (box c.r)) (Q1.out.up ((Below.refl _ _).alloc (Nat.le_refl _) _))).mono ?_)
                 rintro e y2 ⟨rfl, hc2⟩
                 have D2 := Lib.hid ((D1.out.alloc D1.out.size (box c.r)).trans (hc2.mono (by have := D1.out.size; simp; omega)))
                 have S2 := Lib.hid (four_up (four_alloc (box c.r) S1.out) hc2)
                 have Q2 := Lib.hid ((rrow_one y1 c.r).up hc2)
                 clear hc2)
              | (go_at_call 22
                 (with_reducible refine (HA3.out (y2.alloc (box c.r)) _ (rrow_one y2 c.r)).mono ?_)
                 rintro e y3 ⟨rfl, hc3⟩
                 have D3 := Lib.hid ((D2.out.alloc D2.out.size (box c.r)).trans (hc3.mono (by have := D2.out.size; simp; omega)))
                 have S3 := Lib.hid (four_up (four_alloc (box c.r) S2.out) hc3)
                 clear hc3)
              | (go_at_call 22
                 (with_reducible refine (HA3.out y2 _ Q2.out).mono ?_)
                 rintro e y3 ⟨rfl, hc3⟩
                 have D3 := Lib.hid (D2.out.trans (hc3.mono D2.out.size))
                 have S3 := Lib.hid (four_up S2.out hc3)
                 clear hc3)
              | (go_at_call 15
                 (with_reducible refine (awake6_any y3).mono ?_)
                 rintro e y4 ⟨rfl, hc4⟩
                 have D4 := Lib.hid (D3.out.trans (hc4.mono D3.out.size))
                 have S4 := Lib.hid (four_up S3.out hc4)
                 clear hc4))
          all_goals
            go_wp2
            go_ret
            exact ⟨rfl, D4.out⟩

theorem tileWhole_wf (v : Value) (t : T) (c : C) (w : World) (e : v = cval c) (hi : Is w c t) : Calls Try.prog 5 #[v] w fun e w' => e = .returned (.bool true) ∧ Below w.heap.size w w' := by
  subst e
  exact tileWhole_any t c w hi
end Go.Proofs.Ytibjpkicchdomaa
