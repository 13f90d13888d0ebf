/- The law CellCounts. -/
import Derived.Test.YtoiologdaflnmaaLeaves
import Derived.Test.YtoiologdaflnmaaDepth
import Derived.Test.YtoiologdaflnmaaAwake
namespace Go.Proofs.Ytoiologdaflnmaa
open Go.RowKit

theorem szL_few {l : List T} {m : Nat} (h : ∀ t ∈ l, sz t ≤ m) : szL l ≤ l.length * m := by
  induction l with
  | nil => simp [szL]
  | cons t l ih =>
    have h1 := h t (List.mem_cons_self ..)
    have h2 := ih fun u hu => h u (List.mem_cons_of_mem _ hu)
    simp only [szL, List.length_cons, Nat.add_mul, Nat.one_mul]; omega
theorem idsL_step {l : List T} {k : Nat} {t : T} (h : l[k]? = some t) : idsL (l.take (k + 1)) = idsL (l.take k) ++ idsT t := by
  unfold idsL idsT
  rw [preL_step h, List.filter_append, List.map_append]
theorem idsL_len (l : List T) : (idsL l).length ≤ szL l := by
  unfold idsL
  rw [List.length_map, ← preL_len]
  exact List.length_filter_le _ _
theorem idsT_len (t : T) : (idsT t).length ≤ sz t := by
  unfold idsT
  rw [List.length_map, ← preT_len]
  exact List.length_filter_le _ _
abbrev CellsAt (W : World) (b o : Nat) (c : C) : Prop := W.cell? ⟨b, o, none⟩ = some (.int .u8 c.k) ∧ W.cell? ⟨b, o + 1, none⟩ = some (.int .i64 c.r.x) ∧ W.cell? ⟨b, o + 2, none⟩ = some (.int .i64 c.r.y) ∧ W.cell? ⟨b, o + 3, none⟩ = some (.int .i64 c.r.w) ∧ W.cell? ⟨b, o + 4, none⟩ = some (.int .i64 c.r.h) ∧ W.cell? ⟨b, o + 5, none⟩ = some (.int .i64 c.id) ∧ W.cell? ⟨b, o + 6, none⟩ = some (.slice c.a c.n c.cap)
theorem cells_of {W : World} {b o : Nat} {c : C} (h : CAt W b o c) : CellsAt W b o c := h
theorem cells_up {W W' : World} {b o : Nat} {c : C} (h : CellsAt W b o c) (hb : Below W.heap.size W W') : CellsAt W' b o c := CAt.up (show CAt W b o c from h) hb
theorem eqI_self (p : List Int) : eqI p p = true := by simp [eqI]

set_option maxRecDepth 100000 in
set_option maxHeartbeats 4000000 in
theorem cellCounts_any (v : Value) (l : List T) (w : World) (hr : TRow w v l) (hs : szL l ≤ 1099511627776) : Calls Try.prog 4 #[v] w fun e w' => e = .returned (.bool true) ∧ Below w.heap.size w w' := by
  have HGR := Lib.hid (greatAll_any v l w hr)
  have HR := Lib.hid hr
  have HS := Lib.hid hs
  obtain ⟨a, cap, rfl⟩ := hr.shape
  clear hr hs
  go_enter Try.func4, Try.ntmps4
  go_wp2_with fail
  refine HGR.out.mono ?_
  rintro e w1 ⟨g, rfl, hg, hb1⟩
  have B1 := Lib.hid hb1
  have HF := Lib.hid hg
  clear hb1 hg
  cases g with
  | true =>
    go_wp2_with fail
    refine (awake_any w1).mono ?_
    rintro e w2 ⟨rfl, hb2⟩
    have B2 := Lib.hid (B1.out.trans (hb2.mono B1.out.size))
    clear hb2
    go_wp2
    go_ret
    exact ⟨rfl, B2.out⟩
  | false =>
    obtain ⟨h20, h200⟩ := HF.out rfl HS.out
    have HSM := Lib.hid h200
    have hsz : szL l ≤ 4000 := by
      have := szL_few h200
      have : l.length * 200 ≤ 20 * 200 := Nat.mul_le_mul_right _ h20
      omega
    have HSZ := Lib.hid hsz
    clear h200 hsz
    have HE := Lib.hid (OwnI.empty w1 w1.heap.size (Nat.le_refl _))
    go_wp2
    go_loopg [3, 4, 5] (l.length + 1) (fun g n v i wr => ∃ (k : Nat), g + k = l.length + 1 ∧ k ≤ l.length ∧ i = .int .i64 k ∧ n = .int .i64 ((szL (l.take k) : Nat) : Int) ∧ OwnI wr w1.heap.size v (idsL (l.take k)) ∧ Below w1.heap.size w1 wr)
    case atStart => exact ⟨0, by omega, by omega, rfl, by simp [szL], by simpa [idsL, preL] using HE.out, (Below.refl _ _).alloc (Nat.le_refl _) _⟩
    case round =>
      obtain ⟨k, hg, hk, rfl, rfl, hown, hb⟩ := hrel
      have HG := Lib.hid hg
      have HO := Lib.hid hown
      have HB := Lib.hid hb
      clear hg hown hb
      have HB0 := Lib.hid (B1.out.trans (HB.out.mono B1.out.size))
      have hnk : szL (l.take k) ≤ 4000 := Nat.le_trans (szL_take_le l k) HSZ.out
      by_cases hlt : k < l.length
      · have hlti : (k : Int) < (l.length : Int) := by omega
        obtain ⟨b, o, rfl, hf⟩ := HR.out.place (by omega)
        obtain ⟨u, hu⟩ : ∃ u, l[k]? = some u := ⟨_, List.getElem?_eq_getElem hlt⟩
        obtain ⟨x, hx, hix⟩ := hf k u hu
        clear hf
        have hum : sz u ≤ 200 := HSM.out u (List.mem_of_getElem? hu)
        have HX := Lib.hid hx
        have HIX := Lib.hid hix
        have HSS := Lib.hid (szL_take_succ hu)
        have HIS := Lib.hid (idsL_step hu)
        have hnk1 : szL (l.take (k + 1)) ≤ 4000 := Nat.le_trans (szL_take_le l (k + 1)) HSZ.out
        have hnu : szL (l.take k) + sz u ≤ 4000 := by rw [← szL_take_succ hu]; exact hnk1
        clear hx hix hu hnk1
        obtain ⟨c0, c1, c2, c3, c4, c5, c6⟩ := HX.out.up HB0.out
        have HK := Lib.hid (rall_any wr (sz u) u x wr (Nat.le_refl _) (by omega) (HIX.out.up HB0.out) (Below.refl _ _))
        generalize hn0 : szL (l.take k) = n0 at hnu ⊢
        have HN0 := Lib.hid hn0
        clear hn0 hnk
        go_wp2_with fail
        refine HK.out.mono ?_
        rintro e w2 ⟨v2, ds, rfl, hown2, htops2, hb2⟩
        obtain ⟨a2, cap2, rfl⟩ := hown2.row.shape
        have HDS := Lib.hid (show ds.length = sz u by rw [htops2.1, preT_len])
        have HB2 := Lib.hid (HB.out.trans (hb2.mono HB.out.size))
        have HB20 := Lib.hid (HB0.out.trans (hb2.mono HB0.out.size))
        have HO2 := Lib.hid (HO.out.up hb2)
        clear hown2 htops2 hb2 c0 c1 c2 c3 c4 c5 c6
        rw [HDS.out]
        obtain ⟨c0, c1, c2, c3, c4, c5, c6⟩ := HX.out.up HB20.out
        have HK2 := Lib.hid (rids_any u x w2 (by omega) (HIX.out.up HB20.out))
        go_wp2_with fail
        refine HK2.out.mono ?_
        rintro e w3 ⟨v3, rfl, hown3, hb3⟩
        have HROW3 := Lib.hid hown3.row
        obtain ⟨a3, cap3, rfl⟩ := row_shape hown3.row
        have HB3 := Lib.hid (HB2.out.trans (hb3.mono HB2.out.size))
        have HO3 : Hid (w3.ownsRow w1.heap.size 3 1 u4 (ints (idsL (l.take k))).length (ints (idsL (l.take k)))) := Lib.hid (by rw [ints_length]; exact HO2.out.up hb3)
        clear hown3 hb3 c0 c1 c2 c3 c4 c5 c6
        have HLN : Hid ((ints (idsL (l.take k))).length + (ints (idsT u)).length ≤ 1000000) := Lib.hid (by
          rw [ints_length, ints_length]
          have h1 := idsL_len (l.take k)
          have h2 := idsT_len u
          have h3 := HN0.out
          omega)
        go_wp2_with (at_builtin; refine wpList_append_row2 rfl _ _ 31 rfl w1.heap.size 3 (.int .i64 0) 8 Try.underlying31 infoI rfl u4 _ (ints (idsL (l.take k))) (ints (idsT u)) rfl HO3.out rfl HROW3.out (ints_one _) HLN.out (by decide) w1 HB3.out (Nat.le_refl _) ?_; intro v4 w4 hown4 hb4 hgr4)
        have HO4 : Hid (OwnI w4 w1.heap.size v4 (idsL (l.take (k + 1)))) := Lib.hid (by
          rw [HIS.out, OwnI, ints_append]
          have := hown4
          simpa [ints_length] using this)
        have HB4 := Lib.hid hb4.drew
        have HB40 := Lib.hid (B1.out.trans (HB4.out.mono B1.out.size))
        have HO4d : Hid (OwnI w4.drew w1.heap.size v4 (idsL (l.take (k + 1)))) := HO4.out
        have S4 := Lib.hid (cells_of (HX.out.up HB40.out))
        clear hown4 hb4 hgr4
        have hneq : (((depthT u : Nat) : Int) != ((depthT u : Nat) : Int)) = false := by simp
        go_region_held3 (fun W => W.cell? ⟨b, o + k * 7, none⟩ = some (.int .u8 x.k) ∧ W.cell? ⟨b, o + k * 7 + 1, none⟩ = some (.int .i64 x.r.x) ∧ W.cell? ⟨b, o + k * 7 + 2, none⟩ = some (.int .i64 x.r.y) ∧ W.cell? ⟨b, o + k * 7 + 3, none⟩ = some (.int .i64 x.r.w) ∧ W.cell? ⟨b, o + k * 7 + 4, none⟩ = some (.int .i64 x.r.h) ∧ W.cell? ⟨b, o + k * 7 + 5, none⟩ = some (.int .i64 x.id) ∧ W.cell? ⟨b, o + k * 7 + 6, none⟩ = some (.slice x.a x.n x.cap)) (first | with_reducible exact S4.out | with_reducible exact S5.out | with_reducible exact S6.out)
          (first
            | (go_at_call 14; (with_reducible refine (depth_any (sz u) u x w4.drew (Nat.le_refl _) (by omega) (HIX.out.up HB40.out)).mono ?_); rintro e w5 ⟨rfl, hb5⟩; have B5 := Lib.hid (HB4.out.trans (hb5.mono HB4.out.size)); have B50 := Lib.hid (HB40.out.trans (hb5.mono HB40.out.size)); have S5 := Lib.hid (cells_up S4.out hb5); have O5 := Lib.hid (HO4d.out.up hb5); clear hb5)
            | (go_at_call 15; (with_reducible refine (rdepth_any (sz u) u x w5 (Nat.le_refl _) (by omega) (HIX.out.up B50.out)).mono ?_); rintro e w6 ⟨rfl, hb6⟩; have B6 := Lib.hid (B5.out.trans (hb6.mono B5.out.size)); have S6 := Lib.hid (cells_up S5.out hb6); have O6 := Lib.hid (O5.out.up hb6); clear hb6))
        go_wp2
        go_roundg (gk - 1)
        case measure => have := HG.out; omega
        case rel =>
          refine ⟨k + 1, by have := HG.out; omega, by omega, by go_num, ?_, O6.out, B6.out⟩
          rw [HSS.out, HN0.out]; go_num
      · obtain rfl : k = l.length := by omega
        have hkl : ((l.length : Int) < (l.length : Int)) = False := by simp
        rw [List.take_length] at HO hnk ⊢
        have HZ := Lib.hid (size_any _ l wr (HR.out.up HB0.out) (by omega))
        have hwr : wrap64 ((szL l : Nat) : Int) = (szL l : Nat) := wrap_small (by omega)
        rw [hwr] at HZ
        clear hwr
        have HLV := Lib.hid (fun W (h : Below w.heap.size w W) => leaves_any _ l W (HR.out.up h) (by omega))
        generalize szL l = n0 at HZ hnk ⊢
        generalize hid0 : idsL l = ids at HO HLV
        have hil : ids.length ≤ 1000000 := by rw [← hid0]; have := idsL_len l; have := HSZ.out; omega
        clear hid0
        have HIL := Lib.hid hil
        clear hil
        go_wp2_with fail
        refine HZ.out.mono ?_
        rintro e w2 ⟨rfl, hb2⟩
        have HB2 := Lib.hid (HB0.out.trans (hb2.mono HB0.out.size))
        have HO2 := Lib.hid (HO.out.up hb2)
        clear hb2
        go_wp2_with fail
        refine (HLV.out w2 HB2.out).mono ?_
        rintro e w3 ⟨v3, rfl, hr3, hb3⟩
        have HB3 := Lib.hid (HB2.out.trans (hb3.mono HB2.out.size))
        have HO3 := Lib.hid (HO2.out.up hb3)
        have HR3 := Lib.hid hr3
        obtain ⟨a3, cap3, rfl⟩ := row_shape hr3
        clear hb3 hr3
        have HQ := Lib.hid (ints_any _ _ ids ids w3 HR3.out HO3.out.row HIL.out)
        rw [eqI_self] at HQ
        go_wp2_with fail
        refine HQ.out.mono ?_
        rintro e w4 ⟨rfl, hb4⟩
        have HB4 := Lib.hid (HB3.out.trans (hb4.mono HB3.out.size))
        clear hb4
        go_wp2_with fail
        refine (awake_any w4).mono ?_
        rintro e w5 ⟨rfl, hb5⟩
        have HB5 := Lib.hid (HB4.out.trans (hb5.mono HB4.out.size))
        clear hb5
        go_wp2
        go_ret
        exact ⟨rfl, HB5.out⟩

theorem cellCounts_wf (v : Value) (l : List T) (w : World) (hr : TRow w v l) (hs : szL l ≤ 1048576) : Calls Try.prog 4 #[v] w fun e w' => e = .returned (.bool true) ∧ Below w.heap.size w w' :=
  cellCounts_any v l w hr (by omega)
end Go.Proofs.Ytoiologdaflnmaa
