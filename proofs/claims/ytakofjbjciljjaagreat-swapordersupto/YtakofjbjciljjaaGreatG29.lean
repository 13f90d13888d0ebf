/- Texts of this seat, 3 in one file. -/
import Derived.Test.YtakofjbjciljjaaGreatG28
import Derived.Sort.EveryDepth
import Derived.Sort.OwnSortedInts
import Derived.Test.YtakofjbjciljjaaGreatG26
import Derived.Test.YtakofjbjciljjaaGreatG27
/- The library's sorting of a row of numbers, and whether two rows are equal. -/
namespace Go.Proofs.YtakofjbjciljjaaGreat
open Go.RowKit Go.Sort Go.Shelf

/-- In rising order. -/
def srt (l : List Int) : List Int := l.mergeSort fun x y => decide (x ≤ y)
theorem srt_perm (l : List Int) : (srt l).Perm l := List.mergeSort_perm ..
theorem srt_len (l : List Int) : (srt l).length = l.length := (srt_perm l).length_eq
theorem srt_of_perm {l m : List Int} (h : l.Perm m) : srt l = srt m := by
  have hp : ∀ k : List Int, List.Pairwise (fun a b : Int => a ≤ b) (srt k) := fun k =>
    (List.pairwise_mergeSort (le := fun x y : Int => decide (x ≤ y)) (fun a b c h1 h2 => by simp at h1 h2 ⊢; omega) (fun a b => by simp; omega) k).imp fun h => of_decide_eq_true h
  exact List.Perm.eq_of_pairwise (le := fun a b : Int => a ≤ b) (fun a b _ _ h1 h2 => by omega) (hp l) (hp m) (((srt_perm l).trans h).trans (srt_perm m).symm)
theorem perm_of : ∀ (l ids : List Int), l.Nodup → (∀ x ∈ l, x ∈ ids) → ids.length = l.length → l.Perm ids
  | [], ids, _, _, h => by
    have : ids = [] := List.length_eq_zero_iff.1 h
    subst this; exact List.Perm.refl _
  | x :: l, ids, hn, hs, h => by
    have hx : x ∈ ids := hs x (List.mem_cons_self ..)
    have hp := List.perm_cons_erase hx
    have hnd := List.nodup_cons.1 hn
    have ih := perm_of l (ids.erase x) hnd.2 (fun y hy => (List.mem_erase_of_ne (fun e => hnd.1 (by rw [← e]; exact hy))).2 (hs y (List.mem_cons_of_mem _ hy))) (by rw [List.length_erase_of_mem hx]; simp at h; omega)
    exact (ih.cons x).trans hp.symm
theorem srt_iff {l ids : List Int} (hn : ids.Nodup) (hl : ids.length = l.length) : srt l = srt ids ↔ odP ids l := by
  constructor
  · intro h
    have hp : l.Perm ids := (srt_perm l).symm.trans (by rw [h]; exact srt_perm ids)
    exact ⟨hp.nodup_iff.2 hn, fun x hx => hp.mem_iff.1 hx⟩
  · intro h
    exact srt_of_perm (perm_of l ids h.1 h.2 hl)

theorem sortI_any (blk off cap : Nat) (zs : List Int) (w : World) (hH : Holds (Value.int .i64) w blk off zs.toArray) (hblk : blk < w.heap.size) (hsz : zs.length < 4611686018427387904) :
    Calls Tryz.prog 30 #[.slice (some ⟨blk, off, none⟩) zs.length cap] w fun e w' => e = .returned (.tuple #[]) ∧ ∃ n os, w' = grow (putRow (Value.int .i64) (Sort.ahead w n) blk off (srt zs).toArray) os :=
  calls_of_every_depth fun D => AnySM.slices_Sort_int_in Tryz.sortL D blk off cap zs w hH hblk hsz

theorem values_any (a : Option Addr) (n cap : Nat) (w : World) : Calls Tryz.prog 16 #[.slice a n cap] w fun e w' => e = .returned (.func (.func 31) #[] #[.pointer (some ⟨w.heap.size, 0, none⟩)]) ∧ w' = w.alloc (.cells #[.slice a n cap] 27) := by
  go_enter Tryz.func16, Tryz.ntmps16
  go_wp2
  go_ret
  exact ⟨rfl, rfl⟩

theorem appendI_any (v : Value) (l : List Int) (Bs : Nat) (w : World) (hc : w.cell? ⟨Bs, 0, none⟩ = some v) (hr : Row w v (ints l)) (hp : 0 < l.length) (hl : l.length ≤ 1000000) :
    Calls Tryz.prog 43 #[.slice none 0 0, .func (.func 31) #[] #[.pointer (some ⟨Bs, 0, none⟩)]] w fun e w' => ∃ v, e = .returned v ∧ OwnI w' w.heap.size v l ∧ Below w.heap.size w w' := by
  obtain ⟨a, cap, rfl⟩ := row_shape hr
  obtain ⟨b, o, rfl, hf⟩ := int_at hr hp
  have hcs : ∀ j, j < l.length → w.cell? ⟨b, o + j, none⟩ = some (.int .i64 (l[j]?.getD 0)) := fun j hj => by
    rw [List.getElem?_eq_getElem hj]
    exact hf j _ (List.getElem?_eq_getElem hj)
  exact (callsIn_wide (n := 6)).1 (appendSeq_in Fence.wide 6 trivial trivial rfl (by omega) Bs b o cap l hl w (lt_of_cell hc) (lt_of_cell (hcs 0 hp)) hc hcs)

theorem collectI_any (v : Value) (l : List Int) (Bs : Nat) (w : World) (hc : w.cell? ⟨Bs, 0, none⟩ = some v) (hr : Row w v (ints l)) (hp : 0 < l.length) (hl : l.length ≤ 1000000) :
    Calls Tryz.prog 29 #[.func (.func 31) #[] #[.pointer (some ⟨Bs, 0, none⟩)]] w fun e w' => ∃ v, e = .returned v ∧ OwnI w' w.heap.size v l ∧ Below w.heap.size w w' := by
  have H := Lib.hid (appendI_any v l Bs w hc hr hp hl)
  clear hc hr
  go_enter Tryz.func29, Tryz.ntmps29
  go_wp2_with fail
  refine H.out.mono ?_
  rintro e w2 ⟨v2, rfl, ho, hb⟩
  have HO := Lib.hid ho
  have HB := Lib.hid hb
  clear ho hb
  go_wp2
  go_ret
  exact ⟨_, rfl, HO.out, HB.out⟩

theorem sortedI_any (v : Value) (l : List Int) (Bs : Nat) (w : World) (hc : w.cell? ⟨Bs, 0, none⟩ = some v) (hr : Row w v (ints l)) (hp : 0 < l.length) (hl : l.length ≤ 1000000) :
    Calls Tryz.prog 15 #[.func (.func 31) #[] #[.pointer (some ⟨Bs, 0, none⟩)]] w fun e w' => ∃ v, e = .returned v ∧ OwnI w' w.heap.size v (srt l) ∧ Below w.heap.size w w' := by
  have H := Lib.hid (collectI_any v l Bs w hc hr hp hl)
  have HP := Lib.hid hp
  have HL := Lib.hid hl
  clear hc hr hp hl
  go_enter Tryz.func15, Tryz.ntmps15
  go_wp2_with fail
  refine H.out.mono ?_
  rintro e w2 ⟨v2, rfl, ho, hb⟩
  have HB := Lib.hid hb
  rcases ho.2 with ⟨-, h0⟩ | ⟨g, cap, cur, rfl, hbase, hgb, r1, r2, r3, r4⟩
  · exfalso; have := HP.out; omega
  · have hH : Holds (Value.int .i64) w2 g 0 l.toArray := holds_of_blockI hgb (by simpa [ints] using r4)
    have HS := Lib.hid (sortI_any g 0 cap l w2 hH (Array.getElem?_eq_some_iff.1 hgb).1 (by have := HL.out; omega))
    have HO : Hid (∀ n os, OwnI (grow (putRow (Value.int .i64) (Sort.ahead w2 n) g 0 (srt l).toArray) os) w.heap.size (.slice (some ⟨g, 0, none⟩) l.length cap) (srt l)) := Lib.hid fun n os => by
      have h := ownsRow_sortedI (n := n) (os := os) (ss := l) (ts := srt l) (srt_len l) hbase hgb r1 r2 r3
      unfold OwnI ints
      rw [srt_len]
      exact h
    have HG : Hid (∀ n os, Below w.heap.size w (grow (putRow (Value.int .i64) (Sort.ahead w2 n) g 0 (srt l).toArray) os)) := Lib.hid fun n os => HB.out.grown (grownBy_sortedI _) HB.out.size (fun j hj => by cases hj; exact hbase)
    clear ho hb hbase hgb r1 r2 r3 r4 hH
    go_wp2_with fail
    refine HS.out.mono ?_
    rintro e w3 ⟨rfl, n, os, rfl⟩
    have HO3 := Lib.hid (HO.out n os)
    have HG3 := Lib.hid (HG.out n os)
    generalize grow (putRow (Value.int .i64) (Sort.ahead w2 n) g 0 (srt l).toArray) os = w3 at HO3 HG3 ⊢
    go_wp2
    go_ret
    exact ⟨_, rfl, HO3.out, HG3.out⟩

set_option maxRecDepth 100000 in
theorem equalI_any (v1 v2 : Value) (l1 l2 : List Int) (w : World) (h1 : Row w v1 (ints l1)) (h2 : Row w v2 (ints l2)) (hl : l1.length ≤ 1000000) (hln : l1.length = l2.length) :
    Calls Tryz.prog 14 #[v1, v2] w fun e w' => e = .returned (.bool (decide (l1 = l2))) ∧ Below w.heap.size w w' := by
  obtain ⟨a1, cap1, rfl⟩ := row_shape h1
  obtain ⟨a2, cap2, rfl⟩ := row_shape h2
  have HR1 := Lib.hid h1
  have HR2 := Lib.hid h2
  have HLN := Lib.hid hln
  have HL := Lib.hid hl
  rw [← hln] at HR2 ⊢
  have b0 : ((l1.length : Int) != (l1.length : Int)) = false := by simp
  clear h1 h2 hln hl
  obtain ⟨n, hn⟩ : ∃ n, l1.length = n := ⟨_, rfl⟩
  have HN := Lib.hid hn
  rw [hn] at HR1 HR2 HL b0 ⊢
  clear hn
  go_enter Tryz.func14, Tryz.ntmps14
  go_wp2
  go_loopg [13] (n + 1) (fun g i wr => ∃ k : Nat, g + k = n + 1 ∧ k ≤ n ∧ i = .int .i64 k ∧ (∀ (j : Nat), j < k → l1[j]? = l2[j]?) ∧ Below w.heap.size w wr)
  case atStart => exact ⟨0, by omega, by omega, rfl, fun j hj => by omega, Below.refl _ _⟩
  case round =>
    obtain ⟨k, hg, hk, rfl, hno, hb⟩ := hrel
    have HG := Lib.hid hg
    have HNO := Lib.hid hno
    have HB := Lib.hid hb
    clear hg hno hb
    by_cases hlt : k < n
    · have hlti : (k : Int) < (n : Int) := by omega
      obtain ⟨p, hp⟩ : ∃ p, l1[k]? = some p := ⟨_, List.getElem?_eq_getElem (by have := HN.out; omega)⟩
      obtain ⟨q, hq⟩ : ∃ q, l2[k]? = some q := ⟨_, List.getElem?_eq_getElem (by have := HN.out; have := HLN.out; omega)⟩
      obtain ⟨e1, o1, rfl, hf1⟩ := int_at HR1.out (by have := HN.out; omega)
      obtain ⟨e2, o2, rfl, hf2⟩ := int_at HR2.out (by have := HN.out; have := HLN.out; omega)
      have c1 := (HB.out.cell (lt_of_cell (hf1 k p hp))).trans (hf1 k p hp)
      have c2 := (HB.out.cell (lt_of_cell (hf2 k q hq))).trans (hf2 k q hq)
      have HP := Lib.hid hp
      have HQ := Lib.hid hq
      have dk : decide ((k : Int) < 0) = false := decide_eq_false (by omega)
      clear hf1 hf2 hp hq
      by_cases he : p = q
      · have d1 : (p != q) = false := by simpa using he
        have HE := Lib.hid he
        have e9 : wrap64 ((k : Int) + 1) = ((k + 1 : Nat) : Int) := by have := HL.out; rw [← wrapE, wrap_id (by omega)]; omega
        clear he
        go_wp2
        go_quiet (fail)
        have BQ := Lib.hid (HB.out.trans ((below_drewN wr nq).mono HB.out.size))
        generalize wr.drewN nq = w6 at BQ ⊢
        go_wp2
        go_roundg (gk - 1)
        case measure => have := HG.out; omega
        case rel =>
          refine ⟨k + 1, by have := HG.out; omega, by omega, by first | rfl | exact congrArg _ e9 | (rw [e9]) | (congr 1; omega) | (simp only [IntKind.wrap_i64, e9]), fun j hj => ?_, BQ.out⟩
          rcases Nat.lt_or_ge j k with h | h
          · exact HNO.out j h
          · obtain rfl : j = k := by omega
            rw [HP.out, HQ.out, HE.out]
      · have d1 : (p != q) = true := by simpa using he
        have HV : Hid (decide (l1 = l2) = false) := Lib.hid (decide_eq_false fun h => he (by have := HP.out; rw [h, HQ.out] at this; cases this; rfl))
        clear he
        go_wp2
        go_quiet (fail)
        have BQ := Lib.hid (HB.out.trans ((below_drewN wr nq).mono HB.out.size))
        generalize wr.drewN nq = w6 at BQ ⊢
        go_wp2
        go_ret
        exact ⟨by rw [HV.out] <;> rfl, BQ.out⟩
    · obtain rfl : k = n := by omega
      have hkl : ((k : Int) < (k : Int)) = False := by simp
      have HV : Hid (decide (l1 = l2) = true) := Lib.hid (decide_eq_true (List.ext_getElem? fun j => by
        rcases Nat.lt_or_ge j k with h | h
        · exact HNO.out j h
        · rw [List.getElem?_eq_none (by have := HN.out; omega), List.getElem?_eq_none (by have := HN.out; have := HLN.out; omega)]))
      go_wp2
      go_ret
      exact ⟨by rw [HV.out] <;> rfl, HB.out⟩
end Go.Proofs.YtakofjbjciljjaaGreat
/- The program's Round: all leaves go round. -/
namespace Go.Proofs.YtakofjbjciljjaaGreat
open Go.RowKit

mutual
theorem lv_pos_t : ∀ t : T, (∀ u ∈ preT t, wellT u = true) → 0 < lvT t
  | .node k r i l, h => by
    have ihl := lv_pos_l l
    have ht := h _ (by rw [preT_eq]; exact List.mem_cons_self ..)
    rw [lvT_eq]
    have ht' : wellB k r i l.length = true := ht
    change 0 < (if k = 1 then 1 else 0) + lvL l
    by_cases hk : k = 1
    · rw [if_pos hk]; omega
    · rw [if_neg hk, Nat.zero_add]
      refine ihl (fun e => ?_) fun u hu => h u (by rw [preT_eq]; exact List.mem_cons_of_mem _ hu)
      subst e
      unfold wellB at ht'
      simp only [Bool.and_eq_true, Bool.or_eq_true, decide_eq_true_eq] at ht'
      rcases ht'.2 with ⟨h1, -, -⟩ | ⟨-, -, h3⟩
      · exact hk h1
      · simp at h3
theorem lv_pos_l : ∀ l : List T, l ≠ [] → (∀ u ∈ preL l, wellT u = true) → 0 < lvL l
  | [], h, _ => absurd rfl h
  | t :: l, _, h => by
    have iht := lv_pos_t t fun u hu => h u (by rw [preL]; exact List.mem_append_left _ hu)
    rw [lvL]; omega
end
theorem lv_pos {t : T} (hs : sz t ≤ 20000) (ht : tileB t = true) : 0 < lvT t := by
  unfold tileB at ht
  rw [may_is (by omega)] at ht
  unfold rmayT at ht
  simp only [Bool.and_eq_true, decide_eq_true_eq, List.all_eq_true] at ht
  exact lv_pos_t t fun u hu => ht.1.1 u hu

theorem lv_none (t : T) : lvE t [] = rdE t := by
  unfold lvE rdE outB
  by_cases ht : tileB t = true
  · rw [if_pos ht, if_pos ht]; simp
  · rw [if_neg ht, if_neg ht]
theorem upTo_rd (by_ : Int) (l : List Int) : upTo (fun k => l.getD (rdAt l.length by_ k) 0) l.length = rdL by_ l := rfl
theorem rd_on {n k : Nat} (hk : k < n) (by_ : Int) : ((k : Int) - by_.tmod (n : Int) + (n : Int)).tmod (n : Int) = (rdAt n by_ k : Int) ∧ -(n : Int) < by_.tmod (n : Int) ∧ by_.tmod (n : Int) < (n : Int) := by
  have hn : 0 < n := by omega
  obtain ⟨h1, h2, -⟩ := tmod_round hn by_
  refine ⟨?_, h1, h2⟩
  have h5 : ((k : Int) - by_.tmod (n : Int) + (n : Int)) % (n : Int) = ((k : Int) - by_) % (n : Int) := by
    have g := Int.mul_tdiv_add_tmod by_ n
    rw [Int.add_emod_right, show (k : Int) - by_.tmod (n : Int) = (k : Int) - by_ + (n : Int) * by_.tdiv (n : Int) by omega, Int.add_mul_emod_self_left]
  rw [Int.tmod_eq_emod_of_nonneg (by omega), h5, rdAt_is hn by_ k]

set_option maxRecDepth 100000 in
theorem round1_any (v : Value) (l : List Int) (by_ : Int) (bi ba bn k : Nat) (w : World) (hl : l.length ≤ 1000000) (hc : w.cell? ⟨bi, 0, none⟩ = some v) (ha : w.cell? ⟨ba, 0, none⟩ = some (.int .i64 (by_.tmod (l.length : Int)))) (hn : w.cell? ⟨bn, 0, none⟩ = some (.int .i64 (l.length : Int))) (hr : Row w v (ints l)) (hk : k < l.length) :
    Calls Tryz.prog 22 #[.int .i64 (k : Int), .pointer (some ⟨bi, 0, none⟩), .pointer (some ⟨ba, 0, none⟩), .pointer (some ⟨bn, 0, none⟩)] w fun e w' => e = .returned (.int .i64 (l.getD (rdAt l.length by_ k) 0)) ∧ Below w.heap.size w w' := by
  obtain ⟨ad, cap, rfl⟩ := row_shape hr
  obtain ⟨br, o, rfl, hf⟩ := int_at hr (by omega)
  obtain ⟨h1, h2, h3⟩ := rd_on hk by_
  have hq := rdAt_lt (show 0 < l.length by omega) by_ k
  obtain ⟨p, hp⟩ : ∃ p, l[rdAt l.length by_ k]? = some p := ⟨_, List.getElem?_eq_getElem hq⟩
  have hv : l.getD (rdAt l.length by_ k) 0 = p := by rw [List.getD_eq_getElem?_getD, hp]; rfl
  rw [hv]
  clear hv
  generalize rdAt l.length by_ k = q at h1 hq hp
  generalize by_.tmod (l.length : Int) = r at ha h1 h2 h3
  have e0 := hf q p hp
  have s0 : ((l.length : Int) == 0) = false := by rw [beq_eq_false_iff_ne]; omega
  have s0' : (l.length == 0) = false := by rw [beq_eq_false_iff_ne]; omega
  have s1 : IntKind.i64.wrap ((k : Int) - r) = (k : Int) - r := wrap_id (by omega)
  have s2 : IntKind.i64.wrap ((k : Int) - r + (l.length : Int)) = (k : Int) - r + (l.length : Int) := wrap_id (by omega)
  have s1' : wrap64 ((k : Int) - r) = (k : Int) - r := by rw [← wrapE]; exact s1
  have s2' : wrap64 ((k : Int) - r + (l.length : Int)) = (k : Int) - r + (l.length : Int) := by rw [← wrapE]; exact s2
  have hqi : (q : Int) < (l.length : Int) := by omega
  have dq : decide ((q : Int) < 0) = false := decide_eq_false (by omega)
  clear hf hp hr hk h2 h3 hl
  go_enter Tryz.func22, Tryz.ntmps22
  go_wp2
  go_quiet (fail)
  go_wp2
  go_ret
  exact ⟨rfl, below_drewN _ _⟩
theorem entersR1 : Enters 22 := enters_of Tryz.func22 (by kernel_rfl) rfl

abbrev ibx (n : Int) : Obj := .cells #[.int .i64 n] 3
abbrev rwbx (v : Value) : Obj := .cells #[v] 27

set_option maxHeartbeats 4000000 in
set_option maxRecDepth 100000 in
theorem pround_any : RoundK := by
  intro t c by_ w hm hi hfb
  have L0 := Lib.hid (SSt.start w c)
  have HI := Lib.hid hi
  have HM := Lib.hid hm
  have HFB := Lib.hid hfb
  clear hi hm hfb
  have hrow0 : Row (freshW w c) (.slice none 0 0) (ints []) := ⟨none, 0, rfl, (fun _ => ⟨rfl, rfl⟩), fun x hx => by cases hx⟩
  have HLV := Lib.hid (sleaves_any t c _ [] (freshW w c) (by have := HM.out; omega) (L0.out.is HI.out) hrow0 (by simp))
  rw [lv_none] at HLV
  clear hrow0
  obtain ⟨c0, c1, c2, c3, c4, c5, c6⟩ := c7_of L0.out.box.cat
  go_enter Tryz.func10, Tryz.ntmps10
  go_wp2_with fail
  refine HLV.out.mono ?_
  rintro e w2 ⟨a2, k2, cap2, rfl, hk2, hb2⟩
  have L2 := Lib.hid (L0.out.up hb2)
  have A3 : Hid (Below w2.heap.size w2 (w2.alloc (rwbx (.slice a2 k2 cap2)))) := Lib.hid ((Below.refl _ _).alloc (Nat.le_refl _) _)
  have L3 := Lib.hid (L2.out.up A3.out)
  have Q3 := Lib.hid (cell_of_one (Box1.new w2 (.slice a2 k2 cap2) 27))
  have HK2 := Lib.hid hk2
  clear hb2 hk2 HLV c0 c1 c2 c3 c4 c5 c6
  go_upto_region 2 with fail
  change Code.wp _ _ _ _ (w2.alloc (rwbx (.slice a2 k2 cap2)))
  have HR3 : Hid (rdE t = 0 → k2 = (idsT t).length ∧ Row (w2.alloc (rwbx (.slice a2 k2 cap2))) (.slice a2 k2 cap2) (ints (idsT t))) := Lib.hid fun h => ⟨(HK2.out h).1, (HK2.out h).2.up A3.out⟩
  clear A3 L2 HK2
  generalize w2.alloc (rwbx (.slice a2 k2 cap2)) = W3 at L3 Q3 HR3 ⊢
  generalize w2.heap.size = bi at Q3 ⊢
  have hzero : rdE t = 0 ∨ rdE t ≠ 0 := Classical.em _
  rcases hzero with h0 | h0
  · obtain ⟨hk, hr⟩ := HR3.out h0
    subst hk
    have HE := Lib.hid h0
    have HLL : Hid ((idsT t).length ≤ 1000000) := Lib.hid (by rw [ids_len]; have := lv_sz t; have := HM.out; omega)
    have HL : Hid ((idsT t).length = lvT t) := Lib.hid (ids_len t)
    have HPS : Hid (0 < (idsT t).length) := Lib.hid (by rw [ids_len]; exact lv_pos HM.out (rd_yes h0))
    have HPT : Hid (rdT t by_ = nmT (rdL by_ (idsT t)) t) := Lib.hid rfl
    have HFT : Hid (∀ k, k < (idsT t).length → fits ((idsT t).getD (rdAt (idsT t).length by_ k) 0)) := Lib.hid fun k hk => by
      have hq := rdAt_lt (show 0 < (idsT t).length by omega) by_ k
      refine HI.out.ids _ ?_
      rw [List.getD_eq_getElem?_getD, List.getElem?_eq_getElem hq]
      exact List.getElem_mem hq
    rw [h0]
    clear h0 HR3
    obtain ⟨n, hn⟩ : ∃ n, (idsT t).length = n := ⟨_, rfl⟩
    rw [hn] at hr HPS Q3 ⊢
    have HLN := Lib.hid hn
    clear hn
    have A4 : Hid (Below W3.heap.size W3 (W3.alloc (ibx (n : Int)))) := Lib.hid ((Below.refl _ _).alloc (Nat.le_refl _) _)
    have L4 := Lib.hid (L3.out.up A4.out)
    have Q4 := Lib.hid ((A4.out.cell (lt_of_cell Q3.out)).trans Q3.out)
    have N4 := Lib.hid (cell_of_one (Box1.new W3 (.int .i64 (n : Int)) 3))
    have R4 := Lib.hid (hr.up A4.out)
    have q0 := Q3.out
    clear hr
    have s0 : ((n : Int) == 0) = false := by rw [beq_eq_false_iff_ne]; have := HPS.out; omega
    have s0' : (n == 0) = false := by rw [beq_eq_false_iff_ne]; have := HPS.out; omega
    have s2 : ((n : Int) = 0) = False := by have := HPS.out; simp; omega
    have s3 : (n = 0) = False := by have := HPS.out; simp; omega
    go_upto_region 5 with fail
    change Code.wp _ _ _ _ (W3.alloc (ibx (n : Int)))
    clear q0 Q3 A4 L3
    generalize W3.alloc (ibx (n : Int)) = W4 at L4 Q4 N4 R4 ⊢
    generalize W3.heap.size = bn at N4 ⊢
    have n0 := N4.out
    have A5 : Hid (Below W4.heap.size W4 (W4.alloc (ibx (by_.tmod (n : Int))))) := Lib.hid ((Below.refl _ _).alloc (Nat.le_refl _) _)
    have L5 := Lib.hid (L4.out.up A5.out)
    have Q5 := Lib.hid ((A5.out.cell (lt_of_cell Q4.out)).trans Q4.out)
    have N5 := Lib.hid ((A5.out.cell (lt_of_cell N4.out)).trans N4.out)
    have M5 := Lib.hid (cell_of_one (Box1.new W4 (.int .i64 (by_.tmod (n : Int))) 3))
    have R5 := Lib.hid (R4.out.up A5.out)
    go_upto_region 6 with fail
    change Code.wp _ _ _ _ (W4.alloc (ibx (by_.tmod (n : Int))))
    clear n0 Q4 A5 L4 N4 R4
    generalize W4.alloc (ibx (by_.tmod (n : Int))) = W5 at L5 Q5 N5 M5 R5 ⊢
    generalize W4.heap.size = ba at M5 ⊢
    have HCL : Hid (∀ (k : Nat) (W : World), k < (idsT t).length → Below W5.heap.size W5 W → Calls Tryz.prog 22 (#[.int .i64 (k : Int)] ++ #[.pointer (some ⟨bi, 0, none⟩), .pointer (some ⟨ba, 0, none⟩), .pointer (some ⟨bn, 0, none⟩)]) W fun e w' => e = .returned (.int .i64 ((idsT t).getD (rdAt (idsT t).length by_ k) 0)) ∧ Below W.heap.size W w') := Lib.hid fun k W hk hb =>
      round1_any _ (idsT t) by_ bi ba bn k W HLL.out ((hb.cell (lt_of_cell Q5.out)).trans Q5.out) (by rw [HLN.out]; exact (hb.cell (lt_of_cell M5.out)).trans M5.out) (by rw [HLN.out]; exact (hb.cell (lt_of_cell N5.out)).trans N5.out) (R5.out.up hb) hk
    have HN := Lib.hid (named_any 22 entersR1 _ (fun k => (idsT t).getD (rdAt (idsT t).length by_ k) 0) t c (idsT t).length W5 (by have := HM.out; omega) (L5.out.is HI.out) HL.out HFT.out HCL.out)
    rw [upTo_rd, HLN.out] at HN
    have n5 := N5.out
    obtain ⟨c0, c1, c2, c3, c4, c5, c6⟩ := c7_of L5.out.box.cat
    clear HFT HCL
    go_wp2_with fail
    refine HN.out.mono ?_
    rintro e w6 ⟨d, rfl, hd, hb6⟩
    have F6 := Lib.hid hd
    have L6 := Lib.hid (L5.out.up hb6)
    clear hd hb6 c0 c1 c2 c3 c4 c5 c6 HN n5
    obtain ⟨⟨z0, z1, z2, z3, z4, z5, z6⟩, f0, f1, f2, f3, f4, f5, f6⟩ := zero_parts L6.out.zero
    go_wp2
    (try simp only [Exit.inBlock, Exit.then])
    refine bodyPost_ret (results_c2 rfl _ _ (w.heap.size + 1) d rfl ((Box7.of_zero L6.out.zero).put d)) rfl ?_
    rw [HE.out, HPT.out]
    exact sw_ok rfl ((F6.out.put (b := w.heap.size + 1) (by have := L5.out.size; omega)).low (by omega)) (below_put7 L6.out.below (by omega) d)
  · have HE := Lib.hid h0
    clear h0 HR3
    obtain ⟨n, hn⟩ : ∃ n, n = rdE t := ⟨_, rfl⟩
    rw [← hn] at HE ⊢
    have HNN := Lib.hid hn
    clear hn
    have d1 : (n != 0) = true := by simpa using HE.out
    obtain ⟨⟨z0, z1, z2, z3, z4, z5, z6⟩, f0, f1, f2, f3, f4, f5, f6⟩ := zero_parts L3.out.zero
    go_wp2
    (try simp only [Exit.inBlock, Exit.then])
    refine bodyPost_ret (results_c2 rfl _ _ (w.heap.size + 1) zC rfl ((Box7.of_zero L3.out.zero).put zC)) rfl ?_
    rw [← HNN.out]
    exact sw_err HE.out L3.out.err
end Go.Proofs.YtakofjbjciljjaaGreat
/- The program's Order: the leaves stand in another order. -/
namespace Go.Proofs.YtakofjbjciljjaaGreat
open Go.RowKit

theorem upTo_all (l : List Int) : upTo (fun k => l.getD k 0) l.length = l := by
  unfold upTo
  refine List.ext_getElem (by simp) fun i h1 h2 => ?_
  simp [List.getD_eq_getElem?_getD, h2]
abbrev rbx (v : Value) : Obj := .cells #[v] 27
abbrev odW (w : World) (c : C) (v : Value) : World := ((w.alloc (cbox c)).alloc (rbx v)).alloc zeroBox

/-- The boxes: the tree's, the numbers', the answer's. -/
structure DSt (w : World) (c : C) (v : Value) (W : World) : Prop where
  below : Below w.heap.size w W
  box : Box7 W w.heap.size c
  cv : W.cell? ⟨w.heap.size + 1, 0, none⟩ = some v
  zero : Zero7 W (w.heap.size + 2)
  size : w.heap.size + 3 ≤ W.heap.size
theorem DSt.up {w W W' : World} {c : C} {v : Value} (h : DSt w c v W) (hb : Below W.heap.size W W') : DSt w c v W' :=
  ⟨h.below.trans (hb.mono h.below.size), h.box.up hb, (hb.cell (lt_of_cell h.cv)).trans h.cv, zero_up h.zero hb, Nat.le_trans h.size hb.size⟩
theorem DSt.start (w : World) (c : C) (v : Value) : DSt w c v (odW w c v) := by
  have h1 : Below w.heap.size w (w.alloc (cbox c)) := (Below.refl _ _).alloc (Nat.le_refl _) _
  have h2 : Below (w.alloc (cbox c)).heap.size (w.alloc (cbox c)) ((w.alloc (cbox c)).alloc (rbx v)) := (Below.refl _ _).alloc (Nat.le_refl _) _
  have h3 : Below ((w.alloc (cbox c)).alloc (rbx v)).heap.size ((w.alloc (cbox c)).alloc (rbx v)) (odW w c v) := (Below.refl _ _).alloc (Nat.le_refl _) _
  have e1 : (w.alloc (cbox c)).heap.size = w.heap.size + 1 := by simp
  have e2 : ((w.alloc (cbox c)).alloc (rbx v)).heap.size = w.heap.size + 2 := by simp
  have ka := cell_of_one (Box1.new (w.alloc (cbox c)) v 27)
  have kz := zero_new ((w.alloc (cbox c)).alloc (rbx v))
  rw [e1] at ka
  rw [e2] at kz
  exact ⟨(h1.trans (h2.mono h1.size)).trans (h3.mono (by rw [e2]; omega)), ((Box7.new w c).up h2).up h3, (h3.cell (lt_of_cell ka)).trans ka, kz, by simp⟩
theorem DSt.is {w W : World} {c : C} {t : T} {v : Value} (h : DSt w c v W) (hi : Is w c t) : Is W c t := hi.up h.below
theorem DSt.err {w W : World} {c : C} {v : Value} (h : DSt w c v W) : Below w.heap.size w (put7 W (w.heap.size + 2) zC) := below_put7 h.below (by omega) _

set_option maxRecDepth 100000 in
theorem order1_any (v : Value) (l : List Int) (bi k : Nat) (w : World) (hc : w.cell? ⟨bi, 0, none⟩ = some v) (hr : Row w v (ints l)) (hk : k < l.length) :
    Calls Tryz.prog 18 #[.int .i64 (k : Int), .pointer (some ⟨bi, 0, none⟩)] w fun e w' => e = .returned (.int .i64 (l.getD k 0)) ∧ Below w.heap.size w w' := by
  obtain ⟨ad, cap, rfl⟩ := row_shape hr
  obtain ⟨br, o, rfl, hf⟩ := int_at hr (by omega)
  obtain ⟨p, hp⟩ : ∃ p, l[k]? = some p := ⟨_, List.getElem?_eq_getElem hk⟩
  have e0 := hf k p hp
  have hv : l.getD k 0 = p := by rw [List.getD_eq_getElem?_getD, hp]; rfl
  rw [hv]
  have hki : (k : Int) < (l.length : Int) := by omega
  clear hf hp hv hr
  go_enter Tryz.func18, Tryz.ntmps18
  go_wp2
  go_ret
  exact ⟨rfl, Below.refl _ _⟩
theorem entersO1 : Enters 18 := enters_of Tryz.func18 (by kernel_rfl) rfl

theorem od_void {t : T} {l : List Int} (ht : ¬ rdE t = 0) : odE t l = rdE t := by
  unfold rdE at ht ⊢
  unfold odE
  by_cases h : tileB t = true
  · rw [if_pos h] at ht; exact absurd rfl ht
  · rw [if_neg h, if_neg h]
theorem od_many {t : T} {l : List Int} (ht : tileB t = true) (h : ¬ (idsT t).length = l.length) : odE t l = 9 := by
  unfold odE; rw [if_pos ht, if_neg h]
theorem od_srt {t : T} {l : List Int} (hs : sz t ≤ 20000) (ht : tileB t = true) (h : (idsT t).length = l.length) : odE t l = if srt l = srt (idsT t) then 0 else 6 := by
  unfold odE
  rw [if_pos ht, if_pos h]
  have hi := srt_iff (tile_ids hs ht).1 h
  by_cases ho : odP (idsT t) l
  · have e : @decide (odP (idsT t) l) (Classical.propDecidable _) = true := @decide_eq_true _ (Classical.propDecidable _) ho
    rw [if_pos e, if_pos (hi.2 ho)]
  · have e : ¬ @decide (odP (idsT t) l) (Classical.propDecidable _) = true := by
      rw [@decide_eq_false _ (Classical.propDecidable _) ho]; decide
    rw [if_neg e, if_neg (fun e => ho (hi.1 e))]

set_option maxHeartbeats 4000000 in
set_option maxRecDepth 100000 in
theorem porder_any : OrderK := by
  intro t c v l w hm hll hi hcu hfit
  obtain ⟨av, acap, rfl, -⟩ := hcu.cap
  have L0 := Lib.hid (DSt.start w c (.slice av l.length acap))
  have HI := Lib.hid hi
  have HM := Lib.hid hm
  have HLL := Lib.hid hll
  have HRV := Lib.hid hcu.row
  have HFIT := Lib.hid hfit
  clear hi hm hll hcu hfit
  have hrow0 : Row (odW w c (.slice av l.length acap)) (.slice none 0 0) (ints []) := ⟨none, 0, rfl, (fun _ => ⟨rfl, rfl⟩), fun x hx => by cases hx⟩
  have HLV := Lib.hid (sleaves_any t c _ [] (odW w c (.slice av l.length acap)) (by have := HM.out; omega) (L0.out.is HI.out) hrow0 (by simp))
  rw [lv_none] at HLV
  clear hrow0
  go_enter Tryz.func6, Tryz.ntmps6
  go_upto_region 1 with fail
  change Code.wp _ _ _ _ (odW w c (.slice av l.length acap))
  generalize odW w c (.slice av l.length acap) = W0 at L0 HLV ⊢
  obtain ⟨c0, c1, c2, c3, c4, c5, c6⟩ := c7_of L0.out.box.cat
  go_wp2_with fail
  refine HLV.out.mono ?_
  rintro e w2 ⟨a2, k2, cap2, rfl, hk2, hb2⟩
  have L2 := Lib.hid (L0.out.up hb2)
  have HK2 := Lib.hid hk2
  clear hb2 hk2 HLV c0 c1 c2 c3 c4 c5 c6 L0
  have hzero : rdE t = 0 ∨ rdE t ≠ 0 := Classical.em _
  rcases hzero with h0 | h0
  · obtain ⟨hk, hr⟩ := HK2.out h0
    subst hk
    have HTT := Lib.hid (rd_yes h0)
    have HNL : Hid ((idsT t).length = lvT t) := Lib.hid (ids_len t)
    have HPS : Hid (0 < (idsT t).length) := Lib.hid (by rw [ids_len]; exact lv_pos HM.out (rd_yes h0))
    have HNM : Hid ((idsT t).length ≤ 1000000) := Lib.hid (by rw [ids_len]; have := lv_sz t; have := HM.out; omega)
    have R2 := Lib.hid hr
    rw [h0]
    clear h0 hr HK2
    have v2 := L2.out.cv
    by_cases hlen : (idsT t).length = l.length
    · have HLEN := Lib.hid hlen
      rw [hlen] at R2 ⊢
      have d0 : ((l.length : Int) != (l.length : Int)) = false := by simp
      clear hlen
      have HRV2 := Lib.hid (HRV.out.up L2.out.below)
      obtain ⟨n, hn⟩ : ∃ n, l.length = n := ⟨_, rfl⟩
      have HN := Lib.hid hn
      rw [hn] at L2 R2 HRV2 v2 d0 ⊢
      clear hn
      -- the numbers that are told, in rising order
      go_wp2_with fail
      refine (values_any av n acap w2).mono ?_
      rintro e w3 ⟨rfl, rfl⟩
      have A3 : Hid (Below w2.heap.size w2 (w2.alloc (.cells #[.slice av n acap] 27))) := Lib.hid ((Below.refl _ _).alloc (Nat.le_refl _) _)
      have L3 := Lib.hid (L2.out.up A3.out)
      have R3 := Lib.hid (R2.out.up A3.out)
      have HS1 := Lib.hid (sortedI_any _ l w2.heap.size _ (cell_of_one (Box1.new w2 (.slice av n acap) 27)) (HRV2.out.up A3.out) (by have := HPS.out; have := HLEN.out; omega) HLL.out)
      clear v2 L2 R2
      go_wp2_with fail
      refine HS1.out.mono ?_
      rintro e w4 ⟨v4, rfl, ho4, hb4⟩
      have L4 := Lib.hid (L3.out.up hb4)
      have R4 := Lib.hid (R3.out.up hb4)
      have S4 := Lib.hid ho4.row
      clear ho4 hb4 HS1 L3 R3 A3
      go_wp2_with fail
      refine (values_any a2 n cap2 w4).mono ?_
      rintro e w5 ⟨rfl, rfl⟩
      have A5 : Hid (Below w4.heap.size w4 (w4.alloc (.cells #[.slice a2 n cap2] 27))) := Lib.hid ((Below.refl _ _).alloc (Nat.le_refl _) _)
      have L5 := Lib.hid (L4.out.up A5.out)
      have S5 := Lib.hid (S4.out.up A5.out)
      have HS2 := Lib.hid (sortedI_any _ (idsT t) w4.heap.size _ (cell_of_one (Box1.new w4 (.slice a2 n cap2) 27)) (R4.out.up A5.out) HPS.out HNM.out)
      clear L4 R4 S4
      go_wp2_with fail
      refine HS2.out.mono ?_
      rintro e w6 ⟨v6, rfl, ho6, hb6⟩
      have L6 := Lib.hid (L5.out.up hb6)
      have S6 := Lib.hid (S5.out.up hb6)
      have T6 := Lib.hid ho6.row
      clear ho6 hb6 HS2 L5 S5 A5
      have HEQ := Lib.hid (equalI_any v4 v6 (srt l) (srt (idsT t)) w6 S6.out T6.out (by rw [srt_len]; exact HLL.out) (by rw [srt_len, srt_len]; exact HLEN.out.symm))
      obtain ⟨a4, cap4, rfl⟩ := row_shape S6.out
      obtain ⟨a6, cap6, rfl⟩ := row_shape T6.out
      have HOE := Lib.hid (od_srt HM.out HTT.out HLEN.out)
      by_cases hsr : srt l = srt (idsT t)
      · have d1 : decide (srt l = srt (idsT t)) = true := decide_eq_true hsr
        rw [d1] at HEQ
        rw [if_pos hsr] at HOE
        clear hsr d1
        go_wp2_with fail
        refine HEQ.out.mono ?_
        rintro e w7 ⟨rfl, hb7⟩
        have L7 := Lib.hid (L6.out.up hb7)
        clear hb7 HEQ S6 T6 L6
        have v7 := L7.out.cv
        have HRV7 := Lib.hid (HRV.out.up L7.out.below)
        have HCL : Hid (∀ (k : Nat) (W : World), k < l.length → Below w7.heap.size w7 W → Calls Tryz.prog 18 (#[.int .i64 (k : Int)] ++ #[.pointer (some ⟨w.heap.size + 1, 0, none⟩)]) W fun e w' => e = .returned (.int .i64 (l.getD k 0)) ∧ Below W.heap.size W w') := Lib.hid fun k W hk hb =>
          order1_any _ l (w.heap.size + 1) k W ((hb.cell (lt_of_cell v7)).trans v7) (by have := HRV7.out.up hb; rw [HN.out] at this; exact this) hk
        have HN2 := Lib.hid (named_any 18 entersO1 _ (fun k => l.getD k 0) t c l.length w7 (by have := HM.out; omega) (L7.out.is HI.out) (HLEN.out.symm.trans HNL.out) (fun k hk => HFIT.out _ (by rw [List.getD_eq_getElem?_getD, List.getElem?_eq_getElem hk]; exact List.getElem_mem hk)) HCL.out)
        rw [upTo_all, HN.out] at HN2
        clear HCL
        obtain ⟨c0, c1, c2, c3, c4, c5, c6⟩ := c7_of L7.out.box.cat
        go_wp2_with fail
        refine HN2.out.mono ?_
        rintro e w8 ⟨d, rfl, hd, hb8⟩
        have F8 := Lib.hid hd
        have L8 := Lib.hid (L7.out.up hb8)
        clear hd hb8 c0 c1 c2 c3 c4 c5 c6 HN2 v7
        obtain ⟨⟨z0, z1, z2, z3, z4, z5, z6⟩, f0, f1, f2, f3, f4, f5, f6⟩ := zero_parts L8.out.zero
        go_wp2
        (try simp only [Exit.inBlock, Exit.then])
        refine bodyPost_ret (results_c2 rfl _ _ (w.heap.size + 2) d rfl ((Box7.of_zero L8.out.zero).put d)) rfl ?_
        rw [HOE.out]
        exact sw_ok rfl ((F8.out.put (b := w.heap.size + 2) (by have := L7.out.size; omega)).low (by omega)) (below_put7 L8.out.below (by omega) d)
      · have d1 : decide (srt l = srt (idsT t)) = false := decide_eq_false hsr
        rw [d1] at HEQ
        rw [if_neg hsr] at HOE
        clear hsr d1
        go_wp2_with fail
        refine HEQ.out.mono ?_
        rintro e w7 ⟨rfl, hb7⟩
        have L7 := Lib.hid (L6.out.up hb7)
        clear hb7 HEQ
        obtain ⟨⟨z0, z1, z2, z3, z4, z5, z6⟩, f0, f1, f2, f3, f4, f5, f6⟩ := zero_parts L7.out.zero
        go_wp2
        (try simp only [Exit.inBlock, Exit.then])
        refine bodyPost_ret (results_c2 rfl _ _ (w.heap.size + 2) zC rfl ((Box7.of_zero L7.out.zero).put zC)) rfl ?_
        rw [HOE.out]
        exact sw_err (by decide) L7.out.err
    · have HOE := Lib.hid (od_many HTT.out hlen)
      obtain ⟨n, hn⟩ : ∃ n, (idsT t).length = n := ⟨_, rfl⟩
      rw [hn] at hlen ⊢
      have d0 : ((l.length : Int) != (n : Int)) = true := by simp; omega
      have d1 : (l.length != n) = true := by simp; omega
      have d2 : (l.length == n) = false := by simp; omega
      clear hn hlen
      obtain ⟨⟨z0, z1, z2, z3, z4, z5, z6⟩, f0, f1, f2, f3, f4, f5, f6⟩ := zero_parts L2.out.zero
      go_wp2
      (try simp only [Exit.inBlock, Exit.then])
      refine bodyPost_ret (results_c2 rfl _ _ (w.heap.size + 2) zC rfl ((Box7.of_zero L2.out.zero).put zC)) rfl ?_
      rw [HOE.out]
      exact sw_err (by decide) L2.out.err
  · have HE := Lib.hid h0
    have HOE := Lib.hid (od_void (l := l) h0)
    clear h0 HK2
    obtain ⟨n, hn⟩ : ∃ n, n = rdE t := ⟨_, rfl⟩
    rw [← hn] at HE HOE ⊢
    clear hn
    have d1 : (n != 0) = true := by simpa using HE.out
    obtain ⟨⟨z0, z1, z2, z3, z4, z5, z6⟩, f0, f1, f2, f3, f4, f5, f6⟩ := zero_parts L2.out.zero
    go_wp2
    (try simp only [Exit.inBlock, Exit.then])
    refine bodyPost_ret (results_c2 rfl _ _ (w.heap.size + 2) zC rfl ((Box7.of_zero L2.out.zero).put zC)) rfl ?_
    rw [HOE.out]
    exact sw_err HE.out L2.out.err
end Go.Proofs.YtakofjbjciljjaaGreat
