/- Texts of this seat, 3 in one file. -/
import Derived.Test.YtakofjbjciljjaaGreatG25
import Derived.BigQuiet
/- All leaves go round: the document's answer. -/
namespace Go.Proofs.YtakofjbjciljjaaGreat
open Go.RowKit

theorem rd_step {n : Nat} (hn : 0 < n) (by_ : Int) (k : Nat) : ((k : Int) - by_.tmod (n : Int)).tmod (n : Int) = (rdAt n by_ k : Int) ∨ ((k : Int) - by_.tmod (n : Int)).tmod (n : Int) < 0 ∧ -(n : Int) < ((k : Int) - by_.tmod (n : Int)).tmod (n : Int) ∧ ((k : Int) - by_.tmod (n : Int)).tmod (n : Int) + n = (rdAt n by_ k : Int) := by
  obtain ⟨h1, h2, h3⟩ := tmod_round hn ((k : Int) - by_.tmod (n : Int))
  have h4 := h3 0
  rw [Int.zero_add, Int.zero_add] at h4
  have h5 : ((k : Int) - by_.tmod (n : Int)) % (n : Int) = ((k : Int) - by_) % (n : Int) := by
    have g := Int.mul_tdiv_add_tmod by_ n
    rw [show (k : Int) - by_.tmod (n : Int) = (k : Int) - by_ + (n : Int) * by_.tdiv (n : Int) by omega, Int.add_mul_emod_self_left]
  rw [h5] at h4
  have h6 := rdAt_is hn by_ k
  rw [← h6] at h4
  generalize ((k : Int) - by_.tmod (n : Int)).tmod (n : Int) = s at h1 h2 h4 ⊢
  have h7 := rdAt_lt hn by_ k
  by_cases hs : s < 0
  · rw [Int.emod_eq_of_lt (by omega) (by omega)] at h4
    exact .inr ⟨hs, h1, h4⟩
  · rw [Int.add_emod_right, Int.emod_eq_of_lt (by omega) (by omega)] at h4
    exact .inl h4
theorem rdL_step {by_ : Int} {l : List Int} {k : Nat} {p : Int} (hk : k < l.length) (h : l[rdAt l.length by_ k]? = some p) : (rdL by_ l).take (k + 1) = (rdL by_ l).take k ++ [p] := by
  rw [List.take_add_one, rdL_get hk, h]; rfl
theorem rd_bad {t : T} (ht : tileB t = false) : rdE t = 1 := if_neg (by rw [ht]; decide)

end Go.Proofs.YtakofjbjciljjaaGreat
/- Leaves stand in another order: the document's answer. -/
namespace Go.Proofs.YtakofjbjciljjaaGreat
open Go.RowKit

theorem od_bad {t : T} {l : List Int} (ht : tileB t = false) : odE t l = 1 := if_neg (by rw [ht]; decide)
theorem od_cnt {t : T} {l : List Int} (ht : tileB t = true) (h : (idsT t).length ≠ l.length) : odE t l = 9 := by
  unfold odE; rw [if_pos ht, if_neg h]
theorem od_no {t : T} {l : List Int} (ht : tileB t = true) (h : (idsT t).length = l.length) (hp : ¬ odP (idsT t) l) : odE t l = 6 := by
  unfold odE; rw [if_pos ht, if_pos h, if_neg (by simpa using hp)]
theorem od_yes {t : T} {l : List Int} (ht : tileB t = true) (h : (idsT t).length = l.length) (hp : odP (idsT t) l) : odE t l = 0 := by
  unfold odE; rw [if_pos ht, if_pos h, if_pos (by simpa using hp)]
theorem nodup_take {l : List Int} (h : ∀ (j : Nat) (x : Int), l[j]? = some x → x ∉ l.take j) : l.Nodup := by
  unfold List.Nodup
  rw [List.pairwise_iff_getElem]
  intro i j hi hj hij e
  refine h j _ (List.getElem?_eq_getElem hj) ?_
  rw [← e]
  refine List.mem_of_getElem? (i := i) ?_
  rw [List.getElem?_take, if_pos hij, List.getElem?_eq_getElem hi]
theorem take_twice {l : List Int} {j : Nat} {x : Int} (hx : l[j]? = some x) (hm : x ∈ l.take j) : ¬ l.Nodup := by
  intro h
  unfold List.Nodup at h
  rw [List.pairwise_iff_getElem] at h
  obtain ⟨hj, rfl⟩ := List.getElem?_eq_some_iff.1 hx
  obtain ⟨i, hi, he⟩ := List.getElem_of_mem hm
  rw [List.length_take] at hi
  rw [List.getElem_take] at he
  exact h i j (by omega) hj (by omega) he
theorem Row.take {w : World} {a : Option Addr} {n cap k : Nat} {l : List Int} (h : Row w (.slice a n cap) (ints l)) (hk : k ≤ l.length) (ha : a = none → False) : Row w (.slice a k cap) (ints (l.take k)) := by
  obtain ⟨a1, cap1, he, h0, hc⟩ := h
  cases he
  refine ⟨a, cap, by rw [ints_length, List.length_take, Nat.min_eq_left hk], fun hn => absurd hn (fun e => ha e), fun x hx j u hu => ?_⟩
  refine hc x hx j u ?_
  rw [ints, List.getElem?_map, List.getElem?_take] at hu
  rw [ints, List.getElem?_map]
  by_cases hj : j < k
  · rw [if_pos hj] at hu; exact hu
  · rw [if_neg hj] at hu; simp at hu

/-- What of the loop is done: all told so far are leaves', none twice. -/
def OdI (ids l : List Int) (k : Nat) : Prop := ∀ (j : Nat) (x : Int), j < k → l[j]? = some x → x ∈ ids ∧ x ∉ l.take j
theorem OdI.all {ids l : List Int} (h : OdI ids l l.length) : odP ids l := by
  refine ⟨nodup_take fun j x hx => (h j x (lt_of_get hx) hx).2, fun x hx => ?_⟩
  obtain ⟨j, hj, rfl⟩ := List.getElem_of_mem hx
  exact (h j _ hj (List.getElem?_eq_getElem hj)).1
theorem OdI.step {ids l : List Int} {k : Nat} {p : Int} (h : OdI ids l k) (hp : l[k]? = some p) (h1 : p ∈ ids) (h2 : p ∉ l.take k) : OdI ids l (k + 1) := by
  intro j x hj hx
  rcases Nat.lt_or_ge j k with hjk | hjk
  · exact h j x hjk hx
  · obtain rfl : j = k := by omega
    rw [hp] at hx; cases hx
    exact ⟨h1, h2⟩

set_option maxHeartbeats 4000000 in
set_option maxRecDepth 100000 in
theorem rorder_any (t : T) (c : C) (v : Value) (l : List Int) (w : World) (hm : sz t ≤ 20000) (hi : Is w c t) (hp : Cutt w v l) (hfit : ∀ m ∈ l, fits m) :
    Calls Tryz.prog 7 #[cval c, v] w (SwSays (odE t l) (nmT l t) .i64 w) := by
  obtain ⟨a, cap, rfl, hcap⟩ := hp.cap
  have L0 := Lib.hid (SSt.start w c)
  have HT := Lib.hid (rtiles8_any t c (freshW w c) (L0.out.is hi) hm)
  have HI := Lib.hid hi
  have HM := Lib.hid hm
  have HP := Lib.hid hp
  have HF := Lib.hid hfit
  clear hi hm hp hfit
  obtain ⟨c0, c1, c2, c3, c4, c5, c6⟩ := c7_of L0.out.box.cat
  go_enter Tryz.func7, Tryz.ntmps7
  go_wp2_with fail
  refine HT.out.mono ?_
  rintro e w1 ⟨rfl, hb1⟩
  have L1 := Lib.hid (L0.out.up hb1)
  clear hb1 c0 c1 c2 c3 c4 c5 c6 HT
  cases ht : tileB t with
  | false =>
    have HE := Lib.hid (od_bad (l := l) ht)
    clear ht
    obtain ⟨⟨z0, z1, z2, z3, z4, z5, z6⟩, f0, f1, f2, f3, f4, f5, f6⟩ := zero_parts L1.out.zero
    go_wp2
    (try simp only [Exit.inBlock, Exit.then])
    refine bodyPost_ret (results_c2 rfl _ _ (w.heap.size + 1) zC rfl ((Box7.of_zero L1.out.zero).put zC)) rfl ?_
    rw [HE.out]
    exact sw_err (by decide) L1.out.err
  | true =>
    have HTL := Lib.hid ht
    have HIDS := Lib.hid (rids_any t c w1 (by have := HM.out; omega) (L1.out.is HI.out))
    clear ht
    obtain ⟨c0, c1, c2, c3, c4, c5, c6⟩ := c7_of L1.out.box.cat
    go_wp2_with fail
    refine HIDS.out.mono ?_
    rintro e w4 ⟨v4, rfl, ho4, hb4⟩
    have L4 := Lib.hid (L1.out.up hb4)
    have R4 := Lib.hid ho4.row
    obtain ⟨a4, cap4, rfl⟩ := row_shape ho4.row
    clear ho4 hb4 c0 c1 c2 c3 c4 c5 c6 HIDS
    have HL : Hid ((idsT t).length ≤ 20000) := Lib.hid (by rw [ids_len]; have := lv_sz t; have := HM.out; omega)
    have HLV : Hid ((idsT t).length = lvT t) := Lib.hid (ids_len t)
    have HEB := Lib.hid (fun h => od_cnt (l := l) HTL.out h)
    have HEN := Lib.hid (fun h1 h2 => od_no (l := l) HTL.out h1 h2)
    have HEY := Lib.hid (fun h1 h2 => od_yes (l := l) HTL.out h1 h2)
    generalize hids : idsT t = ids at R4 HL HLV HEB HEN HEY ⊢
    clear hids
    by_cases hlen : ids.length = l.length
    · have d0 : ((ids.length : Int) != (l.length : Int)) = false := by simp; omega
      have d0' : ((ids.length : Int) == (l.length : Int)) = true := by simp; omega
      have HLEN := Lib.hid hlen
      rw [hlen] at d0 R4
      clear hlen d0'
      have P4 := Lib.hid (HP.out.up L4.out.below)
      rw [HLEN.out]
      go_wp2
      go_loopg [22] (l.length + 1) (fun g i wr => ∃ (k : Nat), g + k = l.length + 1 ∧ k ≤ l.length ∧ i = .int .i64 k ∧ OdI ids l k ∧ Below w4.heap.size w4 wr)
      case atStart => exact ⟨0, by omega, by omega, rfl, fun j x hj => by omega, Below.refl _ _⟩
      case round =>
        obtain ⟨k, hg, hk, rfl, hod, hbr⟩ := hrel
        have HG := Lib.hid hg
        have HOD := Lib.hid hod
        have HBR := Lib.hid hbr
        clear hg hod hbr
        by_cases hlt : k < l.length
        · obtain ⟨bl, ol, rfl, hf⟩ := int_at P4.out.row (by omega)
          obtain ⟨p, hp⟩ : ∃ p, l[k]? = some p := ⟨_, List.getElem?_eq_getElem hlt⟩
          have e0 := (HBR.out.cell (lt_of_cell (hf k p hp))).trans (hf k p hp)
          have HPK := Lib.hid hp
          have HA := Lib.hid (fun n => rhasI_same _ ids p (wr.drewN n) ((R4.out.up HBR.out).up (below_drewN wr n)) (by have := HL.out; omega))
          have HB := Lib.hid (fun n => rhasI_same (.slice (some ⟨bl, ol, none⟩) k cap) (l.take k) p (wr.drewN n) (Row.take ((P4.out.row.up HBR.out).up (below_drewN wr n)) (by omega) (fun e => by cases e)) (by rw [List.length_take]; have := HL.out; have := HLEN.out; omega))
          have hkc : k ≤ cap := by omega
          clear hf hp
          cases hda : decide (p ∈ ids) with
          | false =>
            rw [hda] at HA
            have HE := Lib.hid (HEN.out HLEN.out fun h => by have := h.2 p (List.mem_of_getElem? HPK.out); rw [decide_eq_false_iff_not] at hda; exact hda this)
            clear hda
            go_wp2
            go_quiet ((go_at_call 20; first | with_reducible exact quiet_same (HA.out _) | with_reducible exact quiet_same (HB.out _)))
            have BQ := Lib.hid (HBR.out.trans ((below_drewN wr nq).mono HBR.out.size))
            generalize wr.drewN nq = w6 at BQ ⊢
            have L6 := Lib.hid (L4.out.up BQ.out)
            obtain ⟨⟨z0, z1, z2, z3, z4, z5, z6⟩, f0, f1, f2, f3, f4, f5, f6⟩ := zero_parts L6.out.zero
            go_wp2
            (try simp only [Exit.inBlock, Exit.then])
            refine bodyPost_ret (results_c2 rfl _ _ (w.heap.size + 1) zC rfl ((Box7.of_zero L6.out.zero).put zC)) rfl ?_
            rw [HE.out]
            exact sw_err (by decide) L6.out.err
          | true =>
            rw [hda] at HA
            have HPI : Hid (p ∈ ids) := Lib.hid (of_decide_eq_true hda)
            clear hda
            cases hdb : decide (p ∈ l.take k) with
            | true =>
              rw [hdb] at HB
              have HE := Lib.hid (HEN.out HLEN.out fun h => take_twice HPK.out (of_decide_eq_true hdb) h.1)
              clear hdb
              go_wp2
              go_quiet ((go_at_call 20; first | with_reducible exact quiet_same (HA.out _) | with_reducible exact quiet_same (HB.out _)))
              have BQ := Lib.hid (HBR.out.trans ((below_drewN wr nq).mono HBR.out.size))
              generalize wr.drewN nq = w6 at BQ ⊢
              have L6 := Lib.hid (L4.out.up BQ.out)
              obtain ⟨⟨z0, z1, z2, z3, z4, z5, z6⟩, f0, f1, f2, f3, f4, f5, f6⟩ := zero_parts L6.out.zero
              go_wp2
              (try simp only [Exit.inBlock, Exit.then])
              refine bodyPost_ret (results_c2 rfl _ _ (w.heap.size + 1) zC rfl ((Box7.of_zero L6.out.zero).put zC)) rfl ?_
              rw [HE.out]
              exact sw_err (by decide) L6.out.err
            | false =>
              rw [hdb] at HB
              have HST := Lib.hid (HOD.out.step HPK.out HPI.out (by rw [decide_eq_false_iff_not] at hdb; exact hdb))
              clear hdb
              go_wp2
              go_quiet ((go_at_call 20; first | with_reducible exact quiet_same (HA.out _) | with_reducible exact quiet_same (HB.out _)))
              have BQ := Lib.hid (HBR.out.trans ((below_drewN wr nq).mono HBR.out.size))
              generalize wr.drewN nq = w6 at BQ ⊢
              have hll : l.length ≤ 20000 := by have := HL.out; have := HLEN.out; omega
              have e9 : wrap64 ((k : Int) + 1) = ((k + 1 : Nat) : Int) := by rw [← wrapE, wrap_id (by omega)]; omega
              go_wp2
              go_roundg (gk - 1)
              case measure => have := HG.out; omega
              case rel => exact ⟨k + 1, by have := HG.out; omega, by omega, by first | rfl | exact congrArg _ e9 | (rw [e9]) | (congr 1; omega) | (simp only [IntKind.wrap_i64, e9]), HST.out, BQ.out⟩
        · obtain rfl : k = l.length := by omega
          have hkl : ((l.length : Int) < (l.length : Int)) = False := by simp
          have HE := Lib.hid (HEY.out HLEN.out HOD.out.all)
          have L5 := Lib.hid (L4.out.up HBR.out)
          have HN := Lib.hid (rnameS_any t c _ l wr (by have := HM.out; omega) (L5.out.is HI.out) (HP.out.up L5.out.below) (by have := HLV.out; have := HLEN.out; omega) HF.out)
          obtain ⟨c0, c1, c2, c3, c4, c5, c6⟩ := c7_of L5.out.box.cat
          go_wp2_with fail
          refine HN.out.mono ?_
          rintro e w6 ⟨d, rfl, hd, hb6⟩
          have F6 := Lib.hid hd
          have B6 := Lib.hid hb6
          have L6 := Lib.hid (L5.out.up hb6)
          clear hd hb6 c0 c1 c2 c3 c4 c5 c6 HN
          obtain ⟨⟨z0, z1, z2, z3, z4, z5, z6⟩, f0, f1, f2, f3, f4, f5, f6⟩ := zero_parts L6.out.zero
          go_wp2
          (try simp only [Exit.inBlock, Exit.then])
          refine bodyPost_ret (results_c2 rfl _ _ (w.heap.size + 1) d rfl ((Box7.of_zero L6.out.zero).put d)) rfl ?_
          rw [HE.out]
          exact sst_ok rfl L5.out F6.out B6.out
    · have d0 : ((ids.length : Int) != (l.length : Int)) = true := by simp; omega
      have d0' : (ids.length == l.length) = false := by rw [beq_eq_false_iff_ne]; exact hlen
      have HE := Lib.hid (HEB.out hlen)
      obtain ⟨⟨z0, z1, z2, z3, z4, z5, z6⟩, f0, f1, f2, f3, f4, f5, f6⟩ := zero_parts L4.out.zero
      go_wp2
      (try simp only [Exit.inBlock, Exit.then])
      refine bodyPost_ret (results_c2 rfl _ _ (w.heap.size + 1) zC rfl ((Box7.of_zero L4.out.zero).put zC)) rfl ?_
      rw [HE.out]
      exact sw_err (by decide) L4.out.err
end Go.Proofs.YtakofjbjciljjaaGreat
/- The document's example, on which the laws look. -/
namespace Go.Proofs.YtakofjbjciljjaaGreat
open Go.RowKit

/-- What the program's Round answers. -/
def RoundK : Prop := ∀ (t : T) (c : C) (by_ : Int) (w : World), sz t ≤ 20000 → Is w c t → fits by_ → Calls Tryz.prog 10 #[cval c, .int .i64 by_] w (SwSays (rdE t) (rdT t by_) .i64 w)

def lC (i : Nat) : C := ⟨1, ⟨2 * i, 0, 1, 1⟩, i + 1, none, 0, 0⟩
def lT (i : Nat) : T := .node 1 ⟨2 * i, 0, 1, 1⟩ (i + 1) []
def lCs : List C := [lC 0, lC 1, lC 2]
def awT : T := .node 2 ⟨0, 0, 5, 1⟩ 0 [lT 0, lT 1, lT 2]
theorem fitsN (n : Int) (h : -1000 ≤ n ∧ n ≤ 1000) : fits n := ⟨by omega, by omega⟩
theorem lC_is (w : World) (i : Nat) (h : i < 3) : Is w (lC i) (lT i) := .mk (lC i) [] [] (.inl ⟨_, _, rfl, rfl⟩) rfl ⟨⟨by simp [lC], by simp [lC]⟩, ⟨fitsN _ (by simp [lC]; omega), fitsN _ (by simp [lC]), fitsN _ (by simp [lC]), fitsN _ (by simp [lC])⟩, fitsN _ (by simp [lC]; omega), by simp [lC]⟩ (fun j x t hx => by simp at hx)
theorem aw_fit : fitB awT = true := by
  refine (fitB_iff _).2 (.inr ⟨⟨by decide, .inl ⟨by decide, ⟨fun k m hk hm => ?_, by decide⟩⟩⟩, by decide⟩)
  have hk2 : k < 3 := hk
  match k, hk2 with
  | 0, _ =>
    have : some 1 = some m := hm
    cases this
    decide
  | 1, _ =>
    have : some 1 = some m := hm
    cases this
    decide
  | 2, _ =>
    have : some 1 = some m := hm
    cases this
    decide
theorem fit_l (i : Nat) : fitB (lT i) = true := (fitB_iff _).2 (.inl rfl)
theorem aw_pre : preT awT = [awT, lT 0, lT 1, lT 2] := by simp [preT, preL, awT, lT]
theorem aw_tile : tileB awT = true := by
  unfold tileB; rw [aw_pre, show mayT awT = true by decide]; simp [aw_fit, fit_l]
theorem aw_ids : idsT awT = [1, 2, 3] := by unfold idsT; rw [aw_pre]; rfl
theorem aw_sz : sz awT = 4 := by simp [sz, szL, awT, lT]
theorem aw_rd : rdL 1 [1, 2, 3] = [3, 1, 2] := by decide
theorem aw_done : idsT (rdT awT 1) = [3, 1, 2] := by rw [rd_ids, aw_ids, aw_rd]
theorem aw_e : rdE awT = 0 := if_pos aw_tile
theorem aw_is {w : World} {a : Option Addr} {cap base : Nat} (h : OwnC w base (.slice a 3 cap) lCs) : Is w ⟨2, ⟨0, 0, 5, 1⟩, 0, a, 3, cap⟩ awT := by
  refine .mk ⟨2, ⟨0, 0, 5, 1⟩, 0, a, 3, cap⟩ [lT 0, lT 1, lT 2] lCs h.row rfl ⟨⟨by simp, by simp⟩, ⟨fitsN _ (by simp), fitsN _ (by simp), fitsN _ (by simp), fitsN _ (by simp)⟩, fitsN _ (by simp), by simp⟩ fun j x t hx ht => ?_
  match j with
  | 0 => simp [lCs] at hx ht; subst hx; subst ht; exact lC_is w 0 (by omega)
  | 1 => simp [lCs] at hx ht; subst hx; subst ht; exact lC_is w 1 (by omega)
  | 2 => simp [lCs] at hx ht; subst hx; subst ht; exact lC_is w 2 (by omega)
  | j + 3 => simp [lCs] at hx
theorem three_row (w : World) (a b c : Int) : Row (w.alloc (.cells #[.int .i64 a, .int .i64 b, .int .i64 c] 3)) (.slice (some ⟨w.heap.size, 0, none⟩) 3 3) (ints [a, b, c]) := by
  refine ⟨some ⟨w.heap.size, 0, none⟩, 3, rfl, (fun h => nomatch h), fun ad hx j u hu => ?_⟩
  cases hx
  match j with
  | 0 => simp [ints] at hu; subst hu; change (w.alloc _).cell? ⟨w.heap.size, 0, none⟩ = _; simp
  | 1 => simp [ints] at hu; subst hu; change (w.alloc _).cell? ⟨w.heap.size, 1, none⟩ = _; simp
  | 2 => simp [ints] at hu; subst hu; change (w.alloc _).cell? ⟨w.heap.size, 2, none⟩ = _; simp
  | j + 3 => simp [ints] at hu
theorem callI (v : Value) (a b c : Int) (w : World) (h : Row w v (ints [a, b, c])) : Calls Tryz.prog 11 #[v, .slice (some ⟨w.heap.size, 0, none⟩) 3 3] (w.alloc (.cells #[.int .i64 a, .int .i64 b, .int .i64 c] 3)) fun e w' => e = .returned (.bool true) ∧ Below w.heap.size w w' := by
  refine (ints_any v _ [a, b, c] [a, b, c] _ (h.up ((Below.refl _ _).alloc (Nat.le_refl _) _)) (three_row w a b c) (by simp)).mono ?_
  rintro e w' ⟨rfl, hb⟩
  exact ⟨by simp [eqI], below_one hb⟩

set_option maxHeartbeats 2000000 in
set_option maxRecDepth 100000 in
theorem awake15_any (HR : RoundK) (w : World) : Calls Tryz.prog 5 #[] w fun e w' => e = .returned (.bool true) ∧ Below w.heap.size w w' := by
  have O0 := Lib.hid (OwnC.empty w w.heap.size (Nat.le_refl _))
  have B0 : Hid (Below w.heap.size w (w.alloc (.cells #[] 26))) := Lib.hid ((Below.refl _ _).alloc (Nat.le_refl _) _)
  have HRH := Lib.hid HR
  clear HR
  go_enter Tryz.func5, Tryz.ntmps5
  go_wp2
  go_loopg [1, 2] 4 (fun g v i wr => ∃ k : Nat, g + k = 4 ∧ k ≤ 3 ∧ i = .int .i64 k ∧ OwnC wr w.heap.size v (lCs.take k) ∧ Below w.heap.size w wr)
  case atStart => exact ⟨0, by omega, by omega, rfl, O0.out, B0.out⟩
  case round =>
    obtain ⟨k, hg, hk, rfl, hown, hbr⟩ := hrel
    have HG := Lib.hid hg
    have HO := Lib.hid hown
    have HBR := Lib.hid hbr
    clear hg hown hbr
    by_cases hlt : k < 3
    · have A1 := Lib.hid (HO.out.up (w' := wr.alloc (cbox (lC k))) ((Below.refl _ _).alloc (Nat.le_refl _) _))
      have A2 := Lib.hid (HBR.out.alloc (o := cbox (lC k)) (by have := HBR.out.size; omega))
      have A3 := Lib.hid (OwnC.one wr 0 (Nat.zero_le _) (lC k)).row
      have hk3 : k = 0 ∨ k = 1 ∨ k = 2 := by omega
      rcases hk3 with rfl | rfl | rfl
      all_goals
        go_wp2_with (at_builtin; refine wpList_append_cells rfl _ _ rfl w.heap.size u1 _ _ [lC _] rfl A1.out rfl A3.out (by simp) (by simp [lCs]) w A2.out (Nat.le_refl _) ?_; intro g cap3 w5 hown5 hb5 hgr5 hpl5)
        have HO5 := Lib.hid hown5
        have HB5 := Lib.hid hb5
        clear hown5 hb5 hgr5 hpl5
        go_wp2
        go_roundg (gk - 1)
        case measure => have := HG.out; omega
        case rel => first | exact ⟨1, by have := HG.out; omega, by omega, rfl, HO5.out, HB5.out⟩ | exact ⟨2, by have := HG.out; omega, by omega, rfl, HO5.out, HB5.out⟩ | exact ⟨3, by have := HG.out; omega, by omega, rfl, HO5.out, HB5.out⟩
    · obtain rfl : k = 3 := by omega
      obtain ⟨a1, cap1, rfl⟩ := HO.out.row.shape
      have HI := Lib.hid (aw_is (a := a1) (cap := cap1) HO.out)
      have HC := Lib.hid (HRH.out awT _ 1 wr (by rw [aw_sz]; omega) HI.out (fitsN _ (by omega)))
      rw [aw_e] at HC
      go_wp2_with fail
      refine HC.out.mono ?_
      rintro e w6 ⟨d, rfl, hd, hb6⟩
      have al6 : Below w6.heap.size w6 (w6.alloc (cbox d)) := (Below.refl _ _).alloc (Nat.le_refl _) _
      have B6 := Lib.hid (HBR.out.trans ((hb6.trans (al6.mono hb6.size)).mono HBR.out.size))
      have hd' : Is w6 d (rdT awT 1) := hd w6 fun _ _ => rfl
      have X6 := Lib.hid (Box7.new w6 d)
      have HJ := Lib.hid (rids_any (rdT awT 1) d (w6.alloc (cbox d)) (by rw [rd_sz, aw_sz]; omega) (hd'.up al6))
      rw [aw_done] at HJ
      clear hd hb6 al6 hd' HC HI
      obtain ⟨c0, c1, c2, c3, c4, c5, c6⟩ := c7_of X6.out.cat
      go_wp2_with fail
      refine HJ.out.mono ?_
      rintro e w7 ⟨v7, rfl, ho7, hb7⟩
      have R7 := Lib.hid ho7.row
      have B7 := Lib.hid (B6.out.trans (hb7.mono B6.out.size))
      clear ho7 hb7 HJ
      go_wp2_with fail
      refine (callI v7 3 1 2 w7 R7.out).mono ?_
      rintro e w8 ⟨rfl, hb8⟩
      have B8 := Lib.hid (B7.out.trans (hb8.mono B7.out.size))
      clear hb8
      go_wp2
      go_ret
      exact ⟨rfl, B8.out⟩
end Go.Proofs.YtakofjbjciljjaaGreat
