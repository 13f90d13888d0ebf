/- Texts of this seat, 3 in one file. -/
import Derived.Test.YtakofjbjciljjaaGreatG18
import Derived.BigQuiet
import Derived.Deep.QuietTactic
/- The document's own cut, across. -/
namespace Go.Proofs.YtakofjbjciljjaaGreat
open Go.RowKit

set_option maxRecDepth 100000 in
set_option maxHeartbeats 6400000 in
theorem rcut1_any (r : R) (v : Value) (ms : List Int) (w : World) (hf : r.fits) (hr : IRow w v ms) (hlen : ms.length ≤ 100000) (hm : mayB r = true) (hp : 0 < ms.length) :
    Calls Tryz.prog 73 #[val r, .int .u8 1, v] w fun e w' => CutSays r 1 ms w e w' := by
  obtain ⟨a, cap, rfl⟩ := hr.shape
  have HR := Lib.hid hr
  have B1 : Hid (Below w.heap.size w ((w.alloc (box r)).alloc (.cells #[] 23))) := ((Below.refl _ _).alloc (Nat.le_refl _) _).alloc (by simp) _
  have H := Lib.hid (rmay_any r ((w.alloc (box r)).alloc (.cells #[] 23)) hf)
  have HA : Hid (RAt ((w.alloc (box r)).alloc (.cells #[] 23)) w.heap.size 0 r) := (rat_new w r).up ((Below.refl _ _).alloc (Nat.le_refl _) _)
  have hb := (mayB_iff r).1 hm
  have HM : Hid ((0 ≤ r.x ∧ 1 ≤ r.w ∧ r.x + r.w ≤ 10000) ∧ 0 ≤ r.y ∧ 1 ≤ r.h ∧ r.y + r.h ≤ 10000) := hb
  have HCut : Hid (cutP r 1 ms ↔ fillP r.w ms) := ⟨fun h => by rcases h.2 with h | h <;> first | exact h.2 | (have := h.1; omega), fun h => ⟨hm, .inl ⟨rfl, h⟩⟩⟩
  clear hr hf hb
  rw [hm] at H
  have d0 : ((ms.length : Int) == 0) = false := by rw [beq_eq_false_iff_ne]; omega
  have d00 : ms ≠ [] := by intro h; rw [h] at hp; simp at hp
  go_enter Tryz.func73, Tryz.ntmps73
  go_wp2_with fail
  refine H.out.mono ?_
  rintro e w2 ⟨rfl, hb2⟩
  have B2 := Lib.hid (B1.out.trans (hb2.mono B1.out.size))
  have HA2 := Lib.hid (HA.out.up hb2)
  clear hb2
  obtain ⟨c0, c1, c2, c3⟩ := HA2.out
  have lt2 := lt_of_cell c0
  have T0 := Lib.hid (two_new (w := w2))
  have B3 : Hid (Below w2.heap.size w2 ((w2.alloc (.cells #[] 23)).alloc (.cells #[] 23))) := ((Below.refl _ _).alloc (Nat.le_refl _) _).alloc (by simp) _
  go_wp2
  clear c0 c1 c2 c3
  go_loopg [11, 12, 13, 44] (ms.length + 1) (fun g s11 s12 s13 i wr => ∃ k : Nat, g + k = ms.length + 1 ∧ k ≤ ms.length ∧ i = .int .i64 k ∧ s13 = .int .i64 (endS ms k) ∧ Two wr w2.heap.size s11 (partsL r id ms k) s12 (linesL r id ms k) ∧ Below w2.heap.size w2 wr ∧ fitS r.w ms k)
  case atStart => exact ⟨0, by omega, by omega, rfl, rfl, T0.out, B3.out, fun k m hk => by omega⟩
  case round =>
    obtain ⟨k, hg, hk, rfl, rfl, hT, hB, hfit⟩ := hrel
    have TW := Lib.hid hT
    have HB : Hid (Below w2.heap.size w2 wr ∧ gk + k = ms.length + 1 ∧ fitS r.w ms k) := ⟨hB, hg, hfit⟩
    have hoff := off_nonneg hfit k (Nat.le_refl _) hk
    have hend := off_le hfit (Nat.le_refl k) hk (by have := HM.out; omega)
    clear hT hB hg hfit
    have HBw : Hid (Below w.heap.size w wr) := B2.out.trans (HB.out.1.mono B2.out.size)
    have HA3 := Lib.hid (HA2.out.up HB.out.1)
    have hbs : Hid (w2.heap.size ≤ wr.heap.size) := HB.out.1.size
    by_cases hlt : k < ms.length
    · obtain ⟨m, hmk⟩ : ∃ m, ms[k]? = some m := ⟨_, List.getElem?_eq_getElem hlt⟩
      obtain ⟨b, off, rfl, hat⟩ := HR.out.place (by omega)
      have HCm : Hid (∀ W, Below w.heap.size w W → W.cell? ⟨b, off + k, none⟩ = some (.int .i64 m)) := fun W hW => (hW.cell (lt_of_cell (hat k m hmk))).trans (hat k m hmk)
      clear hat
      have HMk := Lib.hid hmk
      clear hmk
      have hml : (k : Int) < (ms.length : Int) := by omega
      have HE := Lib.hid (end_succ HMk.out)
      have HF1 : Hid (∀ h : 1 ≤ m ∧ offS ms k + m ≤ r.w, fitS r.w ms (k + 1)) := fun h j m' hj hm' => by
        rcases Nat.lt_or_ge j k with h1 | h1
        · exact HB.out.2.2 j m' h1 hm'
        · obtain rfl : j = k := by omega
          have := HMk.out.symm.trans hm'
          obtain rfl := Option.some.inj this
          exact h
      have HF0 : Hid (∀ h : ¬ (1 ≤ m ∧ offS ms k + m ≤ r.w), ¬ cutP r 1 ms) := fun h hc => h ((HCut.out.1 hc).1 k m hlt HMk.out)
      rcases Nat.eq_zero_or_pos k with hk0 | hkp
      · have hz : offS ms k = 0 := by rw [hk0]; rfl
        have he0 : endS ms k = 0 := by rw [hk0]; rfl
        have HL0 : Hid (linesL r id ms (k + 1) = linesL r id ms k) := (by rw [hk0]; rfl : linesL r id ms (k + 1) = linesL r id ms k)
        obtain ⟨p, hp0⟩ : ∃ p, endS ms k = p := ⟨_, rfl⟩
        rw [hp0]
        have HP : Hid (p = offS ms k) := (by omega : p = offS ms k)
        have hpb : Hid (0 ≤ p ∧ p ≤ 10000) := (by omega : 0 ≤ p ∧ p ≤ 10000)
        have d0 : decide (0 < k) = false := by simp; omega
        have H3A := Lib.hid HA3.out
        have H3w := Lib.hid HBw.out
        have H3b := Lib.hid HB.out.1
        clear hoff hend hz he0 hp0 hk0
        obtain ⟨c0, c1, c2, c3⟩ := H3A.out
        have cm := HCm.out wr H3w.out
        by_cases t1 : m < 1
        · have e1 : decide (m < 1) = true := decide_eq_true t1
          go_wp2
          go_ret3
          exact rcut_no (HF0.out (by omega)) H3w.out
        have e1 : decide (m < 1) = false := decide_eq_false t1
        by_cases t2 : r.w < m
        · have e2 : decide (r.w < m) = true := decide_eq_true t2
          go_wp2
          go_ret3
          exact rcut_no (HF0.out (by have := HP.out; have := hpb.out; omega)) H3w.out
        have e2 : decide (r.w < m) = false := decide_eq_false t2
        have s2 : IntKind.i64.wrap (p + m) = p + m := wrap_id (by have := hpb.out; have := HM.out; omega)
        by_cases t3 : r.w < p + m
        · have e3 : decide (r.w < p + m) = true := decide_eq_true t3
          go_wp2
          go_ret3
          exact rcut_no (HF0.out (by have := HP.out; omega)) H3w.out
        have e3 : decide (r.w < p + m) = false := decide_eq_false t3
        have s3 : IntKind.i64.wrap (r.x + p) = r.x + p := wrap_id (by have := hpb.out; have := HM.out; omega)
        have HQ : Hid (id (⟨r.x + offS ms k, r.y, m, r.h⟩ : R) = ⟨r.x + p, r.y, m, r.h⟩) := (by rw [← HP.out]; rfl : id (⟨r.x + offS ms k, r.y, m, r.h⟩ : R) = (⟨r.x + p, r.y, m, r.h⟩ : R))
        have HFk := Lib.hid (HF1.out (by have := HP.out; omega))
        have TD := Lib.hid (TW.out.drew.up ((Below.refl _ _).alloc (Nat.le_refl _) (box ⟨r.x + p, r.y, m, r.h⟩)))
        have BD := Lib.hid (H3b.out.drew)
        have S0 := Lib.hid (c5_of H3A.out cm)
        have S1 := Lib.hid (c5_of (H3A.out.up ((Below.refl _ wr).drew.alloc (Nat.le_refl _) (box ⟨r.x + p, r.y, m, r.h⟩))) (HCm.out _ (H3w.out.drew.alloc H3w.out.size (box ⟨r.x + p, r.y, m, r.h⟩))))
        have B5 := Lib.hid (BD.out.alloc BD.out.size (box ⟨r.x + p, r.y, m, r.h⟩))
        have HLn : Hid ((partsL r id ms k).length ≤ 100000) := (by rw [partsL_length]; omega : (partsL r id ms k).length ≤ 100000)
        go_wp2
        go_region_held3 (fun W => W.cell? ⟨w.heap.size, 0, none⟩ = some (.int .i64 r.x) ∧ W.cell? ⟨w.heap.size, 1, none⟩ = some (.int .i64 r.y) ∧ W.cell? ⟨w.heap.size, 2, none⟩ = some (.int .i64 r.w) ∧ W.cell? ⟨w.heap.size, 3, none⟩ = some (.int .i64 r.h) ∧ W.cell? ⟨b, off + k, none⟩ = some (.int .i64 m)) (first | exact S0.out | exact S1.out | exact S6.out) (first | (refine step_two rfl _ _ rfl w2.heap.size _ _ _ _ wr.heap.size ⟨r.x + p, r.y, m, r.h⟩ rfl TD.out rfl (rat_new wr.drew ⟨r.x + p, r.y, m, r.h⟩) HLn.out w2 B5.out (Nat.le_refl _) ?_; intro v6 w6 hT6 hB6; have T6 := Lib.hid hT6; have B6 := Lib.hid hB6; have S6 := Lib.hid (c5_of (HA2.out.up hB6) (HCm.out w6 (B2.out.trans (hB6.mono B2.out.size)))); clear hT6 hB6))
        have cm6 := S6.out.2.2.2.2
        clear c0 c1 c2 c3 cm
        go_wp2
        go_roundg (gk - 1)
        case measure => have := HB.out.2.1; omega
        case rel =>
          refine ⟨k + 1, ?_, by omega, by go_num, ?_, ?_, B6.out, HFk.out⟩
          · have := HB.out.2.1; omega
          · exact congrArg (Value.int .i64) (by rw [HE.out]; have := HP.out; omega)
          · rw [partsL_succ HMk.out, HL0.out]
            rw [HQ.out]
            exact T6.out
      · have hz := end_pos ms hkp
        obtain ⟨p, hp0⟩ : ∃ p, endS ms k = p := ⟨_, rfl⟩
        rw [hp0]
        have hpx : Hid (0 ≤ p ∧ p + 1 ≤ 10001) := (by have := HM.out; omega : 0 ≤ p ∧ p + 1 ≤ 10001)
        have s1 : IntKind.i64.wrap (r.x + p) = r.x + p := wrap_id (by have := hpx.out; have := HM.out; omega)
        have s1' : IntKind.i64.wrap (p + 1) = p + 1 := wrap_id (by have := hpx.out; omega)
        have HL : Hid (id (⟨r.x + endS ms k, r.y, 1, r.h⟩ : R) = ⟨r.x + p, r.y, 1, r.h⟩) := (by rw [hp0]; rfl : id (⟨r.x + endS ms k, r.y, 1, r.h⟩ : R) = (⟨r.x + p, r.y, 1, r.h⟩ : R))
        have HP : Hid (p + 1 = offS ms k) := (by omega : p + 1 = offS ms k)
        have hpb : Hid (0 ≤ p + 1 ∧ p + 1 ≤ 10001) := (by have := hpx.out; omega : 0 ≤ p + 1 ∧ p + 1 ≤ 10001)
        have d0 : (0 : Int) < (k : Int) := by omega
        clear hoff hend hz hp0
        have T2 := Lib.hid ((TW.out.swap).up ((Below.refl _ _).alloc (Nat.le_refl _) (box ⟨r.x + p, r.y, 1, r.h⟩)))
        have B4 := Lib.hid (HB.out.1.alloc HB.out.1.size (box ⟨r.x + p, r.y, 1, r.h⟩))
        obtain ⟨c0, c1, c2, c3⟩ := HA3.out
        go_wp2_with (at_builtin; refine wpList_two rfl _ _ rfl w2.heap.size _ _ _ _ wr.heap.size ⟨r.x + p, r.y, 1, r.h⟩ rfl T2.out rfl (rat_new wr ⟨r.x + p, r.y, 1, r.h⟩) ?_ w2 B4.out (Nat.le_refl _) ?_)
        · rw [linesL_length]; omega
        intro v3 w3 hT3 hB3
        have T3 := Lib.hid hT3.swap
        have H3b := Lib.hid hB3
        have H3w : Hid (Below w.heap.size w w3) := B2.out.trans (hB3.mono B2.out.size)
        have H3A := Lib.hid (HA2.out.up hB3)
        clear hT3 hB3 c0 c1 c2 c3
        obtain ⟨c0, c1, c2, c3⟩ := H3A.out
        have cm := HCm.out w3 H3w.out
        by_cases t1 : m < 1
        · have e1 : decide (m < 1) = true := decide_eq_true t1
          go_wp2
          go_ret3
          exact rcut_no (HF0.out (by omega)) H3w.out
        have e1 : decide (m < 1) = false := decide_eq_false t1
        by_cases t2 : r.w < m
        · have e2 : decide (r.w < m) = true := decide_eq_true t2
          go_wp2
          go_ret3
          exact rcut_no (HF0.out (by have := HP.out; have := hpb.out; omega)) H3w.out
        have e2 : decide (r.w < m) = false := decide_eq_false t2
        have s2 : IntKind.i64.wrap ((p + 1) + m) = (p + 1) + m := wrap_id (by have := hpb.out; have := HM.out; omega)
        by_cases t3 : r.w < (p + 1) + m
        · have e3 : decide (r.w < (p + 1) + m) = true := decide_eq_true t3
          go_wp2
          go_ret3
          exact rcut_no (HF0.out (by have := HP.out; omega)) H3w.out
        have e3 : decide (r.w < (p + 1) + m) = false := decide_eq_false t3
        have s3 : IntKind.i64.wrap (r.x + (p + 1)) = r.x + (p + 1) := wrap_id (by have := hpb.out; have := HM.out; omega)
        have HQ : Hid (id (⟨r.x + offS ms k, r.y, m, r.h⟩ : R) = ⟨r.x + (p + 1), r.y, m, r.h⟩) := (by rw [← HP.out]; rfl : id (⟨r.x + offS ms k, r.y, m, r.h⟩ : R) = (⟨r.x + (p + 1), r.y, m, r.h⟩ : R))
        have HFk := Lib.hid (HF1.out (by have := HP.out; omega))
        have TD := Lib.hid (T3.out.drew.up ((Below.refl _ _).alloc (Nat.le_refl _) (box ⟨r.x + (p + 1), r.y, m, r.h⟩)))
        have BD := Lib.hid (H3b.out.drew)
        have S0 := Lib.hid (c5_of H3A.out cm)
        have S1 := Lib.hid (c5_of (H3A.out.up ((Below.refl _ w3).drew.alloc (Nat.le_refl _) (box ⟨r.x + (p + 1), r.y, m, r.h⟩))) (HCm.out _ (H3w.out.drew.alloc H3w.out.size (box ⟨r.x + (p + 1), r.y, m, r.h⟩))))
        have B5 := Lib.hid (BD.out.alloc BD.out.size (box ⟨r.x + (p + 1), r.y, m, r.h⟩))
        have HLn : Hid ((partsL r id ms k).length ≤ 100000) := (by rw [partsL_length]; omega : (partsL r id ms k).length ≤ 100000)
        go_wp2
        go_region_held3 (fun W => W.cell? ⟨w.heap.size, 0, none⟩ = some (.int .i64 r.x) ∧ W.cell? ⟨w.heap.size, 1, none⟩ = some (.int .i64 r.y) ∧ W.cell? ⟨w.heap.size, 2, none⟩ = some (.int .i64 r.w) ∧ W.cell? ⟨w.heap.size, 3, none⟩ = some (.int .i64 r.h) ∧ W.cell? ⟨b, off + k, none⟩ = some (.int .i64 m)) (first | exact S0.out | exact S1.out | exact S6.out) (first | (refine step_two rfl _ _ rfl w2.heap.size _ _ _ _ w3.heap.size ⟨r.x + (p + 1), r.y, m, r.h⟩ rfl TD.out rfl (rat_new w3.drew ⟨r.x + (p + 1), r.y, m, r.h⟩) HLn.out w2 B5.out (Nat.le_refl _) ?_; intro v6 w6 hT6 hB6; have T6 := Lib.hid hT6; have B6 := Lib.hid hB6; have S6 := Lib.hid (c5_of (HA2.out.up hB6) (HCm.out w6 (B2.out.trans (hB6.mono B2.out.size)))); clear hT6 hB6))
        have cm6 := S6.out.2.2.2.2
        clear c0 c1 c2 c3 cm
        go_wp2
        go_roundg (gk - 1)
        case measure => have := HB.out.2.1; omega
        case rel =>
          refine ⟨k + 1, ?_, by omega, by go_num, ?_, ?_, B6.out, HFk.out⟩
          · have := HB.out.2.1; omega
          · exact congrArg (Value.int .i64) (by rw [HE.out]; have := HP.out; omega)
          · rw [partsL_succ HMk.out, linesL_pos hkp, HL.out]
            rw [HQ.out]
            exact T6.out
    · obtain rfl : k = ms.length := by omega
      have hkl : ((ms.length : Int) < (ms.length : Int)) = False := by simp
      have HPo := Lib.hid (end_pos ms hp)
      obtain ⟨p, hp0⟩ : ∃ p, endS ms ms.length = p := ⟨_, rfl⟩
      rw [hp0]
      have HP0 := Lib.hid hp0
      clear hp0 hoff hend
      by_cases hz : p = r.w
      · have d1 : (p != r.w) = false := by simp [hz]
        have HZ := Lib.hid hz
        clear hz
        go_wp2
        go_ret3
        have hfl : fillP r.w ms := ⟨HB.out.2.2, by have := HPo.out; have := HP0.out; have := HZ.out; omega⟩
        exact ⟨_, _, true, rfl, ⟨fun _ => HCut.out.2 hfl, fun _ => rfl⟩, TW.out.own1.row, TW.out.own2.row, HBw.out⟩
      · have d1 : (p != r.w) = true := by simp [hz]
        have HZ := Lib.hid hz
        clear hz
        go_wp2
        go_ret3
        refine rcut_no (fun hc => ?_) HBw.out
        have h1 := (HCut.out.1 hc).2
        have := HPo.out
        have := HP0.out
        exact HZ.out (by omega)
end Go.Proofs.YtakofjbjciljjaaGreat
/- The document's own cut, down. -/
namespace Go.Proofs.YtakofjbjciljjaaGreat
open Go.RowKit

set_option maxRecDepth 100000 in
set_option maxHeartbeats 6400000 in
theorem rcut2_any (r : R) (v : Value) (ms : List Int) (w : World) (hf : r.fits) (hr : IRow w v ms) (hlen : ms.length ≤ 100000) (hm : mayB r = true) (hp : 0 < ms.length) :
    Calls Tryz.prog 73 #[val r, .int .u8 2, v] w fun e w' => CutSays r 2 ms w e w' := by
  obtain ⟨a, cap, rfl⟩ := hr.shape
  have HR := Lib.hid hr
  have B1 : Hid (Below w.heap.size w ((w.alloc (box r)).alloc (.cells #[] 23))) := ((Below.refl _ _).alloc (Nat.le_refl _) _).alloc (by simp) _
  have H := Lib.hid (rmay_any r ((w.alloc (box r)).alloc (.cells #[] 23)) hf)
  have HA : Hid (RAt ((w.alloc (box r)).alloc (.cells #[] 23)) w.heap.size 0 r) := (rat_new w r).up ((Below.refl _ _).alloc (Nat.le_refl _) _)
  have hb := (mayB_iff r).1 hm
  have HM : Hid ((0 ≤ r.x ∧ 1 ≤ r.w ∧ r.x + r.w ≤ 10000) ∧ 0 ≤ r.y ∧ 1 ≤ r.h ∧ r.y + r.h ≤ 10000) := hb
  have HCut : Hid (cutP r 2 ms ↔ fillP r.h ms) := ⟨fun h => by rcases h.2 with h | h <;> first | exact h.2 | (have := h.1; omega), fun h => ⟨hm, .inr ⟨rfl, h⟩⟩⟩
  clear hr hf hb
  rw [hm] at H
  have d0 : ((ms.length : Int) == 0) = false := by rw [beq_eq_false_iff_ne]; omega
  have d00 : ms ≠ [] := by intro h; rw [h] at hp; simp at hp
  go_enter Tryz.func73, Tryz.ntmps73
  go_wp2_with fail
  refine H.out.mono ?_
  rintro e w2 ⟨rfl, hb2⟩
  have B2 := Lib.hid (B1.out.trans (hb2.mono B1.out.size))
  have HA2 := Lib.hid (HA.out.up hb2)
  clear hb2
  obtain ⟨c0, c1, c2, c3⟩ := HA2.out
  have lt2 := lt_of_cell c0
  have T0 := Lib.hid (two_new (w := w2))
  have B3 : Hid (Below w2.heap.size w2 ((w2.alloc (.cells #[] 23)).alloc (.cells #[] 23))) := ((Below.refl _ _).alloc (Nat.le_refl _) _).alloc (by simp) _
  go_wp2
  clear c0 c1 c2 c3
  go_loopg [11, 12, 13, 44] (ms.length + 1) (fun g s11 s12 s13 i wr => ∃ k : Nat, g + k = ms.length + 1 ∧ k ≤ ms.length ∧ i = .int .i64 k ∧ s13 = .int .i64 (endS ms k) ∧ Two wr w2.heap.size s11 (partsL (turnR r) turnR ms k) s12 (linesL (turnR r) turnR ms k) ∧ Below w2.heap.size w2 wr ∧ fitS r.h ms k)
  case atStart => exact ⟨0, by omega, by omega, rfl, rfl, T0.out, B3.out, fun k m hk => by omega⟩
  case round =>
    obtain ⟨k, hg, hk, rfl, rfl, hT, hB, hfit⟩ := hrel
    have TW := Lib.hid hT
    have HB : Hid (Below w2.heap.size w2 wr ∧ gk + k = ms.length + 1 ∧ fitS r.h ms k) := ⟨hB, hg, hfit⟩
    have hoff := off_nonneg hfit k (Nat.le_refl _) hk
    have hend := off_le hfit (Nat.le_refl k) hk (by have := HM.out; omega)
    clear hT hB hg hfit
    have HBw : Hid (Below w.heap.size w wr) := B2.out.trans (HB.out.1.mono B2.out.size)
    have HA3 := Lib.hid (HA2.out.up HB.out.1)
    have hbs : Hid (w2.heap.size ≤ wr.heap.size) := HB.out.1.size
    by_cases hlt : k < ms.length
    · obtain ⟨m, hmk⟩ : ∃ m, ms[k]? = some m := ⟨_, List.getElem?_eq_getElem hlt⟩
      obtain ⟨b, off, rfl, hat⟩ := HR.out.place (by omega)
      have HCm : Hid (∀ W, Below w.heap.size w W → W.cell? ⟨b, off + k, none⟩ = some (.int .i64 m)) := fun W hW => (hW.cell (lt_of_cell (hat k m hmk))).trans (hat k m hmk)
      clear hat
      have HMk := Lib.hid hmk
      clear hmk
      have hml : (k : Int) < (ms.length : Int) := by omega
      have HE := Lib.hid (end_succ HMk.out)
      have HF1 : Hid (∀ h : 1 ≤ m ∧ offS ms k + m ≤ r.h, fitS r.h ms (k + 1)) := fun h j m' hj hm' => by
        rcases Nat.lt_or_ge j k with h1 | h1
        · exact HB.out.2.2 j m' h1 hm'
        · obtain rfl : j = k := by omega
          have := HMk.out.symm.trans hm'
          obtain rfl := Option.some.inj this
          exact h
      have HF0 : Hid (∀ h : ¬ (1 ≤ m ∧ offS ms k + m ≤ r.h), ¬ cutP r 2 ms) := fun h hc => h ((HCut.out.1 hc).1 k m hlt HMk.out)
      rcases Nat.eq_zero_or_pos k with hk0 | hkp
      · have hz : offS ms k = 0 := by rw [hk0]; rfl
        have he0 : endS ms k = 0 := by rw [hk0]; rfl
        have HL0 : Hid (linesL (turnR r) turnR ms (k + 1) = linesL (turnR r) turnR ms k) := (by rw [hk0]; rfl : linesL (turnR r) turnR ms (k + 1) = linesL (turnR r) turnR ms k)
        obtain ⟨p, hp0⟩ : ∃ p, endS ms k = p := ⟨_, rfl⟩
        rw [hp0]
        have HP : Hid (p = offS ms k) := (by omega : p = offS ms k)
        have hpb : Hid (0 ≤ p ∧ p ≤ 10000) := (by omega : 0 ≤ p ∧ p ≤ 10000)
        have d0 : decide (0 < k) = false := by simp; omega
        have H3A := Lib.hid HA3.out
        have H3w := Lib.hid HBw.out
        have H3b := Lib.hid HB.out.1
        clear hoff hend hz he0 hp0 hk0
        obtain ⟨c0, c1, c2, c3⟩ := H3A.out
        have cm := HCm.out wr H3w.out
        by_cases t1 : m < 1
        · have e1 : decide (m < 1) = true := decide_eq_true t1
          go_wp2
          go_ret3
          exact rcut_no (HF0.out (by omega)) H3w.out
        have e1 : decide (m < 1) = false := decide_eq_false t1
        by_cases t2 : r.h < m
        · have e2 : decide (r.h < m) = true := decide_eq_true t2
          go_wp2
          go_ret3
          exact rcut_no (HF0.out (by have := HP.out; have := hpb.out; omega)) H3w.out
        have e2 : decide (r.h < m) = false := decide_eq_false t2
        have s2 : IntKind.i64.wrap (p + m) = p + m := wrap_id (by have := hpb.out; have := HM.out; omega)
        by_cases t3 : r.h < p + m
        · have e3 : decide (r.h < p + m) = true := decide_eq_true t3
          go_wp2
          go_ret3
          exact rcut_no (HF0.out (by have := HP.out; omega)) H3w.out
        have e3 : decide (r.h < p + m) = false := decide_eq_false t3
        have s3 : IntKind.i64.wrap (r.y + p) = r.y + p := wrap_id (by have := hpb.out; have := HM.out; omega)
        have HQ : Hid (turnR (⟨(turnR r).x + offS ms k, (turnR r).y, m, (turnR r).h⟩ : R) = ⟨r.x, r.y + p, r.w, m⟩) := (by rw [← HP.out]; rfl : turnR (⟨(turnR r).x + offS ms k, (turnR r).y, m, (turnR r).h⟩ : R) = (⟨r.x, r.y + p, r.w, m⟩ : R))
        have HFk := Lib.hid (HF1.out (by have := HP.out; omega))
        have TD := Lib.hid (TW.out.drew.up ((Below.refl _ _).alloc (Nat.le_refl _) (box ⟨r.x, r.y + p, r.w, m⟩)))
        have BD := Lib.hid (H3b.out.drew)
        have S0 := Lib.hid (c5_of H3A.out cm)
        have S1 := Lib.hid (c5_of (H3A.out.up ((Below.refl _ wr).drew.alloc (Nat.le_refl _) (box ⟨r.x, r.y + p, r.w, m⟩))) (HCm.out _ (H3w.out.drew.alloc H3w.out.size (box ⟨r.x, r.y + p, r.w, m⟩))))
        have B5 := Lib.hid (BD.out.alloc BD.out.size (box ⟨r.x, r.y + p, r.w, m⟩))
        have HLn : Hid ((partsL (turnR r) turnR ms k).length ≤ 100000) := (by rw [partsL_length]; omega : (partsL (turnR r) turnR ms k).length ≤ 100000)
        go_wp2
        go_region_held3 (fun W => W.cell? ⟨w.heap.size, 0, none⟩ = some (.int .i64 r.x) ∧ W.cell? ⟨w.heap.size, 1, none⟩ = some (.int .i64 r.y) ∧ W.cell? ⟨w.heap.size, 2, none⟩ = some (.int .i64 r.w) ∧ W.cell? ⟨w.heap.size, 3, none⟩ = some (.int .i64 r.h) ∧ W.cell? ⟨b, off + k, none⟩ = some (.int .i64 m)) (first | exact S0.out | exact S1.out | exact S6.out) (first | (refine step_two rfl _ _ rfl w2.heap.size _ _ _ _ wr.heap.size ⟨r.x, r.y + p, r.w, m⟩ rfl TD.out rfl (rat_new wr.drew ⟨r.x, r.y + p, r.w, m⟩) HLn.out w2 B5.out (Nat.le_refl _) ?_; intro v6 w6 hT6 hB6; have T6 := Lib.hid hT6; have B6 := Lib.hid hB6; have S6 := Lib.hid (c5_of (HA2.out.up hB6) (HCm.out w6 (B2.out.trans (hB6.mono B2.out.size)))); clear hT6 hB6))
        have cm6 := S6.out.2.2.2.2
        clear c0 c1 c2 c3 cm
        go_wp2
        go_roundg (gk - 1)
        case measure => have := HB.out.2.1; omega
        case rel =>
          refine ⟨k + 1, ?_, by omega, by go_num, ?_, ?_, B6.out, HFk.out⟩
          · have := HB.out.2.1; omega
          · exact congrArg (Value.int .i64) (by rw [HE.out]; have := HP.out; omega)
          · rw [partsL_succ HMk.out, HL0.out]
            rw [HQ.out]
            exact T6.out
      · have hz := end_pos ms hkp
        obtain ⟨p, hp0⟩ : ∃ p, endS ms k = p := ⟨_, rfl⟩
        rw [hp0]
        have hpx : Hid (0 ≤ p ∧ p + 1 ≤ 10001) := (by have := HM.out; omega : 0 ≤ p ∧ p + 1 ≤ 10001)
        have s1 : IntKind.i64.wrap (r.y + p) = r.y + p := wrap_id (by have := hpx.out; have := HM.out; omega)
        have s1' : IntKind.i64.wrap (p + 1) = p + 1 := wrap_id (by have := hpx.out; omega)
        have HL : Hid (turnR (⟨(turnR r).x + endS ms k, (turnR r).y, 1, (turnR r).h⟩ : R) = ⟨r.x, r.y + p, r.w, 1⟩) := (by rw [hp0]; rfl : turnR (⟨(turnR r).x + endS ms k, (turnR r).y, 1, (turnR r).h⟩ : R) = (⟨r.x, r.y + p, r.w, 1⟩ : R))
        have HP : Hid (p + 1 = offS ms k) := (by omega : p + 1 = offS ms k)
        have hpb : Hid (0 ≤ p + 1 ∧ p + 1 ≤ 10001) := (by have := hpx.out; omega : 0 ≤ p + 1 ∧ p + 1 ≤ 10001)
        have d0 : (0 : Int) < (k : Int) := by omega
        clear hoff hend hz hp0
        have T2 := Lib.hid ((TW.out.swap).up ((Below.refl _ _).alloc (Nat.le_refl _) (box ⟨r.x, r.y + p, r.w, 1⟩)))
        have B4 := Lib.hid (HB.out.1.alloc HB.out.1.size (box ⟨r.x, r.y + p, r.w, 1⟩))
        obtain ⟨c0, c1, c2, c3⟩ := HA3.out
        go_wp2_with (at_builtin; refine wpList_two rfl _ _ rfl w2.heap.size _ _ _ _ wr.heap.size ⟨r.x, r.y + p, r.w, 1⟩ rfl T2.out rfl (rat_new wr ⟨r.x, r.y + p, r.w, 1⟩) ?_ w2 B4.out (Nat.le_refl _) ?_)
        · rw [linesL_length]; omega
        intro v3 w3 hT3 hB3
        have T3 := Lib.hid hT3.swap
        have H3b := Lib.hid hB3
        have H3w : Hid (Below w.heap.size w w3) := B2.out.trans (hB3.mono B2.out.size)
        have H3A := Lib.hid (HA2.out.up hB3)
        clear hT3 hB3 c0 c1 c2 c3
        obtain ⟨c0, c1, c2, c3⟩ := H3A.out
        have cm := HCm.out w3 H3w.out
        by_cases t1 : m < 1
        · have e1 : decide (m < 1) = true := decide_eq_true t1
          go_wp2
          go_ret3
          exact rcut_no (HF0.out (by omega)) H3w.out
        have e1 : decide (m < 1) = false := decide_eq_false t1
        by_cases t2 : r.h < m
        · have e2 : decide (r.h < m) = true := decide_eq_true t2
          go_wp2
          go_ret3
          exact rcut_no (HF0.out (by have := HP.out; have := hpb.out; omega)) H3w.out
        have e2 : decide (r.h < m) = false := decide_eq_false t2
        have s2 : IntKind.i64.wrap ((p + 1) + m) = (p + 1) + m := wrap_id (by have := hpb.out; have := HM.out; omega)
        by_cases t3 : r.h < (p + 1) + m
        · have e3 : decide (r.h < (p + 1) + m) = true := decide_eq_true t3
          go_wp2
          go_ret3
          exact rcut_no (HF0.out (by have := HP.out; omega)) H3w.out
        have e3 : decide (r.h < (p + 1) + m) = false := decide_eq_false t3
        have s3 : IntKind.i64.wrap (r.y + (p + 1)) = r.y + (p + 1) := wrap_id (by have := hpb.out; have := HM.out; omega)
        have HQ : Hid (turnR (⟨(turnR r).x + offS ms k, (turnR r).y, m, (turnR r).h⟩ : R) = ⟨r.x, r.y + (p + 1), r.w, m⟩) := (by rw [← HP.out]; rfl : turnR (⟨(turnR r).x + offS ms k, (turnR r).y, m, (turnR r).h⟩ : R) = (⟨r.x, r.y + (p + 1), r.w, m⟩ : R))
        have HFk := Lib.hid (HF1.out (by have := HP.out; omega))
        have TD := Lib.hid (T3.out.drew.up ((Below.refl _ _).alloc (Nat.le_refl _) (box ⟨r.x, r.y + (p + 1), r.w, m⟩)))
        have BD := Lib.hid (H3b.out.drew)
        have S0 := Lib.hid (c5_of H3A.out cm)
        have S1 := Lib.hid (c5_of (H3A.out.up ((Below.refl _ w3).drew.alloc (Nat.le_refl _) (box ⟨r.x, r.y + (p + 1), r.w, m⟩))) (HCm.out _ (H3w.out.drew.alloc H3w.out.size (box ⟨r.x, r.y + (p + 1), r.w, m⟩))))
        have B5 := Lib.hid (BD.out.alloc BD.out.size (box ⟨r.x, r.y + (p + 1), r.w, m⟩))
        have HLn : Hid ((partsL (turnR r) turnR ms k).length ≤ 100000) := (by rw [partsL_length]; omega : (partsL (turnR r) turnR ms k).length ≤ 100000)
        go_wp2
        go_region_held3 (fun W => W.cell? ⟨w.heap.size, 0, none⟩ = some (.int .i64 r.x) ∧ W.cell? ⟨w.heap.size, 1, none⟩ = some (.int .i64 r.y) ∧ W.cell? ⟨w.heap.size, 2, none⟩ = some (.int .i64 r.w) ∧ W.cell? ⟨w.heap.size, 3, none⟩ = some (.int .i64 r.h) ∧ W.cell? ⟨b, off + k, none⟩ = some (.int .i64 m)) (first | exact S0.out | exact S1.out | exact S6.out) (first | (refine step_two rfl _ _ rfl w2.heap.size _ _ _ _ w3.heap.size ⟨r.x, r.y + (p + 1), r.w, m⟩ rfl TD.out rfl (rat_new w3.drew ⟨r.x, r.y + (p + 1), r.w, m⟩) HLn.out w2 B5.out (Nat.le_refl _) ?_; intro v6 w6 hT6 hB6; have T6 := Lib.hid hT6; have B6 := Lib.hid hB6; have S6 := Lib.hid (c5_of (HA2.out.up hB6) (HCm.out w6 (B2.out.trans (hB6.mono B2.out.size)))); clear hT6 hB6))
        have cm6 := S6.out.2.2.2.2
        clear c0 c1 c2 c3 cm
        go_wp2
        go_roundg (gk - 1)
        case measure => have := HB.out.2.1; omega
        case rel =>
          refine ⟨k + 1, ?_, by omega, by go_num, ?_, ?_, B6.out, HFk.out⟩
          · have := HB.out.2.1; omega
          · exact congrArg (Value.int .i64) (by rw [HE.out]; have := HP.out; omega)
          · rw [partsL_succ HMk.out, linesL_pos hkp, HL.out]
            rw [HQ.out]
            exact T6.out
    · obtain rfl : k = ms.length := by omega
      have hkl : ((ms.length : Int) < (ms.length : Int)) = False := by simp
      have HPo := Lib.hid (end_pos ms hp)
      obtain ⟨p, hp0⟩ : ∃ p, endS ms ms.length = p := ⟨_, rfl⟩
      rw [hp0]
      have HP0 := Lib.hid hp0
      clear hp0 hoff hend
      by_cases hz : p = r.h
      · have d1 : (p != r.h) = false := by simp [hz]
        have HZ := Lib.hid hz
        clear hz
        go_wp2
        go_ret3
        have hfl : fillP r.h ms := ⟨HB.out.2.2, by have := HPo.out; have := HP0.out; have := HZ.out; omega⟩
        exact ⟨_, _, true, rfl, ⟨fun _ => HCut.out.2 hfl, fun _ => rfl⟩, TW.out.own1.row, TW.out.own2.row, HBw.out⟩
      · have d1 : (p != r.h) = true := by simp [hz]
        have HZ := Lib.hid hz
        clear hz
        go_wp2
        go_ret3
        refine rcut_no (fun hc => ?_) HBw.out
        have h1 := (HCut.out.1 hc).2
        have := HPo.out
        have := HP0.out
        exact HZ.out (by omega)
end Go.Proofs.YtakofjbjciljjaaGreat
/- The document's answer: does a cell tile, and its lines. -/
namespace Go.Proofs.YtakofjbjciljjaaGreat
open Go.RowKit

theorem rcut_any (r : R) (ax : Int) (v : Value) (ms : List Int) (w : World) (hf : r.fits) (hr : IRow w v ms) (hlen : ms.length ≤ 100000) (hax : 0 ≤ ax ∧ ax ≤ 255) :
    Calls Tryz.prog 73 #[val r, .int .u8 ax, v] w fun e w' => CutSays r ax ms w e w' := by
  by_cases h : mayB r = true ∧ (ax = 1 ∨ ax = 2) ∧ 0 < ms.length
  · obtain ⟨hm, hx, hp⟩ := h
    rcases hx with rfl | rfl
    · exact rcut1_any r v ms w hf hr hlen hm hp
    · exact rcut2_any r v ms w hf hr hlen hm hp
  · exact rcut_not r ax v ms w hf hr hax h

def rsizesT (t : T) : List Int := if t.k = 2 then wsT t else hsT t
theorem rs_len (t : T) : (rsizesT t).length = t.kids.length := by unfold rsizesT; split; exact ws_len t; exact hs_len t
def pickR (b : Bool) (r : R) : Int := if b = true then r.w else r.h
theorem rs_step {t u : T} {k : Nat} (h : t.kids[k]? = some u) : (rsizesT t).take (k + 1) = (rsizesT t).take k ++ [pickR (decide (t.k = 2)) u.r] := by
  unfold rsizesT pickR
  by_cases h2 : t.k = 2
  · rw [if_pos h2, ws_step h]; simp [h2]
  · rw [if_neg h2, hs_step h]; simp [h2]

set_option maxRecDepth 100000 in
set_option maxHeartbeats 1600000 in
theorem rsizes_any (t : T) (c : C) (w : World) (hi : Is w c t) (hl : t.kids.length ≤ 20000) :
    Calls Tryz.prog 74 #[cval c] w fun e w' => ∃ v, e = .returned v ∧ IRow w' v (rsizesT t) ∧ Below w.heap.size w w' := by
  have HA : Hid (Below w.heap.size w (w.alloc (cbox c))) := (Below.refl _ _).alloc (Nat.le_refl _) _
  have HA2 : Hid (Below w.heap.size w ((w.alloc (cbox c)).alloc (.cells #[] 3))) := Lib.hid (HA.out.alloc (by simp) _)
  have HC := Lib.hid ((cbox_new w c).up ((Below.refl _ _).alloc (Nat.le_refl _) (.cells #[] 3)))
  have HO := Lib.hid (OwnN.empty (w.alloc (cbox c)) (w.heap.size + 1) (by simp))
  have HSZ2 : Hid (w.heap.size + 1 ≤ ((w.alloc (cbox c)).alloc (.cells #[] 3)).heap.size) := Lib.hid (by simp)
  have HROW := Lib.hid hi.row
  have hcn := hi.n
  have hck : t.k = c.k := hi.split.1
  clear hi
  obtain ⟨ck, cr, cid, ca, cn, ccap⟩ := c
  simp only at hcn hck
  subst hcn
  have HST := Lib.hid (fun (k : Nat) (u : T) (h : t.kids[k]? = some u) => rs_step h)
  rw [hck] at HST
  go_enter Tryz.func74, Tryz.ntmps74
  go_wp2
  go_loopg [3, 9] (t.kids.length + 1) (fun g v i wr => ∃ k : Nat, g + k = t.kids.length + 1 ∧ k ≤ t.kids.length ∧ i = .int .i64 k ∧ TwoI wr (w.heap.size + 1) v ((rsizesT t).take k) (.slice none 0 0) [] ∧ Below (w.heap.size + 1) ((w.alloc (cbox ⟨ck, cr, cid, ca, t.kids.length, ccap⟩)).alloc (.cells #[] 3)) wr)
  case atStart => exact ⟨0, by omega, by omega, rfl, ⟨by simpa using HO.out, OwnN.nil _ _, fun k _ h => by cases h⟩, Below.refl _ _⟩
  case round =>
    obtain ⟨k, hg, hk, rfl, htw, hb⟩ := hrel
    have HG := Lib.hid hg
    have HT := Lib.hid htw
    have HB := Lib.hid hb
    clear hg htw hb
    by_cases hlt : k < t.kids.length
    · obtain ⟨b, o, hca, hf⟩ := HROW.out.place (by omega)
      subst hca
      obtain ⟨u, hu⟩ : ∃ u, t.kids[k]? = some u := ⟨_, List.getElem?_eq_getElem hlt⟩
      obtain ⟨x, hx, hxi⟩ := hf k u hu
      have hxr : u.r = x.r := hxi.split.2.1
      have hBW : Below w.heap.size w wr := HA2.out.trans (HB.out.mono (by omega))
      obtain ⟨-, -, -, e3, e4, -, -⟩ := hx.up hBW
      have HSP := Lib.hid (HST.out k u hu)
      rw [hxr] at HSP
      obtain ⟨c0, -, -, -, -, -, c6⟩ := HC.out.upB HB.out (by omega)
      simp only [Nat.zero_add] at c6
      clear hf hx hxi hBW hu hxr
      have HLN : Hid (((rsizesT t).take k).length ≤ 100000) := Lib.hid (by rw [List.length_take, rs_len]; omega)
      have hki : (k : Int) < (t.kids.length : Int) := by omega
      by_cases h2 : ck = 2
      · subst h2
        have TD := Lib.hid (HT.out.alloc (.cells #[.int .i64 x.r.w] 3))
        have BD := Lib.hid (bel_alloc HB.out HSZ2.out (.cells #[.int .i64 x.r.w] 3))
        go_wp2_with (at_builtin; refine wpList_twoI rfl _ _ rfl (w.heap.size + 1) _ _ _ _ wr.heap.size x.r.w rfl TD.out rfl (by simp) HLN.out _ BD.out HSZ2.out ?_)
        intro v6 w6 hT6 hB6 _
        have T6 := Lib.hid hT6
        have B6 := Lib.hid hB6
        clear hT6 hB6
        go_wp2
        go_roundg (gk - 1)
        case measure => have := HG.out; omega
        case rel => exact ⟨k + 1, by have := HG.out; omega, by omega, by go_num, by rw [HSP.out]; exact T6.out, B6.out⟩
      · have d2 : (ck == 2) = false := by simpa using h2
        rw [decide_eq_false h2] at HSP
        have TD := Lib.hid (HT.out.alloc (.cells #[.int .i64 x.r.h] 3))
        have BD := Lib.hid (bel_alloc HB.out HSZ2.out (.cells #[.int .i64 x.r.h] 3))
        go_wp2_with (at_builtin; refine wpList_twoI rfl _ _ rfl (w.heap.size + 1) _ _ _ _ wr.heap.size x.r.h rfl TD.out rfl (by simp) HLN.out _ BD.out HSZ2.out ?_)
        intro v6 w6 hT6 hB6 _
        have T6 := Lib.hid hT6
        have B6 := Lib.hid hB6
        clear hT6 hB6
        go_wp2
        go_roundg (gk - 1)
        case measure => have := HG.out; omega
        case rel => exact ⟨k + 1, by have := HG.out; omega, by omega, by go_num, by rw [HSP.out]; exact T6.out, B6.out⟩
    · obtain rfl : k = t.kids.length := by omega
      have hkl : ((t.kids.length : Int) < (t.kids.length : Int)) = False := by simp
      have HT2 : Hid (TwoI wr (w.heap.size + 1) u3 (rsizesT t) (.slice none 0 0) []) := Lib.hid (by
        have h := HT.out
        rw [List.take_of_length_le (by rw [rs_len]; exact Nat.le_refl _)] at h
        exact h)
      have HBE := Lib.hid (HA2.out.trans (HB.out.mono (by omega)))
      go_wp2
      go_ret
      exact ⟨u3, rfl, HT2.out.own1.row, HBE.out⟩
end Go.Proofs.YtakofjbjciljjaaGreat
