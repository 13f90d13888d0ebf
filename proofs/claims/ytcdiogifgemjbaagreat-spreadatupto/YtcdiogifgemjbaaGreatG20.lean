/- Texts of this seat, 3 in one file. -/
import Derived.Test.YtcdiogifgemjbaaGreatG19
import Derived.Test.YtcdiogifgemjbaaGreatG13
import Derived.BigQuiet
import Derived.Deep.QuietTactic
/- The document's own cut, down. -/
namespace Go.Proofs.YtcdiogifgemjbaaGreat
open Go.RowKit

set_option maxRecDepth 100000 in
set_option maxHeartbeats 6400000 in
theorem rcut2_any (r : R) (v : Value) (ms : List Int) (w : World) (hf : r.fits) (hr : IRow w v ms) (hlen : ms.length ≤ 100000) (hm : mayB r = true) (hp : 0 < ms.length) :
    Calls Tryz.prog 73 #[val r, .int .u8 2, v] w fun e w' => CutSays r 2 ms w e w' := by
  obtain ⟨a, cap, rfl⟩ := hr.shape
  have HR := Lib.hid hr
  have B1 : Hid (Below w.heap.size w ((w.alloc (box r)).alloc (.cells #[] 23))) := ((Below.refl _ _).alloc (Nat.le_refl _) _).alloc (by simp) _
  have H := Lib.hid (rmay_any r ((w.alloc (box r)).alloc (.cells #[] 23)) hf)
  have HA : Hid (RAt ((w.alloc (box r)).alloc (.cells #[] 23)) w.heap.size 0 r) := (rat_new w r).up ((Below.refl _ _).alloc (Nat.le_refl _) _)
  have hb := (mayB_iff r).1 hm
  have HM : Hid ((0 ≤ r.x ∧ 1 ≤ r.w ∧ r.x + r.w ≤ 10000) ∧ 0 ≤ r.y ∧ 1 ≤ r.h ∧ r.y + r.h ≤ 10000) := hb
  have HCut : Hid (cutP r 2 ms ↔ fillP r.h ms) := ⟨fun h => by rcases h.2 with h | h <;> first | exact h.2 | (have := h.1; omega), fun h => ⟨hm, .inr ⟨rfl, h⟩⟩⟩
  clear hr hf hb
  rw [hm] at H
  have d0 : ((ms.length : Int) == 0) = false := by rw [beq_eq_false_iff_ne]; omega
  have d00 : ms ≠ [] := by intro h; rw [h] at hp; simp at hp
  go_enter Tryz.func73, Tryz.ntmps73
  go_wp2_with fail
  refine H.out.mono ?_
  rintro e w2 ⟨rfl, hb2⟩
  have B2 := Lib.hid (B1.out.trans (hb2.mono B1.out.size))
  have HA2 := Lib.hid (HA.out.up hb2)
  clear hb2
  obtain ⟨c0, c1, c2, c3⟩ := HA2.out
  have lt2 := lt_of_cell c0
  have T0 := Lib.hid (two_new (w := w2))
  have B3 : Hid (Below w2.heap.size w2 ((w2.alloc (.cells #[] 23)).alloc (.cells #[] 23))) := ((Below.refl _ _).alloc (Nat.le_refl _) _).alloc (by simp) _
  go_wp2
  clear c0 c1 c2 c3
  go_loopg [11, 12, 13, 44] (ms.length + 1) (fun g s11 s12 s13 i wr => ∃ k : Nat, g + k = ms.length + 1 ∧ k ≤ ms.length ∧ i = .int .i64 k ∧ s13 = .int .i64 (endS ms k) ∧ Two wr w2.heap.size s11 (partsL (turnR r) turnR ms k) s12 (linesL (turnR r) turnR ms k) ∧ Below w2.heap.size w2 wr ∧ fitS r.h ms k)
  case atStart => exact ⟨0, by omega, by omega, rfl, rfl, T0.out, B3.out, fun k m hk => by omega⟩
  case round =>
    obtain ⟨k, hg, hk, rfl, rfl, hT, hB, hfit⟩ := hrel
    have TW := Lib.hid hT
    have HB : Hid (Below w2.heap.size w2 wr ∧ gk + k = ms.length + 1 ∧ fitS r.h ms k) := ⟨hB, hg, hfit⟩
    have hoff := off_nonneg hfit k (Nat.le_refl _) hk
    have hend := off_le hfit (Nat.le_refl k) hk (by have := HM.out; omega)
    clear hT hB hg hfit
    have HBw : Hid (Below w.heap.size w wr) := B2.out.trans (HB.out.1.mono B2.out.size)
    have HA3 := Lib.hid (HA2.out.up HB.out.1)
    have hbs : Hid (w2.heap.size ≤ wr.heap.size) := HB.out.1.size
    by_cases hlt : k < ms.length
    · obtain ⟨m, hmk⟩ : ∃ m, ms[k]? = some m := ⟨_, List.getElem?_eq_getElem hlt⟩
      obtain ⟨b, off, rfl, hat⟩ := HR.out.place (by omega)
      have HCm : Hid (∀ W, Below w.heap.size w W → W.cell? ⟨b, off + k, none⟩ = some (.int .i64 m)) := fun W hW => (hW.cell (lt_of_cell (hat k m hmk))).trans (hat k m hmk)
      clear hat
      have HMk := Lib.hid hmk
      clear hmk
      have hml : (k : Int) < (ms.length : Int) := by omega
      have HE := Lib.hid (end_succ HMk.out)
      have HF1 : Hid (∀ h : 1 ≤ m ∧ offS ms k + m ≤ r.h, fitS r.h ms (k + 1)) := fun h j m' hj hm' => by
        rcases Nat.lt_or_ge j k with h1 | h1
        · exact HB.out.2.2 j m' h1 hm'
        · obtain rfl : j = k := by omega
          have := HMk.out.symm.trans hm'
          obtain rfl := Option.some.inj this
          exact h
      have HF0 : Hid (∀ h : ¬ (1 ≤ m ∧ offS ms k + m ≤ r.h), ¬ cutP r 2 ms) := fun h hc => h ((HCut.out.1 hc).1 k m hlt HMk.out)
      rcases Nat.eq_zero_or_pos k with hk0 | hkp
      · have hz : offS ms k = 0 := by rw [hk0]; rfl
        have he0 : endS ms k = 0 := by rw [hk0]; rfl
        have HL0 : Hid (linesL (turnR r) turnR ms (k + 1) = linesL (turnR r) turnR ms k) := (by rw [hk0]; rfl : linesL (turnR r) turnR ms (k + 1) = linesL (turnR r) turnR ms k)
        obtain ⟨p, hp0⟩ : ∃ p, endS ms k = p := ⟨_, rfl⟩
        rw [hp0]
        have HP : Hid (p = offS ms k) := (by omega : p = offS ms k)
        have hpb : Hid (0 ≤ p ∧ p ≤ 10000) := (by omega : 0 ≤ p ∧ p ≤ 10000)
        have d0 : decide (0 < k) = false := by simp; omega
        have H3A := Lib.hid HA3.out
        have H3w := Lib.hid HBw.out
        have H3b := Lib.hid HB.out.1
        clear hoff hend hz he0 hp0 hk0
        obtain ⟨c0, c1, c2, c3⟩ := H3A.out
        have cm := HCm.out wr H3w.out
        by_cases t1 : m < 1
        · have e1 : decide (m < 1) = true := decide_eq_true t1
          go_wp2
          go_ret3
          exact rcut_no (HF0.out (by omega)) H3w.out
        have e1 : decide (m < 1) = false := decide_eq_false t1
        by_cases t2 : r.h < m
        · have e2 : decide (r.h < m) = true := decide_eq_true t2
          go_wp2
          go_ret3
          exact rcut_no (HF0.out (by have := HP.out; have := hpb.out; omega)) H3w.out
        have e2 : decide (r.h < m) = false := decide_eq_false t2
        have s2 : IntKind.i64.wrap (p + m) = p + m := wrap_id (by have := hpb.out; have := HM.out; omega)
        by_cases t3 : r.h < p + m
        · have e3 : decide (r.h < p + m) = true := decide_eq_true t3
          go_wp2
          go_ret3
          exact rcut_no (HF0.out (by have := HP.out; omega)) H3w.out
        have e3 : decide (r.h < p + m) = false := decide_eq_false t3
        have s3 : IntKind.i64.wrap (r.y + p) = r.y + p := wrap_id (by have := hpb.out; have := HM.out; omega)
        have HQ : Hid (turnR (⟨(turnR r).x + offS ms k, (turnR r).y, m, (turnR r).h⟩ : R) = ⟨r.x, r.y + p, r.w, m⟩) := (by rw [← HP.out]; rfl : turnR (⟨(turnR r).x + offS ms k, (turnR r).y, m, (turnR r).h⟩ : R) = (⟨r.x, r.y + p, r.w, m⟩ : R))
        have HFk := Lib.hid (HF1.out (by have := HP.out; omega))
        have TD := Lib.hid (TW.out.drew.up ((Below.refl _ _).alloc (Nat.le_refl _) (box ⟨r.x, r.y + p, r.w, m⟩)))
        have BD := Lib.hid (H3b.out.drew)
        have S0 := Lib.hid (c5_of H3A.out cm)
        have S1 := Lib.hid (c5_of (H3A.out.up ((Below.refl _ wr).drew.alloc (Nat.le_refl _) (box ⟨r.x, r.y + p, r.w, m⟩))) (HCm.out _ (H3w.out.drew.alloc H3w.out.size (box ⟨r.x, r.y + p, r.w, m⟩))))
        have B5 := Lib.hid (BD.out.alloc BD.out.size (box ⟨r.x, r.y + p, r.w, m⟩))
        have HLn : Hid ((partsL (turnR r) turnR ms k).length ≤ 100000) := (by rw [partsL_length]; omega : (partsL (turnR r) turnR ms k).length ≤ 100000)
        go_wp2
        go_region_held3 (fun W => W.cell? ⟨w.heap.size, 0, none⟩ = some (.int .i64 r.x) ∧ W.cell? ⟨w.heap.size, 1, none⟩ = some (.int .i64 r.y) ∧ W.cell? ⟨w.heap.size, 2, none⟩ = some (.int .i64 r.w) ∧ W.cell? ⟨w.heap.size, 3, none⟩ = some (.int .i64 r.h) ∧ W.cell? ⟨b, off + k, none⟩ = some (.int .i64 m)) (first | exact S0.out | exact S1.out | exact S6.out) (first | (refine step_two rfl _ _ rfl w2.heap.size _ _ _ _ wr.heap.size ⟨r.x, r.y + p, r.w, m⟩ rfl TD.out rfl (rat_new wr.drew ⟨r.x, r.y + p, r.w, m⟩) HLn.out w2 B5.out (Nat.le_refl _) ?_; intro v6 w6 hT6 hB6; have T6 := Lib.hid hT6; have B6 := Lib.hid hB6; have S6 := Lib.hid (c5_of (HA2.out.up hB6) (HCm.out w6 (B2.out.trans (hB6.mono B2.out.size)))); clear hT6 hB6))
        have cm6 := S6.out.2.2.2.2
        clear c0 c1 c2 c3 cm
        go_wp2
        go_roundg (gk - 1)
        case measure => have := HB.out.2.1; omega
        case rel =>
          refine ⟨k + 1, ?_, by omega, by go_num, ?_, ?_, B6.out, HFk.out⟩
          · have := HB.out.2.1; omega
          · exact congrArg (Value.int .i64) (by rw [HE.out]; have := HP.out; omega)
          · rw [partsL_succ HMk.out, HL0.out]
            rw [HQ.out]
            exact T6.out
      · have hz := end_pos ms hkp
        obtain ⟨p, hp0⟩ : ∃ p, endS ms k = p := ⟨_, rfl⟩
        rw [hp0]
        have hpx : Hid (0 ≤ p ∧ p + 1 ≤ 10001) := (by have := HM.out; omega : 0 ≤ p ∧ p + 1 ≤ 10001)
        have s1 : IntKind.i64.wrap (r.y + p) = r.y + p := wrap_id (by have := hpx.out; have := HM.out; omega)
        have s1' : IntKind.i64.wrap (p + 1) = p + 1 := wrap_id (by have := hpx.out; omega)
        have HL : Hid (turnR (⟨(turnR r).x + endS ms k, (turnR r).y, 1, (turnR r).h⟩ : R) = ⟨r.x, r.y + p, r.w, 1⟩) := (by rw [hp0]; rfl : turnR (⟨(turnR r).x + endS ms k, (turnR r).y, 1, (turnR r).h⟩ : R) = (⟨r.x, r.y + p, r.w, 1⟩ : R))
        have HP : Hid (p + 1 = offS ms k) := (by omega : p + 1 = offS ms k)
        have hpb : Hid (0 ≤ p + 1 ∧ p + 1 ≤ 10001) := (by have := hpx.out; omega : 0 ≤ p + 1 ∧ p + 1 ≤ 10001)
        have d0 : (0 : Int) < (k : Int) := by omega
        clear hoff hend hz hp0
        have T2 := Lib.hid ((TW.out.swap).up ((Below.refl _ _).alloc (Nat.le_refl _) (box ⟨r.x, r.y + p, r.w, 1⟩)))
        have B4 := Lib.hid (HB.out.1.alloc HB.out.1.size (box ⟨r.x, r.y + p, r.w, 1⟩))
        obtain ⟨c0, c1, c2, c3⟩ := HA3.out
        go_wp2_with (at_builtin; refine wpList_two rfl _ _ rfl w2.heap.size _ _ _ _ wr.heap.size ⟨r.x, r.y + p, r.w, 1⟩ rfl T2.out rfl (rat_new wr ⟨r.x, r.y + p, r.w, 1⟩) ?_ w2 B4.out (Nat.le_refl _) ?_)
        · rw [linesL_length]; omega
        intro v3 w3 hT3 hB3
        have T3 := Lib.hid hT3.swap
        have H3b := Lib.hid hB3
        have H3w : Hid (Below w.heap.size w w3) := B2.out.trans (hB3.mono B2.out.size)
        have H3A := Lib.hid (HA2.out.up hB3)
        clear hT3 hB3 c0 c1 c2 c3
        obtain ⟨c0, c1, c2, c3⟩ := H3A.out
        have cm := HCm.out w3 H3w.out
        by_cases t1 : m < 1
        · have e1 : decide (m < 1) = true := decide_eq_true t1
          go_wp2
          go_ret3
          exact rcut_no (HF0.out (by omega)) H3w.out
        have e1 : decide (m < 1) = false := decide_eq_false t1
        by_cases t2 : r.h < m
        · have e2 : decide (r.h < m) = true := decide_eq_true t2
          go_wp2
          go_ret3
          exact rcut_no (HF0.out (by have := HP.out; have := hpb.out; omega)) H3w.out
        have e2 : decide (r.h < m) = false := decide_eq_false t2
        have s2 : IntKind.i64.wrap ((p + 1) + m) = (p + 1) + m := wrap_id (by have := hpb.out; have := HM.out; omega)
        by_cases t3 : r.h < (p + 1) + m
        · have e3 : decide (r.h < (p + 1) + m) = true := decide_eq_true t3
          go_wp2
          go_ret3
          exact rcut_no (HF0.out (by have := HP.out; omega)) H3w.out
        have e3 : decide (r.h < (p + 1) + m) = false := decide_eq_false t3
        have s3 : IntKind.i64.wrap (r.y + (p + 1)) = r.y + (p + 1) := wrap_id (by have := hpb.out; have := HM.out; omega)
        have HQ : Hid (turnR (⟨(turnR r).x + offS ms k, (turnR r).y, m, (turnR r).h⟩ : R) = ⟨r.x, r.y + (p + 1), r.w, m⟩) := (by rw [← HP.out]; rfl : turnR (⟨(turnR r).x + offS ms k, (turnR r).y, m, (turnR r).h⟩ : R) = (⟨r.x, r.y + (p + 1), r.w, m⟩ : R))
        have HFk := Lib.hid (HF1.out (by have := HP.out; omega))
        have TD := Lib.hid (T3.out.drew.up ((Below.refl _ _).alloc (Nat.le_refl _) (box ⟨r.x, r.y + (p + 1), r.w, m⟩)))
        have BD := Lib.hid (H3b.out.drew)
        have S0 := Lib.hid (c5_of H3A.out cm)
        have S1 := Lib.hid (c5_of (H3A.out.up ((Below.refl _ w3).drew.alloc (Nat.le_refl _) (box ⟨r.x, r.y + (p + 1), r.w, m⟩))) (HCm.out _ (H3w.out.drew.alloc H3w.out.size (box ⟨r.x, r.y + (p + 1), r.w, m⟩))))
        have B5 := Lib.hid (BD.out.alloc BD.out.size (box ⟨r.x, r.y + (p + 1), r.w, m⟩))
        have HLn : Hid ((partsL (turnR r) turnR ms k).length ≤ 100000) := (by rw [partsL_length]; omega : (partsL (turnR r) turnR ms k).length ≤ 100000)
        go_wp2
        go_region_held3 (fun W => W.cell? ⟨w.heap.size, 0, none⟩ = some (.int .i64 r.x) ∧ W.cell? ⟨w.heap.size, 1, none⟩ = some (.int .i64 r.y) ∧ W.cell? ⟨w.heap.size, 2, none⟩ = some (.int .i64 r.w) ∧ W.cell? ⟨w.heap.size, 3, none⟩ = some (.int .i64 r.h) ∧ W.cell? ⟨b, off + k, none⟩ = some (.int .i64 m)) (first | exact S0.out | exact S1.out | exact S6.out) (first | (refine step_two rfl _ _ rfl w2.heap.size _ _ _ _ w3.heap.size ⟨r.x, r.y + (p + 1), r.w, m⟩ rfl TD.out rfl (rat_new w3.drew ⟨r.x, r.y + (p + 1), r.w, m⟩) HLn.out w2 B5.out (Nat.le_refl _) ?_; intro v6 w6 hT6 hB6; have T6 := Lib.hid hT6; have B6 := Lib.hid hB6; have S6 := Lib.hid (c5_of (HA2.out.up hB6) (HCm.out w6 (B2.out.trans (hB6.mono B2.out.size)))); clear hT6 hB6))
        have cm6 := S6.out.2.2.2.2
        clear c0 c1 c2 c3 cm
        go_wp2
        go_roundg (gk - 1)
        case measure => have := HB.out.2.1; omega
        case rel =>
          refine ⟨k + 1, ?_, by omega, by go_num, ?_, ?_, B6.out, HFk.out⟩
          · have := HB.out.2.1; omega
          · exact congrArg (Value.int .i64) (by rw [HE.out]; have := HP.out; omega)
          · rw [partsL_succ HMk.out, linesL_pos hkp, HL.out]
            rw [HQ.out]
            exact T6.out
    · obtain rfl : k = ms.length := by omega
      have hkl : ((ms.length : Int) < (ms.length : Int)) = False := by simp
      have HPo := Lib.hid (end_pos ms hp)
      obtain ⟨p, hp0⟩ : ∃ p, endS ms ms.length = p := ⟨_, rfl⟩
      rw [hp0]
      have HP0 := Lib.hid hp0
      clear hp0 hoff hend
      by_cases hz : p = r.h
      · have d1 : (p != r.h) = false := by simp [hz]
        have HZ := Lib.hid hz
        clear hz
        go_wp2
        go_ret3
        have hfl : fillP r.h ms := ⟨HB.out.2.2, by have := HPo.out; have := HP0.out; have := HZ.out; omega⟩
        exact ⟨_, _, true, rfl, ⟨fun _ => HCut.out.2 hfl, fun _ => rfl⟩, TW.out.own1.row, TW.out.own2.row, HBw.out⟩
      · have d1 : (p != r.h) = true := by simp [hz]
        have HZ := Lib.hid hz
        clear hz
        go_wp2
        go_ret3
        refine rcut_no (fun hc => ?_) HBw.out
        have h1 := (HCut.out.1 hc).2
        have := HPo.out
        have := HP0.out
        exact HZ.out (by omega)
end Go.Proofs.YtcdiogifgemjbaaGreat
/- The document's answer: does a cell tile, and its lines. -/
namespace Go.Proofs.YtcdiogifgemjbaaGreat
open Go.RowKit

theorem rcut_any (r : R) (ax : Int) (v : Value) (ms : List Int) (w : World) (hf : r.fits) (hr : IRow w v ms) (hlen : ms.length ≤ 100000) (hax : 0 ≤ ax ∧ ax ≤ 255) :
    Calls Tryz.prog 73 #[val r, .int .u8 ax, v] w fun e w' => CutSays r ax ms w e w' := by
  by_cases h : mayB r = true ∧ (ax = 1 ∨ ax = 2) ∧ 0 < ms.length
  · obtain ⟨hm, hx, hp⟩ := h
    rcases hx with rfl | rfl
    · exact rcut1_any r v ms w hf hr hlen hm hp
    · exact rcut2_any r v ms w hf hr hlen hm hp
  · exact rcut_not r ax v ms w hf hr hax h

def rsizesT (t : T) : List Int := if t.k = 2 then wsT t else hsT t
theorem rs_len (t : T) : (rsizesT t).length = t.kids.length := by unfold rsizesT; split; exact ws_len t; exact hs_len t
def pickR (b : Bool) (r : R) : Int := if b = true then r.w else r.h
theorem rs_step {t u : T} {k : Nat} (h : t.kids[k]? = some u) : (rsizesT t).take (k + 1) = (rsizesT t).take k ++ [pickR (decide (t.k = 2)) u.r] := by
  unfold rsizesT pickR
  by_cases h2 : t.k = 2
  · rw [if_pos h2, ws_step h]; simp [h2]
  · rw [if_neg h2, hs_step h]; simp [h2]

set_option maxRecDepth 100000 in
set_option maxHeartbeats 1600000 in
theorem rsizes_any (t : T) (c : C) (w : World) (hi : Is w c t) (hl : t.kids.length ≤ 20000) :
    Calls Tryz.prog 74 #[cval c] w fun e w' => ∃ v, e = .returned v ∧ IRow w' v (rsizesT t) ∧ Below w.heap.size w w' := by
  have HA : Hid (Below w.heap.size w (w.alloc (cbox c))) := (Below.refl _ _).alloc (Nat.le_refl _) _
  have HA2 : Hid (Below w.heap.size w ((w.alloc (cbox c)).alloc (.cells #[] 3))) := Lib.hid (HA.out.alloc (by simp) _)
  have HC := Lib.hid ((cbox_new w c).up ((Below.refl _ _).alloc (Nat.le_refl _) (.cells #[] 3)))
  have HO := Lib.hid (OwnN.empty (w.alloc (cbox c)) (w.heap.size + 1) (by simp))
  have HSZ2 : Hid (w.heap.size + 1 ≤ ((w.alloc (cbox c)).alloc (.cells #[] 3)).heap.size) := Lib.hid (by simp)
  have HROW := Lib.hid hi.row
  have hcn := hi.n
  have hck : t.k = c.k := hi.split.1
  clear hi
  obtain ⟨ck, cr, cid, ca, cn, ccap⟩ := c
  simp only at hcn hck
  subst hcn
  have HST := Lib.hid (fun (k : Nat) (u : T) (h : t.kids[k]? = some u) => rs_step h)
  rw [hck] at HST
  go_enter Tryz.func74, Tryz.ntmps74
  go_wp2
  go_loopg [3, 9] (t.kids.length + 1) (fun g v i wr => ∃ k : Nat, g + k = t.kids.length + 1 ∧ k ≤ t.kids.length ∧ i = .int .i64 k ∧ TwoI wr (w.heap.size + 1) v ((rsizesT t).take k) (.slice none 0 0) [] ∧ Below (w.heap.size + 1) ((w.alloc (cbox ⟨ck, cr, cid, ca, t.kids.length, ccap⟩)).alloc (.cells #[] 3)) wr)
  case atStart => exact ⟨0, by omega, by omega, rfl, ⟨by simpa using HO.out, OwnN.nil _ _, fun k _ h => by cases h⟩, Below.refl _ _⟩
  case round =>
    obtain ⟨k, hg, hk, rfl, htw, hb⟩ := hrel
    have HG := Lib.hid hg
    have HT := Lib.hid htw
    have HB := Lib.hid hb
    clear hg htw hb
    by_cases hlt : k < t.kids.length
    · obtain ⟨b, o, hca, hf⟩ := HROW.out.place (by omega)
      subst hca
      obtain ⟨u, hu⟩ : ∃ u, t.kids[k]? = some u := ⟨_, List.getElem?_eq_getElem hlt⟩
      obtain ⟨x, hx, hxi⟩ := hf k u hu
      have hxr : u.r = x.r := hxi.split.2.1
      have hBW : Below w.heap.size w wr := HA2.out.trans (HB.out.mono (by omega))
      obtain ⟨-, -, -, e3, e4, -, -⟩ := hx.up hBW
      have HSP := Lib.hid (HST.out k u hu)
      rw [hxr] at HSP
      obtain ⟨c0, -, -, -, -, -, c6⟩ := HC.out.upB HB.out (by omega)
      simp only [Nat.zero_add] at c6
      clear hf hx hxi hBW hu hxr
      have HLN : Hid (((rsizesT t).take k).length ≤ 100000) := Lib.hid (by rw [List.length_take, rs_len]; omega)
      have hki : (k : Int) < (t.kids.length : Int) := by omega
      by_cases h2 : ck = 2
      · subst h2
        have TD := Lib.hid (HT.out.alloc (.cells #[.int .i64 x.r.w] 3))
        have BD := Lib.hid (bel_alloc HB.out HSZ2.out (.cells #[.int .i64 x.r.w] 3))
        go_wp2_with (at_builtin; refine wpList_twoI rfl _ _ rfl (w.heap.size + 1) _ _ _ _ wr.heap.size x.r.w rfl TD.out rfl (by simp) HLN.out _ BD.out HSZ2.out ?_)
        intro v6 w6 hT6 hB6 _
        have T6 := Lib.hid hT6
        have B6 := Lib.hid hB6
        clear hT6 hB6
        go_wp2
        go_roundg (gk - 1)
        case measure => have := HG.out; omega
        case rel => exact ⟨k + 1, by have := HG.out; omega, by omega, by go_num, by rw [HSP.out]; exact T6.out, B6.out⟩
      · have d2 : (ck == 2) = false := by simpa using h2
        rw [decide_eq_false h2] at HSP
        have TD := Lib.hid (HT.out.alloc (.cells #[.int .i64 x.r.h] 3))
        have BD := Lib.hid (bel_alloc HB.out HSZ2.out (.cells #[.int .i64 x.r.h] 3))
        go_wp2_with (at_builtin; refine wpList_twoI rfl _ _ rfl (w.heap.size + 1) _ _ _ _ wr.heap.size x.r.h rfl TD.out rfl (by simp) HLN.out _ BD.out HSZ2.out ?_)
        intro v6 w6 hT6 hB6 _
        have T6 := Lib.hid hT6
        have B6 := Lib.hid hB6
        clear hT6 hB6
        go_wp2
        go_roundg (gk - 1)
        case measure => have := HG.out; omega
        case rel => exact ⟨k + 1, by have := HG.out; omega, by omega, by go_num, by rw [HSP.out]; exact T6.out, B6.out⟩
    · obtain rfl : k = t.kids.length := by omega
      have hkl : ((t.kids.length : Int) < (t.kids.length : Int)) = False := by simp
      have HT2 : Hid (TwoI wr (w.heap.size + 1) u3 (rsizesT t) (.slice none 0 0) []) := Lib.hid (by
        have h := HT.out
        rw [List.take_of_length_le (by rw [rs_len]; exact Nat.le_refl _)] at h
        exact h)
      have HBE := Lib.hid (HA2.out.trans (HB.out.mono (by omega)))
      go_wp2
      go_ret
      exact ⟨u3, rfl, HT2.out.own1.row, HBE.out⟩
end Go.Proofs.YtcdiogifgemjbaaGreat
/- The document's answer: does a cell tile, and its lines (its walk). -/
namespace Go.Proofs.YtcdiogifgemjbaaGreat
open Go.RowKit

theorem rs_is {t : T} (hk : t.k = 2 ∨ t.k = 3) : rsizesT t = sizesT t ∧ axT t = t.k - 1 := by
  unfold rsizesT sizesT axT
  rcases hk with h | h <;> rw [h] <;> simp
theorem parts_len (r : R) (ax : Int) (ms : List Int) : (cutParts r ax ms true).length = ms.length := by
  simp only [cutParts]; split <;> rw [partsL_length] <;> omega
theorem bel_drewN {B : Nat} {w w' : World} {n : Nat} (h : Below B w w') : Below B w (w'.drewN n) := ⟨h.os, h.tape, h.output, h.size, h.block⟩
theorem one_no {t : T} (h1 : ¬ t.k = 1) (h : ¬ cutP t.r (axT t) (sizesT t)) : ¬ fitsP t := by
  rintro (h2 | ⟨h2, -⟩)
  · exact h1 h2
  · exact h h2
theorem one_diff {t u : T} {k : Nat} {q : R} (h1 : ¬ t.k = 1) (hu : t.kids[k]? = some u) (hq : (cutParts t.r (axT t) (sizesT t) true)[k]? = some q) (hne : ¬ q = u.r) : ¬ fitsP t := by
  rintro (h2 | ⟨-, h2⟩)
  · exact h1 h2
  · rw [← h2, List.getElem?_map, hu] at hq
    simp at hq
    exact hne hq.symm
theorem one_all {t : T} (hc : cutP t.r (axT t) (sizesT t)) (h : ∀ (k : Nat) (u : T) (q : R), t.kids[k]? = some u → (cutParts t.r (axT t) (sizesT t) true)[k]? = some q → q = u.r) : fitsP t := by
  refine .inr ⟨hc, of_decide_eq_true (eqR_yes (by rw [parts_len, sizes_len]) fun k u q hu hq => (h k u q hu hq).symm)⟩

set_option maxRecDepth 100000 in
set_option maxHeartbeats 1600000 in
theorem rone_any (t : T) (c : C) (w : World) (hi : Is w c t) (hl : t.kids.length ≤ 20000) (hk : t.k = 1 ∨ t.k = 2 ∨ t.k = 3) : Calls Tryz.prog 57 #[cval c] w (BtwSays t w) := by
  have HA : Hid (Below w.heap.size w (w.alloc (cbox c))) := (Below.refl _ _).alloc (Nat.le_refl _) _
  have HC := Lib.hid (cbox_new w c)
  have hck : t.k = c.k := hi.split.1
  have hcr : t.r = c.r := hi.split.2.1
  have HI := Lib.hid hi
  have hfine := hi.fine
  have HRF := Lib.hid hfine.2.1
  have HL := Lib.hid hl
  have hcn := hi.n
  clear hi hfine
  have hg := eq_guard
  by_cases h1 : t.k = 1
  · have hk1 : c.k = 1 := by omega
    have HF : Hid (fitsP t) := Lib.hid (.inl h1)
    have HLN : Hid (linesT t = []) := Lib.hid (by unfold linesT; rw [if_pos h1])
    have HB2 : Hid (Below w.heap.size w ((w.alloc (cbox c)).alloc (.cells #[] 23))) := Lib.hid (HA.out.alloc (by simp) _)
    have d1 : (c.k == 1) = true := by simpa using hk1
    clear hck hcr h1 hk hk1 hcn
    go_enter Tryz.func57, Tryz.ntmps57
    go_wp2
    go_ret2
    exact btw_yes HF.out rfl (by rw [HLN.out]; exact .inl ⟨_, _, rfl, rfl⟩) HB2.out
  · have hk2 : t.k = 2 ∨ t.k = 3 := by omega
    obtain ⟨hrs, hax⟩ := rs_is hk2
    have HRS := Lib.hid hrs
    have HNK := Lib.hid h1
    have HCR := Lib.hid hcr
    have d1 : (c.k == 1) = false := by rw [← hck]; simpa using h1
    obtain ⟨ck, cr, cid, ca, cn, ccap⟩ := c
    simp only at hck hcr hcn d1 HRF HCR
    subst hcn
    have HCK := Lib.hid hck
    have hax2 : axT t = ck - 1 := by rw [hax, hck]
    have hwr : IntKind.u8.wrap (ck - 1) = axT t := by
      rw [hax2]
      have : ck = 2 ∨ ck = 3 := by omega
      rcases this with rfl | rfl <;> rfl
    have HAX : Hid (0 ≤ axT t ∧ axT t ≤ 255) := Lib.hid (by omega)
    have BD := Lib.hid HA.out.drew
    have S0 := Lib.hid (HC.out.up (Below.refl _ (w.alloc (cbox ⟨ck, cr, cid, ca, t.kids.length, ccap⟩))).drew)
    have S0' : Hid ((w.alloc (cbox ⟨ck, cr, cid, ca, t.kids.length, ccap⟩)).drew.cell? ⟨w.heap.size, 0, none⟩ = some (.int .u8 ck) ∧ (w.alloc (cbox ⟨ck, cr, cid, ca, t.kids.length, ccap⟩)).drew.cell? ⟨w.heap.size, 1, none⟩ = some (.int .i64 cr.x) ∧ (w.alloc (cbox ⟨ck, cr, cid, ca, t.kids.length, ccap⟩)).drew.cell? ⟨w.heap.size, 2, none⟩ = some (.int .i64 cr.y) ∧ (w.alloc (cbox ⟨ck, cr, cid, ca, t.kids.length, ccap⟩)).drew.cell? ⟨w.heap.size, 3, none⟩ = some (.int .i64 cr.w) ∧ (w.alloc (cbox ⟨ck, cr, cid, ca, t.kids.length, ccap⟩)).drew.cell? ⟨w.heap.size, 4, none⟩ = some (.int .i64 cr.h) ∧ (w.alloc (cbox ⟨ck, cr, cid, ca, t.kids.length, ccap⟩)).drew.cell? ⟨w.heap.size, 5, none⟩ = some (.int .i64 cid) ∧ (w.alloc (cbox ⟨ck, cr, cid, ca, t.kids.length, ccap⟩)).drew.cell? ⟨w.heap.size, 6, none⟩ = some (.slice ca t.kids.length ccap)) := Lib.hid (by
      obtain ⟨c0, c1, c2, c3, c4, c5, c6⟩ := S0.out
      simp only [Nat.zero_add] at c1 c2 c3 c4 c5 c6
      exact ⟨c0, c1, c2, c3, c4, c5, c6⟩)
    have HSC := Lib.hid (fun (W : World) (h : Below w.heap.size w W) => rsizes_any t ⟨ck, cr, cid, ca, t.kids.length, ccap⟩ W (HI.out.up h) HL.out)
    clear hax hax2 hrs h1 hk hk2
    go_enter Tryz.func57, Tryz.ntmps57
    go_wp2
    go_region_held3 (fun W => W.cell? ⟨w.heap.size, 0, none⟩ = some (.int .u8 ck) ∧ W.cell? ⟨w.heap.size, 1, none⟩ = some (.int .i64 cr.x) ∧ W.cell? ⟨w.heap.size, 2, none⟩ = some (.int .i64 cr.y) ∧ W.cell? ⟨w.heap.size, 3, none⟩ = some (.int .i64 cr.w) ∧ W.cell? ⟨w.heap.size, 4, none⟩ = some (.int .i64 cr.h) ∧ W.cell? ⟨w.heap.size, 5, none⟩ = some (.int .i64 cid) ∧ W.cell? ⟨w.heap.size, 6, none⟩ = some (.slice ca t.kids.length ccap)) (first | with_reducible exact S0'.out | with_reducible exact S2.out | with_reducible exact S3.out)
      (first
        | (go_at_call 74
           refine (HSC.out _ BD.out).mono ?_
           rintro e w2 ⟨v2, rfl, hr2, hb2⟩
           have HB2 := Lib.hid (BD.out.trans (hb2.mono BD.out.size))
           have C2 := Lib.hid (S0.out.up hb2)
           have HR2 : Hid (IRow w2 v2 (sizesT t)) := Lib.hid (by rw [← HRS.out]; exact hr2)
           have S2 : Hid (w2.cell? ⟨w.heap.size, 0, none⟩ = some (.int .u8 ck) ∧ w2.cell? ⟨w.heap.size, 1, none⟩ = some (.int .i64 cr.x) ∧ w2.cell? ⟨w.heap.size, 2, none⟩ = some (.int .i64 cr.y) ∧ w2.cell? ⟨w.heap.size, 3, none⟩ = some (.int .i64 cr.w) ∧ w2.cell? ⟨w.heap.size, 4, none⟩ = some (.int .i64 cr.h) ∧ w2.cell? ⟨w.heap.size, 5, none⟩ = some (.int .i64 cid) ∧ w2.cell? ⟨w.heap.size, 6, none⟩ = some (.slice ca t.kids.length ccap)) := Lib.hid (by
             obtain ⟨c0, c1, c2, c3, c4, c5, c6⟩ := C2.out
             simp only [Nat.zero_add] at c1 c2 c3 c4 c5 c6
             exact ⟨c0, c1, c2, c3, c4, c5, c6⟩)
           clear hb2 hr2)
        | (go_at_call 73
           try rw [hwr]
           refine (rcut_any cr (axT t) v2 (sizesT t) w2 HRF.out HR2.out (by rw [sizes_len]; have := HL.out; omega) HAX.out).mono ?_
           rintro e w3 ⟨v3, v4, b, rfl, hbi, hr3, hr4, hb3⟩
           have HB3 := Lib.hid (HB2.out.trans (hb3.mono HB2.out.size))
           have C3 := Lib.hid (C2.out.up hb3)
           have HBI := Lib.hid hbi
           have HR3 := Lib.hid hr3
           have HR4 := Lib.hid hr4
           have S3 : Hid (w3.cell? ⟨w.heap.size, 0, none⟩ = some (.int .u8 ck) ∧ w3.cell? ⟨w.heap.size, 1, none⟩ = some (.int .i64 cr.x) ∧ w3.cell? ⟨w.heap.size, 2, none⟩ = some (.int .i64 cr.y) ∧ w3.cell? ⟨w.heap.size, 3, none⟩ = some (.int .i64 cr.w) ∧ w3.cell? ⟨w.heap.size, 4, none⟩ = some (.int .i64 cr.h) ∧ w3.cell? ⟨w.heap.size, 5, none⟩ = some (.int .i64 cid) ∧ w3.cell? ⟨w.heap.size, 6, none⟩ = some (.slice ca t.kids.length ccap)) := Lib.hid (by
             obtain ⟨c0, c1, c2, c3, c4, c5, c6⟩ := C3.out
             simp only [Nat.zero_add] at c1 c2 c3 c4 c5 c6
             exact ⟨c0, c1, c2, c3, c4, c5, c6⟩)
           clear hb3 hbi hr3 hr4))
    cases b with
    | false =>
      have HF : Hid (¬ fitsP t) := Lib.hid (one_no HNK.out (by
        rw [HCR.out]
        intro h
        have := HBI.out.2 h; cases this))
      obtain ⟨a4, cap4, hv4⟩ := HR4.out.shape
      subst hv4
      go_wp2
      go_ret2
      exact btw_no HF.out rfl HR4.out HB3.out
    | true =>
      have HCP := Lib.hid (HBI.out.1 rfl)
      obtain ⟨a3, cap3, hv3⟩ := HR3.out.shape
      subst hv3
      have HPL : Hid ((cutParts cr (axT t) (sizesT t) true).length = t.kids.length) := Lib.hid (by rw [parts_len, sizes_len])
      have hlen3 : Value.slice a3 (cutParts cr (axT t) (sizesT t) true).length cap3 = .slice a3 t.kids.length cap3 := by rw [HPL.out]
      rw [hlen3]
      clear hlen3
      have HFT : Hid (t.kids.length ≤ 20000) := HL
      go_wp2
      go_loopg [29] (t.kids.length + 1) (fun g i wr => ∃ k : Nat, g + k = t.kids.length + 1 ∧ k ≤ t.kids.length ∧ i = .int .i64 k ∧ (∀ (j : Nat) (u : T) (q : R), j < k → t.kids[j]? = some u → (cutParts cr (axT t) (sizesT t) true)[j]? = some q → q = u.r) ∧ Below w3.heap.size w3 wr)
      case atStart => exact ⟨0, by omega, by omega, rfl, fun j t u hj => by omega, Below.refl _ _⟩
      case round =>
        obtain ⟨k, hg', hk, rfl, hsame, hb⟩ := hrel
        have HG := Lib.hid hg'
        have HSM := Lib.hid hsame
        have HB := Lib.hid hb
        clear hg' hsame hb
        have hln := HFT.out
        by_cases hlt : k < t.kids.length
        · obtain ⟨u, hu⟩ : ∃ u, t.kids[k]? = some u := ⟨_, List.getElem?_eq_getElem hlt⟩
          obtain ⟨q, hq⟩ : ∃ q, (cutParts cr (axT t) (sizesT t) true)[k]? = some q := ⟨_, List.getElem?_eq_getElem (by have := HPL.out; omega)⟩
          obtain ⟨b3, o3, ha3, hf3⟩ := HR3.out.place (by have := HPL.out; omega)
          subst ha3
          obtain ⟨b1, o1, ha1, hf1⟩ := HI.out.row.place (by omega)
          simp only at ha1
          subst ha1
          obtain ⟨x, hx, hix⟩ := hf1 k u hu
          have hxr : u.r = x.r := hix.split.2.1
          obtain ⟨e0, e1, e2, e3⟩ := (hf3 k q hq).up HB.out
          obtain ⟨-, x1, x2, x3, x4, -, -⟩ := hx.up (HB3.out.trans (HB.out.mono HB3.out.size))
          obtain ⟨-, -, -, -, -, -, c6⟩ := C3.out.up HB.out
          simp only [Nat.zero_add] at c6
          have hki : (k : Int) < (t.kids.length : Int) := by omega
          have HU := Lib.hid hu
          have HQ := Lib.hid hq
          have HXR := Lib.hid hxr
          clear hf1 hf3 hx hix hu hq hxr
          by_cases hqx : q = x.r
          · have hE : ∀ w, (Op.equalIn 10000 23 (.agg #[.int .i64 q.x, .int .i64 q.y, .int .i64 q.w, .int .i64 q.h]) (.agg #[.int .i64 x.r.x, .int .i64 x.r.y, .int .i64 x.r.w, .int .i64 x.r.h])).run Tryz.prog w = .ok true w := fun w => by rw [← decide_eq_true hqx]; exact eq_run q x.r w
            have HQX := Lib.hid hqx
            clear hqx
            go_wp2
            go_quiet (fail)
            go_wp2
            go_roundg (gk - 1)
            case measure => have := HG.out; omega
            case rel =>
              refine ⟨k + 1, by have := HG.out; omega, by omega, by go_num, fun j a b hj ha hb => ?_, ⟨HB.out.os, HB.out.tape, HB.out.output, HB.out.size, HB.out.block⟩⟩
              rcases Nat.lt_or_ge j k with h | h
              · exact HSM.out j a b h ha hb
              · obtain rfl : j = k := by omega
                rw [HU.out] at ha; rw [HQ.out] at hb
                cases ha; cases hb
                rw [HXR.out]; exact HQX.out
          · have hE : ∀ w, (Op.equalIn 10000 23 (.agg #[.int .i64 q.x, .int .i64 q.y, .int .i64 q.w, .int .i64 q.h]) (.agg #[.int .i64 x.r.x, .int .i64 x.r.y, .int .i64 x.r.w, .int .i64 x.r.h])).run Tryz.prog w = .ok false w := fun w => by rw [← decide_eq_false hqx]; exact eq_run q x.r w
            have HF : Hid (¬ fitsP t) := Lib.hid (one_diff HNK.out HU.out (by rw [HCR.out]; exact HQ.out) (by rw [HXR.out]; exact hqx))
            clear hqx
            go_wp2
            go_quiet (fail)
            go_wp2
            go_ret2
            have hbE : Below w.heap.size w wr := HB3.out.trans (HB.out.mono HB3.out.size)
            exact btw_no HF.out rfl (.inl ⟨_, _, rfl, rfl⟩) ((bel_drewN hbE).alloc hbE.size _)
        · obtain rfl : k = t.kids.length := by omega
          have hkl : ((t.kids.length : Int) < (t.kids.length : Int)) = False := by simp
          have HF : Hid (fitsP t) := Lib.hid (one_all (by rw [HCR.out]; exact HCP.out) (fun k u q hu hq => HSM.out k u q (by
            rcases Nat.lt_or_ge k t.kids.length with h | h
            · exact h
            · rw [List.getElem?_eq_none h] at hu; cases hu) hu (by rw [← HCR.out]; exact hq)))
          have HLN : Hid (linesT t = cutLines cr (axT t) (sizesT t) true) := Lib.hid (by unfold linesT; rw [if_neg HNK.out, HCR.out])
          have HR5 := Lib.hid (HR4.out.up HB.out)
          have HBE := Lib.hid (HB3.out.trans (HB.out.mono HB3.out.size))
          go_wp2
          go_ret2
          exact btw_yes HF.out rfl (by rw [HLN.out]; exact HR5.out) HBE.out
end Go.Proofs.YtcdiogifgemjbaaGreat
