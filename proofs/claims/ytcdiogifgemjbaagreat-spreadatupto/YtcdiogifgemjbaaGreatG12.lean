/- Texts of this seat, 3 in one file. -/
import Derived.Test.YtcdiogifgemjbaaGreatG11
import Derived.Test.YtcdiogifgemjbaaGreatG06
import Derived.Deep.RegionHeld3
import Derived.Deep.Cut
import Derived.Test.YtcdiogifgemjbaaGreatG08
import Derived.Laws.StructEq
import Derived.Test.YtcdiogifgemjbaaGreatG02
/- The axis along which a cell's kids stand, and their sizes along it. -/
namespace Go.Proofs.YtcdiogifgemjbaaGreat
open Go.RowKit

def axT (t : T) : Int := if t.k = 3 then 2 else 1
def wsT (t : T) : List Int := t.kids.map fun u => u.r.w
def hsT (t : T) : List Int := t.kids.map fun u => u.r.h
def sizesT (t : T) : List Int := if t.k = 3 then hsT t else wsT t
theorem ws_len (t : T) : (wsT t).length = t.kids.length := by simp [wsT]
theorem hs_len (t : T) : (hsT t).length = t.kids.length := by simp [hsT]
theorem ws_step {t u : T} {k : Nat} (h : t.kids[k]? = some u) : (wsT t).take (k + 1) = (wsT t).take k ++ [u.r.w] := by
  rw [List.take_add_one]; simp [wsT, h]
theorem hs_step {t u : T} {k : Nat} (h : t.kids[k]? = some u) : (hsT t).take (k + 1) = (hsT t).take k ++ [u.r.h] := by
  rw [List.take_add_one]; simp [hsT, h]

theorem cells2_alloc {W : World} {n i j : Nat} {a b : Value} (o : Obj) (h : W.cell? ⟨n, i, none⟩ = some a ∧ W.cell? ⟨n, j, none⟩ = some b) : (W.alloc o).cell? ⟨n, i, none⟩ = some a ∧ (W.alloc o).cell? ⟨n, j, none⟩ = some b := ⟨Lib.cell?_alloc_some o h.1, Lib.cell?_alloc_some o h.2⟩
theorem bel_alloc {B : Nat} {w w' : World} (h : Below B w w') (hb : B ≤ w.heap.size) (o : Obj) : Below B w (w'.alloc o) := h.alloc (Nat.le_trans hb h.size) o
theorem gb_cell {W w' : World} {r : Option Nat} {a : Addr} {v : Value} (hg : W.grownBy w' r) (hc : W.cell? a = some v) (hn : r ≠ some a.block) : w'.cell? a = some v :=
  (World.cell?_of_block (hg.block a.block (lt_of_cell hc) fun h => hn h.symm)).trans hc
theorem TwoI.far {w : World} {base : Nat} {v1 : Value} {l1 : List Int} {v2 : Value} {l2 : List Int} (h : TwoI w base v1 l1 v2 l2) : ∀ g, w.heap.size ≤ g → v1.ownBlock ≠ some g := fun g hg he => by
  have := (h.own1.lt g he).2
  omega
theorem TwoI.drew {w : World} {base : Nat} {v1 : Value} {l1 : List Int} {v2 : Value} {l2 : List Int} (h : TwoI w base v1 l1 v2 l2) : TwoI w.drew base v1 l1 v2 l2 := h.up (Below.refl _ w).drew

set_option maxRecDepth 100000 in
set_option maxHeartbeats 1600000 in
theorem along_any (t : T) (c : C) (w : World) (hi : Is w c t) (hl : t.kids.length ≤ 20000) :
    Calls Tryz.prog 63 #[cval c] w fun e w' => ∃ v, e = .returned (.tuple #[.int .u8 (axT t), v]) ∧ IRow w' v (sizesT t) ∧ Below w.heap.size w w' := by
  have HA : Hid (Below w.heap.size w (w.alloc (cbox c))) := (Below.refl _ _).alloc (Nat.le_refl _) _
  have HC := Lib.hid (cbox_new w c)
  have HROW := Lib.hid hi.row
  have hcn := hi.n
  have hck : t.k = c.k := hi.split.1
  have HI := Lib.hid hi
  clear hi
  obtain ⟨ck, cr, cid, ca, cn, ccap⟩ := c
  simp only at hcn hck
  subst hcn
  go_enter Tryz.func63, Tryz.ntmps63
  go_wp2
  go_loopg [4, 5, 11] (t.kids.length + 1) (fun g v1 v2 i wr => ∃ k : Nat, g + k = t.kids.length + 1 ∧ k ≤ t.kids.length ∧ i = .int .i64 k ∧ TwoI wr (w.heap.size + 1) v1 ((wsT t).take k) v2 ((hsT t).take k) ∧ Below (w.heap.size + 1) (w.alloc (cbox ⟨ck, cr, cid, ca, t.kids.length, ccap⟩)) wr)
  case atStart => exact ⟨0, by omega, by omega, rfl, ⟨OwnN.nil _ _, OwnN.nil _ _, fun k h => by cases h⟩, Below.refl _ _⟩
  case round =>
    obtain ⟨k, hg, hk, rfl, htw, hb⟩ := hrel
    have HG := Lib.hid hg
    have HT := Lib.hid htw
    have HB := Lib.hid hb
    clear hg htw hb
    by_cases hlt : k < t.kids.length
    · obtain ⟨b, o, hca, hf⟩ := HROW.out.place (by omega)
      subst hca
      obtain ⟨u, hu⟩ : ∃ u, t.kids[k]? = some u := ⟨_, List.getElem?_eq_getElem hlt⟩
      obtain ⟨x, hx, hxi⟩ := hf k u hu
      have hxr : u.r = x.r := hxi.split.2.1
      have hBW : Below w.heap.size w wr := HA.out.trans (HB.out.mono (by omega))
      obtain ⟨c0, c1, c2, c3, c4, c5, c6⟩ := hx.up hBW
      have HWS := Lib.hid (ws_step hu)
      have HHS := Lib.hid (hs_step hu)
      rw [hxr] at HWS HHS
      clear hf hx hxi hBW hu
      go_upto_region 5 with (fail)
      change Code.wp _ _ _ _ (wr.alloc (cbox x))
      have QT := Lib.hid (HT.out.alloc (cbox x))
      have QB := Lib.hid (bel_alloc HB.out (by simp) (cbox x))
      have QC := Lib.hid (cbox_new wr x)
      have QN : Hid (∀ g, wr.heap.size ≤ g → u4.ownBlock ≠ some g) := Lib.hid HT.out.far
      have QN2 : Hid (∀ g, wr.heap.size ≤ g → u5.ownBlock ≠ some g) := Lib.hid HT.out.swap.far
      have QS : Hid (wr.heap.size < (wr.alloc (cbox x)).heap.size) := Lib.hid (by simp)
      generalize wr.alloc (cbox x) = wq at QT QB QC QS ⊢
      obtain ⟨-, -, -, q3, q4, -, -⟩ := QC.out
      rw [Nat.zero_add] at q3 q4
      have hbs : Hid (w.heap.size + 1 ≤ (w.alloc (cbox ⟨ck, cr, cid, some ⟨b, o, none⟩, t.kids.length, ccap⟩)).heap.size) := Lib.hid (by simp)
      have TD := Lib.hid QT.out.drew
      have BD := Lib.hid QB.out.drew
      have S0 : Hid (wq.drew.cell? ⟨wr.heap.size, 3, none⟩ = some (.int .i64 x.r.w) ∧ wq.drew.cell? ⟨wr.heap.size, 4, none⟩ = some (.int .i64 x.r.h)) := Lib.hid ⟨q3, q4⟩
      have HL1 : Hid (((wsT t).take k).length ≤ 100000) := Lib.hid (by simp [wsT]; omega)
      have HL2 : Hid (((hsT t).take k).length ≤ 100000) := Lib.hid (by simp [hsT]; omega)
      clear c0 c1 c2 c3 c4 c5 c6
      go_wp2
      go_region_held3 (fun W => W.cell? ⟨wr.heap.size, 3, none⟩ = some (.int .i64 x.r.w) ∧ W.cell? ⟨wr.heap.size, 4, none⟩ = some (.int .i64 x.r.h)) (first | exact S0.out | exact cells2_alloc _ S0.out | exact cells2_alloc _ (cells2_alloc _ S0.out) | exact S6.out | exact cells2_alloc _ S6.out | exact S7.out)
        (first
          | (refine step_twoI rfl _ _ rfl (w.heap.size + 1) u4 u5 _ _ _ x.r.w rfl (by first | exact TD.out.alloc _ | exact (TD.out.alloc _).alloc _) rfl (by simp) HL1.out (w.alloc (cbox ⟨ck, cr, cid, some ⟨b, o, none⟩, t.kids.length, ccap⟩)) (by first | exact bel_alloc BD.out hbs.out _ | exact bel_alloc (bel_alloc BD.out hbs.out _) hbs.out _) hbs.out ?_
             intro v6 w6 hT6 hB6 hg6
             have T6 := Lib.hid hT6.swap
             have B6 := Lib.hid hB6
             have F6 := Lib.hid (fun (a : Addr) (v : Value) hc (hn : wr.heap.size ≤ a.block) => gb_cell (a := a) (v := v) hg6 hc (QN.out a.block hn))
             have S6 : Hid (w6.cell? ⟨wr.heap.size, 3, none⟩ = some (.int .i64 x.r.w) ∧ w6.cell? ⟨wr.heap.size, 4, none⟩ = some (.int .i64 x.r.h)) := Lib.hid (by
               first
               | exact ⟨F6.out _ _ (cells2_alloc _ S0.out).1 (Nat.le_refl _), F6.out _ _ (cells2_alloc _ S0.out).2 (Nat.le_refl _)⟩
               | exact ⟨F6.out _ _ (cells2_alloc _ (cells2_alloc _ S0.out)).1 (Nat.le_refl _), F6.out _ _ (cells2_alloc _ (cells2_alloc _ S0.out)).2 (Nat.le_refl _)⟩)
             clear hT6 hB6 hg6)
          | (refine step_twoI rfl _ _ rfl (w.heap.size + 1) u5 _ _ _ _ x.r.h rfl (by first | exact T6.out | exact T6.out.alloc _) rfl (by first | (simp; done) | (refine F6.out _ _ ?_ ?_ <;> (have := QS.out) <;> simp <;> omega)) HL2.out (w.alloc (cbox ⟨ck, cr, cid, some ⟨b, o, none⟩, t.kids.length, ccap⟩)) (by first | exact B6.out | exact bel_alloc B6.out hbs.out _) hbs.out ?_
             intro v7 w7 hT7 hB7 hg7
             have T7 := Lib.hid hT7.swap
             have B7 := Lib.hid hB7
             have F7 := Lib.hid (fun (a : Addr) (v : Value) hc (hn : wr.heap.size ≤ a.block) => gb_cell (a := a) (v := v) hg7 hc (QN2.out a.block hn))
             have S7 : Hid (w7.cell? ⟨wr.heap.size, 3, none⟩ = some (.int .i64 x.r.w) ∧ w7.cell? ⟨wr.heap.size, 4, none⟩ = some (.int .i64 x.r.h)) := Lib.hid (by
               first
               | exact ⟨F7.out _ _ S6.out.1 (Nat.le_refl _), F7.out _ _ S6.out.2 (Nat.le_refl _)⟩
               | exact ⟨F7.out _ _ (cells2_alloc _ S6.out).1 (Nat.le_refl _), F7.out _ _ (cells2_alloc _ S6.out).2 (Nat.le_refl _)⟩)
             clear hT7 hB7 hg7))
      all_goals
        go_wp2
        go_roundg (gk - 1)
        case measure => have := HG.out; omega
        case rel => exact ⟨k + 1, by have := HG.out; omega, by omega, by go_num, by rw [HWS.out, HHS.out]; exact T7.out, B7.out⟩
    · obtain rfl : k = t.kids.length := by omega
      have hkl : ((t.kids.length : Int) < (t.kids.length : Int)) = False := by simp
      have HT2 : Hid (TwoI wr (w.heap.size + 1) u4 (wsT t) u5 (hsT t)) := Lib.hid (by
        have h := HT.out
        rw [List.take_of_length_le (by rw [ws_len]; exact Nat.le_refl _), List.take_of_length_le (by rw [hs_len]; exact Nat.le_refl _)] at h
        exact h)
      obtain ⟨c0, -⟩ := HC.out.up (HB.out.mono (by simp))
      have HBE := Lib.hid (HA.out.trans (HB.out.mono (by omega)))
      by_cases h3 : ck = 3
      · subst h3
        go_wp2
        go_ret2
        exact ⟨u5, by unfold axT; rw [if_pos hck]; rfl, by unfold sizesT; rw [if_pos hck]; exact HT2.out.own2.row, HBE.out⟩
      · have d3 : (ck == 3) = false := by simpa using h3
        have hne : ¬ t.k = 3 := by rw [hck]; exact h3
        go_wp2
        go_ret2
        exact ⟨u4, by unfold axT; rw [if_neg hne]; rfl, by unfold sizesT; rw [if_neg hne]; exact HT2.out.own1.row, HBE.out⟩
end Go.Proofs.YtcdiogifgemjbaaGreat
/- Are two rectangles the same? -/
namespace Go.Proofs.YtcdiogifgemjbaaGreat
open Go.RowKit

theorem eq_guard : Tryz.prog.eqGuardType Tryz.prog.depth 23 = false := by kernel_rfl
theorem r_ext (r q : R) : decide (r = q) = (decide (r.x = q.x) && decide (r.y = q.y) && decide (r.w = q.w) && decide (r.h = q.h)) := by
  cases r; cases q; simp [Bool.and_assoc]
theorem eq_run (r q : R) (w : World) : (Op.equalIn 10000 23 (val r) (val q)).run Tryz.prog w = .ok (decide (r = q)) w := by
  have u3 := Tryz.underlying3
  have a3 := Tryz.isAgg3
  have z3 := Tryz.sizeOf3
  have hS : Tryz.prog.underlying 23 = some (.struct (Tryz.prog.fieldsOf 23)) := by kernel_rfl
  have hp : Tryz.prog.stoodInHeld 23 = false := by kernel_rfl
  rw [show (10000 : Nat) = 9999 + 1 from rfl, run_equalIn_agg w 9999 23 _ _ hS hp]
  simp only [Program.fieldsOf, Tryz.underlying23]
  rw [r_ext]
  rcases Decidable.em (r.x = q.x) with h1 | h1 <;> rcases Decidable.em (r.y = q.y) with h2 | h2 <;> rcases Decidable.em (r.w = q.w) with h3 | h3 <;> rcases Decidable.em (r.h = q.h) with h4 | h4
  all_goals
    have d1 : (r.x == q.x) = decide (r.x = q.x) := by rw [Bool.eq_iff_iff]; simp
    have d2 : (r.y == q.y) = decide (r.y = q.y) := by rw [Bool.eq_iff_iff]; simp
    have d3 : (r.w == q.w) = decide (r.w = q.w) := by rw [Bool.eq_iff_iff]; simp
    have d4 : (r.h == q.h) = decide (r.h = q.h) := by rw [Bool.eq_iff_iff]; simp
    simp only [h1, h2, h3, h4, decide_true, decide_false] at d1 d2 d3 d4 ⊢
    go_simp
    try simp [h1, h2, h3, h4]
end Go.Proofs.YtcdiogifgemjbaaGreat
/- Are the rectangles of cells these? -/
namespace Go.Proofs.YtcdiogifgemjbaaGreat
open Go.RowKit

theorem enters65 : Enters 66 := enters_of Tryz.func66 (by kernel_rfl) rfl
set_option maxRecDepth 100000 in
theorem btw1_any (c : C) (q : R) (w : World) : Calls Tryz.prog 66 #[cval c, val q] w fun e w' => e = .returned (.bool (decide (c.r = q))) ∧ Below w.heap.size w w' := by
  have hg := eq_guard
  have hE : ∀ w, (Op.equalIn 10000 23 (.agg #[.int .i64 c.r.x, .int .i64 c.r.y, .int .i64 c.r.w, .int .i64 c.r.h]) (.agg #[.int .i64 q.x, .int .i64 q.y, .int .i64 q.w, .int .i64 q.h])).run Tryz.prog w = .ok (decide (c.r = q)) w := eq_run c.r q
  have HB : Hid (Below w.heap.size w ((w.alloc (cbox c)).alloc (box q))) := ((Below.refl _ _).alloc (Nat.le_refl _) _).alloc (by simp) _
  generalize decide (c.r = q) = bb at hE ⊢
  go_enter Tryz.func66, Tryz.ntmps66
  go_wp2
  go_ret
  exact ⟨rfl, HB.out⟩

theorem eqR_len {l : List T} {m : List R} (h : l.length ≠ m.length) : decide (l.map T.r = m) = false := by
  apply decide_eq_false; intro e; rw [← e] at h; simp at h
theorem eqR_no {l : List T} {m : List R} {k : Nat} {t : T} {q : R} (ht : l[k]? = some t) (hq : m[k]? = some q) (h : t.r ≠ q) : decide (l.map T.r = m) = false := by
  apply decide_eq_false; intro e; rw [← e] at hq; simp [ht] at hq; exact h hq
theorem eqR_yes {l : List T} {m : List R} (hl : l.length = m.length) (h : ∀ (k : Nat) (t : T) (q : R), l[k]? = some t → m[k]? = some q → t.r = q) : decide (l.map T.r = m) = true := by
  apply decide_eq_true
  apply List.ext_getElem?
  intro k
  rcases Nat.lt_or_ge k l.length with hk | hk
  · have h1 := List.getElem?_eq_getElem hk
    have h2 := List.getElem?_eq_getElem (show k < m.length by omega)
    rw [List.getElem?_map, h1, h2]
    simp [h k _ _ h1 h2]
  · rw [List.getElem?_eq_none (by simpa using hk), List.getElem?_eq_none (by omega)]

set_option maxRecDepth 100000 in
set_option maxHeartbeats 800000 in
theorem equalR_any (l : List T) (m : List R) (v v' : Value) (w : World) (h1 : TRow w v l) (h2 : RRow w v' m) (hl : l.length ≤ 1954687338211) :
    Calls Tryz.prog 65 #[v, v', .func (.func 66) #[] #[]] w fun e w' => e = .returned (.bool (decide (l.map T.r = m))) ∧ Below w.heap.size w w' := by
  have hent : ∀ (args : Array Value) (w : World), (callFunc 66 args).run Tryz.prog w = .ok (.enter 66 args) w := enters65
  obtain ⟨a1, cap1, rfl⟩ := h1.shape
  obtain ⟨a2, cap2, rfl⟩ := h2.shape
  have H1 := Lib.hid h1
  have H2 := Lib.hid h2
  clear h1 h2
  by_cases hlen : l.length = m.length
  · have d0 : ((l.length : Int) != (m.length : Int)) = false := by simp; omega
    have HLEN := Lib.hid hlen
    rw [← hlen] at d0
    have hgo : Value.slice a2 m.length cap2 = .slice a2 l.length cap2 := by rw [hlen]
    rw [hgo]
    clear hlen hgo
    go_enter Tryz.func65, Tryz.ntmps65
    go_wp2
    go_loopg [17] (l.length + 1) (fun g i wr => ∃ k : Nat, g + k = l.length + 1 ∧ k ≤ l.length ∧ i = .int .i64 k ∧ (∀ (j : Nat) (t : T) (q : R), j < k → l[j]? = some t → m[j]? = some q → t.r = q) ∧ Below w.heap.size w wr)
    case atStart => exact ⟨0, by omega, by omega, rfl, fun j t u hj => by omega, Below.refl _ _⟩
    case round =>
      obtain ⟨k, hg, hk, rfl, hsame, hb⟩ := hrel
      have HG := Lib.hid hg
      have HSM := Lib.hid hsame
      have HB := Lib.hid hb
      clear hg hsame hb
      by_cases hlt : k < l.length
      · obtain ⟨t, ht⟩ : ∃ t, l[k]? = some t := ⟨_, List.getElem?_eq_getElem hlt⟩
        obtain ⟨q, hq⟩ : ∃ q, m[k]? = some q := ⟨_, List.getElem?_eq_getElem (by have := HLEN.out; omega)⟩
        obtain ⟨b1, o1, rfl, hf1⟩ := H1.out.place (by omega)
        obtain ⟨b2, o2, rfl, hf2⟩ := H2.out.place (by have := HLEN.out; omega)
        obtain ⟨x, hx, hix⟩ := hf1 k t ht
        have hy := hf2 k q hq
        have hxr : t.r = x.r := hix.split.2.1
        clear hf1 hf2
        obtain ⟨c0, c1, c2, c3, c4, c5, c6⟩ := hx.up HB.out
        obtain ⟨e0, e1, e2, e3⟩ := hy.up HB.out
        have hlb : b2 < wr.heap.size := lt_of_cell e0
        have hne : b2 ≠ wr.heap.size := by omega
        have HC := Lib.hid (btw1_any x q ((wr.alloc (cbox x)).alloc (box q)))
        have HT := Lib.hid ht
        have HU := Lib.hid hq
        have HXR := Lib.hid hxr
        clear ht hq hx hy hix hxr
        by_cases hst : x.r = q
        · rw [decide_eq_true hst] at HC
          have HST := Lib.hid hst
          clear hst
          go_wp2_with fail
          refine HC.out.mono ?_
          rintro e w2 ⟨rfl, hb2⟩
          have HB2 := Lib.hid hb2
          clear hb2
          go_wp2
          go_roundg (gk - 1)
          case measure => have := HG.out; omega
          case rel =>
            refine ⟨k + 1, by have := HG.out; omega, by omega, by go_num, fun j a b hj ha hb => ?_, HB.out.trans ((below_one (below_one HB2.out)).mono HB.out.size)⟩
            rcases Nat.lt_or_ge j k with h | h
            · exact HSM.out j a b h ha hb
            · obtain rfl : j = k := by omega
              rw [HT.out] at ha; rw [HU.out] at hb
              cases ha; cases hb
              rw [HXR.out]; exact HST.out
        · rw [decide_eq_false hst] at HC
          have HST := Lib.hid (eqR_no HT.out HU.out (by rw [HXR.out]; exact hst))
          clear hst
          go_wp2_with fail
          refine HC.out.mono ?_
          rintro e w2 ⟨rfl, hb2⟩
          have HB2 := Lib.hid hb2
          clear hb2
          go_wp2
          go_ret
          exact ⟨by rw [HST.out]; rfl, HB.out.trans ((below_one (below_one HB2.out)).mono HB.out.size)⟩
      · obtain rfl : k = l.length := by omega
        have hkl : ((l.length : Int) < (l.length : Int)) = False := by simp
        have HST := Lib.hid (eqR_yes HLEN.out (fun k t u ht hu => HSM.out k t u (by
          rcases Nat.lt_or_ge k l.length with h | h
          · exact h
          · rw [List.getElem?_eq_none h] at ht; cases ht) ht hu))
        go_wp2
        go_ret
        exact ⟨by rw [HST.out]; rfl, HB.out⟩
  · have d0 : ((l.length : Int) != (m.length : Int)) = true := by simp; omega
    have d1 : (l.length == m.length) = false := by simpa using hlen
    have HV := Lib.hid (eqR_len hlen)
    go_enter Tryz.func65, Tryz.ntmps65
    go_wp2
    go_ret
    exact ⟨by rw [HV.out]; rfl, Below.refl _ _⟩
end Go.Proofs.YtcdiogifgemjbaaGreat
