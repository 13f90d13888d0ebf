/- Texts of this seat, 3 in one file. -/
import Derived.Test.YtakofjbjciljjaaG08
import Derived.Laws.StructEq
import Derived.Test.YtakofjbjciljjaaG02
import Derived.Test.YtakofjbjciljjaaG06
import Derived.Test.YtakofjbjciljjaaG16
/- Are two rectangles the same? -/
namespace Go.Proofs.Ytakofjbjciljjaa
open Go.RowKit

theorem eq_guard : Try.prog.eqGuardType Try.prog.depth 23 = false := by kernel_rfl
theorem r_ext (r q : R) : decide (r = q) = (decide (r.x = q.x) && decide (r.y = q.y) && decide (r.w = q.w) && decide (r.h = q.h)) := by
  cases r; cases q; simp [Bool.and_assoc]
theorem eq_run (r q : R) (w : World) : (Op.equalIn 10000 23 (val r) (val q)).run Try.prog w = .ok (decide (r = q)) w := by
  have u3 := Try.underlying3
  have a3 := Try.isAgg3
  have z3 := Try.sizeOf3
  have hS : Try.prog.underlying 23 = some (.struct (Try.prog.fieldsOf 23)) := by kernel_rfl
  have hp : Try.prog.stoodInHeld 23 = false := by kernel_rfl
  rw [show (10000 : Nat) = 9999 + 1 from rfl, run_equalIn_agg w 9999 23 _ _ hS hp]
  simp only [Program.fieldsOf, Try.underlying23]
  rw [r_ext]
  rcases Decidable.em (r.x = q.x) with h1 | h1 <;> rcases Decidable.em (r.y = q.y) with h2 | h2 <;> rcases Decidable.em (r.w = q.w) with h3 | h3 <;> rcases Decidable.em (r.h = q.h) with h4 | h4
  all_goals
    have d1 : (r.x == q.x) = decide (r.x = q.x) := by rw [Bool.eq_iff_iff]; simp
    have d2 : (r.y == q.y) = decide (r.y = q.y) := by rw [Bool.eq_iff_iff]; simp
    have d3 : (r.w == q.w) = decide (r.w = q.w) := by rw [Bool.eq_iff_iff]; simp
    have d4 : (r.h == q.h) = decide (r.h = q.h) := by rw [Bool.eq_iff_iff]; simp
    simp only [h1, h2, h3, h4, decide_true, decide_false] at d1 d2 d3 d4 ⊢
    go_simp
    try simp [h1, h2, h3, h4]
end Go.Proofs.Ytakofjbjciljjaa
/- Are the rectangles of cells these? -/
namespace Go.Proofs.Ytakofjbjciljjaa
open Go.RowKit

theorem enters65 : Enters 75 := enters_of Try.func75 (by kernel_rfl) rfl
set_option maxRecDepth 100000 in
theorem btw1_any (c : C) (q : R) (w : World) : Calls Try.prog 75 #[cval c, val q] w fun e w' => e = .returned (.bool (decide (c.r = q))) ∧ Below w.heap.size w w' := by
  have hg := eq_guard
  have hE : ∀ w, (Op.equalIn 10000 23 (.agg #[.int .i64 c.r.x, .int .i64 c.r.y, .int .i64 c.r.w, .int .i64 c.r.h]) (.agg #[.int .i64 q.x, .int .i64 q.y, .int .i64 q.w, .int .i64 q.h])).run Try.prog w = .ok (decide (c.r = q)) w := eq_run c.r q
  have HB : Hid (Below w.heap.size w ((w.alloc (cbox c)).alloc (box q))) := ((Below.refl _ _).alloc (Nat.le_refl _) _).alloc (by simp) _
  generalize decide (c.r = q) = bb at hE ⊢
  go_enter Try.func75, Try.ntmps75
  go_wp2
  go_ret
  exact ⟨rfl, HB.out⟩

theorem eqR_len {l : List T} {m : List R} (h : l.length ≠ m.length) : decide (l.map T.r = m) = false := by
  apply decide_eq_false; intro e; rw [← e] at h; simp at h
theorem eqR_no {l : List T} {m : List R} {k : Nat} {t : T} {q : R} (ht : l[k]? = some t) (hq : m[k]? = some q) (h : t.r ≠ q) : decide (l.map T.r = m) = false := by
  apply decide_eq_false; intro e; rw [← e] at hq; simp [ht] at hq; exact h hq
theorem eqR_yes {l : List T} {m : List R} (hl : l.length = m.length) (h : ∀ (k : Nat) (t : T) (q : R), l[k]? = some t → m[k]? = some q → t.r = q) : decide (l.map T.r = m) = true := by
  apply decide_eq_true
  apply List.ext_getElem?
  intro k
  rcases Nat.lt_or_ge k l.length with hk | hk
  · have h1 := List.getElem?_eq_getElem hk
    have h2 := List.getElem?_eq_getElem (show k < m.length by omega)
    rw [List.getElem?_map, h1, h2]
    simp [h k _ _ h1 h2]
  · rw [List.getElem?_eq_none (by simpa using hk), List.getElem?_eq_none (by omega)]

set_option maxRecDepth 100000 in
set_option maxHeartbeats 800000 in
theorem equalR_any (l : List T) (m : List R) (v v' : Value) (w : World) (h1 : TRow w v l) (h2 : RRow w v' m) (hl : l.length ≤ 1954687338211) :
    Calls Try.prog 74 #[v, v', .func (.func 75) #[] #[]] w fun e w' => e = .returned (.bool (decide (l.map T.r = m))) ∧ Below w.heap.size w w' := by
  have hent : ∀ (args : Array Value) (w : World), (callFunc 75 args).run Try.prog w = .ok (.enter 75 args) w := enters65
  obtain ⟨a1, cap1, rfl⟩ := h1.shape
  obtain ⟨a2, cap2, rfl⟩ := h2.shape
  have H1 := Lib.hid h1
  have H2 := Lib.hid h2
  clear h1 h2
  by_cases hlen : l.length = m.length
  · have d0 : ((l.length : Int) != (m.length : Int)) = false := by simp; omega
    have HLEN := Lib.hid hlen
    rw [← hlen] at d0
    have hgo : Value.slice a2 m.length cap2 = .slice a2 l.length cap2 := by rw [hlen]
    rw [hgo]
    clear hlen hgo
    go_enter Try.func74, Try.ntmps74
    go_wp2
    go_loopg [17] (l.length + 1) (fun g i wr => ∃ k : Nat, g + k = l.length + 1 ∧ k ≤ l.length ∧ i = .int .i64 k ∧ (∀ (j : Nat) (t : T) (q : R), j < k → l[j]? = some t → m[j]? = some q → t.r = q) ∧ Below w.heap.size w wr)
    case atStart => exact ⟨0, by omega, by omega, rfl, fun j t u hj => by omega, Below.refl _ _⟩
    case round =>
      obtain ⟨k, hg, hk, rfl, hsame, hb⟩ := hrel
      have HG := Lib.hid hg
      have HSM := Lib.hid hsame
      have HB := Lib.hid hb
      clear hg hsame hb
      by_cases hlt : k < l.length
      · obtain ⟨t, ht⟩ : ∃ t, l[k]? = some t := ⟨_, List.getElem?_eq_getElem hlt⟩
        obtain ⟨q, hq⟩ : ∃ q, m[k]? = some q := ⟨_, List.getElem?_eq_getElem (by have := HLEN.out; omega)⟩
        obtain ⟨b1, o1, rfl, hf1⟩ := H1.out.place (by omega)
        obtain ⟨b2, o2, rfl, hf2⟩ := H2.out.place (by have := HLEN.out; omega)
        obtain ⟨x, hx, hix⟩ := hf1 k t ht
        have hy := hf2 k q hq
        have hxr : t.r = x.r := hix.split.2.1
        clear hf1 hf2
        obtain ⟨c0, c1, c2, c3, c4, c5, c6⟩ := hx.up HB.out
        obtain ⟨e0, e1, e2, e3⟩ := hy.up HB.out
        have hlb : b2 < wr.heap.size := lt_of_cell e0
        have hne : b2 ≠ wr.heap.size := by omega
        have HC := Lib.hid (btw1_any x q ((wr.alloc (cbox x)).alloc (box q)))
        have HT := Lib.hid ht
        have HU := Lib.hid hq
        have HXR := Lib.hid hxr
        clear ht hq hx hy hix hxr
        by_cases hst : x.r = q
        · rw [decide_eq_true hst] at HC
          have HST := Lib.hid hst
          clear hst
          go_wp2_with fail
          refine HC.out.mono ?_
          rintro e w2 ⟨rfl, hb2⟩
          have HB2 := Lib.hid hb2
          clear hb2
          go_wp2
          go_roundg (gk - 1)
          case measure => have := HG.out; omega
          case rel =>
            refine ⟨k + 1, by have := HG.out; omega, by omega, by go_num, fun j a b hj ha hb => ?_, HB.out.trans ((below_one (below_one HB2.out)).mono HB.out.size)⟩
            rcases Nat.lt_or_ge j k with h | h
            · exact HSM.out j a b h ha hb
            · obtain rfl : j = k := by omega
              rw [HT.out] at ha; rw [HU.out] at hb
              cases ha; cases hb
              rw [HXR.out]; exact HST.out
        · rw [decide_eq_false hst] at HC
          have HST := Lib.hid (eqR_no HT.out HU.out (by rw [HXR.out]; exact hst))
          clear hst
          go_wp2_with fail
          refine HC.out.mono ?_
          rintro e w2 ⟨rfl, hb2⟩
          have HB2 := Lib.hid hb2
          clear hb2
          go_wp2
          go_ret
          exact ⟨by rw [HST.out]; rfl, HB.out.trans ((below_one (below_one HB2.out)).mono HB.out.size)⟩
      · obtain rfl : k = l.length := by omega
        have hkl : ((l.length : Int) < (l.length : Int)) = False := by simp
        have HST := Lib.hid (eqR_yes HLEN.out (fun k t u ht hu => HSM.out k t u (by
          rcases Nat.lt_or_ge k l.length with h | h
          · exact h
          · rw [List.getElem?_eq_none h] at ht; cases ht) ht hu))
        go_wp2
        go_ret
        exact ⟨by rw [HST.out]; rfl, HB.out⟩
  · have d0 : ((l.length : Int) != (m.length : Int)) = true := by simp; omega
    have d1 : (l.length == m.length) = false := by simpa using hlen
    have HV := Lib.hid (eqR_len hlen)
    go_enter Try.func74, Try.ntmps74
    go_wp2
    go_ret
    exact ⟨by rw [HV.out]; rfl, Below.refl _ _⟩
end Go.Proofs.Ytakofjbjciljjaa
/- Does a cell tile, and what is between its kids? -/
namespace Go.Proofs.Ytakofjbjciljjaa
open Go.RowKit

/-- A cell tiles: a leaf, or its kids are what it is cut into. -/
def fitsP (t : T) : Prop := t.k = 1 ∨ (cutP t.r (axT t) (sizesT t) ∧ t.kids.map T.r = cutParts t.r (axT t) (sizesT t) true)
noncomputable def fitB (t : T) : Bool := @decide (fitsP t) (Classical.propDecidable _)
theorem fitB_iff (t : T) : fitB t = true ↔ fitsP t := by unfold fitB; simp
theorem fitB_of {t : T} {b : Bool} (h : b = true ↔ fitsP t) : b = fitB t := by
  rw [Bool.eq_iff_iff, h, fitB_iff]
def linesT (t : T) : List R := if t.k = 1 then [] else cutLines t.r (axT t) (sizesT t) true
def linesB (t : T) (b : Bool) : List R := if b = true then linesT t else []
def BtwSays (t : T) (w : World) (e : Ending) (w' : World) : Prop := ∃ v, e = .returned (.tuple #[v, .bool (fitB t)]) ∧ RRow w' v (linesB t (fitB t)) ∧ Below w.heap.size w w'
theorem btw_no {t : T} {w w' : World} {e : Ending} {v : Value} (h : ¬ fitsP t) (he : e = .returned (.tuple #[v, .bool false])) (hr : RRow w' v []) (hb : Below w.heap.size w w') : BtwSays t w e w' := by
  have : fitB t = false := by
    rw [← Bool.not_eq_true, fitB_iff]; exact h
  exact ⟨v, by rw [this]; exact he, by rw [this]; exact hr, hb⟩
theorem btw_yes {t : T} {w w' : World} {e : Ending} {v : Value} (h : fitsP t) (he : e = .returned (.tuple #[v, .bool true])) (hr : RRow w' v (linesT t)) (hb : Below w.heap.size w w') : BtwSays t w e w' := by
  have : fitB t = true := (fitB_iff t).2 h
  exact ⟨v, by rw [this]; exact he, by rw [this]; exact hr, hb⟩
theorem RRow.nil (w : World) : RRow w (.slice none 0 0) [] := .inl ⟨_, _, rfl, rfl⟩
theorem sizes_len (t : T) : (sizesT t).length = t.kids.length := by unfold sizesT; split; exact hs_len t; exact ws_len t

set_option maxRecDepth 100000 in
set_option maxHeartbeats 1600000 in
theorem between_any (t : T) (c : C) (w : World) (hi : Is w c t) (hl : t.kids.length ≤ 20000) : Calls Try.prog 64 #[cval c] w (BtwSays t w) := by
  have HA : Hid (Below w.heap.size w (w.alloc (cbox c))) := (Below.refl _ _).alloc (Nat.le_refl _) _
  have HC := Lib.hid (cbox_new w c)
  have hck : t.k = c.k := hi.split.1
  have hcr : t.r = c.r := hi.split.2.1
  have HI := Lib.hid hi
  have hfine := hi.fine
  have HRF := Lib.hid hfine.2.1
  have HL := Lib.hid hl
  clear hi hfine
  by_cases h1 : c.k = 1
  · have d1 : (c.k == 1) = true := by simpa using h1
    have HF : Hid (fitsP t) := Lib.hid (.inl (by rw [hck]; exact h1))
    have HLN : Hid (linesT t = []) := Lib.hid (by unfold linesT; rw [if_pos (by rw [hck]; exact h1)])
    clear hck hcr h1
    go_enter Try.func64, Try.ntmps64
    go_wp2
    go_ret2
    exact btw_yes HF.out rfl (by rw [HLN.out]; exact RRow.nil _) HA.out
  · have d1 : (c.k == 1) = false := by simpa using h1
    have HNK : Hid (¬ t.k = 1) := Lib.hid (by rw [hck]; exact h1)
    have HCR := Lib.hid hcr
    have HAL := Lib.hid (along_any t c (w.alloc (cbox c)) (HI.out.up HA.out) HL.out)
    clear hck h1 hcr
    go_enter Try.func64, Try.ntmps64
    go_wp2_with fail
    refine HAL.out.mono ?_
    rintro e w2 ⟨v2, rfl, hr2, hb2⟩
    have HB2 := Lib.hid (HA.out.trans (hb2.mono HA.out.size))
    have C2 := Lib.hid (HC.out.up hb2)
    have HCT := Lib.hid (cut_any c.r (axT t) v2 (sizesT t) w2 HRF.out hr2 (by rw [sizes_len]; have := HL.out; omega))
    obtain ⟨c0, c1, c2, c3, c4, c5, c6⟩ := C2.out
    simp only [Nat.zero_add] at c1 c2 c3 c4 c5 c6
    clear hb2 hr2
    go_wp2_with fail
    refine HCT.out.mono ?_
    rintro e w3 ⟨v3, v4, b, rfl, hbi, hr3, hr4, hb3⟩
    have HB3 := Lib.hid (HB2.out.trans (hb3.mono HB2.out.size))
    have C3 := Lib.hid (C2.out.up hb3)
    have HBI := Lib.hid hbi
    have HR3 := Lib.hid hr3
    have HR4 := Lib.hid hr4
    clear hb3 hbi hr3 hr4 c0 c1 c2 c3 c4 c5 c6
    obtain ⟨c0, c1, c2, c3, c4, c5, c6⟩ := C3.out
    simp only [Nat.zero_add] at c1 c2 c3 c4 c5 c6
    cases b with
    | false =>
      have HF : Hid (¬ fitsP t) := Lib.hid (by
        rintro (h | ⟨h, -⟩)
        · exact HNK.out h
        · rw [HCR.out] at h
          have := HBI.out.2 h; cases this)
      go_wp2
      go_ret2
      exact btw_no HF.out rfl (RRow.nil _) HB3.out
    | true =>
      have HCP := Lib.hid (HBI.out.1 rfl)
      have HEQ := Lib.hid (equalR_any t.kids (cutParts c.r (axT t) (sizesT t) true) (.slice c.a c.n c.cap) v3 w3 (HI.out.row.up HB3.out) HR3.out HI.out.len)
      go_wp2_with fail
      refine HEQ.out.mono ?_
      rintro e w4 ⟨rfl, hb4⟩
      have HB4 := Lib.hid (HB3.out.trans (hb4.mono HB3.out.size))
      have HR5 := Lib.hid (HR4.out.up hb4)
      clear hb4 c0 c1 c2 c3 c4 c5 c6
      by_cases hq : t.kids.map T.r = cutParts c.r (axT t) (sizesT t) true
      · have HF : Hid (fitsP t) := Lib.hid (.inr (by rw [HCR.out]; exact ⟨HCP.out, hq⟩))
        have HLN : Hid (linesT t = cutLines c.r (axT t) (sizesT t) true) := Lib.hid (by unfold linesT; rw [if_neg HNK.out, HCR.out])
        rw [decide_eq_true hq]
        clear hq
        go_wp2
        go_ret2
        exact btw_yes HF.out rfl (by rw [HLN.out]; exact HR5.out) HB4.out
      · have HF : Hid (¬ fitsP t) := Lib.hid (by
          rintro (h | ⟨-, h⟩)
          · exact HNK.out h
          · rw [HCR.out] at h; exact hq h)
        rw [decide_eq_false hq]
        clear hq
        go_wp2
        go_ret2
        exact btw_no HF.out rfl (RRow.nil _) HB4.out
end Go.Proofs.Ytakofjbjciljjaa
