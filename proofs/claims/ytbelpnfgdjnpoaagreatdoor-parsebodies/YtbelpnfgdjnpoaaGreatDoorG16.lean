/- Texts of this seat, 3 in one file. -/
import Derived.Test.YtbelpnfgdjnpoaaGreatDoorG15
import Derived.Test.YtbelpnfgdjnpoaaGreatDoorG03
import Derived.Test.YtbelpnfgdjnpoaaGreatDoorG12
import Derived.Test.YtbelpnfgdjnpoaaGreatDoorG11
/- Are the rectangles of cells these? -/
namespace Go.Proofs.YtbelpnfgdjnpoaaGreatDoor
open Go.RowKit

theorem enters65 : Enters 121 := enters_of Tryz.func121 (by kernel_rfl) rfl
set_option maxRecDepth 100000 in
theorem btw1_any (c : C) (q : R) (w : World) : Calls Tryz.prog 121 #[cval c, val q] w fun e w' => e = .returned (.bool (decide (c.r = q))) ∧ Below w.heap.size w w' := by
  have hg := eq_guard
  have hE : ∀ w, (Op.equalIn 10000 24 (.agg #[.int .i64 c.r.x, .int .i64 c.r.y, .int .i64 c.r.w, .int .i64 c.r.h]) (.agg #[.int .i64 q.x, .int .i64 q.y, .int .i64 q.w, .int .i64 q.h])).run Tryz.prog w = .ok (decide (c.r = q)) w := eq_run c.r q
  have HB : Hid (Below w.heap.size w ((w.alloc (cbox c)).alloc (box q))) := ((Below.refl _ _).alloc (Nat.le_refl _) _).alloc (by simp) _
  generalize decide (c.r = q) = bb at hE ⊢
  go_enter Tryz.func121, Tryz.ntmps121
  go_wp2
  go_ret
  exact ⟨rfl, HB.out⟩

theorem eqR_len {l : List T} {m : List R} (h : l.length ≠ m.length) : decide (l.map T.r = m) = false := by
  apply decide_eq_false; intro e; rw [← e] at h; simp at h
theorem eqR_no {l : List T} {m : List R} {k : Nat} {t : T} {q : R} (ht : l[k]? = some t) (hq : m[k]? = some q) (h : t.r ≠ q) : decide (l.map T.r = m) = false := by
  apply decide_eq_false; intro e; rw [← e] at hq; simp [ht] at hq; exact h hq
theorem eqR_yes {l : List T} {m : List R} (hl : l.length = m.length) (h : ∀ (k : Nat) (t : T) (q : R), l[k]? = some t → m[k]? = some q → t.r = q) : decide (l.map T.r = m) = true := by
  apply decide_eq_true
  apply List.ext_getElem?
  intro k
  rcases Nat.lt_or_ge k l.length with hk | hk
  · have h1 := List.getElem?_eq_getElem hk
    have h2 := List.getElem?_eq_getElem (show k < m.length by omega)
    rw [List.getElem?_map, h1, h2]
    simp [h k _ _ h1 h2]
  · rw [List.getElem?_eq_none (by simpa using hk), List.getElem?_eq_none (by omega)]

set_option maxRecDepth 100000 in
set_option maxHeartbeats 800000 in
theorem equalR_any (l : List T) (m : List R) (v v' : Value) (w : World) (h1 : TRow w v l) (h2 : RRow w v' m) (hl : l.length ≤ 1954687338211) :
    Calls Tryz.prog 120 #[v, v', .func (.func 121) #[] #[]] w fun e w' => e = .returned (.bool (decide (l.map T.r = m))) ∧ Below w.heap.size w w' := by
  have hent : ∀ (args : Array Value) (w : World), (callFunc 121 args).run Tryz.prog w = .ok (.enter 121 args) w := enters65
  obtain ⟨a1, cap1, rfl⟩ := h1.shape
  obtain ⟨a2, cap2, rfl⟩ := h2.shape
  have H1 := Lib.hid h1
  have H2 := Lib.hid h2
  clear h1 h2
  by_cases hlen : l.length = m.length
  · have d0 : ((l.length : Int) != (m.length : Int)) = false := by simp; omega
    have HLEN := Lib.hid hlen
    rw [← hlen] at d0
    have hgo : Value.slice a2 m.length cap2 = .slice a2 l.length cap2 := by rw [hlen]
    rw [hgo]
    clear hlen hgo
    go_enter Tryz.func120, Tryz.ntmps120
    go_wp2
    go_loopg [17] (l.length + 1) (fun g i wr => ∃ k : Nat, g + k = l.length + 1 ∧ k ≤ l.length ∧ i = .int .i64 k ∧ (∀ (j : Nat) (t : T) (q : R), j < k → l[j]? = some t → m[j]? = some q → t.r = q) ∧ Below w.heap.size w wr)
    case atStart => exact ⟨0, by omega, by omega, rfl, fun j t u hj => by omega, Below.refl _ _⟩
    case round =>
      obtain ⟨k, hg, hk, rfl, hsame, hb⟩ := hrel
      have HG := Lib.hid hg
      have HSM := Lib.hid hsame
      have HB := Lib.hid hb
      clear hg hsame hb
      by_cases hlt : k < l.length
      · obtain ⟨t, ht⟩ : ∃ t, l[k]? = some t := ⟨_, List.getElem?_eq_getElem hlt⟩
        obtain ⟨q, hq⟩ : ∃ q, m[k]? = some q := ⟨_, List.getElem?_eq_getElem (by have := HLEN.out; omega)⟩
        obtain ⟨b1, o1, rfl, hf1⟩ := H1.out.place (by omega)
        obtain ⟨b2, o2, rfl, hf2⟩ := H2.out.place (by have := HLEN.out; omega)
        obtain ⟨x, hx, hix⟩ := hf1 k t ht
        have hy := hf2 k q hq
        have hxr : t.r = x.r := hix.split.2.1
        clear hf1 hf2
        obtain ⟨c0, c1, c2, c3, c4, c5, c6⟩ := hx.up HB.out
        obtain ⟨e0, e1, e2, e3⟩ := hy.up HB.out
        have hlb : b2 < wr.heap.size := lt_of_cell e0
        have hne : b2 ≠ wr.heap.size := by omega
        have HC := Lib.hid (btw1_any x q ((wr.alloc (cbox x)).alloc (box q)))
        have HT := Lib.hid ht
        have HU := Lib.hid hq
        have HXR := Lib.hid hxr
        clear ht hq hx hy hix hxr
        by_cases hst : x.r = q
        · rw [decide_eq_true hst] at HC
          have HST := Lib.hid hst
          clear hst
          go_wp2_with fail
          refine HC.out.mono ?_
          rintro e w2 ⟨rfl, hb2⟩
          have HB2 := Lib.hid hb2
          clear hb2
          go_wp2
          go_roundg (gk - 1)
          case measure => have := HG.out; omega
          case rel =>
            refine ⟨k + 1, by have := HG.out; omega, by omega, by go_num, fun j a b hj ha hb => ?_, HB.out.trans ((below_one (below_one HB2.out)).mono HB.out.size)⟩
            rcases Nat.lt_or_ge j k with h | h
            · exact HSM.out j a b h ha hb
            · obtain rfl : j = k := by omega
              rw [HT.out] at ha; rw [HU.out] at hb
              cases ha; cases hb
              rw [HXR.out]; exact HST.out
        · rw [decide_eq_false hst] at HC
          have HST := Lib.hid (eqR_no HT.out HU.out (by rw [HXR.out]; exact hst))
          clear hst
          go_wp2_with fail
          refine HC.out.mono ?_
          rintro e w2 ⟨rfl, hb2⟩
          have HB2 := Lib.hid hb2
          clear hb2
          go_wp2
          go_ret
          exact ⟨by rw [HST.out]; rfl, HB.out.trans ((below_one (below_one HB2.out)).mono HB.out.size)⟩
      · obtain rfl : k = l.length := by omega
        have hkl : ((l.length : Int) < (l.length : Int)) = False := by simp
        have HST := Lib.hid (eqR_yes HLEN.out (fun k t u ht hu => HSM.out k t u (by
          rcases Nat.lt_or_ge k l.length with h | h
          · exact h
          · rw [List.getElem?_eq_none h] at ht; cases ht) ht hu))
        go_wp2
        go_ret
        exact ⟨by rw [HST.out]; rfl, HB.out⟩
  · have d0 : ((l.length : Int) != (m.length : Int)) = true := by simp; omega
    have d1 : (l.length == m.length) = false := by simpa using hlen
    have HV := Lib.hid (eqR_len hlen)
    go_enter Tryz.func120, Tryz.ntmps120
    go_wp2
    go_ret
    exact ⟨by rw [HV.out]; rfl, Below.refl _ _⟩
end Go.Proofs.YtbelpnfgdjnpoaaGreatDoor
/- Does a cell tile, and what is between its kids? -/
namespace Go.Proofs.YtbelpnfgdjnpoaaGreatDoor
open Go.RowKit

/-- A cell tiles: a leaf, or its kids are what it is cut into. -/
def fitsP (t : T) : Prop := t.k = 1 ∨ (cutP t.r (axT t) (sizesT t) ∧ t.kids.map T.r = cutParts t.r (axT t) (sizesT t) true)
noncomputable def fitB (t : T) : Bool := @decide (fitsP t) (Classical.propDecidable _)
theorem fitB_iff (t : T) : fitB t = true ↔ fitsP t := by unfold fitB; simp
theorem fitB_of {t : T} {b : Bool} (h : b = true ↔ fitsP t) : b = fitB t := by
  rw [Bool.eq_iff_iff, h, fitB_iff]
def linesT (t : T) : List R := if t.k = 1 then [] else cutLines t.r (axT t) (sizesT t) true
def linesB (t : T) (b : Bool) : List R := if b = true then linesT t else []
def BtwSays (t : T) (w : World) (e : Ending) (w' : World) : Prop := ∃ v, e = .returned (.tuple #[v, .bool (fitB t)]) ∧ RRow w' v (linesB t (fitB t)) ∧ Below w.heap.size w w'
theorem btw_no {t : T} {w w' : World} {e : Ending} {v : Value} (h : ¬ fitsP t) (he : e = .returned (.tuple #[v, .bool false])) (hr : RRow w' v []) (hb : Below w.heap.size w w') : BtwSays t w e w' := by
  have : fitB t = false := by
    rw [← Bool.not_eq_true, fitB_iff]; exact h
  exact ⟨v, by rw [this]; exact he, by rw [this]; exact hr, hb⟩
theorem btw_yes {t : T} {w w' : World} {e : Ending} {v : Value} (h : fitsP t) (he : e = .returned (.tuple #[v, .bool true])) (hr : RRow w' v (linesT t)) (hb : Below w.heap.size w w') : BtwSays t w e w' := by
  have : fitB t = true := (fitB_iff t).2 h
  exact ⟨v, by rw [this]; exact he, by rw [this]; exact hr, hb⟩
theorem RRow.nil (w : World) : RRow w (.slice none 0 0) [] := .inl ⟨_, _, rfl, rfl⟩
theorem sizes_len (t : T) : (sizesT t).length = t.kids.length := by unfold sizesT; split; exact hs_len t; exact ws_len t

set_option maxRecDepth 100000 in
set_option maxHeartbeats 1600000 in
theorem between_any (t : T) (c : C) (w : World) (hi : Is w c t) (hl : t.kids.length ≤ 20000) : Calls Tryz.prog 88 #[cval c] w (BtwSays t w) := by
  have HA : Hid (Below w.heap.size w (w.alloc (cbox c))) := (Below.refl _ _).alloc (Nat.le_refl _) _
  have HC := Lib.hid (cbox_new w c)
  have hck : t.k = c.k := hi.split.1
  have hcr : t.r = c.r := hi.split.2.1
  have HI := Lib.hid hi
  have hfine := hi.fine
  have HRF := Lib.hid hfine.2.1
  have HL := Lib.hid hl
  clear hi hfine
  by_cases h1 : c.k = 1
  · have d1 : (c.k == 1) = true := by simpa using h1
    have HF : Hid (fitsP t) := Lib.hid (.inl (by rw [hck]; exact h1))
    have HLN : Hid (linesT t = []) := Lib.hid (by unfold linesT; rw [if_pos (by rw [hck]; exact h1)])
    clear hck hcr h1
    go_enter Tryz.func88, Tryz.ntmps88
    go_wp2
    go_ret2
    exact btw_yes HF.out rfl (by rw [HLN.out]; exact RRow.nil _) HA.out
  · have d1 : (c.k == 1) = false := by simpa using h1
    have HNK : Hid (¬ t.k = 1) := Lib.hid (by rw [hck]; exact h1)
    have HCR := Lib.hid hcr
    have HAL := Lib.hid (along_any t c (w.alloc (cbox c)) (HI.out.up HA.out) HL.out)
    clear hck h1 hcr
    go_enter Tryz.func88, Tryz.ntmps88
    go_wp2_with fail
    refine HAL.out.mono ?_
    rintro e w2 ⟨v2, rfl, hr2, hb2⟩
    have HB2 := Lib.hid (HA.out.trans (hb2.mono HA.out.size))
    have C2 := Lib.hid (HC.out.up hb2)
    have HCT := Lib.hid (cut_any c.r (axT t) v2 (sizesT t) w2 HRF.out hr2 (by rw [sizes_len]; have := HL.out; omega))
    obtain ⟨c0, c1, c2, c3, c4, c5, c6⟩ := C2.out
    simp only [Nat.zero_add] at c1 c2 c3 c4 c5 c6
    clear hb2 hr2
    go_wp2_with fail
    refine HCT.out.mono ?_
    rintro e w3 ⟨v3, v4, b, rfl, hbi, hr3, hr4, hb3⟩
    have HB3 := Lib.hid (HB2.out.trans (hb3.mono HB2.out.size))
    have C3 := Lib.hid (C2.out.up hb3)
    have HBI := Lib.hid hbi
    have HR3 := Lib.hid hr3
    have HR4 := Lib.hid hr4
    clear hb3 hbi hr3 hr4 c0 c1 c2 c3 c4 c5 c6
    obtain ⟨c0, c1, c2, c3, c4, c5, c6⟩ := C3.out
    simp only [Nat.zero_add] at c1 c2 c3 c4 c5 c6
    cases b with
    | false =>
      have HF : Hid (¬ fitsP t) := Lib.hid (by
        rintro (h | ⟨h, -⟩)
        · exact HNK.out h
        · rw [HCR.out] at h
          have := HBI.out.2 h; cases this)
      go_wp2
      go_ret2
      exact btw_no HF.out rfl (RRow.nil _) HB3.out
    | true =>
      have HCP := Lib.hid (HBI.out.1 rfl)
      have HEQ := Lib.hid (equalR_any t.kids (cutParts c.r (axT t) (sizesT t) true) (.slice c.a c.n c.cap) v3 w3 (HI.out.row.up HB3.out) HR3.out HI.out.len)
      go_wp2_with fail
      refine HEQ.out.mono ?_
      rintro e w4 ⟨rfl, hb4⟩
      have HB4 := Lib.hid (HB3.out.trans (hb4.mono HB3.out.size))
      have HR5 := Lib.hid (HR4.out.up hb4)
      clear hb4 c0 c1 c2 c3 c4 c5 c6
      by_cases hq : t.kids.map T.r = cutParts c.r (axT t) (sizesT t) true
      · have HF : Hid (fitsP t) := Lib.hid (.inr (by rw [HCR.out]; exact ⟨HCP.out, hq⟩))
        have HLN : Hid (linesT t = cutLines c.r (axT t) (sizesT t) true) := Lib.hid (by unfold linesT; rw [if_neg HNK.out, HCR.out])
        rw [decide_eq_true hq]
        clear hq
        go_wp2
        go_ret2
        exact btw_yes HF.out rfl (by rw [HLN.out]; exact HR5.out) HB4.out
      · have HF : Hid (¬ fitsP t) := Lib.hid (by
          rintro (h | ⟨-, h⟩)
          · exact HNK.out h
          · rw [HCR.out] at h; exact hq h)
        rw [decide_eq_false hq]
        clear hq
        go_wp2
        go_ret2
        exact btw_no HF.out rfl (RRow.nil _) HB4.out
end Go.Proofs.YtbelpnfgdjnpoaaGreatDoor
/- The document's row of a tree's cells, of its leaves, of their numbers. -/
namespace Go.Proofs.YtbelpnfgdjnpoaaGreatDoor
open Go.RowKit

mutual
def preT : T → List T
  | .node k r i l => .node k r i l :: preL l
def preL : List T → List T
  | [] => []
  | t :: l => preT t ++ preL l
end
theorem preT_eq (t : T) : preT t = t :: preL t.kids := by cases t; rw [preT]; rfl
theorem preL_append (a b : List T) : preL (a ++ b) = preL a ++ preL b := by
  induction a with
  | nil => simp [preL]
  | cons t l ih => simp only [List.cons_append, preL, ih, List.append_assoc]
theorem preL_step {l : List T} {k : Nat} {t : T} (h : l[k]? = some t) : preL (l.take (k + 1)) = preL (l.take k) ++ preT t := by
  rw [List.take_add_one, h, preL_append]; simp [preL]
mutual
theorem preT_len : ∀ t, (preT t).length = sz t
  | .node _ _ _ l => by rw [preT, sz, List.length_cons, preL_len l]; omega
theorem preL_len : ∀ l, (preL l).length = szL l
  | [] => by simp [preL, szL]
  | t :: l => by rw [preL, szL, List.length_append, preT_len t, preL_len l]
end

/-- Cells that are the tops of trees, one by one. -/
def Tops (w : World) (cs : List C) (l : List T) : Prop := cs.length = l.length ∧ ∀ (j : Nat) (x : C) (u : T), cs[j]? = some x → l[j]? = some u → Is w x u
theorem Tops.up {w w' : World} {cs : List C} {l : List T} (h : Tops w cs l) (hb : Below w.heap.size w w') : Tops w' cs l := ⟨h.1, fun j x u hx hu => (h.2 j x u hx hu).up hb⟩
theorem Tops.append {w : World} {cs ds : List C} {l m : List T} (h : Tops w cs l) (g : Tops w ds m) : Tops w (cs ++ ds) (l ++ m) := by
  refine ⟨by simp [h.1, g.1], fun j x u hx hu => ?_⟩
  rcases Nat.lt_or_ge j cs.length with hj | hj
  · rw [List.getElem?_append_left hj] at hx
    rw [List.getElem?_append_left (by rw [← h.1]; exact hj)] at hu
    exact h.2 j x u hx hu
  · rw [List.getElem?_append_right hj] at hx
    rw [List.getElem?_append_right (by rw [← h.1]; exact hj), ← h.1] at hu
    exact g.2 _ x u hx hu
theorem Tops.one {w : World} {c : C} {t : T} (h : Is w c t) : Tops w [c] [t] := by
  refine ⟨rfl, fun j x u hx hu => ?_⟩
  cases j with
  | zero => simp at hx hu; subst hx; subst hu; exact h
  | succ j => simp at hx
theorem Tops.nil (w : World) : Tops w [] [] := ⟨rfl, fun j x u hx => by simp at hx⟩
theorem Tops.at {w : World} {cs : List C} {l : List T} (h : Tops w cs l) {j : Nat} (hj : j < cs.length) : ∃ c t, cs[j]? = some c ∧ l[j]? = some t ∧ Is w c t := by
  have h1 := List.getElem?_eq_getElem hj
  have h2 := List.getElem?_eq_getElem (show j < l.length by rw [← h.1]; exact hj)
  exact ⟨_, _, h1, h2, h.2 j _ _ h1 h2⟩

/-- A new row of cells, the tops of these trees, which lie in w0. -/
def RowSays (l : List T) (w0 w : World) (e : Ending) (w' : World) : Prop :=
  ∃ v cs, e = .returned v ∧ OwnC w' w.heap.size v cs ∧ Tops w0 cs l ∧ Below w.heap.size w w'

set_option maxRecDepth 100000 in
theorem rall_any (w0 : World) (N : Nat) : ∀ (t : T) (c : C) (w : World), sz t ≤ N → sz t ≤ 1000000 → Is w0 c t → Below w0.heap.size w0 w → Calls Tryz.prog 66 #[cval c] w (RowSays (preT t) w0 w) := by
  induction N with
  | zero => intro t c w h; have := sz_pos t; omega
  | succ N ih =>
    intro t c w hs hm hi hb0
    have HB0 := Lib.hid hb0
    have HI := Lib.hid hi
    have HR := Lib.hid (hi.row.up hb0)
    have HR0 := Lib.hid hi.row
    clear hb0
    have hn := hi.n
    have hfn := hi.fine.2.2.2
    obtain ⟨ck, cr, cid, ca, cn, ccap⟩ := c
    simp only at hn hfn
    subst hn
    clear hi
    have HS := Lib.hid hs
    have HM := Lib.hid hm
    have HIH := Lib.hid ih
    clear hs hm ih
    go_enter Tryz.func66, Tryz.ntmps66
    go_wp2
    go_loopg [3, 10] (t.kids.length + 1) (fun g v i wr => ∃ (k : Nat) (cs : List C), g + k = t.kids.length + 1 ∧ k ≤ t.kids.length ∧ i = .int .i64 k ∧ OwnC wr (w.heap.size + 1) v cs ∧ Tops w0 cs (t :: preL (t.kids.take k)) ∧ Below (w.alloc (cbox ⟨ck, cr, cid, ca, t.kids.length, ccap⟩)).heap.size (w.alloc (cbox ⟨ck, cr, cid, ca, t.kids.length, ccap⟩)) wr)
    case atStart =>
      refine ⟨0, [⟨ck, cr, cid, ca, t.kids.length, ccap⟩], by omega, by omega, rfl, ?_, by simpa [preL] using Tops.one HI.out, (Below.refl _ _).alloc (Nat.le_refl _) _⟩
      have := OwnC.one (w.alloc (cbox ⟨ck, cr, cid, ca, t.kids.length, ccap⟩)) (w.heap.size + 1) (by simp) ⟨ck, cr, cid, ca, t.kids.length, ccap⟩
      simpa using this
    case round =>
      obtain ⟨k, cs, hg, hk, rfl, hown, htops, hb⟩ := hrel
      have HG := Lib.hid hg
      have HB := Lib.hid hb
      have HO := Lib.hid hown
      have HT := Lib.hid htops
      clear hg hb hown htops
      by_cases hlt : k < t.kids.length
      · obtain ⟨b, o, rfl, hf⟩ := HR0.out.place (by omega)
        obtain ⟨u, hu⟩ : ∃ u, t.kids[k]? = some u := ⟨_, List.getElem?_eq_getElem hlt⟩
        obtain ⟨x, hx, hix⟩ := hf k u hu
        clear hf
        have HB00 := Lib.hid (HB0.out.trans ((below_one HB.out).mono HB0.out.size))
        obtain ⟨c0, c1, c2, c3, c4, c5, c6⟩ := hx.up HB00.out
        have q6 := (box_at HB.out).2.2.2.2.2.2
        have HK := Lib.hid (HIH.out u x wr (by have := HS.out; have := sz_kid hu; omega) (by have := HM.out; have := sz_kid hu; omega) hix HB00.out)
        have HST := Lib.hid (preL_step hu)
        have HSZ := Lib.hid (show szL (t.kids.take (k + 1)) < 1000000 by have := HM.out; have := sz_node t; have := szL_take_le t.kids (k + 1); omega)
        have HU := Lib.hid hu
        clear hix hu hx
        go_wp2_with fail
        refine HK.out.mono ?_
        rintro e w2 ⟨v2, ds, rfl, hown2, htops2, hb2⟩
        have HB2 := Lib.hid (HB.out.trans (hb2.mono HB.out.size))
        have HO1 := Lib.hid (HO.out.up hb2)
        have HO2 := Lib.hid hown2
        have HT2 := Lib.hid htops2
        obtain ⟨a2, cap2, rfl⟩ := hown2.row.shape
        clear hb2 hown2 htops2 c0 c1 c2 c3 c4 c5 c6 q6
        have hdl : ds.length = sz u := by rw [HT2.out.1, preT_len]
        have hcl : cs.length = 1 + szL (t.kids.take k) := by rw [HT.out.1, List.length_cons, preL_len]; omega
        have hp : 0 < ds.length := by rw [hdl]; exact sz_pos u
        have hlen : cs.length + ds.length ≤ 1954687338211 := by
          have := HSZ.out
          rw [szL_take_succ HU.out] at this
          omega
        have HLL := Lib.hid hlen
        have HPP := Lib.hid hp
        clear hdl hcl hp hlen
        go_wp2_with (at_builtin; refine wpList_append_cells rfl _ _ rfl (w.heap.size + 1) _ _ cs ds rfl HO1.out rfl HO2.out.row HPP.out HLL.out w2 (Below.refl _ _) (by have := HB2.out.size; simp at this; omega) ?_; intro g cap3 w3 hown3 hb3 hgr3 hpl3)
        have HO3 := Lib.hid hown3
        have HB3 := Lib.hid (HB2.out.trans (show Below (w.alloc (cbox ⟨ck, cr, cid, some ⟨b, o, none⟩, t.kids.length, ccap⟩)).heap.size w2 w3 by simpa using hb3))
        have HG3 := Lib.hid hgr3
        clear hown3 hb3 hgr3 hpl3
        go_wp2
        go_roundg (gk - 1)
        case measure => have := HG.out; omega
        case rel =>
          refine ⟨k + 1, cs ++ ds, by have := HG.out; omega, by omega, by go_num, by rw [← List.length_append]; exact HO3.out, ?_, HB3.out⟩
          rw [HST.out, ← List.cons_append]
          exact HT.out.append HT2.out
      · obtain rfl : k = t.kids.length := by omega
        have hkl : ((t.kids.length : Int) < (t.kids.length : Int)) = False := by simp
        go_wp2
        go_ret
        refine ⟨_, cs, rfl, HO.out.lower (by omega), ?_, below_one HB.out⟩
        have := HT.out
        rw [List.take_length, ← preT_eq] at this
        exact this
end Go.Proofs.YtbelpnfgdjnpoaaGreatDoor
