/- The document's answer: does a cell tile, and its lines (its walk). -/
import Derived.Test.YtajhojbnpajelaaROne
namespace Go.Proofs.Ytajhojbnpajelaa
open Go.RowKit

theorem rs_is {t : T} (hk : t.k = 2 ∨ t.k = 3) : rsizesT t = sizesT t ∧ axT t = t.k - 1 := by
  unfold rsizesT sizesT axT
  rcases hk with h | h <;> rw [h] <;> simp
theorem parts_len (r : R) (ax : Int) (ms : List Int) : (cutParts r ax ms true).length = ms.length := by
  simp only [cutParts]; split <;> rw [partsL_length] <;> omega
theorem bel_drewN {B : Nat} {w w' : World} {n : Nat} (h : Below B w w') : Below B w (w'.drewN n) := ⟨h.os, h.tape, h.output, h.size, h.block⟩
theorem one_no {t : T} (h1 : ¬ t.k = 1) (h : ¬ cutP t.r (axT t) (sizesT t)) : ¬ fitsP t := by
  rintro (h2 | ⟨h2, -⟩)
  · exact h1 h2
  · exact h h2
theorem one_diff {t u : T} {k : Nat} {q : R} (h1 : ¬ t.k = 1) (hu : t.kids[k]? = some u) (hq : (cutParts t.r (axT t) (sizesT t) true)[k]? = some q) (hne : ¬ q = u.r) : ¬ fitsP t := by
  rintro (h2 | ⟨-, h2⟩)
  · exact h1 h2
  · rw [← h2, List.getElem?_map, hu] at hq
    simp at hq
    exact hne hq.symm
theorem one_all {t : T} (hc : cutP t.r (axT t) (sizesT t)) (h : ∀ (k : Nat) (u : T) (q : R), t.kids[k]? = some u → (cutParts t.r (axT t) (sizesT t) true)[k]? = some q → q = u.r) : fitsP t := by
  refine .inr ⟨hc, of_decide_eq_true (eqR_yes (by rw [parts_len, sizes_len]) fun k u q hu hq => (h k u q hu hq).symm)⟩

set_option maxRecDepth 100000 in
set_option maxHeartbeats 1600000 in
theorem rone_any (t : T) (c : C) (w : World) (hi : Is w c t) (hl : t.kids.length ≤ 999) (hk : t.k = 1 ∨ t.k = 2 ∨ t.k = 3) : Calls Try.prog 42 #[cval c] w (BtwSays t w) := by
  have HA : Hid (Below w.heap.size w (w.alloc (cbox c))) := (Below.refl _ _).alloc (Nat.le_refl _) _
  have HC := Lib.hid (cbox_new w c)
  have hck : t.k = c.k := hi.split.1
  have hcr : t.r = c.r := hi.split.2.1
  have HI := Lib.hid hi
  have hfine := hi.fine
  have HRF := Lib.hid hfine.2.1
  have HL := Lib.hid hl
  have hcn := hi.n
  clear hi hfine
  have hg := eq_guard
  by_cases h1 : t.k = 1
  · have hk1 : c.k = 1 := by omega
    have HF : Hid (fitsP t) := Lib.hid (.inl h1)
    have HLN : Hid (linesT t = []) := Lib.hid (by unfold linesT; rw [if_pos h1])
    have HB2 : Hid (Below w.heap.size w ((w.alloc (cbox c)).alloc (.cells #[] 23))) := Lib.hid (HA.out.alloc (by simp) _)
    have d1 : (c.k == 1) = true := by simpa using hk1
    clear hck hcr h1 hk hk1 hcn
    go_enter Try.func42, Try.ntmps42
    go_wp2
    go_ret2
    exact btw_yes HF.out rfl (by rw [HLN.out]; exact .inl ⟨_, _, rfl, rfl⟩) HB2.out
  · have hk2 : t.k = 2 ∨ t.k = 3 := by omega
    obtain ⟨hrs, hax⟩ := rs_is hk2
    have HRS := Lib.hid hrs
    have HNK := Lib.hid h1
    have HCR := Lib.hid hcr
    have d1 : (c.k == 1) = false := by rw [← hck]; simpa using h1
    obtain ⟨ck, cr, cid, ca, cn, ccap⟩ := c
    simp only at hck hcr hcn d1 HRF HCR
    subst hcn
    have HCK := Lib.hid hck
    have hax2 : axT t = ck - 1 := by rw [hax, hck]
    have hwr : IntKind.u8.wrap (ck - 1) = axT t := by
      rw [hax2]
      have : ck = 2 ∨ ck = 3 := by omega
      rcases this with rfl | rfl <;> rfl
    have HAX : Hid (0 ≤ axT t ∧ axT t ≤ 255) := Lib.hid (by omega)
    have BD := Lib.hid HA.out.drew
    have S0 := Lib.hid (HC.out.up (Below.refl _ (w.alloc (cbox ⟨ck, cr, cid, ca, t.kids.length, ccap⟩))).drew)
    have S0' : Hid ((w.alloc (cbox ⟨ck, cr, cid, ca, t.kids.length, ccap⟩)).drew.cell? ⟨w.heap.size, 0, none⟩ = some (.int .u8 ck) ∧ (w.alloc (cbox ⟨ck, cr, cid, ca, t.kids.length, ccap⟩)).drew.cell? ⟨w.heap.size, 1, none⟩ = some (.int .i64 cr.x) ∧ (w.alloc (cbox ⟨ck, cr, cid, ca, t.kids.length, ccap⟩)).drew.cell? ⟨w.heap.size, 2, none⟩ = some (.int .i64 cr.y) ∧ (w.alloc (cbox ⟨ck, cr, cid, ca, t.kids.length, ccap⟩)).drew.cell? ⟨w.heap.size, 3, none⟩ = some (.int .i64 cr.w) ∧ (w.alloc (cbox ⟨ck, cr, cid, ca, t.kids.length, ccap⟩)).drew.cell? ⟨w.heap.size, 4, none⟩ = some (.int .i64 cr.h) ∧ (w.alloc (cbox ⟨ck, cr, cid, ca, t.kids.length, ccap⟩)).drew.cell? ⟨w.heap.size, 5, none⟩ = some (.int .i64 cid) ∧ (w.alloc (cbox ⟨ck, cr, cid, ca, t.kids.length, ccap⟩)).drew.cell? ⟨w.heap.size, 6, none⟩ = some (.slice ca t.kids.length ccap)) := Lib.hid (by
      obtain ⟨c0, c1, c2, c3, c4, c5, c6⟩ := S0.out
      simp only [Nat.zero_add] at c1 c2 c3 c4 c5 c6
      exact ⟨c0, c1, c2, c3, c4, c5, c6⟩)
    have HSC := Lib.hid (fun (W : World) (h : Below w.heap.size w W) => rsizes_any t ⟨ck, cr, cid, ca, t.kids.length, ccap⟩ W (HI.out.up h) HL.out)
    clear hax hax2 hrs h1 hk hk2
    go_enter Try.func42, Try.ntmps42
    go_wp2
    go_region_held3 (fun W => W.cell? ⟨w.heap.size, 0, none⟩ = some (.int .u8 ck) ∧ W.cell? ⟨w.heap.size, 1, none⟩ = some (.int .i64 cr.x) ∧ W.cell? ⟨w.heap.size, 2, none⟩ = some (.int .i64 cr.y) ∧ W.cell? ⟨w.heap.size, 3, none⟩ = some (.int .i64 cr.w) ∧ W.cell? ⟨w.heap.size, 4, none⟩ = some (.int .i64 cr.h) ∧ W.cell? ⟨w.heap.size, 5, none⟩ = some (.int .i64 cid) ∧ W.cell? ⟨w.heap.size, 6, none⟩ = some (.slice ca t.kids.length ccap)) (first | with_reducible exact S0'.out | with_reducible exact S2.out | with_reducible exact S3.out)
      (first
        | (go_at_call 52
           refine (HSC.out _ BD.out).mono ?_
           rintro e w2 ⟨v2, rfl, hr2, hb2⟩
           have HB2 := Lib.hid (BD.out.trans (hb2.mono BD.out.size))
           have C2 := Lib.hid (S0.out.up hb2)
           have HR2 : Hid (IRow w2 v2 (sizesT t)) := Lib.hid (by rw [← HRS.out]; exact hr2)
           have S2 : Hid (w2.cell? ⟨w.heap.size, 0, none⟩ = some (.int .u8 ck) ∧ w2.cell? ⟨w.heap.size, 1, none⟩ = some (.int .i64 cr.x) ∧ w2.cell? ⟨w.heap.size, 2, none⟩ = some (.int .i64 cr.y) ∧ w2.cell? ⟨w.heap.size, 3, none⟩ = some (.int .i64 cr.w) ∧ w2.cell? ⟨w.heap.size, 4, none⟩ = some (.int .i64 cr.h) ∧ w2.cell? ⟨w.heap.size, 5, none⟩ = some (.int .i64 cid) ∧ w2.cell? ⟨w.heap.size, 6, none⟩ = some (.slice ca t.kids.length ccap)) := Lib.hid (by
             obtain ⟨c0, c1, c2, c3, c4, c5, c6⟩ := C2.out
             simp only [Nat.zero_add] at c1 c2 c3 c4 c5 c6
             exact ⟨c0, c1, c2, c3, c4, c5, c6⟩)
           clear hb2 hr2)
        | (go_at_call 51
           try rw [hwr]
           refine (rcut_any cr (axT t) v2 (sizesT t) w2 HRF.out HR2.out (by rw [sizes_len]; have := HL.out; omega) HAX.out).mono ?_
           rintro e w3 ⟨v3, v4, b, rfl, hbi, hr3, hr4, hb3⟩
           have HB3 := Lib.hid (HB2.out.trans (hb3.mono HB2.out.size))
           have C3 := Lib.hid (C2.out.up hb3)
           have HBI := Lib.hid hbi
           have HR3 := Lib.hid hr3
           have HR4 := Lib.hid hr4
           have S3 : Hid (w3.cell? ⟨w.heap.size, 0, none⟩ = some (.int .u8 ck) ∧ w3.cell? ⟨w.heap.size, 1, none⟩ = some (.int .i64 cr.x) ∧ w3.cell? ⟨w.heap.size, 2, none⟩ = some (.int .i64 cr.y) ∧ w3.cell? ⟨w.heap.size, 3, none⟩ = some (.int .i64 cr.w) ∧ w3.cell? ⟨w.heap.size, 4, none⟩ = some (.int .i64 cr.h) ∧ w3.cell? ⟨w.heap.size, 5, none⟩ = some (.int .i64 cid) ∧ w3.cell? ⟨w.heap.size, 6, none⟩ = some (.slice ca t.kids.length ccap)) := Lib.hid (by
             obtain ⟨c0, c1, c2, c3, c4, c5, c6⟩ := C3.out
             simp only [Nat.zero_add] at c1 c2 c3 c4 c5 c6
             exact ⟨c0, c1, c2, c3, c4, c5, c6⟩)
           clear hb3 hbi hr3 hr4))
    cases b with
    | false =>
      have HF : Hid (¬ fitsP t) := Lib.hid (one_no HNK.out (by
        rw [HCR.out]
        intro h
        have := HBI.out.2 h; cases this))
      obtain ⟨a4, cap4, hv4⟩ := HR4.out.shape
      subst hv4
      go_wp2
      go_ret2
      exact btw_no HF.out rfl HR4.out HB3.out
    | true =>
      have HCP := Lib.hid (HBI.out.1 rfl)
      obtain ⟨a3, cap3, hv3⟩ := HR3.out.shape
      subst hv3
      have HPL : Hid ((cutParts cr (axT t) (sizesT t) true).length = t.kids.length) := Lib.hid (by rw [parts_len, sizes_len])
      have hlen3 : Value.slice a3 (cutParts cr (axT t) (sizesT t) true).length cap3 = .slice a3 t.kids.length cap3 := by rw [HPL.out]
      rw [hlen3]
      clear hlen3
      have HFT : Hid (t.kids.length ≤ 999) := HL
      go_wp2
      go_loopg [29] (t.kids.length + 1) (fun g i wr => ∃ k : Nat, g + k = t.kids.length + 1 ∧ k ≤ t.kids.length ∧ i = .int .i64 k ∧ (∀ (j : Nat) (u : T) (q : R), j < k → t.kids[j]? = some u → (cutParts cr (axT t) (sizesT t) true)[j]? = some q → q = u.r) ∧ Below w3.heap.size w3 wr)
      case atStart => exact ⟨0, by omega, by omega, rfl, fun j t u hj => by omega, Below.refl _ _⟩
      case round =>
        obtain ⟨k, hg', hk, rfl, hsame, hb⟩ := hrel
        have HG := Lib.hid hg'
        have HSM := Lib.hid hsame
        have HB := Lib.hid hb
        clear hg' hsame hb
        have hln := HFT.out
        by_cases hlt : k < t.kids.length
        · obtain ⟨u, hu⟩ : ∃ u, t.kids[k]? = some u := ⟨_, List.getElem?_eq_getElem hlt⟩
          obtain ⟨q, hq⟩ : ∃ q, (cutParts cr (axT t) (sizesT t) true)[k]? = some q := ⟨_, List.getElem?_eq_getElem (by have := HPL.out; omega)⟩
          obtain ⟨b3, o3, ha3, hf3⟩ := HR3.out.place (by have := HPL.out; omega)
          subst ha3
          obtain ⟨b1, o1, ha1, hf1⟩ := HI.out.row.place (by omega)
          simp only at ha1
          subst ha1
          obtain ⟨x, hx, hix⟩ := hf1 k u hu
          have hxr : u.r = x.r := hix.split.2.1
          obtain ⟨e0, e1, e2, e3⟩ := (hf3 k q hq).up HB.out
          obtain ⟨-, x1, x2, x3, x4, -, -⟩ := hx.up (HB3.out.trans (HB.out.mono HB3.out.size))
          obtain ⟨-, -, -, -, -, -, c6⟩ := C3.out.up HB.out
          simp only [Nat.zero_add] at c6
          have hki : (k : Int) < (t.kids.length : Int) := by omega
          have HU := Lib.hid hu
          have HQ := Lib.hid hq
          have HXR := Lib.hid hxr
          clear hf1 hf3 hx hix hu hq hxr
          by_cases hqx : q = x.r
          · have hE : ∀ w, (Op.equalIn 10000 23 (.agg #[.int .i64 q.x, .int .i64 q.y, .int .i64 q.w, .int .i64 q.h]) (.agg #[.int .i64 x.r.x, .int .i64 x.r.y, .int .i64 x.r.w, .int .i64 x.r.h])).run Try.prog w = .ok true w := fun w => by rw [← decide_eq_true hqx]; exact eq_run q x.r w
            have HQX := Lib.hid hqx
            clear hqx
            go_wp2
            go_quiet (fail)
            go_wp2
            go_roundg (gk - 1)
            case measure => have := HG.out; omega
            case rel =>
              refine ⟨k + 1, by have := HG.out; omega, by omega, by go_num, fun j a b hj ha hb => ?_, ⟨HB.out.os, HB.out.tape, HB.out.output, HB.out.size, HB.out.block⟩⟩
              rcases Nat.lt_or_ge j k with h | h
              · exact HSM.out j a b h ha hb
              · obtain rfl : j = k := by omega
                rw [HU.out] at ha; rw [HQ.out] at hb
                cases ha; cases hb
                rw [HXR.out]; exact HQX.out
          · have hE : ∀ w, (Op.equalIn 10000 23 (.agg #[.int .i64 q.x, .int .i64 q.y, .int .i64 q.w, .int .i64 q.h]) (.agg #[.int .i64 x.r.x, .int .i64 x.r.y, .int .i64 x.r.w, .int .i64 x.r.h])).run Try.prog w = .ok false w := fun w => by rw [← decide_eq_false hqx]; exact eq_run q x.r w
            have HF : Hid (¬ fitsP t) := Lib.hid (one_diff HNK.out HU.out (by rw [HCR.out]; exact HQ.out) (by rw [HXR.out]; exact hqx))
            clear hqx
            go_wp2
            go_quiet (fail)
            go_wp2
            go_ret2
            have hbE : Below w.heap.size w wr := HB3.out.trans (HB.out.mono HB3.out.size)
            exact btw_no HF.out rfl (.inl ⟨_, _, rfl, rfl⟩) ((bel_drewN hbE).alloc hbE.size _)
        · obtain rfl : k = t.kids.length := by omega
          have hkl : ((t.kids.length : Int) < (t.kids.length : Int)) = False := by simp
          have HF : Hid (fitsP t) := Lib.hid (one_all (by rw [HCR.out]; exact HCP.out) (fun k u q hu hq => HSM.out k u q (by
            rcases Nat.lt_or_ge k t.kids.length with h | h
            · exact h
            · rw [List.getElem?_eq_none h] at hu; cases hu) hu (by rw [← HCR.out]; exact hq)))
          have HLN : Hid (linesT t = cutLines cr (axT t) (sizesT t) true) := Lib.hid (by unfold linesT; rw [if_neg HNK.out, HCR.out])
          have HR5 := Lib.hid (HR4.out.up HB.out)
          have HBE := Lib.hid (HB3.out.trans (HB.out.mono HB3.out.size))
          go_wp2
          go_ret2
          exact btw_yes HF.out rfl (by rw [HLN.out]; exact HR5.out) HBE.out
end Go.Proofs.Ytajhojbnpajelaa
