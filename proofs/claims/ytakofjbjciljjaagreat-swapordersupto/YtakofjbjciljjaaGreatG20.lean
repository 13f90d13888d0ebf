/- Texts of this seat, 3 in one file. -/
import Derived.Test.YtakofjbjciljjaaGreatG19
import Derived.Test.YtakofjbjciljjaaGreatG07
import Derived.Test.YtakofjbjciljjaaGreatG09
import Derived.Test.YtakofjbjciljjaaGreatG10
import Derived.Test.YtakofjbjciljjaaGreatG18
/- The document's answer: does a cell tile, and its lines (its walk). -/
namespace Go.Proofs.YtakofjbjciljjaaGreat
open Go.RowKit

theorem rs_is {t : T} (hk : t.k = 2 ∨ t.k = 3) : rsizesT t = sizesT t ∧ axT t = t.k - 1 := by
  unfold rsizesT sizesT axT
  rcases hk with h | h <;> rw [h] <;> simp
theorem parts_len (r : R) (ax : Int) (ms : List Int) : (cutParts r ax ms true).length = ms.length := by
  simp only [cutParts]; split <;> rw [partsL_length] <;> omega
theorem bel_drewN {B : Nat} {w w' : World} {n : Nat} (h : Below B w w') : Below B w (w'.drewN n) := ⟨h.os, h.tape, h.output, h.size, h.block⟩
theorem one_no {t : T} (h1 : ¬ t.k = 1) (h : ¬ cutP t.r (axT t) (sizesT t)) : ¬ fitsP t := by
  rintro (h2 | ⟨h2, -⟩)
  · exact h1 h2
  · exact h h2
theorem one_diff {t u : T} {k : Nat} {q : R} (h1 : ¬ t.k = 1) (hu : t.kids[k]? = some u) (hq : (cutParts t.r (axT t) (sizesT t) true)[k]? = some q) (hne : ¬ q = u.r) : ¬ fitsP t := by
  rintro (h2 | ⟨-, h2⟩)
  · exact h1 h2
  · rw [← h2, List.getElem?_map, hu] at hq
    simp at hq
    exact hne hq.symm
theorem one_all {t : T} (hc : cutP t.r (axT t) (sizesT t)) (h : ∀ (k : Nat) (u : T) (q : R), t.kids[k]? = some u → (cutParts t.r (axT t) (sizesT t) true)[k]? = some q → q = u.r) : fitsP t := by
  refine .inr ⟨hc, of_decide_eq_true (eqR_yes (by rw [parts_len, sizes_len]) fun k u q hu hq => (h k u q hu hq).symm)⟩

set_option maxRecDepth 100000 in
set_option maxHeartbeats 1600000 in
theorem rone_any (t : T) (c : C) (w : World) (hi : Is w c t) (hl : t.kids.length ≤ 20000) (hk : t.k = 1 ∨ t.k = 2 ∨ t.k = 3) : Calls Tryz.prog 50 #[cval c] w (BtwSays t w) := by
  have HA : Hid (Below w.heap.size w (w.alloc (cbox c))) := (Below.refl _ _).alloc (Nat.le_refl _) _
  have HC := Lib.hid (cbox_new w c)
  have hck : t.k = c.k := hi.split.1
  have hcr : t.r = c.r := hi.split.2.1
  have HI := Lib.hid hi
  have hfine := hi.fine
  have HRF := Lib.hid hfine.2.1
  have HL := Lib.hid hl
  have hcn := hi.n
  clear hi hfine
  have hg := eq_guard
  by_cases h1 : t.k = 1
  · have hk1 : c.k = 1 := by omega
    have HF : Hid (fitsP t) := Lib.hid (.inl h1)
    have HLN : Hid (linesT t = []) := Lib.hid (by unfold linesT; rw [if_pos h1])
    have HB2 : Hid (Below w.heap.size w ((w.alloc (cbox c)).alloc (.cells #[] 23))) := Lib.hid (HA.out.alloc (by simp) _)
    have d1 : (c.k == 1) = true := by simpa using hk1
    clear hck hcr h1 hk hk1 hcn
    go_enter Tryz.func50, Tryz.ntmps50
    go_wp2
    go_ret2
    exact btw_yes HF.out rfl (by rw [HLN.out]; exact .inl ⟨_, _, rfl, rfl⟩) HB2.out
  · have hk2 : t.k = 2 ∨ t.k = 3 := by omega
    obtain ⟨hrs, hax⟩ := rs_is hk2
    have HRS := Lib.hid hrs
    have HNK := Lib.hid h1
    have HCR := Lib.hid hcr
    have d1 : (c.k == 1) = false := by rw [← hck]; simpa using h1
    obtain ⟨ck, cr, cid, ca, cn, ccap⟩ := c
    simp only at hck hcr hcn d1 HRF HCR
    subst hcn
    have HCK := Lib.hid hck
    have hax2 : axT t = ck - 1 := by rw [hax, hck]
    have hwr : IntKind.u8.wrap (ck - 1) = axT t := by
      rw [hax2]
      have : ck = 2 ∨ ck = 3 := by omega
      rcases this with rfl | rfl <;> rfl
    have HAX : Hid (0 ≤ axT t ∧ axT t ≤ 255) := Lib.hid (by omega)
    have BD := Lib.hid HA.out.drew
    have S0 := Lib.hid (HC.out.up (Below.refl _ (w.alloc (cbox ⟨ck, cr, cid, ca, t.kids.length, ccap⟩))).drew)
    have S0' : Hid ((w.alloc (cbox ⟨ck, cr, cid, ca, t.kids.length, ccap⟩)).drew.cell? ⟨w.heap.size, 0, none⟩ = some (.int .u8 ck) ∧ (w.alloc (cbox ⟨ck, cr, cid, ca, t.kids.length, ccap⟩)).drew.cell? ⟨w.heap.size, 1, none⟩ = some (.int .i64 cr.x) ∧ (w.alloc (cbox ⟨ck, cr, cid, ca, t.kids.length, ccap⟩)).drew.cell? ⟨w.heap.size, 2, none⟩ = some (.int .i64 cr.y) ∧ (w.alloc (cbox ⟨ck, cr, cid, ca, t.kids.length, ccap⟩)).drew.cell? ⟨w.heap.size, 3, none⟩ = some (.int .i64 cr.w) ∧ (w.alloc (cbox ⟨ck, cr, cid, ca, t.kids.length, ccap⟩)).drew.cell? ⟨w.heap.size, 4, none⟩ = some (.int .i64 cr.h) ∧ (w.alloc (cbox ⟨ck, cr, cid, ca, t.kids.length, ccap⟩)).drew.cell? ⟨w.heap.size, 5, none⟩ = some (.int .i64 cid) ∧ (w.alloc (cbox ⟨ck, cr, cid, ca, t.kids.length, ccap⟩)).drew.cell? ⟨w.heap.size, 6, none⟩ = some (.slice ca t.kids.length ccap)) := Lib.hid (by
      obtain ⟨c0, c1, c2, c3, c4, c5, c6⟩ := S0.out
      simp only [Nat.zero_add] at c1 c2 c3 c4 c5 c6
      exact ⟨c0, c1, c2, c3, c4, c5, c6⟩)
    have HSC := Lib.hid (fun (W : World) (h : Below w.heap.size w W) => rsizes_any t ⟨ck, cr, cid, ca, t.kids.length, ccap⟩ W (HI.out.up h) HL.out)
    clear hax hax2 hrs h1 hk hk2
    go_enter Tryz.func50, Tryz.ntmps50
    go_wp2
    go_region_held3 (fun W => W.cell? ⟨w.heap.size, 0, none⟩ = some (.int .u8 ck) ∧ W.cell? ⟨w.heap.size, 1, none⟩ = some (.int .i64 cr.x) ∧ W.cell? ⟨w.heap.size, 2, none⟩ = some (.int .i64 cr.y) ∧ W.cell? ⟨w.heap.size, 3, none⟩ = some (.int .i64 cr.w) ∧ W.cell? ⟨w.heap.size, 4, none⟩ = some (.int .i64 cr.h) ∧ W.cell? ⟨w.heap.size, 5, none⟩ = some (.int .i64 cid) ∧ W.cell? ⟨w.heap.size, 6, none⟩ = some (.slice ca t.kids.length ccap)) (first | with_reducible exact S0'.out | with_reducible exact S2.out | with_reducible exact S3.out)
      (first
        | (go_at_call 74
           refine (HSC.out _ BD.out).mono ?_
           rintro e w2 ⟨v2, rfl, hr2, hb2⟩
           have HB2 := Lib.hid (BD.out.trans (hb2.mono BD.out.size))
           have C2 := Lib.hid (S0.out.up hb2)
           have HR2 : Hid (IRow w2 v2 (sizesT t)) := Lib.hid (by rw [← HRS.out]; exact hr2)
           have S2 : Hid (w2.cell? ⟨w.heap.size, 0, none⟩ = some (.int .u8 ck) ∧ w2.cell? ⟨w.heap.size, 1, none⟩ = some (.int .i64 cr.x) ∧ w2.cell? ⟨w.heap.size, 2, none⟩ = some (.int .i64 cr.y) ∧ w2.cell? ⟨w.heap.size, 3, none⟩ = some (.int .i64 cr.w) ∧ w2.cell? ⟨w.heap.size, 4, none⟩ = some (.int .i64 cr.h) ∧ w2.cell? ⟨w.heap.size, 5, none⟩ = some (.int .i64 cid) ∧ w2.cell? ⟨w.heap.size, 6, none⟩ = some (.slice ca t.kids.length ccap)) := Lib.hid (by
             obtain ⟨c0, c1, c2, c3, c4, c5, c6⟩ := C2.out
             simp only [Nat.zero_add] at c1 c2 c3 c4 c5 c6
             exact ⟨c0, c1, c2, c3, c4, c5, c6⟩)
           clear hb2 hr2)
        | (go_at_call 73
           try rw [hwr]
           refine (rcut_any cr (axT t) v2 (sizesT t) w2 HRF.out HR2.out (by rw [sizes_len]; have := HL.out; omega) HAX.out).mono ?_
           rintro e w3 ⟨v3, v4, b, rfl, hbi, hr3, hr4, hb3⟩
           have HB3 := Lib.hid (HB2.out.trans (hb3.mono HB2.out.size))
           have C3 := Lib.hid (C2.out.up hb3)
           have HBI := Lib.hid hbi
           have HR3 := Lib.hid hr3
           have HR4 := Lib.hid hr4
           have S3 : Hid (w3.cell? ⟨w.heap.size, 0, none⟩ = some (.int .u8 ck) ∧ w3.cell? ⟨w.heap.size, 1, none⟩ = some (.int .i64 cr.x) ∧ w3.cell? ⟨w.heap.size, 2, none⟩ = some (.int .i64 cr.y) ∧ w3.cell? ⟨w.heap.size, 3, none⟩ = some (.int .i64 cr.w) ∧ w3.cell? ⟨w.heap.size, 4, none⟩ = some (.int .i64 cr.h) ∧ w3.cell? ⟨w.heap.size, 5, none⟩ = some (.int .i64 cid) ∧ w3.cell? ⟨w.heap.size, 6, none⟩ = some (.slice ca t.kids.length ccap)) := Lib.hid (by
             obtain ⟨c0, c1, c2, c3, c4, c5, c6⟩ := C3.out
             simp only [Nat.zero_add] at c1 c2 c3 c4 c5 c6
             exact ⟨c0, c1, c2, c3, c4, c5, c6⟩)
           clear hb3 hbi hr3 hr4))
    cases b with
    | false =>
      have HF : Hid (¬ fitsP t) := Lib.hid (one_no HNK.out (by
        rw [HCR.out]
        intro h
        have := HBI.out.2 h; cases this))
      obtain ⟨a4, cap4, hv4⟩ := HR4.out.shape
      subst hv4
      go_wp2
      go_ret2
      exact btw_no HF.out rfl HR4.out HB3.out
    | true =>
      have HCP := Lib.hid (HBI.out.1 rfl)
      obtain ⟨a3, cap3, hv3⟩ := HR3.out.shape
      subst hv3
      have HPL : Hid ((cutParts cr (axT t) (sizesT t) true).length = t.kids.length) := Lib.hid (by rw [parts_len, sizes_len])
      have hlen3 : Value.slice a3 (cutParts cr (axT t) (sizesT t) true).length cap3 = .slice a3 t.kids.length cap3 := by rw [HPL.out]
      rw [hlen3]
      clear hlen3
      have HFT : Hid (t.kids.length ≤ 20000) := HL
      go_wp2
      go_loopg [29] (t.kids.length + 1) (fun g i wr => ∃ k : Nat, g + k = t.kids.length + 1 ∧ k ≤ t.kids.length ∧ i = .int .i64 k ∧ (∀ (j : Nat) (u : T) (q : R), j < k → t.kids[j]? = some u → (cutParts cr (axT t) (sizesT t) true)[j]? = some q → q = u.r) ∧ Below w3.heap.size w3 wr)
      case atStart => exact ⟨0, by omega, by omega, rfl, fun j t u hj => by omega, Below.refl _ _⟩
      case round =>
        obtain ⟨k, hg', hk, rfl, hsame, hb⟩ := hrel
        have HG := Lib.hid hg'
        have HSM := Lib.hid hsame
        have HB := Lib.hid hb
        clear hg' hsame hb
        have hln := HFT.out
        by_cases hlt : k < t.kids.length
        · obtain ⟨u, hu⟩ : ∃ u, t.kids[k]? = some u := ⟨_, List.getElem?_eq_getElem hlt⟩
          obtain ⟨q, hq⟩ : ∃ q, (cutParts cr (axT t) (sizesT t) true)[k]? = some q := ⟨_, List.getElem?_eq_getElem (by have := HPL.out; omega)⟩
          obtain ⟨b3, o3, ha3, hf3⟩ := HR3.out.place (by have := HPL.out; omega)
          subst ha3
          obtain ⟨b1, o1, ha1, hf1⟩ := HI.out.row.place (by omega)
          simp only at ha1
          subst ha1
          obtain ⟨x, hx, hix⟩ := hf1 k u hu
          have hxr : u.r = x.r := hix.split.2.1
          obtain ⟨e0, e1, e2, e3⟩ := (hf3 k q hq).up HB.out
          obtain ⟨-, x1, x2, x3, x4, -, -⟩ := hx.up (HB3.out.trans (HB.out.mono HB3.out.size))
          obtain ⟨-, -, -, -, -, -, c6⟩ := C3.out.up HB.out
          simp only [Nat.zero_add] at c6
          have hki : (k : Int) < (t.kids.length : Int) := by omega
          have HU := Lib.hid hu
          have HQ := Lib.hid hq
          have HXR := Lib.hid hxr
          clear hf1 hf3 hx hix hu hq hxr
          by_cases hqx : q = x.r
          · have hE : ∀ w, (Op.equalIn 10000 23 (.agg #[.int .i64 q.x, .int .i64 q.y, .int .i64 q.w, .int .i64 q.h]) (.agg #[.int .i64 x.r.x, .int .i64 x.r.y, .int .i64 x.r.w, .int .i64 x.r.h])).run Tryz.prog w = .ok true w := fun w => by rw [← decide_eq_true hqx]; exact eq_run q x.r w
            have HQX := Lib.hid hqx
            clear hqx
            go_wp2
            go_quiet (fail)
            go_wp2
            go_roundg (gk - 1)
            case measure => have := HG.out; omega
            case rel =>
              refine ⟨k + 1, by have := HG.out; omega, by omega, by go_num, fun j a b hj ha hb => ?_, ⟨HB.out.os, HB.out.tape, HB.out.output, HB.out.size, HB.out.block⟩⟩
              rcases Nat.lt_or_ge j k with h | h
              · exact HSM.out j a b h ha hb
              · obtain rfl : j = k := by omega
                rw [HU.out] at ha; rw [HQ.out] at hb
                cases ha; cases hb
                rw [HXR.out]; exact HQX.out
          · have hE : ∀ w, (Op.equalIn 10000 23 (.agg #[.int .i64 q.x, .int .i64 q.y, .int .i64 q.w, .int .i64 q.h]) (.agg #[.int .i64 x.r.x, .int .i64 x.r.y, .int .i64 x.r.w, .int .i64 x.r.h])).run Tryz.prog w = .ok false w := fun w => by rw [← decide_eq_false hqx]; exact eq_run q x.r w
            have HF : Hid (¬ fitsP t) := Lib.hid (one_diff HNK.out HU.out (by rw [HCR.out]; exact HQ.out) (by rw [HXR.out]; exact hqx))
            clear hqx
            go_wp2
            go_quiet (fail)
            go_wp2
            go_ret2
            have hbE : Below w.heap.size w wr := HB3.out.trans (HB.out.mono HB3.out.size)
            exact btw_no HF.out rfl (.inl ⟨_, _, rfl, rfl⟩) ((bel_drewN hbE).alloc hbE.size _)
        · obtain rfl : k = t.kids.length := by omega
          have hkl : ((t.kids.length : Int) < (t.kids.length : Int)) = False := by simp
          have HF : Hid (fitsP t) := Lib.hid (one_all (by rw [HCR.out]; exact HCP.out) (fun k u q hu hq => HSM.out k u q (by
            rcases Nat.lt_or_ge k t.kids.length with h | h
            · exact h
            · rw [List.getElem?_eq_none h] at hu; cases hu) hu (by rw [← HCR.out]; exact hq)))
          have HLN : Hid (linesT t = cutLines cr (axT t) (sizesT t) true) := Lib.hid (by unfold linesT; rw [if_neg HNK.out, HCR.out])
          have HR5 := Lib.hid (HR4.out.up HB.out)
          have HBE := Lib.hid (HB3.out.trans (HB.out.mono HB3.out.size))
          go_wp2
          go_ret2
          exact btw_yes HF.out rfl (by rw [HLN.out]; exact HR5.out) HBE.out
end Go.Proofs.YtakofjbjciljjaaGreat
/- May a tree be? The document's walk. -/
namespace Go.Proofs.YtakofjbjciljjaaGreat
open Go.RowKit

theorem well_no {k : Int} {r : R} {id : Int} {n : Nat} (h : ¬ (mayB r = true ∧ ((k = 1 ∧ (0 ≤ id ∧ id ≤ 2147483647) ∧ n = 0) ∨ ((k = 2 ∨ k = 3) ∧ id = 0 ∧ 2 ≤ n)))) : wellB k r id n = false := by
  cases e : wellB k r id n with
  | false => rfl
  | true =>
    refine absurd ?_ h
    simpa [wellB] using e
theorem well_yes {k : Int} {r : R} {id : Int} {n : Nat} (h : mayB r = true ∧ ((k = 1 ∧ (0 ≤ id ∧ id ≤ 2147483647) ∧ n = 0) ∨ ((k = 2 ∨ k = 3) ∧ id = 0 ∧ 2 ≤ n))) : wellB k r id n = true := by
  simpa [wellB] using h

/-- No number twice among the first ones. -/
def apartI (ms : List Int) (i : Nat) : Prop := ∀ (a b : Nat) (x y : Int), a < b → b < i → ms[a]? = some x → ms[b]? = some y → y ≠ x
theorem apart_nodup (ms : List Int) : apartI ms ms.length ↔ ms.Nodup := by
  unfold List.Nodup
  rw [List.pairwise_iff_getElem]
  constructor
  · intro h i j hi hj hij e
    exact h i j _ _ hij hj (List.getElem?_eq_getElem hi) (List.getElem?_eq_getElem hj) e.symm
  · intro h a b x y hab hb hx hy e
    obtain ⟨ha', rfl⟩ := List.getElem?_eq_some_iff.1 hx
    obtain ⟨hb', rfl⟩ := List.getElem?_eq_some_iff.1 hy
    exact h a b ha' hb' hab e.symm

def rmayT (t : T) : Bool := (preT t).all wellT && decide ((((preT t).filter leafB).map T.id).Nodup)
theorem rmay_no1 {t u : T} {k : Nat} (h : (preT t)[k]? = some u) (hw : wellT u = false) : rmayT t = false := by
  have : (preT t).all wellT = false := by
    cases e : (preT t).all wellT with
    | false => rfl
    | true => rw [List.all_eq_true.1 e u (List.mem_of_getElem? h)] at hw; cases hw
  rw [rmayT, this]; rfl

set_option maxRecDepth 100000 in
set_option maxHeartbeats 4000000 in
theorem rmayOne_any (t : T) (c : C) (w : World) (hm : sz t ≤ 20000) (hi : Is w c t) : Calls Tryz.prog 49 #[cval c] w fun e w' => e = .returned (.bool (rmayT t)) ∧ Below w.heap.size w w' := by
  have B1 : Hid (Below w.heap.size w (w.alloc (cbox c))) := (Below.refl _ _).alloc (Nat.le_refl _) _
  have H := Lib.hid (rall_any w (sz t) t c (w.alloc (cbox c)) (Nat.le_refl _) (by omega) hi B1.out)
  have HI := Lib.hid hi
  have HM := Lib.hid hm
  clear hi hm
  go_enter Tryz.func49, Tryz.ntmps49
  go_wp2_with fail
  refine H.out.mono ?_
  rintro e w2 ⟨vl, al, rfl, howl, htl, hb2⟩
  have HT := Lib.hid htl
  have hall : al.length ≤ 20000 := by rw [htl.1, preT_len]; exact HM.out
  have HROW := Lib.hid howl.row
  obtain ⟨aa, capl, rfl⟩ := howl.row.shape
  have HBX := Lib.hid hb2
  have HB2 := Lib.hid (below_one hb2)
  clear hb2 howl htl
  have d20 : decide (20000 < (al.length : Int)) = false := decide_eq_false (by omega)
  have d20' : decide (20000 < al.length) = false := decide_eq_false (by omega)
  go_wp2
  go_loopg [15] (al.length + 1) (fun g i wr => ∃ (k : Nat), g + k = al.length + 1 ∧ k ≤ al.length ∧ i = .int .i64 k ∧ (∀ (j : Nat) (u : T), j < k → (preT t)[j]? = some u → wellT u = true) ∧ Below w2.heap.size w2 wr)
  case atStart => exact ⟨0, by omega, by omega, rfl, fun j u hj => by omega, Below.refl _ _⟩
  case round =>
    obtain ⟨k, hg, hk, rfl, hwell, hb⟩ := hrel
    have HG := Lib.hid hg
    have HW := Lib.hid hwell
    have HB := Lib.hid hb
    clear hg hwell hb
    by_cases hlt : k < al.length
    · obtain ⟨x, u, hx, hu, hxu⟩ := HT.out.at hlt
      obtain ⟨b, o, rfl, hf⟩ := HROW.out.place (by omega)
      have HX := Lib.hid (hf k x hx)
      clear hf
      have HU := Lib.hid hu
      have hfine := hxu.fine
      have hwe := well_is hxu
      obtain ⟨xk, xr, xid, xa, xn, xcap⟩ := x
      have hk0 := hfine.1
      have hn0 := hfine.2.2.2
      simp only at hk0 hn0
      have HMY := Lib.hid (rmay_any xr wr hfine.2.1)
      have HWE : Hid (wellB xk xr xid xn = wellT u) := hwe
      clear hxu hx hu hfine hwe
      have HBW := Lib.hid (HB2.out.trans (HB.out.mono HB2.out.size))
      obtain ⟨c0, c1, c2, c3, c4, c5, c6⟩ := HX.out.up HB.out
      cases hmy : mayB xr with
      | false =>
        rw [hmy] at HMY
        have HNO := Lib.hid (rmay_no1 HU.out (HWE.out.symm.trans (well_no (by rw [hmy]; simp))))
        clear hmy
        go_wp2_with fail
        refine HMY.out.mono ?_
        rintro e w3 ⟨rfl, hb3⟩
        have HB3 := Lib.hid (HBW.out.trans (hb3.mono HBW.out.size))
        clear hb3
        go_wp2
        go_ret
        exact ⟨by rw [HNO.out]; rfl, HB3.out⟩
      | true =>
        rw [hmy] at HMY
        by_cases h1 : xk < 1
        · have d1 : decide (xk < 1) = true := decide_eq_true h1
          have HNO := Lib.hid (rmay_no1 HU.out (HWE.out.symm.trans (well_no (by omega))))
          clear hmy
          go_wp2_with fail
          refine HMY.out.mono ?_
          rintro e w3 ⟨rfl, hb3⟩
          have HB3 := Lib.hid (HBW.out.trans (hb3.mono HBW.out.size))
          obtain ⟨e0, e1, e2, e3, e4, e5, e6⟩ := (HX.out.up HB.out).up hb3
          clear hb3 c0 c1 c2 c3 c4 c5 c6
          go_wp2
          go_ret
          exact ⟨by rw [HNO.out]; rfl, HB3.out⟩
        have d1 : decide (xk < 1) = false := decide_eq_false h1
        by_cases h3 : 3 < xk
        · have d3 : decide (3 < xk) = true := decide_eq_true h3
          have HNO := Lib.hid (rmay_no1 HU.out (HWE.out.symm.trans (well_no (by omega))))
          clear hmy
          go_wp2_with fail
          refine HMY.out.mono ?_
          rintro e w3 ⟨rfl, hb3⟩
          have HB3 := Lib.hid (HBW.out.trans (hb3.mono HBW.out.size))
          obtain ⟨e0, e1, e2, e3, e4, e5, e6⟩ := (HX.out.up HB.out).up hb3
          clear hb3 c0 c1 c2 c3 c4 c5 c6
          go_wp2
          go_ret
          exact ⟨by rw [HNO.out]; rfl, HB3.out⟩
        have d3 : decide (3 < xk) = false := decide_eq_false h3
        by_cases hk1 : xk = 1
        · have f1 : (xk == 1) = true := by rw [beq_iff_eq]; exact hk1
          have f2 : decide (1 < xk) = false := decide_eq_false (by omega)
          by_cases hn : 0 < xn
          · have g1 : decide (0 < (xn : Int)) = true := decide_eq_true (by omega)
            have g2 : decide (0 < xn) = true := decide_eq_true hn
            have HNO := Lib.hid (rmay_no1 HU.out (HWE.out.symm.trans (well_no (by omega))))
            clear hmy
            go_wp2_with fail
            refine HMY.out.mono ?_
            rintro e w3 ⟨rfl, hb3⟩
            have HB3 := Lib.hid (HBW.out.trans (hb3.mono HBW.out.size))
            obtain ⟨e0, e1, e2, e3, e4, e5, e6⟩ := (HX.out.up HB.out).up hb3
            clear hb3 c0 c1 c2 c3 c4 c5 c6
            go_wp2
            go_ret
            exact ⟨by rw [HNO.out]; rfl, HB3.out⟩
          have g1 : decide (0 < (xn : Int)) = false := decide_eq_false (by omega)
          have g2 : decide (0 < xn) = false := decide_eq_false hn
          by_cases hi0 : xid < 0
          · have i1 : decide (xid < 0) = true := decide_eq_true hi0
            have HNO := Lib.hid (rmay_no1 HU.out (HWE.out.symm.trans (well_no (by omega))))
            clear hmy
            go_wp2_with fail
            refine HMY.out.mono ?_
            rintro e w3 ⟨rfl, hb3⟩
            have HB3 := Lib.hid (HBW.out.trans (hb3.mono HBW.out.size))
            obtain ⟨e0, e1, e2, e3, e4, e5, e6⟩ := (HX.out.up HB.out).up hb3
            clear hb3 c0 c1 c2 c3 c4 c5 c6
            go_wp2
            go_ret
            exact ⟨by rw [HNO.out]; rfl, HB3.out⟩
          have i1 : decide (xid < 0) = false := decide_eq_false hi0
          by_cases him : 2147483647 < xid
          · have i2 : decide (2147483647 < xid) = true := decide_eq_true him
            have HNO := Lib.hid (rmay_no1 HU.out (HWE.out.symm.trans (well_no (by omega))))
            clear hmy
            go_wp2_with fail
            refine HMY.out.mono ?_
            rintro e w3 ⟨rfl, hb3⟩
            have HB3 := Lib.hid (HBW.out.trans (hb3.mono HBW.out.size))
            obtain ⟨e0, e1, e2, e3, e4, e5, e6⟩ := (HX.out.up HB.out).up hb3
            clear hb3 c0 c1 c2 c3 c4 c5 c6
            go_wp2
            go_ret
            exact ⟨by rw [HNO.out]; rfl, HB3.out⟩
          have i2 : decide (2147483647 < xid) = false := decide_eq_false him
          have HYES := Lib.hid (HWE.out.symm.trans (well_yes ⟨hmy, by omega⟩))
          clear hmy
          go_wp2_with fail
          refine HMY.out.mono ?_
          rintro e w3 ⟨rfl, hb3⟩
          have HB3 := Lib.hid (HB.out.trans (hb3.mono HB.out.size))
          obtain ⟨e0, e1, e2, e3, e4, e5, e6⟩ := (HX.out.up HB.out).up hb3
          clear hb3 c0 c1 c2 c3 c4 c5 c6
          go_wp2
          go_roundg (gk - 1)
          case measure => have := HG.out; omega
          case rel =>
            refine ⟨k + 1, by have := HG.out; omega, by omega, by go_num, fun j y hj hy => ?_, HB3.out⟩
            rcases Nat.lt_or_ge j k with h | h
            · exact HW.out j y h hy
            · obtain rfl : j = k := by omega
              rw [HU.out] at hy; cases hy
              exact HYES.out
        · have f1 : (xk == 1) = false := by rw [beq_eq_false_iff_ne]; exact hk1
          have f2 : decide (1 < xk) = true := decide_eq_true (by omega)
          by_cases hn : xn < 2
          · have g1 : decide ((xn : Int) < 2) = true := decide_eq_true (by omega)
            have g2 : decide (xn < 2) = true := decide_eq_true hn
            have HNO := Lib.hid (rmay_no1 HU.out (HWE.out.symm.trans (well_no (by omega))))
            clear hmy
            go_wp2_with fail
            refine HMY.out.mono ?_
            rintro e w3 ⟨rfl, hb3⟩
            have HB3 := Lib.hid (HBW.out.trans (hb3.mono HBW.out.size))
            obtain ⟨e0, e1, e2, e3, e4, e5, e6⟩ := (HX.out.up HB.out).up hb3
            clear hb3 c0 c1 c2 c3 c4 c5 c6
            go_wp2
            go_ret
            exact ⟨by rw [HNO.out]; rfl, HB3.out⟩
          have g1 : decide ((xn : Int) < 2) = false := decide_eq_false (by omega)
          have g2 : decide (xn < 2) = false := decide_eq_false hn
          by_cases hi0 : xid = 0
          · have i1 : (xid != 0) = false := by rw [hi0]; rfl
            have i2 : (xid == 0) = true := by rw [hi0]; rfl
            have HYES := Lib.hid (HWE.out.symm.trans (well_yes ⟨hmy, by omega⟩))
            clear hmy
            go_wp2_with fail
            refine HMY.out.mono ?_
            rintro e w3 ⟨rfl, hb3⟩
            have HB3 := Lib.hid (HB.out.trans (hb3.mono HB.out.size))
            obtain ⟨e0, e1, e2, e3, e4, e5, e6⟩ := (HX.out.up HB.out).up hb3
            clear hb3 c0 c1 c2 c3 c4 c5 c6
            go_wp2
            go_roundg (gk - 1)
            case measure => have := HG.out; omega
            case rel =>
              refine ⟨k + 1, by have := HG.out; omega, by omega, by go_num, fun j y hj hy => ?_, HB3.out⟩
              rcases Nat.lt_or_ge j k with h | h
              · exact HW.out j y h hy
              · obtain rfl : j = k := by omega
                rw [HU.out] at hy; cases hy
                exact HYES.out
          have i1 : (xid != 0) = true := by simpa using hi0
          have i2 : (xid == 0) = false := by simpa using hi0
          have HNO := Lib.hid (rmay_no1 HU.out (HWE.out.symm.trans (well_no (by omega))))
          clear hmy
          go_wp2_with fail
          refine HMY.out.mono ?_
          rintro e w3 ⟨rfl, hb3⟩
          have HB3 := Lib.hid (HBW.out.trans (hb3.mono HBW.out.size))
          obtain ⟨e0, e1, e2, e3, e4, e5, e6⟩ := (HX.out.up HB.out).up hb3
          clear hb3 c0 c1 c2 c3 c4 c5 c6
          go_wp2
          go_ret
          exact ⟨by rw [HNO.out]; rfl, HB3.out⟩
    · obtain rfl : k = al.length := by omega
      have hkl : ((al.length : Int) < (al.length : Int)) = False := by simp
      have HWL : Hid ((preT t).all wellT = true) := Lib.hid (by
        rw [List.all_eq_true]
        intro u hu
        obtain ⟨j, hj, rfl⟩ := List.getElem_of_mem hu
        exact HW.out j _ (by rw [HT.out.1]; exact hj) (List.getElem?_eq_getElem hj))
      have HBW := Lib.hid (HB2.out.trans (HB.out.mono HB2.out.size))
      obtain ⟨q0, q1, q2, q3, q4, q5, q6⟩ := box_at (HBX.out.trans (HB.out.mono HBX.out.size))
      have HK := Lib.hid (rleaves_any w t c wr (by have := HM.out; omega) HI.out HBW.out)
      have hres : rmayT t = decide ((((preT t).filter leafB).map T.id).Nodup) := by rw [rmayT, HWL.out]; rfl
      have HRES := Lib.hid hres
      have HLL := Lib.hid (show ((preT t).filter leafB).length ≤ 20000 by have := List.length_filter_le leafB (preT t); rw [preT_len] at this; have := HM.out; omega)
      clear hres
      generalize (preT t).filter leafB = ls at HK HRES HLL
      go_wp2_with fail
      refine HK.out.mono ?_
      rintro e w3 ⟨v3, lv, rfl, how3, ht3, hb3⟩
      have HT3 := Lib.hid ht3
      have HROW3 := Lib.hid how3.row
      obtain ⟨a3, cap3, rfl⟩ := how3.row.shape
      have HB3 := Lib.hid (HBW.out.trans (hb3.mono HBW.out.size))
      have hl3 : lv.length ≤ 20000 := by rw [ht3.1]; exact HLL.out
      have HIDS : Hid (∀ (j : Nat) (x : C), lv[j]? = some x → (ls.map T.id)[j]? = some x.id) := fun j x hx => by
        have hj : j < ls.length := by
          rw [← ht3.1]; exact (List.getElem?_eq_some_iff.1 hx).1
        have h1 := List.getElem?_eq_getElem hj
        have h2 := (ht3.2 j x _ hx h1).split.2.2.1
        rw [List.getElem?_map, h1, Option.map_some, h2]
      clear how3 ht3 hb3 q0 q1 q2 q3 q4 q5 q6
      go_wp2
      go_loopg [102] (lv.length + 1) (fun g i wr => ∃ (k : Nat), g + k = lv.length + 1 ∧ k ≤ lv.length ∧ i = .int .i64 k ∧ apartI (ls.map T.id) k ∧ Below w3.heap.size w3 wr)
      case atStart => exact ⟨0, by omega, by omega, rfl, fun a b x y hab hb => by omega, Below.refl _ _⟩
      case round =>
        obtain ⟨i, hg, hi', rfl, hap, hb⟩ := hrel
        have HG2 := Lib.hid hg
        have HAP := Lib.hid hap
        have HB4 := Lib.hid hb
        clear hg hap hb
        by_cases hlt2 : i < lv.length
        · have hlti : (i : Int) < (lv.length : Int) := by omega
          obtain ⟨b, o, rfl, hf⟩ := HROW3.out.place (by omega)
          obtain ⟨x, hx⟩ : ∃ x, lv[i]? = some x := ⟨_, List.getElem?_eq_getElem hlt2⟩
          have HF := Lib.hid hf
          have HX := Lib.hid hx
          clear hf hx
          obtain ⟨gko, hgko⟩ : ∃ n, n = gk := ⟨_, rfl⟩
          have HGK := Lib.hid hgko
          clear hgko
          go_wp2
          go_loopg [7] (i + 1) (fun g q wr => ∃ (k : Nat), g + k = i + 1 ∧ k ≤ i ∧ q = .int .i64 k ∧ (∀ (a : Nat) (y : C), a < k → lv[a]? = some y → x.id ≠ y.id) ∧ Below w3.heap.size w3 wr)
          case atStart => exact ⟨0, by omega, by omega, rfl, fun a y ha => by omega, HB4.out⟩
          case round =>
            obtain ⟨q, hg, hq, rfl, hno, hb⟩ := hrel
            have HG3 := Lib.hid hg
            have HNO := Lib.hid hno
            have HB5 := Lib.hid hb
            clear hg hno hb
            by_cases hlt3 : q < i
            · have hqi : (q : Int) < (i : Int) := by omega
              have hqi' : decide (q < i) = true := decide_eq_true hlt3
              obtain ⟨y, hy⟩ : ∃ y, lv[q]? = some y := ⟨_, List.getElem?_eq_getElem (by omega)⟩
              have c5 := ((HF.out i x HX.out).up HB5.out).2.2.2.2.2.1
              have e5 := ((HF.out q y hy).up HB5.out).2.2.2.2.2.1
              have hql : (q : Int) < (lv.length : Int) := by omega
              have HY := Lib.hid hy
              clear hy
              by_cases hxy : x.id = y.id
              · have d1 : (x.id == y.id) = true := by simpa using hxy
                have HV : Hid (rmayT t = false) := Lib.hid (by
                  rw [HRES.out, decide_eq_false]
                  intro hnd
                  have := (apart_nodup (ls.map T.id)).2 hnd
                  exact this q i _ _ hlt3 (by rw [List.length_map, ← HT3.out.1]; exact hlt2) (HIDS.out q y HY.out) (HIDS.out i x HX.out) hxy)
                go_wp2
                go_quiet (fail)
                go_wp2
                go_ret
                exact ⟨by rw [HV.out]; rfl, HB3.out.trans (Below.mono ⟨HB5.out.os, HB5.out.tape, HB5.out.output, HB5.out.size, HB5.out.block⟩ HB3.out.size)⟩
              · have d1 : (x.id == y.id) = false := by simpa using hxy
                go_wp2
                go_quiet (fail)
                go_wp2
                go_roundg (gk - 1)
                case measure => have := HG3.out; omega
                case rel =>
                  refine ⟨q + 1, by have := HG3.out; omega, by omega, by go_num, fun a z ha hz => ?_, ⟨HB5.out.os, HB5.out.tape, HB5.out.output, HB5.out.size, HB5.out.block⟩⟩
                  rcases Nat.lt_or_ge a q with h | h
                  · exact HNO.out a z h hz
                  · obtain rfl : a = q := by omega
                    rw [HY.out] at hz; cases hz
                    exact hxy
            · obtain rfl : q = i := by omega
              have hkl2 : ((q : Int) < (q : Int)) = False := by simp
              go_wp2
              go_roundg (gko - 1)
              case measure => have := HG2.out; have := HGK.out; omega
              case rel =>
                refine ⟨q + 1, by have := HG2.out; have := HGK.out; omega, by omega, by go_num, fun a b' z z' hab hb' hz hz' => ?_, HB5.out⟩
                rcases Nat.lt_or_ge b' q with h | h
                · exact HAP.out a b' z z' hab h hz hz'
                · obtain rfl : b' = q := by omega
                  rw [HIDS.out b' x HX.out] at hz'; cases hz'
                  obtain ⟨y, hy⟩ : ∃ y, lv[a]? = some y := ⟨_, List.getElem?_eq_getElem (by omega)⟩
                  rw [HIDS.out a y hy] at hz; cases hz
                  exact HNO.out a y hab hy
        · obtain rfl : i = lv.length := by omega
          have hkl2 : ((lv.length : Int) < (lv.length : Int)) = False := by simp
          have HV : Hid (rmayT t = true) := Lib.hid (by
            rw [HRES.out, decide_eq_true]
            refine (apart_nodup (ls.map T.id)).1 ?_
            rw [List.length_map, ← HT3.out.1]; exact HAP.out)
          go_wp2
          go_ret
          exact ⟨by rw [HV.out]; rfl, HB3.out.trans (HB4.out.mono HB3.out.size)⟩
end Go.Proofs.YtakofjbjciljjaaGreat
/- The document's answer: does a tree tile, its lines, and which cell doesn't. -/
namespace Go.Proofs.YtakofjbjciljjaaGreat
open Go.RowKit

theorem well_kind {t : T} (h : wellT t = true) : t.k = 1 ∨ t.k = 2 ∨ t.k = 3 := by
  unfold wellT wellB at h
  simp only [Bool.and_eq_true, Bool.or_eq_true, decide_eq_true_eq] at h
  omega
theorem rmay_well {t u : T} (h : rmayT t = true) (hu : u ∈ preT t) : wellT u = true := by
  unfold rmayT at h
  rw [Bool.and_eq_true] at h
  exact List.all_eq_true.1 h.1 u hu
theorem cutLines_len (r : R) (ax : Int) (ms : List Int) (b : Bool) : (cutLines r ax ms b).length ≤ ms.length := by
  cases b with
  | false => simp [cutLines]
  | true => simp only [cutLines]; split <;> rw [linesL_length] <;> omega
theorem linesT_len (t : T) : (linesT t).length ≤ t.kids.length := by
  unfold linesT
  split
  · simp
  · have := cutLines_len t.r (axT t) (sizesT t) true
    rw [sizes_len] at this
    exact this
def allLines (l : List T) : List R := l.flatMap linesT
theorem allLines_step {l : List T} {k : Nat} {u : T} (h : l[k]? = some u) : allLines (l.take (k + 1)) = allLines (l.take k) ++ linesT u := by
  unfold allLines; rw [List.take_add_one, h]; simp
mutual
theorem pre_kids : ∀ (t u : T), u ∈ preT t → u.kids.length ≤ sz t
  | .node k r i l, u, h => by
    rw [preT] at h
    rw [sz]
    rcases List.mem_cons.1 h with rfl | h
    · have := szL_len l; show l.length ≤ _; omega
    · have := preL_kids l u h; omega
theorem preL_kids : ∀ (l : List T) (u : T), u ∈ preL l → u.kids.length ≤ szL l
  | [], u, h => by rw [preL] at h; cases h
  | t :: l, u, h => by
    rw [preL] at h
    rw [szL]
    rcases List.mem_append.1 h with h | h
    · have := pre_kids t u h; omega
    · have := preL_kids l u h; omega
end
theorem allLines_len {l : List T} {n : Nat} (h : ∀ u ∈ l, u.kids.length ≤ n) : (allLines l).length ≤ l.length * n := by
  induction l with
  | nil => simp [allLines]
  | cons t l ih =>
    have h1 := ih fun u hu => h u (List.mem_cons_of_mem _ hu)
    have h2 := h t (List.mem_cons_self ..)
    have h3 := linesT_len t
    unfold allLines at *
    rw [List.flatMap_cons, List.length_append, List.length_cons, Nat.add_mul]
    omega
theorem Owns.empty (w : World) (base : Nat) (hb : base ≤ w.heap.size) : Owns (w.alloc (.cells #[] 23)) base (.slice (some ⟨w.heap.size, 0, none⟩) 0 0) [] := World.ownsRow_made w #[] 0 hb (Nat.zero_le _) (by simp)

def RCheckSays (t : T) (w : World) (e : Ending) (w' : World) : Prop := ∃ (v : Value) (no pl : Int) (l : List R), e = .returned (.tuple #[v, .int .i64 no, .int .i64 pl]) ∧ RRow w' v l ∧ Below w.heap.size w w' ∧
  ((rmayT t = false ∧ no = 1 ∧ pl = 0 ∧ l = []) ∨ (rmayT t = true ∧ (preT t).all fitB = true ∧ no = 0 ∧ pl = 0 ∧ l = allLines (preT t)) ∨ (rmayT t = true ∧ (preT t).all fitB = false ∧ no = 5 ∧ pl = ((preT t).findIdx fun u => !fitB u : Nat) ∧ l = []))

theorem idx_first {l : List T} {k : Nat} {u : T} (hu : l[k]? = some u) (hf : fitB u = false) (h : ∀ (j : Nat) (x : T), j < k → l[j]? = some x → fitB x = true) : l.findIdx (fun u => !fitB u) = k ∧ l.all fitB = false := by
  have hk := (List.getElem?_eq_some_iff.1 hu).1
  have hue : l[k] = u := (List.getElem?_eq_some_iff.1 hu).2
  constructor
  · rw [List.findIdx_eq hk]
    refine ⟨by rw [hue, hf]; rfl, fun j hj => ?_⟩
    have := h j l[j] hj (List.getElem?_eq_getElem (by omega))
    rw [this]; rfl
  · cases e : l.all fitB with
    | false => rfl
    | true => rw [List.all_eq_true.1 e u (List.mem_of_getElem? hu)] at hf; cases hf

set_option maxRecDepth 100000 in
set_option maxHeartbeats 1600000 in
theorem rcheck_any (t : T) (c : C) (w : World) (hi : Is w c t) (hs : sz t ≤ 20000) : Calls Tryz.prog 33 #[cval c] w (RCheckSays t w) := by
  have B1 : Hid (Below w.heap.size w ((w.alloc (cbox c)).alloc (.cells #[] 23))) := Lib.hid (((Below.refl _ _).alloc (Nat.le_refl _) _).alloc (by simp) _)
  have C1 := Lib.hid ((cbox_new w c).up ((Below.refl _ _).alloc (Nat.le_refl _) (.cells #[] 23)))
  have HMY := Lib.hid (rmayOne_any t c ((w.alloc (cbox c)).alloc (.cells #[] 23)) (by omega) (hi.up B1.out))
  have HI := Lib.hid hi
  have HS := Lib.hid hs
  clear hi hs
  cases hm : rmayT t with
  | false =>
    rw [hm] at HMY
    have HM := Lib.hid hm
    clear hm
    go_enter Tryz.func33, Tryz.ntmps33
    go_wp2_with fail
    refine HMY.out.mono ?_
    rintro e w2 ⟨rfl, hb2⟩
    have HB2 := Lib.hid (B1.out.trans (hb2.mono B1.out.size))
    clear hb2
    go_wp2
    go_ret3
    exact ⟨_, 1, 0, [], rfl, .inl ⟨_, _, rfl, rfl⟩, HB2.out, .inl ⟨HM.out, rfl, rfl, rfl⟩⟩
  | true =>
    rw [hm] at HMY
    have HM := Lib.hid hm
    clear hm
    go_enter Tryz.func33, Tryz.ntmps33
    go_wp2_with fail
    refine HMY.out.mono ?_
    rintro e w2 ⟨rfl, hb2⟩
    have HB2 := Lib.hid (B1.out.trans (hb2.mono B1.out.size))
    obtain ⟨c0, c1, c2, c3, c4, c5, c6⟩ := C1.out.up hb2
    simp only [Nat.zero_add] at c1 c2 c3 c4 c5 c6
    clear hb2
    have HAL := Lib.hid (rall_any w2 (sz t) t c w2 (Nat.le_refl _) (by have := HS.out; omega) (HI.out.up HB2.out) (Below.refl _ _))
    go_wp2_with fail
    refine HAL.out.mono ?_
    rintro e w3 ⟨vl, al, rfl, howl, htl, hb3⟩
    have HT := Lib.hid htl
    have hall : al.length ≤ 20000 := by rw [htl.1, preT_len]; exact HS.out
    have HALN : Hid (al.length = (preT t).length) := Lib.hid htl.1
    have HROW := Lib.hid howl.row
    obtain ⟨aa, capl, rfl⟩ := howl.row.shape
    have HB23 := Lib.hid hb3
    have HB3 := Lib.hid (HB2.out.trans (hb3.mono HB2.out.size))
    have HO := Lib.hid (Owns.empty w3 w3.heap.size (Nat.le_refl _))
    have HB4 : Hid (Below w3.heap.size w3 (w3.alloc (.cells #[] 23))) := (Below.refl _ _).alloc (Nat.le_refl _) _
    clear hb3 howl htl c0 c1 c2 c3 c4 c5 c6
    go_wp2
    go_loopg [7, 21] (al.length + 1) (fun g v i wr => ∃ k : Nat, g + k = al.length + 1 ∧ k ≤ al.length ∧ i = .int .i64 k ∧ Owns wr w3.heap.size v (allLines ((preT t).take k)) ∧ (∀ (j : Nat) (u : T), j < k → (preT t)[j]? = some u → fitB u = true) ∧ Below w3.heap.size w3 wr)
    case atStart => exact ⟨0, by omega, by omega, rfl, HO.out, fun j u hj => by omega, HB4.out⟩
    case round =>
      obtain ⟨k, hg, hk, rfl, hown, hfit, hb⟩ := hrel
      have HG := Lib.hid hg
      have HOW := Lib.hid hown
      have HFT := Lib.hid hfit
      have HB := Lib.hid hb
      clear hg hown hfit hb
      by_cases hlt : k < al.length
      · obtain ⟨x, u, hx, hu, hxu⟩ := HT.out.at hlt
        obtain ⟨b, o, rfl, hf⟩ := HROW.out.place (by omega)
        obtain ⟨c0, c1, c2, c3, c4, c5, c6⟩ := (hf k x hx).up HB.out
        have hki : (k : Int) < (al.length : Int) := by omega
        have hmem := List.mem_of_getElem? hu
        have HKL : Hid (u.kids.length ≤ 20000) := Lib.hid (Nat.le_trans (pre_kids t u hmem) HS.out)
        have HON := Lib.hid (rone_any u x wr (hxu.up (HB23.out.trans (HB.out.mono HB23.out.size))) HKL.out (well_kind (rmay_well HM.out hmem)))
        have HU := Lib.hid hu
        have HST := Lib.hid (allLines_step hu)
        have HLE : Hid ((allLines ((preT t).take k)).length ≤ 400000000) := Lib.hid (by
          have h1 := allLines_len (l := (preT t).take k) (n := 20000) (fun u hu => Nat.le_trans (pre_kids t u (List.mem_of_mem_take hu)) HS.out)
          rw [List.length_take] at h1
          have : min k (preT t).length ≤ 20000 := by omega
          have := Nat.mul_le_mul_right 20000 this
          omega)
        clear hf hx hxu hmem hu
        go_wp2_with fail
        refine HON.out.mono ?_
        rintro e w5 ⟨v5, rfl, hr5, hb5⟩
        have HB5 := Lib.hid (HB.out.trans (hb5.mono HB.out.size))
        have HOW5 := Lib.hid (HOW.out.up hb5)
        clear hb5 c0 c1 c2 c3 c4 c5 c6
        cases hfu : fitB u with
        | true =>
          rw [hfu] at hr5
          have HR5 : Hid (RRow w5 v5 (linesT u)) := Lib.hid hr5
          have HFU := Lib.hid hfu
          have HLL : Hid ((linesT u).length ≤ 20000) := Lib.hid (Nat.le_trans (linesT_len u) HKL.out)
          clear hr5 hfu
          go_wp2_with (at_builtin; refine wpList_append_rects rfl _ _ rfl w3.heap.size _ v5 _ (linesT u) rfl HOW5.out rfl HR5.out (by have := HLE.out; have := HLL.out; omega) w3 HB5.out (Nat.le_refl _) ?_)
          intro v6 w6 ho6 hb6 _ _
          have HO6 := Lib.hid ho6
          have HB6 := Lib.hid hb6
          clear ho6 hb6
          go_wp2
          go_roundg (gk - 1)
          case measure => have := HG.out; omega
          case rel =>
            refine ⟨k + 1, by have := HG.out; omega, by omega, by go_num, by rw [HST.out]; exact HO6.out, fun j a hj ha => ?_, HB6.out⟩
            rcases Nat.lt_or_ge j k with h | h
            · exact HFT.out j a h ha
            · obtain rfl : j = k := by omega
              rw [HU.out] at ha
              cases ha
              exact HFU.out
        | false =>
          have HFF := Lib.hid (idx_first HU.out hfu HFT.out)
          have HBE := Lib.hid (HB3.out.trans (HB5.out.mono HB3.out.size))
          clear hfu hr5
          go_wp2
          go_ret3
          exact ⟨_, 5, k, [], rfl, .inl ⟨_, _, rfl, rfl⟩, HBE.out, .inr (.inr ⟨HM.out, HFF.out.2, rfl, by rw [HFF.out.1], rfl⟩)⟩
      · obtain rfl : k = al.length := by omega
        have hkl : ((al.length : Int) < (al.length : Int)) = False := by simp
        have HAF : Hid ((preT t).all fitB = true) := Lib.hid (by
          rw [List.all_eq_true]
          intro u hu
          obtain ⟨j, hj⟩ := List.getElem?_of_mem hu
          exact HFT.out j u (by have := (List.getElem?_eq_some_iff.1 hj).1; have := HALN.out; omega) hj)
        have HOE : Hid (Owns wr w3.heap.size u7 (allLines (preT t))) := Lib.hid (by
          have h := HOW.out
          rw [List.take_of_length_le (by rw [HALN.out]; exact Nat.le_refl _)] at h
          exact h)
        have HBE := Lib.hid (HB3.out.trans (HB.out.mono HB3.out.size))
        go_wp2
        go_ret3
        exact ⟨_, 0, 0, _, rfl, HOE.out.row, HBE.out, .inr (.inl ⟨HM.out, HAF.out, rfl, rfl, rfl⟩)⟩
end Go.Proofs.YtakofjbjciljjaaGreat
