/- Texts of this seat, 3 in one file. -/
import Derived.Test.YtodcabaihhmhnaaG21
import Derived.Test.YtodcabaihhmhnaaG20
import Derived.Test.YtodcabaihhmhnaaG17
import Derived.Test.YtodcabaihhmhnaaG10
/- The document's answer: does a cell tile, and its lines (its walk). -/
namespace Go.Proofs.Ytodcabaihhmhnaa
open Go.RowKit

theorem rs_is {t : T} (hk : t.k = 2 ∨ t.k = 3) : rsizesT t = sizesT t ∧ axT t = t.k - 1 := by
  unfold rsizesT sizesT axT
  rcases hk with h | h <;> rw [h] <;> simp
theorem parts_len (r : R) (ax : Int) (ms : List Int) : (cutParts r ax ms true).length = ms.length := by
  simp only [cutParts]; split <;> rw [partsL_length] <;> omega
theorem bel_drewN {B : Nat} {w w' : World} {n : Nat} (h : Below B w w') : Below B w (w'.drewN n) := ⟨h.os, h.tape, h.output, h.size, h.block⟩
theorem one_no {t : T} (h1 : ¬ t.k = 1) (h : ¬ cutP t.r (axT t) (sizesT t)) : ¬ fitsP t := by
  rintro (h2 | ⟨h2, -⟩)
  · exact h1 h2
  · exact h h2
theorem one_diff {t u : T} {k : Nat} {q : R} (h1 : ¬ t.k = 1) (hu : t.kids[k]? = some u) (hq : (cutParts t.r (axT t) (sizesT t) true)[k]? = some q) (hne : ¬ q = u.r) : ¬ fitsP t := by
  rintro (h2 | ⟨-, h2⟩)
  · exact h1 h2
  · rw [← h2, List.getElem?_map, hu] at hq
    simp at hq
    exact hne hq.symm
theorem one_all {t : T} (hc : cutP t.r (axT t) (sizesT t)) (h : ∀ (k : Nat) (u : T) (q : R), t.kids[k]? = some u → (cutParts t.r (axT t) (sizesT t) true)[k]? = some q → q = u.r) : fitsP t := by
  refine .inr ⟨hc, of_decide_eq_true (eqR_yes (by rw [parts_len, sizes_len]) fun k u q hu hq => (h k u q hu hq).symm)⟩

set_option maxRecDepth 100000 in
set_option maxHeartbeats 1600000 in
theorem rone_any (t : T) (c : C) (w : World) (hi : Is w c t) (hl : t.kids.length ≤ 20000) (hk : t.k = 1 ∨ t.k = 2 ∨ t.k = 3) : Calls Try.prog 44 #[cval c] w (BtwSays t w) := by
  have HA : Hid (Below w.heap.size w (w.alloc (cbox c))) := (Below.refl _ _).alloc (Nat.le_refl _) _
  have HC := Lib.hid (cbox_new w c)
  have hck : t.k = c.k := hi.split.1
  have hcr : t.r = c.r := hi.split.2.1
  have HI := Lib.hid hi
  have hfine := hi.fine
  have HRF := Lib.hid hfine.2.1
  have HL := Lib.hid hl
  have hcn := hi.n
  clear hi hfine
  have hg := eq_guard
  by_cases h1 : t.k = 1
  · have hk1 : c.k = 1 := by omega
    have HF : Hid (fitsP t) := Lib.hid (.inl h1)
    have HLN : Hid (linesT t = []) := Lib.hid (by unfold linesT; rw [if_pos h1])
    have HB2 : Hid (Below w.heap.size w ((w.alloc (cbox c)).alloc (.cells #[] 23))) := Lib.hid (HA.out.alloc (by simp) _)
    have d1 : (c.k == 1) = true := by simpa using hk1
    clear hck hcr h1 hk hk1 hcn
    go_enter Try.func44, Try.ntmps44
    go_wp2
    go_ret2
    exact btw_yes HF.out rfl (by rw [HLN.out]; exact .inl ⟨_, _, rfl, rfl⟩) HB2.out
  · have hk2 : t.k = 2 ∨ t.k = 3 := by omega
    obtain ⟨hrs, hax⟩ := rs_is hk2
    have HRS := Lib.hid hrs
    have HNK := Lib.hid h1
    have HCR := Lib.hid hcr
    have d1 : (c.k == 1) = false := by rw [← hck]; simpa using h1
    obtain ⟨ck, cr, cid, ca, cn, ccap⟩ := c
    simp only at hck hcr hcn d1 HRF HCR
    subst hcn
    have HCK := Lib.hid hck
    have hax2 : axT t = ck - 1 := by rw [hax, hck]
    have hwr : IntKind.u8.wrap (ck - 1) = axT t := by
      rw [hax2]
      have : ck = 2 ∨ ck = 3 := by omega
      rcases this with rfl | rfl <;> rfl
    have HAX : Hid (0 ≤ axT t ∧ axT t ≤ 255) := Lib.hid (by omega)
    have BD := Lib.hid HA.out.drew
    have S0 := Lib.hid (HC.out.up (Below.refl _ (w.alloc (cbox ⟨ck, cr, cid, ca, t.kids.length, ccap⟩))).drew)
    have S0' : Hid ((w.alloc (cbox ⟨ck, cr, cid, ca, t.kids.length, ccap⟩)).drew.cell? ⟨w.heap.size, 0, none⟩ = some (.int .u8 ck) ∧ (w.alloc (cbox ⟨ck, cr, cid, ca, t.kids.length, ccap⟩)).drew.cell? ⟨w.heap.size, 1, none⟩ = some (.int .i64 cr.x) ∧ (w.alloc (cbox ⟨ck, cr, cid, ca, t.kids.length, ccap⟩)).drew.cell? ⟨w.heap.size, 2, none⟩ = some (.int .i64 cr.y) ∧ (w.alloc (cbox ⟨ck, cr, cid, ca, t.kids.length, ccap⟩)).drew.cell? ⟨w.heap.size, 3, none⟩ = some (.int .i64 cr.w) ∧ (w.alloc (cbox ⟨ck, cr, cid, ca, t.kids.length, ccap⟩)).drew.cell? ⟨w.heap.size, 4, none⟩ = some (.int .i64 cr.h) ∧ (w.alloc (cbox ⟨ck, cr, cid, ca, t.kids.length, ccap⟩)).drew.cell? ⟨w.heap.size, 5, none⟩ = some (.int .i64 cid) ∧ (w.alloc (cbox ⟨ck, cr, cid, ca, t.kids.length, ccap⟩)).drew.cell? ⟨w.heap.size, 6, none⟩ = some (.slice ca t.kids.length ccap)) := Lib.hid (by
      obtain ⟨c0, c1, c2, c3, c4, c5, c6⟩ := S0.out
      simp only [Nat.zero_add] at c1 c2 c3 c4 c5 c6
      exact ⟨c0, c1, c2, c3, c4, c5, c6⟩)
    have HSC := Lib.hid (fun (W : World) (h : Below w.heap.size w W) => rsizes_any t ⟨ck, cr, cid, ca, t.kids.length, ccap⟩ W (HI.out.up h) HL.out)
    clear hax hax2 hrs h1 hk hk2
    go_enter Try.func44, Try.ntmps44
    go_wp2
    go_region_held3 (fun W => W.cell? ⟨w.heap.size, 0, none⟩ = some (.int .u8 ck) ∧ W.cell? ⟨w.heap.size, 1, none⟩ = some (.int .i64 cr.x) ∧ W.cell? ⟨w.heap.size, 2, none⟩ = some (.int .i64 cr.y) ∧ W.cell? ⟨w.heap.size, 3, none⟩ = some (.int .i64 cr.w) ∧ W.cell? ⟨w.heap.size, 4, none⟩ = some (.int .i64 cr.h) ∧ W.cell? ⟨w.heap.size, 5, none⟩ = some (.int .i64 cid) ∧ W.cell? ⟨w.heap.size, 6, none⟩ = some (.slice ca t.kids.length ccap)) (first | with_reducible exact S0'.out | with_reducible exact S2.out | with_reducible exact S3.out)
      (first
        | (go_at_call 61
           refine (HSC.out _ BD.out).mono ?_
           rintro e w2 ⟨v2, rfl, hr2, hb2⟩
           have HB2 := Lib.hid (BD.out.trans (hb2.mono BD.out.size))
           have C2 := Lib.hid (S0.out.up hb2)
           have HR2 : Hid (IRow w2 v2 (sizesT t)) := Lib.hid (by rw [← HRS.out]; exact hr2)
           have S2 : Hid (w2.cell? ⟨w.heap.size, 0, none⟩ = some (.int .u8 ck) ∧ w2.cell? ⟨w.heap.size, 1, none⟩ = some (.int .i64 cr.x) ∧ w2.cell? ⟨w.heap.size, 2, none⟩ = some (.int .i64 cr.y) ∧ w2.cell? ⟨w.heap.size, 3, none⟩ = some (.int .i64 cr.w) ∧ w2.cell? ⟨w.heap.size, 4, none⟩ = some (.int .i64 cr.h) ∧ w2.cell? ⟨w.heap.size, 5, none⟩ = some (.int .i64 cid) ∧ w2.cell? ⟨w.heap.size, 6, none⟩ = some (.slice ca t.kids.length ccap)) := Lib.hid (by
             obtain ⟨c0, c1, c2, c3, c4, c5, c6⟩ := C2.out
             simp only [Nat.zero_add] at c1 c2 c3 c4 c5 c6
             exact ⟨c0, c1, c2, c3, c4, c5, c6⟩)
           clear hb2 hr2)
        | (go_at_call 60
           try rw [hwr]
           refine (rcut_any cr (axT t) v2 (sizesT t) w2 HRF.out HR2.out (by rw [sizes_len]; have := HL.out; omega) HAX.out).mono ?_
           rintro e w3 ⟨v3, v4, b, rfl, hbi, hr3, hr4, hb3⟩
           have HB3 := Lib.hid (HB2.out.trans (hb3.mono HB2.out.size))
           have C3 := Lib.hid (C2.out.up hb3)
           have HBI := Lib.hid hbi
           have HR3 := Lib.hid hr3
           have HR4 := Lib.hid hr4
           have S3 : Hid (w3.cell? ⟨w.heap.size, 0, none⟩ = some (.int .u8 ck) ∧ w3.cell? ⟨w.heap.size, 1, none⟩ = some (.int .i64 cr.x) ∧ w3.cell? ⟨w.heap.size, 2, none⟩ = some (.int .i64 cr.y) ∧ w3.cell? ⟨w.heap.size, 3, none⟩ = some (.int .i64 cr.w) ∧ w3.cell? ⟨w.heap.size, 4, none⟩ = some (.int .i64 cr.h) ∧ w3.cell? ⟨w.heap.size, 5, none⟩ = some (.int .i64 cid) ∧ w3.cell? ⟨w.heap.size, 6, none⟩ = some (.slice ca t.kids.length ccap)) := Lib.hid (by
             obtain ⟨c0, c1, c2, c3, c4, c5, c6⟩ := C3.out
             simp only [Nat.zero_add] at c1 c2 c3 c4 c5 c6
             exact ⟨c0, c1, c2, c3, c4, c5, c6⟩)
           clear hb3 hbi hr3 hr4))
    cases b with
    | false =>
      have HF : Hid (¬ fitsP t) := Lib.hid (one_no HNK.out (by
        rw [HCR.out]
        intro h
        have := HBI.out.2 h; cases this))
      obtain ⟨a4, cap4, hv4⟩ := HR4.out.shape
      subst hv4
      go_wp2
      go_ret2
      exact btw_no HF.out rfl HR4.out HB3.out
    | true =>
      have HCP := Lib.hid (HBI.out.1 rfl)
      obtain ⟨a3, cap3, hv3⟩ := HR3.out.shape
      subst hv3
      have HPL : Hid ((cutParts cr (axT t) (sizesT t) true).length = t.kids.length) := Lib.hid (by rw [parts_len, sizes_len])
      have hlen3 : Value.slice a3 (cutParts cr (axT t) (sizesT t) true).length cap3 = .slice a3 t.kids.length cap3 := by rw [HPL.out]
      rw [hlen3]
      clear hlen3
      have HFT : Hid (t.kids.length ≤ 20000) := HL
      go_wp2
      go_loopg [29] (t.kids.length + 1) (fun g i wr => ∃ k : Nat, g + k = t.kids.length + 1 ∧ k ≤ t.kids.length ∧ i = .int .i64 k ∧ (∀ (j : Nat) (u : T) (q : R), j < k → t.kids[j]? = some u → (cutParts cr (axT t) (sizesT t) true)[j]? = some q → q = u.r) ∧ Below w3.heap.size w3 wr)
      case atStart => exact ⟨0, by omega, by omega, rfl, fun j t u hj => by omega, Below.refl _ _⟩
      case round =>
        obtain ⟨k, hg', hk, rfl, hsame, hb⟩ := hrel
        have HG := Lib.hid hg'
        have HSM := Lib.hid hsame
        have HB := Lib.hid hb
        clear hg' hsame hb
        have hln := HFT.out
        by_cases hlt : k < t.kids.length
        · obtain ⟨u, hu⟩ : ∃ u, t.kids[k]? = some u := ⟨_, List.getElem?_eq_getElem hlt⟩
          obtain ⟨q, hq⟩ : ∃ q, (cutParts cr (axT t) (sizesT t) true)[k]? = some q := ⟨_, List.getElem?_eq_getElem (by have := HPL.out; omega)⟩
          obtain ⟨b3, o3, ha3, hf3⟩ := HR3.out.place (by have := HPL.out; omega)
          subst ha3
          obtain ⟨b1, o1, ha1, hf1⟩ := HI.out.row.place (by omega)
          simp only at ha1
          subst ha1
          obtain ⟨x, hx, hix⟩ := hf1 k u hu
          have hxr : u.r = x.r := hix.split.2.1
          obtain ⟨e0, e1, e2, e3⟩ := (hf3 k q hq).up HB.out
          obtain ⟨-, x1, x2, x3, x4, -, -⟩ := hx.up (HB3.out.trans (HB.out.mono HB3.out.size))
          obtain ⟨-, -, -, -, -, -, c6⟩ := C3.out.up HB.out
          simp only [Nat.zero_add] at c6
          have hki : (k : Int) < (t.kids.length : Int) := by omega
          have HU := Lib.hid hu
          have HQ := Lib.hid hq
          have HXR := Lib.hid hxr
          clear hf1 hf3 hx hix hu hq hxr
          by_cases hqx : q = x.r
          · have hE : ∀ w, (Op.equalIn 10000 23 (.agg #[.int .i64 q.x, .int .i64 q.y, .int .i64 q.w, .int .i64 q.h]) (.agg #[.int .i64 x.r.x, .int .i64 x.r.y, .int .i64 x.r.w, .int .i64 x.r.h])).run Try.prog w = .ok true w := fun w => by rw [← decide_eq_true hqx]; exact eq_run q x.r w
            have HQX := Lib.hid hqx
            clear hqx
            go_wp2
            go_quiet (fail)
            go_wp2
            go_roundg (gk - 1)
            case measure => have := HG.out; omega
            case rel =>
              refine ⟨k + 1, by have := HG.out; omega, by omega, by go_num, fun j a b hj ha hb => ?_, ⟨HB.out.os, HB.out.tape, HB.out.output, HB.out.size, HB.out.block⟩⟩
              rcases Nat.lt_or_ge j k with h | h
              · exact HSM.out j a b h ha hb
              · obtain rfl : j = k := by omega
                rw [HU.out] at ha; rw [HQ.out] at hb
                cases ha; cases hb
                rw [HXR.out]; exact HQX.out
          · have hE : ∀ w, (Op.equalIn 10000 23 (.agg #[.int .i64 q.x, .int .i64 q.y, .int .i64 q.w, .int .i64 q.h]) (.agg #[.int .i64 x.r.x, .int .i64 x.r.y, .int .i64 x.r.w, .int .i64 x.r.h])).run Try.prog w = .ok false w := fun w => by rw [← decide_eq_false hqx]; exact eq_run q x.r w
            have HF : Hid (¬ fitsP t) := Lib.hid (one_diff HNK.out HU.out (by rw [HCR.out]; exact HQ.out) (by rw [HXR.out]; exact hqx))
            clear hqx
            go_wp2
            go_quiet (fail)
            go_wp2
            go_ret2
            have hbE : Below w.heap.size w wr := HB3.out.trans (HB.out.mono HB3.out.size)
            exact btw_no HF.out rfl (.inl ⟨_, _, rfl, rfl⟩) ((bel_drewN hbE).alloc hbE.size _)
        · obtain rfl : k = t.kids.length := by omega
          have hkl : ((t.kids.length : Int) < (t.kids.length : Int)) = False := by simp
          have HF : Hid (fitsP t) := Lib.hid (one_all (by rw [HCR.out]; exact HCP.out) (fun k u q hu hq => HSM.out k u q (by
            rcases Nat.lt_or_ge k t.kids.length with h | h
            · exact h
            · rw [List.getElem?_eq_none h] at hu; cases hu) hu (by rw [← HCR.out]; exact hq)))
          have HLN : Hid (linesT t = cutLines cr (axT t) (sizesT t) true) := Lib.hid (by unfold linesT; rw [if_neg HNK.out, HCR.out])
          have HR5 := Lib.hid (HR4.out.up HB.out)
          have HBE := Lib.hid (HB3.out.trans (HB.out.mono HB3.out.size))
          go_wp2
          go_ret2
          exact btw_yes HF.out rfl (by rw [HLN.out]; exact HR5.out) HBE.out
end Go.Proofs.Ytodcabaihhmhnaa
/- The document's answer: does a tree tile, its lines, and which cell doesn't. -/
namespace Go.Proofs.Ytodcabaihhmhnaa
open Go.RowKit

theorem well_kind {t : T} (h : wellT t = true) : t.k = 1 ∨ t.k = 2 ∨ t.k = 3 := by
  unfold wellT wellB at h
  simp only [Bool.and_eq_true, Bool.or_eq_true, decide_eq_true_eq] at h
  omega
theorem rmay_well {t u : T} (h : rmayT t = true) (hu : u ∈ preT t) : wellT u = true := by
  unfold rmayT at h
  rw [Bool.and_eq_true] at h
  exact List.all_eq_true.1 h.1 u hu
theorem cutLines_len (r : R) (ax : Int) (ms : List Int) (b : Bool) : (cutLines r ax ms b).length ≤ ms.length := by
  cases b with
  | false => simp [cutLines]
  | true => simp only [cutLines]; split <;> rw [linesL_length] <;> omega
theorem linesT_len (t : T) : (linesT t).length ≤ t.kids.length := by
  unfold linesT
  split
  · simp
  · have := cutLines_len t.r (axT t) (sizesT t) true
    rw [sizes_len] at this
    exact this
def allLines (l : List T) : List R := l.flatMap linesT
theorem allLines_step {l : List T} {k : Nat} {u : T} (h : l[k]? = some u) : allLines (l.take (k + 1)) = allLines (l.take k) ++ linesT u := by
  unfold allLines; rw [List.take_add_one, h]; simp
mutual
theorem pre_kids : ∀ (t u : T), u ∈ preT t → u.kids.length ≤ sz t
  | .node k r i l, u, h => by
    rw [preT] at h
    rw [sz]
    rcases List.mem_cons.1 h with rfl | h
    · have := szL_len l; show l.length ≤ _; omega
    · have := preL_kids l u h; omega
theorem preL_kids : ∀ (l : List T) (u : T), u ∈ preL l → u.kids.length ≤ szL l
  | [], u, h => by rw [preL] at h; cases h
  | t :: l, u, h => by
    rw [preL] at h
    rw [szL]
    rcases List.mem_append.1 h with h | h
    · have := pre_kids t u h; omega
    · have := preL_kids l u h; omega
end
theorem allLines_len {l : List T} {n : Nat} (h : ∀ u ∈ l, u.kids.length ≤ n) : (allLines l).length ≤ l.length * n := by
  induction l with
  | nil => simp [allLines]
  | cons t l ih =>
    have h1 := ih fun u hu => h u (List.mem_cons_of_mem _ hu)
    have h2 := h t (List.mem_cons_self ..)
    have h3 := linesT_len t
    unfold allLines at *
    rw [List.flatMap_cons, List.length_append, List.length_cons, Nat.add_mul]
    omega
theorem Owns.empty (w : World) (base : Nat) (hb : base ≤ w.heap.size) : Owns (w.alloc (.cells #[] 23)) base (.slice (some ⟨w.heap.size, 0, none⟩) 0 0) [] := World.ownsRow_made w #[] 0 hb (Nat.zero_le _) (by simp)

def RCheckSays (t : T) (w : World) (e : Ending) (w' : World) : Prop := ∃ (v : Value) (no pl : Int) (l : List R), e = .returned (.tuple #[v, .int .i64 no, .int .i64 pl]) ∧ RRow w' v l ∧ Below w.heap.size w w' ∧
  ((rmayT t = false ∧ no = 1 ∧ pl = 0 ∧ l = []) ∨ (rmayT t = true ∧ (preT t).all fitB = true ∧ no = 0 ∧ pl = 0 ∧ l = allLines (preT t)) ∨ (rmayT t = true ∧ (preT t).all fitB = false ∧ no = 5 ∧ pl = ((preT t).findIdx fun u => !fitB u : Nat) ∧ l = []))

theorem idx_first {l : List T} {k : Nat} {u : T} (hu : l[k]? = some u) (hf : fitB u = false) (h : ∀ (j : Nat) (x : T), j < k → l[j]? = some x → fitB x = true) : l.findIdx (fun u => !fitB u) = k ∧ l.all fitB = false := by
  have hk := (List.getElem?_eq_some_iff.1 hu).1
  have hue : l[k] = u := (List.getElem?_eq_some_iff.1 hu).2
  constructor
  · rw [List.findIdx_eq hk]
    refine ⟨by rw [hue, hf]; rfl, fun j hj => ?_⟩
    have := h j l[j] hj (List.getElem?_eq_getElem (by omega))
    rw [this]; rfl
  · cases e : l.all fitB with
    | false => rfl
    | true => rw [List.all_eq_true.1 e u (List.mem_of_getElem? hu)] at hf; cases hf

set_option maxRecDepth 100000 in
set_option maxHeartbeats 1600000 in
theorem rcheck_any (t : T) (c : C) (w : World) (hi : Is w c t) (hs : sz t ≤ 20000) : Calls Try.prog 26 #[cval c] w (RCheckSays t w) := by
  have B1 : Hid (Below w.heap.size w ((w.alloc (cbox c)).alloc (.cells #[] 23))) := Lib.hid (((Below.refl _ _).alloc (Nat.le_refl _) _).alloc (by simp) _)
  have C1 := Lib.hid ((cbox_new w c).up ((Below.refl _ _).alloc (Nat.le_refl _) (.cells #[] 23)))
  have HMY := Lib.hid (rmayOne_any t c ((w.alloc (cbox c)).alloc (.cells #[] 23)) (by omega) (hi.up B1.out))
  have HI := Lib.hid hi
  have HS := Lib.hid hs
  clear hi hs
  cases hm : rmayT t with
  | false =>
    rw [hm] at HMY
    have HM := Lib.hid hm
    clear hm
    go_enter Try.func26, Try.ntmps26
    go_wp2_with fail
    refine HMY.out.mono ?_
    rintro e w2 ⟨rfl, hb2⟩
    have HB2 := Lib.hid (B1.out.trans (hb2.mono B1.out.size))
    clear hb2
    go_wp2
    go_ret3
    exact ⟨_, 1, 0, [], rfl, .inl ⟨_, _, rfl, rfl⟩, HB2.out, .inl ⟨HM.out, rfl, rfl, rfl⟩⟩
  | true =>
    rw [hm] at HMY
    have HM := Lib.hid hm
    clear hm
    go_enter Try.func26, Try.ntmps26
    go_wp2_with fail
    refine HMY.out.mono ?_
    rintro e w2 ⟨rfl, hb2⟩
    have HB2 := Lib.hid (B1.out.trans (hb2.mono B1.out.size))
    obtain ⟨c0, c1, c2, c3, c4, c5, c6⟩ := C1.out.up hb2
    simp only [Nat.zero_add] at c1 c2 c3 c4 c5 c6
    clear hb2
    have HAL := Lib.hid (rall_any w2 (sz t) t c w2 (Nat.le_refl _) (by have := HS.out; omega) (HI.out.up HB2.out) (Below.refl _ _))
    go_wp2_with fail
    refine HAL.out.mono ?_
    rintro e w3 ⟨vl, al, rfl, howl, htl, hb3⟩
    have HT := Lib.hid htl
    have hall : al.length ≤ 20000 := by rw [htl.1, preT_len]; exact HS.out
    have HALN : Hid (al.length = (preT t).length) := Lib.hid htl.1
    have HROW := Lib.hid howl.row
    obtain ⟨aa, capl, rfl⟩ := howl.row.shape
    have HB23 := Lib.hid hb3
    have HB3 := Lib.hid (HB2.out.trans (hb3.mono HB2.out.size))
    have HO := Lib.hid (Owns.empty w3 w3.heap.size (Nat.le_refl _))
    have HB4 : Hid (Below w3.heap.size w3 (w3.alloc (.cells #[] 23))) := (Below.refl _ _).alloc (Nat.le_refl _) _
    clear hb3 howl htl c0 c1 c2 c3 c4 c5 c6
    go_wp2
    go_loopg [7, 21] (al.length + 1) (fun g v i wr => ∃ k : Nat, g + k = al.length + 1 ∧ k ≤ al.length ∧ i = .int .i64 k ∧ Owns wr w3.heap.size v (allLines ((preT t).take k)) ∧ (∀ (j : Nat) (u : T), j < k → (preT t)[j]? = some u → fitB u = true) ∧ Below w3.heap.size w3 wr)
    case atStart => exact ⟨0, by omega, by omega, rfl, HO.out, fun j u hj => by omega, HB4.out⟩
    case round =>
      obtain ⟨k, hg, hk, rfl, hown, hfit, hb⟩ := hrel
      have HG := Lib.hid hg
      have HOW := Lib.hid hown
      have HFT := Lib.hid hfit
      have HB := Lib.hid hb
      clear hg hown hfit hb
      by_cases hlt : k < al.length
      · obtain ⟨x, u, hx, hu, hxu⟩ := HT.out.at hlt
        obtain ⟨b, o, rfl, hf⟩ := HROW.out.place (by omega)
        obtain ⟨c0, c1, c2, c3, c4, c5, c6⟩ := (hf k x hx).up HB.out
        have hki : (k : Int) < (al.length : Int) := by omega
        have hmem := List.mem_of_getElem? hu
        have HKL : Hid (u.kids.length ≤ 20000) := Lib.hid (Nat.le_trans (pre_kids t u hmem) HS.out)
        have HON := Lib.hid (rone_any u x wr (hxu.up (HB23.out.trans (HB.out.mono HB23.out.size))) HKL.out (well_kind (rmay_well HM.out hmem)))
        have HU := Lib.hid hu
        have HST := Lib.hid (allLines_step hu)
        have HLE : Hid ((allLines ((preT t).take k)).length ≤ 400000000) := Lib.hid (by
          have h1 := allLines_len (l := (preT t).take k) (n := 20000) (fun u hu => Nat.le_trans (pre_kids t u (List.mem_of_mem_take hu)) HS.out)
          rw [List.length_take] at h1
          have : min k (preT t).length ≤ 20000 := by omega
          have := Nat.mul_le_mul_right 20000 this
          omega)
        clear hf hx hxu hmem hu
        go_wp2_with fail
        refine HON.out.mono ?_
        rintro e w5 ⟨v5, rfl, hr5, hb5⟩
        have HB5 := Lib.hid (HB.out.trans (hb5.mono HB.out.size))
        have HOW5 := Lib.hid (HOW.out.up hb5)
        clear hb5 c0 c1 c2 c3 c4 c5 c6
        cases hfu : fitB u with
        | true =>
          rw [hfu] at hr5
          have HR5 : Hid (RRow w5 v5 (linesT u)) := Lib.hid hr5
          have HFU := Lib.hid hfu
          have HLL : Hid ((linesT u).length ≤ 20000) := Lib.hid (Nat.le_trans (linesT_len u) HKL.out)
          clear hr5 hfu
          go_wp2_with (at_builtin; refine wpList_append_rects rfl _ _ rfl w3.heap.size _ v5 _ (linesT u) rfl HOW5.out rfl HR5.out (by have := HLE.out; have := HLL.out; omega) w3 HB5.out (Nat.le_refl _) ?_)
          intro v6 w6 ho6 hb6 _ _
          have HO6 := Lib.hid ho6
          have HB6 := Lib.hid hb6
          clear ho6 hb6
          go_wp2
          go_roundg (gk - 1)
          case measure => have := HG.out; omega
          case rel =>
            refine ⟨k + 1, by have := HG.out; omega, by omega, by go_num, by rw [HST.out]; exact HO6.out, fun j a hj ha => ?_, HB6.out⟩
            rcases Nat.lt_or_ge j k with h | h
            · exact HFT.out j a h ha
            · obtain rfl : j = k := by omega
              rw [HU.out] at ha
              cases ha
              exact HFU.out
        | false =>
          have HFF := Lib.hid (idx_first HU.out hfu HFT.out)
          have HBE := Lib.hid (HB3.out.trans (HB5.out.mono HB3.out.size))
          clear hfu hr5
          go_wp2
          go_ret3
          exact ⟨_, 5, k, [], rfl, .inl ⟨_, _, rfl, rfl⟩, HBE.out, .inr (.inr ⟨HM.out, HFF.out.2, rfl, by rw [HFF.out.1], rfl⟩)⟩
      · obtain rfl : k = al.length := by omega
        have hkl : ((al.length : Int) < (al.length : Int)) = False := by simp
        have HAF : Hid ((preT t).all fitB = true) := Lib.hid (by
          rw [List.all_eq_true]
          intro u hu
          obtain ⟨j, hj⟩ := List.getElem?_of_mem hu
          exact HFT.out j u (by have := (List.getElem?_eq_some_iff.1 hj).1; have := HALN.out; omega) hj)
        have HOE : Hid (Owns wr w3.heap.size u7 (allLines (preT t))) := Lib.hid (by
          have h := HOW.out
          rw [List.take_of_length_le (by rw [HALN.out]; exact Nat.le_refl _)] at h
          exact h)
        have HBE := Lib.hid (HB3.out.trans (HB.out.mono HB3.out.size))
        go_wp2
        go_ret3
        exact ⟨_, 0, 0, _, rfl, HOE.out.row, HBE.out, .inr (.inl ⟨HM.out, HAF.out, rfl, rfl, rfl⟩)⟩
end Go.Proofs.Ytodcabaihhmhnaa
/- The least size of a tree along an axis, and what it can give: the mathematics. -/
namespace Go.Proofs.Ytodcabaihhmhnaa
open Go.RowKit

mutual
def lsT (ax : Int) : T → Int
  | .node k _ _ l => if l.isEmpty then 1 else if alB k ax then lsS ax l + l.length - 1 else lsX ax l
/-- Together. -/
def lsS (ax : Int) : List T → Int
  | [] => 0
  | t :: l => lsT ax t + lsS ax l
/-- The greatest. -/
def lsX (ax : Int) : List T → Int
  | [] => 0
  | t :: l => max (lsT ax t) (lsX ax l)
end
theorem ls_eq (ax : Int) (t : T) : lsT ax t = if t.kids.isEmpty then 1 else if alB t.k ax then lsS ax t.kids + t.kids.length - 1 else lsX ax t.kids := by
  cases t; rw [lsT]; rfl
theorem lsS_append (ax : Int) (a b : List T) : lsS ax (a ++ b) = lsS ax a + lsS ax b := by
  induction a with
  | nil => simp [lsS]
  | cons t l ih => simp only [List.cons_append, lsS, ih]; omega
mutual
theorem ls_pos (ax : Int) : ∀ t, 1 ≤ lsT ax t
  | .node k r i l => by
    rw [lsT]
    cases l with
    | nil => simp
    | cons t l =>
      have h1 := lsS_pos ax (t :: l)
      have h2 := lsX_pos ax (t :: l) (by simp)
      simp only [List.isEmpty_cons, Bool.false_eq_true, if_false]
      split
      · simp only [List.length_cons] at h1 ⊢; omega
      · exact h2
theorem lsS_pos (ax : Int) : ∀ l, (l.length : Int) ≤ lsS ax l
  | [] => by simp [lsS]
  | t :: l => by
    have h1 := ls_pos ax t
    have h2 := lsS_pos ax l
    rw [lsS, List.length_cons]; omega
theorem lsX_pos (ax : Int) : ∀ l, l ≠ [] → 1 ≤ lsX ax l
  | [] => fun h => absurd rfl h
  | t :: l => fun _ => by
    have h1 := ls_pos ax t
    rw [lsX]; omega
end
theorem lsX_nonneg (ax : Int) (l : List T) : 0 ≤ lsX ax l := by
  cases l with
  | nil => simp [lsX]
  | cons t l => have := lsX_pos ax (t :: l) (by simp); omega
theorem lsX_append (ax : Int) (a b : List T) : lsX ax (a ++ b) = max (lsX ax a) (lsX ax b) := by
  induction a with
  | nil => have := lsX_nonneg ax b; simp only [List.nil_append, lsX]; omega
  | cons t l ih => simp only [List.cons_append, lsX, ih]; omega
theorem lsS_step {ax : Int} {l : List T} {k : Nat} {t : T} (h : l[k]? = some t) : lsS ax (l.take (k + 1)) = lsS ax (l.take k) + lsT ax t := by
  rw [List.take_add_one, h, lsS_append]; simp [lsS]
theorem lsX_step {ax : Int} {l : List T} {k : Nat} {t : T} (h : l[k]? = some t) : lsX ax (l.take (k + 1)) = max (lsX ax (l.take k)) (lsT ax t) := by
  rw [List.take_add_one, h, lsX_append]
  have := ls_pos ax t
  simp only [Option.toList, lsX]; omega
mutual
theorem ls_sz (ax : Int) : ∀ t, lsT ax t ≤ 2 * (sz t : Int) - 1
  | .node k r i l => by
    rw [lsT, sz]
    have h1 := lsS_sz ax l
    have h2 := lsX_sz ax l
    split
    · omega
    · split
      · omega
      · omega
theorem lsS_sz (ax : Int) : ∀ l, lsS ax l + (l.length : Int) ≤ 2 * (szL l : Int)
  | [] => by simp [lsS, szL]
  | t :: l => by
    have h1 := ls_sz ax t
    have h2 := lsS_sz ax l
    rw [lsS, szL, List.length_cons]; omega
theorem lsX_sz (ax : Int) : ∀ l, lsX ax l ≤ 2 * (szL l : Int)
  | [] => by simp [lsX, szL]
  | t :: l => by
    have h1 := ls_sz ax t
    have h2 := lsX_sz ax l
    rw [lsX, szL]; omega
end

/-- A tree whose cells without kids are leaves. -/
def okT (t : T) : Prop := ∀ u ∈ preT t, u.kids = [] → u.k = 1
theorem ok_kid {t u : T} {k : Nat} (h : okT t) (hu : t.kids[k]? = some u) : okT u := fun x hx => h x ((pre_sub hu).mem hx)
theorem ok_top {t : T} (h : okT t) : t.kids = [] → t.k = 1 := h t (by rw [preT_eq]; exact List.mem_cons_self ..)
theorem ok_may {t : T} (h : mayT t = true) : okT t := by
  rw [may_is (may_small h)] at h
  intro u hu he
  have hw := rmay_well h hu
  unfold wellT wellB at hw
  simp only [Bool.and_eq_true, Bool.or_eq_true, decide_eq_true_eq] at hw
  rw [he] at hw
  simp at hw
  exact hw.2.1
theorem ls_yes {ax : Int} {t : T} (h : okT t) (ha : alB t.k ax = true) : lsT ax t = lsS ax t.kids + t.kids.length - 1 := by
  rw [ls_eq, if_neg, if_pos ha]
  intro he
  have := ok_top h (by simpa using he)
  rw [this] at ha
  simp [alB] at ha
theorem ls_no {ax : Int} {t : T} (ha : alB t.k ax = false) : lsT ax t = max 1 (lsX ax t.kids) := by
  rw [ls_eq]
  cases hk : t.kids with
  | nil => simp [lsX]; rfl
  | cons u l =>
    have := lsX_pos ax (u :: l) (by simp)
    simp only [List.isEmpty_cons, Bool.false_eq_true, if_false, ha]
    omega

/-- What a tree can give. -/
def gvT (ax : Int) (t : T) : Int := szA t.r ax - lsT ax t
def gvS (ax : Int) (l : List T) : Int := (l.map (gvT ax)).sum
def szS (ax : Int) (l : List T) : Int := (l.map fun u => szA u.r ax).sum
theorem gvS_is (ax : Int) (l : List T) : gvS ax l = szS ax l - lsS ax l := by
  induction l with
  | nil => rfl
  | cons t l ih =>
    unfold gvS szS at *
    rw [List.map_cons, List.sum_cons, List.map_cons, List.sum_cons, ih, lsS]
    unfold gvT
    omega
theorem gvS_step {ax : Int} {l : List T} {k : Nat} {t : T} (h : l[k]? = some t) : gvS ax (l.take (k + 1)) = gvS ax (l.take k) + gvT ax t := by
  unfold gvS; rw [List.take_add_one, h]; simp

theorem may_rect {r : R} (h : mayB r = true) : 0 ≤ r.x ∧ 0 ≤ r.y ∧ 1 ≤ r.w ∧ 1 ≤ r.h ∧ r.x + r.w ≤ 10000 ∧ r.y + r.h ≤ 10000 := by
  have := (mayB_iff r).1 h
  omega
theorem well_rect {t : T} (h : wellT t = true) : mayB t.r = true := by
  unfold wellT wellB at h
  rw [Bool.and_eq_true] at h
  exact h.1

theorem off_sum (ms : List Int) : ∀ n : Int, ms.foldl (fun n m => n + (m + 1)) n = n + ms.sum + ms.length := by
  induction ms with
  | nil => intro n; simp
  | cons m ms ih => intro n; rw [List.foldl_cons, ih, List.sum_cons, List.length_cons]; omega
theorem off_all (ms : List Int) : offS ms ms.length = ms.sum + ms.length := by
  unfold offS; rw [List.take_length, off_sum]; omega
theorem parts_at (o : R) (tb : R → R) (ms : List Int) : ∀ (n k : Nat), k < n → (partsL o tb ms n)[k]? = some (partK o tb ms k)
  | 0, k, h => by omega
  | n + 1, k, h => by
    rw [partsL]
    rcases Nat.lt_or_ge k n with hk | hk
    · rw [List.getElem?_append_left (by rw [partsL_length]; exact hk)]
      exact parts_at o tb ms n k hk
    · obtain rfl : k = n := by omega
      rw [List.getElem?_append_right (by rw [partsL_length]; exact Nat.le_refl _), partsL_length]
      simp

/-- A row or a column that tiles: its kids' sizes. -/
theorem fit_kids {t : T} (hw : wellT t = true) (hf : fitB t = true) (hk : t.k ≠ 1) (ax : Int) (hax : ax = 1 ∨ ax = 2) :
    (alB t.k ax = true → szS ax t.kids + t.kids.length = szA t.r ax + 1) ∧ (alB t.k ax = false → ∀ (j : Nat) (u : T), t.kids[j]? = some u → szA u.r ax = szA t.r ax) := by
  have hkind := well_kind hw
  obtain h1 | ⟨⟨-, hcut⟩, hrects⟩ := (fitB_iff t).1 hf
  · exact absurd h1 hk
  · have hlen : (sizesT t).length = t.kids.length := sizes_len t
    have hat : ∀ (j : Nat) (u : T), t.kids[j]? = some u → (cutParts t.r (axT t) (sizesT t) true)[j]? = some u.r := fun j u hu => by
      rw [← hrects, List.getElem?_map, hu]; rfl
    have hlt : ∀ (j : Nat) (u : T), t.kids[j]? = some u → j < (sizesT t).length := fun j u hu => by
      rw [hlen]; exact (List.getElem?_eq_some_iff.1 hu).1
    rcases hkind with h | h | h
    · exact absurd h hk
    · have ha : axT t = 1 := by unfold axT; rw [if_neg (by omega)]
      have hs : sizesT t = wsT t := by unfold sizesT; rw [if_neg (by omega)]
      rw [ha] at hcut hat
      have hfill : fillP t.r.w (sizesT t) := by
        rcases hcut with ⟨-, h⟩ | ⟨h, -⟩
        · exact h
        · omega
      rcases hax with rfl | rfl
      · refine ⟨fun _ => ?_, fun hn => by rw [h] at hn; simp [alB] at hn⟩
        have h2 := hfill.2
        rw [off_all, hlen, hs] at h2
        exact h2
      · refine ⟨fun hn => by rw [h] at hn; simp [alB] at hn, fun _ j u hu => ?_⟩
        have h3 := hat j u hu
        rw [cutParts, if_pos rfl, parts_at _ _ _ _ _ (hlt j u hu)] at h3
        have h4 := Option.some.inj h3
        rw [← h4]; rfl
    · have ha : axT t = 2 := by unfold axT; rw [if_pos h]
      have hs : sizesT t = hsT t := by unfold sizesT; rw [if_pos h]
      rw [ha] at hcut hat
      have hfill : fillP t.r.h (sizesT t) := by
        rcases hcut with ⟨h, -⟩ | ⟨-, h⟩
        · omega
        · exact h
      rcases hax with rfl | rfl
      · refine ⟨fun hn => by rw [h] at hn; simp [alB] at hn, fun _ j u hu => ?_⟩
        have h3 := hat j u hu
        rw [cutParts, if_neg (by decide), parts_at _ _ _ _ _ (hlt j u hu)] at h3
        have h4 := Option.some.inj h3
        rw [← h4]; rfl
      · refine ⟨fun _ => ?_, fun hn => by rw [h] at hn; simp [alB] at hn⟩
        have h2 := hfill.2
        rw [off_all, hlen, hs] at h2
        exact h2

theorem leaf_ls {t : T} (hw : wellT t = true) (hk : t.k = 1) (ax : Int) : lsT ax t = 1 := by
  unfold wellT wellB at hw
  simp only [Bool.and_eq_true, Bool.or_eq_true, decide_eq_true_eq] at hw
  have hl : t.kids = [] := List.length_eq_zero_iff.1 (by omega)
  rw [ls_eq, hl]; rfl
theorem szS_ge {ax : Int} {l : List T} (h : ∀ u ∈ l, lsT ax u ≤ szA u.r ax) : lsS ax l ≤ szS ax l := by
  induction l with
  | nil => simp [lsS, szS]
  | cons t l ih =>
    have h1 := ih fun u hu => h u (List.mem_cons_of_mem _ hu)
    have h2 := h t (List.mem_cons_self ..)
    unfold szS at *
    rw [List.map_cons, List.sum_cons, lsS]
    omega
theorem lsX_le {ax s : Int} {l : List T} (h : ∀ u ∈ l, lsT ax u ≤ s) (h0 : 0 ≤ s) : lsX ax l ≤ s := by
  induction l with
  | nil => simpa [lsX] using h0
  | cons t l ih =>
    have h1 := ih fun u hu => h u (List.mem_cons_of_mem _ hu)
    have h2 := h t (List.mem_cons_self ..)
    rw [lsX]; omega
theorem szA_pos {r : R} (h : mayB r = true) {ax : Int} (hax : ax = 1 ∨ ax = 2) : 1 ≤ szA r ax ∧ 0 ≤ atA r ax ∧ atA r ax + szA r ax ≤ 10000 := by
  have := may_rect h
  rcases hax with rfl | rfl
  · show 1 ≤ r.w ∧ 0 ≤ r.x ∧ r.x + r.w ≤ 10000; omega
  · show 1 ≤ r.h ∧ 0 ≤ r.y ∧ r.y + r.h ≤ 10000; omega

/-- A tree that tiles is at least as great as its least size. -/
theorem tile_ls {ax : Int} (hax : ax = 1 ∨ ax = 2) (N : Nat) : ∀ t : T, sz t ≤ N → sz t ≤ 20000 → tileB t = true → lsT ax t ≤ szA t.r ax := by
  induction N with
  | zero => intro t h; have := sz_pos t; omega
  | succ N ih =>
    intro t hN hs ht
    obtain ⟨hw, hf⟩ := tile_top hs ht
    have hr := szA_pos (well_rect hw) hax
    have hkid : ∀ u ∈ t.kids, lsT ax u ≤ szA u.r ax := fun u hu => by
      obtain ⟨j, hj⟩ := List.getElem?_of_mem hu
      have := sz_kid hj
      exact ih u (by omega) (by omega) (tile_kid hs ht hj)
    by_cases hk : t.k = 1
    · rw [leaf_ls hw hk]; omega
    · obtain ⟨f1, f2⟩ := fit_kids hw hf hk ax hax
      cases ha : alB t.k ax with
      | true =>
        rw [ls_yes (ok_may (tile_may ht)) ha]
        have h1 := f1 ha
        have h2 := szS_ge hkid
        omega
      | false =>
        rw [ls_no ha]
        have h3 := lsX_le (ax := ax) (s := szA t.r ax) (l := t.kids) (fun u hu => by
          obtain ⟨j, hj⟩ := List.getElem?_of_mem hu
          rw [← f2 ha j u hj]; exact hkid u hu) (by omega)
        omega

/-- What a tree that tiles can give: together, along its kids' own axis. -/
theorem gives_sum {ax : Int} (hax : ax = 1 ∨ ax = 2) {t : T} (hs : sz t ≤ 20000) (ht : tileB t = true) (hk : t.k ≠ 1) (ha : alB t.k ax = true) : gvT ax t = gvS ax t.kids := by
  obtain ⟨hw, hf⟩ := tile_top hs ht
  have h1 := (fit_kids hw hf hk ax hax).1 ha
  rw [gvS_is, gvT, ls_yes (ok_may (tile_may ht)) ha]
  omega
/-- The least of the first ones, ahead of them 10000. -/
def mnK (ax s : Int) (l : List T) (k : Nat) : Int := if k = 0 then 10000 else s - lsX ax (l.take k)
theorem mn_zero (ax s : Int) (l : List T) : mnK ax s l 0 = 10000 := rfl
theorem mn_step {ax s : Int} {l : List T} {k : Nat} {u : T} (h : l[k]? = some u) (hs : s ≤ 10000) (hu : szA u.r ax = s) : mnK ax s l (k + 1) = min (mnK ax s l k) (gvT ax u) := by
  have hp := ls_pos ax u
  unfold mnK gvT
  rw [if_neg (by omega), lsX_step h, hu]
  by_cases hk : k = 0
  · rw [if_pos hk]
    subst hk
    simp only [List.take_zero, lsX]
    omega
  · rw [if_neg hk]
    omega
theorem gives_min {ax : Int} {t : T} (hs : sz t ≤ 20000) (ht : tileB t = true) (hk : t.k ≠ 1) (ha : alB t.k ax = false) : gvT ax t = mnK ax (szA t.r ax) t.kids t.kids.length := by
  obtain ⟨hw, -⟩ := tile_top hs ht
  have hl : 2 ≤ t.kids.length := by
    unfold wellT wellB at hw
    simp only [Bool.and_eq_true, Bool.or_eq_true, decide_eq_true_eq] at hw
    omega
  have hp := lsX_pos ax t.kids (fun e => by rw [e] at hl; simp at hl)
  rw [gvT, mnK, if_neg (by omega), List.take_length, ls_no ha]
  omega
end Go.Proofs.Ytodcabaihhmhnaa
