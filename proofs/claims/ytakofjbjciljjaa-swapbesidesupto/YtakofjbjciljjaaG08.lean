/- Texts of this seat, 3 in one file. -/
import Derived.Test.YtakofjbjciljjaaG02
import Derived.Test.YtakofjbjciljjaaG07
import Derived.Test.YtakofjbjciljjaaG06
import Derived.OneCell
import Derived.Test.YtakofjbjciljjaaG03
/- One rectangle in a row of its own: may it be? -/
namespace Go.Proofs.Ytakofjbjciljjaa
open Go.RowKit

abbrev box (r : R) : Obj := .cells #[.int .i64 r.x, .int .i64 r.y, .int .i64 r.w, .int .i64 r.h] 23
theorem rat_new (w : World) (r : R) : RAt (w.alloc (box r)) w.heap.size 0 r := by
  refine ⟨?_, ?_, ?_, ?_⟩ <;> simp
theorem rrow_one (w : World) (r : R) : RRow (w.alloc (box r)) (.slice (some ⟨w.heap.size, 0, none⟩) 1 1) [r] := by
  refine .inr ⟨w.heap.size, 0, 1, rfl, fun j q hq => ?_⟩
  cases j with
  | zero => simp at hq; subst hq; simpa using rat_new w r
  | succ j => simp at hq

def hasB (r : R) (x y : Int) : Bool := mayB r && decide (r.x ≤ x) && decide (x < r.x + r.w) && decide (r.y ≤ y) && decide (y < r.y + r.h)
theorem bool_cases (b : Bool) : b = true ∨ b = false := by cases b <;> simp
theorem mays_one (r : R) : mays [r] = mayB r := by simp [mays]
theorem fits_one {r : R} (h : r.fits) : fitsAll [r] := fun q hq => by simp at hq; subst hq; exact h

/-- May, of one. -/
theorem may_one (r : R) (w : World) (hr : r.fits) (n : Nat) (hn : n = w.heap.size) :
    Calls Try.prog 81 #[.slice (some ⟨n, 0, none⟩) 1 1] (w.alloc (box r)) fun e w' => e = .returned (.bool (mayB r)) ∧ Below w.heap.size w w' := by
  subst hn
  refine (may_any _ [r] _ (rrow_one w r) (by simp) (fits_one hr)).mono ?_
  rintro e w' ⟨rfl, hb⟩
  exact ⟨by rw [mays_one], ((Below.refl _ _).alloc (Nat.le_refl _) _).trans (hb.mono (by simp))⟩

end Go.Proofs.Ytakofjbjciljjaa
/- May a cell be, whatever the others are? -/
namespace Go.Proofs.Ytakofjbjciljjaa
open Go.RowKit

def wellB (k : Int) (r : R) (id : Int) (n : Nat) : Bool := mayB r && ((decide (k = 1) && (decide (0 ≤ id ∧ id ≤ 2147483647) && decide (n = 0))) || ((decide (k = 2) || decide (k = 3)) && (decide (id = 0) && decide (2 ≤ n))))
def wellC (c : C) : Bool := wellB c.k c.r c.id c.n
def wellT (t : T) : Bool := wellB t.k t.r t.id t.kids.length
theorem well_is {w : World} {c : C} {t : T} (h : Is w c t) : wellC c = wellT t := by
  obtain ⟨h1, h2, h3, -, cs, -, -, h4, -⟩ := h.split
  rw [wellC, wellT, h1, h2, h3, h4]

set_option maxRecDepth 100000 in
theorem well_any (c : C) (w : World) (hf : c.fine) : Calls Try.prog 80 #[cval c] w fun e w' => e = .returned (.bool (wellC c)) ∧ Below w.heap.size w w' := by
  obtain ⟨ck, cr, cid, ca, cn, ccap⟩ := c
  have HA : Hid (Below w.heap.size w (w.alloc (cbox ⟨ck, cr, cid, ca, cn, ccap⟩))) := (Below.refl _ _).alloc (Nat.le_refl _) _
  have H := Lib.hid (may_one cr (w.alloc (cbox ⟨ck, cr, cid, ca, cn, ccap⟩)) hf.2.1 (w.heap.size + 1) (by simp))
  have hk := hf.1
  have hn := hf.2.2.2
  simp only at hk hn
  clear hf
  show Calls Try.prog 80 _ w fun e w' => e = .returned (.bool (wellB ck cr cid cn)) ∧ Below w.heap.size w w'
  cases hm : mayB cr with
  | false =>
    rw [hm] at H
    have hv := Lib.hid (show wellB ck cr cid cn = false by rw [wellB, hm]; rfl)
    clear hm
    go_enter Try.func80, Try.ntmps80
    go_wp2_with fail
    refine H.out.mono ?_
    rintro e w2 ⟨rfl, hb⟩
    have HB := Lib.hid hb
    clear hb
    go_wp2
    go_ret
    exact ⟨by rw [hv.out]; rfl, below_one HB.out⟩
  | true =>
    rw [hm] at H
    by_cases k1 : ck = 1
    · subst k1
      by_cases h0 : 0 ≤ cid
      · by_cases h1 : cid ≤ 2147483647
        · by_cases h2 : cn = 0
          · subst h2
            have d0 : decide (0 ≤ cid) = true := decide_eq_true h0
            have d1 : decide (cid ≤ 2147483647) = true := decide_eq_true h1
            have hv := Lib.hid (show wellB 1 cr cid 0 = true by rw [wellB, hm]; simp <;> omega)
            clear hm
            go_enter Try.func80, Try.ntmps80
            go_wp2_with fail
            refine H.out.mono ?_
            rintro e w2 ⟨rfl, hb⟩
            have HB := Lib.hid hb
            clear hb
            obtain ⟨q0, q1, q2, q3, q4, q5, q6⟩ := box_at HB.out
            go_wp2
            go_ret
            exact ⟨by rw [hv.out]; rfl, below_one HB.out⟩
          · have d2 : ((cn : Int) == 0) = false := by rw [beq_eq_false_iff_ne]; omega
            have d0 : decide (0 ≤ cid) = true := decide_eq_true h0
            have d1 : decide (cid ≤ 2147483647) = true := decide_eq_true h1
            have hv := Lib.hid (show wellB 1 cr cid cn = false by rw [wellB, hm]; simp <;> omega)
            clear hm
            go_enter Try.func80, Try.ntmps80
            go_wp2_with fail
            refine H.out.mono ?_
            rintro e w2 ⟨rfl, hb⟩
            have HB := Lib.hid hb
            clear hb
            obtain ⟨q0, q1, q2, q3, q4, q5, q6⟩ := box_at HB.out
            go_wp2
            go_ret
            exact ⟨by rw [hv.out]; rfl, below_one HB.out⟩
        · have d1 : decide (cid ≤ 2147483647) = false := decide_eq_false h1
          have d0 : decide (0 ≤ cid) = true := decide_eq_true h0
          have hv := Lib.hid (show wellB 1 cr cid cn = false by rw [wellB, hm]; simp <;> omega)
          clear hm
          go_enter Try.func80, Try.ntmps80
          go_wp2_with fail
          refine H.out.mono ?_
          rintro e w2 ⟨rfl, hb⟩
          have HB := Lib.hid hb
          clear hb
          obtain ⟨q0, q1, q2, q3, q4, q5, q6⟩ := box_at HB.out
          go_wp2
          go_ret
          exact ⟨by rw [hv.out]; rfl, below_one HB.out⟩
      · have d0 : decide (0 ≤ cid) = false := decide_eq_false h0
        have hv := Lib.hid (show wellB 1 cr cid cn = false by rw [wellB, hm]; simp <;> omega)
        clear hm
        go_enter Try.func80, Try.ntmps80
        go_wp2_with fail
        refine H.out.mono ?_
        rintro e w2 ⟨rfl, hb⟩
        have HB := Lib.hid hb
        clear hb
        obtain ⟨q0, q1, q2, q3, q4, q5, q6⟩ := box_at HB.out
        go_wp2
        go_ret
        exact ⟨by rw [hv.out]; rfl, below_one HB.out⟩
    by_cases k2 : ck = 2
    · subst k2
      by_cases h0 : cid = 0
      · subst h0
        by_cases h1 : 2 ≤ cn
        · have d1 : decide (2 ≤ (cn : Int)) = true := decide_eq_true (by omega)
          have d2 : decide (2 ≤ cn) = true := decide_eq_true h1
          have hv := Lib.hid (show wellB 2 cr 0 cn = true by rw [wellB, hm]; simp <;> omega)
          clear hm
          go_enter Try.func80, Try.ntmps80
          go_wp2_with fail
          refine H.out.mono ?_
          rintro e w2 ⟨rfl, hb⟩
          have HB := Lib.hid hb
          clear hb
          obtain ⟨q0, q1, q2, q3, q4, q5, q6⟩ := box_at HB.out
          go_wp2
          go_ret
          exact ⟨by rw [hv.out]; rfl, below_one HB.out⟩
        · have d1 : decide (2 ≤ (cn : Int)) = false := decide_eq_false (by omega)
          have d2 : decide (2 ≤ cn) = false := decide_eq_false h1
          have hv := Lib.hid (show wellB 2 cr 0 cn = false by rw [wellB, hm]; simp <;> omega)
          clear hm
          go_enter Try.func80, Try.ntmps80
          go_wp2_with fail
          refine H.out.mono ?_
          rintro e w2 ⟨rfl, hb⟩
          have HB := Lib.hid hb
          clear hb
          obtain ⟨q0, q1, q2, q3, q4, q5, q6⟩ := box_at HB.out
          go_wp2
          go_ret
          exact ⟨by rw [hv.out]; rfl, below_one HB.out⟩
      · have d0 : (cid == 0) = false := by rw [beq_eq_false_iff_ne]; omega
        have hv := Lib.hid (show wellB 2 cr cid cn = false by rw [wellB, hm]; simp <;> omega)
        clear hm
        go_enter Try.func80, Try.ntmps80
        go_wp2_with fail
        refine H.out.mono ?_
        rintro e w2 ⟨rfl, hb⟩
        have HB := Lib.hid hb
        clear hb
        obtain ⟨q0, q1, q2, q3, q4, q5, q6⟩ := box_at HB.out
        go_wp2
        go_ret
        exact ⟨by rw [hv.out]; rfl, below_one HB.out⟩
    by_cases k3 : ck = 3
    · subst k3
      by_cases h0 : cid = 0
      · subst h0
        by_cases h1 : 2 ≤ cn
        · have d1 : decide (2 ≤ (cn : Int)) = true := decide_eq_true (by omega)
          have d2 : decide (2 ≤ cn) = true := decide_eq_true h1
          have hv := Lib.hid (show wellB 3 cr 0 cn = true by rw [wellB, hm]; simp <;> omega)
          clear hm
          go_enter Try.func80, Try.ntmps80
          go_wp2_with fail
          refine H.out.mono ?_
          rintro e w2 ⟨rfl, hb⟩
          have HB := Lib.hid hb
          clear hb
          obtain ⟨q0, q1, q2, q3, q4, q5, q6⟩ := box_at HB.out
          go_wp2
          go_ret
          exact ⟨by rw [hv.out]; rfl, below_one HB.out⟩
        · have d1 : decide (2 ≤ (cn : Int)) = false := decide_eq_false (by omega)
          have d2 : decide (2 ≤ cn) = false := decide_eq_false h1
          have hv := Lib.hid (show wellB 3 cr 0 cn = false by rw [wellB, hm]; simp <;> omega)
          clear hm
          go_enter Try.func80, Try.ntmps80
          go_wp2_with fail
          refine H.out.mono ?_
          rintro e w2 ⟨rfl, hb⟩
          have HB := Lib.hid hb
          clear hb
          obtain ⟨q0, q1, q2, q3, q4, q5, q6⟩ := box_at HB.out
          go_wp2
          go_ret
          exact ⟨by rw [hv.out]; rfl, below_one HB.out⟩
      · have d0 : (cid == 0) = false := by rw [beq_eq_false_iff_ne]; omega
        have hv := Lib.hid (show wellB 3 cr cid cn = false by rw [wellB, hm]; simp <;> omega)
        clear hm
        go_enter Try.func80, Try.ntmps80
        go_wp2_with fail
        refine H.out.mono ?_
        rintro e w2 ⟨rfl, hb⟩
        have HB := Lib.hid hb
        clear hb
        obtain ⟨q0, q1, q2, q3, q4, q5, q6⟩ := box_at HB.out
        go_wp2
        go_ret
        exact ⟨by rw [hv.out]; rfl, below_one HB.out⟩
    have e1 : (ck == 1) = false := by rw [beq_eq_false_iff_ne]; omega
    have e2 : (ck == 2) = false := by rw [beq_eq_false_iff_ne]; omega
    have e3 : (ck == 3) = false := by rw [beq_eq_false_iff_ne]; omega
    have hv := Lib.hid (show wellB ck cr cid cn = false by rw [wellB, hm]; simp <;> omega)
    clear hm
    go_enter Try.func80, Try.ntmps80
    go_wp2_with fail
    refine H.out.mono ?_
    rintro e w2 ⟨rfl, hb⟩
    have HB := Lib.hid hb
    clear hb
    obtain ⟨q0, q1, q2, q3, q4, q5, q6⟩ := box_at HB.out
    go_wp2
    go_ret
    exact ⟨by rw [hv.out]; rfl, below_one HB.out⟩
end Go.Proofs.Ytakofjbjciljjaa
/- Are two rows of numbers the same? And a leaf. -/
namespace Go.Proofs.Ytakofjbjciljjaa
open Go.RowKit

theorem int_at {w : World} {a : Option Addr} {cap n : Nat} {p : List Int} (h : Row w (.slice a n cap) (ints p)) (hp : 0 < p.length) : ∃ b o, a = some ⟨b, o, none⟩ ∧ ∀ (j : Nat) (m : Int), p[j]? = some m → w.cell? ⟨b, o + j, none⟩ = some (.int .i64 m) := by
  obtain ⟨a', cap', he, h0, hc⟩ := h
  cases he
  obtain ⟨b, o, h1, h2⟩ := row_at h0 hc (by rw [ints_length]; exact hp)
  exact ⟨b, o, h1, fun j m hm => h2 j _ (by simp [ints, hm])⟩
theorem row_shape {w : World} {v : Value} {p : List Int} (h : Row w v (ints p)) : ∃ a cap, v = .slice a p.length cap := by
  obtain ⟨a, cap, he, -⟩ := h
  exact ⟨a, cap, by rw [he, ints_length]⟩

def eqI (p q : List Int) : Bool := decide (p = q)
theorem eqI_len {p q : List Int} (h : p.length ≠ q.length) : eqI p q = false := by
  unfold eqI; rw [decide_eq_false]; exact fun e => h (congrArg _ e)
theorem eqI_no {p q : List Int} {k : Nat} {a b : Int} (ha : p[k]? = some a) (hb : q[k]? = some b) (h : a ≠ b) : eqI p q = false := by
  unfold eqI; rw [decide_eq_false]; intro e; subst e; rw [ha] at hb; cases hb; exact h rfl
theorem eqI_yes {p q : List Int} (hl : p.length = q.length) (h : ∀ (k : Nat) (a b : Int), p[k]? = some a → q[k]? = some b → a = b) : eqI p q = true := by
  unfold eqI
  rw [decide_eq_true]
  refine List.ext_getElem? fun k => ?_
  rcases Nat.lt_or_ge k p.length with hk | hk
  · have h1 := List.getElem?_eq_getElem hk
    have h2 := List.getElem?_eq_getElem (show k < q.length by omega)
    rw [h1, h2, h k _ _ h1 h2]
  · rw [List.getElem?_eq_none hk, List.getElem?_eq_none (by omega)]

set_option maxRecDepth 100000 in
theorem ints_any (v1 v2 : Value) (p q : List Int) (w : World) (h1 : Row w v1 (ints p)) (h2 : Row w v2 (ints q)) (hl : p.length ≤ 1000000) :
    Calls Try.prog 21 #[v1, v2] w fun e w' => e = .returned (.bool (eqI p q)) ∧ Below w.heap.size w w' := by
  obtain ⟨a1, cap1, rfl⟩ := row_shape h1
  obtain ⟨a2, cap2, rfl⟩ := row_shape h2
  have H1 := Lib.hid h1
  have H2 := Lib.hid h2
  clear h1 h2
  by_cases hlen : p.length = q.length
  · have d0 : ((p.length : Int) != (q.length : Int)) = false := by simp; omega
    have HLEN := Lib.hid hlen
    rw [← hlen] at H2
    rw [← hlen] at d0
    rw [← hlen]
    clear hlen
    go_enter Try.func21, Try.ntmps21
    go_wp2
    go_loopg [13] (p.length + 1) (fun g i wr => ∃ k : Nat, g + k = p.length + 1 ∧ k ≤ p.length ∧ i = .int .i64 k ∧ (∀ (j : Nat) (a b : Int), j < k → p[j]? = some a → q[j]? = some b → a = b) ∧ Below w.heap.size w wr)
    case atStart => exact ⟨0, by omega, by omega, rfl, fun j t u hj => by omega, Below.refl _ _⟩
    case round =>
      obtain ⟨k, hg, hk, rfl, hsame, hb⟩ := hrel
      have HG := Lib.hid hg
      have HSM := Lib.hid hsame
      have HB := Lib.hid hb
      clear hg hsame hb
      by_cases hlt : k < p.length
      · obtain ⟨a, ha⟩ : ∃ a, p[k]? = some a := ⟨_, List.getElem?_eq_getElem hlt⟩
        obtain ⟨b, hb⟩ : ∃ b, q[k]? = some b := ⟨_, List.getElem?_eq_getElem (by have := HLEN.out; omega)⟩
        obtain ⟨b1, o1, rfl, hf1⟩ := int_at H1.out (by omega)
        obtain ⟨b2, o2, rfl, hf2⟩ := int_at H2.out (by have := HLEN.out; omega)
        have c0 := (HB.out.cell (lt_of_cell (hf1 k a ha))).trans (hf1 k a ha)
        have e0 := (HB.out.cell (lt_of_cell (hf2 k b hb))).trans (hf2 k b hb)
        clear hf1 hf2
        have HT := Lib.hid ha
        have HU := Lib.hid hb
        clear ha hb
        by_cases hab : a = b
        · subst hab
          have d1 : (a != a) = false := by simp
          go_wp2
          go_quiet (fail)
          go_wp2
          go_roundg (gk - 1)
          case measure => have := HG.out; omega
          case rel =>
            refine ⟨k + 1, by have := HG.out; omega, by omega, by go_num, fun j x y hj hx hy => ?_, ⟨HB.out.os, HB.out.tape, HB.out.output, HB.out.size, HB.out.block⟩⟩
            rcases Nat.lt_or_ge j k with h | h
            · exact HSM.out j x y h hx hy
            · obtain rfl : j = k := by omega
              rw [HT.out] at hx; rw [HU.out] at hy
              cases hx; cases hy; rfl
        · have d1 : (a != b) = true := by simpa using hab
          have d2 : (a == b) = false := by simpa using hab
          have HST := Lib.hid (eqI_no HT.out HU.out hab)
          go_wp2
          go_quiet (fail)
          go_wp2
          go_ret
          exact ⟨by rw [HST.out]; rfl, ⟨HB.out.os, HB.out.tape, HB.out.output, HB.out.size, HB.out.block⟩⟩
      · obtain rfl : k = p.length := by omega
        have hkl : ((p.length : Int) < (p.length : Int)) = False := by simp
        have HST := Lib.hid (eqI_yes HLEN.out (fun k a b ha hb => HSM.out k a b (by
          rcases Nat.lt_or_ge k p.length with h | h
          · exact h
          · rw [List.getElem?_eq_none h] at ha; cases ha) ha hb))
        go_wp2
        go_ret
        exact ⟨by rw [HST.out]; rfl, HB.out⟩
  · have d0 : ((p.length : Int) != (q.length : Int)) = true := by simp; omega
    have d1 : (p.length == q.length) = false := by simpa using hlen
    have HV := Lib.hid (eqI_len hlen)
    go_enter Try.func21, Try.ntmps21
    go_wp2
    go_ret
    exact ⟨by rw [HV.out]; rfl, Below.refl _ _⟩

/-- A leaf, as it lies. -/
abbrev leafC (r : R) (id : Int) : C := ⟨1, r, id, none, 0, 0⟩
theorem leaf_is (r : R) (id : Int) (w : World) (hr : r.fits) (hi : fits id) : Is w (leafC r id) (.node 1 r id []) :=
  .mk (leafC r id) [] [] (.inl ⟨_, _, rfl, rfl⟩) rfl ⟨⟨by simp, by simp⟩, hr, hi, by simp⟩ (fun j x t hx => by simp at hx)
end Go.Proofs.Ytakofjbjciljjaa
