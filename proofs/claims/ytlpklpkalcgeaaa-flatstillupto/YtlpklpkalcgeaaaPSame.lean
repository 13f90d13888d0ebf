/- Are two rows of panes the same? The document's walk. -/
import Derived.Test.YtlpklpkalcgeaaaPEq
namespace Go.Proofs.Ytlpklpkalcgeaaa
open Go.RowKit

def eqPs (p q : List Pn) : Bool := decide (p = q)
theorem eqPs_self (p : List Pn) : eqPs p p = true := by simp [eqPs]
theorem eqPs_len {p q : List Pn} (h : p.length ≠ q.length) : eqPs p q = false := by
  unfold eqPs; rw [decide_eq_false]; exact fun e => h (congrArg _ e)
theorem eqPs_no {p q : List Pn} {k : Nat} {a b : Pn} (ha : p[k]? = some a) (hb : q[k]? = some b) (h : a ≠ b) : eqPs p q = false := by
  unfold eqPs; rw [decide_eq_false]; intro e; subst e; rw [ha] at hb; cases hb; exact h rfl
theorem eqPs_yes {p q : List Pn} (hl : p.length = q.length) (h : ∀ (k : Nat) (a b : Pn), p[k]? = some a → q[k]? = some b → a = b) : eqPs p q = true := by
  unfold eqPs
  rw [decide_eq_true]
  refine List.ext_getElem? fun k => ?_
  rcases Nat.lt_or_ge k p.length with hk | hk
  · have h1 := List.getElem?_eq_getElem hk
    have h2 := List.getElem?_eq_getElem (show k < q.length by omega)
    rw [h1, h2, h k _ _ h1 h2]
  · rw [List.getElem?_eq_none hk, List.getElem?_eq_none (by omega)]

set_option maxRecDepth 100000 in
theorem rsameP_any (v1 v2 : Value) (p q : List Pn) (w : World) (h1 : PRow w v1 p) (h2 : PRow w v2 q) (hl : p.length ≤ 1000000) :
    Calls Try.prog 13 #[v1, v2] w fun e w' => e = .returned (.bool (eqPs p q)) ∧ Below w.heap.size w w' := by
  obtain ⟨a1, cap1, rfl⟩ := h1.shape
  obtain ⟨a2, cap2, rfl⟩ := h2.shape
  have H1 := Lib.hid h1
  have H2 := Lib.hid h2
  clear h1 h2
  have hgd := eqg_pane
  by_cases hlen : p.length = q.length
  · have d0 : ((p.length : Int) != (q.length : Int)) = false := by simp; omega
    have HLEN := Lib.hid hlen
    rw [← hlen] at H2
    rw [← hlen] at d0
    rw [← hlen]
    clear hlen
    go_enter Try.func13, Try.ntmps13
    go_wp2
    go_loopg [13] (p.length + 1) (fun g i wr => ∃ k : Nat, g + k = p.length + 1 ∧ k ≤ p.length ∧ i = .int .i64 k ∧ (∀ (j : Nat) (a b : Pn), j < k → p[j]? = some a → q[j]? = some b → a = b) ∧ Below w.heap.size w wr)
    case atStart => exact ⟨0, by omega, by omega, rfl, fun j t u hj => by omega, Below.refl _ _⟩
    case round =>
      obtain ⟨k, hg, hk, rfl, hsame, hb⟩ := hrel
      have HG := Lib.hid hg
      have HSM := Lib.hid hsame
      have HB := Lib.hid hb
      clear hg hsame hb
      by_cases hlt : k < p.length
      · obtain ⟨a, ha⟩ : ∃ a, p[k]? = some a := ⟨_, List.getElem?_eq_getElem hlt⟩
        obtain ⟨b, hb⟩ : ∃ b, q[k]? = some b := ⟨_, List.getElem?_eq_getElem (by have := HLEN.out; omega)⟩
        obtain ⟨b1, o1, rfl, hf1⟩ := H1.out.place (by omega)
        obtain ⟨b2, o2, rfl, hf2⟩ := H2.out.place (by have := HLEN.out; omega)
        obtain ⟨c0, c1, c2, c3, c4⟩ := (hf1 k a ha).up HB.out
        obtain ⟨e0, e1, e2, e3, e4⟩ := (hf2 k b hb).up HB.out
        clear hf1 hf2
        have HT := Lib.hid ha
        have HU := Lib.hid hb
        clear ha hb
        have hE : ∀ w, (Op.equalIn 10000 32 (.agg #[.int .i64 a.id, .int .i64 a.r.x, .int .i64 a.r.y, .int .i64 a.r.w, .int .i64 a.r.h]) (.agg #[.int .i64 b.id, .int .i64 b.r.x, .int .i64 b.r.y, .int .i64 b.r.w, .int .i64 b.r.h])).run Try.prog w = .ok (eqPn a b) w := eq_pane a b
        by_cases hab : a = b
        · have hq : eqPn a b = true := by simpa [eqPn] using hab
          rw [hq] at hE
          have HAB := Lib.hid hab
          clear hab hq
          go_wp2
          go_quiet (fail)
          go_wp2
          go_roundg (gk - 1)
          case measure => have := HG.out; omega
          case rel =>
            refine ⟨k + 1, by have := HG.out; omega, by omega, by go_num, fun j x y hj hx hy => ?_, ⟨HB.out.os, HB.out.tape, HB.out.output, HB.out.size, HB.out.block⟩⟩
            rcases Nat.lt_or_ge j k with h | h
            · exact HSM.out j x y h hx hy
            · obtain rfl : j = k := by omega
              rw [HT.out] at hx; rw [HU.out] at hy
              cases hx; cases hy; exact HAB.out
        · have hq : eqPn a b = false := by simpa [eqPn] using hab
          rw [hq] at hE
          have HST := Lib.hid (eqPs_no HT.out HU.out hab)
          clear hab hq
          go_wp2
          go_quiet (fail)
          go_wp2
          go_ret
          exact ⟨by rw [HST.out]; rfl, ⟨HB.out.os, HB.out.tape, HB.out.output, HB.out.size, HB.out.block⟩⟩
      · obtain rfl : k = p.length := by omega
        have hkl : ((p.length : Int) < (p.length : Int)) = False := by simp
        have HST := Lib.hid (eqPs_yes HLEN.out (fun k a b ha hb => HSM.out k a b (by
          rcases Nat.lt_or_ge k p.length with h | h
          · exact h
          · rw [List.getElem?_eq_none h] at ha; cases ha) ha hb))
        go_wp2
        go_ret
        exact ⟨by rw [HST.out]; rfl, HB.out⟩
  · have d0 : ((p.length : Int) != (q.length : Int)) = true := by simp; omega
    have d1 : (p.length == q.length) = false := by simpa using hlen
    have HV := Lib.hid (eqPs_len hlen)
    go_enter Try.func13, Try.ntmps13
    go_wp2
    go_ret
    exact ⟨by rw [HV.out]; rfl, Below.refl _ _⟩
end Go.Proofs.Ytlpklpkalcgeaaa
