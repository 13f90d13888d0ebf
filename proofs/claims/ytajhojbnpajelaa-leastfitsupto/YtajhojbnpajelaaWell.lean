/- May a cell be, whatever the others are? -/
import Derived.Test.YtajhojbnpajelaaNoneIn
import Derived.OneCell
import Derived.Test.YtajhojbnpajelaaOne
namespace Go.Proofs.Ytajhojbnpajelaa
open Go.RowKit

theorem wrap_more (n : Nat) : wrap64 (wrap64 (n : Int) + 1) = wrap64 ((n + 1 : Nat) : Int) := by unfold wrap64; omega
theorem wrap_small {n : Nat} (h : n ≤ 1099511627776) : wrap64 (n : Int) = n := by unfold wrap64; omega

/-- A box of one cell. -/
abbrev Box1 (w : World) (b : Nat) (v : Value) (t : TypeId) : Prop := w.heap[b]? = some (.cells #[v] t (0, 0))
theorem Box1.up {w w' : World} {b : Nat} {v : Value} {t : TypeId} (h : Box1 w b v t) (hb : Below w.heap.size w w') : Box1 w' b v t := (hb.block b (lt_of_block h)).trans h
theorem Box1.new (w : World) (v : Value) (t : TypeId) : Box1 (w.alloc (.cells #[v] t)) w.heap.size v t := by
  show (w.heap.push _)[w.heap.size]? = _
  simp


theorem fr_set {σ : Type} {own : σ → Option Obj → Nat → Prop} {s s1 s2 : σ} {W w1 : World} (h : Fr own s W s1 w1) (b : Nat) (v : Value) (hb : ∀ o, own s o b) (hs : ∀ k, own s2 (w1.setCell ⟨b, 0, none⟩ v).heap[k]? k → own s W.heap[k]? k ∨ W.heap.size ≤ k) : Fr own s W s2 (w1.setCell ⟨b, 0, none⟩ v) :=
  ⟨h.os, h.tape, h.output, by simpa [World.setCell] using h.size, fun k hk hn => (Below.heap_setCell w1 ⟨b, 0, none⟩ v k (fun e => hn (by subst e; exact hb _))).trans (h.block k hk hn), hs⟩


def wellB (k : Int) (r : R) (id : Int) (n : Nat) : Bool := mayB r && ((decide (k = 1) && (decide (0 ≤ id ∧ id ≤ 2147483647) && decide (n = 0))) || ((decide (k = 2) || decide (k = 3)) && (decide (id = 0) && decide (2 ≤ n))))
def wellC (c : C) : Bool := wellB c.k c.r c.id c.n
def wellT (t : T) : Bool := wellB t.k t.r t.id t.kids.length
theorem well_is {w : World} {c : C} {t : T} (h : Is w c t) : wellC c = wellT t := by
  obtain ⟨h1, h2, h3, -, cs, -, -, h4, -⟩ := h.split
  rw [wellC, wellT, h1, h2, h3, h4]

set_option maxRecDepth 100000 in
theorem well_any (c : C) (w : World) (hf : c.fine) : Calls Try.prog 45 #[cval c] w fun e w' => e = .returned (.bool (wellC c)) ∧ Below w.heap.size w w' := by
  obtain ⟨ck, cr, cid, ca, cn, ccap⟩ := c
  have HA : Hid (Below w.heap.size w (w.alloc (cbox ⟨ck, cr, cid, ca, cn, ccap⟩))) := (Below.refl _ _).alloc (Nat.le_refl _) _
  have H := Lib.hid (may_one cr (w.alloc (cbox ⟨ck, cr, cid, ca, cn, ccap⟩)) hf.2.1 (w.heap.size + 1) (by simp))
  have hk := hf.1
  have hn := hf.2.2.2
  simp only at hk hn
  clear hf
  show Calls Try.prog 45 _ w fun e w' => e = .returned (.bool (wellB ck cr cid cn)) ∧ Below w.heap.size w w'
  cases hm : mayB cr with
  | false =>
    rw [hm] at H
    have hv := Lib.hid (show wellB ck cr cid cn = false by rw [wellB, hm]; rfl)
    clear hm
    go_enter Try.func45, Try.ntmps45
    go_wp2_with fail
    refine H.out.mono ?_
    rintro e w2 ⟨rfl, hb⟩
    have HB := Lib.hid hb
    clear hb
    go_wp2
    go_ret
    exact ⟨by rw [hv.out]; rfl, below_one HB.out⟩
  | true =>
    rw [hm] at H
    by_cases k1 : ck = 1
    · subst k1
      by_cases h0 : 0 ≤ cid
      · by_cases h1 : cid ≤ 2147483647
        · by_cases h2 : cn = 0
          · subst h2
            have d0 : decide (0 ≤ cid) = true := decide_eq_true h0
            have d1 : decide (cid ≤ 2147483647) = true := decide_eq_true h1
            have hv := Lib.hid (show wellB 1 cr cid 0 = true by rw [wellB, hm]; simp <;> omega)
            clear hm
            go_enter Try.func45, Try.ntmps45
            go_wp2_with fail
            refine H.out.mono ?_
            rintro e w2 ⟨rfl, hb⟩
            have HB := Lib.hid hb
            clear hb
            obtain ⟨q0, q1, q2, q3, q4, q5, q6⟩ := box_at HB.out
            go_wp2
            go_ret
            exact ⟨by rw [hv.out]; rfl, below_one HB.out⟩
          · have d2 : ((cn : Int) == 0) = false := by rw [beq_eq_false_iff_ne]; omega
            have d0 : decide (0 ≤ cid) = true := decide_eq_true h0
            have d1 : decide (cid ≤ 2147483647) = true := decide_eq_true h1
            have hv := Lib.hid (show wellB 1 cr cid cn = false by rw [wellB, hm]; simp <;> omega)
            clear hm
            go_enter Try.func45, Try.ntmps45
            go_wp2_with fail
            refine H.out.mono ?_
            rintro e w2 ⟨rfl, hb⟩
            have HB := Lib.hid hb
            clear hb
            obtain ⟨q0, q1, q2, q3, q4, q5, q6⟩ := box_at HB.out
            go_wp2
            go_ret
            exact ⟨by rw [hv.out]; rfl, below_one HB.out⟩
        · have d1 : decide (cid ≤ 2147483647) = false := decide_eq_false h1
          have d0 : decide (0 ≤ cid) = true := decide_eq_true h0
          have hv := Lib.hid (show wellB 1 cr cid cn = false by rw [wellB, hm]; simp <;> omega)
          clear hm
          go_enter Try.func45, Try.ntmps45
          go_wp2_with fail
          refine H.out.mono ?_
          rintro e w2 ⟨rfl, hb⟩
          have HB := Lib.hid hb
          clear hb
          obtain ⟨q0, q1, q2, q3, q4, q5, q6⟩ := box_at HB.out
          go_wp2
          go_ret
          exact ⟨by rw [hv.out]; rfl, below_one HB.out⟩
      · have d0 : decide (0 ≤ cid) = false := decide_eq_false h0
        have hv := Lib.hid (show wellB 1 cr cid cn = false by rw [wellB, hm]; simp <;> omega)
        clear hm
        go_enter Try.func45, Try.ntmps45
        go_wp2_with fail
        refine H.out.mono ?_
        rintro e w2 ⟨rfl, hb⟩
        have HB := Lib.hid hb
        clear hb
        obtain ⟨q0, q1, q2, q3, q4, q5, q6⟩ := box_at HB.out
        go_wp2
        go_ret
        exact ⟨by rw [hv.out]; rfl, below_one HB.out⟩
    by_cases k2 : ck = 2
    · subst k2
      by_cases h0 : cid = 0
      · subst h0
        by_cases h1 : 2 ≤ cn
        · have d1 : decide (2 ≤ (cn : Int)) = true := decide_eq_true (by omega)
          have d2 : decide (2 ≤ cn) = true := decide_eq_true h1
          have hv := Lib.hid (show wellB 2 cr 0 cn = true by rw [wellB, hm]; simp <;> omega)
          clear hm
          go_enter Try.func45, Try.ntmps45
          go_wp2_with fail
          refine H.out.mono ?_
          rintro e w2 ⟨rfl, hb⟩
          have HB := Lib.hid hb
          clear hb
          obtain ⟨q0, q1, q2, q3, q4, q5, q6⟩ := box_at HB.out
          go_wp2
          go_ret
          exact ⟨by rw [hv.out]; rfl, below_one HB.out⟩
        · have d1 : decide (2 ≤ (cn : Int)) = false := decide_eq_false (by omega)
          have d2 : decide (2 ≤ cn) = false := decide_eq_false h1
          have hv := Lib.hid (show wellB 2 cr 0 cn = false by rw [wellB, hm]; simp <;> omega)
          clear hm
          go_enter Try.func45, Try.ntmps45
          go_wp2_with fail
          refine H.out.mono ?_
          rintro e w2 ⟨rfl, hb⟩
          have HB := Lib.hid hb
          clear hb
          obtain ⟨q0, q1, q2, q3, q4, q5, q6⟩ := box_at HB.out
          go_wp2
          go_ret
          exact ⟨by rw [hv.out]; rfl, below_one HB.out⟩
      · have d0 : (cid == 0) = false := by rw [beq_eq_false_iff_ne]; omega
        have hv := Lib.hid (show wellB 2 cr cid cn = false by rw [wellB, hm]; simp <;> omega)
        clear hm
        go_enter Try.func45, Try.ntmps45
        go_wp2_with fail
        refine H.out.mono ?_
        rintro e w2 ⟨rfl, hb⟩
        have HB := Lib.hid hb
        clear hb
        obtain ⟨q0, q1, q2, q3, q4, q5, q6⟩ := box_at HB.out
        go_wp2
        go_ret
        exact ⟨by rw [hv.out]; rfl, below_one HB.out⟩
    by_cases k3 : ck = 3
    · subst k3
      by_cases h0 : cid = 0
      · subst h0
        by_cases h1 : 2 ≤ cn
        · have d1 : decide (2 ≤ (cn : Int)) = true := decide_eq_true (by omega)
          have d2 : decide (2 ≤ cn) = true := decide_eq_true h1
          have hv := Lib.hid (show wellB 3 cr 0 cn = true by rw [wellB, hm]; simp <;> omega)
          clear hm
          go_enter Try.func45, Try.ntmps45
          go_wp2_with fail
          refine H.out.mono ?_
          rintro e w2 ⟨rfl, hb⟩
          have HB := Lib.hid hb
          clear hb
          obtain ⟨q0, q1, q2, q3, q4, q5, q6⟩ := box_at HB.out
          go_wp2
          go_ret
          exact ⟨by rw [hv.out]; rfl, below_one HB.out⟩
        · have d1 : decide (2 ≤ (cn : Int)) = false := decide_eq_false (by omega)
          have d2 : decide (2 ≤ cn) = false := decide_eq_false h1
          have hv := Lib.hid (show wellB 3 cr 0 cn = false by rw [wellB, hm]; simp <;> omega)
          clear hm
          go_enter Try.func45, Try.ntmps45
          go_wp2_with fail
          refine H.out.mono ?_
          rintro e w2 ⟨rfl, hb⟩
          have HB := Lib.hid hb
          clear hb
          obtain ⟨q0, q1, q2, q3, q4, q5, q6⟩ := box_at HB.out
          go_wp2
          go_ret
          exact ⟨by rw [hv.out]; rfl, below_one HB.out⟩
      · have d0 : (cid == 0) = false := by rw [beq_eq_false_iff_ne]; omega
        have hv := Lib.hid (show wellB 3 cr cid cn = false by rw [wellB, hm]; simp <;> omega)
        clear hm
        go_enter Try.func45, Try.ntmps45
        go_wp2_with fail
        refine H.out.mono ?_
        rintro e w2 ⟨rfl, hb⟩
        have HB := Lib.hid hb
        clear hb
        obtain ⟨q0, q1, q2, q3, q4, q5, q6⟩ := box_at HB.out
        go_wp2
        go_ret
        exact ⟨by rw [hv.out]; rfl, below_one HB.out⟩
    have e1 : (ck == 1) = false := by rw [beq_eq_false_iff_ne]; omega
    have e2 : (ck == 2) = false := by rw [beq_eq_false_iff_ne]; omega
    have e3 : (ck == 3) = false := by rw [beq_eq_false_iff_ne]; omega
    have hv := Lib.hid (show wellB ck cr cid cn = false by rw [wellB, hm]; simp <;> omega)
    clear hm
    go_enter Try.func45, Try.ntmps45
    go_wp2_with fail
    refine H.out.mono ?_
    rintro e w2 ⟨rfl, hb⟩
    have HB := Lib.hid hb
    clear hb
    obtain ⟨q0, q1, q2, q3, q4, q5, q6⟩ := box_at HB.out
    go_wp2
    go_ret
    exact ⟨by rw [hv.out]; rfl, below_one HB.out⟩
end Go.Proofs.Ytajhojbnpajelaa
