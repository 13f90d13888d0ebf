/- Texts of this seat, 3 in one file. -/
import Derived.Test.YtodcabaihhmhnaaG14
import Derived.Test.YtodcabaihhmhnaaG04
import Derived.OneCell
import Derived.Test.YtodcabaihhmhnaaG10
import Derived.Maps.OwnOps
import Derived.Maps.Views
/- How many cells trees have, together. -/
namespace Go.Proofs.Ytodcabaihhmhnaa
open Go.RowKit

theorem wrap_more (n : Nat) : wrap64 (wrap64 (n : Int) + 1) = wrap64 ((n + 1 : Nat) : Int) := by unfold wrap64; omega
theorem wrap_small {n : Nat} (h : n ≤ 1099511627776) : wrap64 (n : Int) = n := by unfold wrap64; omega

/-- A box of one cell. -/
abbrev Box1 (w : World) (b : Nat) (v : Value) (t : TypeId) : Prop := w.heap[b]? = some (.cells #[v] t (0, 0))
theorem Box1.up {w w' : World} {b : Nat} {v : Value} {t : TypeId} (h : Box1 w b v t) (hb : Below w.heap.size w w') : Box1 w' b v t := (hb.block b (lt_of_block h)).trans h
theorem Box1.new (w : World) (v : Value) (t : TypeId) : Box1 (w.alloc (.cells #[v] t)) w.heap.size v t := by
  show (w.heap.push _)[w.heap.size]? = _
  simp

def sizeI (w0 : World) (s : Nat) (W : World) : Prop := Below w0.heap.size w0 W ∧ Box1 W w0.heap.size (.int .i64 (wrap64 (s : Int))) 3
theorem sizeM (w0 : World) : Mach w0 (fun (_ : Nat) _ k => k = w0.heap.size) (sizeI w0) :=
  ⟨fun _ W _ _ h _ hk => by have := lt_of_block h.2; have hk' : W.heap.size = w0.heap.size := hk; omega, fun _ _ h => h.1, fun _ _ _ h hb => ⟨h.1.trans (hb.mono h.1.size), h.2.up hb⟩⟩

theorem fr_set {σ : Type} {own : σ → Option Obj → Nat → Prop} {s s1 s2 : σ} {W w1 : World} (h : Fr own s W s1 w1) (b : Nat) (v : Value) (hb : ∀ o, own s o b) (hs : ∀ k, own s2 (w1.setCell ⟨b, 0, none⟩ v).heap[k]? k → own s W.heap[k]? k ∨ W.heap.size ≤ k) : Fr own s W s2 (w1.setCell ⟨b, 0, none⟩ v) :=
  ⟨h.os, h.tape, h.output, by simpa [World.setCell] using h.size, fun k hk hn => (Below.heap_setCell w1 ⟨b, 0, none⟩ v k (fun e => hn (by subst e; exact hb _))).trans (h.block k hk hn), hs⟩

mutual
theorem doT_size (s : Nat) : ∀ t, doT (fun s (_ : T) => s + 1) s t = s + sz t
  | .node k r i l => by rw [doT, doL_size (s + 1) l, sz]; omega
theorem doL_size (s : Nat) : ∀ l, doL (fun s (_ : T) => s + 1) s l = s + szL l
  | [] => by rw [doL, szL]; rfl
  | t :: l => by rw [doL, doT_size s t, doL_size (s + sz t) l, szL]; omega
end

end Go.Proofs.Ytodcabaihhmhnaa
/- May a cell be, whatever the others are? -/
namespace Go.Proofs.Ytodcabaihhmhnaa
open Go.RowKit

def wellB (k : Int) (r : R) (id : Int) (n : Nat) : Bool := mayB r && ((decide (k = 1) && (decide (0 ≤ id ∧ id ≤ 2147483647) && decide (n = 0))) || ((decide (k = 2) || decide (k = 3)) && (decide (id = 0) && decide (2 ≤ n))))
def wellC (c : C) : Bool := wellB c.k c.r c.id c.n
def wellT (t : T) : Bool := wellB t.k t.r t.id t.kids.length
theorem well_is {w : World} {c : C} {t : T} (h : Is w c t) : wellC c = wellT t := by
  obtain ⟨h1, h2, h3, -, cs, -, -, h4, -⟩ := h.split
  rw [wellC, wellT, h1, h2, h3, h4]

set_option maxRecDepth 100000 in
theorem well_any (c : C) (w : World) (hf : c.fine) : Calls Try.prog 82 #[cval c] w fun e w' => e = .returned (.bool (wellC c)) ∧ Below w.heap.size w w' := by
  obtain ⟨ck, cr, cid, ca, cn, ccap⟩ := c
  have HA : Hid (Below w.heap.size w (w.alloc (cbox ⟨ck, cr, cid, ca, cn, ccap⟩))) := (Below.refl _ _).alloc (Nat.le_refl _) _
  have H := Lib.hid (may_one cr (w.alloc (cbox ⟨ck, cr, cid, ca, cn, ccap⟩)) hf.2.1 (w.heap.size + 1) (by simp))
  have hk := hf.1
  have hn := hf.2.2.2
  simp only at hk hn
  clear hf
  show Calls Try.prog 82 _ w fun e w' => e = .returned (.bool (wellB ck cr cid cn)) ∧ Below w.heap.size w w'
  cases hm : mayB cr with
  | false =>
    rw [hm] at H
    have hv := Lib.hid (show wellB ck cr cid cn = false by rw [wellB, hm]; rfl)
    clear hm
    go_enter Try.func82, Try.ntmps82
    go_wp2_with fail
    refine H.out.mono ?_
    rintro e w2 ⟨rfl, hb⟩
    have HB := Lib.hid hb
    clear hb
    go_wp2
    go_ret
    exact ⟨by rw [hv.out]; rfl, below_one HB.out⟩
  | true =>
    rw [hm] at H
    by_cases k1 : ck = 1
    · subst k1
      by_cases h0 : 0 ≤ cid
      · by_cases h1 : cid ≤ 2147483647
        · by_cases h2 : cn = 0
          · subst h2
            have d0 : decide (0 ≤ cid) = true := decide_eq_true h0
            have d1 : decide (cid ≤ 2147483647) = true := decide_eq_true h1
            have hv := Lib.hid (show wellB 1 cr cid 0 = true by rw [wellB, hm]; simp <;> omega)
            clear hm
            go_enter Try.func82, Try.ntmps82
            go_wp2_with fail
            refine H.out.mono ?_
            rintro e w2 ⟨rfl, hb⟩
            have HB := Lib.hid hb
            clear hb
            obtain ⟨q0, q1, q2, q3, q4, q5, q6⟩ := box_at HB.out
            go_wp2
            go_ret
            exact ⟨by rw [hv.out]; rfl, below_one HB.out⟩
          · have d2 : ((cn : Int) == 0) = false := by rw [beq_eq_false_iff_ne]; omega
            have d0 : decide (0 ≤ cid) = true := decide_eq_true h0
            have d1 : decide (cid ≤ 2147483647) = true := decide_eq_true h1
            have hv := Lib.hid (show wellB 1 cr cid cn = false by rw [wellB, hm]; simp <;> omega)
            clear hm
            go_enter Try.func82, Try.ntmps82
            go_wp2_with fail
            refine H.out.mono ?_
            rintro e w2 ⟨rfl, hb⟩
            have HB := Lib.hid hb
            clear hb
            obtain ⟨q0, q1, q2, q3, q4, q5, q6⟩ := box_at HB.out
            go_wp2
            go_ret
            exact ⟨by rw [hv.out]; rfl, below_one HB.out⟩
        · have d1 : decide (cid ≤ 2147483647) = false := decide_eq_false h1
          have d0 : decide (0 ≤ cid) = true := decide_eq_true h0
          have hv := Lib.hid (show wellB 1 cr cid cn = false by rw [wellB, hm]; simp <;> omega)
          clear hm
          go_enter Try.func82, Try.ntmps82
          go_wp2_with fail
          refine H.out.mono ?_
          rintro e w2 ⟨rfl, hb⟩
          have HB := Lib.hid hb
          clear hb
          obtain ⟨q0, q1, q2, q3, q4, q5, q6⟩ := box_at HB.out
          go_wp2
          go_ret
          exact ⟨by rw [hv.out]; rfl, below_one HB.out⟩
      · have d0 : decide (0 ≤ cid) = false := decide_eq_false h0
        have hv := Lib.hid (show wellB 1 cr cid cn = false by rw [wellB, hm]; simp <;> omega)
        clear hm
        go_enter Try.func82, Try.ntmps82
        go_wp2_with fail
        refine H.out.mono ?_
        rintro e w2 ⟨rfl, hb⟩
        have HB := Lib.hid hb
        clear hb
        obtain ⟨q0, q1, q2, q3, q4, q5, q6⟩ := box_at HB.out
        go_wp2
        go_ret
        exact ⟨by rw [hv.out]; rfl, below_one HB.out⟩
    by_cases k2 : ck = 2
    · subst k2
      by_cases h0 : cid = 0
      · subst h0
        by_cases h1 : 2 ≤ cn
        · have d1 : decide (2 ≤ (cn : Int)) = true := decide_eq_true (by omega)
          have d2 : decide (2 ≤ cn) = true := decide_eq_true h1
          have hv := Lib.hid (show wellB 2 cr 0 cn = true by rw [wellB, hm]; simp <;> omega)
          clear hm
          go_enter Try.func82, Try.ntmps82
          go_wp2_with fail
          refine H.out.mono ?_
          rintro e w2 ⟨rfl, hb⟩
          have HB := Lib.hid hb
          clear hb
          obtain ⟨q0, q1, q2, q3, q4, q5, q6⟩ := box_at HB.out
          go_wp2
          go_ret
          exact ⟨by rw [hv.out]; rfl, below_one HB.out⟩
        · have d1 : decide (2 ≤ (cn : Int)) = false := decide_eq_false (by omega)
          have d2 : decide (2 ≤ cn) = false := decide_eq_false h1
          have hv := Lib.hid (show wellB 2 cr 0 cn = false by rw [wellB, hm]; simp <;> omega)
          clear hm
          go_enter Try.func82, Try.ntmps82
          go_wp2_with fail
          refine H.out.mono ?_
          rintro e w2 ⟨rfl, hb⟩
          have HB := Lib.hid hb
          clear hb
          obtain ⟨q0, q1, q2, q3, q4, q5, q6⟩ := box_at HB.out
          go_wp2
          go_ret
          exact ⟨by rw [hv.out]; rfl, below_one HB.out⟩
      · have d0 : (cid == 0) = false := by rw [beq_eq_false_iff_ne]; omega
        have hv := Lib.hid (show wellB 2 cr cid cn = false by rw [wellB, hm]; simp <;> omega)
        clear hm
        go_enter Try.func82, Try.ntmps82
        go_wp2_with fail
        refine H.out.mono ?_
        rintro e w2 ⟨rfl, hb⟩
        have HB := Lib.hid hb
        clear hb
        obtain ⟨q0, q1, q2, q3, q4, q5, q6⟩ := box_at HB.out
        go_wp2
        go_ret
        exact ⟨by rw [hv.out]; rfl, below_one HB.out⟩
    by_cases k3 : ck = 3
    · subst k3
      by_cases h0 : cid = 0
      · subst h0
        by_cases h1 : 2 ≤ cn
        · have d1 : decide (2 ≤ (cn : Int)) = true := decide_eq_true (by omega)
          have d2 : decide (2 ≤ cn) = true := decide_eq_true h1
          have hv := Lib.hid (show wellB 3 cr 0 cn = true by rw [wellB, hm]; simp <;> omega)
          clear hm
          go_enter Try.func82, Try.ntmps82
          go_wp2_with fail
          refine H.out.mono ?_
          rintro e w2 ⟨rfl, hb⟩
          have HB := Lib.hid hb
          clear hb
          obtain ⟨q0, q1, q2, q3, q4, q5, q6⟩ := box_at HB.out
          go_wp2
          go_ret
          exact ⟨by rw [hv.out]; rfl, below_one HB.out⟩
        · have d1 : decide (2 ≤ (cn : Int)) = false := decide_eq_false (by omega)
          have d2 : decide (2 ≤ cn) = false := decide_eq_false h1
          have hv := Lib.hid (show wellB 3 cr 0 cn = false by rw [wellB, hm]; simp <;> omega)
          clear hm
          go_enter Try.func82, Try.ntmps82
          go_wp2_with fail
          refine H.out.mono ?_
          rintro e w2 ⟨rfl, hb⟩
          have HB := Lib.hid hb
          clear hb
          obtain ⟨q0, q1, q2, q3, q4, q5, q6⟩ := box_at HB.out
          go_wp2
          go_ret
          exact ⟨by rw [hv.out]; rfl, below_one HB.out⟩
      · have d0 : (cid == 0) = false := by rw [beq_eq_false_iff_ne]; omega
        have hv := Lib.hid (show wellB 3 cr cid cn = false by rw [wellB, hm]; simp <;> omega)
        clear hm
        go_enter Try.func82, Try.ntmps82
        go_wp2_with fail
        refine H.out.mono ?_
        rintro e w2 ⟨rfl, hb⟩
        have HB := Lib.hid hb
        clear hb
        obtain ⟨q0, q1, q2, q3, q4, q5, q6⟩ := box_at HB.out
        go_wp2
        go_ret
        exact ⟨by rw [hv.out]; rfl, below_one HB.out⟩
    have e1 : (ck == 1) = false := by rw [beq_eq_false_iff_ne]; omega
    have e2 : (ck == 2) = false := by rw [beq_eq_false_iff_ne]; omega
    have e3 : (ck == 3) = false := by rw [beq_eq_false_iff_ne]; omega
    have hv := Lib.hid (show wellB ck cr cid cn = false by rw [wellB, hm]; simp <;> omega)
    clear hm
    go_enter Try.func82, Try.ntmps82
    go_wp2_with fail
    refine H.out.mono ?_
    rintro e w2 ⟨rfl, hb⟩
    have HB := Lib.hid hb
    clear hb
    obtain ⟨q0, q1, q2, q3, q4, q5, q6⟩ := box_at HB.out
    go_wp2
    go_ret
    exact ⟨by rw [hv.out]; rfl, below_one HB.out⟩
end Go.Proofs.Ytodcabaihhmhnaa
/- Numbers that were met, in a map; what may$1 says of a cell. -/
namespace Go.Proofs.Ytodcabaihhmhnaa
open Go.RowKit
open Go.Maps

theorem wf_fits {n : Int} (h : fits n) : (Lit.int .i64 n).wf = true := by
  unfold fits at h
  simp [Lit.wf, IntKind.min, IntKind.max, IntKind.signed, IntKind.bits]; omega

/-- The numbers that were met. -/
def MetAt (w : World) (b : Nat) (ms : List Int) : Prop :=
  ∃ D : DataW Unit, w.ownsMap Try.prog 3 (plainElem Try.prog 4) b ms.length D ∧ IsMap D ∧ ∀ n, fits n → D.atKey (.int .i64 n) (.lit (.bool false)) = .lit (.bool (decide (n ∈ ms)))

theorem MetAt.lt {w : World} {b : Nat} {ms : List Int} (h : MetAt w b ms) : b < w.heap.size := by
  obtain ⟨D, h1, -⟩ := h; exact h1.lt
theorem MetAt.kept {w w' : World} {b : Nat} {ms : List Int} (h : MetAt w b ms) (hh : w'.heap[b]? = w.heap[b]?) : MetAt w' b ms := by
  obtain ⟨D, ⟨es, clock, hb, r⟩, h2, h3⟩ := h
  exact ⟨D, ⟨es, clock, hh.trans hb, r⟩, h2, h3⟩
theorem MetAt.up {w w' : World} {b : Nat} {ms : List Int} (h : MetAt w b ms) (hb : Below w.heap.size w w') : MetAt w' b ms := h.kept (hb.block b h.lt)

theorem plainElem_bool_inv {H : Type} {e : TypeId} (he : Try.prog.underlying e = some .bool) {v : Value} {z : DataW H × List MemPlace} (h : plainElem Try.prog e v = some z) : ∃ a, v = .bool a ∧ z = (.lit (.bool a), []) := by
  unfold plainElem at h
  rw [he] at h
  cases v <;> simp at h
  exact ⟨_, rfl, h.symm⟩

set_option maxRecDepth 100000 in
theorem MetAt.look {w : World} {b : Nat} {ms : List Int} (h : MetAt w b ms) {n : Int} (hn : fits n) : (Instr.lookup 114 (.map (some b)) (.int .i64 n) false).run Try.prog w = .ok (.bool (decide (n ∈ ms))) w := by
  obtain ⟨D, h1, -, h3⟩ := h
  obtain ⟨v, ps, hrun, hv⟩ := h1.lookup (t := 114) (e := 4) (int_keyed Try.underlying3) Try.underlying114 (z := .bool false) (by kernel_rfl) (plainElem_bool Try.underlying4 false) (keyOf_int_mk Try.underlying3 (wf_fits hn))
  obtain ⟨a, rfl, ha⟩ := plainElem_bool_inv Try.underlying4 hv
  simp only [Prod.mk.injEq] at ha
  rw [h3 n hn] at ha
  have : decide (n ∈ ms) = a := by have := ha.1; injection this with this; injection this
  rw [this]; exact hrun

theorem MetAt.put {w' : World} {b : Nat} {ms : List Int} {D : DataW Unit} (h2 : IsMap D) (h3 : ∀ n, fits n → D.atKey (.int .i64 n) (.lit (.bool false)) = .lit (.bool (decide (n ∈ ms)))) {n : Int} (hn : fits n)
    (h : w'.ownsMap Try.prog 3 (plainElem Try.prog 4) b (ms.length + 1) (D.put (.int .i64 n) (.lit (.bool true)))) : MetAt w' b (n :: ms) := by
  refine ⟨_, h, ?_, fun m hm => ?_⟩
  · obtain ⟨es, rfl⟩ := h2; exact ⟨_, rfl⟩
  · by_cases e : m = n
    · subst e
      rw [atKey_put_same h2 (by trivial)]
      simp
    · rw [atKey_put_other (by intro h; injection h with _ h; exact e h), h3 m hm]
      simp [e]

theorem MetAt.new (w : World) : MetAt (w.alloc (.map #[] 0)) w.heap.size [] :=
  ⟨.map [], World.ownsMap_made w _ _ _, ⟨_, rfl⟩, fun n _ => by simp [DataW.atKey]⟩

/-- How many cells were met, and which numbers. -/
def mayStep (s : Nat × List Int) (t : T) : Bool × (Nat × List Int) :=
  if 20000 < s.1 + 1 ∨ wellT t = false then (true, (s.1 + 1, s.2)) else if t.k ≠ 1 then (false, (s.1 + 1, s.2)) else (decide (t.id ∈ s.2), (s.1 + 1, t.id :: s.2))

def mayOwn (B1 Bm : Nat) (_ : Nat × List Int) (_ : Option Obj) (k : Nat) : Prop := k = B1 ∨ k = Bm
structure mayI (w0 : World) (B1 B2 Bm Br : Nat) (c0 : C) (s : Nat × List Int) (W : World) : Prop where
  below : Below w0.heap.size w0 W
  cells : Box1 W B1 (.int .i64 (s.1 : Int)) 3
  met : Box1 W B2 (.map (some Bm)) 114
  map : MetAt W Bm s.2
  row : CAt W Br 0 c0
  len : s.2.length ≤ s.1
  few : s.1 ≤ 20000

theorem mayM (w0 : World) (B1 B2 Bm Br : Nat) (c0 : C) : Mach w0 (mayOwn B1 Bm) (mayI w0 B1 B2 Bm Br c0) := by
  refine ⟨fun s W _ _ h _ hk => ?_, fun s W h => h.below, fun s W W' h hb => ⟨h.below.trans (hb.mono h.below.size), h.cells.up hb, h.met.up hb, h.map.up hb, h.row.up hb, h.len, h.few⟩⟩
  rcases hk with hk | hk
  · have := lt_of_block h.cells; omega
  · have := h.map.lt; omega

theorem heap_set {w : World} {b : Nat} {v : Value} {k : Nat} (h : k ≠ b) : (w.setCell ⟨b, 0, none⟩ v).heap[k]? = w.heap[k]? := Below.heap_setCell w ⟨b, 0, none⟩ v k h

theorem fr_more {σ : Type} {own : σ → Option Obj → Nat → Prop} {s s1 s2 : σ} {W w1 w2 : World} (h : Fr own s W s1 w1) (h2 : Below w1.heap.size w1 w2) (hs : ∀ k, own s2 w2.heap[k]? k → own s W.heap[k]? k ∨ W.heap.size ≤ k) : Fr own s W s2 w2 := by
  have := h.trans (Fr.of (own := own) h2)
  exact ⟨this.os, this.tape, this.output, this.size, this.block, hs⟩

theorem mayI_set {w0 : World} {B1 B2 Bm Br : Nat} {c0 : C} {n : Nat} {ms : List Int} {W : World} (h : mayI w0 B1 B2 Bm Br c0 (n, ms) W) (h12 : B1 ≠ B2) (h1m : B1 ≠ Bm) (h1r : B1 ≠ Br) (hb1 : w0.heap.size ≤ B1) (hn : n + 1 ≤ 20000) :
    mayI w0 B1 B2 Bm Br c0 (n + 1, ms) (W.setCell ⟨B1, 0, none⟩ (.int .i64 ((n : Int) + 1))) := by
  have hr : ∀ o v, W.cell? ⟨Br, o, none⟩ = some v → (W.setCell ⟨B1, 0, none⟩ (.int .i64 ((n : Int) + 1))).cell? ⟨Br, o, none⟩ = some v := fun o v hv => (World.cell?_of_block (a := ⟨Br, o, none⟩) (heap_set (Ne.symm h1r))).trans hv
  obtain ⟨r1, r2, r3, r4, r5, r6, r7⟩ := h.row
  exact ⟨h.below.setCell hb1 _, one_setCell h.cells, (heap_set (Ne.symm h12)).trans h.met, h.map.kept (heap_set (Ne.symm h1m)), ⟨hr _ _ r1, hr _ _ r2, hr _ _ r3, hr _ _ r4, hr _ _ r5, hr _ _ r6, hr _ _ r7⟩, Nat.le_succ_of_le h.len, hn⟩

theorem fr_map {σ : Type} {own : σ → Option Obj → Nat → Prop} {s s1 s2 : σ} {W w1 w2 : World} {b : Nat} (h : Fr own s W s1 w1) (h2 : w1.grownBy w2 (some b)) (hb : ∀ o, own s o b) (hs : ∀ k, own s2 w2.heap[k]? k → own s W.heap[k]? k ∨ W.heap.size ≤ k) : Fr own s W s2 w2 :=
  ⟨h2.os.trans h.os, h2.tape.trans h.tape, h2.output.trans h.output, Nat.le_trans h.size h2.size, fun k hk hn => (h2.block k (Nat.lt_of_lt_of_le hk h.size) (fun e => hn (by cases e; exact hb _))).trans (h.block k hk hn), hs⟩

set_option maxRecDepth 100000 in
theorem may1_says (w0 : World) (B1 B2 Bm Br : Nat) (c0 : C) (h12 : B1 ≠ B2) (h1m : B1 ≠ Bm) (h2m : B2 ≠ Bm) (h1r : B1 ≠ Br) (hmr : Bm ≠ Br) (hb1 : w0.heap.size ≤ B1) (hbm : w0.heap.size ≤ Bm) (M : Nat) (t : T) :
    Judge2 (fun _ => M) w0 (mayOwn B1 Bm) (mayI w0 B1 B2 Bm Br c0) 81 #[.pointer (some ⟨B1, 0, none⟩), .pointer (some ⟨B2, 0, none⟩)] mayStep t := by
  rintro ⟨n, ms⟩ c W _ hi hI
  show Calls Try.prog 81 #[cval c, .pointer (some ⟨B1, 0, none⟩), .pointer (some ⟨B2, 0, none⟩)] W _
  have hfine := hi.fine
  have hwell := well_is hi
  have htk := hi.split.1
  have hti := hi.split.2.2.1
  clear hi
  have hfew : n ≤ 20000 := hI.few
  have HLN := Lib.hid hI.len
  have HS : Hid (Fr (mayOwn B1 Bm) (n, ms) W (n, ms) (W.setCell ⟨B1, 0, none⟩ (.int .i64 ((n : Int) + 1)))) := fr_set (Fr.of (Below.refl _ _)) _ _ (fun _ => .inl rfl) (fun k hk => .inl hk)
  have hlt1 : B1 < W.heap.size := lt_of_block hI.cells
  have hne1 : B1 ≠ W.heap.size := by omega
  have q0 := cell_of_one hI.cells
  have q1 := free_of_one hI.cells
  by_cases hn : n = 20000
  · subst hn
    have hst : Hid (mayStep (20000, ms) t = (true, (20001, ms))) := Lib.hid (by simp [mayStep])
    have q0' : W.cell? ⟨B1, 0, none⟩ = some (.int .i64 20000) := q0
    rw [hst.out]
    clear hI hwell htk hti q0 hfine hfew
    go_enter Try.func81, Try.ntmps81
    go_wp2
    go_ret
    first
    | exact ⟨rfl, (fun h => by cases h), fr_more HS.out ((Below.refl _ _).alloc (Nat.le_refl _) _) (fun k hk => .inl hk)⟩
    | exact ⟨rfl, fr_more HS.out ((Below.refl _ _).alloc (Nat.le_refl _) _) (fun k hk => .inl hk)⟩
  · have HI1 := Lib.hid ((mayM w0 B1 B2 Bm Br c0).up _ _ _ (mayI_set hI h12 h1m h1r hb1 (by omega)) ((Below.refl _ _).alloc (Nat.le_refl _) (cbox c)))
    have hn' : n < 20000 := by omega
    have d20 : decide (20000 < (n : Int) + 1) = false := decide_eq_false (by omega)
    have HW := Lib.hid (well_any c ((W.setCell ⟨B1, 0, none⟩ (.int .i64 ((n : Int) + 1))).alloc (cbox c)) hfine)
    have hsz : (W.setCell ⟨B1, 0, none⟩ (.int .i64 ((n : Int) + 1))).heap.size = W.heap.size := by simp [World.setCell]
    have HSZ := Lib.hid hsz
    clear hsz
    have HF := Lib.hid hfine
    clear hfine hI hn
    cases hw : wellC c with
    | false =>
      have hst : Hid (mayStep (n, ms) t = (true, (n + 1, ms))) := Lib.hid (by rw [mayStep, if_pos (.inr (by rw [← hwell, hw]))])
      rw [hst.out]
      rw [hw] at HW
      clear hwell hw htk hti hst
      go_enter Try.func81, Try.ntmps81
      go_wp2_with fail
      refine HW.out.mono ?_
      rintro e w2 ⟨rfl, hb⟩
      have HB := Lib.hid hb
      clear hb
      go_wp2
      go_ret
      first
      | exact ⟨rfl, (fun h => by cases h), fr_more HS.out (below_one HB.out) (fun k hk => .inl hk)⟩
      | exact ⟨rfl, fr_more HS.out (below_one HB.out) (fun k hk => .inl hk)⟩
    | true =>
      rw [hw] at HW
      obtain ⟨ck, cr, cid, ca, cn, ccap⟩ := c
      simp only at htk hti
      by_cases hk1 : ck = 1
      · have hst : Hid (mayStep (n, ms) t = (decide (cid ∈ ms), (n + 1, cid :: ms))) := Lib.hid (by
          rw [mayStep, if_neg (by rw [← hwell, hw]; simp; omega), if_neg (by rw [htk, hk1]; simp), hti])
        obtain ⟨again, hag⟩ : ∃ b, decide (cid ∈ ms) = b := ⟨_, rfl⟩
        rw [hst.out, hag]
        have HAG := Lib.hid hag
        clear hwell hw htk hti hst hag
        subst hk1
        have hfit : fits cid := HF.out.2.2.1
        have hwf := wf_fits hfit
        go_enter Try.func81, Try.ntmps81
        go_wp2_with fail
        refine HW.out.mono ?_
        rintro e w2 ⟨rfl, hb⟩
        have HB := Lib.hid hb
        clear hb
        have HI2 := Lib.hid ((mayM w0 B1 B2 Bm Br c0).up _ _ _ HI1.out HB.out)
        have hbx : CAt w2 W.heap.size 0 ⟨1, cr, cid, ca, cn, ccap⟩ := by rw [← HSZ.out]; exact box_at HB.out
        obtain ⟨p0, p1, p2, p3, p4, p5, p6⟩ := hbx
        have pm := cell_of_one HI2.out.met
        have hlook := HI2.out.map.look hfit
        have hmap := HI2.out.map
        simp only [HAG.out] at hlook
        simp only at hmap
        obtain ⟨D, hown, hism, hat⟩ := hmap
        have HO := Lib.hid hown
        have HIM := Lib.hid hism
        have HAT := Lib.hid hat
        clear hown hism hat
        have hlen : ms.length < maxLen := by have := HI2.out.len; have := HI2.out.few; simp only at *; unfold maxLen; omega
        go_wp2_with (at_mapUpdate; refine wpList_mapUpdate_own _ rfl _ _ _ 114 rfl 3 4 (int_keyed Try.underlying3) Try.underlying114 _ Bm ms.length D rfl HO.out hlen _ _ (.int .i64 cid) rfl rfl (keyOf_int_mk Try.underlying3 hwf) (.lit (.bool true)) [] (plainElem_bool Try.underlying4 true) ?_; intro w3 hown3 hgrow3)
        have HO3 := Lib.hid hown3
        have HG3 := Lib.hid hgrow3
        clear hown3 hgrow3
        go_wp2
        go_ret
        refine ⟨by first | rfl | (rw [HAG.out]; rfl), fun _ => ?_, fr_map (fr_more (s1 := (n, ms)) (s2 := (n, ms)) HS.out (below_one HB.out) (fun k hk => .inl hk)) HG3.out (fun _ => .inr rfl) (fun k hk => .inl hk)⟩
        have J := HI2.out
        have hr : ∀ o v, w2.cell? ⟨Br, o, none⟩ = some v → w3.cell? ⟨Br, o, none⟩ = some v := fun o v hv => HG3.out.cell hv (fun e => hmr (by cases e; rfl))
        obtain ⟨r1, r2, r3, r4, r5, r6, r7⟩ := J.row
        refine ⟨J.below.trans ⟨HG3.out.os, HG3.out.tape, HG3.out.output, HG3.out.size, fun k hk => HG3.out.block k (Nat.lt_of_lt_of_le hk J.below.size) (fun e => by cases e; omega)⟩, ?_, ?_, MetAt.put HIM.out HAT.out hfit HO3.out, ⟨hr _ _ r1, hr _ _ r2, hr _ _ r3, hr _ _ r4, hr _ _ r5, hr _ _ r6, hr _ _ r7⟩, ?_, J.few⟩
        · exact (HG3.out.block B1 (lt_of_block J.cells) (fun e => h1m (by cases e; rfl))).trans J.cells
        · exact (HG3.out.block B2 (lt_of_block J.met) (fun e => h2m (by cases e; rfl))).trans J.met
        · have := HLN.out; simp only [List.length_cons] at *; omega
      · have hst : Hid (mayStep (n, ms) t = (false, (n + 1, ms))) := Lib.hid (by
          rw [mayStep, if_neg (by rw [← hwell, hw]; simp; omega), if_pos (by rw [htk]; exact hk1)])
        rw [hst.out]
        clear hwell hw htk hti hst
        have e1 : (ck == 1) = false := by rw [beq_eq_false_iff_ne]; exact hk1
        have e2 : (ck != 1) = true := by simpa using hk1
        go_enter Try.func81, Try.ntmps81
        go_wp2_with fail
        refine HW.out.mono ?_
        rintro e w2 ⟨rfl, hb⟩
        have HB := Lib.hid hb
        clear hb
        have HI2 := Lib.hid ((mayM w0 B1 B2 Bm Br c0).up _ _ _ HI1.out HB.out)
        have hbx : CAt w2 W.heap.size 0 ⟨ck, cr, cid, ca, cn, ccap⟩ := by rw [← HSZ.out]; exact box_at HB.out
        obtain ⟨p0, p1, p2, p3, p4, p5, p6⟩ := hbx
        go_wp2
        go_ret
        first
        | exact ⟨rfl, fun _ => HI2.out, fr_more HS.out (below_one HB.out) (fun k hk => .inl hk)⟩
        | exact ⟨rfl, HI2.out, fr_more HS.out (below_one HB.out) (fun k hk => .inl hk)⟩
end Go.Proofs.Ytodcabaihhmhnaa
