/- Texts of this seat, 3 in one file. -/
import Derived.Test.YtakofjbjciljjaaG15
import Derived.Test.YtakofjbjciljjaaG03
import Derived.Test.YtakofjbjciljjaaG06
import Derived.Deep.RegionHeld3
import Derived.Deep.Cut
/- A cut: the rectangles, and what is between them. -/
namespace Go.Proofs.Ytakofjbjciljjaa
open Go.RowKit

def cutP (r : R) (ax : Int) (ms : List Int) : Prop := mayB r = true ∧ ((ax = 1 ∧ fillP r.w ms) ∨ (ax = 2 ∧ fillP r.h ms))
def cutParts (r : R) (ax : Int) (ms : List Int) : Bool → List R
  | false => []
  | true => if ax = 1 then partsL r id ms ms.length else partsL (turnR r) turnR ms ms.length
def cutLines (r : R) (ax : Int) (ms : List Int) : Bool → List R
  | false => []
  | true => if ax = 1 then linesL r id ms ms.length else linesL (turnR r) turnR ms ms.length

/-- What a cut says. -/
def CutSays (r : R) (ax : Int) (ms : List Int) (w : World) (e : Ending) (w' : World) : Prop :=
  ∃ v1 v2 b, e = .returned (.tuple #[v1, v2, .bool b]) ∧ (b = true ↔ cutP r ax ms) ∧ RRow w' v1 (cutParts r ax ms b) ∧ RRow w' v2 (cutLines r ax ms b) ∧ Below w.heap.size w w'

theorem entersC32 : Enters 82 := enters_of Try.func82 (by kernel_rfl) rfl
theorem entersC33 : Enters 83 := enters_of Try.func83 (by kernel_rfl) rfl
theorem cut_no {r : R} {ax : Int} {ms : List Int} {w w' : World} (h : ¬ cutP r ax ms) (hb : Below w.heap.size w w') : CutSays r ax ms w (.returned (.tuple #[.slice none 0 0, .slice none 0 0, .bool false])) w' :=
  ⟨_, _, false, rfl, by simp [h], .inl ⟨_, _, rfl, rfl⟩, .inl ⟨_, _, rfl, rfl⟩, hb⟩

/-- A rectangle stored over another one. -/
abbrev put4 (w : World) (b : Nat) (q : R) : World := (((w.setCell ⟨b, 0, none⟩ (.int .i64 q.x)).setCell ⟨b, 1, none⟩ (.int .i64 q.y)).setCell ⟨b, 2, none⟩ (.int .i64 q.w)).setCell ⟨b, 3, none⟩ (.int .i64 q.h)
theorem rat_put4 {w : World} {b : Nat} {r : R} (q : R) (h : RAt w b 0 r) : RAt (put4 w b q) b 0 q := by
  obtain ⟨h0, h1, h2, h3⟩ := h
  have ne : ∀ i j : Nat, i ≠ j → (⟨b, i, none⟩ : Addr) ≠ ⟨b, j, none⟩ := fun i j hij he => hij (congrArg Addr.off he)
  refine ⟨?_, ?_, ?_, ?_⟩
  · rw [World.cell?_setCell_other _ _ _ _ (ne 3 0 (by omega)), World.cell?_setCell_other _ _ _ _ (ne 2 0 (by omega)), World.cell?_setCell_other _ _ _ _ (ne 1 0 (by omega))]
    exact World.cell?_setCell_same _ _ _ h0
  · rw [World.cell?_setCell_other _ _ _ _ (ne 3 1 (by omega)), World.cell?_setCell_other _ _ _ _ (ne 2 1 (by omega))]
    exact World.cell?_setCell_same _ _ _ ((World.cell?_setCell_other _ _ _ _ (ne 0 1 (by omega))).trans h1)
  · rw [World.cell?_setCell_other _ _ _ _ (ne 3 2 (by omega))]
    exact World.cell?_setCell_same _ _ _ ((World.cell?_setCell_other _ _ _ _ (ne 1 2 (by omega))).trans ((World.cell?_setCell_other _ _ _ _ (ne 0 2 (by omega))).trans h2))
  · exact World.cell?_setCell_same _ _ _ ((World.cell?_setCell_other _ _ _ _ (ne 2 3 (by omega))).trans ((World.cell?_setCell_other _ _ _ _ (ne 1 3 (by omega))).trans ((World.cell?_setCell_other _ _ _ _ (ne 0 3 (by omega))).trans h3)))
theorem below_put4 {B : Nat} {w w' : World} (h : Below B w w') {b : Nat} (hb : B ≤ b) (q : R) : Below B w (put4 w' b q) := (((h.setCell hb _).setCell hb _).setCell hb _).setCell hb _

set_option maxRecDepth 100000 in
set_option maxHeartbeats 1600000 in
theorem cut_any (r : R) (ax : Int) (v : Value) (ms : List Int) (w : World) (hf : r.fits) (hr : IRow w v ms) (hlen : ms.length ≤ 100000) :
    Calls Try.prog 73 #[val r, .int .u8 ax, v] w fun e w' => CutSays r ax ms w e w' := by
  obtain ⟨a, cap, rfl⟩ := hr.shape
  have HR := Lib.hid hr
  have B1 : Hid (Below w.heap.size w (w.alloc (box r))) := (Below.refl _ _).alloc (Nat.le_refl _) _
  have H := Lib.hid (may_one r (w.alloc (box r)) hf (w.heap.size + 1) (by simp))
  have HA : Hid (RAt (w.alloc (box r)) w.heap.size 0 r) := rat_new w r
  have HZ : Hid (∀ i, (w.alloc (box r)).frozen? ⟨w.heap.size, i, none⟩ = false) := fun i => by
    have hh : (w.alloc (box r)).heap[w.heap.size]? = some (box r) := heap_alloc_new w _
    simp only [World.frozen?, hh]
    simp
  clear hr hf
  rcases bool_cases (mayB r) with hm | hm
  case inr =>
    have hn : Hid (¬ cutP r ax ms) := fun h => by have := h.1; rw [hm] at this; cases this
    rw [hm] at H
    go_enter Try.func73, Try.ntmps73
    go_wp2_with fail
    refine H.out.mono ?_
    rintro e w2 ⟨rfl, hb2⟩
    have B2 := Lib.hid (B1.out.trans (hb2.mono B1.out.size))
    clear hb2
    go_wp2
    go_ret3
    exact cut_no hn.out B2.out
  have hb := (mayB_iff r).1 hm
  have HM : Hid ((0 ≤ r.x ∧ 1 ≤ r.w ∧ r.x + r.w ≤ 10000) ∧ 0 ≤ r.y ∧ 1 ≤ r.h ∧ r.y + r.h ≤ 10000) := hb
  have HT : Hid (mayB (turnR r) = true) := ((mayB_iff (turnR r)).2 ⟨hb.2, hb.1⟩ : mayB (turnR r) = true)
  clear hb
  rw [hm] at H
  by_cases h2 : ax = 2
  · subst h2
    go_enter Try.func73, Try.ntmps73
    go_wp2_with fail
    refine H.out.mono ?_
    rintro e w2 ⟨rfl, hb2⟩
    have B2 := Lib.hid (B1.out.trans (hb2.mono B1.out.size))
    have HA2 := Lib.hid (HA.out.up hb2)
    have HZ2 : Hid (∀ i, w2.frozen? ⟨w.heap.size, i, none⟩ = false) := fun i => (hb2.frozen (p := ⟨w.heap.size, i, none⟩) (by simp)).trans (HZ.out i)
    clear hb2
    obtain ⟨c0, c1, c2, c3⟩ := HA2.out
    go_wp2_with fail
    refine (turn_any r w2).mono ?_
    rintro e w3 ⟨rfl, hb3⟩
    have B3 := Lib.hid (B2.out.trans (hb3.mono B2.out.size))
    have lt2 := lt_of_cell c0
    clear c0 c1 c2 c3
    obtain ⟨c0, c1, c2, c3⟩ := HA2.out.up hb3
    have z0 := (hb3.frozen (p := ⟨w.heap.size, 0, none⟩) lt2).trans (HZ2.out 0)
    have z1 := (hb3.frozen (p := ⟨w.heap.size, 1, none⟩) lt2).trans (HZ2.out 1)
    have z2 := (hb3.frozen (p := ⟨w.heap.size, 2, none⟩) lt2).trans (HZ2.out 2)
    have z3 := (hb3.frozen (p := ⟨w.heap.size, 3, none⟩) lt2).trans (HZ2.out 3)
    have P4 := Lib.hid (rat_put4 (turnR r) (HA2.out.up hb3))
    have B4 := Lib.hid (below_put4 B3.out (Nat.le_refl _) (turnR r))
    clear hb3
    go_wp2_with fail
    change Calls _ _ _ (put4 w3 w.heap.size (turnR r)) _
    generalize put4 w3 w.heap.size (turnR r) = w4 at P4 B4 ⊢
    clear c0 c1 c2 c3 z0 z1 z2 z3
    obtain ⟨c0, c1, c2, c3⟩ := P4.out
    refine (fill_any (turnR r).w _ ms w4 (HR.out.up B4.out) (by omega) (by have := HM.out; (try simp only [turnR]); omega) (by have := HM.out; (try simp only [turnR]); omega)).mono ?_
    rintro e w5 ⟨⟨b, rfl, hfl⟩, rfl⟩
    have HFl := Lib.hid hfl
    clear hfl
    cases b with
    | false =>
      go_wp2
      go_ret3
      refine cut_no (fun h => ?_) B4.out
      rcases h.2 with h | h
      · exact absurd (HFl.out.2 (by have := h.1; omega)) (by simp)
      · exact absurd (HFl.out.2 (h.2)) (by simp)
    | true =>
      have hfp := HFl.out.1 rfl
      have HFp := Lib.hid hfp
      clear hfp
      go_wp2_with fail
      refine (across_any 83 entersC33 turnR turn_any (turnR r) _ ms w4 HT.out (HR.out.up B4.out) hlen HFp.out.1).mono ?_
      rintro e w6 ⟨v1, v2, rfl, hr1, hr2, hb6⟩
      have R1 := Lib.hid hr1
      have R2 := Lib.hid hr2
      have B6 := Lib.hid (B4.out.trans (hb6.mono B4.out.size))
      clear hr1 hr2 hb6
      go_wp2
      go_ret3
      exact ⟨v1, v2, true, rfl, ⟨fun _ => ⟨hm, .inr ⟨rfl, HFp.out⟩⟩, fun _ => rfl⟩, R1.out, R2.out, B6.out⟩
  · have e2 : (ax == 2) = false := by rw [beq_eq_false_iff_ne]; exact h2
    by_cases h1 : ax = 1
    · subst h1
      go_enter Try.func73, Try.ntmps73
      go_wp2_with fail
      refine H.out.mono ?_
      rintro e w2 ⟨rfl, hb2⟩
      have B4 := Lib.hid (B1.out.trans (hb2.mono B1.out.size))
      obtain ⟨c0, c1, c2, c3⟩ := HA.out.up hb2
      clear hb2
      go_wp2_with fail
      refine (fill_any r.w _ ms w2 (HR.out.up B4.out) (by omega) (by have := HM.out; (try simp only [turnR]); omega) (by have := HM.out; (try simp only [turnR]); omega)).mono ?_
      rintro e w5 ⟨⟨b, rfl, hfl⟩, rfl⟩
      have HFl := Lib.hid hfl
      clear hfl
      cases b with
      | false =>
        go_wp2
        go_ret3
        refine cut_no (fun h => ?_) B4.out
        rcases h.2 with h | h
        · exact absurd (HFl.out.2 (h.2)) (by simp)
        · exact absurd (HFl.out.2 (by have := h.1; omega)) (by simp)
      | true =>
        have hfp := HFl.out.1 rfl
        have HFp := Lib.hid hfp
        clear hfp
        go_wp2_with fail
        refine (across_any 82 entersC32 id ident_any r _ ms w2 hm (HR.out.up B4.out) hlen HFp.out.1).mono ?_
        rintro e w6 ⟨v1, v2, rfl, hr1, hr2, hb6⟩
        have R1 := Lib.hid hr1
        have R2 := Lib.hid hr2
        have B6 := Lib.hid (B4.out.trans (hb6.mono B4.out.size))
        clear hr1 hr2 hb6
        go_wp2
        go_ret3
        exact ⟨v1, v2, true, rfl, ⟨fun _ => ⟨hm, .inl ⟨rfl, HFp.out⟩⟩, fun _ => rfl⟩, R1.out, R2.out, B6.out⟩
    · have e1 : (ax == 1) = false := by rw [beq_eq_false_iff_ne]; exact h1
      have hn : Hid (¬ cutP r ax ms) := fun h => by
        rcases h.2 with h | h
        · exact h1 h.1
        · exact h2 h.1
      clear h1 h2
      go_enter Try.func73, Try.ntmps73
      go_wp2_with fail
      refine H.out.mono ?_
      rintro e w2 ⟨rfl, hb2⟩
      have B2 := Lib.hid (B1.out.trans (hb2.mono B1.out.size))
      clear hb2
      go_wp2
      go_ret3
      exact cut_no hn.out B2.out
end Go.Proofs.Ytakofjbjciljjaa
/- Two rows of numbers of the call's own, side by side: one is added to, the other stays. -/
namespace Go.Proofs.Ytakofjbjciljjaa
open Go.RowKit

def OwnN (w : World) (base : Nat) (v : Value) (l : List Int) : Prop := w.ownsRow base 3 1 v l.length (ints l)
theorem iinfo : ∃ i, Try.prog.info? 3 = some i ∧ i.zero = some (.int .i64 0) ∧ i.size = 1 ∧ i.bytes = 8 := info_parts (P := Try.prog) (e := 3) (z := .int .i64 0) (size := 1) (bytes := 8) (by kernel_rfl)
theorem OwnN.up {w w' : World} {base : Nat} {v : Value} {l : List Int} (h : OwnN w base v l) (hb : Below w.heap.size w w') : OwnN w' base v l := owns_up h hb
theorem OwnN.nil (w : World) (base : Nat) : OwnN w base (.slice none 0 0) [] := World.ownsRow_nil w base _ _
theorem OwnN.empty (w : World) (base : Nat) (hb : base ≤ w.heap.size) : OwnN (w.alloc (.cells #[] 3)) base (.slice (some ⟨w.heap.size, 0, none⟩) 0 0) [] := World.ownsRow_made w #[] 0 hb (Nat.zero_le _) (by simp)
theorem OwnN.row {w : World} {base : Nat} {v : Value} {l : List Int} (h : OwnN w base v l) : IRow w v l := by
  rcases h.2 with ⟨rfl, hn⟩ | ⟨g, cap, cur, rfl, hb, hg, hn, hm, hs, ht⟩
  · exact .inl ⟨_, _, rfl, List.length_eq_zero_iff.1 hn⟩
  · refine .inr ⟨g, 0, cap, rfl, fun j r hj => ?_⟩
    have := h.cells (g := g) rfl j (.int .i64 r) (by simp [ints, hj])
    rw [Go.WideShapes.add_plain] at this
    exact this

theorem appendI_place {w : World} {base : Nat} {v : Value} {l : List Int} (h : OwnN w base v l) (g : Nat) (r : Int) (hr : w.cell? ⟨g, 0, none⟩ = some (.int .i64 r)) (hlen : l.length ≤ 100000) (hbase : base ≤ w.heap.size) (ty : TypeId) :
    ∃ v' w', (Builtin.append_ #[43, 43] ty #[v, .slice (some ⟨g, 0, none⟩) 1 1]).run Try.prog w = .ok v' w' ∧ OwnN w' base v' (l ++ [r]) ∧ w.grownBy w' v.ownBlock ∧ (v'.ownBlock = v.ownBlock ∨ v'.ownBlock = some w.heap.size) := by
  obtain ⟨i, hi, hz0, hz1, hz2⟩ := iinfo
  have hnews : ∀ j u, (ints [r])[j]? = some u → w.cell? ((⟨g, 0, none⟩ : Addr).add j) = some u := fun j u hu => by
    cases j with
    | zero => simp [ints] at hu; subst hu; simpa [Go.WideShapes.add_plain] using hr
    | succ j => simp [ints] at hu
  have hl : (ints [r]).length = 1 * 1 := rfl
  have hil : (ints l).length = l.length := ints_length l
  obtain ⟨v', w', hrun, hown, hg, -⟩ := run_append_own (P := Try.prog) w base 43 ty 3 i (.int .i64 0) 1 8 Try.underlying43 hi hz0 hz1 hz2 rfl (by decide) v l.length (ints l) h ⟨g, 0, none⟩ 1 1 (ints [r]) hl hnews (ints_one _) (by unfold maxLen; omega) (by omega) hbase
  refine ⟨v', w', hrun, ?_, hg, ?_⟩
  · have h2 : w'.ownsRow base 3 1 v' (l ++ [r]).length (ints (l ++ [r])) := by
      rw [ints_append, List.length_append]; exact hown
    exact h2
  · rcases h.2 with ⟨rfl, hn⟩ | ⟨g', cap, cur, rfl, hbg, hgg, hnc, hcm, hcs, htake⟩
    · have hr1 := run_append_nil (P := Try.prog) w 43 ty 3 i (.int .i64 0) Try.underlying43 hi hz0 ⟨g, 0, none⟩ 1 1 (ints [r]) (by rw [hz1]; exact hl) hnews (by omega) (by omega) (by rw [hz2]; omega)
      rw [hrun] at hr1
      right
      cases hr1
      rfl
    · by_cases hroom : l.length + 1 ≤ cap
      · have hr1 := run_append_room (P := Try.prog) w 43 ty 3 i Try.underlying43 hi g' l.length cap cur hgg ⟨g, 0, none⟩ 1 1 (ints [r]) (by rw [hz1]; exact hl) hnews (ints_one _) hroom (by rw [hz1, hl, hcs]; omega)
        rw [hrun] at hr1
        left
        cases hr1
        rfl
      · have hr1 := run_append_grow (P := Try.prog) w 43 ty 3 i (.int .i64 0) Try.underlying43 hi hz0 ⟨g', 0, none⟩ l.length cap (ints l) (by rw [hz1]; exact h.1) (h.cells (g := g') rfl) ⟨g, 0, none⟩ 1 1 (ints [r]) (by rw [hz1]; exact hl) hnews (by omega) (by omega) (growslice_fits (by omega) (by rw [hz2]; omega))
        rw [hrun] at hr1
        right
        cases hr1
        rfl
theorem OwnN.kept {w w' : World} {base : Nat} {v : Value} {l : List Int} {r : Option Nat} (h : OwnN w base v l) (hg : w.grownBy w' r) (hn : v.ownBlock = none ∨ v.ownBlock ≠ r) : OwnN w' base v l := World.ownsRow.kept h hg hn

/-- Two own rows, not in one block. -/
structure TwoI (w : World) (base : Nat) (v1 : Value) (l1 : List Int) (v2 : Value) (l2 : List Int) : Prop where
  own1 : OwnN w base v1 l1
  own2 : OwnN w base v2 l2
  ne : ∀ k, v1.ownBlock = some k → v2.ownBlock ≠ some k
theorem TwoI.swap {w : World} {base : Nat} {v1 : Value} {l1 : List Int} {v2 : Value} {l2 : List Int} (h : TwoI w base v1 l1 v2 l2) : TwoI w base v2 l2 v1 l1 := ⟨h.own2, h.own1, fun k h2 h1 => h.ne k h1 h2⟩
theorem TwoI.up {w w' : World} {base : Nat} {v1 : Value} {l1 : List Int} {v2 : Value} {l2 : List Int} (h : TwoI w base v1 l1 v2 l2) (hb : Below w.heap.size w w') : TwoI w' base v1 l1 v2 l2 := ⟨h.own1.up hb, h.own2.up hb, h.ne⟩
theorem TwoI.alloc {w : World} {base : Nat} {v1 : Value} {l1 : List Int} {v2 : Value} {l2 : List Int} (h : TwoI w base v1 l1 v2 l2) (o : Obj) : TwoI (w.alloc o) base v1 l1 v2 l2 := h.up ((Below.refl _ _).alloc (Nat.le_refl _) _)
/-- A block that is new: no row of the two lies there. -/
def Far (base : Nat) (v1 v2 : Value) (g : Nat) : Prop := v1.ownBlock ≠ some g ∧ v2.ownBlock ≠ some g

/-- One of two is added to. -/
theorem wp_twoI {w : World} {o : Oper} {a : Act} {K : Act → World → Prop} {Q : Exit → Act → World → Prop} (s x : Operand)
    (ho : o.op = .call { callee := .builtin .append, args := #[s, x], argTypes := #[43, 43] })
    (base : Nat) (v1 v2 : Value) (l1 l2 : List Int) (g : Nat) (r : Int) (hs : a.eval s = v1) (hT : TwoI w base v1 l1 v2 l2) (hx : a.eval x = .slice (some ⟨g, 0, none⟩) 1 1) (hr : w.cell? ⟨g, 0, none⟩ = some (.int .i64 r)) (hlen : l1.length ≤ 100000)
    (w0 : World) (hb : Below base w0 w) (hbase0 : base ≤ w0.heap.size)
    (h : ∀ v' w', TwoI w' base v' (l1 ++ [r]) v2 l2 → Below base w0 w' → w.grownBy w' v1.ownBlock → K (a.put o.dst v') w') : o.wp Try.prog a w K Q := by
  have hbase : base ≤ w.heap.size := Nat.le_trans hbase0 hb.size
  obtain ⟨v', w', hrun, hown, hg, hpl⟩ := appendI_place hT.own1 g r hr hlen hbase o.type
  have hT' : TwoI w' base v' (l1 ++ [r]) v2 l2 := by
    refine ⟨hown, hT.own2.kept hg ?_, fun k h1 h2 => ?_⟩
    · cases h2 : v2.ownBlock with
      | none => exact .inl rfl
      | some k => exact .inr fun h1 => hT.ne k h1.symm h2
    · rcases hpl with hp | hp
      · exact hT.ne k (hp ▸ h1) h2
      · have h3 := (hT.own2.lt k h2).2
        rw [hp] at h1
        have := Option.some.inj h1
        omega
  have hb' : Below base w0 w' := hb.grown hg hbase (fun k hk => (hT.own1.lt k hk).1)
  unfold Oper.wp execOp
  simp only [ho, resolve, invoke, builtin, Sem.run_bind, Sem.run_pure, Result.andThen_ok, List.map_toArray, List.map_cons, List.map_nil, hs, hx, hrun]
  exact h v' w' hT' hb' hg
theorem step_twoI {w : World} {ops : Array Oper} {o : Oper} {a : Act} {K : Act → World → Prop} {Q : Exit → Act → World → Prop} {E : Prop} (hgd : o.guard = none) (s x : Operand)
    (ho : o.op = .call { callee := .builtin .append, args := #[s, x], argTypes := #[43, 43] })
    (base : Nat) (v1 v2 : Value) (l1 l2 : List Int) (g : Nat) (r : Int) (hs : a.eval s = v1) (hT : TwoI w base v1 l1 v2 l2) (hx : a.eval x = .slice (some ⟨g, 0, none⟩) 1 1) (hr : w.cell? ⟨g, 0, none⟩ = some (.int .i64 r)) (hlen : l1.length ≤ 100000)
    (w0 : World) (hb : Below base w0 w) (hbase0 : base ≤ w0.heap.size)
    (h : ∀ v' w', TwoI w' base v' (l1 ++ [r]) v2 l2 → Below base w0 w' → w.grownBy w' v1.ownBlock → K (a.put o.dst v') w') : if Region.wanted o (yielded ops a.tmps) = true then Oper.wp Try.prog o a w K Q else E := by
  have hw : Region.wanted o (yielded ops a.tmps) = true := by simp [Region.wanted, hgd]
  rw [if_pos hw]
  exact wp_twoI s x ho base v1 v2 l1 l2 g r hs hT hx hr hlen w0 hb hbase0 h
theorem wpList_twoI {w : World} {ops : Array Oper} {rest : List Oper} {o : Oper} {a : Act} {Q : Exit → Act → World → Prop} (hgd : o.guard = none) (s x : Operand)
    (ho : o.op = .call { callee := .builtin .append, args := #[s, x], argTypes := #[43, 43] })
    (base : Nat) (v1 v2 : Value) (l1 l2 : List Int) (g : Nat) (r : Int) (hs : a.eval s = v1) (hT : TwoI w base v1 l1 v2 l2) (hx : a.eval x = .slice (some ⟨g, 0, none⟩) 1 1) (hr : w.cell? ⟨g, 0, none⟩ = some (.int .i64 r)) (hlen : l1.length ≤ 100000)
    (w0 : World) (hb : Below base w0 w) (hbase0 : base ≤ w0.heap.size)
    (h : ∀ v' w', TwoI w' base v' (l1 ++ [r]) v2 l2 → Below base w0 w' → w.grownBy w' v1.ownBlock → wpList Try.prog ops Q rest (a.put o.dst v') w') : wpList Try.prog ops Q (o :: rest) a w :=
  wpList_plain hgd fun _ hK => wp_twoI s x ho base v1 v2 l1 l2 g r hs hT hx hr hlen w0 hb hbase0 fun v' w' h1 h2 h3 => hK _ _ (h v' w' h1 h2 h3)
end Go.Proofs.Ytakofjbjciljjaa
/- The axis along which a cell's kids stand, and their sizes along it. -/
namespace Go.Proofs.Ytakofjbjciljjaa
open Go.RowKit

def axT (t : T) : Int := if t.k = 3 then 2 else 1
def wsT (t : T) : List Int := t.kids.map fun u => u.r.w
def hsT (t : T) : List Int := t.kids.map fun u => u.r.h
def sizesT (t : T) : List Int := if t.k = 3 then hsT t else wsT t
theorem ws_len (t : T) : (wsT t).length = t.kids.length := by simp [wsT]
theorem hs_len (t : T) : (hsT t).length = t.kids.length := by simp [hsT]
theorem ws_step {t u : T} {k : Nat} (h : t.kids[k]? = some u) : (wsT t).take (k + 1) = (wsT t).take k ++ [u.r.w] := by
  rw [List.take_add_one]; simp [wsT, h]
theorem hs_step {t u : T} {k : Nat} (h : t.kids[k]? = some u) : (hsT t).take (k + 1) = (hsT t).take k ++ [u.r.h] := by
  rw [List.take_add_one]; simp [hsT, h]

theorem cells2_alloc {W : World} {n i j : Nat} {a b : Value} (o : Obj) (h : W.cell? ⟨n, i, none⟩ = some a ∧ W.cell? ⟨n, j, none⟩ = some b) : (W.alloc o).cell? ⟨n, i, none⟩ = some a ∧ (W.alloc o).cell? ⟨n, j, none⟩ = some b := ⟨Lib.cell?_alloc_some o h.1, Lib.cell?_alloc_some o h.2⟩
theorem bel_alloc {B : Nat} {w w' : World} (h : Below B w w') (hb : B ≤ w.heap.size) (o : Obj) : Below B w (w'.alloc o) := h.alloc (Nat.le_trans hb h.size) o
theorem gb_cell {W w' : World} {r : Option Nat} {a : Addr} {v : Value} (hg : W.grownBy w' r) (hc : W.cell? a = some v) (hn : r ≠ some a.block) : w'.cell? a = some v :=
  (World.cell?_of_block (hg.block a.block (lt_of_cell hc) fun h => hn h.symm)).trans hc
theorem TwoI.far {w : World} {base : Nat} {v1 : Value} {l1 : List Int} {v2 : Value} {l2 : List Int} (h : TwoI w base v1 l1 v2 l2) : ∀ g, w.heap.size ≤ g → v1.ownBlock ≠ some g := fun g hg he => by
  have := (h.own1.lt g he).2
  omega
theorem TwoI.drew {w : World} {base : Nat} {v1 : Value} {l1 : List Int} {v2 : Value} {l2 : List Int} (h : TwoI w base v1 l1 v2 l2) : TwoI w.drew base v1 l1 v2 l2 := h.up (Below.refl _ w).drew

set_option maxRecDepth 100000 in
set_option maxHeartbeats 1600000 in
theorem along_any (t : T) (c : C) (w : World) (hi : Is w c t) (hl : t.kids.length ≤ 20000) :
    Calls Try.prog 72 #[cval c] w fun e w' => ∃ v, e = .returned (.tuple #[.int .u8 (axT t), v]) ∧ IRow w' v (sizesT t) ∧ Below w.heap.size w w' := by
  have HA : Hid (Below w.heap.size w (w.alloc (cbox c))) := (Below.refl _ _).alloc (Nat.le_refl _) _
  have HC := Lib.hid (cbox_new w c)
  have HROW := Lib.hid hi.row
  have hcn := hi.n
  have hck : t.k = c.k := hi.split.1
  have HI := Lib.hid hi
  clear hi
  obtain ⟨ck, cr, cid, ca, cn, ccap⟩ := c
  simp only at hcn hck
  subst hcn
  go_enter Try.func72, Try.ntmps72
  go_wp2
  go_loopg [4, 5, 11] (t.kids.length + 1) (fun g v1 v2 i wr => ∃ k : Nat, g + k = t.kids.length + 1 ∧ k ≤ t.kids.length ∧ i = .int .i64 k ∧ TwoI wr (w.heap.size + 1) v1 ((wsT t).take k) v2 ((hsT t).take k) ∧ Below (w.heap.size + 1) (w.alloc (cbox ⟨ck, cr, cid, ca, t.kids.length, ccap⟩)) wr)
  case atStart => exact ⟨0, by omega, by omega, rfl, ⟨OwnN.nil _ _, OwnN.nil _ _, fun k h => by cases h⟩, Below.refl _ _⟩
  case round =>
    obtain ⟨k, hg, hk, rfl, htw, hb⟩ := hrel
    have HG := Lib.hid hg
    have HT := Lib.hid htw
    have HB := Lib.hid hb
    clear hg htw hb
    by_cases hlt : k < t.kids.length
    · obtain ⟨b, o, hca, hf⟩ := HROW.out.place (by omega)
      subst hca
      obtain ⟨u, hu⟩ : ∃ u, t.kids[k]? = some u := ⟨_, List.getElem?_eq_getElem hlt⟩
      obtain ⟨x, hx, hxi⟩ := hf k u hu
      have hxr : u.r = x.r := hxi.split.2.1
      have hBW : Below w.heap.size w wr := HA.out.trans (HB.out.mono (by omega))
      obtain ⟨c0, c1, c2, c3, c4, c5, c6⟩ := hx.up hBW
      have HWS := Lib.hid (ws_step hu)
      have HHS := Lib.hid (hs_step hu)
      rw [hxr] at HWS HHS
      clear hf hx hxi hBW hu
      go_upto_region 5 with (fail)
      change Code.wp _ _ _ _ (wr.alloc (cbox x))
      have QT := Lib.hid (HT.out.alloc (cbox x))
      have QB := Lib.hid (bel_alloc HB.out (by simp) (cbox x))
      have QC := Lib.hid (cbox_new wr x)
      have QN : Hid (∀ g, wr.heap.size ≤ g → u4.ownBlock ≠ some g) := Lib.hid HT.out.far
      have QN2 : Hid (∀ g, wr.heap.size ≤ g → u5.ownBlock ≠ some g) := Lib.hid HT.out.swap.far
      have QS : Hid (wr.heap.size < (wr.alloc (cbox x)).heap.size) := Lib.hid (by simp)
      generalize wr.alloc (cbox x) = wq at QT QB QC QS ⊢
      obtain ⟨-, -, -, q3, q4, -, -⟩ := QC.out
      rw [Nat.zero_add] at q3 q4
      have hbs : Hid (w.heap.size + 1 ≤ (w.alloc (cbox ⟨ck, cr, cid, some ⟨b, o, none⟩, t.kids.length, ccap⟩)).heap.size) := Lib.hid (by simp)
      have TD := Lib.hid QT.out.drew
      have BD := Lib.hid QB.out.drew
      have S0 : Hid (wq.drew.cell? ⟨wr.heap.size, 3, none⟩ = some (.int .i64 x.r.w) ∧ wq.drew.cell? ⟨wr.heap.size, 4, none⟩ = some (.int .i64 x.r.h)) := Lib.hid ⟨q3, q4⟩
      have HL1 : Hid (((wsT t).take k).length ≤ 100000) := Lib.hid (by simp [wsT]; omega)
      have HL2 : Hid (((hsT t).take k).length ≤ 100000) := Lib.hid (by simp [hsT]; omega)
      clear c0 c1 c2 c3 c4 c5 c6
      go_wp2
      go_region_held3 (fun W => W.cell? ⟨wr.heap.size, 3, none⟩ = some (.int .i64 x.r.w) ∧ W.cell? ⟨wr.heap.size, 4, none⟩ = some (.int .i64 x.r.h)) (first | exact S0.out | exact cells2_alloc _ S0.out | exact cells2_alloc _ (cells2_alloc _ S0.out) | exact S6.out | exact cells2_alloc _ S6.out | exact S7.out)
        (first
          | (refine step_twoI rfl _ _ rfl (w.heap.size + 1) u4 u5 _ _ _ x.r.w rfl (by first | exact TD.out.alloc _ | exact (TD.out.alloc _).alloc _) rfl (by simp) HL1.out (w.alloc (cbox ⟨ck, cr, cid, some ⟨b, o, none⟩, t.kids.length, ccap⟩)) (by first | exact bel_alloc BD.out hbs.out _ | exact bel_alloc (bel_alloc BD.out hbs.out _) hbs.out _) hbs.out ?_
             intro v6 w6 hT6 hB6 hg6
             have T6 := Lib.hid hT6.swap
             have B6 := Lib.hid hB6
             have F6 := Lib.hid (fun (a : Addr) (v : Value) hc (hn : wr.heap.size ≤ a.block) => gb_cell (a := a) (v := v) hg6 hc (QN.out a.block hn))
             have S6 : Hid (w6.cell? ⟨wr.heap.size, 3, none⟩ = some (.int .i64 x.r.w) ∧ w6.cell? ⟨wr.heap.size, 4, none⟩ = some (.int .i64 x.r.h)) := Lib.hid (by
               first
               | exact ⟨F6.out _ _ (cells2_alloc _ S0.out).1 (Nat.le_refl _), F6.out _ _ (cells2_alloc _ S0.out).2 (Nat.le_refl _)⟩
               | exact ⟨F6.out _ _ (cells2_alloc _ (cells2_alloc _ S0.out)).1 (Nat.le_refl _), F6.out _ _ (cells2_alloc _ (cells2_alloc _ S0.out)).2 (Nat.le_refl _)⟩)
             clear hT6 hB6 hg6)
          | (refine step_twoI rfl _ _ rfl (w.heap.size + 1) u5 _ _ _ _ x.r.h rfl (by first | exact T6.out | exact T6.out.alloc _) rfl (by first | (simp; done) | (refine F6.out _ _ ?_ ?_ <;> (have := QS.out) <;> simp <;> omega)) HL2.out (w.alloc (cbox ⟨ck, cr, cid, some ⟨b, o, none⟩, t.kids.length, ccap⟩)) (by first | exact B6.out | exact bel_alloc B6.out hbs.out _) hbs.out ?_
             intro v7 w7 hT7 hB7 hg7
             have T7 := Lib.hid hT7.swap
             have B7 := Lib.hid hB7
             have F7 := Lib.hid (fun (a : Addr) (v : Value) hc (hn : wr.heap.size ≤ a.block) => gb_cell (a := a) (v := v) hg7 hc (QN2.out a.block hn))
             have S7 : Hid (w7.cell? ⟨wr.heap.size, 3, none⟩ = some (.int .i64 x.r.w) ∧ w7.cell? ⟨wr.heap.size, 4, none⟩ = some (.int .i64 x.r.h)) := Lib.hid (by
               first
               | exact ⟨F7.out _ _ S6.out.1 (Nat.le_refl _), F7.out _ _ S6.out.2 (Nat.le_refl _)⟩
               | exact ⟨F7.out _ _ (cells2_alloc _ S6.out).1 (Nat.le_refl _), F7.out _ _ (cells2_alloc _ S6.out).2 (Nat.le_refl _)⟩)
             clear hT7 hB7 hg7))
      all_goals
        go_wp2
        go_roundg (gk - 1)
        case measure => have := HG.out; omega
        case rel => exact ⟨k + 1, by have := HG.out; omega, by omega, by go_num, by rw [HWS.out, HHS.out]; exact T7.out, B7.out⟩
    · obtain rfl : k = t.kids.length := by omega
      have hkl : ((t.kids.length : Int) < (t.kids.length : Int)) = False := by simp
      have HT2 : Hid (TwoI wr (w.heap.size + 1) u4 (wsT t) u5 (hsT t)) := Lib.hid (by
        have h := HT.out
        rw [List.take_of_length_le (by rw [ws_len]; exact Nat.le_refl _), List.take_of_length_le (by rw [hs_len]; exact Nat.le_refl _)] at h
        exact h)
      obtain ⟨c0, -⟩ := HC.out.up (HB.out.mono (by simp))
      have HBE := Lib.hid (HA.out.trans (HB.out.mono (by omega)))
      by_cases h3 : ck = 3
      · subst h3
        go_wp2
        go_ret2
        exact ⟨u5, by unfold axT; rw [if_pos hck]; rfl, by unfold sizesT; rw [if_pos hck]; exact HT2.out.own2.row, HBE.out⟩
      · have d3 : (ck == 3) = false := by simpa using h3
        have hne : ¬ t.k = 3 := by rw [hck]; exact h3
        go_wp2
        go_ret2
        exact ⟨u4, by unfold axT; rw [if_neg hne]; rfl, by unfold sizesT; rw [if_neg hne]; exact HT2.out.own1.row, HBE.out⟩
end Go.Proofs.Ytakofjbjciljjaa
