/- Two rows of numbers of the call's own, side by side: one is added to, the other stays. -/
import Derived.Test.YtajhojbnpajelaaFind
import Derived.Test.YtajhojbnpajelaaCutC
namespace Go.Proofs.Ytajhojbnpajelaa
open Go.RowKit

def OwnN (w : World) (base : Nat) (v : Value) (l : List Int) : Prop := w.ownsRow base 3 1 v l.length (ints l)
theorem iinfo : ∃ i, Try.prog.info? 3 = some i ∧ i.zero = some (.int .i64 0) ∧ i.size = 1 ∧ i.bytes = 8 := info_parts (P := Try.prog) (e := 3) (z := .int .i64 0) (size := 1) (bytes := 8) (by kernel_rfl)
theorem OwnN.up {w w' : World} {base : Nat} {v : Value} {l : List Int} (h : OwnN w base v l) (hb : Below w.heap.size w w') : OwnN w' base v l := owns_up h hb
theorem OwnN.nil (w : World) (base : Nat) : OwnN w base (.slice none 0 0) [] := World.ownsRow_nil w base _ _
theorem OwnN.empty (w : World) (base : Nat) (hb : base ≤ w.heap.size) : OwnN (w.alloc (.cells #[] 3)) base (.slice (some ⟨w.heap.size, 0, none⟩) 0 0) [] := World.ownsRow_made w #[] 0 hb (Nat.zero_le _) (by simp)
theorem OwnN.row {w : World} {base : Nat} {v : Value} {l : List Int} (h : OwnN w base v l) : IRow w v l := by
  rcases h.2 with ⟨rfl, hn⟩ | ⟨g, cap, cur, rfl, hb, hg, hn, hm, hs, ht⟩
  · exact .inl ⟨_, _, rfl, List.length_eq_zero_iff.1 hn⟩
  · refine .inr ⟨g, 0, cap, rfl, fun j r hj => ?_⟩
    have := h.cells (g := g) rfl j (.int .i64 r) (by simp [ints, hj])
    rw [Go.WideShapes.add_plain] at this
    exact this

theorem appendI_place {w : World} {base : Nat} {v : Value} {l : List Int} (h : OwnN w base v l) (g : Nat) (r : Int) (hr : w.cell? ⟨g, 0, none⟩ = some (.int .i64 r)) (hlen : l.length ≤ 1000) (hbase : base ≤ w.heap.size) (ty : TypeId) :
    ∃ v' w', (Builtin.append_ #[32, 32] ty #[v, .slice (some ⟨g, 0, none⟩) 1 1]).run Try.prog w = .ok v' w' ∧ OwnN w' base v' (l ++ [r]) ∧ w.grownBy w' v.ownBlock ∧ (v'.ownBlock = v.ownBlock ∨ v'.ownBlock = some w.heap.size) := by
  obtain ⟨i, hi, hz0, hz1, hz2⟩ := iinfo
  have hnews : ∀ j u, (ints [r])[j]? = some u → w.cell? ((⟨g, 0, none⟩ : Addr).add j) = some u := fun j u hu => by
    cases j with
    | zero => simp [ints] at hu; subst hu; simpa [Go.WideShapes.add_plain] using hr
    | succ j => simp [ints] at hu
  have hl : (ints [r]).length = 1 * 1 := rfl
  have hil : (ints l).length = l.length := ints_length l
  obtain ⟨v', w', hrun, hown, hg, -⟩ := run_append_own (P := Try.prog) w base 32 ty 3 i (.int .i64 0) 1 8 Try.underlying32 hi hz0 hz1 hz2 rfl (by decide) v l.length (ints l) h ⟨g, 0, none⟩ 1 1 (ints [r]) hl hnews (ints_one _) (by unfold maxLen; omega) (by omega) hbase
  refine ⟨v', w', hrun, ?_, hg, ?_⟩
  · have h2 : w'.ownsRow base 3 1 v' (l ++ [r]).length (ints (l ++ [r])) := by
      rw [ints_append, List.length_append]; exact hown
    exact h2
  · rcases h.2 with ⟨rfl, hn⟩ | ⟨g', cap, cur, rfl, hbg, hgg, hnc, hcm, hcs, htake⟩
    · have hr1 := run_append_nil (P := Try.prog) w 32 ty 3 i (.int .i64 0) Try.underlying32 hi hz0 ⟨g, 0, none⟩ 1 1 (ints [r]) (by rw [hz1]; exact hl) hnews (by omega) (by omega) (by rw [hz2]; omega)
      rw [hrun] at hr1
      right
      cases hr1
      rfl
    · by_cases hroom : l.length + 1 ≤ cap
      · have hr1 := run_append_room (P := Try.prog) w 32 ty 3 i Try.underlying32 hi g' l.length cap cur hgg ⟨g, 0, none⟩ 1 1 (ints [r]) (by rw [hz1]; exact hl) hnews (ints_one _) hroom (by rw [hz1, hl, hcs]; omega)
        rw [hrun] at hr1
        left
        cases hr1
        rfl
      · have hr1 := run_append_grow (P := Try.prog) w 32 ty 3 i (.int .i64 0) Try.underlying32 hi hz0 ⟨g', 0, none⟩ l.length cap (ints l) (by rw [hz1]; exact h.1) (h.cells (g := g') rfl) ⟨g, 0, none⟩ 1 1 (ints [r]) (by rw [hz1]; exact hl) hnews (by omega) (by omega) (growslice_fits (by omega) (by rw [hz2]; omega))
        rw [hrun] at hr1
        right
        cases hr1
        rfl
theorem OwnN.kept {w w' : World} {base : Nat} {v : Value} {l : List Int} {r : Option Nat} (h : OwnN w base v l) (hg : w.grownBy w' r) (hn : v.ownBlock = none ∨ v.ownBlock ≠ r) : OwnN w' base v l := World.ownsRow.kept h hg hn

/-- Two own rows, not in one block. -/
structure TwoI (w : World) (base : Nat) (v1 : Value) (l1 : List Int) (v2 : Value) (l2 : List Int) : Prop where
  own1 : OwnN w base v1 l1
  own2 : OwnN w base v2 l2
  ne : ∀ k, v1.ownBlock = some k → v2.ownBlock ≠ some k
theorem TwoI.swap {w : World} {base : Nat} {v1 : Value} {l1 : List Int} {v2 : Value} {l2 : List Int} (h : TwoI w base v1 l1 v2 l2) : TwoI w base v2 l2 v1 l1 := ⟨h.own2, h.own1, fun k h2 h1 => h.ne k h1 h2⟩
theorem TwoI.up {w w' : World} {base : Nat} {v1 : Value} {l1 : List Int} {v2 : Value} {l2 : List Int} (h : TwoI w base v1 l1 v2 l2) (hb : Below w.heap.size w w') : TwoI w' base v1 l1 v2 l2 := ⟨h.own1.up hb, h.own2.up hb, h.ne⟩
theorem TwoI.alloc {w : World} {base : Nat} {v1 : Value} {l1 : List Int} {v2 : Value} {l2 : List Int} (h : TwoI w base v1 l1 v2 l2) (o : Obj) : TwoI (w.alloc o) base v1 l1 v2 l2 := h.up ((Below.refl _ _).alloc (Nat.le_refl _) _)
/-- A block that is new: no row of the two lies there. -/
def Far (base : Nat) (v1 v2 : Value) (g : Nat) : Prop := v1.ownBlock ≠ some g ∧ v2.ownBlock ≠ some g

/-- One of two is added to. -/
theorem wp_twoI {w : World} {o : Oper} {a : Act} {K : Act → World → Prop} {Q : Exit → Act → World → Prop} (s x : Operand)
    (ho : o.op = .call { callee := .builtin .append, args := #[s, x], argTypes := #[32, 32] })
    (base : Nat) (v1 v2 : Value) (l1 l2 : List Int) (g : Nat) (r : Int) (hs : a.eval s = v1) (hT : TwoI w base v1 l1 v2 l2) (hx : a.eval x = .slice (some ⟨g, 0, none⟩) 1 1) (hr : w.cell? ⟨g, 0, none⟩ = some (.int .i64 r)) (hlen : l1.length ≤ 1000)
    (w0 : World) (hb : Below base w0 w) (hbase0 : base ≤ w0.heap.size)
    (h : ∀ v' w', TwoI w' base v' (l1 ++ [r]) v2 l2 → Below base w0 w' → w.grownBy w' v1.ownBlock → K (a.put o.dst v') w') : o.wp Try.prog a w K Q := by
  have hbase : base ≤ w.heap.size := Nat.le_trans hbase0 hb.size
  obtain ⟨v', w', hrun, hown, hg, hpl⟩ := appendI_place hT.own1 g r hr hlen hbase o.type
  have hT' : TwoI w' base v' (l1 ++ [r]) v2 l2 := by
    refine ⟨hown, hT.own2.kept hg ?_, fun k h1 h2 => ?_⟩
    · cases h2 : v2.ownBlock with
      | none => exact .inl rfl
      | some k => exact .inr fun h1 => hT.ne k h1.symm h2
    · rcases hpl with hp | hp
      · exact hT.ne k (hp ▸ h1) h2
      · have h3 := (hT.own2.lt k h2).2
        rw [hp] at h1
        have := Option.some.inj h1
        omega
  have hb' : Below base w0 w' := hb.grown hg hbase (fun k hk => (hT.own1.lt k hk).1)
  unfold Oper.wp execOp
  simp only [ho, resolve, invoke, builtin, Sem.run_bind, Sem.run_pure, Result.andThen_ok, List.map_toArray, List.map_cons, List.map_nil, hs, hx, hrun]
  exact h v' w' hT' hb' hg
theorem step_twoI {w : World} {ops : Array Oper} {o : Oper} {a : Act} {K : Act → World → Prop} {Q : Exit → Act → World → Prop} {E : Prop} (hgd : o.guard = none) (s x : Operand)
    (ho : o.op = .call { callee := .builtin .append, args := #[s, x], argTypes := #[32, 32] })
    (base : Nat) (v1 v2 : Value) (l1 l2 : List Int) (g : Nat) (r : Int) (hs : a.eval s = v1) (hT : TwoI w base v1 l1 v2 l2) (hx : a.eval x = .slice (some ⟨g, 0, none⟩) 1 1) (hr : w.cell? ⟨g, 0, none⟩ = some (.int .i64 r)) (hlen : l1.length ≤ 1000)
    (w0 : World) (hb : Below base w0 w) (hbase0 : base ≤ w0.heap.size)
    (h : ∀ v' w', TwoI w' base v' (l1 ++ [r]) v2 l2 → Below base w0 w' → w.grownBy w' v1.ownBlock → K (a.put o.dst v') w') : if Region.wanted o (yielded ops a.tmps) = true then Oper.wp Try.prog o a w K Q else E := by
  have hw : Region.wanted o (yielded ops a.tmps) = true := by simp [Region.wanted, hgd]
  rw [if_pos hw]
  exact wp_twoI s x ho base v1 v2 l1 l2 g r hs hT hx hr hlen w0 hb hbase0 h
theorem wpList_twoI {w : World} {ops : Array Oper} {rest : List Oper} {o : Oper} {a : Act} {Q : Exit → Act → World → Prop} (hgd : o.guard = none) (s x : Operand)
    (ho : o.op = .call { callee := .builtin .append, args := #[s, x], argTypes := #[32, 32] })
    (base : Nat) (v1 v2 : Value) (l1 l2 : List Int) (g : Nat) (r : Int) (hs : a.eval s = v1) (hT : TwoI w base v1 l1 v2 l2) (hx : a.eval x = .slice (some ⟨g, 0, none⟩) 1 1) (hr : w.cell? ⟨g, 0, none⟩ = some (.int .i64 r)) (hlen : l1.length ≤ 1000)
    (w0 : World) (hb : Below base w0 w) (hbase0 : base ≤ w0.heap.size)
    (h : ∀ v' w', TwoI w' base v' (l1 ++ [r]) v2 l2 → Below base w0 w' → w.grownBy w' v1.ownBlock → wpList Try.prog ops Q rest (a.put o.dst v') w') : wpList Try.prog ops Q (o :: rest) a w :=
  wpList_plain hgd fun _ hK => wp_twoI s x ho base v1 v2 l1 l2 g r hs hT hx hr hlen w0 hb hbase0 fun v' w' h1 h2 h3 => hK _ _ (h v' w' h1 h2 h3)
end Go.Proofs.Ytajhojbnpajelaa
