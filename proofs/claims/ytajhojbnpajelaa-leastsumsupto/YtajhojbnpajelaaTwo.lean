/- Two rows of rectangles of the call's own, side by side: one is added to, the other stays. -/
import Derived.Test.YtajhojbnpajelaaOwn
namespace Go.Proofs.Ytajhojbnpajelaa
open Go.RowKit

/-- Behind an append the row lies where it lay, or in a new block. -/
theorem append_place {w : World} {base : Nat} {v : Value} {l : List R} (h : Owns w base v l) (g : Nat) (r : R) (hr : RAt w g 0 r) (hlen : l.length ≤ 1000) (hbase : base ≤ w.heap.size) (ty : TypeId) :
    ∃ v' w', (Builtin.append_ #[43, 43] ty #[v, .slice (some ⟨g, 0, none⟩) 1 1]).run Try.prog w = .ok v' w' ∧ Owns w' base v' (l ++ [r]) ∧ w.grownBy w' v.ownBlock ∧ (v'.ownBlock = v.ownBlock ∨ v'.ownBlock = some w.heap.size) := by
  obtain ⟨i, hi, hz0, hz1, hz2⟩ := rinfo
  have hnews : ∀ j u, (flat [r])[j]? = some u → w.cell? ((⟨g, 0, none⟩ : Addr).add j) = some u := rat_cells (fun j q hq => by
    cases j with
    | zero => simp at hq; subst hq; simpa using hr
    | succ j => simp at hq)
  have hl : (flat [r]).length = 1 * 4 := rfl
  obtain ⟨v', w', hrun, hown, hg, -⟩ := run_append_own (P := Try.prog) w base 43 ty 23 i zeroR 4 32 Try.underlying43 hi hz0 hz1 hz2 rfl (by decide) v l.length (flat l) h ⟨g, 0, none⟩ 1 1 (flat [r]) hl hnews (flat_oneCell _) (by unfold maxLen; omega) (by omega) hbase
  refine ⟨v', w', hrun, ?_, hg, ?_⟩
  · have h2 : w'.ownsRow base 23 4 v' (l ++ [r]).length (flat (l ++ [r])) := by
      rw [flat_append, List.length_append]; exact hown
    exact h2
  · rcases h.2 with ⟨rfl, hn⟩ | ⟨g', cap, cur, rfl, hbg, hgg, hnc, hcm, hcs, htake⟩
    · have hr1 := run_append_nil (P := Try.prog) w 43 ty 23 i zeroR Try.underlying43 hi hz0 ⟨g, 0, none⟩ 1 1 (flat [r]) (by rw [hz1]; exact hl) hnews (by omega) (by omega) (by rw [hz2]; omega)
      rw [hrun] at hr1
      right
      cases hr1
      rfl
    · by_cases hroom : l.length + 1 ≤ cap
      · have hr1 := run_append_room (P := Try.prog) w 43 ty 23 i Try.underlying43 hi g' l.length cap cur hgg ⟨g, 0, none⟩ 1 1 (flat [r]) (by rw [hz1]; exact hl) hnews (flat_oneCell _) hroom (by rw [hz1, hl, hcs]; omega)
        rw [hrun] at hr1
        left
        cases hr1
        rfl
      · have hr1 := run_append_grow (P := Try.prog) w 43 ty 23 i zeroR Try.underlying43 hi hz0 ⟨g', 0, none⟩ l.length cap (flat l) (by rw [hz1]; exact h.1) (h.cells (g := g') rfl) ⟨g, 0, none⟩ 1 1 (flat [r]) (by rw [hz1]; exact hl) hnews (by omega) (by omega) (growslice_fits (by omega) (by rw [hz2]; omega))
        rw [hrun] at hr1
        right
        cases hr1
        rfl

/-- Two own rows, not in one block. -/
structure Two (w : World) (base : Nat) (v1 : Value) (l1 : List R) (v2 : Value) (l2 : List R) : Prop where
  own1 : Owns w base v1 l1
  own2 : Owns w base v2 l2
  ne : ∀ k, v1.ownBlock = some k → v2.ownBlock ≠ some k
theorem Two.swap {w : World} {base : Nat} {v1 : Value} {l1 : List R} {v2 : Value} {l2 : List R} (h : Two w base v1 l1 v2 l2) : Two w base v2 l2 v1 l1 := ⟨h.own2, h.own1, fun k h2 h1 => h.ne k h1 h2⟩
theorem Two.up {w w' : World} {base : Nat} {v1 : Value} {l1 : List R} {v2 : Value} {l2 : List R} (h : Two w base v1 l1 v2 l2) (hb : Below w.heap.size w w') : Two w' base v1 l1 v2 l2 := ⟨h.own1.up hb, h.own2.up hb, h.ne⟩

/-- One of two is added to. -/
theorem wp_two {w : World} {o : Oper} {a : Act} {K : Act → World → Prop} {Q : Exit → Act → World → Prop} (s x : Operand)
    (ho : o.op = .call { callee := .builtin .append, args := #[s, x], argTypes := #[43, 43] })
    (base : Nat) (v1 v2 : Value) (l1 l2 : List R) (g : Nat) (r : R) (hs : a.eval s = v1) (hT : Two w base v1 l1 v2 l2) (hx : a.eval x = .slice (some ⟨g, 0, none⟩) 1 1) (hr : RAt w g 0 r) (hlen : l1.length ≤ 1000)
    (w0 : World) (hb : Below base w0 w) (hbase0 : base ≤ w0.heap.size)
    (h : ∀ v' w', Two w' base v' (l1 ++ [r]) v2 l2 → Below base w0 w' → K (a.put o.dst v') w') : o.wp Try.prog a w K Q := by
  have hbase : base ≤ w.heap.size := Nat.le_trans hbase0 hb.size
  obtain ⟨v', w', hrun, hown, hg, hpl⟩ := append_place hT.own1 g r hr hlen hbase o.type
  have hT' : Two w' base v' (l1 ++ [r]) v2 l2 := by
    refine ⟨hown, hT.own2.kept hg ?_, fun k h1 h2 => ?_⟩
    · cases h2 : v2.ownBlock with
      | none => exact .inl rfl
      | some k => exact .inr fun h1 => hT.ne k h1.symm h2
    · rcases hpl with hp | hp
      · exact hT.ne k (hp ▸ h1) h2
      · have h3 := (hT.own2.lt k h2).2
        rw [hp] at h1
        have := Option.some.inj h1
        omega
  have hb' : Below base w0 w' := hb.grown hg hbase (fun k hk => (hT.own1.lt k hk).1)
  unfold Oper.wp execOp
  simp only [ho, resolve, invoke, builtin, Sem.run_bind, Sem.run_pure, Result.andThen_ok, List.map_toArray, List.map_cons, List.map_nil, hs, hx, hrun]
  exact h v' w' hT' hb'
theorem wpList_two {w : World} {ops : Array Oper} {rest : List Oper} {o : Oper} {a : Act} {Q : Exit → Act → World → Prop} (hgd : o.guard = none) (s x : Operand)
    (ho : o.op = .call { callee := .builtin .append, args := #[s, x], argTypes := #[43, 43] })
    (base : Nat) (v1 v2 : Value) (l1 l2 : List R) (g : Nat) (r : R) (hs : a.eval s = v1) (hT : Two w base v1 l1 v2 l2) (hx : a.eval x = .slice (some ⟨g, 0, none⟩) 1 1) (hr : RAt w g 0 r) (hlen : l1.length ≤ 1000)
    (w0 : World) (hb : Below base w0 w) (hbase0 : base ≤ w0.heap.size)
    (h : ∀ v' w', Two w' base v' (l1 ++ [r]) v2 l2 → Below base w0 w' → wpList Try.prog ops Q rest (a.put o.dst v') w') : wpList Try.prog ops Q (o :: rest) a w :=
  wpList_plain hgd fun _ hK => wp_two s x ho base v1 v2 l1 l2 g r hs hT hx hr hlen w0 hb hbase0 fun v' w' h1 h2 => hK _ _ (h v' w' h1 h2)
/-- .. as a step of a region that draws its order. -/
theorem step_two {w : World} {ops : Array Oper} {o : Oper} {a : Act} {K : Act → World → Prop} {Q : Exit → Act → World → Prop} {E : Prop} (hgd : o.guard = none) (s x : Operand)
    (ho : o.op = .call { callee := .builtin .append, args := #[s, x], argTypes := #[43, 43] })
    (base : Nat) (v1 v2 : Value) (l1 l2 : List R) (g : Nat) (r : R) (hs : a.eval s = v1) (hT : Two w base v1 l1 v2 l2) (hx : a.eval x = .slice (some ⟨g, 0, none⟩) 1 1) (hr : RAt w g 0 r) (hlen : l1.length ≤ 1000)
    (w0 : World) (hb : Below base w0 w) (hbase0 : base ≤ w0.heap.size)
    (h : ∀ v' w', Two w' base v' (l1 ++ [r]) v2 l2 → Below base w0 w' → K (a.put o.dst v') w') : if Region.wanted o (yielded ops a.tmps) = true then Oper.wp Try.prog o a w K Q else E := by
  have hw : Region.wanted o (yielded ops a.tmps) = true := by simp [Region.wanted, hgd]
  rw [if_pos hw]
  exact wp_two s x ho base v1 v2 l1 l2 g r hs hT hx hr hlen w0 hb hbase0 h
end Go.Proofs.Ytajhojbnpajelaa
