/- Rectangles, many or none, added to a row of one's own. -/
import Derived.Test.YtajhojbnpajelaaBetween
import Derived.Deep.AppendLies
namespace Go.Proofs.Ytajhojbnpajelaa
open Go.RowKit

theorem runR_zero {w : World} {base : Nat} {v : Value} {l : List R} (h : Owns w base v l) (ty : TypeId) (a : Option Addr) (c : Nat) : (Builtin.append_ #[43, 43] ty #[v, .slice a 0 c]).run Try.prog w = .ok v w := by
  obtain ⟨i, hi, hz0, hz1, hz2⟩ := rinfo
  have ht := Try.underlying43
  have hz : ∀ ad : Addr, (loadCells ad 0).run Try.prog w = .ok #[] w := fun ad => by first | rfl | simp [loadCells]
  rcases h.2 with ⟨rfl, hn⟩ | ⟨g, cap, cur, rfl, -, -, hnc, -⟩
  · cases a <;> simp [Builtin.append_, run_underlying ht, sizeOf, typeInfo, hi, Builtin.lenOf, Builtin.firstCells, hz]
  · cases a <;> simp [Builtin.append_, run_underlying ht, sizeOf, typeInfo, hi, Builtin.lenOf, Builtin.firstCells, hnc, storeCells, hz]

theorem rrow_cells {w : World} {a : Option Addr} {cap : Nat} {l : List R} (h : RRow w (.slice a l.length cap) l) (hp : 0 < l.length) : ∃ ad, a = some ad ∧ ∀ j u, (flat l)[j]? = some u → w.cell? (ad.add j) = some u := by
  obtain ⟨b, o, rfl, hf⟩ := h.place hp
  exact ⟨⟨b, o, none⟩, rfl, rat_cells hf⟩

/-- append(own.., rectangles...): what is owned then is both; where it lies. -/
theorem wpList_append_rects {w : World} {ops : Array Oper} {rest : List Oper} {o : Oper} {a : Act} {Q : Exit → Act → World → Prop} (hgd : o.guard = none) (s x : Operand)
    (ho : o.op = .call { callee := .builtin .append, args := #[s, x], argTypes := #[43, 43] })
    (base : Nat) (v src : Value) (xs news : List R) (hs : a.eval s = v) (hown : Owns w base v xs) (hx : a.eval x = src) (hrow : RRow w src news)
    (h63 : xs.length + news.length ≤ 1000000) (w0 : World) (hb : Below base w0 w) (hbase0 : base ≤ w0.heap.size)
    (h : ∀ v' w', Owns w' base v' (xs ++ news) → Below base w0 w' → w.grownBy w' v.ownBlock → (v'.ownBlock = v.ownBlock ∨ v'.ownBlock = some w.heap.size) → wpList Try.prog ops Q rest (a.put o.dst v') w') : wpList Try.prog ops Q (o :: rest) a w := by
  have hbase : base ≤ w.heap.size := Nat.le_trans hbase0 hb.size
  obtain ⟨i, hi, hz0, hz1, hz2⟩ := rinfo
  obtain ⟨ad', cap, rfl⟩ := hrow.shape
  rcases Nat.eq_zero_or_pos news.length with h0 | hp
  · have hn : news = [] := List.length_eq_zero_iff.1 h0
    subst hn
    refine wpList_plain hgd fun K hK => ?_
    unfold Oper.wp execOp
    simp only [ho, resolve, invoke, builtin, Sem.run_bind, Sem.run_pure, Result.andThen_ok, List.map_toArray, List.map_cons, List.map_nil, hs, hx]
    rw [show ([] : List R).length = 0 from rfl, runR_zero hown]
    refine hK _ _ (h v w (by simpa using hown) hb ?_ (.inl rfl))
    exact ⟨rfl, rfl, rfl, Nat.le_refl _, fun _ _ _ => rfl⟩
  · obtain ⟨ad, rfl, hc⟩ := rrow_cells hrow hp
    refine wpList_append_lies w hgd s x 43 ho base 23 i zeroR 4 32 Try.underlying43 hi hz0 hz1 hz2 rfl (by decide) v xs.length (flat xs) hs hown ad news.length cap (flat news) hx (flat_length _) hc (flat_oneCell _) hp (by unfold maxLen; omega) (by omega) hbase w.heap.size rfl ?_
    intro g cap' w' g1 g2 g3 _
    have g1' : Owns w' base (.slice (some ⟨g, 0, none⟩) (xs.length + news.length) cap') (xs ++ news) := by
      have : w'.ownsRow base 23 4 (.slice (some ⟨g, 0, none⟩) (xs.length + news.length) cap') (xs ++ news).length (flat (xs ++ news)) := by
        rw [flat_append, List.length_append]; exact g1
      exact this
    refine h _ w' g1' (hb.grown g2 hbase (fun k hk => (hown.lt k hk).1)) g2 ?_
    rcases g3 with g3 | g3
    · exact .inl (by rw [g3]; rfl)
    · exact .inr (by rw [g3]; rfl)
end Go.Proofs.Ytajhojbnpajelaa
