/- Texts of this seat, 3 in one file. -/
import Derived.Test.YtodcabaihhmhnaaG10
import Derived.Laws.AppendOwn
import Derived.Laws.AppendOwnNone
import Derived.Lib.SliceRun
import Derived.WideShapes
/- (This seat has no rect.Has: nothing but what it leans on.) -/
/- Rows of rectangles in memory of the call's own: how they are made, copied, added to. -/
namespace Go.Proofs.Ytodcabaihhmhnaa
open Go.RowKit

/-- The cells of rectangles, one behind the other. -/
def flat (l : List R) : List Value := l.flatMap enc
theorem flat_length (l : List R) : (flat l).length = l.length * 4 := by
  induction l with
  | nil => rfl
  | cons r l ih => simp only [flat, List.flatMap_cons, List.length_append] at *; rw [ih]; simp [enc]; omega
theorem flat_append (a b : List R) : flat (a ++ b) = flat a ++ flat b := by simp [flat]
theorem flat_one (r : R) : flat [r] = enc r := by simp [flat]
theorem flat_get (l : List R) (j c : Nat) (r : R) (hj : l[j]? = some r) (hc : c < 4) : (flat l)[j * 4 + c]? = (enc r)[c]? := by
  induction l generalizing j with
  | nil => simp at hj
  | cons q l ih =>
    have he : flat (q :: l) = enc q ++ flat l := by simp [flat]
    rw [he]
    have hq : (enc q).length = 4 := rfl
    cases j with
    | zero =>
      simp at hj; subst hj
      rw [List.getElem?_append_left (by omega)]
      simp
    | succ j =>
      rw [List.getElem?_append_right (by omega), hq, show (j + 1) * 4 + c - 4 = j * 4 + c by omega]
      exact ih j (by simpa using hj)
theorem flat_oneCell (l : List R) : ∀ u ∈ flat l, u.oneCell' = true := by
  intro u hu
  simp only [flat, List.mem_flatMap] at hu
  obtain ⟨r, -, hr⟩ := hu
  simp [enc] at hr
  rcases hr with rfl | rfl | rfl | rfl <;> rfl

/-- A row of the call's own. -/
def Owns (w : World) (base : Nat) (v : Value) (l : List R) : Prop := w.ownsRow base 23 4 v l.length (flat l)

theorem rat_of_flat {w : World} {x : Addr} {l : List R} (h : ∀ j u, (flat l)[j]? = some u → w.cell? (x.add j) = some u) (b o : Nat) (hx : x = ⟨b, o, none⟩) (j : Nat) (r : R) (hj : l[j]? = some r) : RAt w b (o + j * 4) r := by
  subst hx
  have hc : ∀ c, c < 4 → ∀ u, (enc r)[c]? = some u → w.cell? ⟨b, o + j * 4 + c, none⟩ = some u := fun c hc u hu => by
    have := h (j * 4 + c) u (by rw [flat_get l j c r hj hc]; exact hu)
    rw [Go.WideShapes.add_plain] at this
    rw [Nat.add_assoc]; exact this
  exact ⟨hc 0 (by omega) _ rfl, hc 1 (by omega) _ rfl, hc 2 (by omega) _ rfl, hc 3 (by omega) _ rfl⟩

theorem Owns.row {w : World} {base : Nat} {v : Value} {l : List R} (h : Owns w base v l) : RRow w v l := by
  rcases h.2 with ⟨rfl, hn⟩ | ⟨g, cap, cur, rfl, hb, hg, hn, hm, hs, ht⟩
  · exact .inl ⟨_, _, rfl, List.length_eq_zero_iff.1 hn⟩
  · exact .inr ⟨g, 0, cap, rfl, fun j r hj => rat_of_flat (h.cells (g := g) rfl) g 0 rfl j r hj⟩

theorem Owns.up {w w' : World} {base : Nat} {v : Value} {l : List R} (h : Owns w base v l) (hb : Below w.heap.size w w') : Owns w' base v l := by
  refine ⟨h.1, ?_⟩
  rcases h.2 with hn | ⟨g, cap, cur, rfl, hg0, hg, rest⟩
  · exact .inl hn
  · exact .inr ⟨g, cap, cur, rfl, hg0, (hb.block g (Array.getElem?_eq_some_iff.1 hg).1).trans hg, rest⟩

theorem Owns.nil (w : World) (base : Nat) : Owns w base (.slice none 0 0) [] := World.ownsRow_nil w base _ _

theorem rat_cells {w : World} {b o : Nat} {l : List R} (h : ∀ (j : Nat) (r : R), l[j]? = some r → RAt w b (o + j * 4) r) : ∀ j u, (flat l)[j]? = some u → w.cell? ((⟨b, o, none⟩ : Addr).add j) = some u := fun j u hu => by
  have hj : j / 4 < l.length := by
    rcases Nat.lt_or_ge j (flat l).length with h1 | h1
    · rw [flat_length] at h1; omega
    · rw [List.getElem?_eq_none h1] at hu; cases hu
  have hr := List.getElem?_eq_getElem hj
  have hc : j % 4 < 4 := Nat.mod_lt _ (by omega)
  have e : j / 4 * 4 + j % 4 = j := by omega
  have h1 := flat_get l (j / 4) (j % 4) _ hr hc
  rw [e, hu] at h1
  obtain ⟨a0, a1, a2, a3⟩ := h _ _ hr
  rw [Go.WideShapes.add_plain]
  generalize hm : j % 4 = m at *
  have e' : o + j = o + j / 4 * 4 + m := by omega
  rw [e']
  match m, hc with
  | 0, _ => simp [enc] at h1; rw [h1]; exact a0
  | 1, _ => simp [enc] at h1; rw [h1]; exact a1
  | 2, _ => simp [enc] at h1; rw [h1]; exact a2
  | 3, _ => simp [enc] at h1; rw [h1]; exact a3

abbrev zeroR : Value := .agg #[.int .i64 0, .int .i64 0, .int .i64 0, .int .i64 0]
theorem rinfo : ∃ i, Try.prog.info? 23 = some i ∧ i.zero = some zeroR ∧ i.size = 4 ∧ i.bytes = 32 := info_parts (P := Try.prog) (e := 23) (z := zeroR) (size := 4) (bytes := 32) (by kernel_rfl)

end Go.Proofs.Ytodcabaihhmhnaa
/- Two rows of rectangles of the call's own, side by side: one is added to, the other stays. -/
namespace Go.Proofs.Ytodcabaihhmhnaa
open Go.RowKit

/-- Behind an append the row lies where it lay, or in a new block. -/
theorem append_place {w : World} {base : Nat} {v : Value} {l : List R} (h : Owns w base v l) (g : Nat) (r : R) (hr : RAt w g 0 r) (hlen : l.length ≤ 100000) (hbase : base ≤ w.heap.size) (ty : TypeId) :
    ∃ v' w', (Builtin.append_ #[62, 62] ty #[v, .slice (some ⟨g, 0, none⟩) 1 1]).run Try.prog w = .ok v' w' ∧ Owns w' base v' (l ++ [r]) ∧ w.grownBy w' v.ownBlock ∧ (v'.ownBlock = v.ownBlock ∨ v'.ownBlock = some w.heap.size) := by
  obtain ⟨i, hi, hz0, hz1, hz2⟩ := rinfo
  have hnews : ∀ j u, (flat [r])[j]? = some u → w.cell? ((⟨g, 0, none⟩ : Addr).add j) = some u := rat_cells (fun j q hq => by
    cases j with
    | zero => simp at hq; subst hq; simpa using hr
    | succ j => simp at hq)
  have hl : (flat [r]).length = 1 * 4 := rfl
  obtain ⟨v', w', hrun, hown, hg, -⟩ := run_append_own (P := Try.prog) w base 62 ty 23 i zeroR 4 32 Try.underlying62 hi hz0 hz1 hz2 rfl (by decide) v l.length (flat l) h ⟨g, 0, none⟩ 1 1 (flat [r]) hl hnews (flat_oneCell _) (by unfold maxLen; omega) (by omega) hbase
  refine ⟨v', w', hrun, ?_, hg, ?_⟩
  · have h2 : w'.ownsRow base 23 4 v' (l ++ [r]).length (flat (l ++ [r])) := by
      rw [flat_append, List.length_append]; exact hown
    exact h2
  · rcases h.2 with ⟨rfl, hn⟩ | ⟨g', cap, cur, rfl, hbg, hgg, hnc, hcm, hcs, htake⟩
    · have hr1 := run_append_nil (P := Try.prog) w 62 ty 23 i zeroR Try.underlying62 hi hz0 ⟨g, 0, none⟩ 1 1 (flat [r]) (by rw [hz1]; exact hl) hnews (by omega) (by omega) (by rw [hz2]; omega)
      rw [hrun] at hr1
      right
      cases hr1
      rfl
    · by_cases hroom : l.length + 1 ≤ cap
      · have hr1 := run_append_room (P := Try.prog) w 62 ty 23 i Try.underlying62 hi g' l.length cap cur hgg ⟨g, 0, none⟩ 1 1 (flat [r]) (by rw [hz1]; exact hl) hnews (flat_oneCell _) hroom (by rw [hz1, hl, hcs]; omega)
        rw [hrun] at hr1
        left
        cases hr1
        rfl
      · have hr1 := run_append_grow (P := Try.prog) w 62 ty 23 i zeroR Try.underlying62 hi hz0 ⟨g', 0, none⟩ l.length cap (flat l) (by rw [hz1]; exact h.1) (h.cells (g := g') rfl) ⟨g, 0, none⟩ 1 1 (flat [r]) (by rw [hz1]; exact hl) hnews (by omega) (by omega) (growslice_fits (by omega) (by rw [hz2]; omega))
        rw [hrun] at hr1
        right
        cases hr1
        rfl

/-- Two own rows, not in one block. -/
structure Two (w : World) (base : Nat) (v1 : Value) (l1 : List R) (v2 : Value) (l2 : List R) : Prop where
  own1 : Owns w base v1 l1
  own2 : Owns w base v2 l2
  ne : ∀ k, v1.ownBlock = some k → v2.ownBlock ≠ some k
theorem Two.swap {w : World} {base : Nat} {v1 : Value} {l1 : List R} {v2 : Value} {l2 : List R} (h : Two w base v1 l1 v2 l2) : Two w base v2 l2 v1 l1 := ⟨h.own2, h.own1, fun k h2 h1 => h.ne k h1 h2⟩
theorem Two.up {w w' : World} {base : Nat} {v1 : Value} {l1 : List R} {v2 : Value} {l2 : List R} (h : Two w base v1 l1 v2 l2) (hb : Below w.heap.size w w') : Two w' base v1 l1 v2 l2 := ⟨h.own1.up hb, h.own2.up hb, h.ne⟩

/-- One of two is added to. -/
theorem wp_two {w : World} {o : Oper} {a : Act} {K : Act → World → Prop} {Q : Exit → Act → World → Prop} (s x : Operand)
    (ho : o.op = .call { callee := .builtin .append, args := #[s, x], argTypes := #[62, 62] })
    (base : Nat) (v1 v2 : Value) (l1 l2 : List R) (g : Nat) (r : R) (hs : a.eval s = v1) (hT : Two w base v1 l1 v2 l2) (hx : a.eval x = .slice (some ⟨g, 0, none⟩) 1 1) (hr : RAt w g 0 r) (hlen : l1.length ≤ 100000)
    (w0 : World) (hb : Below base w0 w) (hbase0 : base ≤ w0.heap.size)
    (h : ∀ v' w', Two w' base v' (l1 ++ [r]) v2 l2 → Below base w0 w' → K (a.put o.dst v') w') : o.wp Try.prog a w K Q := by
  have hbase : base ≤ w.heap.size := Nat.le_trans hbase0 hb.size
  obtain ⟨v', w', hrun, hown, hg, hpl⟩ := append_place hT.own1 g r hr hlen hbase o.type
  have hT' : Two w' base v' (l1 ++ [r]) v2 l2 := by
    refine ⟨hown, hT.own2.kept hg ?_, fun k h1 h2 => ?_⟩
    · cases h2 : v2.ownBlock with
      | none => exact .inl rfl
      | some k => exact .inr fun h1 => hT.ne k h1.symm h2
    · rcases hpl with hp | hp
      · exact hT.ne k (hp ▸ h1) h2
      · have h3 := (hT.own2.lt k h2).2
        rw [hp] at h1
        have := Option.some.inj h1
        omega
  have hb' : Below base w0 w' := hb.grown hg hbase (fun k hk => (hT.own1.lt k hk).1)
  unfold Oper.wp execOp
  simp only [ho, resolve, invoke, builtin, Sem.run_bind, Sem.run_pure, Result.andThen_ok, List.map_toArray, List.map_cons, List.map_nil, hs, hx, hrun]
  exact h v' w' hT' hb'
theorem wpList_two {w : World} {ops : Array Oper} {rest : List Oper} {o : Oper} {a : Act} {Q : Exit → Act → World → Prop} (hgd : o.guard = none) (s x : Operand)
    (ho : o.op = .call { callee := .builtin .append, args := #[s, x], argTypes := #[62, 62] })
    (base : Nat) (v1 v2 : Value) (l1 l2 : List R) (g : Nat) (r : R) (hs : a.eval s = v1) (hT : Two w base v1 l1 v2 l2) (hx : a.eval x = .slice (some ⟨g, 0, none⟩) 1 1) (hr : RAt w g 0 r) (hlen : l1.length ≤ 100000)
    (w0 : World) (hb : Below base w0 w) (hbase0 : base ≤ w0.heap.size)
    (h : ∀ v' w', Two w' base v' (l1 ++ [r]) v2 l2 → Below base w0 w' → wpList Try.prog ops Q rest (a.put o.dst v') w') : wpList Try.prog ops Q (o :: rest) a w :=
  wpList_plain hgd fun _ hK => wp_two s x ho base v1 v2 l1 l2 g r hs hT hx hr hlen w0 hb hbase0 fun v' w' h1 h2 => hK _ _ (h v' w' h1 h2)
/-- .. as a step of a region that draws its order. -/
theorem step_two {w : World} {ops : Array Oper} {o : Oper} {a : Act} {K : Act → World → Prop} {Q : Exit → Act → World → Prop} {E : Prop} (hgd : o.guard = none) (s x : Operand)
    (ho : o.op = .call { callee := .builtin .append, args := #[s, x], argTypes := #[62, 62] })
    (base : Nat) (v1 v2 : Value) (l1 l2 : List R) (g : Nat) (r : R) (hs : a.eval s = v1) (hT : Two w base v1 l1 v2 l2) (hx : a.eval x = .slice (some ⟨g, 0, none⟩) 1 1) (hr : RAt w g 0 r) (hlen : l1.length ≤ 100000)
    (w0 : World) (hb : Below base w0 w) (hbase0 : base ≤ w0.heap.size)
    (h : ∀ v' w', Two w' base v' (l1 ++ [r]) v2 l2 → Below base w0 w' → K (a.put o.dst v') w') : if Region.wanted o (yielded ops a.tmps) = true then Oper.wp Try.prog o a w K Q else E := by
  have hw : Region.wanted o (yielded ops a.tmps) = true := by simp [Region.wanted, hgd]
  rw [if_pos hw]
  exact wp_two s x ho base v1 v2 l1 l2 g r hs hT hx hr hlen w0 hb hbase0 h
end Go.Proofs.Ytodcabaihhmhnaa
