/- Rows of one-cell values in memory, own ones and others; append on them. -/
import Derived.Test.YtcmkhppkdbdfdaaCnt
import Derived.Laws.AppendOwn
import Derived.Laws.AppendOwnNone
import Derived.OwnWalk
import Derived.WideShapes
namespace Go.Proofs.Ytcmkhppkdbdfdaa
open Go.RowKit

/-- A slice that reads as these values, each one cell. -/
def Row (w : World) (v : Value) (xs : List Value) : Prop :=
  ∃ a cap, v = .slice a xs.length cap ∧ (a = none → xs = [] ∧ cap = 0) ∧ ∀ x, a = some x → ∀ j u, xs[j]? = some u → w.cell? (x.add j) = some u

theorem Row.below {B : Nat} {w w' : World} {v : Value} {xs : List Value} (h : Row w v xs) (hB : w.heap.size ≤ B) (hb : Below B w w') : Row w' v xs := by
  obtain ⟨a, cap, rfl, h0, hc⟩ := h
  refine ⟨a, cap, rfl, h0, fun x hx j u hu => ?_⟩
  have := hc x hx j u hu
  exact (hb.cell (Nat.lt_of_lt_of_le (lt_of_cell this) hB)).trans this

theorem Row.up {w w' : World} {v : Value} {xs : List Value} (h : Row w v xs) (hb : Below w.heap.size w w') : Row w' v xs := h.below (Nat.le_refl _) hb

theorem Row.of_owns {w : World} {base : Nat} {e : TypeId} {v : Value} {n : Nat} {xs : List Value} (h : w.ownsRow base e 1 v n xs) : Row w v xs := by
  have hl : xs.length = n := by simpa using h.1
  rcases h.2 with ⟨rfl, rfl⟩ | ⟨g, cap, cur, rfl, hb, hg, hn, hm, hs, ht⟩
  · obtain rfl : xs = [] := List.length_eq_zero_iff.1 hl
    exact ⟨none, 0, rfl, fun _ => ⟨rfl, rfl⟩, fun x hx => by cases hx⟩
  · refine ⟨some ⟨g, 0, none⟩, cap, by rw [hl], fun h => (by cases h), fun x hx j u hu => ?_⟩
    cases hx
    exact h.cells (g := g) rfl j u hu

/-- Where a row that isn't empty lies. -/
theorem row_at {w : World} {a : Option Addr} {cap : Nat} {xs : List Value} (h0 : a = none → xs = [] ∧ cap = 0) (hc : ∀ x, a = some x → ∀ j u, xs[j]? = some u → w.cell? (x.add j) = some u) (hp : 0 < xs.length) :
    ∃ b o, a = some ⟨b, o, none⟩ ∧ ∀ j u, xs[j]? = some u → w.cell? ⟨b, o + j, none⟩ = some u := by
  cases a with
  | none => rw [(h0 rfl).1] at hp; simp at hp
  | some x =>
    obtain ⟨b, o, spot⟩ := x
    have h1 := hc _ rfl 0 _ (List.getElem?_eq_getElem hp)
    have hspot : spot = none := by simpa [Addr.add] using World.cell?_spot h1
    subst hspot
    refine ⟨b, o, rfl, fun j u hu => ?_⟩
    rw [← Go.WideShapes.add_plain]
    exact hc _ rfl j u hu

theorem owns_up {w w' : World} {base : Nat} {e : TypeId} {size : Nat} {v : Value} {n : Nat} {xs : List Value} (h : w.ownsRow base e size v n xs) (hb : Below w.heap.size w w') : w'.ownsRow base e size v n xs := by
  refine ⟨h.1, ?_⟩
  rcases h.2 with hn | ⟨g, cap, cur, rfl, hg0, hg, rest⟩
  · exact .inl hn
  · exact .inr ⟨g, cap, cur, rfl, hg0, (hb.block g (Array.getElem?_eq_some_iff.1 hg).1).trans hg, rest⟩

theorem owns_base {w : World} {base base' : Nat} {e : TypeId} {size : Nat} {v : Value} {n : Nat} {xs : List Value} (h : w.ownsRow base e size v n xs) (hb : base' ≤ base) : w.ownsRow base' e size v n xs := by
  refine ⟨h.1, ?_⟩
  rcases h.2 with hn | ⟨g, cap, cur, rfl, hg0, rest⟩
  · exact .inl hn
  · exact .inr ⟨g, cap, cur, rfl, Nat.le_trans hb hg0, rest⟩

/-- append(own.., row...): what is owned then is both; no other block is turned. -/
theorem wpList_append_row2 {P : Program} {w : World} {ops : Array Oper} {rest : List Oper} {o : Oper} {a : Act} {Q : Exit → Act → World → Prop} (hgd : o.guard = none) (s x : Operand) (t : TypeId)
    (ho : o.op = .call { callee := .builtin .append, args := #[s, x], argTypes := #[t, t] })
    (base : Nat) (e : TypeId) (z : Value) (bytes : Nat) (ht : P.underlying t = some (.slice e)) (hinfo : (P.info? e).map (fun i => (i.zero, i.size, i.bytes)) = some (some z, 1, bytes)) (hz1 : z.cells.size = 1)
    (v src : Value) (xs news : List Value) (hs : a.eval s = v) (hown : w.ownsRow base e 1 v xs.length xs) (hx : a.eval x = src) (hrow : Row w src news) (h1 : ∀ u ∈ news, u.oneCell' = true)
    (h63 : xs.length + news.length ≤ 1000000) (hbytes : bytes ≤ 64) (w0 : World) (hb : Below base w0 w) (hbase0 : base ≤ w0.heap.size)
    (h : ∀ v' w', w'.ownsRow base e 1 v' (xs ++ news).length (xs ++ news) → Below base w0 w' → w.grownBy w' v.ownBlock → wpList P ops Q rest (a.put o.dst v') w') : wpList P ops Q (o :: rest) a w := by
  have hbase : base ≤ w.heap.size := Nat.le_trans hbase0 hb.size
  obtain ⟨i, hi, hz0, hz2, hz3⟩ := info_parts hinfo
  obtain ⟨ad, cap, rfl, h0, hc⟩ := hrow
  cases ad with
  | none =>
    obtain ⟨rfl, rfl⟩ := h0 rfl
    refine wpList_append_own_none hgd s x t ho base e i 1 ht hi v xs.length xs hs hown hx (h v w (by simpa using hown) hb ⟨rfl, rfl, rfl, Nat.le_refl _, fun _ _ _ => rfl⟩)
  | some ad =>
    refine wpList_append_own w hgd s x t ho base e i z 1 bytes ht hi hz0 hz2 hz3 hz1 (by decide) v xs.length xs hs hown ad news.length cap news hx (by simp) (hc ad rfl) h1 (by unfold maxLen; omega) ?_ hbase ?_
    · exact Nat.le_trans (Nat.mul_le_mul h63 hbytes) (by decide)
    · intro v' w' g1 g2 _
      exact h v' w' (by rw [List.length_append]; exact g1) (hb.grown g2 hbase (fun k hk => (hown.lt k hk).1)) g2
/-- append(own.., row...): what is owned then is both. -/
theorem wpList_append_row {P : Program} {w : World} {ops : Array Oper} {rest : List Oper} {o : Oper} {a : Act} {Q : Exit → Act → World → Prop} (hgd : o.guard = none) (s x : Operand) (t : TypeId)
    (ho : o.op = .call { callee := .builtin .append, args := #[s, x], argTypes := #[t, t] })
    (base : Nat) (e : TypeId) (z : Value) (bytes : Nat) (ht : P.underlying t = some (.slice e)) (hinfo : (P.info? e).map (fun i => (i.zero, i.size, i.bytes)) = some (some z, 1, bytes)) (hz1 : z.cells.size = 1)
    (v src : Value) (xs news : List Value) (hs : a.eval s = v) (hown : w.ownsRow base e 1 v xs.length xs) (hx : a.eval x = src) (hrow : Row w src news) (h1 : ∀ u ∈ news, u.oneCell' = true)
    (h63 : xs.length + news.length ≤ 1000000) (hbytes : bytes ≤ 64) (w0 : World) (hb : Below base w0 w) (hbase0 : base ≤ w0.heap.size)
    (h : ∀ v' w', w'.ownsRow base e 1 v' (xs ++ news).length (xs ++ news) → Below base w0 w' → wpList P ops Q rest (a.put o.dst v') w') : wpList P ops Q (o :: rest) a w :=
  wpList_append_row2 hgd s x t ho base e z bytes ht hinfo hz1 v src xs news hs hown hx hrow h1 h63 hbytes w0 hb hbase0 fun v' w' g1 g2 _ => h v' w' g1 g2
end Go.Proofs.Ytcmkhppkdbdfdaa
