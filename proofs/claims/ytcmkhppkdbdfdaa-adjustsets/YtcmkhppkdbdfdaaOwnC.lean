/- Rows of cells in memory of the call's own: how they are made, added to. -/
import Derived.Test.YtcmkhppkdbdfdaaMem
import Derived.Deep.AppendLies
namespace Go.Proofs.Ytcmkhppkdbdfdaa
open Go.RowKit

def flatC (l : List C) : List Value := l.flatMap encC
theorem flatC_length (l : List C) : (flatC l).length = l.length * 7 := by
  induction l with
  | nil => rfl
  | cons r l ih => simp only [flatC, List.flatMap_cons, List.length_append] at *; rw [ih]; simp [encC]; omega
theorem flatC_append (a b : List C) : flatC (a ++ b) = flatC a ++ flatC b := by simp [flatC]
theorem flatC_one (c : C) : flatC [c] = encC c := by simp [flatC]
theorem flatC_get (l : List C) (j i : Nat) (c : C) (hj : l[j]? = some c) (hi : i < 7) : (flatC l)[j * 7 + i]? = (encC c)[i]? := by
  induction l generalizing j with
  | nil => simp at hj
  | cons q l ih =>
    have he : flatC (q :: l) = encC q ++ flatC l := by simp [flatC]
    rw [he]
    have hq : (encC q).length = 7 := rfl
    cases j with
    | zero =>
      simp at hj; subst hj
      rw [List.getElem?_append_left (by omega)]
      simp
    | succ j =>
      rw [List.getElem?_append_right (by omega), hq, show (j + 1) * 7 + i - 7 = j * 7 + i by omega]
      exact ih j (by simpa using hj)
theorem flatC_oneCell (l : List C) : ∀ u ∈ flatC l, u.oneCell' = true := by
  intro u hu
  simp only [flatC, List.mem_flatMap] at hu
  obtain ⟨r, -, hr⟩ := hu
  simp [encC] at hr
  rcases hr with rfl | rfl | rfl | rfl | rfl | rfl | rfl <;> rfl

/-- A row of the call's own. -/
def OwnC (w : World) (base : Nat) (v : Value) (l : List C) : Prop := w.ownsRow base 33 7 v l.length (flatC l)

theorem cat_of_flat {w : World} {g : Nat} {l : List C} (h : ∀ j u, (flatC l)[j]? = some u → w.cell? ((⟨g, 0, none⟩ : Addr).add j) = some u) (j : Nat) (c : C) (hj : l[j]? = some c) : CAt w g (j * 7) c := by
  have hc : ∀ i, i < 7 → ∀ u, (encC c)[i]? = some u → w.cell? ⟨g, j * 7 + i, none⟩ = some u := fun i hi u hu => by
    have := h (j * 7 + i) u (by rw [flatC_get l j i c hj hi]; exact hu)
    rw [Go.WideShapes.add_plain, Nat.zero_add] at this
    exact this
  exact ⟨hc 0 (by omega) _ rfl, hc 1 (by omega) _ rfl, hc 2 (by omega) _ rfl, hc 3 (by omega) _ rfl, hc 4 (by omega) _ rfl, hc 5 (by omega) _ rfl, hc 6 (by omega) _ rfl⟩
theorem OwnC.row {w : World} {base : Nat} {v : Value} {l : List C} (h : OwnC w base v l) : CRow w v l := by
  rcases h.2 with ⟨rfl, hn⟩ | ⟨g, cap, cur, rfl, hb, hg, hn, hm, hs, ht⟩
  · exact .inl ⟨_, _, rfl, List.length_eq_zero_iff.1 hn⟩
  · exact .inr ⟨g, 0, cap, rfl, fun j r hj => by rw [Nat.zero_add]; exact cat_of_flat (h.cells (g := g) rfl) j r hj⟩
theorem OwnC.up {w w' : World} {base : Nat} {v : Value} {l : List C} (h : OwnC w base v l) (hb : Below w.heap.size w w') : OwnC w' base v l := owns_up h hb
theorem OwnC.lower {w : World} {base base' : Nat} {v : Value} {l : List C} (h : OwnC w base v l) (hb : base' ≤ base) : OwnC w base' v l := owns_base h hb
theorem OwnC.nil (w : World) (base : Nat) : OwnC w base (.slice none 0 0) [] := World.ownsRow_nil w base _ _
theorem OwnC.empty (w : World) (base : Nat) (hb : base ≤ w.heap.size) : OwnC (w.alloc (.cells #[] 33)) base (.slice (some ⟨w.heap.size, 0, none⟩) 0 0) [] := World.ownsRow_made w #[] 0 hb (Nat.zero_le _) (by simp)
theorem OwnC.one (w : World) (base : Nat) (hb : base ≤ w.heap.size) (c : C) : OwnC (w.alloc (cbox c)) base (.slice (some ⟨w.heap.size, 0, none⟩) 1 1) [c] := by
  refine ⟨by simp [flatC_length], .inr ⟨w.heap.size, 1, _, rfl, hb, heap_alloc_new w _, by simp, by unfold maxLen; omega, rfl, ?_⟩⟩
  rw [flatC_one]; rfl

abbrev zeroC : Value := .agg #[.int .u8 0, .int .i64 0, .int .i64 0, .int .i64 0, .int .i64 0, .int .i64 0, .slice none 0 0]
theorem infoC : (Try.prog.info? 33).map (fun i => (i.zero, i.size, i.bytes)) = some (some zeroC, 7, 72) := by kernel_rfl

theorem crow_cells {w : World} {a : Option Addr} {n cap : Nat} {l : List C} (h : CRow w (.slice a n cap) l) (hp : 0 < l.length) : ∃ ad, a = some ad ∧ ∀ j u, (flatC l)[j]? = some u → w.cell? (ad.add j) = some u := by
  obtain ⟨b, o, rfl, hf⟩ := h.place hp
  refine ⟨⟨b, o, none⟩, rfl, fun j u hu => ?_⟩
  have hj : j / 7 < l.length := by
    rcases Nat.lt_or_ge j (flatC l).length with h1 | h1
    · rw [flatC_length] at h1; omega
    · rw [List.getElem?_eq_none h1] at hu; cases hu
  have hr := List.getElem?_eq_getElem hj
  have hc : j % 7 < 7 := Nat.mod_lt _ (by omega)
  have e : j / 7 * 7 + j % 7 = j := by omega
  have h1 := flatC_get l (j / 7) (j % 7) _ hr hc
  rw [e, hu] at h1
  obtain ⟨a0, a1, a2, a3, a4, a5, a6⟩ := hf _ _ hr
  rw [Go.WideShapes.add_plain]
  generalize hm : j % 7 = m at *
  have e' : o + j = o + j / 7 * 7 + m := by omega
  rw [e']
  match m, hc with
  | 0, _ => simp [encC] at h1; rw [h1]; exact a0
  | 1, _ => simp [encC] at h1; rw [h1]; exact a1
  | 2, _ => simp [encC] at h1; rw [h1]; exact a2
  | 3, _ => simp [encC] at h1; rw [h1]; exact a3
  | 4, _ => simp [encC] at h1; rw [h1]; exact a4
  | 5, _ => simp [encC] at h1; rw [h1]; exact a5
  | 6, _ => simp [encC] at h1; rw [h1]; exact a6

/-- append(own.., cells...): what is owned then is both; where it lies. -/
theorem wpList_append_cells {w : World} {ops : Array Oper} {rest : List Oper} {o : Oper} {a : Act} {Q : Exit → Act → World → Prop} (hgd : o.guard = none) (s x : Operand)
    (ho : o.op = .call { callee := .builtin .append, args := #[s, x], argTypes := #[31, 31] })
    (base : Nat) (v src : Value) (xs news : List C) (hs : a.eval s = v) (hown : OwnC w base v xs) (hx : a.eval x = src) (hrow : CRow w src news) (hp : 0 < news.length)
    (h63 : xs.length + news.length ≤ 1954687338211) (w0 : World) (hb : Below base w0 w) (hbase0 : base ≤ w0.heap.size)
    (h : ∀ g cap w', OwnC w' base (.slice (some ⟨g, 0, none⟩) (xs ++ news).length cap) (xs ++ news) → Below base w0 w' → w.grownBy w' v.ownBlock → (v.ownBlock = some g ∨ g = w.heap.size) → wpList Try.prog ops Q rest (a.put o.dst (.slice (some ⟨g, 0, none⟩) (xs ++ news).length cap)) w') : wpList Try.prog ops Q (o :: rest) a w := by
  have hbase : base ≤ w.heap.size := Nat.le_trans hbase0 hb.size
  obtain ⟨i, hi, hz0, hz2, hz3⟩ := info_parts infoC
  obtain ⟨ad', cap, rfl⟩ := hrow.shape
  obtain ⟨ad, rfl, hc⟩ := crow_cells hrow hp
  refine wpList_append_lies w hgd s x 31 ho base 33 i zeroC 7 72 Try.underlying31 hi hz0 hz2 hz3 rfl (by decide) v xs.length (flatC xs) hs hown ad news.length cap (flatC news) hx (flatC_length _) hc (flatC_oneCell _) hp (by unfold maxLen; omega) (by omega) hbase w.heap.size rfl ?_
  intro g cap' w' g1 g2 g3 _
  rw [← List.length_append] at g1 ⊢
  exact h g cap' w' (by rw [← flatC_append] at g1; exact g1) (hb.grown g2 hbase (fun k hk => (hown.lt k hk).1)) g2 g3
end Go.Proofs.Ytcmkhppkdbdfdaa
