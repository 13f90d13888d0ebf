/- Panes: as they lie in memory, in rows, in rows of the call's own. -/
import Derived.Test.YtlpklpkalcgeaaaOwnC
import Derived.Test.YtlpklpkalcgeaaaSame
namespace Go.Proofs.Ytlpklpkalcgeaaa
open Go.RowKit

/-- A pane. -/
structure Pn where
  id : Int
  r : R
deriving DecidableEq, Inhabited
def encP (p : Pn) : List Value := [.int .i64 p.id, .int .i64 p.r.x, .int .i64 p.r.y, .int .i64 p.r.w, .int .i64 p.r.h]
abbrev pval (p : Pn) : Value := .agg #[.int .i64 p.id, .int .i64 p.r.x, .int .i64 p.r.y, .int .i64 p.r.w, .int .i64 p.r.h]
abbrev pbox (p : Pn) : Obj := .cells #[.int .i64 p.id, .int .i64 p.r.x, .int .i64 p.r.y, .int .i64 p.r.w, .int .i64 p.r.h] 32
def Pn.fits (p : Pn) : Prop := Ytlpklpkalcgeaaa.fits p.id ∧ p.r.fits
abbrev zP : Pn := ⟨0, ⟨0, 0, 0, 0⟩⟩

def PAt (w : World) (b o : Nat) (p : Pn) : Prop :=
  w.cell? ⟨b, o, none⟩ = some (.int .i64 p.id) ∧ w.cell? ⟨b, o + 1, none⟩ = some (.int .i64 p.r.x) ∧ w.cell? ⟨b, o + 2, none⟩ = some (.int .i64 p.r.y) ∧ w.cell? ⟨b, o + 3, none⟩ = some (.int .i64 p.r.w) ∧ w.cell? ⟨b, o + 4, none⟩ = some (.int .i64 p.r.h)
theorem PAt.lt {w : World} {b o : Nat} {p : Pn} (h : PAt w b o p) : b < w.heap.size := lt_of_cell h.1
theorem PAt.upB {base : Nat} {w w' : World} {b o : Nat} {p : Pn} (h : PAt w b o p) (hb : Below base w w') (hl : b < base) : PAt w' b o p := by
  obtain ⟨h1, h2, h3, h4, h5⟩ := h
  exact ⟨(hb.cell hl).trans h1, (hb.cell hl).trans h2, (hb.cell hl).trans h3, (hb.cell hl).trans h4, (hb.cell hl).trans h5⟩
theorem PAt.up {w w' : World} {b o : Nat} {p : Pn} (h : PAt w b o p) (hb : Below w.heap.size w w') : PAt w' b o p := h.upB hb h.lt
theorem PAt.grown {w w' : World} {b o : Nat} {p : Pn} {row : Option Nat} (h : PAt w b o p) (hb : w.grownBy w' row) (hne : some b ≠ row) : PAt w' b o p := by
  obtain ⟨h1, h2, h3, h4, h5⟩ := h
  exact ⟨hb.cell h1 hne, hb.cell h2 hne, hb.cell h3 hne, hb.cell h4 hne, hb.cell h5 hne⟩
theorem pbox_new (w : World) (p : Pn) : PAt (w.alloc (pbox p)) w.heap.size 0 p := by
  refine ⟨?_, ?_, ?_, ?_, ?_⟩ <;> simp

/-- Panes in a slice. -/
def PRow (w : World) (v : Value) (l : List Pn) : Prop :=
  (∃ a cap, v = .slice a 0 cap ∧ l = []) ∨ ∃ b o cap, v = .slice (some ⟨b, o, none⟩) l.length cap ∧ ∀ (j : Nat) (p : Pn), l[j]? = some p → PAt w b (o + j * 5) p
theorem PRow.up {w w' : World} {v : Value} {l : List Pn} (h : PRow w v l) (hb : Below w.heap.size w w') : PRow w' v l := by
  rcases h with h | ⟨b, o, cap, h1, h2⟩
  · exact .inl h
  · exact .inr ⟨b, o, cap, h1, fun j f hf => (h2 j f hf).up hb⟩
theorem PRow.shape {w : World} {v : Value} {l : List Pn} (hr : PRow w v l) : ∃ a cap, v = .slice a l.length cap := by
  rcases hr with ⟨a, cap, rfl, rfl⟩ | ⟨b, o, cap, rfl, -⟩
  · exact ⟨_, _, rfl⟩
  · exact ⟨_, _, rfl⟩
theorem PRow.len {w : World} {a : Option Addr} {n cap : Nat} {l : List Pn} (hr : PRow w (.slice a n cap) l) : n = l.length := by
  obtain ⟨a', cap', h⟩ := hr.shape
  cases h; rfl
theorem PRow.place {w : World} {a : Option Addr} {n cap : Nat} {l : List Pn} (hr : PRow w (.slice a n cap) l) (hp : 0 < l.length) : ∃ b o, a = some ⟨b, o, none⟩ ∧ ∀ (j : Nat) (p : Pn), l[j]? = some p → PAt w b (o + j * 5) p := by
  rcases hr with ⟨_, _, -, rfl⟩ | ⟨b, o, cap', he, hf⟩
  · simp at hp
  · obtain ⟨rfl, rfl⟩ : a = some ⟨b, o, none⟩ ∧ cap = cap' := by cases he; exact ⟨rfl, rfl⟩
    exact ⟨b, o, rfl, hf⟩

def flatP (l : List Pn) : List Value := l.flatMap encP
theorem flatP_length (l : List Pn) : (flatP l).length = l.length * 5 := by
  induction l with
  | nil => rfl
  | cons r l ih => simp only [flatP, List.flatMap_cons, List.length_append] at *; rw [ih]; simp [encP]; omega
theorem flatP_append (a b : List Pn) : flatP (a ++ b) = flatP a ++ flatP b := by simp [flatP]
theorem flatP_one (c : Pn) : flatP [c] = encP c := by simp [flatP]
theorem flatP_get (l : List Pn) (j i : Nat) (c : Pn) (hj : l[j]? = some c) (hi : i < 5) : (flatP l)[j * 5 + i]? = (encP c)[i]? := by
  induction l generalizing j with
  | nil => simp at hj
  | cons q l ih =>
    have he : flatP (q :: l) = encP q ++ flatP l := by simp [flatP]
    rw [he]
    have hq : (encP q).length = 5 := rfl
    cases j with
    | zero =>
      simp at hj; subst hj
      rw [List.getElem?_append_left (by omega)]
      simp
    | succ j =>
      rw [List.getElem?_append_right (by omega), hq, show (j + 1) * 5 + i - 5 = j * 5 + i by omega]
      exact ih j (by simpa using hj)
theorem flatP_oneCell (l : List Pn) : ∀ u ∈ flatP l, u.oneCell' = true := by
  intro u hu
  simp only [flatP, List.mem_flatMap] at hu
  obtain ⟨r, -, hr⟩ := hu
  simp [encP] at hr
  rcases hr with rfl | rfl | rfl | rfl | rfl <;> rfl

/-- A row of the call's own. -/
def OwnP (w : World) (base : Nat) (v : Value) (l : List Pn) : Prop := w.ownsRow base 32 5 v l.length (flatP l)

theorem pat_of_flat {w : World} {g : Nat} {l : List Pn} (h : ∀ j u, (flatP l)[j]? = some u → w.cell? ((⟨g, 0, none⟩ : Addr).add j) = some u) (j : Nat) (c : Pn) (hj : l[j]? = some c) : PAt w g (j * 5) c := by
  have hc : ∀ i, i < 5 → ∀ u, (encP c)[i]? = some u → w.cell? ⟨g, j * 5 + i, none⟩ = some u := fun i hi u hu => by
    have := h (j * 5 + i) u (by rw [flatP_get l j i c hj hi]; exact hu)
    rw [Go.WideShapes.add_plain, Nat.zero_add] at this
    exact this
  exact ⟨hc 0 (by omega) _ rfl, hc 1 (by omega) _ rfl, hc 2 (by omega) _ rfl, hc 3 (by omega) _ rfl, hc 4 (by omega) _ rfl⟩
theorem OwnP.row {w : World} {base : Nat} {v : Value} {l : List Pn} (h : OwnP w base v l) : PRow w v l := by
  rcases h.2 with ⟨rfl, hn⟩ | ⟨g, cap, cur, rfl, hb, hg, hn, hm, hs, ht⟩
  · exact .inl ⟨_, _, rfl, List.length_eq_zero_iff.1 hn⟩
  · exact .inr ⟨g, 0, cap, rfl, fun j r hj => by rw [Nat.zero_add]; exact pat_of_flat (h.cells (g := g) rfl) j r hj⟩
theorem OwnP.up {w w' : World} {base : Nat} {v : Value} {l : List Pn} (h : OwnP w base v l) (hb : Below w.heap.size w w') : OwnP w' base v l := owns_up h hb
theorem OwnP.lower {w : World} {base base' : Nat} {v : Value} {l : List Pn} (h : OwnP w base v l) (hb : base' ≤ base) : OwnP w base' v l := owns_base h hb
theorem OwnP.nil (w : World) (base : Nat) : OwnP w base (.slice none 0 0) [] := World.ownsRow_nil w base _ _
theorem OwnP.empty (w : World) (base : Nat) (hb : base ≤ w.heap.size) : OwnP (w.alloc (.cells #[] 32)) base (.slice (some ⟨w.heap.size, 0, none⟩) 0 0) [] := World.ownsRow_made w #[] 0 hb (Nat.zero_le _) (by simp)
theorem OwnP.one (w : World) (base : Nat) (hb : base ≤ w.heap.size) (c : Pn) : OwnP (w.alloc (pbox c)) base (.slice (some ⟨w.heap.size, 0, none⟩) 1 1) [c] := by
  refine ⟨by simp [flatP_length], .inr ⟨w.heap.size, 1, _, rfl, hb, heap_alloc_new w _, by simp, by unfold maxLen; omega, rfl, ?_⟩⟩
  rw [flatP_one]; rfl

abbrev zeroP : Value := .agg #[.int .i64 0, .int .i64 0, .int .i64 0, .int .i64 0, .int .i64 0]
theorem infoP : (Try.prog.info? 32).map (fun i => (i.zero, i.size, i.bytes)) = some (some zeroP, 5, 40) := by kernel_rfl

theorem prow_cells {w : World} {a : Option Addr} {n cap : Nat} {l : List Pn} (h : PRow w (.slice a n cap) l) (hp : 0 < l.length) : ∃ ad, a = some ad ∧ ∀ j u, (flatP l)[j]? = some u → w.cell? (ad.add j) = some u := by
  obtain ⟨b, o, rfl, hf⟩ := h.place hp
  refine ⟨⟨b, o, none⟩, rfl, fun j u hu => ?_⟩
  have hj : j / 5 < l.length := by
    rcases Nat.lt_or_ge j (flatP l).length with h1 | h1
    · rw [flatP_length] at h1; omega
    · rw [List.getElem?_eq_none h1] at hu; cases hu
  have hr := List.getElem?_eq_getElem hj
  have hc : j % 5 < 5 := Nat.mod_lt _ (by omega)
  have e : j / 5 * 5 + j % 5 = j := by omega
  have h1 := flatP_get l (j / 5) (j % 5) _ hr hc
  rw [e, hu] at h1
  obtain ⟨a0, a1, a2, a3, a4⟩ := hf _ _ hr
  rw [Go.WideShapes.add_plain]
  generalize hm : j % 5 = m at *
  have e' : o + j = o + j / 5 * 5 + m := by omega
  rw [e']
  match m, hc with
  | 0, _ => simp [encP] at h1; rw [h1]; exact a0
  | 1, _ => simp [encP] at h1; rw [h1]; exact a1
  | 2, _ => simp [encP] at h1; rw [h1]; exact a2
  | 3, _ => simp [encP] at h1; rw [h1]; exact a3
  | 4, _ => simp [encP] at h1; rw [h1]; exact a4

/-- append(own.., panes...): what is owned then is both; where it lies. -/
theorem wpList_append_panes {w : World} {ops : Array Oper} {rest : List Oper} {o : Oper} {a : Act} {Q : Exit → Act → World → Prop} (hgd : o.guard = none) (s x : Operand)
    (ho : o.op = .call { callee := .builtin .append, args := #[s, x], argTypes := #[29, 29] })
    (base : Nat) (v src : Value) (xs news : List Pn) (hs : a.eval s = v) (hown : OwnP w base v xs) (hx : a.eval x = src) (hrow : PRow w src news) (hp : 0 < news.length)
    (h63 : xs.length + news.length ≤ 1000000) (w0 : World) (hb : Below base w0 w) (hbase0 : base ≤ w0.heap.size)
    (h : ∀ g cap w', OwnP w' base (.slice (some ⟨g, 0, none⟩) (xs ++ news).length cap) (xs ++ news) → Below base w0 w' → w.grownBy w' v.ownBlock → (v.ownBlock = some g ∨ g = w.heap.size) → wpList Try.prog ops Q rest (a.put o.dst (.slice (some ⟨g, 0, none⟩) (xs ++ news).length cap)) w') : wpList Try.prog ops Q (o :: rest) a w := by
  have hbase : base ≤ w.heap.size := Nat.le_trans hbase0 hb.size
  obtain ⟨i, hi, hz0, hz2, hz3⟩ := info_parts infoP
  obtain ⟨ad', cap, rfl⟩ := hrow.shape
  obtain ⟨ad, rfl, hc⟩ := prow_cells hrow hp
  refine wpList_append_lies w hgd s x 29 ho base 32 i zeroP 5 40 Try.underlying29 hi hz0 hz2 hz3 rfl (by decide) v xs.length (flatP xs) hs hown ad news.length cap (flatP news) hx (flatP_length _) hc (flatP_oneCell _) hp (by unfold maxLen; omega) (by omega) hbase w.heap.size rfl ?_
  intro g cap' w' g1 g2 g3 _
  rw [← List.length_append] at g1 ⊢
  exact h g cap' w' (by rw [← flatP_append] at g1; exact g1) (hb.grown g2 hbase (fun k hk => (hown.lt k hk).1)) g2 g3
/-- .. as a step of a region that draws its order: one pane. -/
theorem step_append_pane {w : World} {ops : Array Oper} {o : Oper} {a : Act} {K : Act → World → Prop} {Q : Exit → Act → World → Prop} {E : Prop} (hgd : o.guard = none) (s x : Operand)
    (ho : o.op = .call { callee := .builtin .append, args := #[s, x], argTypes := #[29, 29] })
    (base : Nat) (v : Value) (xs : List Pn) (g0 : Nat) (p : Pn) (hs : a.eval s = v) (hown : OwnP w base v xs) (hx : a.eval x = .slice (some ⟨g0, 0, none⟩) 1 1) (hrow : PAt w g0 0 p)
    (h63 : xs.length + 1 ≤ 1000000) (w0 : World) (hb : Below base w0 w) (hbase0 : base ≤ w0.heap.size)
    (h : ∀ g cap w', OwnP w' base (.slice (some ⟨g, 0, none⟩) (xs.length + 1) cap) (xs ++ [p]) → Below base w0 w' → w.grownBy w' v.ownBlock → (v.ownBlock = some g ∨ g = w.heap.size) → K (a.put o.dst (.slice (some ⟨g, 0, none⟩) (xs.length + 1) cap)) w') :
    if Region.wanted o (yielded ops a.tmps) = true then Oper.wp Try.prog o a w K Q else E := by
  have hbase : base ≤ w.heap.size := Nat.le_trans hbase0 hb.size
  obtain ⟨i, hi, hz0, hz2, hz3⟩ := info_parts infoP
  have hrow' : PRow w (.slice (some ⟨g0, 0, none⟩) 1 1) [p] := .inr ⟨g0, 0, 1, rfl, fun j q hq => by
    cases j with
    | zero => simp at hq; subst hq; simpa using hrow
    | succ j => simp at hq⟩
  obtain ⟨ad, had, hc⟩ := prow_cells hrow' (by simp)
  cases had
  refine step_append_lies w hgd s x 29 ho base 32 i zeroP 5 40 Try.underlying29 hi hz0 hz2 hz3 rfl (by decide) v xs.length (flatP xs) hs hown ⟨g0, 0, none⟩ 1 1 (flatP [p]) hx (flatP_length _) hc (flatP_oneCell _) (by decide) (by unfold maxLen; omega) (by omega) hbase w.heap.size rfl ?_
  intro g cap' w' g1 g2 g3 _
  refine h g cap' w' ?_ (hb.grown g2 hbase (fun k hk => (hown.lt k hk).1)) g2 g3
  rw [← flatP_append] at g1
  have hl : (xs ++ [p]).length = xs.length + 1 := by simp
  unfold OwnP
  rw [hl]; exact g1
end Go.Proofs.Ytlpklpkalcgeaaa
