/- Texts of this seat, 3 in one file. -/
import Derived.Test.YtakofjbjciljjaaG03
import Derived.Deep.AppendLies
import Derived.Test.YtakofjbjciljjaaG02
import Derived.Laws.StructEq
/- Rows of cells in memory of the call's own: how they are made, added to. -/
namespace Go.Proofs.Ytakofjbjciljjaa
open Go.RowKit

def flatC (l : List C) : List Value := l.flatMap encC
theorem flatC_length (l : List C) : (flatC l).length = l.length * 7 := by
  induction l with
  | nil => rfl
  | cons r l ih => simp only [flatC, List.flatMap_cons, List.length_append] at *; rw [ih]; simp [encC]; omega
theorem flatC_append (a b : List C) : flatC (a ++ b) = flatC a ++ flatC b := by simp [flatC]
theorem flatC_one (c : C) : flatC [c] = encC c := by simp [flatC]
theorem flatC_get (l : List C) (j i : Nat) (c : C) (hj : l[j]? = some c) (hi : i < 7) : (flatC l)[j * 7 + i]? = (encC c)[i]? := by
  induction l generalizing j with
  | nil => simp at hj
  | cons q l ih =>
    have he : flatC (q :: l) = encC q ++ flatC l := by simp [flatC]
    rw [he]
    have hq : (encC q).length = 7 := rfl
    cases j with
    | zero =>
      simp at hj; subst hj
      rw [List.getElem?_append_left (by omega)]
      simp
    | succ j =>
      rw [List.getElem?_append_right (by omega), hq, show (j + 1) * 7 + i - 7 = j * 7 + i by omega]
      exact ih j (by simpa using hj)
theorem flatC_oneCell (l : List C) : ∀ u ∈ flatC l, u.oneCell' = true := by
  intro u hu
  simp only [flatC, List.mem_flatMap] at hu
  obtain ⟨r, -, hr⟩ := hu
  simp [encC] at hr
  rcases hr with rfl | rfl | rfl | rfl | rfl | rfl | rfl <;> rfl

/-- A row of the call's own. -/
def OwnC (w : World) (base : Nat) (v : Value) (l : List C) : Prop := w.ownsRow base 26 7 v l.length (flatC l)

theorem cat_of_flat {w : World} {g : Nat} {l : List C} (h : ∀ j u, (flatC l)[j]? = some u → w.cell? ((⟨g, 0, none⟩ : Addr).add j) = some u) (j : Nat) (c : C) (hj : l[j]? = some c) : CAt w g (j * 7) c := by
  have hc : ∀ i, i < 7 → ∀ u, (encC c)[i]? = some u → w.cell? ⟨g, j * 7 + i, none⟩ = some u := fun i hi u hu => by
    have := h (j * 7 + i) u (by rw [flatC_get l j i c hj hi]; exact hu)
    rw [Go.WideShapes.add_plain, Nat.zero_add] at this
    exact this
  exact ⟨hc 0 (by omega) _ rfl, hc 1 (by omega) _ rfl, hc 2 (by omega) _ rfl, hc 3 (by omega) _ rfl, hc 4 (by omega) _ rfl, hc 5 (by omega) _ rfl, hc 6 (by omega) _ rfl⟩
theorem OwnC.row {w : World} {base : Nat} {v : Value} {l : List C} (h : OwnC w base v l) : CRow w v l := by
  rcases h.2 with ⟨rfl, hn⟩ | ⟨g, cap, cur, rfl, hb, hg, hn, hm, hs, ht⟩
  · exact .inl ⟨_, _, rfl, List.length_eq_zero_iff.1 hn⟩
  · exact .inr ⟨g, 0, cap, rfl, fun j r hj => by rw [Nat.zero_add]; exact cat_of_flat (h.cells (g := g) rfl) j r hj⟩
theorem OwnC.up {w w' : World} {base : Nat} {v : Value} {l : List C} (h : OwnC w base v l) (hb : Below w.heap.size w w') : OwnC w' base v l := owns_up h hb
theorem OwnC.lower {w : World} {base base' : Nat} {v : Value} {l : List C} (h : OwnC w base v l) (hb : base' ≤ base) : OwnC w base' v l := owns_base h hb
theorem OwnC.nil (w : World) (base : Nat) : OwnC w base (.slice none 0 0) [] := World.ownsRow_nil w base _ _
theorem OwnC.empty (w : World) (base : Nat) (hb : base ≤ w.heap.size) : OwnC (w.alloc (.cells #[] 26)) base (.slice (some ⟨w.heap.size, 0, none⟩) 0 0) [] := World.ownsRow_made w #[] 0 hb (Nat.zero_le _) (by simp)
theorem OwnC.one (w : World) (base : Nat) (hb : base ≤ w.heap.size) (c : C) : OwnC (w.alloc (cbox c)) base (.slice (some ⟨w.heap.size, 0, none⟩) 1 1) [c] := by
  refine ⟨by simp [flatC_length], .inr ⟨w.heap.size, 1, _, rfl, hb, heap_alloc_new w _, by simp, by unfold maxLen; omega, rfl, ?_⟩⟩
  rw [flatC_one]; rfl

abbrev zeroC : Value := .agg #[.int .u8 0, .int .i64 0, .int .i64 0, .int .i64 0, .int .i64 0, .int .i64 0, .slice none 0 0]
theorem infoC : (Try.prog.info? 26).map (fun i => (i.zero, i.size, i.bytes)) = some (some zeroC, 7, 72) := by kernel_rfl

theorem crow_cells {w : World} {a : Option Addr} {n cap : Nat} {l : List C} (h : CRow w (.slice a n cap) l) (hp : 0 < l.length) : ∃ ad, a = some ad ∧ ∀ j u, (flatC l)[j]? = some u → w.cell? (ad.add j) = some u := by
  obtain ⟨b, o, rfl, hf⟩ := h.place hp
  refine ⟨⟨b, o, none⟩, rfl, fun j u hu => ?_⟩
  have hj : j / 7 < l.length := by
    rcases Nat.lt_or_ge j (flatC l).length with h1 | h1
    · rw [flatC_length] at h1; omega
    · rw [List.getElem?_eq_none h1] at hu; cases hu
  have hr := List.getElem?_eq_getElem hj
  have hc : j % 7 < 7 := Nat.mod_lt _ (by omega)
  have e : j / 7 * 7 + j % 7 = j := by omega
  have h1 := flatC_get l (j / 7) (j % 7) _ hr hc
  rw [e, hu] at h1
  obtain ⟨a0, a1, a2, a3, a4, a5, a6⟩ := hf _ _ hr
  rw [Go.WideShapes.add_plain]
  generalize hm : j % 7 = m at *
  have e' : o + j = o + j / 7 * 7 + m := by omega
  rw [e']
  match m, hc with
  | 0, _ => simp [encC] at h1; rw [h1]; exact a0
  | 1, _ => simp [encC] at h1; rw [h1]; exact a1
  | 2, _ => simp [encC] at h1; rw [h1]; exact a2
  | 3, _ => simp [encC] at h1; rw [h1]; exact a3
  | 4, _ => simp [encC] at h1; rw [h1]; exact a4
  | 5, _ => simp [encC] at h1; rw [h1]; exact a5
  | 6, _ => simp [encC] at h1; rw [h1]; exact a6

/-- append(own.., cells...): what is owned then is both; where it lies. -/
theorem wpList_append_cells {w : World} {ops : Array Oper} {rest : List Oper} {o : Oper} {a : Act} {Q : Exit → Act → World → Prop} (hgd : o.guard = none) (s x : Operand)
    (ho : o.op = .call { callee := .builtin .append, args := #[s, x], argTypes := #[24, 24] })
    (base : Nat) (v src : Value) (xs news : List C) (hs : a.eval s = v) (hown : OwnC w base v xs) (hx : a.eval x = src) (hrow : CRow w src news) (hp : 0 < news.length)
    (h63 : xs.length + news.length ≤ 1954687338211) (w0 : World) (hb : Below base w0 w) (hbase0 : base ≤ w0.heap.size)
    (h : ∀ g cap w', OwnC w' base (.slice (some ⟨g, 0, none⟩) (xs ++ news).length cap) (xs ++ news) → Below base w0 w' → w.grownBy w' v.ownBlock → (v.ownBlock = some g ∨ g = w.heap.size) → wpList Try.prog ops Q rest (a.put o.dst (.slice (some ⟨g, 0, none⟩) (xs ++ news).length cap)) w') : wpList Try.prog ops Q (o :: rest) a w := by
  have hbase : base ≤ w.heap.size := Nat.le_trans hbase0 hb.size
  obtain ⟨i, hi, hz0, hz2, hz3⟩ := info_parts infoC
  obtain ⟨ad', cap, rfl⟩ := hrow.shape
  obtain ⟨ad, rfl, hc⟩ := crow_cells hrow hp
  refine wpList_append_lies w hgd s x 24 ho base 26 i zeroC 7 72 Try.underlying24 hi hz0 hz2 hz3 rfl (by decide) v xs.length (flatC xs) hs hown ad news.length cap (flatC news) hx (flatC_length _) hc (flatC_oneCell _) hp (by unfold maxLen; omega) (by omega) hbase w.heap.size rfl ?_
  intro g cap' w' g1 g2 g3 _
  rw [← List.length_append] at g1 ⊢
  exact h g cap' w' (by rw [← flatC_append] at g1; exact g1) (hb.grown g2 hbase (fun k hk => (hown.lt k hk).1)) g2 g3
end Go.Proofs.Ytakofjbjciljjaa
/- Are two trees the same? The program's answer. -/
namespace Go.Proofs.Ytakofjbjciljjaa
open Go.RowKit

def eqR (r q : R) : Bool := decide (r = q)
theorem eqR_parts (r q : R) : eqR r q = (r.x == q.x && (r.y == q.y && (r.w == q.w && r.h == q.h))) := by
  obtain ⟨a, b, c, d⟩ := r
  obtain ⟨a', b', c', d'⟩ := q
  unfold eqR
  rw [Bool.eq_iff_iff]
  simp

theorem eq_guardS : Try.prog.eqGuardType Try.prog.depth 23 = false := by kernel_rfl
theorem eq_rect (r q : R) (w : World) : (Op.equalIn 10000 23 (val r) (val q)).run Try.prog w = .ok (eqR r q) w := by
  have u3 := Try.underlying3
  have a3 := Try.isAgg3
  have z3 := Try.sizeOf3
  have hS : Try.prog.underlying 23 = some (.struct (Try.prog.fieldsOf 23)) := by kernel_rfl
  have hp : Try.prog.stoodInHeld 23 = false := by kernel_rfl
  rw [show (10000 : Nat) = 9999 + 1 from rfl, run_equalIn_agg w 9999 23 _ _ hS hp]
  simp only [Program.fieldsOf, Try.underlying23]
  rw [eqR_parts]
  cases h1 : r.x == q.x <;> cases h2 : r.y == q.y <;> cases h3 : r.w == q.w <;> cases h4 : r.h == q.h
  all_goals
    go_simp
    try simp [h1, h2, h3, h4]

mutual
def sameT : T → T → Bool
  | .node k r i l, .node k' r' i' l' => decide (k = k') && (eqR r r' && (decide (i = i') && sameL l l'))
def sameL : List T → List T → Bool
  | [], [] => true
  | t :: l, u :: m => sameT t u && sameL l m
  | [], _ :: _ => false
  | _ :: _, [] => false
end
theorem sameT_eq (a b : T) : sameT a b = (decide (a.k = b.k) && (eqR a.r b.r && (decide (a.id = b.id) && sameL a.kids b.kids))) := by cases a; cases b; rw [sameT]; rfl
mutual
theorem sameT_iff : ∀ a b : T, sameT a b = true ↔ a = b
  | .node k r i l, .node k' r' i' l' => by
    rw [sameT]
    simp only [Bool.and_eq_true, decide_eq_true_eq, sameL_iff l l', eqR, T.node.injEq]
theorem sameL_iff : ∀ a b : List T, sameL a b = true ↔ a = b
  | [], [] => by simp [sameL]
  | t :: l, u :: m => by
    rw [sameL, Bool.and_eq_true, sameT_iff t u, sameL_iff l m, List.cons.injEq]
  | [], _ :: _ => by simp [sameL]
  | _ :: _, [] => by simp [sameL]
end
theorem sameL_len {a b : List T} (h : a.length ≠ b.length) : sameL a b = false := by
  cases e : sameL a b with
  | false => rfl
  | true => exact absurd (congrArg List.length ((sameL_iff a b).1 e)) h
theorem sameL_no {a b : List T} {k : Nat} {t u : T} (ha : a[k]? = some t) (hb : b[k]? = some u) (h : sameT t u = false) : sameL a b = false := by
  cases e : sameL a b with
  | false => rfl
  | true =>
    have := (sameL_iff a b).1 e
    subst this
    rw [ha] at hb; cases hb
    rw [(sameT_iff t t).2 rfl] at h; cases h
theorem sameL_yes {a b : List T} (hl : a.length = b.length) (h : ∀ (k : Nat) (t u : T), a[k]? = some t → b[k]? = some u → sameT t u = true) : sameL a b = true := by
  rw [sameL_iff]
  refine List.ext_getElem? fun k => ?_
  rcases Nat.lt_or_ge k a.length with hk | hk
  · have h1 := List.getElem?_eq_getElem hk
    have h2 := List.getElem?_eq_getElem (show k < b.length by omega)
    rw [h1, h2, (sameT_iff _ _).1 (h k _ _ h1 h2)]
  · rw [List.getElem?_eq_none hk, List.getElem?_eq_none (by omega)]
end Go.Proofs.Ytakofjbjciljjaa
/- Panes: as they lie in memory, in rows, in rows of the call's own. -/
namespace Go.Proofs.Ytakofjbjciljjaa
open Go.RowKit

/-- A pane. -/
structure Pn where
  id : Int
  r : R
deriving DecidableEq, Inhabited
def encP (p : Pn) : List Value := [.int .i64 p.id, .int .i64 p.r.x, .int .i64 p.r.y, .int .i64 p.r.w, .int .i64 p.r.h]
abbrev pval (p : Pn) : Value := .agg #[.int .i64 p.id, .int .i64 p.r.x, .int .i64 p.r.y, .int .i64 p.r.w, .int .i64 p.r.h]
abbrev pbox (p : Pn) : Obj := .cells #[.int .i64 p.id, .int .i64 p.r.x, .int .i64 p.r.y, .int .i64 p.r.w, .int .i64 p.r.h] 46
def Pn.fits (p : Pn) : Prop := Ytakofjbjciljjaa.fits p.id ∧ p.r.fits
abbrev zP : Pn := ⟨0, ⟨0, 0, 0, 0⟩⟩

def PAt (w : World) (b o : Nat) (p : Pn) : Prop :=
  w.cell? ⟨b, o, none⟩ = some (.int .i64 p.id) ∧ w.cell? ⟨b, o + 1, none⟩ = some (.int .i64 p.r.x) ∧ w.cell? ⟨b, o + 2, none⟩ = some (.int .i64 p.r.y) ∧ w.cell? ⟨b, o + 3, none⟩ = some (.int .i64 p.r.w) ∧ w.cell? ⟨b, o + 4, none⟩ = some (.int .i64 p.r.h)
theorem PAt.lt {w : World} {b o : Nat} {p : Pn} (h : PAt w b o p) : b < w.heap.size := lt_of_cell h.1
theorem PAt.upB {base : Nat} {w w' : World} {b o : Nat} {p : Pn} (h : PAt w b o p) (hb : Below base w w') (hl : b < base) : PAt w' b o p := by
  obtain ⟨h1, h2, h3, h4, h5⟩ := h
  exact ⟨(hb.cell hl).trans h1, (hb.cell hl).trans h2, (hb.cell hl).trans h3, (hb.cell hl).trans h4, (hb.cell hl).trans h5⟩
theorem PAt.up {w w' : World} {b o : Nat} {p : Pn} (h : PAt w b o p) (hb : Below w.heap.size w w') : PAt w' b o p := h.upB hb h.lt
theorem PAt.grown {w w' : World} {b o : Nat} {p : Pn} {row : Option Nat} (h : PAt w b o p) (hb : w.grownBy w' row) (hne : some b ≠ row) : PAt w' b o p := by
  obtain ⟨h1, h2, h3, h4, h5⟩ := h
  exact ⟨hb.cell h1 hne, hb.cell h2 hne, hb.cell h3 hne, hb.cell h4 hne, hb.cell h5 hne⟩
theorem pbox_new (w : World) (p : Pn) : PAt (w.alloc (pbox p)) w.heap.size 0 p := by
  refine ⟨?_, ?_, ?_, ?_, ?_⟩ <;> simp

/-- Panes in a slice. -/
def PRow (w : World) (v : Value) (l : List Pn) : Prop :=
  (∃ a cap, v = .slice a 0 cap ∧ l = []) ∨ ∃ b o cap, v = .slice (some ⟨b, o, none⟩) l.length cap ∧ ∀ (j : Nat) (p : Pn), l[j]? = some p → PAt w b (o + j * 5) p
theorem PRow.up {w w' : World} {v : Value} {l : List Pn} (h : PRow w v l) (hb : Below w.heap.size w w') : PRow w' v l := by
  rcases h with h | ⟨b, o, cap, h1, h2⟩
  · exact .inl h
  · exact .inr ⟨b, o, cap, h1, fun j f hf => (h2 j f hf).up hb⟩
theorem PRow.shape {w : World} {v : Value} {l : List Pn} (hr : PRow w v l) : ∃ a cap, v = .slice a l.length cap := by
  rcases hr with ⟨a, cap, rfl, rfl⟩ | ⟨b, o, cap, rfl, -⟩
  · exact ⟨_, _, rfl⟩
  · exact ⟨_, _, rfl⟩
theorem PRow.len {w : World} {a : Option Addr} {n cap : Nat} {l : List Pn} (hr : PRow w (.slice a n cap) l) : n = l.length := by
  obtain ⟨a', cap', h⟩ := hr.shape
  cases h; rfl
theorem PRow.place {w : World} {a : Option Addr} {n cap : Nat} {l : List Pn} (hr : PRow w (.slice a n cap) l) (hp : 0 < l.length) : ∃ b o, a = some ⟨b, o, none⟩ ∧ ∀ (j : Nat) (p : Pn), l[j]? = some p → PAt w b (o + j * 5) p := by
  rcases hr with ⟨_, _, -, rfl⟩ | ⟨b, o, cap', he, hf⟩
  · simp at hp
  · obtain ⟨rfl, rfl⟩ : a = some ⟨b, o, none⟩ ∧ cap = cap' := by cases he; exact ⟨rfl, rfl⟩
    exact ⟨b, o, rfl, hf⟩

def flatP (l : List Pn) : List Value := l.flatMap encP
theorem flatP_length (l : List Pn) : (flatP l).length = l.length * 5 := by
  induction l with
  | nil => rfl
  | cons r l ih => simp only [flatP, List.flatMap_cons, List.length_append] at *; rw [ih]; simp [encP]; omega
theorem flatP_append (a b : List Pn) : flatP (a ++ b) = flatP a ++ flatP b := by simp [flatP]
theorem flatP_one (c : Pn) : flatP [c] = encP c := by simp [flatP]
theorem flatP_get (l : List Pn) (j i : Nat) (c : Pn) (hj : l[j]? = some c) (hi : i < 5) : (flatP l)[j * 5 + i]? = (encP c)[i]? := by
  induction l generalizing j with
  | nil => simp at hj
  | cons q l ih =>
    have he : flatP (q :: l) = encP q ++ flatP l := by simp [flatP]
    rw [he]
    have hq : (encP q).length = 5 := rfl
    cases j with
    | zero =>
      simp at hj; subst hj
      rw [List.getElem?_append_left (by omega)]
      simp
    | succ j =>
      rw [List.getElem?_append_right (by omega), hq, show (j + 1) * 5 + i - 5 = j * 5 + i by omega]
      exact ih j (by simpa using hj)
theorem flatP_oneCell (l : List Pn) : ∀ u ∈ flatP l, u.oneCell' = true := by
  intro u hu
  simp only [flatP, List.mem_flatMap] at hu
  obtain ⟨r, -, hr⟩ := hu
  simp [encP] at hr
  rcases hr with rfl | rfl | rfl | rfl | rfl <;> rfl

/-- A row of the call's own. -/
def OwnP (w : World) (base : Nat) (v : Value) (l : List Pn) : Prop := w.ownsRow base 46 5 v l.length (flatP l)

theorem pat_of_flat {w : World} {g : Nat} {l : List Pn} (h : ∀ j u, (flatP l)[j]? = some u → w.cell? ((⟨g, 0, none⟩ : Addr).add j) = some u) (j : Nat) (c : Pn) (hj : l[j]? = some c) : PAt w g (j * 5) c := by
  have hc : ∀ i, i < 5 → ∀ u, (encP c)[i]? = some u → w.cell? ⟨g, j * 5 + i, none⟩ = some u := fun i hi u hu => by
    have := h (j * 5 + i) u (by rw [flatP_get l j i c hj hi]; exact hu)
    rw [Go.WideShapes.add_plain, Nat.zero_add] at this
    exact this
  exact ⟨hc 0 (by omega) _ rfl, hc 1 (by omega) _ rfl, hc 2 (by omega) _ rfl, hc 3 (by omega) _ rfl, hc 4 (by omega) _ rfl⟩
theorem OwnP.row {w : World} {base : Nat} {v : Value} {l : List Pn} (h : OwnP w base v l) : PRow w v l := by
  rcases h.2 with ⟨rfl, hn⟩ | ⟨g, cap, cur, rfl, hb, hg, hn, hm, hs, ht⟩
  · exact .inl ⟨_, _, rfl, List.length_eq_zero_iff.1 hn⟩
  · exact .inr ⟨g, 0, cap, rfl, fun j r hj => by rw [Nat.zero_add]; exact pat_of_flat (h.cells (g := g) rfl) j r hj⟩
theorem OwnP.up {w w' : World} {base : Nat} {v : Value} {l : List Pn} (h : OwnP w base v l) (hb : Below w.heap.size w w') : OwnP w' base v l := owns_up h hb
theorem OwnP.lower {w : World} {base base' : Nat} {v : Value} {l : List Pn} (h : OwnP w base v l) (hb : base' ≤ base) : OwnP w base' v l := owns_base h hb
theorem OwnP.nil (w : World) (base : Nat) : OwnP w base (.slice none 0 0) [] := World.ownsRow_nil w base _ _
theorem OwnP.empty (w : World) (base : Nat) (hb : base ≤ w.heap.size) : OwnP (w.alloc (.cells #[] 46)) base (.slice (some ⟨w.heap.size, 0, none⟩) 0 0) [] := World.ownsRow_made w #[] 0 hb (Nat.zero_le _) (by simp)
theorem OwnP.one (w : World) (base : Nat) (hb : base ≤ w.heap.size) (c : Pn) : OwnP (w.alloc (pbox c)) base (.slice (some ⟨w.heap.size, 0, none⟩) 1 1) [c] := by
  refine ⟨by simp [flatP_length], .inr ⟨w.heap.size, 1, _, rfl, hb, heap_alloc_new w _, by simp, by unfold maxLen; omega, rfl, ?_⟩⟩
  rw [flatP_one]; rfl

abbrev zeroP : Value := .agg #[.int .i64 0, .int .i64 0, .int .i64 0, .int .i64 0, .int .i64 0]
theorem infoP : (Try.prog.info? 46).map (fun i => (i.zero, i.size, i.bytes)) = some (some zeroP, 5, 40) := by kernel_rfl

theorem prow_cells {w : World} {a : Option Addr} {n cap : Nat} {l : List Pn} (h : PRow w (.slice a n cap) l) (hp : 0 < l.length) : ∃ ad, a = some ad ∧ ∀ j u, (flatP l)[j]? = some u → w.cell? (ad.add j) = some u := by
  obtain ⟨b, o, rfl, hf⟩ := h.place hp
  refine ⟨⟨b, o, none⟩, rfl, fun j u hu => ?_⟩
  have hj : j / 5 < l.length := by
    rcases Nat.lt_or_ge j (flatP l).length with h1 | h1
    · rw [flatP_length] at h1; omega
    · rw [List.getElem?_eq_none h1] at hu; cases hu
  have hr := List.getElem?_eq_getElem hj
  have hc : j % 5 < 5 := Nat.mod_lt _ (by omega)
  have e : j / 5 * 5 + j % 5 = j := by omega
  have h1 := flatP_get l (j / 5) (j % 5) _ hr hc
  rw [e, hu] at h1
  obtain ⟨a0, a1, a2, a3, a4⟩ := hf _ _ hr
  rw [Go.WideShapes.add_plain]
  generalize hm : j % 5 = m at *
  have e' : o + j = o + j / 5 * 5 + m := by omega
  rw [e']
  match m, hc with
  | 0, _ => simp [encP] at h1; rw [h1]; exact a0
  | 1, _ => simp [encP] at h1; rw [h1]; exact a1
  | 2, _ => simp [encP] at h1; rw [h1]; exact a2
  | 3, _ => simp [encP] at h1; rw [h1]; exact a3
  | 4, _ => simp [encP] at h1; rw [h1]; exact a4

/-- append(own.., panes...): what is owned then is both; where it lies. -/
theorem wpList_append_panes {w : World} {ops : Array Oper} {rest : List Oper} {o : Oper} {a : Act} {Q : Exit → Act → World → Prop} (hgd : o.guard = none) (s x : Operand)
    (ho : o.op = .call { callee := .builtin .append, args := #[s, x], argTypes := #[41, 41] })
    (base : Nat) (v src : Value) (xs news : List Pn) (hs : a.eval s = v) (hown : OwnP w base v xs) (hx : a.eval x = src) (hrow : PRow w src news) (hp : 0 < news.length)
    (h63 : xs.length + news.length ≤ 1000000) (w0 : World) (hb : Below base w0 w) (hbase0 : base ≤ w0.heap.size)
    (h : ∀ g cap w', OwnP w' base (.slice (some ⟨g, 0, none⟩) (xs ++ news).length cap) (xs ++ news) → Below base w0 w' → w.grownBy w' v.ownBlock → (v.ownBlock = some g ∨ g = w.heap.size) → wpList Try.prog ops Q rest (a.put o.dst (.slice (some ⟨g, 0, none⟩) (xs ++ news).length cap)) w') : wpList Try.prog ops Q (o :: rest) a w := by
  have hbase : base ≤ w.heap.size := Nat.le_trans hbase0 hb.size
  obtain ⟨i, hi, hz0, hz2, hz3⟩ := info_parts infoP
  obtain ⟨ad', cap, rfl⟩ := hrow.shape
  obtain ⟨ad, rfl, hc⟩ := prow_cells hrow hp
  refine wpList_append_lies w hgd s x 41 ho base 46 i zeroP 5 40 Try.underlying41 hi hz0 hz2 hz3 rfl (by decide) v xs.length (flatP xs) hs hown ad news.length cap (flatP news) hx (flatP_length _) hc (flatP_oneCell _) hp (by unfold maxLen; omega) (by omega) hbase w.heap.size rfl ?_
  intro g cap' w' g1 g2 g3 _
  rw [← List.length_append] at g1 ⊢
  exact h g cap' w' (by rw [← flatP_append] at g1; exact g1) (hb.grown g2 hbase (fun k hk => (hown.lt k hk).1)) g2 g3
/-- .. as a step of a region that draws its order: one pane. -/
theorem step_append_pane {w : World} {ops : Array Oper} {o : Oper} {a : Act} {K : Act → World → Prop} {Q : Exit → Act → World → Prop} {E : Prop} (hgd : o.guard = none) (s x : Operand)
    (ho : o.op = .call { callee := .builtin .append, args := #[s, x], argTypes := #[41, 41] })
    (base : Nat) (v : Value) (xs : List Pn) (g0 : Nat) (p : Pn) (hs : a.eval s = v) (hown : OwnP w base v xs) (hx : a.eval x = .slice (some ⟨g0, 0, none⟩) 1 1) (hrow : PAt w g0 0 p)
    (h63 : xs.length + 1 ≤ 1000000) (w0 : World) (hb : Below base w0 w) (hbase0 : base ≤ w0.heap.size)
    (h : ∀ g cap w', OwnP w' base (.slice (some ⟨g, 0, none⟩) (xs.length + 1) cap) (xs ++ [p]) → Below base w0 w' → w.grownBy w' v.ownBlock → (v.ownBlock = some g ∨ g = w.heap.size) → K (a.put o.dst (.slice (some ⟨g, 0, none⟩) (xs.length + 1) cap)) w') :
    if Region.wanted o (yielded ops a.tmps) = true then Oper.wp Try.prog o a w K Q else E := by
  have hbase : base ≤ w.heap.size := Nat.le_trans hbase0 hb.size
  obtain ⟨i, hi, hz0, hz2, hz3⟩ := info_parts infoP
  have hrow' : PRow w (.slice (some ⟨g0, 0, none⟩) 1 1) [p] := .inr ⟨g0, 0, 1, rfl, fun j q hq => by
    cases j with
    | zero => simp at hq; subst hq; simpa using hrow
    | succ j => simp at hq⟩
  obtain ⟨ad, had, hc⟩ := prow_cells hrow' (by simp)
  cases had
  refine step_append_lies w hgd s x 41 ho base 46 i zeroP 5 40 Try.underlying41 hi hz0 hz2 hz3 rfl (by decide) v xs.length (flatP xs) hs hown ⟨g0, 0, none⟩ 1 1 (flatP [p]) hx (flatP_length _) hc (flatP_oneCell _) (by decide) (by unfold maxLen; omega) (by omega) hbase w.heap.size rfl ?_
  intro g cap' w' g1 g2 g3 _
  refine h g cap' w' ?_ (hb.grown g2 hbase (fun k hk => (hown.lt k hk).1)) g2 g3
  rw [← flatP_append] at g1
  have hl : (xs ++ [p]).length = xs.length + 1 := by simp
  unfold OwnP
  rw [hl]; exact g1
end Go.Proofs.Ytakofjbjciljjaa
