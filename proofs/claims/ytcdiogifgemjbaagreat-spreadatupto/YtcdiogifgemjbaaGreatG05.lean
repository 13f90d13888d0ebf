/- Texts of this seat, 3 in one file. -/
import Derived.Test.YtcdiogifgemjbaaGreatG03
import Derived.Test.YtcdiogifgemjbaaGreatG04
import Derived.Test.YtcdiogifgemjbaaGreatG02
import Derived.Laws.Rows
/- Are two rows of numbers the same? And a leaf. -/
namespace Go.Proofs.YtcdiogifgemjbaaGreat
open Go.RowKit

theorem int_at {w : World} {a : Option Addr} {cap n : Nat} {p : List Int} (h : Row w (.slice a n cap) (ints p)) (hp : 0 < p.length) : ∃ b o, a = some ⟨b, o, none⟩ ∧ ∀ (j : Nat) (m : Int), p[j]? = some m → w.cell? ⟨b, o + j, none⟩ = some (.int .i64 m) := by
  obtain ⟨a', cap', he, h0, hc⟩ := h
  cases he
  obtain ⟨b, o, h1, h2⟩ := row_at h0 hc (by rw [ints_length]; exact hp)
  exact ⟨b, o, h1, fun j m hm => h2 j _ (by simp [ints, hm])⟩
theorem row_shape {w : World} {v : Value} {p : List Int} (h : Row w v (ints p)) : ∃ a cap, v = .slice a p.length cap := by
  obtain ⟨a, cap, he, -⟩ := h
  exact ⟨a, cap, by rw [he, ints_length]⟩

def eqI (p q : List Int) : Bool := decide (p = q)
theorem eqI_len {p q : List Int} (h : p.length ≠ q.length) : eqI p q = false := by
  unfold eqI; rw [decide_eq_false]; exact fun e => h (congrArg _ e)
theorem eqI_no {p q : List Int} {k : Nat} {a b : Int} (ha : p[k]? = some a) (hb : q[k]? = some b) (h : a ≠ b) : eqI p q = false := by
  unfold eqI; rw [decide_eq_false]; intro e; subst e; rw [ha] at hb; cases hb; exact h rfl
theorem eqI_yes {p q : List Int} (hl : p.length = q.length) (h : ∀ (k : Nat) (a b : Int), p[k]? = some a → q[k]? = some b → a = b) : eqI p q = true := by
  unfold eqI
  rw [decide_eq_true]
  refine List.ext_getElem? fun k => ?_
  rcases Nat.lt_or_ge k p.length with hk | hk
  · have h1 := List.getElem?_eq_getElem hk
    have h2 := List.getElem?_eq_getElem (show k < q.length by omega)
    rw [h1, h2, h k _ _ h1 h2]
  · rw [List.getElem?_eq_none hk, List.getElem?_eq_none (by omega)]

set_option maxRecDepth 100000 in
theorem ints_any (v1 v2 : Value) (p q : List Int) (w : World) (h1 : Row w v1 (ints p)) (h2 : Row w v2 (ints q)) (hl : p.length ≤ 1000000) :
    Calls Tryz.prog 14 #[v1, v2] w fun e w' => e = .returned (.bool (eqI p q)) ∧ Below w.heap.size w w' := by
  obtain ⟨a1, cap1, rfl⟩ := row_shape h1
  obtain ⟨a2, cap2, rfl⟩ := row_shape h2
  have H1 := Lib.hid h1
  have H2 := Lib.hid h2
  clear h1 h2
  by_cases hlen : p.length = q.length
  · have d0 : ((p.length : Int) != (q.length : Int)) = false := by simp; omega
    have HLEN := Lib.hid hlen
    rw [← hlen] at H2
    rw [← hlen] at d0
    rw [← hlen]
    clear hlen
    go_enter Tryz.func14, Tryz.ntmps14
    go_wp2
    go_loopg [13] (p.length + 1) (fun g i wr => ∃ k : Nat, g + k = p.length + 1 ∧ k ≤ p.length ∧ i = .int .i64 k ∧ (∀ (j : Nat) (a b : Int), j < k → p[j]? = some a → q[j]? = some b → a = b) ∧ Below w.heap.size w wr)
    case atStart => exact ⟨0, by omega, by omega, rfl, fun j t u hj => by omega, Below.refl _ _⟩
    case round =>
      obtain ⟨k, hg, hk, rfl, hsame, hb⟩ := hrel
      have HG := Lib.hid hg
      have HSM := Lib.hid hsame
      have HB := Lib.hid hb
      clear hg hsame hb
      by_cases hlt : k < p.length
      · obtain ⟨a, ha⟩ : ∃ a, p[k]? = some a := ⟨_, List.getElem?_eq_getElem hlt⟩
        obtain ⟨b, hb⟩ : ∃ b, q[k]? = some b := ⟨_, List.getElem?_eq_getElem (by have := HLEN.out; omega)⟩
        obtain ⟨b1, o1, rfl, hf1⟩ := int_at H1.out (by omega)
        obtain ⟨b2, o2, rfl, hf2⟩ := int_at H2.out (by have := HLEN.out; omega)
        have c0 := (HB.out.cell (lt_of_cell (hf1 k a ha))).trans (hf1 k a ha)
        have e0 := (HB.out.cell (lt_of_cell (hf2 k b hb))).trans (hf2 k b hb)
        clear hf1 hf2
        have HT := Lib.hid ha
        have HU := Lib.hid hb
        clear ha hb
        by_cases hab : a = b
        · subst hab
          have d1 : (a != a) = false := by simp
          go_wp2
          go_quiet (fail)
          go_wp2
          go_roundg (gk - 1)
          case measure => have := HG.out; omega
          case rel =>
            refine ⟨k + 1, by have := HG.out; omega, by omega, by go_num, fun j x y hj hx hy => ?_, ⟨HB.out.os, HB.out.tape, HB.out.output, HB.out.size, HB.out.block⟩⟩
            rcases Nat.lt_or_ge j k with h | h
            · exact HSM.out j x y h hx hy
            · obtain rfl : j = k := by omega
              rw [HT.out] at hx; rw [HU.out] at hy
              cases hx; cases hy; rfl
        · have d1 : (a != b) = true := by simpa using hab
          have d2 : (a == b) = false := by simpa using hab
          have HST := Lib.hid (eqI_no HT.out HU.out hab)
          go_wp2
          go_quiet (fail)
          go_wp2
          go_ret
          exact ⟨by rw [HST.out]; rfl, ⟨HB.out.os, HB.out.tape, HB.out.output, HB.out.size, HB.out.block⟩⟩
      · obtain rfl : k = p.length := by omega
        have hkl : ((p.length : Int) < (p.length : Int)) = False := by simp
        have HST := Lib.hid (eqI_yes HLEN.out (fun k a b ha hb => HSM.out k a b (by
          rcases Nat.lt_or_ge k p.length with h | h
          · exact h
          · rw [List.getElem?_eq_none h] at ha; cases ha) ha hb))
        go_wp2
        go_ret
        exact ⟨by rw [HST.out]; rfl, HB.out⟩
  · have d0 : ((p.length : Int) != (q.length : Int)) = true := by simp; omega
    have d1 : (p.length == q.length) = false := by simpa using hlen
    have HV := Lib.hid (eqI_len hlen)
    go_enter Tryz.func14, Tryz.ntmps14
    go_wp2
    go_ret
    exact ⟨by rw [HV.out]; rfl, Below.refl _ _⟩

/-- A leaf, as it lies. -/
abbrev leafC (r : R) (id : Int) : C := ⟨1, r, id, none, 0, 0⟩
theorem leaf_is (r : R) (id : Int) (w : World) (hr : r.fits) (hi : fits id) : Is w (leafC r id) (.node 1 r id []) :=
  .mk (leafC r id) [] [] (.inl ⟨_, _, rfl, rfl⟩) rfl ⟨⟨by simp, by simp⟩, hr, hi, by simp⟩ (fun j x t hx => by simp at hx)
end Go.Proofs.YtcdiogifgemjbaaGreat
/- The document's row of the leaves' numbers. -/
namespace Go.Proofs.YtcdiogifgemjbaaGreat
open Go.RowKit

/-- A row of numbers of the call's own. -/
def OwnI (w : World) (base : Nat) (v : Value) (l : List Int) : Prop := w.ownsRow base 3 1 v l.length (ints l)
theorem OwnI.row {w : World} {base : Nat} {v : Value} {l : List Int} (h : OwnI w base v l) : Row w v (ints l) := Row.of_owns h
theorem OwnI.up {w w' : World} {base : Nat} {v : Value} {l : List Int} (h : OwnI w base v l) (hb : Below w.heap.size w w') : OwnI w' base v l := owns_up h hb
theorem OwnI.lower {w : World} {base base' : Nat} {v : Value} {l : List Int} (h : OwnI w base v l) (hb : base' ≤ base) : OwnI w base' v l := owns_base h hb
theorem OwnI.empty (w : World) (base : Nat) (hb : base ≤ w.heap.size) : OwnI (w.alloc (.cells #[] 3)) base (.slice (some ⟨w.heap.size, 0, none⟩) 0 0) [] := World.ownsRow_made w #[] 0 hb (Nat.zero_le _) (by simp)
theorem OwnI.nil (w : World) (base : Nat) : OwnI w base (.slice none 0 0) [] := World.ownsRow_nil w base _ _

/-- append(own.., numbers...): what is owned then is both; where it lies. -/
theorem wpList_append_ints {w : World} {ops : Array Oper} {rest : List Oper} {o : Oper} {a : Act} {Q : Exit → Act → World → Prop} (hgd : o.guard = none) (s x : Operand)
    (ho : o.op = .call { callee := .builtin .append, args := #[s, x], argTypes := #[27, 27] })
    (base : Nat) (v src : Value) (xs news : List Int) (hs : a.eval s = v) (hown : OwnI w base v xs) (hx : a.eval x = src) (hrow : Row w src (ints news)) (hp : 0 < news.length)
    (h63 : xs.length + news.length ≤ 1954687338211) (w0 : World) (hb : Below base w0 w) (hbase0 : base ≤ w0.heap.size)
    (h : ∀ g cap w', OwnI w' base (.slice (some ⟨g, 0, none⟩) (xs ++ news).length cap) (xs ++ news) → Below base w0 w' → w.grownBy w' v.ownBlock → (v.ownBlock = some g ∨ g = w.heap.size) → wpList Tryz.prog ops Q rest (a.put o.dst (.slice (some ⟨g, 0, none⟩) (xs ++ news).length cap)) w') : wpList Tryz.prog ops Q (o :: rest) a w := by
  have hbase : base ≤ w.heap.size := Nat.le_trans hbase0 hb.size
  obtain ⟨i, hi, hz0, hz2, hz3⟩ := info_parts infoI
  obtain ⟨ad', cap, rfl⟩ := row_shape hrow
  obtain ⟨a', cap', he, h0, hc⟩ := hrow
  rw [ints_length] at he
  cases he
  cases ad' with
  | none => have := (h0 rfl).1; rw [← List.length_eq_zero_iff, ints_length] at this; omega
  | some ad =>
    refine wpList_append_lies w hgd s x 27 ho base 3 i (.int .i64 0) 1 8 Tryz.underlying27 hi hz0 hz2 hz3 rfl (by decide) v xs.length (ints xs) hs hown ad news.length cap (ints news) hx (by rw [ints_length, Nat.mul_one]) (hc ad rfl) (ints_one _) hp (by unfold maxLen; omega) (by omega) hbase w.heap.size rfl ?_
    intro g cap' w' g1 g2 g3 _
    rw [← List.length_append] at g1 ⊢
    exact h g cap' w' (by rw [← ints_append] at g1; exact g1) (hb.grown g2 hbase (fun k hk => (hown.lt k hk).1)) g2 g3

def idsT (t : T) : List Int := ((preT t).filter leafB).map T.id
def IdsSays (l : List Int) (w : World) (e : Ending) (w' : World) : Prop := ∃ v, e = .returned v ∧ OwnI w' w.heap.size v l ∧ Below w.heap.size w w'

end Go.Proofs.YtcdiogifgemjbaaGreat
/- What is asked of the cells of trees, one behind the other, by a closure that may keep something. -/
namespace Go.Proofs.YtcdiogifgemjbaaGreat
open Go.RowKit

/-- What may turn: blocks of the state's own; a state comes to own new blocks alone. -/
structure Fr {σ : Type} (own : σ → Option Obj → Nat → Prop) (s : σ) (W : World) (s' : σ) (w' : World) : Prop where
  os : w'.os = W.os
  tape : w'.tape = W.tape
  output : w'.output = W.output
  size : W.heap.size ≤ w'.heap.size
  block : ∀ k, k < W.heap.size → ¬ own s W.heap[k]? k → w'.heap[k]? = W.heap[k]?
  own : ∀ k, own s' w'.heap[k]? k → own s W.heap[k]? k ∨ W.heap.size ≤ k

theorem Fr.of {σ : Type} {own : σ → Option Obj → Nat → Prop} {s : σ} {W w' : World} (h : Below W.heap.size W w') : Fr own s W s w' :=
  ⟨h.os, h.tape, h.output, h.size, fun k hk _ => h.block k hk, fun k hk => by
    rcases Nat.lt_or_ge k W.heap.size with h1 | h1
    · rw [h.block k h1] at hk; exact .inl hk
    · exact .inr h1⟩
theorem Fr.trans {σ : Type} {own : σ → Option Obj → Nat → Prop} {s s1 s2 : σ} {W w1 w2 : World} (h : Fr own s W s1 w1) (g : Fr own s1 w1 s2 w2) : Fr own s W s2 w2 := by
  refine ⟨g.os.trans h.os, g.tape.trans h.tape, g.output.trans h.output, Nat.le_trans h.size g.size, fun k hk hn => ?_, fun k hk => ?_⟩
  · refine (g.block k (Nat.lt_of_lt_of_le hk h.size) fun ho => ?_).trans (h.block k hk hn)
    rcases h.own k ho with h1 | h1
    · exact hn h1
    · omega
  · rcases g.own k hk with h1 | h1
    · exact h.own k h1
    · exact .inr (Nat.le_trans h.size h1)
theorem Fr.cell {σ : Type} {own : σ → Option Obj → Nat → Prop} {s s1 : σ} {W w1 : World} (h : Fr own s W s1 w1) {a : Addr} {v : Value} (hc : W.cell? a = some v) (hn : ¬ own s W.heap[a.block]? a.block) : w1.cell? a = some v :=
  (World.cell?_of_block (h.block a.block (lt_of_cell hc) hn)).trans hc
theorem Fr.below {σ : Type} {own : σ → Option Obj → Nat → Prop} {s s1 : σ} {W w1 : World} (h : Fr own s W s1 w1) {B : Nat} (hB : B ≤ W.heap.size) (hn : ∀ k, k < B → ¬ own s W.heap[k]? k) : Below B W w1 :=
  ⟨h.os, h.tape, h.output, h.size, fun k hk => h.block k (Nat.lt_of_lt_of_le hk hB) (hn k hk)⟩
theorem Fr.keep {σ : Type} {own : σ → Option Obj → Nat → Prop} {s s1 : σ} {W w1 : World} (h : Fr own s W s1 w1) {k : Nat} (hk : k < W.heap.size) (hn : ¬ own s W.heap[k]? k) : ¬ own s1 w1.heap[k]? k := fun ho => by
  rcases h.own k ho with h1 | h1
  · exact hn h1
  · omega

/-- One after the other, up to the first that is so. -/
def foldB {σ : Type} (f : σ → T → Bool × σ) : List T → σ → Bool × σ
  | [], s => (false, s)
  | t :: l, s => if (f s t).1 = true then f s t else foldB f l (f s t).2
mutual
def goT {σ : Type} (f : σ → T → Bool × σ) (s : σ) : T → Bool × σ
  | .node k r i l => if (f s (.node k r i l)).1 = true then f s (.node k r i l) else goL f (f s (.node k r i l)).2 l
def goL {σ : Type} (f : σ → T → Bool × σ) (s : σ) : List T → Bool × σ
  | [] => (false, s)
  | t :: l => if (goT f s t).1 = true then goT f s t else goL f (goT f s t).2 l
end
theorem goL_fold {σ : Type} (f : σ → T → Bool × σ) (l : List T) : ∀ s, goL f s l = foldB (goT f) l s := by
  induction l with
  | nil => intro s; rw [goL, foldB]
  | cons t l ih => intro s; rw [goL, foldB, ih]
theorem goT_eq {σ : Type} (f : σ → T → Bool × σ) (s : σ) (t : T) : goT f s t = if (f s t).1 = true then f s t else goL f (f s t).2 t.kids := by
  cases t; rw [goT]; rfl
theorem foldB_step {σ : Type} (f : σ → T → Bool × σ) {l : List T} {k : Nat} {t : T} {s s1 : σ} (ht : l[k]? = some t) (h : foldB f (l.take k) s = (false, s1)) : foldB f (l.take (k + 1)) s = f s1 t := by
  induction l generalizing k s with
  | nil => simp at ht
  | cons u l ih =>
    cases k with
    | zero =>
      simp at ht; subst ht
      simp only [List.take_zero, foldB, Prod.mk.injEq, true_and] at h
      subst h
      simp only [Nat.zero_add, List.take_succ_cons, List.take_zero, foldB]
      by_cases h : (f s u).1 = true
      · rw [if_pos h]
      · rw [if_neg h]
        have h1 : (f s u).1 = false := by simpa using h
        rw [← h1]
    | succ k =>
      rw [List.take_succ_cons, foldB] at h ⊢
      by_cases h1 : (f s u).1 = true
      · rw [if_pos h1] at h
        rw [h] at h1; cases h1
      · rw [if_neg h1] at h ⊢
        exact ih (by simpa using ht) h
theorem foldB_stop {σ : Type} (f : σ → T → Bool × σ) {l : List T} {k : Nat} {s : σ} (h : (foldB f (l.take k) s).1 = true) : foldB f l s = foldB f (l.take k) s := by
  induction l generalizing k s with
  | nil => simp
  | cons u l ih =>
    cases k with
    | zero => simp [foldB] at h
    | succ k =>
      rw [List.take_succ_cons, foldB] at h ⊢
      rw [foldB]
      by_cases h1 : (f s u).1 = true
      · rw [if_pos h1, if_pos h1]
      · rw [if_neg h1] at h
        rw [if_neg h1, if_neg h1]
        exact ih h

/-- What a closure says of a cell, and what it keeps, as long as there is room for as many as there are (rem). -/
def Judge2 {σ : Type} (rem : σ → Nat) (w0 : World) (own : σ → Option Obj → Nat → Prop) (I : σ → World → Prop) (F : Nat) (lb : Array Value) (f : σ → T → Bool × σ) (t : T) : Prop :=
  ∀ (s : σ) (c : C) (W : World), sz t ≤ rem s → Is w0 c t → I s W → Calls Tryz.prog F (#[cval c] ++ lb) W fun e w' => e = .returned (.bool (f s t).1) ∧ ((f s t).1 = false → I (f s t).2 w') ∧ Fr own s W (f s t).2 w'

/-- Trees lie in w0, whose blocks no state owns; what is kept lives through new memory. -/
structure Mach {σ : Type} (w0 : World) (own : σ → Option Obj → Nat → Prop) (I : σ → World → Prop) : Prop where
  new : ∀ s W cs t, I s W → t ≠ 3 → ¬ own s (some (.cells cs t (0, 0))) W.heap.size
  below : ∀ s W, I s W → Below w0.heap.size w0 W
  up : ∀ s W W', I s W → Below W.heap.size W W' → I s W'

/-- A row of cells that is there whatever is kept, and their trees. -/
structure RowIn {σ : Type} (w0 : World) (I : σ → World → Prop) (v : Value) (l : List T) : Prop where
  row : ∃ cs, (∀ s W, I s W → CRow W v cs) ∧ cs.length = l.length ∧ ∀ (j : Nat) (x : C) (u : T), cs[j]? = some x → l[j]? = some u → Is w0 x u
  len : l.length ≤ 1954687338211

theorem RowIn.of {σ : Type} {w0 : World} {own : σ → Option Obj → Nat → Prop} {I : σ → World → Prop} (hM : Mach w0 own I) {v : Value} {l : List T} (h : TRow w0 v l) (hl : l.length ≤ 1954687338211) : RowIn w0 I v l := by
  obtain ⟨cs, h1, h2, h3⟩ := h
  exact ⟨⟨cs, fun s W hI => h1.up (hM.below s W hI), h2, h3⟩, hl⟩
theorem RowIn.mono {σ : Type} {w0 : World} {I I' : σ → World → Prop} {v : Value} {l : List T} (h : RowIn w0 I v l) (hh : ∀ s W, I' s W → I s W) : RowIn w0 I' v l := by
  obtain ⟨⟨cs, h1, h2, h3⟩, hl⟩ := h
  exact ⟨⟨cs, fun s W hI => h1 s W (hh s W hI), h2, h3⟩, hl⟩

set_option maxRecDepth 100000 in
theorem none_any {σ : Type} {w0 : World} {own : σ → Option Obj → Nat → Prop} {I : σ → World → Prop} (hM : Mach w0 own I) (F : Nat) (hE : Enters F) (lb : Array Value) (f : σ → T → Bool × σ) (l : List T) (rem : σ → Nat) (hJ : ∀ t ∈ l, Judge2 rem w0 own I F lb f t)
    (v : Value) (hr : RowIn w0 I v l) (s : σ) (w : World) (hI : I s w) (hok : ∀ (k : Nat) (s1 : σ) (t : T), l[k]? = some t → foldB f (l.take k) s = (false, s1) → sz t ≤ rem s1) :
    Calls Tryz.prog 60 #[v, .func (.func F) #[] lb] w fun e w' => e = .returned (.bool (!(foldB f l s).1)) ∧ ((foldB f l s).1 = false → I (foldB f l s).2 w') ∧ Fr own s w (foldB f l s).2 w' := by
  have hent : ∀ (args : Array Value) (w : World), (callFunc F args).run Tryz.prog w = .ok (.enter F args) w := hE
  obtain ⟨⟨cs, hrow, hcl, his⟩, hlen⟩ := hr
  obtain ⟨a, cap, rfl⟩ := (hrow s w hI).shape
  have HR := Lib.hid hrow
  have HIS := Lib.hid his
  have HI := Lib.hid hI
  have HJ := Lib.hid hJ
  have HM := Lib.hid hM
  have HCL := Lib.hid hcl
  have HOK := Lib.hid hok
  have hlen' : cs.length ≤ 1954687338211 := by omega
  clear hrow his hI hJ hM hE hcl hlen hok
  go_enter Tryz.func60, Tryz.ntmps60
  go_wp2
  go_loopg [9] (cs.length + 1) (fun g i wr => ∃ (k : Nat) (s1 : σ), g + k = cs.length + 1 ∧ k ≤ cs.length ∧ i = .int .i64 k ∧ foldB f (l.take k) s = (false, s1) ∧ I s1 wr ∧ Fr own s w s1 wr)
  case atStart => exact ⟨0, s, by omega, by omega, rfl, by simp [foldB], HI.out, Fr.of (Below.refl _ _)⟩
  case round =>
    obtain ⟨k, s1, hg, hk, rfl, hfd, hi1, hfr⟩ := hrel
    have HG := Lib.hid hg
    have HF := Lib.hid hfd
    have HI1 := Lib.hid hi1
    have HFR := Lib.hid hfr
    clear hg hfd hi1 hfr
    by_cases hlt : k < cs.length
    · obtain ⟨b, o, rfl, hf⟩ := (HR.out _ _ HI1.out).place (by omega)
      obtain ⟨x, hxk⟩ : ∃ x, cs[k]? = some x := ⟨_, List.getElem?_eq_getElem hlt⟩
      obtain ⟨u, hu⟩ : ∃ u, l[k]? = some u := ⟨_, List.getElem?_eq_getElem (by have := HCL.out; omega)⟩
      obtain ⟨c0, c1, c2, c3, c4, c5, c6⟩ := hf k x hxk
      clear hf
      have HA : Hid (Below wr.heap.size wr (wr.alloc (cbox x))) := (Below.refl _ _).alloc (Nat.le_refl _) _
      have HK := Lib.hid (HJ.out u (List.mem_of_getElem? hu) s1 x (wr.alloc (cbox x)) (HOK.out k s1 u hu HF.out) (HIS.out k x u hxk hu) (HM.out.up _ _ _ HI1.out HA.out))
      have HU := Lib.hid hu
      clear hxk hu
      have HST := Lib.hid (foldB_step f HU.out HF.out)
      generalize hres : f s1 u = res at HK HST
      clear hres
      obtain ⟨rb, rs⟩ := res
      go_wp2_with fail
      refine HK.out.mono ?_
      rintro e w2 ⟨rfl, hi2, hfr2⟩
      have HI2 := Lib.hid hi2
      have HF2 := Lib.hid ((HFR.out.trans (Fr.of HA.out)).trans hfr2)
      clear hi2 hfr2
      cases rb
      · have HI3 := Lib.hid (HI2.out (by trivial))
        go_wp2
        go_roundg (gk - 1)
        case measure => have := HG.out; omega
        case rel => exact ⟨k + 1, rs, by have := HG.out; omega, by omega, by go_num, HST.out, HI3.out, HF2.out⟩
      · go_wp2
        go_ret
        have hs := foldB_stop f (l := l) (k := k + 1) (s := s) (by rw [HST.out])
        rw [hs, HST.out]
        exact ⟨rfl, (fun h => by cases h), HF2.out⟩
    · obtain rfl : k = cs.length := by omega
      have hkl : ((cs.length : Int) < (cs.length : Int)) = False := by simp
      go_wp2
      go_ret
      have := HF.out
      rw [List.take_of_length_le (by have := HCL.out; omega)] at this
      rw [this]
      exact ⟨rfl, fun _ => HI1.out, HFR.out⟩
end Go.Proofs.YtcdiogifgemjbaaGreat
