/- Texts of this seat, 3 in one file. -/
import Derived.Test.YtbelpnfgdjnpoaaGreatDoorG04
import Derived.Deep.AppendLies
import Derived.Test.YtbelpnfgdjnpoaaGreatDoorG08
import Derived.Test.YtbelpnfgdjnpoaaGreatDoorG03
import Derived.Laws.Rows
/- Rows of cells in memory of the call's own: how they are made, added to. -/
namespace Go.Proofs.YtbelpnfgdjnpoaaGreatDoor
open Go.RowKit

def flatC (l : List C) : List Value := l.flatMap encC
theorem flatC_length (l : List C) : (flatC l).length = l.length * 7 := by
  induction l with
  | nil => rfl
  | cons r l ih => simp only [flatC, List.flatMap_cons, List.length_append] at *; rw [ih]; simp [encC]; omega
theorem flatC_append (a b : List C) : flatC (a ++ b) = flatC a ++ flatC b := by simp [flatC]
theorem flatC_one (c : C) : flatC [c] = encC c := by simp [flatC]
theorem flatC_get (l : List C) (j i : Nat) (c : C) (hj : l[j]? = some c) (hi : i < 7) : (flatC l)[j * 7 + i]? = (encC c)[i]? := by
  induction l generalizing j with
  | nil => simp at hj
  | cons q l ih =>
    have he : flatC (q :: l) = encC q ++ flatC l := by simp [flatC]
    rw [he]
    have hq : (encC q).length = 7 := rfl
    cases j with
    | zero =>
      simp at hj; subst hj
      rw [List.getElem?_append_left (by omega)]
      simp
    | succ j =>
      rw [List.getElem?_append_right (by omega), hq, show (j + 1) * 7 + i - 7 = j * 7 + i by omega]
      exact ih j (by simpa using hj)
theorem flatC_oneCell (l : List C) : ∀ u ∈ flatC l, u.oneCell' = true := by
  intro u hu
  simp only [flatC, List.mem_flatMap] at hu
  obtain ⟨r, -, hr⟩ := hu
  simp [encC] at hr
  rcases hr with rfl | rfl | rfl | rfl | rfl | rfl | rfl <;> rfl

/-- A row of the call's own. -/
def OwnC (w : World) (base : Nat) (v : Value) (l : List C) : Prop := w.ownsRow base 27 7 v l.length (flatC l)

theorem cat_of_flat {w : World} {g : Nat} {l : List C} (h : ∀ j u, (flatC l)[j]? = some u → w.cell? ((⟨g, 0, none⟩ : Addr).add j) = some u) (j : Nat) (c : C) (hj : l[j]? = some c) : CAt w g (j * 7) c := by
  have hc : ∀ i, i < 7 → ∀ u, (encC c)[i]? = some u → w.cell? ⟨g, j * 7 + i, none⟩ = some u := fun i hi u hu => by
    have := h (j * 7 + i) u (by rw [flatC_get l j i c hj hi]; exact hu)
    rw [Go.WideShapes.add_plain, Nat.zero_add] at this
    exact this
  exact ⟨hc 0 (by omega) _ rfl, hc 1 (by omega) _ rfl, hc 2 (by omega) _ rfl, hc 3 (by omega) _ rfl, hc 4 (by omega) _ rfl, hc 5 (by omega) _ rfl, hc 6 (by omega) _ rfl⟩
theorem OwnC.row {w : World} {base : Nat} {v : Value} {l : List C} (h : OwnC w base v l) : CRow w v l := by
  rcases h.2 with ⟨rfl, hn⟩ | ⟨g, cap, cur, rfl, hb, hg, hn, hm, hs, ht⟩
  · exact .inl ⟨_, _, rfl, List.length_eq_zero_iff.1 hn⟩
  · exact .inr ⟨g, 0, cap, rfl, fun j r hj => by rw [Nat.zero_add]; exact cat_of_flat (h.cells (g := g) rfl) j r hj⟩
theorem OwnC.up {w w' : World} {base : Nat} {v : Value} {l : List C} (h : OwnC w base v l) (hb : Below w.heap.size w w') : OwnC w' base v l := owns_up h hb
theorem OwnC.lower {w : World} {base base' : Nat} {v : Value} {l : List C} (h : OwnC w base v l) (hb : base' ≤ base) : OwnC w base' v l := owns_base h hb
theorem OwnC.nil (w : World) (base : Nat) : OwnC w base (.slice none 0 0) [] := World.ownsRow_nil w base _ _
theorem OwnC.empty (w : World) (base : Nat) (hb : base ≤ w.heap.size) : OwnC (w.alloc (.cells #[] 27)) base (.slice (some ⟨w.heap.size, 0, none⟩) 0 0) [] := World.ownsRow_made w #[] 0 hb (Nat.zero_le _) (by simp)
theorem OwnC.one (w : World) (base : Nat) (hb : base ≤ w.heap.size) (c : C) : OwnC (w.alloc (cbox c)) base (.slice (some ⟨w.heap.size, 0, none⟩) 1 1) [c] := by
  refine ⟨by simp [flatC_length], .inr ⟨w.heap.size, 1, _, rfl, hb, heap_alloc_new w _, by simp, by unfold maxLen; omega, rfl, ?_⟩⟩
  rw [flatC_one]; rfl

abbrev zeroC : Value := .agg #[.int .u8 0, .int .i64 0, .int .i64 0, .int .i64 0, .int .i64 0, .int .i64 0, .slice none 0 0]
theorem infoC : (Tryz.prog.info? 27).map (fun i => (i.zero, i.size, i.bytes)) = some (some zeroC, 7, 72) := by kernel_rfl

theorem crow_cells {w : World} {a : Option Addr} {n cap : Nat} {l : List C} (h : CRow w (.slice a n cap) l) (hp : 0 < l.length) : ∃ ad, a = some ad ∧ ∀ j u, (flatC l)[j]? = some u → w.cell? (ad.add j) = some u := by
  obtain ⟨b, o, rfl, hf⟩ := h.place hp
  refine ⟨⟨b, o, none⟩, rfl, fun j u hu => ?_⟩
  have hj : j / 7 < l.length := by
    rcases Nat.lt_or_ge j (flatC l).length with h1 | h1
    · rw [flatC_length] at h1; omega
    · rw [List.getElem?_eq_none h1] at hu; cases hu
  have hr := List.getElem?_eq_getElem hj
  have hc : j % 7 < 7 := Nat.mod_lt _ (by omega)
  have e : j / 7 * 7 + j % 7 = j := by omega
  have h1 := flatC_get l (j / 7) (j % 7) _ hr hc
  rw [e, hu] at h1
  obtain ⟨a0, a1, a2, a3, a4, a5, a6⟩ := hf _ _ hr
  rw [Go.WideShapes.add_plain]
  generalize hm : j % 7 = m at *
  have e' : o + j = o + j / 7 * 7 + m := by omega
  rw [e']
  match m, hc with
  | 0, _ => simp [encC] at h1; rw [h1]; exact a0
  | 1, _ => simp [encC] at h1; rw [h1]; exact a1
  | 2, _ => simp [encC] at h1; rw [h1]; exact a2
  | 3, _ => simp [encC] at h1; rw [h1]; exact a3
  | 4, _ => simp [encC] at h1; rw [h1]; exact a4
  | 5, _ => simp [encC] at h1; rw [h1]; exact a5
  | 6, _ => simp [encC] at h1; rw [h1]; exact a6

/-- append(own.., cells...): what is owned then is both; where it lies. -/
theorem wpList_append_cells {w : World} {ops : Array Oper} {rest : List Oper} {o : Oper} {a : Act} {Q : Exit → Act → World → Prop} (hgd : o.guard = none) (s x : Operand)
    (ho : o.op = .call { callee := .builtin .append, args := #[s, x], argTypes := #[25, 25] })
    (base : Nat) (v src : Value) (xs news : List C) (hs : a.eval s = v) (hown : OwnC w base v xs) (hx : a.eval x = src) (hrow : CRow w src news) (hp : 0 < news.length)
    (h63 : xs.length + news.length ≤ 1954687338211) (w0 : World) (hb : Below base w0 w) (hbase0 : base ≤ w0.heap.size)
    (h : ∀ g cap w', OwnC w' base (.slice (some ⟨g, 0, none⟩) (xs ++ news).length cap) (xs ++ news) → Below base w0 w' → w.grownBy w' v.ownBlock → (v.ownBlock = some g ∨ g = w.heap.size) → wpList Tryz.prog ops Q rest (a.put o.dst (.slice (some ⟨g, 0, none⟩) (xs ++ news).length cap)) w') : wpList Tryz.prog ops Q (o :: rest) a w := by
  have hbase : base ≤ w.heap.size := Nat.le_trans hbase0 hb.size
  obtain ⟨i, hi, hz0, hz2, hz3⟩ := info_parts infoC
  obtain ⟨ad', cap, rfl⟩ := hrow.shape
  obtain ⟨ad, rfl, hc⟩ := crow_cells hrow hp
  refine wpList_append_lies w hgd s x 25 ho base 27 i zeroC 7 72 Tryz.underlying25 hi hz0 hz2 hz3 rfl (by decide) v xs.length (flatC xs) hs hown ad news.length cap (flatC news) hx (flatC_length _) hc (flatC_oneCell _) hp (by unfold maxLen; omega) (by omega) hbase w.heap.size rfl ?_
  intro g cap' w' g1 g2 g3 _
  rw [← List.length_append] at g1 ⊢
  exact h g cap' w' (by rw [← flatC_append] at g1; exact g1) (hb.grown g2 hbase (fun k hk => (hown.lt k hk).1)) g2 g3
end Go.Proofs.YtbelpnfgdjnpoaaGreatDoor
/- Trees in memory of the call's own: which blocks they are made of. -/
namespace Go.Proofs.YtbelpnfgdjnpoaaGreatDoor
open Go.RowKit

def blk (v : Value) : List Nat := match v.ownBlock with | some g => [g] | none => []

/-- A tree all of whose rows are the call's own; S: their blocks. -/
inductive OwnT (w : World) (base : Nat) : C → T → List Nat → Prop
  | mk (c : C) (kids : List T) (cs : List C) (Ss : List (List Nat)) (fine : c.fine) (row : OwnC w base (.slice c.a c.n c.cap) cs) (len : cs.length = kids.length) (slen : Ss.length = kids.length)
      (each : ∀ (j : Nat) (x : C) (t : T) (S : List Nat), cs[j]? = some x → kids[j]? = some t → Ss[j]? = some S → OwnT w base x t S) : OwnT w base c (.node c.k c.r c.id kids) (blk (.slice c.a c.n c.cap) ++ Ss.flatten)

theorem OwnT.is {w : World} {base : Nat} {c : C} {t : T} {S : List Nat} (h : OwnT w base c t S) : Is w c t := by
  induction h with
  | mk c kids cs Ss fine row len slen each ih =>
    refine .mk c kids cs row.row len fine fun j x t hx ht => ?_
    have hj : j < Ss.length := by rw [slen]; exact (List.getElem?_eq_some_iff.1 ht).1
    exact ih j x t _ hx ht (List.getElem?_eq_getElem hj)
theorem own_block {w : World} {base : Nat} {v : Value} {l : List C} (h : OwnC w base v l) {g : Nat} (hg : v.ownBlock = some g) : base ≤ g ∧ g < w.heap.size := h.lt g hg
theorem mem_flat {Ss : List (List Nat)} {k : Nat} : k ∈ Ss.flatten ↔ ∃ (j : Nat) (S : List Nat), Ss[j]? = some S ∧ k ∈ S := by
  rw [List.mem_flatten]
  constructor
  · rintro ⟨S, hS, hk⟩
    obtain ⟨j, hj, rfl⟩ := List.getElem_of_mem hS
    exact ⟨j, _, List.getElem?_eq_getElem hj, hk⟩
  · rintro ⟨j, S, hS, hk⟩
    exact ⟨S, List.mem_of_getElem? hS, hk⟩
theorem OwnT.ge {w : World} {base : Nat} {c : C} {t : T} {S : List Nat} (h : OwnT w base c t S) : ∀ k ∈ S, base ≤ k ∧ k < w.heap.size := by
  induction h with
  | mk c kids cs Ss fine row len slen each ih =>
    intro k hk
    rcases List.mem_append.1 hk with hk | hk
    · unfold blk at hk
      split at hk
      · rename_i g hg
        simp at hk; subst hk
        exact own_block row hg
      · cases hk
    · obtain ⟨j, S, hS, hkS⟩ := mem_flat.1 hk
      have hj : j < kids.length := by rw [← slen]; exact (List.getElem?_eq_some_iff.1 hS).1
      exact ih j _ _ S (List.getElem?_eq_getElem (by rw [len]; exact hj)) (List.getElem?_eq_getElem hj) hS k hkS
theorem ownC_kept {w w' : World} {base : Nat} {v : Value} {l : List C} (h : OwnC w base v l) (hk : ∀ g, v.ownBlock = some g → w'.heap[g]? = w.heap[g]?) : OwnC w' base v l := by
  refine ⟨h.1, ?_⟩
  rcases h.2 with hn | ⟨g, cap, cur, rfl, hg0, hg, rest⟩
  · exact .inl hn
  · exact .inr ⟨g, cap, cur, rfl, hg0, (hk g rfl).trans hg, rest⟩
theorem OwnT.frame {w w' : World} {base : Nat} {c : C} {t : T} {S : List Nat} (h : OwnT w base c t S) (hk : ∀ k ∈ S, w'.heap[k]? = w.heap[k]?) : OwnT w' base c t S := by
  induction h with
  | mk c kids cs Ss fine row len slen each ih =>
    refine .mk c kids cs Ss fine (ownC_kept row fun g hg => hk g (List.mem_append_left _ (by unfold blk; rw [hg]; simp))) len slen fun j x t S hx ht hS => ?_
    exact ih j x t S hx ht hS fun k hkS => hk k (List.mem_append_right _ (mem_flat.2 ⟨j, S, hS, hkS⟩))
theorem OwnT.up {w w' : World} {base : Nat} {c : C} {t : T} {S : List Nat} (h : OwnT w base c t S) (hb : Below w.heap.size w w') : OwnT w' base c t S := h.frame fun k hk => hb.block k (h.ge k hk).2
theorem OwnT.lower {w : World} {base base' : Nat} {c : C} {t : T} {S : List Nat} (h : OwnT w base c t S) (hb : base' ≤ base) : OwnT w base' c t S := by
  induction h with
  | mk c kids cs Ss fine row len slen each ih => exact .mk c kids cs Ss fine (row.lower hb) len slen ih

/-- Trees of the call's own, in a row of its own; no block is used twice. -/
structure Forest (w : World) (base : Nat) (v : Value) (cs : List C) (l : List T) (Ss : List (List Nat)) : Prop where
  row : OwnC w base v cs
  len : cs.length = l.length
  slen : Ss.length = l.length
  each : ∀ (j : Nat) (x : C) (t : T) (S : List Nat), cs[j]? = some x → l[j]? = some t → Ss[j]? = some S → OwnT w base x t S
  nodup : Ss.flatten.Nodup
  apart : ∀ g, v.ownBlock = some g → g ∉ Ss.flatten
theorem Forest.nil (w : World) (base : Nat) : Forest w base (.slice none 0 0) [] [] [] := ⟨OwnC.nil w base, rfl, rfl, fun j x t S hx => by simp at hx, List.nodup_nil, fun g hg => by cases hg⟩
theorem Forest.ge {w : World} {base : Nat} {v : Value} {cs : List C} {l : List T} {Ss : List (List Nat)} (h : Forest w base v cs l Ss) : ∀ k ∈ Ss.flatten, base ≤ k ∧ k < w.heap.size := fun k hk => by
  obtain ⟨j, S, hS, hkS⟩ := mem_flat.1 hk
  have hj : j < l.length := by rw [← h.slen]; exact (List.getElem?_eq_some_iff.1 hS).1
  exact (h.each j _ _ S (List.getElem?_eq_getElem (by rw [h.len]; exact hj)) (List.getElem?_eq_getElem hj) hS).ge k hkS
theorem Forest.frame {w w' : World} {base : Nat} {v : Value} {cs : List C} {l : List T} {Ss : List (List Nat)} (h : Forest w base v cs l Ss) (hb : Below w.heap.size w w') : Forest w' base v cs l Ss :=
  ⟨h.row.up hb, h.len, h.slen, fun j x t S hx ht hS => (h.each j x t S hx ht hS).up hb, h.nodup, h.apart⟩

theorem snoc_get {α : Type} {l : List α} {y x : α} {j : Nat} (h : (l ++ [y])[j]? = some x) : (j < l.length ∧ l[j]? = some x) ∨ (j = l.length ∧ x = y) := by
  rcases Nat.lt_trichotomy j l.length with hj | hj | hj
  · rw [List.getElem?_append_left hj] at h; exact .inl ⟨hj, h⟩
  · subst hj; simp at h; exact .inr ⟨rfl, h.symm⟩
  · rw [List.getElem?_eq_none (by simp; omega)] at h; cases h

/-- One more. -/
theorem Forest.add {wr w2 w3 : World} {o : Obj} {base b2 : Nat} {v : Value} {cs : List C} {l : List T} {Ss : List (List Nat)} {d : C} {u : T} {S2 : List Nat} {g cap : Nat}
    (h : Forest wr base v cs l Ss) (hb : Below wr.heap.size wr w2) (hd : OwnT w2 b2 d u S2) (hS2 : S2.Nodup) (hb2 : wr.heap.size ≤ b2) (hbb : base ≤ b2)
    (hown : OwnC w3 base (.slice (some ⟨g, 0, none⟩) (cs ++ [d]).length cap) (cs ++ [d])) (hgr : (w2.alloc o).grownBy w3 v.ownBlock) (hpl : v.ownBlock = some g ∨ g = (w2.alloc o).heap.size) :
    Forest w3 base (.slice (some ⟨g, 0, none⟩) (cs ++ [d]).length cap) (cs ++ [d]) (l ++ [u]) (Ss ++ [S2]) := by
  have hsame : ∀ k, k < w2.heap.size → v.ownBlock ≠ some k → w3.heap[k]? = w2.heap[k]? := fun k hk hne => by
    rw [hgr.block k (by simp; omega) (fun e => hne e.symm)]
    exact ((Below.refl w2.heap.size w2).alloc (Nat.le_refl _) o).block k hk
  have hvb : ∀ k, v.ownBlock = some k → k < wr.heap.size := fun k hk => (own_block h.row hk).2
  have hold : ∀ k ∈ Ss.flatten, w3.heap[k]? = wr.heap[k]? := fun k hk => by
    have h1 := (h.ge k hk).2
    rw [hsame k (Nat.lt_of_lt_of_le h1 hb.size) (fun e => h.apart k e hk), hb.block k h1]
  have hnew : ∀ k ∈ S2, w3.heap[k]? = w2.heap[k]? := fun k hk => by
    have h1 := hd.ge k hk
    exact hsame k h1.2 fun e => by have := hvb k e; omega
  refine ⟨hown, by simp [h.len], by simp [h.slen], fun j x t S hx ht hS => ?_, ?_, fun k hk => ?_⟩
  · rcases snoc_get hx with ⟨hj, hx'⟩ | ⟨hj, rfl⟩
    · rcases snoc_get ht with ⟨_, ht'⟩ | ⟨hj', _⟩
      · rcases snoc_get hS with ⟨_, hS'⟩ | ⟨hj', _⟩
        · exact (h.each j x t S hx' ht' hS').frame fun k hk => hold k (mem_flat.2 ⟨j, S, hS', hk⟩)
        · rw [h.slen, ← h.len] at hj'; omega
      · rw [← h.len] at hj'; omega
    · rcases snoc_get ht with ⟨hj', _⟩ | ⟨_, rfl⟩
      · rw [← h.len] at hj'; omega
      · rcases snoc_get hS with ⟨hj', _⟩ | ⟨_, rfl⟩
        · rw [h.slen, ← h.len] at hj'; omega
        · exact (hd.lower hbb).frame hnew
  · rw [List.flatten_append]
    simp only [List.flatten_cons, List.flatten_nil, List.append_nil]
    rw [List.nodup_append]
    refine ⟨h.nodup, hS2, fun a ha b hb' e => ?_⟩
    subst e
    have h1 := (h.ge a ha).2
    have h2 := (hd.ge a hb').1
    omega
  · have hk' : g = k := by simpa [Value.ownBlock] using hk
    subst hk'
    rw [List.flatten_append, List.mem_append]
    simp only [List.flatten_cons, List.flatten_nil, List.append_nil]
    rintro (hm | hm)
    · rcases hpl with hp | hp
      · exact h.apart g hp hm
      · have h1 := (h.ge g hm).2; have := hb.size; simp at hp; omega
    · have h2 := hd.ge g hm
      rcases hpl with hp | hp
      · have := hvb g hp; omega
      · simp at hp; omega
end Go.Proofs.YtbelpnfgdjnpoaaGreatDoor
/- What is asked of the cells of trees, one behind the other, by a closure that may keep something. -/
namespace Go.Proofs.YtbelpnfgdjnpoaaGreatDoor
open Go.RowKit

/-- What may turn: blocks of the state's own; a state comes to own new blocks alone. -/
structure Fr {σ : Type} (own : σ → Option Obj → Nat → Prop) (s : σ) (W : World) (s' : σ) (w' : World) : Prop where
  os : w'.os = W.os
  tape : w'.tape = W.tape
  output : w'.output = W.output
  size : W.heap.size ≤ w'.heap.size
  block : ∀ k, k < W.heap.size → ¬ own s W.heap[k]? k → w'.heap[k]? = W.heap[k]?
  own : ∀ k, own s' w'.heap[k]? k → own s W.heap[k]? k ∨ W.heap.size ≤ k

theorem Fr.of {σ : Type} {own : σ → Option Obj → Nat → Prop} {s : σ} {W w' : World} (h : Below W.heap.size W w') : Fr own s W s w' :=
  ⟨h.os, h.tape, h.output, h.size, fun k hk _ => h.block k hk, fun k hk => by
    rcases Nat.lt_or_ge k W.heap.size with h1 | h1
    · rw [h.block k h1] at hk; exact .inl hk
    · exact .inr h1⟩
theorem Fr.trans {σ : Type} {own : σ → Option Obj → Nat → Prop} {s s1 s2 : σ} {W w1 w2 : World} (h : Fr own s W s1 w1) (g : Fr own s1 w1 s2 w2) : Fr own s W s2 w2 := by
  refine ⟨g.os.trans h.os, g.tape.trans h.tape, g.output.trans h.output, Nat.le_trans h.size g.size, fun k hk hn => ?_, fun k hk => ?_⟩
  · refine (g.block k (Nat.lt_of_lt_of_le hk h.size) fun ho => ?_).trans (h.block k hk hn)
    rcases h.own k ho with h1 | h1
    · exact hn h1
    · omega
  · rcases g.own k hk with h1 | h1
    · exact h.own k h1
    · exact .inr (Nat.le_trans h.size h1)
theorem Fr.cell {σ : Type} {own : σ → Option Obj → Nat → Prop} {s s1 : σ} {W w1 : World} (h : Fr own s W s1 w1) {a : Addr} {v : Value} (hc : W.cell? a = some v) (hn : ¬ own s W.heap[a.block]? a.block) : w1.cell? a = some v :=
  (World.cell?_of_block (h.block a.block (lt_of_cell hc) hn)).trans hc
theorem Fr.below {σ : Type} {own : σ → Option Obj → Nat → Prop} {s s1 : σ} {W w1 : World} (h : Fr own s W s1 w1) {B : Nat} (hB : B ≤ W.heap.size) (hn : ∀ k, k < B → ¬ own s W.heap[k]? k) : Below B W w1 :=
  ⟨h.os, h.tape, h.output, h.size, fun k hk => h.block k (Nat.lt_of_lt_of_le hk hB) (hn k hk)⟩
theorem Fr.keep {σ : Type} {own : σ → Option Obj → Nat → Prop} {s s1 : σ} {W w1 : World} (h : Fr own s W s1 w1) {k : Nat} (hk : k < W.heap.size) (hn : ¬ own s W.heap[k]? k) : ¬ own s1 w1.heap[k]? k := fun ho => by
  rcases h.own k ho with h1 | h1
  · exact hn h1
  · omega

/-- One after the other, up to the first that is so. -/
def foldB {σ : Type} (f : σ → T → Bool × σ) : List T → σ → Bool × σ
  | [], s => (false, s)
  | t :: l, s => if (f s t).1 = true then f s t else foldB f l (f s t).2
mutual
def goT {σ : Type} (f : σ → T → Bool × σ) (s : σ) : T → Bool × σ
  | .node k r i l => if (f s (.node k r i l)).1 = true then f s (.node k r i l) else goL f (f s (.node k r i l)).2 l
def goL {σ : Type} (f : σ → T → Bool × σ) (s : σ) : List T → Bool × σ
  | [] => (false, s)
  | t :: l => if (goT f s t).1 = true then goT f s t else goL f (goT f s t).2 l
end
theorem goL_fold {σ : Type} (f : σ → T → Bool × σ) (l : List T) : ∀ s, goL f s l = foldB (goT f) l s := by
  induction l with
  | nil => intro s; rw [goL, foldB]
  | cons t l ih => intro s; rw [goL, foldB, ih]
theorem goT_eq {σ : Type} (f : σ → T → Bool × σ) (s : σ) (t : T) : goT f s t = if (f s t).1 = true then f s t else goL f (f s t).2 t.kids := by
  cases t; rw [goT]; rfl
theorem foldB_step {σ : Type} (f : σ → T → Bool × σ) {l : List T} {k : Nat} {t : T} {s s1 : σ} (ht : l[k]? = some t) (h : foldB f (l.take k) s = (false, s1)) : foldB f (l.take (k + 1)) s = f s1 t := by
  induction l generalizing k s with
  | nil => simp at ht
  | cons u l ih =>
    cases k with
    | zero =>
      simp at ht; subst ht
      simp only [List.take_zero, foldB, Prod.mk.injEq, true_and] at h
      subst h
      simp only [Nat.zero_add, List.take_succ_cons, List.take_zero, foldB]
      by_cases h : (f s u).1 = true
      · rw [if_pos h]
      · rw [if_neg h]
        have h1 : (f s u).1 = false := by simpa using h
        rw [← h1]
    | succ k =>
      rw [List.take_succ_cons, foldB] at h ⊢
      by_cases h1 : (f s u).1 = true
      · rw [if_pos h1] at h
        rw [h] at h1; cases h1
      · rw [if_neg h1] at h ⊢
        exact ih (by simpa using ht) h
theorem foldB_stop {σ : Type} (f : σ → T → Bool × σ) {l : List T} {k : Nat} {s : σ} (h : (foldB f (l.take k) s).1 = true) : foldB f l s = foldB f (l.take k) s := by
  induction l generalizing k s with
  | nil => simp
  | cons u l ih =>
    cases k with
    | zero => simp [foldB] at h
    | succ k =>
      rw [List.take_succ_cons, foldB] at h ⊢
      rw [foldB]
      by_cases h1 : (f s u).1 = true
      · rw [if_pos h1, if_pos h1]
      · rw [if_neg h1] at h
        rw [if_neg h1, if_neg h1]
        exact ih h

/-- What a closure says of a cell, and what it keeps, as long as there is room for as many as there are (rem). -/
def Judge2 {σ : Type} (rem : σ → Nat) (w0 : World) (own : σ → Option Obj → Nat → Prop) (I : σ → World → Prop) (F : Nat) (lb : Array Value) (f : σ → T → Bool × σ) (t : T) : Prop :=
  ∀ (s : σ) (c : C) (W : World), sz t ≤ rem s → Is w0 c t → I s W → Calls Tryz.prog F (#[cval c] ++ lb) W fun e w' => e = .returned (.bool (f s t).1) ∧ ((f s t).1 = false → I (f s t).2 w') ∧ Fr own s W (f s t).2 w'

/-- Trees lie in w0, whose blocks no state owns; what is kept lives through new memory. -/
structure Mach {σ : Type} (w0 : World) (own : σ → Option Obj → Nat → Prop) (I : σ → World → Prop) : Prop where
  new : ∀ s W cs t, I s W → t ≠ 3 → ¬ own s (some (.cells cs t (0, 0))) W.heap.size
  below : ∀ s W, I s W → Below w0.heap.size w0 W
  up : ∀ s W W', I s W → Below W.heap.size W W' → I s W'

/-- A row of cells that is there whatever is kept, and their trees. -/
structure RowIn {σ : Type} (w0 : World) (I : σ → World → Prop) (v : Value) (l : List T) : Prop where
  row : ∃ cs, (∀ s W, I s W → CRow W v cs) ∧ cs.length = l.length ∧ ∀ (j : Nat) (x : C) (u : T), cs[j]? = some x → l[j]? = some u → Is w0 x u
  len : l.length ≤ 1954687338211

theorem RowIn.of {σ : Type} {w0 : World} {own : σ → Option Obj → Nat → Prop} {I : σ → World → Prop} (hM : Mach w0 own I) {v : Value} {l : List T} (h : TRow w0 v l) (hl : l.length ≤ 1954687338211) : RowIn w0 I v l := by
  obtain ⟨cs, h1, h2, h3⟩ := h
  exact ⟨⟨cs, fun s W hI => h1.up (hM.below s W hI), h2, h3⟩, hl⟩
theorem RowIn.mono {σ : Type} {w0 : World} {I I' : σ → World → Prop} {v : Value} {l : List T} (h : RowIn w0 I v l) (hh : ∀ s W, I' s W → I s W) : RowIn w0 I' v l := by
  obtain ⟨⟨cs, h1, h2, h3⟩, hl⟩ := h
  exact ⟨⟨cs, fun s W hI => h1 s W (hh s W hI), h2, h3⟩, hl⟩

set_option maxRecDepth 100000 in
theorem none_any {σ : Type} {w0 : World} {own : σ → Option Obj → Nat → Prop} {I : σ → World → Prop} (hM : Mach w0 own I) (F : Nat) (hE : Enters F) (lb : Array Value) (f : σ → T → Bool × σ) (l : List T) (rem : σ → Nat) (hJ : ∀ t ∈ l, Judge2 rem w0 own I F lb f t)
    (v : Value) (hr : RowIn w0 I v l) (s : σ) (w : World) (hI : I s w) (hok : ∀ (k : Nat) (s1 : σ) (t : T), l[k]? = some t → foldB f (l.take k) s = (false, s1) → sz t ≤ rem s1) :
    Calls Tryz.prog 115 #[v, .func (.func F) #[] lb] w fun e w' => e = .returned (.bool (!(foldB f l s).1)) ∧ ((foldB f l s).1 = false → I (foldB f l s).2 w') ∧ Fr own s w (foldB f l s).2 w' := by
  have hent : ∀ (args : Array Value) (w : World), (callFunc F args).run Tryz.prog w = .ok (.enter F args) w := hE
  obtain ⟨⟨cs, hrow, hcl, his⟩, hlen⟩ := hr
  obtain ⟨a, cap, rfl⟩ := (hrow s w hI).shape
  have HR := Lib.hid hrow
  have HIS := Lib.hid his
  have HI := Lib.hid hI
  have HJ := Lib.hid hJ
  have HM := Lib.hid hM
  have HCL := Lib.hid hcl
  have HOK := Lib.hid hok
  have hlen' : cs.length ≤ 1954687338211 := by omega
  clear hrow his hI hJ hM hE hcl hlen hok
  go_enter Tryz.func115, Tryz.ntmps115
  go_wp2
  go_loopg [9] (cs.length + 1) (fun g i wr => ∃ (k : Nat) (s1 : σ), g + k = cs.length + 1 ∧ k ≤ cs.length ∧ i = .int .i64 k ∧ foldB f (l.take k) s = (false, s1) ∧ I s1 wr ∧ Fr own s w s1 wr)
  case atStart => exact ⟨0, s, by omega, by omega, rfl, by simp [foldB], HI.out, Fr.of (Below.refl _ _)⟩
  case round =>
    obtain ⟨k, s1, hg, hk, rfl, hfd, hi1, hfr⟩ := hrel
    have HG := Lib.hid hg
    have HF := Lib.hid hfd
    have HI1 := Lib.hid hi1
    have HFR := Lib.hid hfr
    clear hg hfd hi1 hfr
    by_cases hlt : k < cs.length
    · obtain ⟨b, o, rfl, hf⟩ := (HR.out _ _ HI1.out).place (by omega)
      obtain ⟨x, hxk⟩ : ∃ x, cs[k]? = some x := ⟨_, List.getElem?_eq_getElem hlt⟩
      obtain ⟨u, hu⟩ : ∃ u, l[k]? = some u := ⟨_, List.getElem?_eq_getElem (by have := HCL.out; omega)⟩
      obtain ⟨c0, c1, c2, c3, c4, c5, c6⟩ := hf k x hxk
      clear hf
      have HA : Hid (Below wr.heap.size wr (wr.alloc (cbox x))) := (Below.refl _ _).alloc (Nat.le_refl _) _
      have HK := Lib.hid (HJ.out u (List.mem_of_getElem? hu) s1 x (wr.alloc (cbox x)) (HOK.out k s1 u hu HF.out) (HIS.out k x u hxk hu) (HM.out.up _ _ _ HI1.out HA.out))
      have HU := Lib.hid hu
      clear hxk hu
      have HST := Lib.hid (foldB_step f HU.out HF.out)
      generalize hres : f s1 u = res at HK HST
      clear hres
      obtain ⟨rb, rs⟩ := res
      go_wp2_with fail
      refine HK.out.mono ?_
      rintro e w2 ⟨rfl, hi2, hfr2⟩
      have HI2 := Lib.hid hi2
      have HF2 := Lib.hid ((HFR.out.trans (Fr.of HA.out)).trans hfr2)
      clear hi2 hfr2
      cases rb
      · have HI3 := Lib.hid (HI2.out (by trivial))
        go_wp2
        go_roundg (gk - 1)
        case measure => have := HG.out; omega
        case rel => exact ⟨k + 1, rs, by have := HG.out; omega, by omega, by go_num, HST.out, HI3.out, HF2.out⟩
      · go_wp2
        go_ret
        have hs := foldB_stop f (l := l) (k := k + 1) (s := s) (by rw [HST.out])
        rw [hs, HST.out]
        exact ⟨rfl, (fun h => by cases h), HF2.out⟩
    · obtain rfl : k = cs.length := by omega
      have hkl : ((cs.length : Int) < (cs.length : Int)) = False := by simp
      go_wp2
      go_ret
      have := HF.out
      rw [List.take_of_length_le (by have := HCL.out; omega)] at this
      rw [this]
      exact ⟨rfl, fun _ => HI1.out, HFR.out⟩
end Go.Proofs.YtbelpnfgdjnpoaaGreatDoor
