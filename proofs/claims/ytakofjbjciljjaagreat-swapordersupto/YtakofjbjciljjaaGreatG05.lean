/- Texts of this seat, 3 in one file. -/
import Derived.Test.YtakofjbjciljjaaGreatG03
import Derived.Deep.AppendLies
import Derived.Test.YtakofjbjciljjaaGreatG04
import Derived.Test.YtakofjbjciljjaaGreatG02
import Derived.Laws.StructEq
/- Rows of cells in memory of the call's own: how they are made, added to. -/
namespace Go.Proofs.YtakofjbjciljjaaGreat
open Go.RowKit

def flatC (l : List C) : List Value := l.flatMap encC
theorem flatC_length (l : List C) : (flatC l).length = l.length * 7 := by
  induction l with
  | nil => rfl
  | cons r l ih => simp only [flatC, List.flatMap_cons, List.length_append] at *; rw [ih]; simp [encC]; omega
theorem flatC_append (a b : List C) : flatC (a ++ b) = flatC a ++ flatC b := by simp [flatC]
theorem flatC_one (c : C) : flatC [c] = encC c := by simp [flatC]
theorem flatC_get (l : List C) (j i : Nat) (c : C) (hj : l[j]? = some c) (hi : i < 7) : (flatC l)[j * 7 + i]? = (encC c)[i]? := by
  induction l generalizing j with
  | nil => simp at hj
  | cons q l ih =>
    have he : flatC (q :: l) = encC q ++ flatC l := by simp [flatC]
    rw [he]
    have hq : (encC q).length = 7 := rfl
    cases j with
    | zero =>
      simp at hj; subst hj
      rw [List.getElem?_append_left (by omega)]
      simp
    | succ j =>
      rw [List.getElem?_append_right (by omega), hq, show (j + 1) * 7 + i - 7 = j * 7 + i by omega]
      exact ih j (by simpa using hj)
theorem flatC_oneCell (l : List C) : ∀ u ∈ flatC l, u.oneCell' = true := by
  intro u hu
  simp only [flatC, List.mem_flatMap] at hu
  obtain ⟨r, -, hr⟩ := hu
  simp [encC] at hr
  rcases hr with rfl | rfl | rfl | rfl | rfl | rfl | rfl <;> rfl

/-- A row of the call's own. -/
def OwnC (w : World) (base : Nat) (v : Value) (l : List C) : Prop := w.ownsRow base 26 7 v l.length (flatC l)

theorem cat_of_flat {w : World} {g : Nat} {l : List C} (h : ∀ j u, (flatC l)[j]? = some u → w.cell? ((⟨g, 0, none⟩ : Addr).add j) = some u) (j : Nat) (c : C) (hj : l[j]? = some c) : CAt w g (j * 7) c := by
  have hc : ∀ i, i < 7 → ∀ u, (encC c)[i]? = some u → w.cell? ⟨g, j * 7 + i, none⟩ = some u := fun i hi u hu => by
    have := h (j * 7 + i) u (by rw [flatC_get l j i c hj hi]; exact hu)
    rw [Go.WideShapes.add_plain, Nat.zero_add] at this
    exact this
  exact ⟨hc 0 (by omega) _ rfl, hc 1 (by omega) _ rfl, hc 2 (by omega) _ rfl, hc 3 (by omega) _ rfl, hc 4 (by omega) _ rfl, hc 5 (by omega) _ rfl, hc 6 (by omega) _ rfl⟩
theorem OwnC.row {w : World} {base : Nat} {v : Value} {l : List C} (h : OwnC w base v l) : CRow w v l := by
  rcases h.2 with ⟨rfl, hn⟩ | ⟨g, cap, cur, rfl, hb, hg, hn, hm, hs, ht⟩
  · exact .inl ⟨_, _, rfl, List.length_eq_zero_iff.1 hn⟩
  · exact .inr ⟨g, 0, cap, rfl, fun j r hj => by rw [Nat.zero_add]; exact cat_of_flat (h.cells (g := g) rfl) j r hj⟩
theorem OwnC.up {w w' : World} {base : Nat} {v : Value} {l : List C} (h : OwnC w base v l) (hb : Below w.heap.size w w') : OwnC w' base v l := owns_up h hb
theorem OwnC.lower {w : World} {base base' : Nat} {v : Value} {l : List C} (h : OwnC w base v l) (hb : base' ≤ base) : OwnC w base' v l := owns_base h hb
theorem OwnC.nil (w : World) (base : Nat) : OwnC w base (.slice none 0 0) [] := World.ownsRow_nil w base _ _
theorem OwnC.empty (w : World) (base : Nat) (hb : base ≤ w.heap.size) : OwnC (w.alloc (.cells #[] 26)) base (.slice (some ⟨w.heap.size, 0, none⟩) 0 0) [] := World.ownsRow_made w #[] 0 hb (Nat.zero_le _) (by simp)
theorem OwnC.one (w : World) (base : Nat) (hb : base ≤ w.heap.size) (c : C) : OwnC (w.alloc (cbox c)) base (.slice (some ⟨w.heap.size, 0, none⟩) 1 1) [c] := by
  refine ⟨by simp [flatC_length], .inr ⟨w.heap.size, 1, _, rfl, hb, heap_alloc_new w _, by simp, by unfold maxLen; omega, rfl, ?_⟩⟩
  rw [flatC_one]; rfl

abbrev zeroC : Value := .agg #[.int .u8 0, .int .i64 0, .int .i64 0, .int .i64 0, .int .i64 0, .int .i64 0, .slice none 0 0]
theorem infoC : (Tryz.prog.info? 26).map (fun i => (i.zero, i.size, i.bytes)) = some (some zeroC, 7, 72) := by kernel_rfl

theorem crow_cells {w : World} {a : Option Addr} {n cap : Nat} {l : List C} (h : CRow w (.slice a n cap) l) (hp : 0 < l.length) : ∃ ad, a = some ad ∧ ∀ j u, (flatC l)[j]? = some u → w.cell? (ad.add j) = some u := by
  obtain ⟨b, o, rfl, hf⟩ := h.place hp
  refine ⟨⟨b, o, none⟩, rfl, fun j u hu => ?_⟩
  have hj : j / 7 < l.length := by
    rcases Nat.lt_or_ge j (flatC l).length with h1 | h1
    · rw [flatC_length] at h1; omega
    · rw [List.getElem?_eq_none h1] at hu; cases hu
  have hr := List.getElem?_eq_getElem hj
  have hc : j % 7 < 7 := Nat.mod_lt _ (by omega)
  have e : j / 7 * 7 + j % 7 = j := by omega
  have h1 := flatC_get l (j / 7) (j % 7) _ hr hc
  rw [e, hu] at h1
  obtain ⟨a0, a1, a2, a3, a4, a5, a6⟩ := hf _ _ hr
  rw [Go.WideShapes.add_plain]
  generalize hm : j % 7 = m at *
  have e' : o + j = o + j / 7 * 7 + m := by omega
  rw [e']
  match m, hc with
  | 0, _ => simp [encC] at h1; rw [h1]; exact a0
  | 1, _ => simp [encC] at h1; rw [h1]; exact a1
  | 2, _ => simp [encC] at h1; rw [h1]; exact a2
  | 3, _ => simp [encC] at h1; rw [h1]; exact a3
  | 4, _ => simp [encC] at h1; rw [h1]; exact a4
  | 5, _ => simp [encC] at h1; rw [h1]; exact a5
  | 6, _ => simp [encC] at h1; rw [h1]; exact a6

/-- append(own.., cells...): what is owned then is both; where it lies. -/
theorem wpList_append_cells {w : World} {ops : Array Oper} {rest : List Oper} {o : Oper} {a : Act} {Q : Exit → Act → World → Prop} (hgd : o.guard = none) (s x : Operand)
    (ho : o.op = .call { callee := .builtin .append, args := #[s, x], argTypes := #[24, 24] })
    (base : Nat) (v src : Value) (xs news : List C) (hs : a.eval s = v) (hown : OwnC w base v xs) (hx : a.eval x = src) (hrow : CRow w src news) (hp : 0 < news.length)
    (h63 : xs.length + news.length ≤ 1954687338211) (w0 : World) (hb : Below base w0 w) (hbase0 : base ≤ w0.heap.size)
    (h : ∀ g cap w', OwnC w' base (.slice (some ⟨g, 0, none⟩) (xs ++ news).length cap) (xs ++ news) → Below base w0 w' → w.grownBy w' v.ownBlock → (v.ownBlock = some g ∨ g = w.heap.size) → wpList Tryz.prog ops Q rest (a.put o.dst (.slice (some ⟨g, 0, none⟩) (xs ++ news).length cap)) w') : wpList Tryz.prog ops Q (o :: rest) a w := by
  have hbase : base ≤ w.heap.size := Nat.le_trans hbase0 hb.size
  obtain ⟨i, hi, hz0, hz2, hz3⟩ := info_parts infoC
  obtain ⟨ad', cap, rfl⟩ := hrow.shape
  obtain ⟨ad, rfl, hc⟩ := crow_cells hrow hp
  refine wpList_append_lies w hgd s x 24 ho base 26 i zeroC 7 72 Tryz.underlying24 hi hz0 hz2 hz3 rfl (by decide) v xs.length (flatC xs) hs hown ad news.length cap (flatC news) hx (flatC_length _) hc (flatC_oneCell _) hp (by unfold maxLen; omega) (by omega) hbase w.heap.size rfl ?_
  intro g cap' w' g1 g2 g3 _
  rw [← List.length_append] at g1 ⊢
  exact h g cap' w' (by rw [← flatC_append] at g1; exact g1) (hb.grown g2 hbase (fun k hk => (hown.lt k hk).1)) g2 g3
end Go.Proofs.YtakofjbjciljjaaGreat
/- Trees in memory of the call's own: which blocks they are made of. -/
namespace Go.Proofs.YtakofjbjciljjaaGreat
open Go.RowKit

def blk (v : Value) : List Nat := match v.ownBlock with | some g => [g] | none => []

/-- A tree all of whose rows are the call's own; S: their blocks. -/
inductive OwnT (w : World) (base : Nat) : C → T → List Nat → Prop
  | mk (c : C) (kids : List T) (cs : List C) (Ss : List (List Nat)) (fine : c.fine) (row : OwnC w base (.slice c.a c.n c.cap) cs) (len : cs.length = kids.length) (slen : Ss.length = kids.length)
      (each : ∀ (j : Nat) (x : C) (t : T) (S : List Nat), cs[j]? = some x → kids[j]? = some t → Ss[j]? = some S → OwnT w base x t S) : OwnT w base c (.node c.k c.r c.id kids) (blk (.slice c.a c.n c.cap) ++ Ss.flatten)

theorem OwnT.is {w : World} {base : Nat} {c : C} {t : T} {S : List Nat} (h : OwnT w base c t S) : Is w c t := by
  induction h with
  | mk c kids cs Ss fine row len slen each ih =>
    refine .mk c kids cs row.row len fine fun j x t hx ht => ?_
    have hj : j < Ss.length := by rw [slen]; exact (List.getElem?_eq_some_iff.1 ht).1
    exact ih j x t _ hx ht (List.getElem?_eq_getElem hj)
theorem own_block {w : World} {base : Nat} {v : Value} {l : List C} (h : OwnC w base v l) {g : Nat} (hg : v.ownBlock = some g) : base ≤ g ∧ g < w.heap.size := h.lt g hg
theorem mem_flat {Ss : List (List Nat)} {k : Nat} : k ∈ Ss.flatten ↔ ∃ (j : Nat) (S : List Nat), Ss[j]? = some S ∧ k ∈ S := by
  rw [List.mem_flatten]
  constructor
  · rintro ⟨S, hS, hk⟩
    obtain ⟨j, hj, rfl⟩ := List.getElem_of_mem hS
    exact ⟨j, _, List.getElem?_eq_getElem hj, hk⟩
  · rintro ⟨j, S, hS, hk⟩
    exact ⟨S, List.mem_of_getElem? hS, hk⟩
theorem OwnT.ge {w : World} {base : Nat} {c : C} {t : T} {S : List Nat} (h : OwnT w base c t S) : ∀ k ∈ S, base ≤ k ∧ k < w.heap.size := by
  induction h with
  | mk c kids cs Ss fine row len slen each ih =>
    intro k hk
    rcases List.mem_append.1 hk with hk | hk
    · unfold blk at hk
      split at hk
      · rename_i g hg
        simp at hk; subst hk
        exact own_block row hg
      · cases hk
    · obtain ⟨j, S, hS, hkS⟩ := mem_flat.1 hk
      have hj : j < kids.length := by rw [← slen]; exact (List.getElem?_eq_some_iff.1 hS).1
      exact ih j _ _ S (List.getElem?_eq_getElem (by rw [len]; exact hj)) (List.getElem?_eq_getElem hj) hS k hkS
theorem ownC_kept {w w' : World} {base : Nat} {v : Value} {l : List C} (h : OwnC w base v l) (hk : ∀ g, v.ownBlock = some g → w'.heap[g]? = w.heap[g]?) : OwnC w' base v l := by
  refine ⟨h.1, ?_⟩
  rcases h.2 with hn | ⟨g, cap, cur, rfl, hg0, hg, rest⟩
  · exact .inl hn
  · exact .inr ⟨g, cap, cur, rfl, hg0, (hk g rfl).trans hg, rest⟩
theorem OwnT.frame {w w' : World} {base : Nat} {c : C} {t : T} {S : List Nat} (h : OwnT w base c t S) (hk : ∀ k ∈ S, w'.heap[k]? = w.heap[k]?) : OwnT w' base c t S := by
  induction h with
  | mk c kids cs Ss fine row len slen each ih =>
    refine .mk c kids cs Ss fine (ownC_kept row fun g hg => hk g (List.mem_append_left _ (by unfold blk; rw [hg]; simp))) len slen fun j x t S hx ht hS => ?_
    exact ih j x t S hx ht hS fun k hkS => hk k (List.mem_append_right _ (mem_flat.2 ⟨j, S, hS, hkS⟩))
theorem OwnT.up {w w' : World} {base : Nat} {c : C} {t : T} {S : List Nat} (h : OwnT w base c t S) (hb : Below w.heap.size w w') : OwnT w' base c t S := h.frame fun k hk => hb.block k (h.ge k hk).2
theorem OwnT.lower {w : World} {base base' : Nat} {c : C} {t : T} {S : List Nat} (h : OwnT w base c t S) (hb : base' ≤ base) : OwnT w base' c t S := by
  induction h with
  | mk c kids cs Ss fine row len slen each ih => exact .mk c kids cs Ss fine (row.lower hb) len slen ih

/-- Trees of the call's own, in a row of its own; no block is used twice. -/
structure Forest (w : World) (base : Nat) (v : Value) (cs : List C) (l : List T) (Ss : List (List Nat)) : Prop where
  row : OwnC w base v cs
  len : cs.length = l.length
  slen : Ss.length = l.length
  each : ∀ (j : Nat) (x : C) (t : T) (S : List Nat), cs[j]? = some x → l[j]? = some t → Ss[j]? = some S → OwnT w base x t S
  nodup : Ss.flatten.Nodup
  apart : ∀ g, v.ownBlock = some g → g ∉ Ss.flatten
theorem Forest.nil (w : World) (base : Nat) : Forest w base (.slice none 0 0) [] [] [] := ⟨OwnC.nil w base, rfl, rfl, fun j x t S hx => by simp at hx, List.nodup_nil, fun g hg => by cases hg⟩
theorem Forest.ge {w : World} {base : Nat} {v : Value} {cs : List C} {l : List T} {Ss : List (List Nat)} (h : Forest w base v cs l Ss) : ∀ k ∈ Ss.flatten, base ≤ k ∧ k < w.heap.size := fun k hk => by
  obtain ⟨j, S, hS, hkS⟩ := mem_flat.1 hk
  have hj : j < l.length := by rw [← h.slen]; exact (List.getElem?_eq_some_iff.1 hS).1
  exact (h.each j _ _ S (List.getElem?_eq_getElem (by rw [h.len]; exact hj)) (List.getElem?_eq_getElem hj) hS).ge k hkS
theorem Forest.frame {w w' : World} {base : Nat} {v : Value} {cs : List C} {l : List T} {Ss : List (List Nat)} (h : Forest w base v cs l Ss) (hb : Below w.heap.size w w') : Forest w' base v cs l Ss :=
  ⟨h.row.up hb, h.len, h.slen, fun j x t S hx ht hS => (h.each j x t S hx ht hS).up hb, h.nodup, h.apart⟩

theorem snoc_get {α : Type} {l : List α} {y x : α} {j : Nat} (h : (l ++ [y])[j]? = some x) : (j < l.length ∧ l[j]? = some x) ∨ (j = l.length ∧ x = y) := by
  rcases Nat.lt_trichotomy j l.length with hj | hj | hj
  · rw [List.getElem?_append_left hj] at h; exact .inl ⟨hj, h⟩
  · subst hj; simp at h; exact .inr ⟨rfl, h.symm⟩
  · rw [List.getElem?_eq_none (by simp; omega)] at h; cases h

/-- One more. -/
theorem Forest.add {wr w2 w3 : World} {o : Obj} {base b2 : Nat} {v : Value} {cs : List C} {l : List T} {Ss : List (List Nat)} {d : C} {u : T} {S2 : List Nat} {g cap : Nat}
    (h : Forest wr base v cs l Ss) (hb : Below wr.heap.size wr w2) (hd : OwnT w2 b2 d u S2) (hS2 : S2.Nodup) (hb2 : wr.heap.size ≤ b2) (hbb : base ≤ b2)
    (hown : OwnC w3 base (.slice (some ⟨g, 0, none⟩) (cs ++ [d]).length cap) (cs ++ [d])) (hgr : (w2.alloc o).grownBy w3 v.ownBlock) (hpl : v.ownBlock = some g ∨ g = (w2.alloc o).heap.size) :
    Forest w3 base (.slice (some ⟨g, 0, none⟩) (cs ++ [d]).length cap) (cs ++ [d]) (l ++ [u]) (Ss ++ [S2]) := by
  have hsame : ∀ k, k < w2.heap.size → v.ownBlock ≠ some k → w3.heap[k]? = w2.heap[k]? := fun k hk hne => by
    rw [hgr.block k (by simp; omega) (fun e => hne e.symm)]
    exact ((Below.refl w2.heap.size w2).alloc (Nat.le_refl _) o).block k hk
  have hvb : ∀ k, v.ownBlock = some k → k < wr.heap.size := fun k hk => (own_block h.row hk).2
  have hold : ∀ k ∈ Ss.flatten, w3.heap[k]? = wr.heap[k]? := fun k hk => by
    have h1 := (h.ge k hk).2
    rw [hsame k (Nat.lt_of_lt_of_le h1 hb.size) (fun e => h.apart k e hk), hb.block k h1]
  have hnew : ∀ k ∈ S2, w3.heap[k]? = w2.heap[k]? := fun k hk => by
    have h1 := hd.ge k hk
    exact hsame k h1.2 fun e => by have := hvb k e; omega
  refine ⟨hown, by simp [h.len], by simp [h.slen], fun j x t S hx ht hS => ?_, ?_, fun k hk => ?_⟩
  · rcases snoc_get hx with ⟨hj, hx'⟩ | ⟨hj, rfl⟩
    · rcases snoc_get ht with ⟨_, ht'⟩ | ⟨hj', _⟩
      · rcases snoc_get hS with ⟨_, hS'⟩ | ⟨hj', _⟩
        · exact (h.each j x t S hx' ht' hS').frame fun k hk => hold k (mem_flat.2 ⟨j, S, hS', hk⟩)
        · rw [h.slen, ← h.len] at hj'; omega
      · rw [← h.len] at hj'; omega
    · rcases snoc_get ht with ⟨hj', _⟩ | ⟨_, rfl⟩
      · rw [← h.len] at hj'; omega
      · rcases snoc_get hS with ⟨hj', _⟩ | ⟨_, rfl⟩
        · rw [h.slen, ← h.len] at hj'; omega
        · exact (hd.lower hbb).frame hnew
  · rw [List.flatten_append]
    simp only [List.flatten_cons, List.flatten_nil, List.append_nil]
    rw [List.nodup_append]
    refine ⟨h.nodup, hS2, fun a ha b hb' e => ?_⟩
    subst e
    have h1 := (h.ge a ha).2
    have h2 := (hd.ge a hb').1
    omega
  · have hk' : g = k := by simpa [Value.ownBlock] using hk
    subst hk'
    rw [List.flatten_append, List.mem_append]
    simp only [List.flatten_cons, List.flatten_nil, List.append_nil]
    rintro (hm | hm)
    · rcases hpl with hp | hp
      · exact h.apart g hp hm
      · have h1 := (h.ge g hm).2; have := hb.size; simp at hp; omega
    · have h2 := hd.ge g hm
      rcases hpl with hp | hp
      · have := hvb g hp; omega
      · simp at hp; omega
end Go.Proofs.YtakofjbjciljjaaGreat
/- Are two trees the same? The program's answer. -/
namespace Go.Proofs.YtakofjbjciljjaaGreat
open Go.RowKit

def eqR (r q : R) : Bool := decide (r = q)
theorem eqR_parts (r q : R) : eqR r q = (r.x == q.x && (r.y == q.y && (r.w == q.w && r.h == q.h))) := by
  obtain ⟨a, b, c, d⟩ := r
  obtain ⟨a', b', c', d'⟩ := q
  unfold eqR
  rw [Bool.eq_iff_iff]
  simp

theorem eq_guardS : Tryz.prog.eqGuardType Tryz.prog.depth 23 = false := by kernel_rfl
theorem eq_rect (r q : R) (w : World) : (Op.equalIn 10000 23 (val r) (val q)).run Tryz.prog w = .ok (eqR r q) w := by
  have u3 := Tryz.underlying3
  have a3 := Tryz.isAgg3
  have z3 := Tryz.sizeOf3
  have hS : Tryz.prog.underlying 23 = some (.struct (Tryz.prog.fieldsOf 23)) := by kernel_rfl
  have hp : Tryz.prog.stoodInHeld 23 = false := by kernel_rfl
  rw [show (10000 : Nat) = 9999 + 1 from rfl, run_equalIn_agg w 9999 23 _ _ hS hp]
  simp only [Program.fieldsOf, Tryz.underlying23]
  rw [eqR_parts]
  cases h1 : r.x == q.x <;> cases h2 : r.y == q.y <;> cases h3 : r.w == q.w <;> cases h4 : r.h == q.h
  all_goals
    go_simp
    try simp [h1, h2, h3, h4]

mutual
def sameT : T → T → Bool
  | .node k r i l, .node k' r' i' l' => decide (k = k') && (eqR r r' && (decide (i = i') && sameL l l'))
def sameL : List T → List T → Bool
  | [], [] => true
  | t :: l, u :: m => sameT t u && sameL l m
  | [], _ :: _ => false
  | _ :: _, [] => false
end
theorem sameT_eq (a b : T) : sameT a b = (decide (a.k = b.k) && (eqR a.r b.r && (decide (a.id = b.id) && sameL a.kids b.kids))) := by cases a; cases b; rw [sameT]; rfl
mutual
theorem sameT_iff : ∀ a b : T, sameT a b = true ↔ a = b
  | .node k r i l, .node k' r' i' l' => by
    rw [sameT]
    simp only [Bool.and_eq_true, decide_eq_true_eq, sameL_iff l l', eqR, T.node.injEq]
theorem sameL_iff : ∀ a b : List T, sameL a b = true ↔ a = b
  | [], [] => by simp [sameL]
  | t :: l, u :: m => by
    rw [sameL, Bool.and_eq_true, sameT_iff t u, sameL_iff l m, List.cons.injEq]
  | [], _ :: _ => by simp [sameL]
  | _ :: _, [] => by simp [sameL]
end
theorem sameL_len {a b : List T} (h : a.length ≠ b.length) : sameL a b = false := by
  cases e : sameL a b with
  | false => rfl
  | true => exact absurd (congrArg List.length ((sameL_iff a b).1 e)) h
theorem sameL_no {a b : List T} {k : Nat} {t u : T} (ha : a[k]? = some t) (hb : b[k]? = some u) (h : sameT t u = false) : sameL a b = false := by
  cases e : sameL a b with
  | false => rfl
  | true =>
    have := (sameL_iff a b).1 e
    subst this
    rw [ha] at hb; cases hb
    rw [(sameT_iff t t).2 rfl] at h; cases h
theorem sameL_yes {a b : List T} (hl : a.length = b.length) (h : ∀ (k : Nat) (t u : T), a[k]? = some t → b[k]? = some u → sameT t u = true) : sameL a b = true := by
  rw [sameL_iff]
  refine List.ext_getElem? fun k => ?_
  rcases Nat.lt_or_ge k a.length with hk | hk
  · have h1 := List.getElem?_eq_getElem hk
    have h2 := List.getElem?_eq_getElem (show k < b.length by omega)
    rw [h1, h2, (sameT_iff _ _).1 (h k _ _ h1 h2)]
  · rw [List.getElem?_eq_none hk, List.getElem?_eq_none (by omega)]
end Go.Proofs.YtakofjbjciljjaaGreat
