/- What a rectangle is cut into is whole: inside, apart, as many cells, each cell once. -/
import Derived.Test.YtibjpkicchdomaaLawKids
import Derived.Test.YtibjpkicchdomaaRIns
namespace Go.Proofs.Ytibjpkicchdomaa
open Go.RowKit

def apP (a b : R) : Prop := a.x + a.w ≤ b.x ∨ b.x + b.w ≤ a.x ∨ a.y + a.h ≤ b.y ∨ b.y + b.h ≤ a.y
theorem apP_symm {a b : R} (h : apP a b) : apP b a := by unfold apP at *; omega
def areaS (l : List R) : Int := (l.map fun q => q.w * q.h).sum
def cnt (x y : Int) (l : List R) : Nat := l.countP fun q => hasB q x y
def has1 (r : R) (x y : Int) : Nat := if hasB r x y = true then 1 else 0
theorem has_iff (r : R) (x y : Int) : hasB r x y = true ↔ mayB r = true ∧ r.x ≤ x ∧ x < r.x + r.w ∧ r.y ≤ y ∧ y < r.y + r.h := by
  unfold hasB
  simp only [Bool.and_eq_true, decide_eq_true_eq]
  constructor
  · rintro ⟨⟨⟨⟨a, b⟩, c⟩, d⟩, e⟩; exact ⟨a, b, c, d, e⟩
  · rintro ⟨a, b, c, d, e⟩; exact ⟨⟨⟨⟨a, b⟩, c⟩, d⟩, e⟩
theorem ins_iff (q r : R) : insB q r = true ↔ mayB q = true ∧ mayB r = true ∧ q.x ≤ r.x ∧ q.y ≤ r.y ∧ r.x + r.w ≤ q.x + q.w ∧ r.y + r.h ≤ q.y + q.h := by
  unfold insB
  simp only [Bool.and_eq_true, decide_eq_true_eq]
  constructor
  · rintro ⟨⟨⟨⟨⟨a, b⟩, c⟩, d⟩, e⟩, f⟩; exact ⟨a, b, c, d, e, f⟩
  · rintro ⟨a, b, c, d, e, f⟩; exact ⟨⟨⟨⟨⟨a, b⟩, c⟩, d⟩, e⟩, f⟩

structure Whole (r : R) (l : List R) : Prop where
  ins : ∀ q ∈ l, insB r q = true
  apart : l.Pairwise apP
  area : areaS l = r.w * r.h
  once : ∀ x y, cnt x y l = has1 r x y

theorem Whole.one {r : R} (h : mayB r = true) : Whole r [r] := by
  refine ⟨fun q hq => ?_, List.pairwise_singleton _ _, by simp [areaS], fun x y => ?_⟩
  · simp at hq; subst hq; rw [ins_iff]; exact ⟨h, h, Int.le_refl _, Int.le_refl _, Int.le_refl _, Int.le_refl _⟩
  · unfold cnt has1; rw [List.countP_cons]; simp
theorem sum_perm {l m : List Int} (h : l.Perm m) : l.sum = m.sum := by
  induction h with
  | nil => rfl
  | cons x _ ih => simp only [List.sum_cons, ih]
  | swap x y l => simp only [List.sum_cons]; omega
  | trans _ _ h1 h2 => exact h1.trans h2
theorem Whole.perm {r : R} {l m : List R} (h : Whole r l) (hp : l.Perm m) : Whole r m := by
  refine ⟨fun q hq => h.ins q (hp.mem_iff.2 hq), ?_, ?_, fun x y => ?_⟩
  · exact (hp.pairwise_iff fun {a b} hab => apP_symm hab).1 h.apart
  · rw [← h.area]
    unfold areaS
    exact (sum_perm (hp.map _)).symm
  · rw [← h.once x y]
    exact (hp.countP_eq _).symm
theorem Whole.sub {r q : R} {l m : List R} (h : Whole r (q :: l)) (g : Whole q m) : Whole r (m ++ l) := by
  have hq := (ins_iff r q).1 (h.ins q (List.mem_cons_self ..))
  have hap := List.pairwise_cons.1 h.apart
  refine ⟨fun z hz => ?_, ?_, ?_, fun x y => ?_⟩
  · rcases List.mem_append.1 hz with hz | hz
    · have h1 := (ins_iff q z).1 (g.ins z hz)
      rw [ins_iff]
      exact ⟨hq.1, h1.2.1, by omega, by omega, by omega, by omega⟩
    · exact h.ins z (List.mem_cons_of_mem _ hz)
  · rw [List.pairwise_append]
    refine ⟨g.apart, hap.2, fun z hz u hu => ?_⟩
    have h1 := (ins_iff q z).1 (g.ins z hz)
    have h2 := hap.1 u hu
    unfold apP at h2 ⊢
    omega
  · have := h.area
    unfold areaS at this ⊢
    rw [List.map_cons, List.sum_cons] at this
    rw [List.map_append, List.sum_append, ← this, ← g.area]
    rfl
  · have h1 := h.once x y
    have h2 := g.once x y
    unfold cnt at *
    rw [List.countP_cons] at h1
    rw [List.countP_append, h2, ← h1]
    unfold has1
    omega

/-- A rectangle in two, side by side. -/
theorem Whole.split {r : R} (h : mayB r = true) {a : Int} (h0 : 1 ≤ a) (h1 : a < r.w) : Whole r [⟨r.x, r.y, a, r.h⟩, ⟨r.x + a, r.y, r.w - a, r.h⟩] := by
  have hm := (mayB_iff r).1 h
  have m1 : mayB ⟨r.x, r.y, a, r.h⟩ = true := (mayB_iff _).2 ⟨by simp only; omega, by simp only; omega⟩
  have m2 : mayB ⟨r.x + a, r.y, r.w - a, r.h⟩ = true := (mayB_iff _).2 ⟨by simp only; omega, by simp only; omega⟩
  refine ⟨fun q hq => ?_, ?_, ?_, fun x y => ?_⟩
  · simp only [List.mem_cons, List.not_mem_nil, or_false] at hq
    rcases hq with rfl | rfl
    · rw [ins_iff]; exact ⟨h, m1, by simp, by simp, by simp only; omega, by simp⟩
    · rw [ins_iff]; exact ⟨h, m2, by simp only; omega, by simp, by simp only; omega, by simp⟩
  · rw [List.pairwise_cons]
    refine ⟨fun q hq => ?_, List.pairwise_singleton _ _⟩
    simp only [List.mem_singleton] at hq
    subst hq
    left
    simp
  · simp only [areaS, List.map_cons, List.map_nil, List.sum_cons, List.sum_nil, Int.add_zero]
    rw [← Int.add_mul]
    congr 1
    omega
  · unfold cnt has1
    rw [List.countP_cons, List.countP_cons, List.countP_nil]
    have e0 := has_iff r x y
    have e1 := has_iff ⟨r.x, r.y, a, r.h⟩ x y
    have e2 := has_iff ⟨r.x + a, r.y, r.w - a, r.h⟩ x y
    simp only [m1, m2, h, true_and] at e0 e1 e2
    by_cases p1 : hasB ⟨r.x, r.y, a, r.h⟩ x y = true <;> by_cases p2 : hasB ⟨r.x + a, r.y, r.w - a, r.h⟩ x y = true <;> by_cases p0 : hasB r x y = true
    all_goals
      simp only [p0, p1, p2, if_true, if_false, true_iff, false_iff, Bool.false_eq_true] at e0 e1 e2 ⊢
      try omega

def turn (l : List R) : List R := l.map turnR
theorem may_turn (r : R) : mayB (turnR r) = mayB r := by unfold mayB turnR; exact Bool.and_comm _ _
theorem ins_turn (q r : R) : insB (turnR q) (turnR r) = insB q r := by
  rw [Bool.eq_iff_iff, ins_iff, ins_iff, may_turn, may_turn]
  simp only [turnR]
  constructor <;> (rintro ⟨a, b, c, d, e, f⟩; exact ⟨a, b, d, c, f, e⟩)
theorem has_turn (r : R) (x y : Int) : hasB (turnR r) x y = hasB r y x := by
  rw [Bool.eq_iff_iff, has_iff, has_iff, may_turn]
  simp only [turnR]
  constructor <;> (rintro ⟨a, b, c, d, e⟩; exact ⟨a, d, e, b, c⟩)
theorem Whole.turned {r : R} {l : List R} (h : Whole (turnR r) l) : Whole r (turn l) := by
  refine ⟨fun q hq => ?_, ?_, ?_, fun x y => ?_⟩
  · obtain ⟨z, hz, rfl⟩ := List.mem_map.1 hq
    have := h.ins z hz
    rw [← ins_turn] at this
    exact this
  · unfold turn
    rw [List.pairwise_map]
    exact h.apart.imp fun {a b} hab => by unfold apP at *; simp only [turnR]; omega
  · have h1 := h.area
    unfold areaS turn at *
    rw [List.map_map]
    have : (fun q : R => q.w * q.h) ∘ turnR = fun q => q.w * q.h := by funext q; simp only [Function.comp, turnR]; exact Int.mul_comm _ _
    rw [this, h1]
    simp only [turnR]
    exact Int.mul_comm _ _
  · have h1 := h.once y x
    unfold cnt has1 turn at *
    rw [List.countP_map]
    have e : (fun q => hasB q x y) ∘ turnR = fun q => hasB q y x := by funext q; simp only [Function.comp]; exact has_turn q x y
    rw [e, h1, has_turn]

/-- The first n parts, and what is between them. -/
theorem whole_across {r : R} {ms : List Int} (h : mayB r = true) (hf : fitS r.w ms ms.length) : ∀ n, 0 < n → n ≤ ms.length → Whole ⟨r.x, r.y, endS ms n, r.h⟩ (partsL r id ms n ++ linesL r id ms n) := by
  have hm := (mayB_iff r).1 h
  intro n
  induction n with
  | zero => intro h0; omega
  | succ n ih =>
    intro _ hn
    have hmn := List.getElem?_eq_getElem (show n < ms.length by omega)
    obtain ⟨f1, f2⟩ := hf n _ (by omega) hmn
    rw [partsL_succ hmn, end_succ hmn]
    generalize ms[n] = m at *
    rcases Nat.eq_zero_or_pos n with h0 | hp
    · subst h0
      have ho : offS ms 0 = 0 := off_zero ms
      rw [ho] at f2 ⊢
      have h1 : Whole (⟨r.x, r.y, 0 + m, r.h⟩ : R) [⟨r.x, r.y, 0 + m, r.h⟩] := Whole.one ((mayB_iff _).2 ⟨by simp only; omega, by simp only; omega⟩)
      simpa [partsL, linesL] using h1
    · have hi := ih hp (by omega)
      have he := end_pos ms hp
      have hnn := (off_le hf (k := n) (by omega) (by omega) (by omega))
      have hn1 : 1 ≤ endS ms n := by
        obtain ⟨k, rfl⟩ : ∃ k, n = k + 1 := ⟨n - 1, by omega⟩
        have hmk := List.getElem?_eq_getElem (show k < ms.length by omega)
        have h1 := hf k _ (by omega) hmk
        have h2 := off_nonneg hf k (by omega) (by omega)
        rw [end_succ hmk]
        omega
      rw [linesL_pos hp]
      have mW : mayB (⟨r.x, r.y, offS ms n + m, r.h⟩ : R) = true := (mayB_iff _).2 ⟨by simp only; omega, by simp only; omega⟩
      have s1 := Whole.split mW (a := endS ms n) hn1 (by simp only; omega)
      have mV : mayB (⟨r.x + endS ms n, r.y, offS ms n + m - endS ms n, r.h⟩ : R) = true := (mayB_iff _).2 ⟨by simp only; omega, by simp only; omega⟩
      have s2 := Whole.split mV (a := 1) (by omega) (by simp only; omega)
      have e1 : r.x + endS ms n + 1 = r.x + offS ms n := by omega
      have e2 : offS ms n + m - endS ms n - 1 = m := by omega
      simp only [e1, e2] at s1 s2
      have t1 := Whole.sub s1 hi
      have t2 : Whole (⟨r.x, r.y, offS ms n + m, r.h⟩ : R) (⟨r.x + endS ms n, r.y, offS ms n + m - endS ms n, r.h⟩ :: (partsL r id ms n ++ linesL r id ms n)) := t1.perm List.perm_append_comm
      have t3 := Whole.sub t2 s2
      refine t3.perm (List.perm_iff_count.2 fun z => ?_)
      simp only [List.count_append, List.count_cons, List.count_nil, id]
      omega
theorem parts_turn (o : R) (ms : List Int) (n : Nat) : partsL o turnR ms n = turn (partsL o id ms n) := by
  induction n with
  | zero => rfl
  | succ n ih => simp only [partsL, partK, ih, turn, List.map_append, List.map_cons, List.map_nil, id]
theorem lines_turn (o : R) (ms : List Int) (n : Nat) : linesL o turnR ms n = turn (linesL o id ms n) := by
  induction n with
  | zero => rfl
  | succ n ih =>
    cases n with
    | zero => rfl
    | succ n => simp only [linesL, lineK, ih, turn, List.map_append, List.map_cons, List.map_nil, id]
theorem fill_pos {w : Int} {ms : List Int} (hw : 1 ≤ w) (h : fillP w ms) : 0 < ms.length ∧ endS ms ms.length = w := by
  rcases Nat.eq_zero_or_pos ms.length with h0 | h0
  · have := h.2
    rw [h0, off_zero] at this
    omega
  · have := end_pos ms h0
    have := h.2
    exact ⟨h0, by omega⟩
theorem Whole.cut {r : R} {ax : Int} {ms : List Int} (h : cutP r ax ms) : Whole r (cutParts r ax ms true ++ cutLines r ax ms true) := by
  obtain ⟨hm, hx⟩ := h
  have hb := (mayB_iff r).1 hm
  rcases hx with ⟨rfl, hf⟩ | ⟨rfl, hf⟩
  · obtain ⟨h0, he⟩ := fill_pos (by omega) hf
    have := whole_across hm hf.1 ms.length h0 (Nat.le_refl _)
    rw [he] at this
    simpa [cutParts, cutLines] using this
  · obtain ⟨h0, he⟩ := fill_pos (by omega) hf
    have hm' : mayB (turnR r) = true := by rw [may_turn]; exact hm
    have := whole_across hm' (ms := ms) hf.1 ms.length h0 (Nat.le_refl _)
    rw [he] at this
    have t : Whole (turnR r) (partsL (turnR r) id ms ms.length ++ linesL (turnR r) id ms ms.length) := this
    have t2 := t.turned
    have hne : ¬ (2 : Int) = 1 := by decide
    simp only [cutParts, cutLines, hne, if_false]
    rw [parts_turn, lines_turn]
    unfold turn at *
    rw [List.map_append] at t2
    exact t2

/-- The leaves of trees. -/
def leafR (l : List T) : List R := (l.filter leafB).map T.r
theorem leafR_append (a b : List T) : leafR (a ++ b) = leafR a ++ leafR b := by simp [leafR]
theorem allLines_append (a b : List T) : allLines (a ++ b) = allLines a ++ allLines b := by simp [allLines]
theorem whole_kids {r : R} : ∀ (l : List T) (rest : List R), (∀ u ∈ l, Whole u.r (leafR (preT u) ++ allLines (preT u))) → Whole r (l.map T.r ++ rest) → Whole r ((leafR (preL l) ++ allLines (preL l)) ++ rest) := by
  intro l
  induction l with
  | nil => intro rest _ h; simpa [preL, leafR, allLines] using h
  | cons u l ih =>
    intro rest hk h
    have h1 : Whole r (u.r :: (l.map T.r ++ rest)) := h
    have h2 := h1.sub (hk u (List.mem_cons_self ..))
    have h3 : Whole r (l.map T.r ++ ((leafR (preT u) ++ allLines (preT u)) ++ rest)) := h2.perm (List.perm_iff_count.2 fun z => by simp only [List.count_append]; omega)
    have h4 := ih _ (fun v hv => hk v (List.mem_cons_of_mem _ hv)) h3
    refine h4.perm (List.perm_iff_count.2 fun z => ?_)
    rw [preL, leafR_append, allLines_append]
    simp only [List.count_append]
    omega
theorem whole_tree (N : Nat) : ∀ t : T, sz t ≤ N → (∀ u ∈ preT t, wellT u = true ∧ fitB u = true) → Whole t.r (leafR (preT t) ++ allLines (preT t)) := by
  induction N with
  | zero => intro t h; have := sz_pos t; omega
  | succ N ih =>
    intro t hN hall
    have htop := hall t (by rw [preT_eq]; exact List.mem_cons_self ..)
    obtain ⟨hw, hf⟩ := htop
    unfold wellT wellB at hw
    simp only [Bool.and_eq_true, Bool.or_eq_true, decide_eq_true_eq] at hw
    rw [preT_eq]
    by_cases h1 : t.k = 1
    · have hk : t.kids = [] := List.length_eq_zero_iff.1 (by omega)
      rw [hk]
      have hl : leafB t = true := by simp [leafB, h1]
      have e1 : leafR (t :: preL []) = [t.r] := by simp [leafR, preL, hl]
      have e2 : allLines (t :: preL []) = [] := by simp [allLines, preL, linesT, h1]
      rw [e1, e2]
      exact Whole.one hw.1
    · have hl : leafB t = false := by simp [leafB, h1]
      have hfit := (fitB_iff t).1 hf
      rcases hfit with h | ⟨hc, hp⟩
      · exact absurd h h1
      · have hcut := Whole.cut hc
        rw [← hp] at hcut
        have hln : linesT t = cutLines t.r (axT t) (sizesT t) true := by unfold linesT; rw [if_neg h1]
        rw [← hln] at hcut
        have hkids := whole_kids t.kids (linesT t) (fun u hu => by
          obtain ⟨k, hk⟩ := List.getElem?_of_mem hu
          have hs := sz_kid hk
          exact ih u (by omega) fun v hv => hall v ((pre_sub hk).mem hv)) hcut
        refine hkids.perm (List.perm_iff_count.2 fun z => ?_)
        have e1 : leafR (t :: preL t.kids) = leafR (preL t.kids) := by simp [leafR, hl]
        have e2 : allLines (t :: preL t.kids) = linesT t ++ allLines (preL t.kids) := by simp [allLines]
        rw [e1, e2]
        simp only [List.count_append]
        omega
theorem whole_tile {t : T} (hs : sz t ≤ 999) (ht : tileB t = true) : Whole t.r (leafR (preT t) ++ allLines (preT t)) := by
  unfold tileB at ht
  rw [may_is (by omega)] at ht
  unfold rmayT at ht
  simp only [Bool.and_eq_true] at ht
  exact whole_tree (sz t) t (Nat.le_refl _) fun u hu => ⟨List.all_eq_true.1 ht.1.1 u hu, List.all_eq_true.1 ht.2 u hu⟩
theorem may_fits {r : R} (h : mayB r = true) : r.fits := by
  have := (mayB_iff r).1 h
  exact ⟨⟨by omega, by omega⟩, ⟨by omega, by omega⟩, ⟨by omega, by omega⟩, ⟨by omega, by omega⟩⟩
theorem whole_fits {r : R} {l : List R} (h : Whole r l) : ∀ q ∈ l, q.fits := fun q hq => may_fits ((ins_iff r q).1 (h.ins q hq)).2.1
end Go.Proofs.Ytibjpkicchdomaa
