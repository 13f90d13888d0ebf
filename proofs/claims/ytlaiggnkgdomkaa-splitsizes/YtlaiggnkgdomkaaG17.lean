/- Texts of this seat, 3 in one file. -/
import Derived.Test.YtlaiggnkgdomkaaG07
import Derived.Test.YtlaiggnkgdomkaaG15
import Derived.Test.YtlaiggnkgdomkaaG08
import Derived.Test.YtlaiggnkgdomkaaG16
/- May a tree be? The document's walk. -/
namespace Go.Proofs.Ytlaiggnkgdomkaa
open Go.RowKit

theorem well_no {k : Int} {r : R} {id : Int} {n : Nat} (h : ¬ (mayB r = true ∧ ((k = 1 ∧ (0 ≤ id ∧ id ≤ 2147483647) ∧ n = 0) ∨ ((k = 2 ∨ k = 3) ∧ id = 0 ∧ 2 ≤ n)))) : wellB k r id n = false := by
  cases e : wellB k r id n with
  | false => rfl
  | true =>
    refine absurd ?_ h
    simpa [wellB] using e
theorem well_yes {k : Int} {r : R} {id : Int} {n : Nat} (h : mayB r = true ∧ ((k = 1 ∧ (0 ≤ id ∧ id ≤ 2147483647) ∧ n = 0) ∨ ((k = 2 ∨ k = 3) ∧ id = 0 ∧ 2 ≤ n))) : wellB k r id n = true := by
  simpa [wellB] using h

/-- No number twice among the first ones. -/
def apartI (ms : List Int) (i : Nat) : Prop := ∀ (a b : Nat) (x y : Int), a < b → b < i → ms[a]? = some x → ms[b]? = some y → y ≠ x
theorem apart_nodup (ms : List Int) : apartI ms ms.length ↔ ms.Nodup := by
  unfold List.Nodup
  rw [List.pairwise_iff_getElem]
  constructor
  · intro h i j hi hj hij e
    exact h i j _ _ hij hj (List.getElem?_eq_getElem hi) (List.getElem?_eq_getElem hj) e.symm
  · intro h a b x y hab hb hx hy e
    obtain ⟨ha', rfl⟩ := List.getElem?_eq_some_iff.1 hx
    obtain ⟨hb', rfl⟩ := List.getElem?_eq_some_iff.1 hy
    exact h a b ha' hb' hab e.symm

def rmayT (t : T) : Bool := (preT t).all wellT && decide ((((preT t).filter leafB).map T.id).Nodup)
theorem rmay_no1 {t u : T} {k : Nat} (h : (preT t)[k]? = some u) (hw : wellT u = false) : rmayT t = false := by
  have : (preT t).all wellT = false := by
    cases e : (preT t).all wellT with
    | false => rfl
    | true => rw [List.all_eq_true.1 e u (List.mem_of_getElem? h)] at hw; cases hw
  rw [rmayT, this]; rfl

end Go.Proofs.Ytlaiggnkgdomkaa
/- May a tree be? The program's answer is the document's. -/
namespace Go.Proofs.Ytlaiggnkgdomkaa
open Go.RowKit

def idsP (l : List T) : List Int := (l.filter leafB).map T.id
theorem idsP_append (a b : List T) : idsP (a ++ b) = idsP a ++ idsP b := by simp [idsP]
theorem idsP_cons (t : T) (l : List T) : idsP (t :: l) = (if leafB t then [t.id] else []) ++ idsP l := by
  unfold idsP
  cases h : leafB t <;> simp [h]
/-- All may be, and no number was met ahead. -/
def okP (l : List T) (ms : List Int) : Prop := l.all wellT = true ∧ ((idsP l).reverse ++ ms).Nodup
theorem nodup_rev {a : List Int} : a.reverse.Nodup ↔ a.Nodup := by
  unfold List.Nodup
  rw [List.pairwise_reverse]
  exact ⟨fun h => h.imp fun hab e => hab e.symm, fun h => h.imp fun hab e => hab e.symm⟩
theorem nodup_right {a b : List Int} (h : (a ++ b).Nodup) : b.Nodup := h.sublist (List.sublist_append_right a b)

theorem step_bad {n : Nat} {ms : List Int} {t : T} (hn : n + 1 ≤ 20000) (h : wellT t = false) : (mayStep (n, ms) t).1 = true := by
  rw [mayStep, if_pos (.inr h)]
theorem step_row {n : Nat} {ms : List Int} {t : T} (hn : n + 1 ≤ 20000) (h : wellT t = true) (hk : leafB t = false) : mayStep (n, ms) t = (false, (n + 1, ms)) := by
  rw [mayStep, if_neg (by simp [h]; omega), if_pos (by simpa [leafB] using hk)]
theorem step_leaf {n : Nat} {ms : List Int} {t : T} (hn : n + 1 ≤ 20000) (h : wellT t = true) (hk : leafB t = true) : mayStep (n, ms) t = (decide (t.id ∈ ms), (n + 1, t.id :: ms)) := by
  rw [mayStep, if_neg (by simp [h]; omega), if_neg (by simpa [leafB] using hk)]

mutual
theorem goT_may : ∀ (t : T) (n : Nat) (ms : List Int), n + sz t ≤ 20000 → ms.Nodup →
    (okP (preT t) ms → goT mayStep (n, ms) t = (false, (n + sz t, (idsP (preT t)).reverse ++ ms))) ∧ (¬ okP (preT t) ms → (goT mayStep (n, ms) t).1 = true)
  | .node k r i l, n, ms, hn, hms => by
    have ihl := goL_may l
    rw [sz] at hn
    rw [goT_eq, preT, idsP_cons]
    cases hw : wellT (.node k r i l) with
    | false =>
      have h1 := step_bad (ms := ms) (show n + 1 ≤ 20000 by omega) hw
      refine ⟨fun h => ?_, fun _ => by rw [if_pos h1]; exact h1⟩
      have := h.1
      rw [List.all_cons, hw] at this
      cases this
    | true =>
      cases hk : leafB (.node k r i l) with
      | false =>
        rw [step_row (by omega) hw hk]
        obtain ⟨h1, h2⟩ := ihl (n + 1) ms (by omega) hms
        have hok : okP (.node k r i l :: preL l) ms ↔ okP (preL l) ms := by
          unfold okP
          rw [List.all_cons, hw, idsP_cons, hk]
          simp
        simp only [Bool.false_eq_true, if_false, List.nil_append, T.kids]
        refine ⟨fun h => ?_, fun h => h2 (fun g => h (hok.2 g))⟩
        rw [h1 (hok.1 h), sz]
        simp only [Prod.mk.injEq, true_and, and_true]
        omega
      | true =>
        rw [step_leaf (by omega) hw hk]
        have hid : (T.node k r i l).id = i := rfl
        rw [hid]
        have hok : okP (.node k r i l :: preL l) ms ↔ okP (preL l) (i :: ms) := by
          unfold okP
          rw [List.all_cons, hw, idsP_cons, hk, hid]
          simp
        by_cases hm : i ∈ ms
        · refine ⟨fun h => ?_, fun _ => by simp [hm]⟩
          have := nodup_right (hok.1 h).2
          rw [List.nodup_cons] at this
          exact absurd hm this.1
        · obtain ⟨h1, h2⟩ := ihl (n + 1) (i :: ms) (by omega) (List.nodup_cons.2 ⟨hm, hms⟩)
          simp only [decide_eq_false hm, Bool.false_eq_true, if_false, T.kids]
          refine ⟨fun h => ?_, fun h => h2 (fun g => h (hok.2 g))⟩
          rw [h1 (hok.1 h), sz]
          simp
          omega
theorem goL_may : ∀ (l : List T) (n : Nat) (ms : List Int), n + szL l ≤ 20000 → ms.Nodup →
    (okP (preL l) ms → goL mayStep (n, ms) l = (false, (n + szL l, (idsP (preL l)).reverse ++ ms))) ∧ (¬ okP (preL l) ms → (goL mayStep (n, ms) l).1 = true)
  | [], n, ms, hn, hms => by
    rw [goL, preL, szL]
    refine ⟨fun _ => by simp [idsP], fun h => absurd ⟨rfl, by simpa [idsP] using hms⟩ h⟩
  | t :: l, n, ms, hn, hms => by
    rw [szL] at hn
    obtain ⟨h1, h2⟩ := goT_may t n ms (by omega) hms
    have ihl := goL_may l
    rw [goL, preL, szL, idsP_append]
    by_cases ht : okP (preT t) ms
    · rw [h1 ht]
      obtain ⟨g1, g2⟩ := ihl (n + sz t) ((idsP (preT t)).reverse ++ ms) (by omega) ht.2
      have hok : okP (preT t ++ preL l) ms ↔ okP (preL l) ((idsP (preT t)).reverse ++ ms) := by
        unfold okP
        rw [List.all_append, ht.1, idsP_append]
        simp
      simp only [Bool.false_eq_true, if_false]
      refine ⟨fun h => ?_, fun h => g2 (fun g => h (hok.2 g))⟩
      rw [g1 (hok.1 h)]
      simp
      omega
    · have h3 := h2 ht
      rw [if_pos h3]
      refine ⟨fun h => absurd ⟨?_, ?_⟩ ht, fun _ => h3⟩
      · have := h.1
        rw [List.all_append, Bool.and_eq_true] at this
        exact this.1
      · have := h.2
        rw [idsP_append, List.reverse_append, List.append_assoc] at this
        exact nodup_right this
end

theorem may_is {t : T} (h : sz t ≤ 20000) : mayT t = rmayT t := by
  obtain ⟨h1, h2⟩ := goT_may t 0 [] (by omega) List.nodup_nil
  rw [mayT, rmayT]
  by_cases hk : okP (preT t) []
  · rw [h1 hk]
    have hnd : (((preT t).filter leafB).map T.id).Nodup := by
      have := hk.2
      rw [List.append_nil] at this
      have := nodup_rev.1 this
      exact this
    rw [hk.1, decide_eq_true hnd]; rfl
  · rw [h2 hk]
    symm
    cases e : (preT t).all wellT with
    | false => rfl
    | true =>
      rw [decide_eq_false]; rfl
      intro hnd
      exact hk ⟨e, by rw [List.append_nil]; exact nodup_rev.2 hnd⟩
end Go.Proofs.Ytlaiggnkgdomkaa
/- What may be is small; the kids of what tiles tile. -/
namespace Go.Proofs.Ytlaiggnkgdomkaa
open Go.RowKit

theorem mayStep_small {s : Nat × List Int} {t : T} (h : (mayStep s t).1 = false) : (mayStep s t).2.1 = s.1 + 1 ∧ s.1 + 1 ≤ 20000 := by
  unfold mayStep at h ⊢
  split at h
  · cases h
  · rename_i hn
    rw [if_neg hn]
    constructor
    · split <;> rfl
    · omega
mutual
theorem go_small (s : Nat × List Int) : ∀ t, (goT mayStep s t).1 = false → (goT mayStep s t).2.1 = s.1 + sz t ∧ s.1 + sz t ≤ 20000
  | .node k r i l => by
    intro h
    rw [goT] at h ⊢
    rw [sz]
    by_cases hf : (mayStep s (.node k r i l)).1 = true
    · rw [if_pos hf, hf] at h; cases h
    · rw [if_neg hf] at h ⊢
      obtain ⟨h1, h2⟩ := mayStep_small (s := s) (t := .node k r i l) (by simpa using hf)
      have h3 := goL_small (mayStep s (.node k r i l)).2 l h (by omega)
      omega
theorem goL_small (s : Nat × List Int) : ∀ l, (goL mayStep s l).1 = false → s.1 ≤ 20000 → (goL mayStep s l).2.1 = s.1 + szL l ∧ s.1 + szL l ≤ 20000
  | [] => by
    intro _ hs
    rw [goL, szL]
    exact ⟨rfl, hs⟩
  | t :: l => by
    intro h hs
    rw [goL] at h ⊢
    rw [szL]
    by_cases hf : (goT mayStep s t).1 = true
    · rw [if_pos hf, hf] at h; cases h
    · rw [if_neg hf] at h ⊢
      have h1 := go_small s t (by simpa using hf)
      have h3 := goL_small (goT mayStep s t).2 l h (by omega)
      omega
end
theorem may_small {t : T} (h : mayT t = true) : sz t ≤ 20000 := by
  unfold mayT at h
  have := go_small (0, []) t (by simpa using h)
  simp only at this
  omega
theorem tile_may {t : T} (h : tileB t = true) : mayT t = true := by
  unfold tileB at h
  rw [Bool.and_eq_true] at h
  exact h.1
theorem pre_cut {l : List T} {k : Nat} {u : T} (h : l[k]? = some u) : preL l = preL (l.take k) ++ preT u ++ preL (l.drop (k + 1)) := by
  conv => lhs; rw [← List.take_append_drop (k + 1) l]
  rw [preL_append, preL_step h]
theorem pre_sub {t u : T} {k : Nat} (h : t.kids[k]? = some u) : List.Sublist (preT u) (preT t) := by
  rw [preT_eq t, pre_cut h]
  refine List.Sublist.cons _ ?_
  rw [List.append_assoc]
  exact (List.sublist_append_left _ _).trans (List.sublist_append_right _ _)
theorem tile_kid {t u : T} {k : Nat} (hs : sz t ≤ 20000) (ht : tileB t = true) (h : t.kids[k]? = some u) : tileB u = true := by
  have hu : sz u < sz t := sz_kid h
  have hsub := pre_sub h
  unfold tileB at ht ⊢
  rw [may_is (by omega)] at ht ⊢
  unfold rmayT at ht ⊢
  simp only [Bool.and_eq_true, decide_eq_true_eq] at ht ⊢
  obtain ⟨⟨h1, h2⟩, h3⟩ := ht
  refine ⟨⟨?_, ?_⟩, ?_⟩
  · rw [List.all_eq_true] at h1 ⊢
    exact fun x hx => h1 x (hsub.mem hx)
  · exact ((hsub.filter leafB).map T.id).nodup h2
  · rw [List.all_eq_true] at h3 ⊢
    exact fun x hx => h3 x (hsub.mem hx)
theorem tile_top {t : T} (hs : sz t ≤ 20000) (ht : tileB t = true) : wellT t = true ∧ fitB t = true := by
  unfold tileB at ht
  rw [may_is (by omega)] at ht
  unfold rmayT at ht
  simp only [Bool.and_eq_true] at ht
  have hm : t ∈ preT t := by rw [preT_eq]; exact List.mem_cons_self ..
  exact ⟨List.all_eq_true.1 ht.1.1 t hm, List.all_eq_true.1 ht.2 t hm⟩
end Go.Proofs.Ytlaiggnkgdomkaa
