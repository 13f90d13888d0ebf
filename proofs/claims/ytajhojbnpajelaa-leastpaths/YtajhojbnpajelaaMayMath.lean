/- May a tree be? The program's answer is the document's. -/
import Derived.Test.YtajhojbnpajelaaRMay
import Derived.Test.YtajhojbnpajelaaMay
namespace Go.Proofs.Ytajhojbnpajelaa
open Go.RowKit

def idsP (l : List T) : List Int := (l.filter leafB).map T.id
theorem idsP_append (a b : List T) : idsP (a ++ b) = idsP a ++ idsP b := by simp [idsP]
theorem idsP_cons (t : T) (l : List T) : idsP (t :: l) = (if leafB t then [t.id] else []) ++ idsP l := by
  unfold idsP
  cases h : leafB t <;> simp [h]
/-- All may be, and no number was met ahead. -/
def okP (l : List T) (ms : List Int) : Prop := l.all wellT = true ∧ ((idsP l).reverse ++ ms).Nodup
theorem nodup_rev {a : List Int} : a.reverse.Nodup ↔ a.Nodup := by
  unfold List.Nodup
  rw [List.pairwise_reverse]
  exact ⟨fun h => h.imp fun hab e => hab e.symm, fun h => h.imp fun hab e => hab e.symm⟩
theorem nodup_right {a b : List Int} (h : (a ++ b).Nodup) : b.Nodup := h.sublist (List.sublist_append_right a b)

theorem step_bad {n : Nat} {ms : List Int} {t : T} (hn : n + 1 ≤ 20000) (h : wellT t = false) : (mayStep (n, ms) t).1 = true := by
  rw [mayStep, if_pos (.inr h)]
theorem step_row {n : Nat} {ms : List Int} {t : T} (hn : n + 1 ≤ 20000) (h : wellT t = true) (hk : leafB t = false) : mayStep (n, ms) t = (false, (n + 1, ms)) := by
  rw [mayStep, if_neg (by simp [h]; omega), if_pos (by simpa [leafB] using hk)]
theorem step_leaf {n : Nat} {ms : List Int} {t : T} (hn : n + 1 ≤ 20000) (h : wellT t = true) (hk : leafB t = true) : mayStep (n, ms) t = (decide (t.id ∈ ms), (n + 1, t.id :: ms)) := by
  rw [mayStep, if_neg (by simp [h]; omega), if_neg (by simpa [leafB] using hk)]

mutual
theorem goT_may : ∀ (t : T) (n : Nat) (ms : List Int), n + sz t ≤ 20000 → ms.Nodup →
    (okP (preT t) ms → goT mayStep (n, ms) t = (false, (n + sz t, (idsP (preT t)).reverse ++ ms))) ∧ (¬ okP (preT t) ms → (goT mayStep (n, ms) t).1 = true)
  | .node k r i l, n, ms, hn, hms => by
    have ihl := goL_may l
    rw [sz] at hn
    rw [goT_eq, preT, idsP_cons]
    cases hw : wellT (.node k r i l) with
    | false =>
      have h1 := step_bad (ms := ms) (show n + 1 ≤ 20000 by omega) hw
      refine ⟨fun h => ?_, fun _ => by rw [if_pos h1]; exact h1⟩
      have := h.1
      rw [List.all_cons, hw] at this
      cases this
    | true =>
      cases hk : leafB (.node k r i l) with
      | false =>
        rw [step_row (by omega) hw hk]
        obtain ⟨h1, h2⟩ := ihl (n + 1) ms (by omega) hms
        have hok : okP (.node k r i l :: preL l) ms ↔ okP (preL l) ms := by
          unfold okP
          rw [List.all_cons, hw, idsP_cons, hk]
          simp
        simp only [Bool.false_eq_true, if_false, List.nil_append, T.kids]
        refine ⟨fun h => ?_, fun h => h2 (fun g => h (hok.2 g))⟩
        rw [h1 (hok.1 h), sz]
        simp only [Prod.mk.injEq, true_and, and_true]
        omega
      | true =>
        rw [step_leaf (by omega) hw hk]
        have hid : (T.node k r i l).id = i := rfl
        rw [hid]
        have hok : okP (.node k r i l :: preL l) ms ↔ okP (preL l) (i :: ms) := by
          unfold okP
          rw [List.all_cons, hw, idsP_cons, hk, hid]
          simp
        by_cases hm : i ∈ ms
        · refine ⟨fun h => ?_, fun _ => by simp [hm]⟩
          have := nodup_right (hok.1 h).2
          rw [List.nodup_cons] at this
          exact absurd hm this.1
        · obtain ⟨h1, h2⟩ := ihl (n + 1) (i :: ms) (by omega) (List.nodup_cons.2 ⟨hm, hms⟩)
          simp only [decide_eq_false hm, Bool.false_eq_true, if_false, T.kids]
          refine ⟨fun h => ?_, fun h => h2 (fun g => h (hok.2 g))⟩
          rw [h1 (hok.1 h), sz]
          simp
          omega
theorem goL_may : ∀ (l : List T) (n : Nat) (ms : List Int), n + szL l ≤ 20000 → ms.Nodup →
    (okP (preL l) ms → goL mayStep (n, ms) l = (false, (n + szL l, (idsP (preL l)).reverse ++ ms))) ∧ (¬ okP (preL l) ms → (goL mayStep (n, ms) l).1 = true)
  | [], n, ms, hn, hms => by
    rw [goL, preL, szL]
    refine ⟨fun _ => by simp [idsP], fun h => absurd ⟨rfl, by simpa [idsP] using hms⟩ h⟩
  | t :: l, n, ms, hn, hms => by
    rw [szL] at hn
    obtain ⟨h1, h2⟩ := goT_may t n ms (by omega) hms
    have ihl := goL_may l
    rw [goL, preL, szL, idsP_append]
    by_cases ht : okP (preT t) ms
    · rw [h1 ht]
      obtain ⟨g1, g2⟩ := ihl (n + sz t) ((idsP (preT t)).reverse ++ ms) (by omega) ht.2
      have hok : okP (preT t ++ preL l) ms ↔ okP (preL l) ((idsP (preT t)).reverse ++ ms) := by
        unfold okP
        rw [List.all_append, ht.1, idsP_append]
        simp
      simp only [Bool.false_eq_true, if_false]
      refine ⟨fun h => ?_, fun h => g2 (fun g => h (hok.2 g))⟩
      rw [g1 (hok.1 h)]
      simp
      omega
    · have h3 := h2 ht
      rw [if_pos h3]
      refine ⟨fun h => absurd ⟨?_, ?_⟩ ht, fun _ => h3⟩
      · have := h.1
        rw [List.all_append, Bool.and_eq_true] at this
        exact this.1
      · have := h.2
        rw [idsP_append, List.reverse_append, List.append_assoc] at this
        exact nodup_right this
end

theorem may_is {t : T} (h : sz t ≤ 20000) : mayT t = rmayT t := by
  obtain ⟨h1, h2⟩ := goT_may t 0 [] (by omega) List.nodup_nil
  rw [mayT, rmayT]
  by_cases hk : okP (preT t) []
  · rw [h1 hk]
    have hnd : (((preT t).filter leafB).map T.id).Nodup := by
      have := hk.2
      rw [List.append_nil] at this
      have := nodup_rev.1 this
      exact this
    rw [hk.1, decide_eq_true hnd]; rfl
  · rw [h2 hk]
    symm
    cases e : (preT t).all wellT with
    | false => rfl
    | true =>
      rw [decide_eq_false]; rfl
      intro hnd
      exact hk ⟨e, by rw [List.append_nil]; exact nodup_rev.2 hnd⟩
end Go.Proofs.Ytajhojbnpajelaa
