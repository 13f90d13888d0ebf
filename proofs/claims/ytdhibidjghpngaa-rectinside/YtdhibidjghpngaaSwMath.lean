/- From top to bottom, by each column's first free line: what comes out is whether no two share a cell. -/
import Derived.Test.YtdhibidjghpngaaSweep
namespace Go.Proofs.Ytdhibidjghpngaa
open Go.RowKit

def apartP (a b : R) : Prop := a.x + a.w ≤ b.x ∨ b.x + b.w ≤ a.x ∨ a.y + a.h ≤ b.y ∨ b.y + b.h ≤ a.y
instance (a b : R) : Decidable (apartP a b) := by unfold apartP; infer_instance
theorem apartP.symm {a b : R} (h : apartP a b) : apartP b a := by unfold apartP at *; omega

/-- The columns' first free lines behind the first k. -/
def frK (l : List R) (k : Nat) : Nat → Int := (l.take k).foldl setR (fun _ => 0)
theorem frK_zero (l : List R) : frK l 0 = fun _ => 0 := rfl
theorem take_succ {l : List R} {k : Nat} {r : R} (h : l[k]? = some r) : l.take (k + 1) = l.take k ++ [r] := by rw [List.take_add_one, h]; rfl
theorem frK_succ {l : List R} {k : Nat} {r : R} (h : l[k]? = some r) : frK l (k + 1) = setR (frK l k) r := by
  unfold frK; rw [take_succ h, List.foldl_append]; rfl

def ansS (l : List R) (k : Nat) : Bool := match l[k]? with | some r => okR (frK l k) r | none => false
theorem ansS_at {l : List R} {k : Nat} {r : R} (h : l[k]? = some r) : ansS l k = okR (frK l k) r := by simp only [ansS, h]

def cov (q : R) (x : Nat) : Prop := q.x ≤ (x : Int) ∧ (x : Int) < q.x + q.w
def InvS (l : List R) (k : Nat) : Prop := ∀ x : Nat, (∀ q ∈ l.take k, cov q x → q.y + q.h ≤ frK l k x) ∧ (frK l k x = 0 ∨ ∃ q ∈ l.take k, cov q x ∧ frK l k x = q.y + q.h)

theorem sweep_ok (l : List R) (hm : ∀ r ∈ l, mayB r = true) (hs : l.Pairwise (fun a b => a.y ≤ b.y)) : ∀ k, k ≤ l.length → (allB (ansS l) k = true ↔ (l.take k).Pairwise apartP) ∧ (allB (ansS l) k = true → InvS l k) := by
  intro k
  induction k with
  | zero =>
    intro _
    refine ⟨by simp [allB], fun _ x => ⟨fun q hq => by simp at hq, .inl rfl⟩⟩
  | succ k ih =>
    intro hk
    obtain ⟨ih1, ih2⟩ := ih (by omega)
    obtain ⟨r, hr⟩ : ∃ r, l[k]? = some r := ⟨_, List.getElem?_eq_getElem (by omega)⟩
    have hrm := (mayB_iff r).1 (hm r (List.mem_of_getElem? hr))
    have hle : ∀ q ∈ l.take k, q.y ≤ r.y := fun q hq => by
      have h1 : (l.take (k + 1)).Pairwise (fun a b => a.y ≤ b.y) := hs.sublist (List.take_sublist _ _)
      rw [take_succ hr, List.pairwise_append] at h1
      exact h1.2.2 q hq r (by simp)
    have hqm : ∀ q ∈ l.take k, (0 ≤ q.x ∧ 1 ≤ q.w ∧ q.x + q.w ≤ 10000) ∧ 0 ≤ q.y ∧ 1 ≤ q.h ∧ q.y + q.h ≤ 10000 := fun q hq => (mayB_iff q).1 (hm q (List.mem_of_mem_take hq))
    rw [take_succ hr, List.pairwise_append]
    have hkey : allB (ansS l) k = true → (okR (frK l k) r = true ↔ ∀ q ∈ l.take k, apartP q r) := fun ha => by
      have inv := ih2 ha
      rw [okR_iff _ _ hrm.1.1]
      constructor
      · intro h q hq
        have hb := hqm q hq
        unfold apartP
        by_cases c1 : q.x + q.w ≤ r.x
        · exact .inl c1
        by_cases c2 : r.x + r.w ≤ q.x
        · exact .inr (.inl c2)
        have hx : ∃ x : Nat, (r.x ≤ (x : Int) ∧ (x : Int) < r.x + r.w) ∧ cov q x := by
          by_cases c3 : q.x ≤ r.x
          · exact ⟨r.x.toNat, by omega, by unfold cov; omega⟩
          · exact ⟨q.x.toNat, by omega, by unfold cov; omega⟩
        obtain ⟨x, hx1, hx2⟩ := hx
        have h1 := h x hx1.1 hx1.2
        have h2 := (inv x).1 q hq hx2
        omega
      · intro h x h1 h2
        rcases (inv x).2 with h3 | ⟨q, hq, hc, h3⟩
        · omega
        · have h4 := h q hq
          have h5 := hle q hq
          unfold apartP at h4
          unfold cov at hc
          omega
    constructor
    · rw [allB, Bool.and_eq_true, ansS_at hr]
      constructor
      · rintro ⟨ha, ho⟩
        exact ⟨ih1.1 ha, by simp, fun q hq s hs => by simp at hs; subst hs; exact (hkey ha).1 ho q hq⟩
      · rintro ⟨ha, -, ho⟩
        have ha' := ih1.2 ha
        exact ⟨ha', (hkey ha').2 fun q hq => ho q hq r (by simp)⟩
    · rw [allB, Bool.and_eq_true, ansS_at hr]
      rintro ⟨ha, ho⟩
      have inv := ih2 ha
      rw [okR_iff _ _ hrm.1.1] at ho
      intro x
      rw [frK_succ hr, take_succ hr]
      by_cases hc : r.x ≤ (x : Int) ∧ (x : Int) < r.x + r.w
      · have he : setR (frK l k) r x = r.y + r.h := if_pos hc
        rw [he]
        refine ⟨fun q hq hcq => ?_, .inr ⟨r, by simp, hc, rfl⟩⟩
        rw [List.mem_append] at hq
        rcases hq with hq | hq
        · have h1 := (inv x).1 q hq hcq
          have h2 := ho x hc.1 hc.2
          omega
        · simp at hq; subst hq; omega
      · have he : setR (frK l k) r x = frK l k x := if_neg hc
        rw [he]
        refine ⟨fun q hq hcq => ?_, ?_⟩
        · rw [List.mem_append] at hq
          rcases hq with hq | hq
          · exact (inv x).1 q hq hcq
          · simp at hq; subst hq; exact absurd hcq hc
        · rcases (inv x).2 with h3 | ⟨q, hq, hcq, h3⟩
          · exact .inl h3
          · exact .inr ⟨q, by simp [hq], hcq, h3⟩

/-- No cell is in two of them, and all may be. -/
def apartB (l : List R) : Bool := mays l && decide (l.Pairwise apartP)

theorem sweep_all (l l' : List R) (hp : l'.Perm l) (hm : mays l = true) (hs : l'.Pairwise (fun a b => a.y ≤ b.y)) : allB (ansS l') l'.length = apartB l := by
  have hm' : ∀ r ∈ l', mayB r = true := fun r hr => List.all_eq_true.1 hm r (hp.mem_iff.1 hr)
  have h := (sweep_ok l' hm' hs l'.length (Nat.le_refl _)).1
  rw [List.take_length] at h
  rw [apartB, hm, Bool.true_and, Bool.eq_iff_iff, h, decide_eq_true_eq]
  exact hp.pairwise_iff (fun hab => hab.symm)
end Go.Proofs.Ytdhibidjghpngaa
