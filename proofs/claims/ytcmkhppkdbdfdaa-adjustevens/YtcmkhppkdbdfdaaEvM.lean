/- Shares are even, and together what was asked for. No walk. -/
import Derived.Test.YtcmkhppkdbdfdaaShrM
namespace Go.Proofs.Ytcmkhppkdbdfdaa
open Go.RowKit Sh

theorem nsum_take (l : List Nat) (j : Nat) : (l.take j).sum ≤ l.sum := by
  have := congrArg List.sum (List.take_append_drop j l)
  rw [List.sum_append] at this
  omega
theorem nsum_mem {l : List Nat} {i a : Nat} (h : l[i]? = some a) : a ≤ l.sum := by
  have h1 := nsum_take l (i + 1)
  rw [List.take_add_one, h, List.sum_append] at h1
  simp at h1; omega
theorem natI_sum (l : List Nat) : (natI l).sum = (l.sum : Int) := by
  induction l with
  | nil => rfl
  | cons a l ih => simp only [natI, List.map_cons, List.sum_cons] at *; omega
theorem negI_sum (l : List Nat) : (negI l).sum = -(l.sum : Int) := by
  induction l with
  | nil => rfl
  | cons a l ih => simp only [negI, List.map_cons, List.sum_cons] at *; omega
theorem natI_take (l : List Nat) (j : Nat) : (natI l).take j = natI (l.take j) := by simp [natI, List.map_take]
theorem negI_take (l : List Nat) (j : Nat) : (negI l).take j = negI (l.take j) := by simp [negI, List.map_take]
theorem natI_at {l : List Nat} {i : Nat} {x : Int} (h : (natI l)[i]? = some x) : ∃ a, l[i]? = some a ∧ x = (a : Int) := by
  unfold natI at h
  rw [List.getElem?_map, Option.map_eq_some_iff] at h
  obtain ⟨a, ha, rfl⟩ := h
  exact ⟨a, ha, rfl⟩
theorem negI_at {l : List Nat} {i : Nat} {x : Int} (h : (negI l)[i]? = some x) : ∃ a, l[i]? = some a ∧ x = -(a : Int) := by
  unfold negI at h
  rw [List.getElem?_map, Option.map_eq_some_iff] at h
  obtain ⟨a, ha, rfl⟩ := h
  exact ⟨a, ha, rfl⟩
theorem out_get {g : Option (List Nat)} {n m i a : Nat} (h : (out g n m)[i]? = some a) : i < n ∧ a = cap g i (vis n m i) := by
  have hi : i < n := by
    rcases Nat.lt_or_ge i n with hi | hi
    · exact hi
    · rw [List.getElem?_eq_none (by rw [out_len]; exact hi)] at h; cases h
  rw [out_at g hi] at h
  exact ⟨hi, (Option.some.inj h).symm⟩

structure Ev (b : Int) (gs l : List Int) : Prop where
  len : l.length = gs.length
  sum : l.sum = b
  small : ∀ (i : Nat) (x : Int), l[i]? = some x → -3000 ≤ x ∧ x ≤ 3000
  part : ∀ j, -3000 ≤ (l.take j).sum ∧ (l.take j).sum ≤ 3000
  more : 0 ≤ b → ∀ (i k : Nat) (x y : Int), l[i]? = some x → l[k]? = some y → 0 ≤ x ∧ x ≤ y + 1
  less : b < 0 → ∀ (i k : Nat) (x y g : Int), l[i]? = some x → l[k]? = some y → gs[i]? = some g → x ≤ 0 ∧ (y + 1 < x → x = -g)
  can : ∀ (i : Nat) (x g : Int), l[i]? = some x → gs[i]? = some g → x < 0 → -x ≤ g

theorem ev_of {b : Int} {gs l : List Int} (hok : okS b gs) (hb : -3000 ≤ b ∧ b ≤ 3000) (h : ShIs b gs l) : Ev b gs l := by
  have hlen := h.len
  obtain ⟨hne, hgd, -, -, -⟩ := hok
  have hn : 0 < gs.length := List.length_pos_iff.2 hne
  rcases h with ⟨h0, rfl⟩ | ⟨h0, m, rfl, hm⟩
  · have hs := give_sum hn b.toNat
    refine ⟨hlen, by rw [natI_sum, hs]; omega, fun i x hx => ?_, fun j => ?_, fun _ i k x y hx hy => ?_, fun h1 => by omega, fun i x g hx hg hlt => ?_⟩
    · obtain ⟨a, ha, rfl⟩ := natI_at hx
      have := nsum_mem ha
      omega
    · rw [natI_take, natI_sum]
      have := nsum_take (out none gs.length b.toNat) j
      omega
    · obtain ⟨a, ha, rfl⟩ := natI_at hx
      obtain ⟨c, hc, rfl⟩ := natI_at hy
      obtain ⟨-, rfl⟩ := out_get ha
      obtain ⟨-, rfl⟩ := out_get hc
      have := vis_near (n := gs.length) (m := b.toNat) (i := i) (k := k)
      unfold cap
      simp only
      omega
    · obtain ⟨a, ha, rfl⟩ := natI_at hx
      omega
  · have hll : (gs.map Int.toNat).length = gs.length := by simp
    have hgt : ∀ (i : Nat) (g : Int), gs[i]? = some g → (((gs.map Int.toNat).getD i 0 : Nat) : Int) = g := fun i g hg => by
      have hgg := hgd g (List.mem_of_getElem? hg)
      rw [List.getD_eq_getElem?_getD, List.getElem?_map, hg]
      simp only [Option.map_some, Option.getD_some]
      omega
    refine ⟨hlen, by rw [negI_sum, hm]; omega, fun i x hx => ?_, fun j => ?_, fun h1 => by omega, fun _ i k x y g hx hy hg => ?_, fun i x g hx hg hlt => ?_⟩
    · obtain ⟨a, ha, rfl⟩ := negI_at hx
      have := nsum_mem ha
      omega
    · rw [negI_take, negI_sum]
      have := nsum_take (out (some (gs.map Int.toNat)) gs.length m) j
      omega
    · obtain ⟨a, ha, rfl⟩ := negI_at hx
      obtain ⟨c, hc, rfl⟩ := negI_at hy
      obtain ⟨-, rfl⟩ := out_get ha
      obtain ⟨-, rfl⟩ := out_get hc
      refine ⟨by omega, fun hlt => ?_⟩
      have := take_near (l := gs.map Int.toNat) (m := m) (i := i) (k := k)
      rw [hll] at this
      rw [this (by omega), hgt i g hg]
    · obtain ⟨a, ha, rfl⟩ := negI_at hx
      obtain ⟨-, rfl⟩ := out_get ha
      have h1 : cap (some (gs.map Int.toNat)) i (vis gs.length m i) ≤ (gs.map Int.toNat).getD i 0 := by unfold cap; simp only; omega
      have h2 := hgt i g hg
      omega
end Go.Proofs.Ytcmkhppkdbdfdaa
