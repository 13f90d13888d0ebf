/- The document's rounds, one asking at a time. No walk. -/
import Derived.Test.YtcmkhppkdbdfdaaShrM
namespace Go.Proofs.Ytcmkhppkdbdfdaa
open Go.RowKit Sh

theorem at_round {n r k : Nat} (hk : k < n) : (n * r + k) % n = k := (div_mod_of (n := n) (m := n * r + k) (q := r) (s := k) rfl hk).2
theorem natI_set (l : List Nat) (k a : Nat) : (natI l).set k (a : Int) = natI (l.set k a) := by simp [natI, List.map_set]
theorem negI_set (l : List Nat) (k a : Nat) : (negI l).set k (-(a : Int)) = negI (l.set k a) := by simp [negI, List.map_set]
/-- One that is asked to give more. -/
theorem give_step {n r k m : Nat} (hk : k < n) (hm : m = n * r + k) : ∃ a : Nat, (natI (out none n m))[k]? = some (a : Int) ∧ a ≤ m ∧ (natI (out none n m)).set k ((a : Int) + 1) = natI (out none n (m + 1)) := by
  refine ⟨vis n m k, natI_get (out_at none hk), ?_, ?_⟩
  · unfold vis
    have h1 : m / n = r := (div_mod_of (n := n) (m := m) (q := r) (s := k) hm hk).1
    have h2 : m % n = k := (div_mod_of (n := n) (m := m) (q := r) (s := k) hm hk).2
    rw [h1, h2, if_neg (by omega), hm]
    have : r ≤ n * r := Nat.le_mul_of_pos_left r (by omega)
    omega
  · rw [show (vis n m k : Int) + 1 = ((vis n m k + 1 : Nat) : Int) by omega, natI_set, out_set none (by omega), hm, at_round hk]
    rfl
/-- One that is asked to take: it can, or it gave all. -/
theorem take_step {l : List Nat} {r k m g : Nat} (hk : k < l.length) (hm : m = l.length * r + k) (hg : l[k]? = some g) : ∃ a : Nat, (negI (out (some l) l.length m))[k]? = some (-(a : Int)) ∧ a ≤ g ∧
    ((a < g ∧ (negI (out (some l) l.length m)).set k (-(a : Int) - 1) = negI (out (some l) l.length (m + 1)) ∧ (out (some l) l.length (m + 1)).sum = (out (some l) l.length m).sum + 1) ∨ (a = g ∧ out (some l) l.length (m + 1) = out (some l) l.length m)) := by
  have hgd : l.getD k 0 = g := by rw [List.getD_eq_getElem?_getD, hg]; rfl
  have hs := out_sum (some l) (m := m) (n := l.length) (by omega)
  have hset := out_set (some l) (m := m) (n := l.length) (by omega)
  have hat : m % l.length = k := by rw [hm]; exact at_round hk
  rw [hat] at hs hset
  have hc : ∀ v, cap (some l) k v = min g v := fun v => by unfold cap; simp only; rw [hgd]
  rw [hc, hc] at hs
  rw [hc] at hset
  refine ⟨min g (vis l.length m k), ?_, by omega, ?_⟩
  · have := out_at (some l) (n := l.length) (m := m) hk
    rw [hc] at this
    exact negI_get this
  · by_cases h : vis l.length m k < g
    · refine .inl ⟨by omega, ?_, by omega⟩
      rw [show -((min g (vis l.length m k) : Nat) : Int) - 1 = -((min g (vis l.length m k + 1) : Nat) : Int) by omega, negI_set, ← hset]
    · refine .inr ⟨by omega, ?_⟩
      rw [hset]
      refine List.ext_getElem? fun i => ?_
      rw [List.getElem?_set]
      split
      · rename_i hi
        subst hi
        rw [if_pos (by rw [out_len]; omega), out_at (some l) hk, hc]
        congr 1; omega
      · rfl
theorem sum_mono (g : Option (List Nat)) {n m m' : Nat} (h : m ≤ m') : (out g n m).sum ≤ (out g n m').sum := by
  unfold out
  exact sum_le fun i hi => out_mono g h (List.mem_range.1 hi)
theorem natI_zero (n : Nat) : natI (out none n 0) = List.replicate n 0 := by
  refine List.ext_getElem? fun i => ?_
  by_cases hi : i < n
  · rw [natI_get (out_at none hi), vis_zero]; simp [hi, cap]
  · rw [List.getElem?_eq_none (by rw [natI_length, out_len]; omega), List.getElem?_eq_none (by simp; omega)]
theorem negI_zero (l : List Nat) (n : Nat) : negI (out (some l) n 0) = List.replicate n 0 := by
  refine List.ext_getElem? fun i => ?_
  by_cases hi : i < n
  · rw [negI_get (out_at (some l) hi), vis_zero]; simp [hi, cap]
  · rw [List.getElem?_eq_none (by rw [negI_length, out_len]; omega), List.getElem?_eq_none (by simp; omega)]
end Go.Proofs.Ytcmkhppkdbdfdaa
