/- Texts of this seat, 3 in one file. -/
import Derived.Test.YtodcabaihhmhnaaG27
import Derived.Deep.RegionLaw
import Derived.Test.YtodcabaihhmhnaaG26
/- One number more in a row of the call's own, in a statement that draws its order. -/
namespace Go.Proofs.Ytodcabaihhmhnaa
open Go.RowKit

theorem step_append_int {w : World} {ops : Array Oper} {o : Oper} {a : Act} {K : Act → World → Prop} {Q : Exit → Act → World → Prop} {E : Prop} (hgd : o.guard = none) (s x : Operand)
    (ho : o.op = .call { callee := .builtin .append, args := #[s, x], argTypes := #[37, 37] })
    (base : Nat) (v : Value) (xs : List Int) (g0 : Nat) (m : Int) (hs : a.eval s = v) (hown : OwnI w base v xs) (hx : a.eval x = .slice (some ⟨g0, 0, none⟩) 1 1) (hc0 : w.cell? ⟨g0, 0, none⟩ = some (.int .i64 m))
    (h63 : xs.length + 1 ≤ 1000000) (w0 : World) (hb : Below base w0 w) (hbase0 : base ≤ w0.heap.size)
    (h : ∀ g cap w', OwnI w' base (.slice (some ⟨g, 0, none⟩) (xs.length + 1) cap) (xs ++ [m]) → Below base w0 w' → w.grownBy w' v.ownBlock → (v.ownBlock = some g ∨ g = w.heap.size) → K (a.put o.dst (.slice (some ⟨g, 0, none⟩) (xs.length + 1) cap)) w') :
    if Region.wanted o (yielded ops a.tmps) = true then Oper.wp Try.prog o a w K Q else E := by
  have hbase : base ≤ w.heap.size := Nat.le_trans hbase0 hb.size
  obtain ⟨i, hi, hz0, hz2, hz3⟩ := info_parts infoI
  have hc : ∀ j u, (ints [m])[j]? = some u → w.cell? ((⟨g0, 0, none⟩ : Addr).add j) = some u := fun j u hu => by
    cases j with
    | zero => simp [ints] at hu; subst hu; simpa [Addr.add] using hc0
    | succ j => simp [ints] at hu
  refine step_append_lies w hgd s x 37 ho base 3 i (.int .i64 0) 1 8 Try.underlying37 hi hz0 hz2 hz3 rfl (by decide) v xs.length (ints xs) hs hown ⟨g0, 0, none⟩ 1 1 (ints [m]) hx (by simp [ints]) hc (ints_one _) (by decide) (by unfold maxLen; omega) (by omega) hbase w.heap.size rfl ?_
  intro g cap' w' g1 g2 g3 _
  refine h g cap' w' ?_ (hb.grown g2 hbase (fun k hk => (hown.lt k hk).1)) g2 g3
  rw [← ints_append] at g1
  have hl : (xs ++ [m]).length = xs.length + 1 := by simp
  unfold OwnI
  rw [hl]; exact g1
end Go.Proofs.Ytodcabaihhmhnaa
/- The document's rounds, one asking at a time. No walk. -/
namespace Go.Proofs.Ytodcabaihhmhnaa
open Go.RowKit Sh

theorem at_round {n r k : Nat} (hk : k < n) : (n * r + k) % n = k := (div_mod_of (n := n) (m := n * r + k) (q := r) (s := k) rfl hk).2
theorem natI_set (l : List Nat) (k a : Nat) : (natI l).set k (a : Int) = natI (l.set k a) := by simp [natI, List.map_set]
theorem negI_set (l : List Nat) (k a : Nat) : (negI l).set k (-(a : Int)) = negI (l.set k a) := by simp [negI, List.map_set]
/-- One that is asked to give more. -/
theorem give_step {n r k m : Nat} (hk : k < n) (hm : m = n * r + k) : ∃ a : Nat, (natI (out none n m))[k]? = some (a : Int) ∧ a ≤ m ∧ (natI (out none n m)).set k ((a : Int) + 1) = natI (out none n (m + 1)) := by
  refine ⟨vis n m k, natI_get (out_at none hk), ?_, ?_⟩
  · unfold vis
    have h1 : m / n = r := (div_mod_of (n := n) (m := m) (q := r) (s := k) hm hk).1
    have h2 : m % n = k := (div_mod_of (n := n) (m := m) (q := r) (s := k) hm hk).2
    rw [h1, h2, if_neg (by omega), hm]
    have : r ≤ n * r := Nat.le_mul_of_pos_left r (by omega)
    omega
  · rw [show (vis n m k : Int) + 1 = ((vis n m k + 1 : Nat) : Int) by omega, natI_set, out_set none (by omega), hm, at_round hk]
    rfl
/-- One that is asked to take: it can, or it gave all. -/
theorem take_step {l : List Nat} {r k m g : Nat} (hk : k < l.length) (hm : m = l.length * r + k) (hg : l[k]? = some g) : ∃ a : Nat, (negI (out (some l) l.length m))[k]? = some (-(a : Int)) ∧ a ≤ g ∧
    ((a < g ∧ (negI (out (some l) l.length m)).set k (-(a : Int) - 1) = negI (out (some l) l.length (m + 1)) ∧ (out (some l) l.length (m + 1)).sum = (out (some l) l.length m).sum + 1) ∨ (a = g ∧ out (some l) l.length (m + 1) = out (some l) l.length m)) := by
  have hgd : l.getD k 0 = g := by rw [List.getD_eq_getElem?_getD, hg]; rfl
  have hs := out_sum (some l) (m := m) (n := l.length) (by omega)
  have hset := out_set (some l) (m := m) (n := l.length) (by omega)
  have hat : m % l.length = k := by rw [hm]; exact at_round hk
  rw [hat] at hs hset
  have hc : ∀ v, cap (some l) k v = min g v := fun v => by unfold cap; simp only; rw [hgd]
  rw [hc, hc] at hs
  rw [hc] at hset
  refine ⟨min g (vis l.length m k), ?_, by omega, ?_⟩
  · have := out_at (some l) (n := l.length) (m := m) hk
    rw [hc] at this
    exact negI_get this
  · by_cases h : vis l.length m k < g
    · refine .inl ⟨by omega, ?_, by omega⟩
      rw [show -((min g (vis l.length m k) : Nat) : Int) - 1 = -((min g (vis l.length m k + 1) : Nat) : Int) by omega, negI_set, ← hset]
    · refine .inr ⟨by omega, ?_⟩
      rw [hset]
      refine List.ext_getElem? fun i => ?_
      rw [List.getElem?_set]
      split
      · rename_i hi
        subst hi
        rw [if_pos (by rw [out_len]; omega), out_at (some l) hk, hc]
        congr 1; omega
      · rfl
theorem sum_mono (g : Option (List Nat)) {n m m' : Nat} (h : m ≤ m') : (out g n m).sum ≤ (out g n m').sum := by
  unfold out
  exact sum_le fun i hi => out_mono g h (List.mem_range.1 hi)
theorem natI_zero (n : Nat) : natI (out none n 0) = List.replicate n 0 := by
  refine List.ext_getElem? fun i => ?_
  by_cases hi : i < n
  · rw [natI_get (out_at none hi), vis_zero]; simp [hi, cap]
  · rw [List.getElem?_eq_none (by rw [natI_length, out_len]; omega), List.getElem?_eq_none (by simp; omega)]
theorem negI_zero (l : List Nat) (n : Nat) : negI (out (some l) n 0) = List.replicate n 0 := by
  refine List.ext_getElem? fun i => ?_
  by_cases hi : i < n
  · rw [negI_get (out_at (some l) hi), vis_zero]; simp [hi, cap]
  · rw [List.getElem?_eq_none (by rw [negI_length, out_len]; omega), List.getElem?_eq_none (by simp; omega)]
end Go.Proofs.Ytodcabaihhmhnaa
/- Shares, the document's walk: round by round. -/
namespace Go.Proofs.Ytodcabaihhmhnaa
open Go.RowKit Sh

end Go.Proofs.Ytodcabaihhmhnaa
