/- The plain mathematics of four hexadecimal digits. No program stands in it. -/
import Derived.Test.YthhjeiabjmhalaaMath
namespace Sash.Num
open Go
/-! Four hexadecimal digits. -/
def hex4 (n : Nat) : List UInt8 := [hexc (n / 4096), hexc (n / 256 % 16), hexc (n / 16 % 16), hexc (n % 16)]
def hexv (c : UInt8) : Nat := if 48 ≤ c.toNat ∧ c.toNat ≤ 57 then c.toNat - 48 else if 97 ≤ c.toNat ∧ c.toNat ≤ 102 then c.toNat - 87 else 16
def rhV (l : List UInt8) : Nat := l.foldl (fun n c => n * 16 + hexv c) 0
def rhOk (l : List UInt8) : Prop := l.length = 4 ∧ ∀ c ∈ l, hexv c < 16
theorem hexv_le (c : UInt8) : hexv c ≤ 16 := by unfold hexv; split; omega; split <;> omega
theorem rhV_snoc (a : List UInt8) (c : UInt8) : rhV (a ++ [c]) = rhV a * 16 + hexv c := by simp [rhV, List.foldl_append]
theorem rhV_take (l : List UInt8) (k : Nat) (h : k < l.length) : rhV (l.take (k + 1)) = rhV (l.take k) * 16 + hexv l[k] := by
  rw [List.take_succ_eq_append_getElem h, rhV_snoc]

theorem hexS_size : hexS.size = 16 := by decide +kernel
theorem hex_idx_fin : ∀ k : Fin 16, hexS[k.val]'(by rw [hexS_size]; exact k.isLt) = hexc k.val := by decide +kernel
theorem hex_idx (k : Nat) (h : k < 16) (h' : k < hexS.size) : hexS[k]'h' = hexc k := hex_idx_fin ⟨k, h⟩
theorem rhV_fold : ∀ (l : List UInt8) (n : Nat), (∀ c ∈ l, hexv c < 16) → l.foldl (fun n c => n * 16 + hexv c) n < (n + 1) * 16 ^ l.length
  | [], n, _ => by simp
  | c :: r, n, h => by
    have h1 := rhV_fold r (n * 16 + hexv c) (fun x hx => h x (List.mem_cons_of_mem _ hx))
    have h2 := h c List.mem_cons_self
    rw [List.foldl_cons, List.length_cons, Nat.pow_succ]
    refine Nat.lt_of_lt_of_le h1 ?_
    have : n * 16 + hexv c + 1 ≤ (n + 1) * 16 := by omega
    calc (n * 16 + hexv c + 1) * 16 ^ r.length ≤ ((n + 1) * 16) * 16 ^ r.length := Nat.mul_le_mul_right _ this
      _ = (n + 1) * (16 ^ r.length * 16) := by rw [Nat.mul_assoc, Nat.mul_comm 16]
theorem rhV_lt (l : List UInt8) (h : ∀ c ∈ l, hexv c < 16) : rhV l < 16 ^ l.length := by
  have := rhV_fold l 0 h
  simpa [rhV] using this
theorem hexc_v_fin : ∀ k : Fin 16, hexv (hexc k.val) = k.val := by decide +kernel
theorem hexc_v (k : Nat) (h : k < 16) : hexv (hexc k) = k := hexc_v_fin ⟨k, h⟩
theorem hex4_ok (n : Nat) (h : n < 65536) : rhOk (hex4 n) ∧ rhV (hex4 n) = n := by
  have e0 := hexc_v (n / 4096) (by omega)
  have e1 := hexc_v (n / 256 % 16) (by omega)
  have e2 := hexc_v (n / 16 % 16) (by omega)
  have e3 := hexc_v (n % 16) (by omega)
  refine ⟨⟨rfl, ?_⟩, ?_⟩
  · intro c hc
    simp only [hex4, List.mem_cons, List.not_mem_nil, or_false] at hc
    rcases hc with rfl | rfl | rfl | rfl <;> omega
  · simp only [hex4, rhV, List.foldl_cons, List.foldl_nil, e0, e1, e2, e3]; omega

end Sash.Num
