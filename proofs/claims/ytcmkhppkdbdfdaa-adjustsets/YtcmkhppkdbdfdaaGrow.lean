/- grow: what each of some kids gets. -/
import Derived.Test.YtcmkhppkdbdfdaaRep
import Derived.Test.YtcmkhppkdbdfdaaShrM
namespace Go.Proofs.Ytcmkhppkdbdfdaa
open Go.RowKit Sh

def gl (n q k : Nat) : List Int := (List.range n).map fun i => ((q + if i < k then 1 else 0 : Nat) : Int)
theorem gl_zero (n q : Nat) : gl n q 0 = List.replicate n (q : Int) := by
  refine List.ext_getElem? fun i => ?_
  by_cases hi : i < n
  · simp [gl, hi]
  · rw [List.getElem?_eq_none (by simp [gl]; omega), List.getElem?_eq_none (by simp; omega)]
theorem gl_at {n q k i : Nat} (hi : i < n) : (gl n q k)[i]? = some (((q + if i < k then 1 else 0 : Nat)) : Int) := by simp [gl, hi]
theorem gl_cur {n q k : Nat} (hk : k < n) : (gl n q k)[k]? = some (q : Int) := by rw [gl_at hk]; simp
theorem gl_length (n q k : Nat) : (gl n q k).length = n := by simp [gl]
theorem gl_set {n q k : Nat} (hk : k < n) : (gl n q k).set k ((q : Int) + 1) = gl n q (k + 1) := by
  refine List.ext_getElem? fun i => ?_
  by_cases hi : i < n
  · rw [List.getElem?_set, gl_at hi, gl_at hi, gl_length]
    by_cases h : k = i
    · subst h; rw [if_pos rfl, if_pos hk, if_pos (by omega)]; rfl
    · rw [if_neg h]
      by_cases h2 : i < k
      · rw [if_pos h2, if_pos (by omega)]
      · rw [if_neg h2, if_neg (by omega)]
  · rw [List.getElem?_eq_none (by rw [List.length_set, gl_length]; omega), List.getElem?_eq_none (by rw [gl_length]; omega)]
theorem gl_out (n m : Nat) : gl n (m / n) (m % n) = natI (out none n m) := by
  unfold gl natI out
  rw [List.map_map]
  exact List.map_congr_left fun i _ => rfl

set_option maxRecDepth 100000 in
theorem grow_any (m n : Nat) (w : World) (hm : m ≤ 2147483647) (hn : 1 ≤ n) (hn2 : n ≤ 1000000) :
    Calls Try.prog 17 #[.int .i64 m, .int .i64 n] w fun e w' => ∃ g, e = .returned (.slice (some ⟨g, 0, none⟩) n n) ∧ w.heap.size ≤ g ∧ IBlk w' g (natI (out none n m)) ∧ Below w.heap.size w w' := by
  have hlt := Nat.mod_lt m (show 0 < n by omega)
  obtain ⟨q, hq⟩ : ∃ q, m / n = q := ⟨_, rfl⟩
  obtain ⟨r, hr⟩ : ∃ r, m % n = r := ⟨_, rfl⟩
  have HG := Lib.hid (gl_out n m)
  rw [hq, hr] at HG
  rw [hr] at hlt
  have hd : (m : Int).tdiv (n : Int) = (q : Int) := by rw [← hq]; exact Int.ofNat_tdiv m n
  have hm' : (m : Int).tmod (n : Int) = (r : Int) := by rw [← hr]; exact Int.ofNat_tmod m n
  have hd2 : (m : Int) / (n : Int) = (q : Int) := by rw [← hq]; exact Int.natCast_ediv m n
  have hm2 : (m : Int) % (n : Int) = (r : Int) := by rw [← hr]; exact Int.natCast_emod m n
  have hqle : q ≤ m := by rw [← hq]; exact Nat.div_le_self m n
  clear hq hr
  have HR : Hid (∀ W : World, Calls Try.prog 23 #[.slice (some ⟨W.heap.size, 0, none⟩) 1 1, .int .i64 n] (W.alloc (.cells #[.int .i64 (q : Int)] 3)) fun e w' => ∃ g, e = .returned (.slice (some ⟨g, 0, none⟩) n n) ∧ W.heap.size ≤ g ∧ IBlk w' g (List.replicate n (q : Int)) ∧ Below W.heap.size W w') := Lib.hid fun W => by
    refine (repeat_any (q : Int) n _ (W.alloc (.cells #[.int .i64 (q : Int)] 3)) ((IBlk.one W _).row 1 1 rfl) hn hn2).mono ?_
    rintro e w' ⟨g, rfl, h1, h2, h3⟩
    exact ⟨g, rfl, by simp at h1; omega, h2, below_one h3⟩
  go_enter Try.func17, Try.ntmps17
  go_wp2_with fail
  refine (HR.out w).mono ?_
  rintro e w2 ⟨g, rfl, hgw, hblk, hb2⟩
  have HK := Lib.hid hblk
  have HB := Lib.hid hb2
  clear hblk hb2
  go_wp2
  go_loopg [16] (r + 1) (fun G i wr => ∃ k : Nat, G + k = r + 1 ∧ k ≤ r ∧ i = .int .i64 k ∧ IBlk wr g (gl n q k) ∧ Below w.heap.size w wr)
  case atStart => exact ⟨0, by omega, by omega, rfl, by rw [gl_zero]; exact HK.out, HB.out⟩
  case round =>
    obtain ⟨k, hG, hk, rfl, hblk, hb⟩ := hrel
    have HGK := Lib.hid hG
    have HK2 := Lib.hid hblk
    have HB2 := Lib.hid hb
    clear hG hblk hb
    by_cases hkr : k < r
    · have hlti : (k : Int) < (r : Int) := by omega
      have hkn : (k : Int) < (n : Int) := by omega
      have c0 := HK2.out.cell (gl_cur (q := q) (show k < n by omega))
      have f0 := HK2.out.free k
      have HK3 := Lib.hid (HK2.out.set k ((q : Int) + 1))
      rw [gl_set (by omega)] at HK3
      have HB3 := Lib.hid (show Below w.heap.size w (wr.setCell ⟨g, k, none⟩ (.int .i64 ((q : Int) + 1))) from HB2.out.setCell hgw _)
      go_wp2
      go_roundg (gk - 1)
      case measure => have := HGK.out; omega
      case rel => exact ⟨k + 1, by have := HGK.out; omega, by omega, by go_num, HK3.out, HB3.out⟩
    · obtain rfl : k = r := by omega
      have hkl : ((k : Int) < (k : Int)) = False := by simp
      go_wp2
      go_ret
      exact ⟨g, rfl, hgw, by rw [← HG.out]; exact HK2.out, HB2.out⟩
end Go.Proofs.Ytcmkhppkdbdfdaa
