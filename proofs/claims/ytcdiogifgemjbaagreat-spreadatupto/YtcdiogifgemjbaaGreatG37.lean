/- Texts of this seat, 3 in one file. -/
import Derived.Test.YtcdiogifgemjbaaGreatG36
import Derived.Test.YtcdiogifgemjbaaGreatG22
/- slices.Repeat, not once. -/
namespace Go.Proofs.YtcdiogifgemjbaaGreat
open Go.RowKit

set_option maxRecDepth 100000 in
theorem repeat_zero (q : Int) (v : Value) (w : World) (hv : Row w v (ints [q])) :
    Calls Tryz.prog 85 #[v, .int .i64 0] w fun e w' => e = .returned (.slice (some ⟨w.heap.size, 0, none⟩) 0 0) ∧ Below w.heap.size w w' := by
  obtain ⟨a, cap, rfl⟩ := row_shape hv
  have HV := Lib.hid hv
  clear hv
  have HM : Hid (Calls Tryz.prog 91 #[.int .u64 1, .int .u64 0] w fun e w' => e = .returned (.tuple #[.int .u64 0, .int .u64 0]) ∧ w' = w) := Lib.hid (by
    have := Tryz.bits_Mul 1 0 (by omega) (by omega) w
    simpa using this)
  have hmk := made_ints 0 (by omega)
  obtain ⟨b, o, rfl, hf⟩ := int_at HV.out (by simp)
  clear hf
  simp only [List.length_singleton]
  go_enter Tryz.func85, Tryz.ntmps85
  go_wp2_with fail
  refine HM.out.mono ?_
  rintro e w2 ⟨rfl, hw2⟩
  rw [hw2]
  clear hw2 w2
  have N0 := Lib.hid (show IBlk (w.alloc (.cells (ints (List.replicate 0 0)).toArray 3)) w.heap.size (List.replicate 0 0) from heap_alloc_new w _)
  have B0 : Hid (Below w.heap.size w (w.alloc (.cells (ints (List.replicate 0 0)).toArray 3))) := Lib.hid ((Below.refl _ _).alloc (Nat.le_refl _) _)
  obtain ⟨W1, hcp, hW1, hBW1⟩ := blk_copy N0.out 3 0 0 0 b o 1 cap [] (by show 0 = min 1 0; omega) (fun j m hm => by simp at hm) (by simp) w.heap.size w B0.out (Nat.le_refl _)
  have HB1 := Lib.hid hBW1
  clear hW1 hBW1
  have hmk' : (Instr.makeSlice 27 (.int .i64 0) (.int .i64 0)).run Tryz.prog w = .ok (.slice (some ⟨w.heap.size, 0, none⟩) 0 0) (w.alloc (.cells #[] 3)) := hmk w
  have hcp' : (Builtin.copy_ #[27, 27] 3 #[.slice (some ⟨w.heap.size, 0, none⟩) 0 0, .slice (some ⟨b, o, none⟩) 1 cap]).run Tryz.prog (w.alloc (.cells #[] 3)) = .ok (.int .i64 0) W1 := hcp
  clear hcp hmk
  go_wp2
  clear hcp' hmk'
  go_loopg [8] 1 (fun g i wr => i = .int .i64 0 ∧ wr = W1)
  case atStart => exact ⟨rfl, rfl⟩
  case round =>
    obtain ⟨rfl, hw⟩ := hrel
    rw [hw]
    clear hw wr
    go_wp2
    go_ret
    exact ⟨rfl, HB1.out⟩
end Go.Proofs.YtcdiogifgemjbaaGreat
/- grow: what each of some kids gets. -/
namespace Go.Proofs.YtcdiogifgemjbaaGreat
open Go.RowKit Sh

def gl (n q k : Nat) : List Int := (List.range n).map fun i => ((q + if i < k then 1 else 0 : Nat) : Int)
theorem gl_zero (n q : Nat) : gl n q 0 = List.replicate n (q : Int) := by
  refine List.ext_getElem? fun i => ?_
  by_cases hi : i < n
  · simp [gl, hi]
  · rw [List.getElem?_eq_none (by simp [gl]; omega), List.getElem?_eq_none (by simp; omega)]
theorem gl_at {n q k i : Nat} (hi : i < n) : (gl n q k)[i]? = some (((q + if i < k then 1 else 0 : Nat)) : Int) := by simp [gl, hi]
theorem gl_cur {n q k : Nat} (hk : k < n) : (gl n q k)[k]? = some (q : Int) := by rw [gl_at hk]; simp
theorem gl_length (n q k : Nat) : (gl n q k).length = n := by simp [gl]
theorem gl_set {n q k : Nat} (hk : k < n) : (gl n q k).set k ((q : Int) + 1) = gl n q (k + 1) := by
  refine List.ext_getElem? fun i => ?_
  by_cases hi : i < n
  · rw [List.getElem?_set, gl_at hi, gl_at hi, gl_length]
    by_cases h : k = i
    · subst h; rw [if_pos rfl, if_pos hk, if_pos (by omega)]; rfl
    · rw [if_neg h]
      by_cases h2 : i < k
      · rw [if_pos h2, if_pos (by omega)]
      · rw [if_neg h2, if_neg (by omega)]
  · rw [List.getElem?_eq_none (by rw [List.length_set, gl_length]; omega), List.getElem?_eq_none (by rw [gl_length]; omega)]
theorem gl_out (n m : Nat) : gl n (m / n) (m % n) = natI (out none n m) := by
  unfold gl natI out
  rw [List.map_map]
  exact List.map_congr_left fun i _ => rfl

set_option maxRecDepth 100000 in
theorem grow_any (m n : Nat) (w : World) (hm : m ≤ 2147483647) (hn : 1 ≤ n) (hn2 : n ≤ 1000000) :
    Calls Tryz.prog 95 #[.int .i64 m, .int .i64 n] w fun e w' => ∃ g, e = .returned (.slice (some ⟨g, 0, none⟩) n n) ∧ w.heap.size ≤ g ∧ IBlk w' g (natI (out none n m)) ∧ Below w.heap.size w w' := by
  have hlt := Nat.mod_lt m (show 0 < n by omega)
  obtain ⟨q, hq⟩ : ∃ q, m / n = q := ⟨_, rfl⟩
  obtain ⟨r, hr⟩ : ∃ r, m % n = r := ⟨_, rfl⟩
  have HG := Lib.hid (gl_out n m)
  rw [hq, hr] at HG
  rw [hr] at hlt
  have hd : (m : Int).tdiv (n : Int) = (q : Int) := by rw [← hq]; exact Int.ofNat_tdiv m n
  have hm' : (m : Int).tmod (n : Int) = (r : Int) := by rw [← hr]; exact Int.ofNat_tmod m n
  have hd2 : (m : Int) / (n : Int) = (q : Int) := by rw [← hq]; exact Int.natCast_ediv m n
  have hm2 : (m : Int) % (n : Int) = (r : Int) := by rw [← hr]; exact Int.natCast_emod m n
  have hqle : q ≤ m := by rw [← hq]; exact Nat.div_le_self m n
  clear hq hr
  have HR : Hid (∀ W : World, Calls Tryz.prog 85 #[.slice (some ⟨W.heap.size, 0, none⟩) 1 1, .int .i64 n] (W.alloc (.cells #[.int .i64 (q : Int)] 3)) fun e w' => ∃ g, e = .returned (.slice (some ⟨g, 0, none⟩) n n) ∧ W.heap.size ≤ g ∧ IBlk w' g (List.replicate n (q : Int)) ∧ Below W.heap.size W w') := Lib.hid fun W => by
    refine (repeat_any (q : Int) n _ (W.alloc (.cells #[.int .i64 (q : Int)] 3)) ((IBlk.one W _).row 1 1 rfl) hn hn2).mono ?_
    rintro e w' ⟨g, rfl, h1, h2, h3⟩
    exact ⟨g, rfl, by simp at h1; omega, h2, below_one h3⟩
  go_enter Tryz.func95, Tryz.ntmps95
  go_wp2_with fail
  refine (HR.out w).mono ?_
  rintro e w2 ⟨g, rfl, hgw, hblk, hb2⟩
  have HK := Lib.hid hblk
  have HB := Lib.hid hb2
  clear hblk hb2
  go_wp2
  go_loopg [16] (r + 1) (fun G i wr => ∃ k : Nat, G + k = r + 1 ∧ k ≤ r ∧ i = .int .i64 k ∧ IBlk wr g (gl n q k) ∧ Below w.heap.size w wr)
  case atStart => exact ⟨0, by omega, by omega, rfl, by rw [gl_zero]; exact HK.out, HB.out⟩
  case round =>
    obtain ⟨k, hG, hk, rfl, hblk, hb⟩ := hrel
    have HGK := Lib.hid hG
    have HK2 := Lib.hid hblk
    have HB2 := Lib.hid hb
    clear hG hblk hb
    by_cases hkr : k < r
    · have hlti : (k : Int) < (r : Int) := by omega
      have hkn : (k : Int) < (n : Int) := by omega
      have c0 := HK2.out.cell (gl_cur (q := q) (show k < n by omega))
      have f0 := HK2.out.free k
      have HK3 := Lib.hid (HK2.out.set k ((q : Int) + 1))
      rw [gl_set (by omega)] at HK3
      have HB3 := Lib.hid (show Below w.heap.size w (wr.setCell ⟨g, k, none⟩ (.int .i64 ((q : Int) + 1))) from HB2.out.setCell hgw _)
      go_wp2
      go_roundg (gk - 1)
      case measure => have := HGK.out; omega
      case rel => exact ⟨k + 1, by have := HGK.out; omega, by omega, by go_num, HK3.out, HB3.out⟩
    · obtain rfl : k = r := by omega
      have hkl : ((k : Int) < (k : Int)) = False := by simp
      go_wp2
      go_ret
      exact ⟨g, rfl, hgw, by rw [← HG.out]; exact HK2.out, HB2.out⟩
end Go.Proofs.YtcdiogifgemjbaaGreat
/- sort.Search, with a closure that keeps two things. -/
namespace Go.Proofs.YtcdiogifgemjbaaGreat
open Go.RowKit

theorem enters22 : Enters 103 := enters_of Tryz.func103 (by kernel_rfl) rfl

set_option maxRecDepth 100000 in
theorem search_any (n : Nat) (hn : n ≤ 1099511627776) (p : Nat → Bool) (p1 p2 : Value) (w : World)
    (hP : ∀ (i : Nat) (W : World), i < n → Below w.heap.size w W → Calls Tryz.prog 103 #[.int .i64 i, p1, p2] W fun e w' => e = .returned (.bool (p i)) ∧ Below W.heap.size W w') :
    Calls Tryz.prog 102 #[.int .i64 n, .func (.func 103) #[] #[p1, p2]] w fun e w' => ∃ r : Nat, r ≤ n ∧ e = .returned (.int .i64 r) ∧ (r = 0 ∨ p (r - 1) = false) ∧ (r = n ∨ p r = true) ∧ Below w.heap.size w w' := by
  have hent : ∀ (args : Array Value) (w : World), (callFunc 103 args).run Tryz.prog w = .ok (.enter 103 args) w := enters22
  have HP := Lib.hid hP
  clear hP
  go_enter Tryz.func102, Tryz.ntmps102
  go_wp2
  go_loopg [5, 6] (n + 1) (fun g vi vj wr => ∃ i j : Nat, j - i ≤ g ∧ i ≤ j ∧ j ≤ n ∧ vi = .int .i64 i ∧ vj = .int .i64 j ∧ (i = 0 ∨ p (i - 1) = false) ∧ (j = n ∨ p j = true) ∧ Below w.heap.size w wr)
  case atStart => exact ⟨0, n, by omega, by omega, by omega, rfl, rfl, .inl rfl, .inl rfl, Below.refl _ _⟩
  case round =>
    obtain ⟨i, j, hg, hij, hjn, rfl, rfl, hi, hj, hb⟩ := hrel
    have HG := Lib.hid hg
    have HI := Lib.hid hi
    have HJ := Lib.hid hj
    have HB := Lib.hid hb
    clear hg hi hj hb
    by_cases hlt : i < j
    · have hlti : (i : Int) < (j : Int) := by omega
      obtain ⟨h, hh⟩ : ∃ h : Nat, ((i : Int) + (j : Int)) / 2 = (h : Int) := ⟨(i + j) / 2, by omega⟩
      have h1 : i ≤ h := by omega
      have h2 : h < j := by omega
      have HC := Lib.hid (HP.out h wr (by omega) HB.out)
      go_wp2_with fail
      refine HC.out.mono ?_
      rintro e w2 ⟨rfl, hb2⟩
      have B2 := Lib.hid (HB.out.trans (hb2.mono HB.out.size))
      clear hb2 hh
      cases hp : p h with
      | true =>
        have HPH := Lib.hid hp
        clear hp
        go_wp2
        go_roundg (gk - 1)
        case measure => have := HG.out; omega
        case rel => exact ⟨i, h, by have := HG.out; omega, by omega, by omega, rfl, rfl, HI.out, .inr HPH.out, B2.out⟩
      | false =>
        have HPH := Lib.hid hp
        clear hp
        go_wp2
        go_roundg (gk - 1)
        case measure => have := HG.out; omega
        case rel => exact ⟨h + 1, j, by have := HG.out; omega, by omega, by omega, by go_num, rfl, .inr (by rw [Nat.add_sub_cancel]; exact HPH.out), HJ.out, B2.out⟩
    · obtain rfl : i = j := by omega
      have hkl : ((i : Int) < (i : Int)) = False := by simp
      go_wp2
      go_ret
      exact ⟨i, by omega, rfl, HI.out, HJ.out, HB.out⟩
end Go.Proofs.YtcdiogifgemjbaaGreat
