/- slices.Repeat of one number. -/
import Derived.Test.YtcmkhppkdbdfdaaBlk
import Derived.Test.YtcmkhppkdbdfdaaShelf
import Derived.Deep.RegionLaw
namespace Go.Proofs.Ytcmkhppkdbdfdaa
open Go.RowKit

theorem repl_splice (q : Int) (n k m : Nat) (hk : k + m ≤ n) : splice (ints (List.replicate k q ++ List.replicate (n - k) 0)) k (ints (List.replicate m q)) = ints (List.replicate (k + m) q ++ List.replicate (n - (k + m)) 0) := by
  unfold splice
  simp only [ints_append, ints_rep]
  rw [List.length_replicate, List.take_append_of_le_length (by simp), List.take_of_length_le (by simp), List.drop_append]
  simp only [List.length_replicate, List.drop_replicate]
  rw [show k - (k + m) = 0 by omega, show n - k - (k + m - k) = n - (k + m) by omega, List.replicate_zero, List.nil_append, ← List.append_assoc, List.replicate_append_replicate]
theorem blk_copy {w : World} {g : Nat} {l : List Int} (h : IBlk w g l) (ty : TypeId) (off dLen dCap : Nat) (b o sLen sCap : Nat) (cs : List Int) (hn : cs.length = Nat.min sLen dLen) (hsrc : ∀ (j : Nat) (m : Int), cs[j]? = some m → w.cell? ⟨b, o + j, none⟩ = some (.int .i64 m)) (hfit : off + cs.length ≤ l.length) (B : Nat) (w0 : World) (hb : Below B w0 w) (hBg : B ≤ g) :
    ∃ W, (Builtin.copy_ #[22, 22] ty #[.slice (some ⟨g, off, none⟩) dLen dCap, .slice (some ⟨b, o, none⟩) sLen sCap]).run Try.prog w = .ok (.int .i64 cs.length) W ∧ W.heap[g]? = some (.cells (splice (ints l) off (ints cs)).toArray 3 (0, 0)) ∧ Below B w0 W := by
  have hsz : ((Try.prog.info? 3).map (·.size)) = some 1 := by kernel_rfl
  have hr := run_copy_row (P := Try.prog) w 22 22 ty 3 g off dLen dCap ⟨b, o, none⟩ sLen sCap (ints l).toArray 3 (ints cs) Try.underlying22 hsz h (by rw [ints_length]; exact hn) (fun j u hu => ?_) (by simp [ints_length]; exact hfit) (ints_one cs)
  · rw [ints_length] at hr
    refine ⟨_, hr, ?_, below_setRow hb hBg _⟩
    rw [setRow_heap w g _ _ 3 _ h]
    simp [splice, ints_length]
  · unfold ints at hu
    rw [List.getElem?_map, Option.map_eq_some_iff] at hu
    obtain ⟨m, hm, rfl⟩ := hu
    rw [Go.WideShapes.add_plain]
    exact hsrc j m hm

set_option maxRecDepth 100000 in
theorem repeat_any (q : Int) (n : Nat) (v : Value) (w : World) (hv : Row w v (ints [q])) (hn : 1 ≤ n) (hn2 : n ≤ 1000000) :
    Calls Try.prog 23 #[v, .int .i64 n] w fun e w' => ∃ g, e = .returned (.slice (some ⟨g, 0, none⟩) n n) ∧ w.heap.size ≤ g ∧ IBlk w' g (List.replicate n q) ∧ Below w.heap.size w w' := by
  obtain ⟨a, cap, rfl⟩ := row_shape hv
  have HV := Lib.hid hv
  clear hv
  have HM : Hid (Calls Try.prog 24 #[.int .u64 1, .int .u64 n] w fun e w' => e = .returned (.tuple #[.int .u64 0, .int .u64 n]) ∧ w' = w) := Lib.hid (by
    have := Try.bits_Mul 1 n (by omega) (by omega) w
    rw [Nat.one_mul, Nat.div_eq_of_lt (by omega), Nat.mod_eq_of_lt (by omega)] at this
    exact this)
  have hmk := made_ints n (by omega)
  obtain ⟨b, o, rfl, hf⟩ := int_at HV.out (by simp)
  have HQ := Lib.hid (hf 0 q rfl)
  clear hf
  simp only [List.length_singleton]
  go_enter Try.func23, Try.ntmps23
  go_wp2_with fail
  refine HM.out.mono ?_
  rintro e w2 ⟨rfl, hw2⟩
  rw [hw2]
  clear hw2 w2
  have N0 := Lib.hid (show IBlk (w.alloc (.cells (ints (List.replicate n 0)).toArray 3)) w.heap.size (List.replicate n 0) from heap_alloc_new w _)
  have B0 : Hid (Below w.heap.size w (w.alloc (.cells (ints (List.replicate n 0)).toArray 3))) := Lib.hid ((Below.refl _ _).alloc (Nat.le_refl _) _)
  obtain ⟨W1, hcp, hW1, hBW1⟩ := blk_copy N0.out 3 0 n n b o 1 cap [q] (by show 1 = min 1 n; omega) (fun j m hm => by
    cases j with
    | zero => simp at hm; subst hm; exact (B0.out.cell (lt_of_cell HQ.out)).trans HQ.out
    | succ j => simp at hm) (by simp; omega) w.heap.size w B0.out (Nat.le_refl _)
  have HN1 : Hid (IBlk W1 w.heap.size (List.replicate 1 q ++ List.replicate (n - 1) 0)) := Lib.hid (by
    have := repl_splice q n 0 1 (by omega)
    simp only [List.replicate_zero, List.nil_append, Nat.sub_zero, Nat.zero_add, show List.replicate 1 q = [q] from rfl] at this
    rw [this] at hW1
    exact hW1)
  have HB1 := Lib.hid hBW1
  clear hW1 hBW1
  have hcp' : (Builtin.copy_ #[22, 22] 3 #[.slice (some ⟨w.heap.size, 0, none⟩) n n, .slice (some ⟨b, o, none⟩) 1 cap]).run Try.prog (w.alloc (.cells (ints (List.replicate n 0)).toArray 3)) = .ok (.int .i64 1) W1 := hcp
  clear hcp
  go_wp2
  clear hcp' hmk
  go_loopg [8] n (fun g i wr => ∃ k : Nat, n - k ≤ g ∧ 1 ≤ k ∧ k ≤ n ∧ i = .int .i64 k ∧ IBlk wr w.heap.size (List.replicate k q ++ List.replicate (n - k) 0) ∧ Below w.heap.size w wr)
  case atStart => exact ⟨1, by omega, by omega, by omega, rfl, HN1.out, HB1.out⟩
  case round =>
    obtain ⟨k, hg, hk1, hk, rfl, hblk, hb⟩ := hrel
    have HG := Lib.hid hg
    have HK := Lib.hid hblk
    have HB := Lib.hid hb
    clear hg hblk hb
    by_cases hlt : k < n
    · have hlti : (k : Int) < (n : Int) := by omega
      have hne : (n = k) = False := by simp; omega
      obtain ⟨m, hm⟩ : ∃ m, m = min k (n - k) := ⟨_, rfl⟩
      have KD := Lib.hid (show IBlk wr.drew w.heap.size (List.replicate k q ++ List.replicate (n - k) 0) from HK.out)
      obtain ⟨W2, hcp, hW2, hBW2⟩ := blk_copy KD.out 3 k (n - k) (n - k) w.heap.size 0 k n (List.replicate m q) (by rw [List.length_replicate]; exact hm) (fun j x hx => by
        rw [Nat.zero_add]
        refine KD.out.cell ?_
        have hj : j < m := by
          rcases Nat.lt_or_ge j m with h | h
          · exact h
          · rw [List.getElem?_eq_none (by simpa using h)] at hx; cases hx
        rw [List.getElem?_append_left (by simp; omega)]
        rw [List.getElem?_replicate, if_pos hj] at hx
        rw [List.getElem?_replicate, if_pos (by omega)]; exact hx) (by simp; omega) w.heap.size w HB.out.drew (Nat.le_refl _)
      rw [repl_splice q n k m (by omega)] at hW2
      rw [List.length_replicate] at hcp
      have HN2 : Hid (IBlk W2 w.heap.size (List.replicate (k + m) q ++ List.replicate (n - (k + m)) 0)) := Lib.hid hW2
      have HB2 := Lib.hid hBW2
      clear hW2 hBW2
      go_wp2
      go_region
      go_wp2
      go_roundg (gk - 1)
      case measure => have := HG.out; omega
      case rel => exact ⟨k + m, by have := HG.out; omega, by omega, by omega, by rw [hm]; go_num, HN2.out, HB2.out⟩
    · obtain rfl : k = n := by omega
      have hkl : ((k : Int) < (k : Int)) = False := by simp
      go_wp2
      go_ret
      refine ⟨w.heap.size, rfl, Nat.le_refl _, ?_, HB.out⟩
      have := HK.out
      rw [Nat.sub_self, List.replicate_zero, List.append_nil] at this
      exact this
end Go.Proofs.Ytcmkhppkdbdfdaa
