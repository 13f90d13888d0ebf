/- Texts of this seat, 3 in one file. -/
import Derived.Test.YtbbjnimadnbmnaaGreatG34
import Derived.Test.YtbbjnimadnbmnaaGreatG18
import Derived.Laws.OwnMore
import Derived.Test.YtbbjnimadnbmnaaGreatG22
import Derived.Test.YtbbjnimadnbmnaaGreatShelf
import Derived.Deep.RegionLaw
/- Two cells give way to one: slices.Replace. -/
namespace Go.Proofs.YtbbjnimadnbmnaaGreat
open Go.RowKit

theorem run_clearC (w : World) (ty : TypeId) (g o c : Nat) (cur : List Value) (hg : CBlk w g cur) (hfit : o + 7 ≤ cur.length) :
    (Builtin.clear_ #[24] ty #[.slice (some ⟨g, o, none⟩) 1 c]).run Tryz.prog w = .ok (.tuple #[]) (w.setRow g (splice cur o (encC noC)).toArray) := by
  obtain ⟨i, hi, hz0, hz2, hz3⟩ := info_parts infoC
  have hone : ∀ v ∈ encC noC, v.oneCell' = true := by
    have := flatC_oneCell [noC]
    rwa [flatC_one] at this
  have hst := run_storeCells_at Tryz.prog g o 26 (encC noC) 0 cur.toArray w hg (by simpa [encC] using hfit) hone
  have hzc : (Builtin.zeroCells zeroC.cells 1).toList = encC noC := by
    unfold Builtin.zeroCells
    rw [Array.toList_map, Array.toList_range]
    simp [List.range_succ, encC, Value.cells]
  simp [Builtin.clear_, run_underlying under24, zeroValue, typeInfo, hi, hz0, hzc, hst, splice]
theorem splice_take {α : Type} {cur X : List α} {o n : Nat} (h : n ≤ o) (hf : o ≤ cur.length) : (splice cur o X).take n = cur.take n := by
  unfold splice
  rw [List.take_append_of_le_length (by rw [List.length_take]; omega), List.take_take]
  congr 1; omega
theorem enc_len (c : C) : (encC c).length = 7 := rfl

set_option maxHeartbeats 2000000 in
set_option maxRecDepth 100000 in
/-- At the row's end. -/
theorem less_end (xs : List C) (x : C) (k base g cap pg : Nat) (w : World) (hown : OwnC w base (.slice (some ⟨g, 0, none⟩) (k + 2) cap) xs) (hp : OwnC w 0 (.slice (some ⟨pg, 0, none⟩) 1 1) [x]) (hk : k ≤ 100000) :
    Calls Tryz.prog 51 #[.slice (some ⟨g, 0, none⟩) (k + 2) cap, .int .i64 (k : Int), .int .i64 ((k : Int) + 2), .slice (some ⟨pg, 0, none⟩) 1 1] w fun e w' => e = .returned (.slice (some ⟨g, 0, none⟩) (k + 1) cap) ∧ OwnC w' base (.slice (some ⟨g, 0, none⟩) (k + 1) cap) (xs.take k ++ [x]) ∧ w.grownBy w' (some g) := by
  obtain ⟨i, hi, hz0, hz2, hz3⟩ := info_parts infoC
  obtain ⟨cur, b1, b2, b3, b4, b5, b6, b7⟩ := own_blk hown
  have hcap : k + 2 ≤ cap ∧ cap ≤ 9223372036854775807 := ⟨by omega, by unfold maxLen at b5; omega⟩
  have hxl : (xs.take k).length = k := by rw [List.length_take]; omega
  have hfit := run_append_fits (P := Tryz.prog) w base 24 24 26 i 7 under24 hi hz2 g k cap (flatC (xs.take k)) (by
    have := own_take hown k (by omega)
    unfold OwnC at this
    rw [hxl] at this
    exact this) ⟨pg, 0, none⟩ 1 1 (flatC [x]) (by rw [flatC_length]; rfl) (hp.cells (g := pg) rfl) (flatC_oneCell _) (by omega)
  obtain ⟨W1, hrun, hown1, hgr1⟩ := hfit
  have ho1 : OwnC W1 base (.slice (some ⟨g, 0, none⟩) (k + 1) cap) (xs.take k ++ [x]) := by
    unfold OwnC
    rw [flatC_append, List.length_append, hxl]
    exact hown1
  obtain ⟨cur1, q1, q2, q3, q4, q5, q6, q7⟩ := own_blk ho1
  have hll : (xs.take k ++ [x]).length = k + 1 := by rw [List.length_append, hxl]; rfl
  have hcl : ∀ ty c, (Builtin.clear_ #[24] ty #[.slice (some ⟨g, (k + 1) * 7, none⟩) 1 c]).run Tryz.prog W1 = .ok (.tuple #[]) (W1.setRow g (splice cur1 ((k + 1) * 7) (encC noC)).toArray) := fun ty c => run_clearC W1 ty g ((k + 1) * 7) c cur1 q1 (by omega)
  have HEND : Hid (OwnC (W1.setRow g (splice cur1 ((k + 1) * 7) (encC noC)).toArray) base (.slice (some ⟨g, 0, none⟩) (k + 1) cap) (xs.take k ++ [x])) := Lib.hid (by
    have := blk_own (xs := xs.take k ++ [x]) (base := base) (cap := cap) (set_blk q1 (splice cur1 ((k + 1) * 7) (encC noC))) (by rw [length_splice _ _ _ (by rw [enc_len]; omega), q2]) (by rw [hll, splice_take (Nat.le_refl _) (by omega), ← hll, q3]) (by omega) q5 q6
    rw [hll] at this
    exact this)
  have HGR : Hid (w.grownBy (W1.setRow g (splice cur1 ((k + 1) * 7) (encC noC)).toArray) (some g)) := Lib.hid (hgr1.trans (set_gbR W1 g _))
  clear hown hp hown1 ho1 q1 q2 q3 q4 q5 q6 q7 b1 b2 b3 b4 b5 b6 b7 hgr1 hxl hll hi hz0 hz2 hz3
  obtain ⟨hc1, hc2⟩ := hcap
  have n0 : ¬ (cap = k) := by omega
  have n1 : ¬ (cap = k + 1) := by omega
  have n2 : ((k : Int) == (k : Int) + 2) = false := by rw [beq_eq_false_iff_ne]; omega
  have n3 : decide ((k : Int) + 1 < (k : Int) + 2) = true := decide_eq_true (by omega)
  have HCL := Lib.hid hcl
  clear hcl
  go_enter Tryz.func51, Tryz.ntmps51
  go_wp2_with (at_builtin; refine Lib.wpList_append_run _ rfl _ _ _ _ rfl _ _ rfl rfl _ _ hrun ?_; have hcl := HCL.out)
  go_ret
  exact ⟨rfl, HEND.out, HGR.out⟩

set_option maxHeartbeats 2000000 in
set_option maxRecDepth 100000 in
/-- Ahead of others. -/
theorem less_mid (xs : List C) (x : C) (n k base g cap pg : Nat) (w : World) (hown : OwnC w base (.slice (some ⟨g, 0, none⟩) n cap) xs) (hp : OwnC w 0 (.slice (some ⟨pg, 0, none⟩) 1 1) [x]) (_ : g ≠ pg) (hkn : k + 2 < n) (hn : n ≤ 100000) :
    Calls Tryz.prog 51 #[.slice (some ⟨g, 0, none⟩) n cap, .int .i64 (k : Int), .int .i64 ((k : Int) + 2), .slice (some ⟨pg, 0, none⟩) 1 1] w fun e w' => e = .returned (.slice (some ⟨g, 0, none⟩) (n - 1) cap) ∧ OwnC w' base (.slice (some ⟨g, 0, none⟩) (n - 1) cap) (xs.take k ++ [x] ++ xs.drop (k + 2)) ∧ w.grownBy w' (some g) := by
  obtain ⟨cur, b1, b2, b3, b4, b5, b6, b7⟩ := own_blk hown
  obtain ⟨curp, p1, p2, p3, p4, p5, p6, p7⟩ := own_blk hp
  subst b7
  have hcap : cap ≤ 9223372036854775807 := by unfold maxLen at b5; omega
  have hdl : (flatC (xs.drop (k + 2))).length = (xs.length - (k + 2)) * 7 := by rw [flatC_length, List.length_drop]
  have hpl : (flatC [x]).length = 7 := by rw [flatC_length]; rfl
  have htk : cur.take (k * 7) = flatC (xs.take k) := by rw [flatC_take, ← b3, List.take_take]; congr 1; omega
  obtain ⟨R, e2, e3⟩ := splices_down cur (flatC (xs.take k)) (flatC [x]) (flatC (xs.drop (k + 2))) (k * 7) 7 htk hpl (by rw [hdl]; omega)
  rw [show k * 7 + 7 = (k + 1) * 7 by omega] at e2
  obtain ⟨cur1, hcur1⟩ : ∃ c, c = splice cur (k * 7) (flatC [x]) := ⟨_, rfl⟩
  rw [← hcur1] at e2 e3
  obtain ⟨cur2, hcur2⟩ : ∃ c, c = splice cur1 ((k + 1) * 7) (flatC (xs.drop (k + 2))) := ⟨_, rfl⟩
  have h2l : cur2.length = cap * 7 := by rw [hcur2, length_splice _ _ _ (by rw [e3, hdl]; omega), e3, b2]
  have hl : (xs.take k ++ [x] ++ xs.drop (k + 2)).length = xs.length - 1 := by
    rw [List.length_append, List.length_append, List.length_take, List.length_drop]; simp only [List.length_cons, List.length_nil]; omega
  have hf : flatC (xs.take k ++ [x] ++ xs.drop (k + 2)) = flatC (xs.take k) ++ flatC [x] ++ flatC (xs.drop (k + 2)) := by rw [flatC_append, flatC_append]
  have h2t : cur2.take ((xs.length - 1) * 7) = flatC (xs.take k ++ [x] ++ xs.drop (k + 2)) := by
    rw [hcur2, e2, hf]
    have h9 : (xs.length - 1) * 7 = (flatC (xs.take k) ++ flatC [x] ++ flatC (xs.drop (k + 2))).length := by rw [← hf, flatC_length, hl]
    rw [h9, List.take_left]
  -- the first copy
  have hcp1 : ∀ ty dl dc, 1 ≤ dl → (Builtin.copy_ #[24, 24] ty #[.slice (some ⟨g, k * 7, none⟩) dl dc, .slice (some ⟨pg, 0, none⟩) 1 1]).run Tryz.prog w.drew = .ok (goInt (Nat.min 1 dl)) (w.drew.setRow g cur1.toArray) := fun ty dl dc hd => by
    rw [hcur1]
    exact run_copyC w.drew ty g (k * 7) dl dc _ 1 1 cur (flatC [x]) b1 (by rw [hpl, show Nat.min 1 dl = 1 from Nat.min_eq_left hd]) (hp.cells (w := w) (g := pg) rfl) (by rw [hpl]; omega) (flatC_oneCell _)
  obtain ⟨W1, hW1⟩ : ∃ W1, W1 = w.drew.setRow g cur1.toArray := ⟨_, rfl⟩
  rw [← hW1] at hcp1
  have s1 : CBlk W1 g cur1 := by rw [hW1]; exact set_blk (w := w.drew) b1 cur1
  have hG1 : w.grownBy W1 (some g) := by rw [hW1]; exact World.grownBy.trans (b := w.drew) ⟨rfl, rfl, rfl, Nat.le_refl _, fun _ _ _ => rfl⟩ (set_gbR w.drew g _)
  have hsrc : ∀ j v, (flatC (xs.drop (k + 2)))[j]? = some v → W1.drew.cell? ((⟨g, (k + 2) * 7, none⟩ : Addr).add j) = some v := fun j v hj => by
    have h1 : W1.drew.cell? ⟨g, (k + 2) * 7 + j, none⟩ = cur1[(k + 2) * 7 + j]? := s1.cell _
    rw [Go.WideShapes.add_plain]
    refine h1.trans ?_
    have h2 := drop_cells (w := w) b1 b3 (k + 2) j v hj
    rw [Go.WideShapes.add_plain, b1.cell] at h2
    refine Eq.trans ?_ h2
    rw [hcur1]
    unfold splice
    have h3 : (k + 2) * 7 + j < cur.length := (List.getElem?_eq_some_iff.1 h2).1
    rw [List.getElem?_append_right (by rw [List.length_take]; omega), List.length_take, List.getElem?_append_right (by rw [hpl]; omega), hpl, List.getElem?_drop]
    congr 1; omega
  have hcp2 : ∀ ty dl dc sc, dl = xs.length - (k + 2) → (Builtin.copy_ #[24, 24] ty #[.slice (some ⟨g, (k + 1) * 7, none⟩) dl dc, .slice (some ⟨g, (k + 2) * 7, none⟩) (xs.length - (k + 2)) sc]).run Tryz.prog W1.drew = .ok (goInt (Nat.min (xs.length - (k + 2)) dl)) (W1.drew.setRow g cur2.toArray) := fun ty dl dc sc hd => by
    subst hd
    rw [hcur2]
    exact run_copyC W1.drew ty g ((k + 1) * 7) _ dc _ _ sc cur1 (flatC (xs.drop (k + 2))) s1 (by rw [hdl, show Nat.min (xs.length - (k + 2)) (xs.length - (k + 2)) = xs.length - (k + 2) from Nat.min_self _]) hsrc (by rw [hdl, e3]; omega) (flatC_oneCell _)
  obtain ⟨W2, hW2⟩ : ∃ W2, W2 = W1.drew.setRow g cur2.toArray := ⟨_, rfl⟩
  rw [← hW2] at hcp2
  have s2 : CBlk W2 g cur2 := by rw [hW2]; exact set_blk (w := W1.drew) s1 cur2
  have hG2 : w.grownBy W2 (some g) := by rw [hW2]; exact hG1.trans (World.grownBy.trans (b := W1.drew) ⟨rfl, rfl, rfl, Nat.le_refl _, fun _ _ _ => rfl⟩ (set_gbR W1.drew g _))
  have hcl : ∀ ty c o l, o = (xs.length - 1) * 7 → l = 1 → (Builtin.clear_ #[24] ty #[.slice (some ⟨g, o, none⟩) l c]).run Tryz.prog W2 = .ok (.tuple #[]) (W2.setRow g (splice cur2 ((xs.length - 1) * 7) (encC noC)).toArray) := fun ty c o l ho hl1 => by
    subst ho; subst hl1
    exact run_clearC W2 ty g ((xs.length - 1) * 7) c cur2 s2 (by omega)
  have HEND : Hid (OwnC (W2.setRow g (splice cur2 ((xs.length - 1) * 7) (encC noC)).toArray) base (.slice (some ⟨g, 0, none⟩) (xs.length - 1) cap) (xs.take k ++ [x] ++ xs.drop (k + 2))) := Lib.hid (by
    have := blk_own (xs := xs.take k ++ [x] ++ xs.drop (k + 2)) (base := base) (cap := cap) (set_blk s2 (splice cur2 ((xs.length - 1) * 7) (encC noC))) (by rw [length_splice _ _ _ (by rw [enc_len]; omega), h2l]) (by rw [hl, splice_take (Nat.le_refl _) (by omega), h2t]) (by omega) b5 b6
    rw [hl] at this
    exact this)
  have HGR : Hid (w.grownBy (W2.setRow g (splice cur2 ((xs.length - 1) * 7) (encC noC)).toArray) (some g)) := Lib.hid (hG2.trans (set_gbR W2 g _))
  have HCP1 := Lib.hid hcp1
  have HCP2 := Lib.hid hcp2
  have HCL := Lib.hid hcl
  clear hcp1 hcp2 hcl hW1 hW2 hcur1 hcur2 b1 b2 b3 b5 b6 p1 p2 p3 p4 p5 p6 p7 hdl hpl htk e2 e3 h2l hl hf h2t s1 s2 hsrc hG1 hG2 hown hp
  have n0 : ¬ (cap = k) := by omega
  have n1 : ¬ (cap = k + 1) := by omega
  have n5 : ¬ (cap = k + 2) := by omega
  have n7 : ¬ (cap = k + 1 + (xs.length - (k + 2))) := by omega
  have n2 : ((k : Int) == (k : Int) + 2) = false := by rw [beq_eq_false_iff_ne]; omega
  have n3 : ((k : Int) + 2 == (xs.length : Int)) = false := by rw [beq_eq_false_iff_ne]; omega
  have n4 : decide ((k : Int) + 1 ≤ (k : Int) + 2) = true := decide_eq_true (by omega)
  have n6 : decide ((cap : Int) < (k : Int) + 1 + ((xs.length - (k + 2) : Nat) : Int)) = false := decide_eq_false (by omega)
  have hw1 : IntKind.i64.wrap ((k : Int) + 1) = (k : Int) + 1 := wrap_id (by omega)
  have hw2 : IntKind.i64.wrap ((k : Int) + 2) = (k : Int) + 2 := wrap_id (by omega)
  have hb1 : (0 : Int) ≤ (k : Int) + 1 := by omega
  have hb6 : (0 : Int) ≤ (k : Int) + 2 := by omega
  have htn : ((k : Int) + 1).toNat = k + 1 := by omega
  have htn2 : ((k : Int) + 2).toNat = k + 2 := by omega
  have hb3 : (k : Int) + 1 ≤ (k : Int) + 1 + ((xs.length - (k + 2) : Nat) : Int) := by omega
  have hb4 : (k : Int) ≤ (k : Int) + 1 + ((xs.length - (k + 2) : Nat) : Int) := by omega
  have hb5 : (k : Int) + 2 ≤ (xs.length : Int) := by omega
  have hb7 : (k : Int) + 1 + ((xs.length - (k + 2) : Nat) : Int) ≤ (xs.length : Int) := by omega
  have hcp1 := fun ty dc => HCP1.out ty (k + 1 + (xs.length - (k + 2)) - k) dc (by omega)
  go_enter Tryz.func51, Tryz.ntmps51
  go_wp2
  go_region
  go_wp2
  have hcp2 := fun ty dc sc => HCP2.out ty (xs.length - (k + 2)) dc sc rfl
  have hcp3 := fun ty dc sc => HCP2.out ty (k + 1 + (xs.length - (k + 2)) - (k + 1)) dc sc (by omega)
  have hcl := fun ty c => HCL.out ty c ((k + 1 + (xs.length - (k + 2))) * 7) (xs.length - (k + 1 + (xs.length - (k + 2)))) (by omega) (by omega)
  go_region
  go_wp2
  go_ret
  have hm1 : k + 1 + (xs.length - (k + 2)) = xs.length - 1 := by omega
  exact ⟨by rw [hm1]; rfl, HEND.out, HGR.out⟩

theorem less_any (xs : List C) (x : C) (n k base g cap pg : Nat) (w : World) (hown : OwnC w base (.slice (some ⟨g, 0, none⟩) n cap) xs) (hp : OwnC w 0 (.slice (some ⟨pg, 0, none⟩) 1 1) [x]) (hne : g ≠ pg) (hkn : k + 2 ≤ n) (hn : n ≤ 100000) :
    Calls Tryz.prog 51 #[.slice (some ⟨g, 0, none⟩) n cap, .int .i64 (k : Int), .int .i64 ((k : Int) + 2), .slice (some ⟨pg, 0, none⟩) 1 1] w fun e w' => e = .returned (.slice (some ⟨g, 0, none⟩) (n - 1) cap) ∧ OwnC w' base (.slice (some ⟨g, 0, none⟩) (n - 1) cap) (xs.take k ++ [x] ++ xs.drop (k + 2)) ∧ w.grownBy w' (some g) := by
  rcases Nat.lt_or_ge (k + 2) n with h | h
  · exact less_mid xs x n k base g cap pg w hown hp hne h hn
  · obtain rfl : n = k + 2 := by omega
    have hl := hown.row.len
    have hd : xs.drop (k + 2) = [] := List.drop_eq_nil_of_le (by omega)
    rw [hd, List.append_nil]
    exact less_end xs x k base g cap pg w hown hp (by omega)
end Go.Proofs.YtbbjnimadnbmnaaGreat
/- slices.Repeat of one number. -/
namespace Go.Proofs.YtbbjnimadnbmnaaGreat
open Go.RowKit

theorem repl_splice (q : Int) (n k m : Nat) (hk : k + m ≤ n) : splice (ints (List.replicate k q ++ List.replicate (n - k) 0)) k (ints (List.replicate m q)) = ints (List.replicate (k + m) q ++ List.replicate (n - (k + m)) 0) := by
  unfold splice
  simp only [ints_append, ints_rep]
  rw [List.length_replicate, List.take_append_of_le_length (by simp), List.take_of_length_le (by simp), List.drop_append]
  simp only [List.length_replicate, List.drop_replicate]
  rw [show k - (k + m) = 0 by omega, show n - k - (k + m - k) = n - (k + m) by omega, List.replicate_zero, List.nil_append, ← List.append_assoc, List.replicate_append_replicate]
theorem blk_copy {w : World} {g : Nat} {l : List Int} (h : IBlk w g l) (ty : TypeId) (off dLen dCap : Nat) (b o sLen sCap : Nat) (cs : List Int) (hn : cs.length = Nat.min sLen dLen) (hsrc : ∀ (j : Nat) (m : Int), cs[j]? = some m → w.cell? ⟨b, o + j, none⟩ = some (.int .i64 m)) (hfit : off + cs.length ≤ l.length) (B : Nat) (w0 : World) (hb : Below B w0 w) (hBg : B ≤ g) :
    ∃ W, (Builtin.copy_ #[52, 52] ty #[.slice (some ⟨g, off, none⟩) dLen dCap, .slice (some ⟨b, o, none⟩) sLen sCap]).run Tryz.prog w = .ok (.int .i64 cs.length) W ∧ W.heap[g]? = some (.cells (splice (ints l) off (ints cs)).toArray 3 (0, 0)) ∧ Below B w0 W := by
  have hsz : ((Tryz.prog.info? 3).map (·.size)) = some 1 := by kernel_rfl
  have hr := run_copy_row (P := Tryz.prog) w 52 52 ty 3 g off dLen dCap ⟨b, o, none⟩ sLen sCap (ints l).toArray 3 (ints cs) Tryz.underlying52 hsz h (by rw [ints_length]; exact hn) (fun j u hu => ?_) (by simp [ints_length]; exact hfit) (ints_one cs)
  · rw [ints_length] at hr
    refine ⟨_, hr, ?_, below_setRow hb hBg _⟩
    rw [setRow_heap w g _ _ 3 _ h]
    simp [splice, ints_length]
  · unfold ints at hu
    rw [List.getElem?_map, Option.map_eq_some_iff] at hu
    obtain ⟨m, hm, rfl⟩ := hu
    rw [Go.WideShapes.add_plain]
    exact hsrc j m hm

set_option maxRecDepth 100000 in
theorem repeat_any (q : Int) (n : Nat) (v : Value) (w : World) (hv : Row w v (ints [q])) (hn : 1 ≤ n) (hn2 : n ≤ 1000000) :
    Calls Tryz.prog 107 #[v, .int .i64 n] w fun e w' => ∃ g, e = .returned (.slice (some ⟨g, 0, none⟩) n n) ∧ w.heap.size ≤ g ∧ IBlk w' g (List.replicate n q) ∧ Below w.heap.size w w' := by
  obtain ⟨a, cap, rfl⟩ := row_shape hv
  have HV := Lib.hid hv
  clear hv
  have HM : Hid (Calls Tryz.prog 112 #[.int .u64 1, .int .u64 n] w fun e w' => e = .returned (.tuple #[.int .u64 0, .int .u64 n]) ∧ w' = w) := Lib.hid (by
    have := Tryz.bits_Mul 1 n (by omega) (by omega) w
    rw [Nat.one_mul, Nat.div_eq_of_lt (by omega), Nat.mod_eq_of_lt (by omega)] at this
    exact this)
  have hmk := made_ints n (by omega)
  obtain ⟨b, o, rfl, hf⟩ := int_at HV.out (by simp)
  have HQ := Lib.hid (hf 0 q rfl)
  clear hf
  simp only [List.length_singleton]
  go_enter Tryz.func107, Tryz.ntmps107
  go_wp2_with fail
  refine HM.out.mono ?_
  rintro e w2 ⟨rfl, hw2⟩
  rw [hw2]
  clear hw2 w2
  have N0 := Lib.hid (show IBlk (w.alloc (.cells (ints (List.replicate n 0)).toArray 3)) w.heap.size (List.replicate n 0) from heap_alloc_new w _)
  have B0 : Hid (Below w.heap.size w (w.alloc (.cells (ints (List.replicate n 0)).toArray 3))) := Lib.hid ((Below.refl _ _).alloc (Nat.le_refl _) _)
  obtain ⟨W1, hcp, hW1, hBW1⟩ := blk_copy N0.out 3 0 n n b o 1 cap [q] (by show 1 = min 1 n; omega) (fun j m hm => by
    cases j with
    | zero => simp at hm; subst hm; exact (B0.out.cell (lt_of_cell HQ.out)).trans HQ.out
    | succ j => simp at hm) (by simp; omega) w.heap.size w B0.out (Nat.le_refl _)
  have HN1 : Hid (IBlk W1 w.heap.size (List.replicate 1 q ++ List.replicate (n - 1) 0)) := Lib.hid (by
    have := repl_splice q n 0 1 (by omega)
    simp only [List.replicate_zero, List.nil_append, Nat.sub_zero, Nat.zero_add, show List.replicate 1 q = [q] from rfl] at this
    rw [this] at hW1
    exact hW1)
  have HB1 := Lib.hid hBW1
  clear hW1 hBW1
  have hcp' : (Builtin.copy_ #[52, 52] 3 #[.slice (some ⟨w.heap.size, 0, none⟩) n n, .slice (some ⟨b, o, none⟩) 1 cap]).run Tryz.prog (w.alloc (.cells (ints (List.replicate n 0)).toArray 3)) = .ok (.int .i64 1) W1 := hcp
  clear hcp
  go_wp2
  clear hcp' hmk
  go_loopg [8] n (fun g i wr => ∃ k : Nat, n - k ≤ g ∧ 1 ≤ k ∧ k ≤ n ∧ i = .int .i64 k ∧ IBlk wr w.heap.size (List.replicate k q ++ List.replicate (n - k) 0) ∧ Below w.heap.size w wr)
  case atStart => exact ⟨1, by omega, by omega, by omega, rfl, HN1.out, HB1.out⟩
  case round =>
    obtain ⟨k, hg, hk1, hk, rfl, hblk, hb⟩ := hrel
    have HG := Lib.hid hg
    have HK := Lib.hid hblk
    have HB := Lib.hid hb
    clear hg hblk hb
    by_cases hlt : k < n
    · have hlti : (k : Int) < (n : Int) := by omega
      have hne : (n = k) = False := by simp; omega
      obtain ⟨m, hm⟩ : ∃ m, m = min k (n - k) := ⟨_, rfl⟩
      have KD := Lib.hid (show IBlk wr.drew w.heap.size (List.replicate k q ++ List.replicate (n - k) 0) from HK.out)
      obtain ⟨W2, hcp, hW2, hBW2⟩ := blk_copy KD.out 3 k (n - k) (n - k) w.heap.size 0 k n (List.replicate m q) (by rw [List.length_replicate]; exact hm) (fun j x hx => by
        rw [Nat.zero_add]
        refine KD.out.cell ?_
        have hj : j < m := by
          rcases Nat.lt_or_ge j m with h | h
          · exact h
          · rw [List.getElem?_eq_none (by simpa using h)] at hx; cases hx
        rw [List.getElem?_append_left (by simp; omega)]
        rw [List.getElem?_replicate, if_pos hj] at hx
        rw [List.getElem?_replicate, if_pos (by omega)]; exact hx) (by simp; omega) w.heap.size w HB.out.drew (Nat.le_refl _)
      rw [repl_splice q n k m (by omega)] at hW2
      rw [List.length_replicate] at hcp
      have HN2 : Hid (IBlk W2 w.heap.size (List.replicate (k + m) q ++ List.replicate (n - (k + m)) 0)) := Lib.hid hW2
      have HB2 := Lib.hid hBW2
      clear hW2 hBW2
      go_wp2
      go_region
      go_wp2
      go_roundg (gk - 1)
      case measure => have := HG.out; omega
      case rel => exact ⟨k + m, by have := HG.out; omega, by omega, by omega, by rw [hm]; go_num, HN2.out, HB2.out⟩
    · obtain rfl : k = n := by omega
      have hkl : ((k : Int) < (k : Int)) = False := by simp
      go_wp2
      go_ret
      refine ⟨w.heap.size, rfl, Nat.le_refl _, ?_, HB.out⟩
      have := HK.out
      rw [Nat.sub_self, List.replicate_zero, List.append_nil] at this
      exact this
end Go.Proofs.YtbbjnimadnbmnaaGreat
/- slices.Repeat, not once. -/
namespace Go.Proofs.YtbbjnimadnbmnaaGreat
open Go.RowKit

set_option maxRecDepth 100000 in
theorem repeat_zero (q : Int) (v : Value) (w : World) (hv : Row w v (ints [q])) :
    Calls Tryz.prog 107 #[v, .int .i64 0] w fun e w' => e = .returned (.slice (some ⟨w.heap.size, 0, none⟩) 0 0) ∧ Below w.heap.size w w' := by
  obtain ⟨a, cap, rfl⟩ := row_shape hv
  have HV := Lib.hid hv
  clear hv
  have HM : Hid (Calls Tryz.prog 112 #[.int .u64 1, .int .u64 0] w fun e w' => e = .returned (.tuple #[.int .u64 0, .int .u64 0]) ∧ w' = w) := Lib.hid (by
    have := Tryz.bits_Mul 1 0 (by omega) (by omega) w
    simpa using this)
  have hmk := made_ints 0 (by omega)
  obtain ⟨b, o, rfl, hf⟩ := int_at HV.out (by simp)
  clear hf
  simp only [List.length_singleton]
  go_enter Tryz.func107, Tryz.ntmps107
  go_wp2_with fail
  refine HM.out.mono ?_
  rintro e w2 ⟨rfl, hw2⟩
  rw [hw2]
  clear hw2 w2
  have N0 := Lib.hid (show IBlk (w.alloc (.cells (ints (List.replicate 0 0)).toArray 3)) w.heap.size (List.replicate 0 0) from heap_alloc_new w _)
  have B0 : Hid (Below w.heap.size w (w.alloc (.cells (ints (List.replicate 0 0)).toArray 3))) := Lib.hid ((Below.refl _ _).alloc (Nat.le_refl _) _)
  obtain ⟨W1, hcp, hW1, hBW1⟩ := blk_copy N0.out 3 0 0 0 b o 1 cap [] (by show 0 = min 1 0; omega) (fun j m hm => by simp at hm) (by simp) w.heap.size w B0.out (Nat.le_refl _)
  have HB1 := Lib.hid hBW1
  clear hW1 hBW1
  have hmk' : (Instr.makeSlice 52 (.int .i64 0) (.int .i64 0)).run Tryz.prog w = .ok (.slice (some ⟨w.heap.size, 0, none⟩) 0 0) (w.alloc (.cells #[] 3)) := hmk w
  have hcp' : (Builtin.copy_ #[52, 52] 3 #[.slice (some ⟨w.heap.size, 0, none⟩) 0 0, .slice (some ⟨b, o, none⟩) 1 cap]).run Tryz.prog (w.alloc (.cells #[] 3)) = .ok (.int .i64 0) W1 := hcp
  clear hcp hmk
  go_wp2
  clear hcp' hmk'
  go_loopg [8] 1 (fun g i wr => i = .int .i64 0 ∧ wr = W1)
  case atStart => exact ⟨rfl, rfl⟩
  case round =>
    obtain ⟨rfl, hw⟩ := hrel
    rw [hw]
    clear hw wr
    go_wp2
    go_ret
    exact ⟨rfl, HB1.out⟩
end Go.Proofs.YtbbjnimadnbmnaaGreat
