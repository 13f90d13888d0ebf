/- Texts of this seat, 3 in one file. -/
import Derived.Test.YtbbjnimadnbmnaaGreatG05
import Derived.Test.YtbbjnimadnbmnaaGreatG04
import Derived.Laws.CopyRow
import Derived.Laws.CopyOwn
import Derived.Lib.AppendZerosOnto
import Derived.Lib.Overlaps
import Derived.Deep.RegionLaw
import Derived.Laws.Externs
/- Cells copied within rows of the call's own. -/
namespace Go.Proofs.YtbbjnimadnbmnaaGreat
open Go.RowKit

/-- A row's block, whole. -/
def CBlk (w : World) (g : Nat) (cur : List Value) : Prop := w.heap[g]? = some (.cells cur.toArray 26 (0, 0))
theorem CBlk.up {w w' : World} {g : Nat} {cur : List Value} (h : CBlk w g cur) (hb : Below w.heap.size w w') : CBlk w' g cur := (hb.block g (lt_of_block h)).trans h
theorem CBlk.cell {w : World} {g : Nat} {cur : List Value} (h : CBlk w g cur) (o : Nat) : w.cell? ⟨g, o, none⟩ = cur[o]? := by
  have h' : w.heap[g]? = some (.cells cur.toArray 26 (0, 0)) := h
  simp [World.cell?, h']
theorem CBlk.free {w : World} {g : Nat} {cur : List Value} (h : CBlk w g cur) (o : Nat) : w.frozen? ⟨g, o, none⟩ = false := by
  have h' : w.heap[g]? = some (.cells cur.toArray 26 (0, 0)) := h
  simp [World.frozen?, h']
theorem CBlk.shape {w : World} {g : Nat} {cur : List Value} (h : CBlk w g cur) : w.shape? g = some (26, cur.length) := by
  have h' : w.heap[g]? = some (.cells cur.toArray 26 (0, 0)) := h
  simp [World.shape?, h']
theorem own_blk {w : World} {base g n cap : Nat} {xs : List C} (h : OwnC w base (.slice (some ⟨g, 0, none⟩) n cap) xs) : ∃ cur, CBlk w g cur ∧ cur.length = cap * 7 ∧ cur.take (xs.length * 7) = flatC xs ∧ xs.length ≤ cap ∧ cap ≤ maxLen ∧ base ≤ g ∧ n = xs.length := by
  have hn := h.row.len
  rcases h.2 with ⟨h0, -⟩ | ⟨g', cap', cur, h0, hb, hg, hnc, hcm, hcs, ht⟩
  · cases h0
  · cases h0
    exact ⟨cur.toList, by simpa [CBlk] using hg, by simpa using hcs, ht, hnc, hcm, hb, rfl⟩
theorem blk_own {w : World} {base g cap : Nat} {xs : List C} {cur : List Value} (h : CBlk w g cur) (h1 : cur.length = cap * 7) (h2 : cur.take (xs.length * 7) = flatC xs) (h3 : xs.length ≤ cap) (h4 : cap ≤ maxLen) (h5 : base ≤ g) : OwnC w base (.slice (some ⟨g, 0, none⟩) xs.length cap) xs :=
  ⟨flatC_length xs, .inr ⟨g, cap, cur.toArray, rfl, h5, h, h3, h4, by simpa using h1, by simpa using h2⟩⟩
theorem flatC_take (xs : List C) (k : Nat) : flatC (xs.take k) = (flatC xs).take (k * 7) := by
  rcases Nat.lt_or_ge k xs.length with hk | hk
  · have h := flatC_append (xs.take k) (xs.drop k)
    rw [List.take_append_drop] at h
    have hl : (flatC (xs.take k)).length = k * 7 := by rw [flatC_length, List.length_take]; omega
    rw [h, ← hl, List.take_left]
  · rw [List.take_of_length_le hk, List.take_of_length_le (by rw [flatC_length]; omega)]
theorem flatC_drop (xs : List C) (k : Nat) : flatC (xs.drop k) = (flatC xs).drop (k * 7) := by
  rcases Nat.lt_or_ge k xs.length with hk | hk
  · have h := flatC_append (xs.take k) (xs.drop k)
    rw [List.take_append_drop] at h
    have hl : (flatC (xs.take k)).length = k * 7 := by rw [flatC_length, List.length_take]; omega
    rw [h, ← hl, List.drop_left]
  · rw [List.drop_eq_nil_of_le hk, List.drop_eq_nil_of_le (by rw [flatC_length]; omega)]; rfl
/-- The first k of them. -/
theorem own_take {w : World} {base g n cap : Nat} {xs : List C} (h : OwnC w base (.slice (some ⟨g, 0, none⟩) n cap) xs) (k : Nat) (hk : k ≤ xs.length) : OwnC w base (.slice (some ⟨g, 0, none⟩) k cap) (xs.take k) := by
  obtain ⟨cur, h1, h2, h3, h4, h5, h6, -⟩ := own_blk h
  have hl : (xs.take k).length = k := by rw [List.length_take]; omega
  have := blk_own (xs := xs.take k) h1 h2 (by rw [hl, flatC_take, ← h3, List.take_take]; congr 1; omega) (by omega) h5 h6
  rw [hl] at this
  exact this

theorem under24 : Tryz.prog.underlying 24 = some (.slice 26) := Tryz.underlying24
/-- copy, where dst is a place in a row's block: the cells go over. -/
theorem run_copyC (w : World) (ty : TypeId) (g o dLen dCap : Nat) (a : Addr) (sLen sCap : Nat) (cur cs : List Value)
    (hg : CBlk w g cur) (hn : cs.length = Nat.min sLen dLen * 7) (hsrc : ∀ j v, cs[j]? = some v → w.cell? (a.add j) = some v) (hfit : o + cs.length ≤ cur.length) (h1 : ∀ v ∈ cs, v.oneCell' = true) :
    (Builtin.copy_ #[24, 24] ty #[.slice (some ⟨g, o, none⟩) dLen dCap, .slice (some a) sLen sCap]).run Tryz.prog w = .ok (goInt (Nat.min sLen dLen)) (w.setRow g (splice cur o cs).toArray) := by
  have hl := run_loadCells_list (P := Tryz.prog) w a cs hsrc
  have hst := run_storeCells_at Tryz.prog g o 26 cs 0 cur.toArray w hg (by simpa using hfit) h1
  obtain ⟨i, hi, hz0, hz2, hz3⟩ := info_parts infoC
  simp [Builtin.copy_, run_underlying under24, Builtin.lenOf, Builtin.firstCells, sizeOf, typeInfo, hi, hz2, ← hn, hl, hst, splice]
theorem set_blk {w : World} {g : Nat} {cur : List Value} (h : CBlk w g cur) (cur' : List Value) : CBlk (w.setRow g cur'.toArray) g cur' := setRow_heap w g _ _ _ _ h
theorem set_gbR (w : World) (g : Nat) (cs : Array Value) : w.grownBy (w.setRow g cs) (some g) := ⟨rfl, rfl, rfl, by simp [World.setRow], fun k _ hk => setRow_other w g k _ (fun e => hk (by rw [e]))⟩

theorem wpList_copyC {w : World} {ops : Array Oper} {rest : List Oper} {o : Oper} {a : Act} {Q : Exit → Act → World → Prop} (hgd : o.guard = none) (d s : Operand)
    (ho : o.op = .call { callee := .builtin .copy, args := #[d, s], argTypes := #[24, 24] }) (v u : Value) (hd : a.eval d = v) (hs : a.eval s = u) {v' : Value} {w' : World}
    (hr : (Builtin.copy_ #[24, 24] o.type #[v, u]).run Tryz.prog w = .ok v' w') (h : wpList Tryz.prog ops Q rest (a.put o.dst v') w') : wpList Tryz.prog ops Q (o :: rest) a w := by
  refine wpList_plain hgd fun K hK => ?_
  unfold Oper.wp
  simp [execOp, ho, resolve, invoke, builtin, hd, hs, hr, Result.andThen]
  exact hK _ _ h
theorem step_copyC {w : World} {ops : Array Oper} {o : Oper} {a : Act} {K : Act → World → Prop} {Q : Exit → Act → World → Prop} {E : Prop} (hgd : o.guard = none) (d s : Operand)
    (ho : o.op = .call { callee := .builtin .copy, args := #[d, s], argTypes := #[24, 24] }) (v u : Value) (hd : a.eval d = v) (hs : a.eval s = u) {v' : Value} {w' : World}
    (hr : (Builtin.copy_ #[24, 24] o.type #[v, u]).run Tryz.prog w = .ok v' w') (h : K (a.put o.dst v') w') :
    if Region.wanted o (yielded ops a.tmps) = true then Oper.wp Tryz.prog o a w K Q else E := by
  have hw : Region.wanted o (yielded ops a.tmps) = true := by simp [Region.wanted, hgd]
  rw [if_pos hw]
  unfold Oper.wp
  simp [execOp, ho, resolve, invoke, builtin, hd, hs, hr, Result.andThen]
  exact h

/-- append(s[:k], make([]Cell, m)...), where there is no room. -/
theorem run_makeC (w : World) (ty : TypeId) (g k cap m : Nat) (xs : List C) (hown : OwnC w 0 (.slice (some ⟨g, 0, none⟩) k cap) xs) (h0 : 0 < m) (hg : cap < k + m) (hb : k + m ≤ 1954687338211) :
    ∃ cap' cur w', (Builtin.append_ #[24, 3] ty #[.slice (some ⟨g, 0, none⟩) k cap, .int .i64 m]).run Tryz.prog w = .ok (.slice (some ⟨w.heap.size, 0, none⟩) (k + m) cap') w' ∧
      CBlk w' w.heap.size cur ∧ cur.length = cap' * 7 ∧ k + m ≤ cap' ∧ cap' ≤ maxLen ∧ cur.take (k * 7) = flatC xs ∧ w.grownBy w' none := by
  obtain ⟨i, hi, hz0, hz2, hz3⟩ := info_parts infoC
  obtain ⟨cur0, b1, b2, b3, b4, b5, -, rfl⟩ := own_blk hown
  have hc : ∀ j v, (flatC xs)[j]? = some v → w.drew.cell? ((⟨g, 0, none⟩ : Addr).add j) = some v := fun j v hj => (hown.cells (g := g) rfl) j v hj
  have hold : (Builtin.firstCells i.size xs.length (.slice (some ⟨g, 0, none⟩) xs.length cap)).run Tryz.prog w.drew = .ok (flatC xs).toArray w.drew := by
    rw [hz2]
    exact run_firstCells_some w.drew 7 xs.length _ _ _ _ (flatC_length xs) hc
  have hr := Lib.run_append_grow_zeros (P := Tryz.prog) w 24 3 ty 26 i zeroC .i64 .i64 under24 Tryz.underlying3 hi hz0 (some ⟨g, 0, none⟩) xs.length cap (flatC xs) hold m h0 (by rw [hz2]; decide) hg (by omega) (by rw [hz3]; omega) (by
    rw [hz3]
    exact growslice_fits hg (by omega))
  refine ⟨_, ((flatC xs).toArray ++ Builtin.zeroCells zeroC.cells m ++ Builtin.zeroCells zeroC.cells (grownCap w (xs.length + m) cap 26 - (xs.length + m))).toList, _, hr, ?_, ?_, grownCap_ge w _ _ _, grownCap_le_maxLen w _ _ _ (by unfold maxLen; omega), ?_, ⟨rfl, rfl, rfl, by simp, fun j hj _ => heap_alloc_old w.drew _ hj⟩⟩
  · unfold CBlk
    rw [Array.toArray_toList]
    exact heap_alloc_new w.drew _
  · have hge := grownCap_ge w (xs.length + m) cap 26
    rw [Array.length_toList, Array.size_append, Array.size_append, size_zeroCells, size_zeroCells, List.size_toArray, flatC_length]
    show xs.length * 7 + m * 7 + (_ - (xs.length + m)) * 7 = _
    omega
  · have hl : xs.length * 7 = (flatC xs).length := (flatC_length xs).symm
    rw [Array.toList_append, Array.toList_append, List.append_assoc, hl]
    exact List.take_left
end Go.Proofs.YtbbjnimadnbmnaaGreat
/- One cell gives way to two, at a row's end: slices.Replace. -/
namespace Go.Proofs.YtbbjnimadnbmnaaGreat
open Go.RowKit

set_option maxHeartbeats 2000000 in
set_option maxRecDepth 100000 in
theorem repl_end (xs ps : List C) (k base g cap : Nat) (pa : Option Addr) (pcap : Nat) (w : World) (hown : OwnC w base (.slice (some ⟨g, 0, none⟩) (k + 1) cap) xs) (hp : CRow w (.slice pa 2 pcap) ps) (hps : ps.length = 2) (hk : k ≤ 100000) :
    Calls Tryz.prog 51 #[.slice (some ⟨g, 0, none⟩) (k + 1) cap, .int .i64 (k : Int), .int .i64 ((k : Int) + 1), .slice pa 2 pcap] w fun e w' => ∃ g' cap', e = .returned (.slice (some ⟨g', 0, none⟩) (k + 2) cap') ∧ OwnC w' base (.slice (some ⟨g', 0, none⟩) (k + 2) cap') (xs.take k ++ ps) ∧ w.grownBy w' (some g) ∧ (g' = g ∨ g' = w.heap.size) := by
  obtain ⟨cur, b1, b2, b3, b4, b5, b6, b7⟩ := own_blk hown
  have hgs : g < w.heap.size := lt_of_block b1
  have hcap : k + 1 ≤ cap ∧ cap ≤ 9223372036854775807 := ⟨by omega, by unfold maxLen at b5; omega⟩
  have HT := Lib.hid (own_take hown k (by omega))
  have HP := Lib.hid hp
  have HL : Hid ((xs.take k ++ ps).length = k + 2) := Lib.hid (by rw [List.length_append, List.length_take, hps]; omega)
  have HPL := Lib.hid hps
  have HXL : Hid ((xs.take k).length = k) := Lib.hid (by rw [List.length_take]; omega)
  have HBB : Hid (base ≤ w.heap.size) := Lib.hid (by omega)
  have HKK := Lib.hid hk
  clear hown hp hps b1 b2 b3 b4 b5 b6 b7
  obtain ⟨hc1, hc2⟩ := hcap
  have n1 : ¬ (cap = k) := by omega
  have n2 : ((k : Int) == (k : Int) + 1) = false := by rw [beq_eq_false_iff_ne]; omega
  have n3 : decide ((k : Int) + 2 < (k : Int) + 1) = false := decide_eq_false (by omega)
  go_enter Tryz.func51, Tryz.ntmps51
  go_wp2_with (at_builtin; refine wpList_append_cells rfl _ _ rfl base (.slice (some ⟨g, 0, none⟩) k cap) (.slice pa 2 pcap) (xs.take k) ps rfl HT.out rfl HP.out (by rw [HPL.out]; decide) (by have := HXL.out; have := HPL.out; have := HKK.out; omega) w ((Below.refl _ _).mono HBB.out) HBB.out ?_; intro g' cap' w' hown' hb' hgr' hpl'; rw [HL.out] at hown' ⊢; have HO := Lib.hid hown'; have HG := Lib.hid hgr'; have HPL' := Lib.hid hpl'; clear hown' hb' hgr' hpl')
  go_ret
  refine ⟨_, _, rfl, HO.out, HG.out, ?_⟩
  rcases HPL'.out with h | h
  · left; exact (Option.some.inj h).symm
  · right; exact h
end Go.Proofs.YtbbjnimadnbmnaaGreat
/- One cell gives way to two, where there is room: slices.Replace. -/
namespace Go.Proofs.YtbbjnimadnbmnaaGreat
open Go.RowKit

theorem splice_at {α : Type} {X Y Z Y' : List α} {o : Nat} (ho : X.length = o) (hy : Y'.length = Y.length) : splice (X ++ (Y ++ Z)) o Y' = X ++ (Y' ++ Z) := by
  subst ho
  unfold splice
  rw [List.take_left, hy, ← List.append_assoc X Y Z, ← List.length_append, List.drop_left]
theorem parts3 {α : Type} (cur A : List α) (a p d : Nat) (hA : cur.take a = A) (hlen : a + p + d ≤ cur.length) : ∃ R1 R2 R3, cur = A ++ (R1 ++ (R2 ++ R3)) ∧ A.length = a ∧ R1.length = p ∧ R2.length = d := by
  refine ⟨(cur.drop a).take p, ((cur.drop a).drop p).take d, ((cur.drop a).drop p).drop d, ?_, ?_, ?_, ?_⟩
  · rw [List.take_append_drop, List.take_append_drop, ← hA, List.take_append_drop]
  · rw [← hA, List.length_take]; omega
  · rw [List.length_take, List.length_drop]; omega
  · rw [List.length_take, List.length_drop, List.length_drop]; omega
theorem splices_up {α : Type} (cur A P D : List α) (a p : Nat) (hA : cur.take a = A) (hp : P.length = p) (hlen : a + p + D.length ≤ cur.length) : ∃ R, splice (splice cur (a + p) D) a P = (A ++ P ++ D) ++ R ∧ (splice cur (a + p) D).length = cur.length := by
  obtain ⟨R1, R2, R3, rfl, h1, h2, h3⟩ := parts3 cur A a p D.length hA hlen
  have e1 : splice (A ++ (R1 ++ (R2 ++ R3))) (a + p) D = A ++ (R1 ++ (D ++ R3)) := by
    have := splice_at (X := A ++ R1) (Y := R2) (Z := R3) (Y' := D) (o := a + p) (by rw [List.length_append]; omega) h3.symm
    simpa [List.append_assoc] using this
  rw [e1]
  refine ⟨R3, ?_, by simp; omega⟩
  rw [splice_at h1 (by omega)]
  simp
theorem splices_down {α : Type} (cur A P D : List α) (a p : Nat) (hA : cur.take a = A) (hp : P.length = p) (hlen : a + p + D.length ≤ cur.length) : ∃ R, splice (splice cur a P) (a + p) D = (A ++ P ++ D) ++ R ∧ (splice cur a P).length = cur.length := by
  obtain ⟨R1, R2, R3, rfl, h1, h2, h3⟩ := parts3 cur A a p D.length hA hlen
  have e1 : splice (A ++ (R1 ++ (R2 ++ R3))) a P = A ++ (P ++ (R2 ++ R3)) := splice_at h1 (by omega)
  rw [e1]
  refine ⟨R3, ?_, by simp; omega⟩
  have := splice_at (X := A ++ P) (Y := R2) (Z := R3) (Y' := D) (o := a + p) (by rw [List.length_append]; omega) h3.symm
  simpa [List.append_assoc] using this

theorem size7 (w : World) : (sizeOf 26).run Tryz.prog w = .ok 7 w := by
  obtain ⟨i, hi, hz0, hz2, hz3⟩ := info_parts infoC
  simp [sizeOf, typeInfo, hi, hz2]
theorem drop_cells {w : World} {g n : Nat} {xs : List C} {cur : List Value} (h : CBlk w g cur) (ht : cur.take (n * 7) = flatC xs) (m : Nat) : ∀ j v, (flatC (xs.drop m))[j]? = some v → w.cell? ((⟨g, m * 7, none⟩ : Addr).add j) = some v := fun j v hj => by
  rw [flatC_drop, List.getElem?_drop, ← ht, List.getElem?_take] at hj
  split at hj
  · rw [Go.WideShapes.add_plain, h.cell]; exact hj
  · cases hj

set_option maxHeartbeats 2000000 in
set_option maxRecDepth 100000 in
theorem repl_room (xs ps : List C) (n k base g cap pg : Nat) (w : World) (hown : OwnC w base (.slice (some ⟨g, 0, none⟩) n cap) xs) (hp : OwnC w 0 (.slice (some ⟨pg, 0, none⟩) 2 2) ps) (hne : g ≠ pg) (hkn : k + 1 < n) (hroom : n + 1 ≤ cap) (hn : n ≤ 100000) :
    Calls Tryz.prog 51 #[.slice (some ⟨g, 0, none⟩) n cap, .int .i64 (k : Int), .int .i64 ((k : Int) + 1), .slice (some ⟨pg, 0, none⟩) 2 2] w fun e w' => e = .returned (.slice (some ⟨g, 0, none⟩) (n + 1) cap) ∧ OwnC w' base (.slice (some ⟨g, 0, none⟩) (n + 1) cap) (xs.take k ++ ps ++ xs.drop (k + 1)) ∧ w.grownBy w' (some g) := by
  obtain ⟨cur, b1, b2, b3, b4, b5, b6, b7⟩ := own_blk hown
  obtain ⟨curp, p1, p2, p3, p4, p5, p6, p7⟩ := own_blk hp
  subst b7
  have hcap : cap ≤ 9223372036854775807 := by unfold maxLen at b5; omega
  have hdl : (flatC (xs.drop (k + 1))).length = (xs.length - (k + 1)) * 7 := by rw [flatC_length, List.length_drop]
  have hpl : (flatC ps).length = 14 := by rw [flatC_length]; omega
  have htk : cur.take (k * 7) = flatC (xs.take k) := by rw [flatC_take, ← b3, List.take_take]; congr 1; omega
  obtain ⟨R, e2, e3⟩ := splices_up cur (flatC (xs.take k)) (flatC ps) (flatC (xs.drop (k + 1))) (k * 7) 14 htk hpl (by rw [hdl]; omega)
  rw [show k * 7 + 14 = (k + 2) * 7 by omega] at e2 e3
  have hfin : Hid (∀ W, CBlk W g (splice (splice cur ((k + 2) * 7) (flatC (xs.drop (k + 1)))) (k * 7) (flatC ps)) → OwnC W base (.slice (some ⟨g, 0, none⟩) (xs.length + 1) cap) (xs.take k ++ ps ++ xs.drop (k + 1))) := Lib.hid fun W hW => by
    have hl : (xs.take k ++ ps ++ xs.drop (k + 1)).length = xs.length + 1 := by
      rw [List.length_append, List.length_append, List.length_take, List.length_drop]; omega
    have hf : flatC (xs.take k ++ ps ++ xs.drop (k + 1)) = flatC (xs.take k) ++ flatC ps ++ flatC (xs.drop (k + 1)) := by rw [flatC_append, flatC_append]
    have := blk_own (xs := xs.take k ++ ps ++ xs.drop (k + 1)) (base := base) (cap := cap) hW (by
      have hlen := congrArg List.length e2
      rw [e2] at hlen
      have h0 : (splice (splice cur ((k + 2) * 7) (flatC (xs.drop (k + 1)))) (k * 7) (flatC ps)).length = (splice cur ((k + 2) * 7) (flatC (xs.drop (k + 1)))).length := length_splice _ _ _ (by rw [e3, hpl]; omega)
      rw [h0, e3, b2]) (by
      rw [e2, hf, hl]
      have h9 : (xs.length + 1) * 7 = (flatC (xs.take k) ++ flatC ps ++ flatC (xs.drop (k + 1))).length := by rw [← hf, flatC_length, hl]
      rw [h9, List.take_left]) (by omega) b5 b6
    rw [hl] at this
    exact this
  have hov : ∀ la ca, (callFunc 78 #[.slice (some ⟨g, (k + 2) * 7, none⟩) la ca, .slice (some ⟨pg, 0, none⟩) 2 2]).run Tryz.prog w.drew = .ok (.value (.bool false)) w.drew := fun la ca => by
    have q1 : CBlk w.drew g cur := b1
    have q2 : CBlk w.drew pg curp := p1
    rw [run_callFunc_extern Tryz.func78 (by kernel_rfl) (by kernel_rfl) (by kernel_rfl) (e := Extern.SlicesOverlaps.overlaps #[24, 24] #[4]) (by kernel_rfl),
      Lib.run_overlaps_apart w.drew 24 4 26 under24 7 size7 ⟨g, (k + 2) * 7, none⟩ ⟨pg, 0, none⟩ la ca 2 2 hne 26 26 cur.length curp.length q1.shape q2.shape (by omega) (q1.free _) (q1.free _)]
    rfl
  have hcp1 : ∀ ty dc sc, (Builtin.copy_ #[24, 24] ty #[.slice (some ⟨g, (k + 2) * 7, none⟩) (xs.length - (k + 1)) dc, .slice (some ⟨g, (k + 1) * 7, none⟩) (xs.length - (k + 1)) sc]).run Tryz.prog w.drew.drew = .ok (goInt (Nat.min (xs.length - (k + 1)) (xs.length - (k + 1)))) (w.drew.drew.setRow g (splice cur ((k + 2) * 7) (flatC (xs.drop (k + 1)))).toArray) := fun ty dc sc =>
    run_copyC w.drew.drew ty g ((k + 2) * 7) _ dc _ _ sc cur (flatC (xs.drop (k + 1))) b1 (by rw [hdl, show Nat.min (xs.length - (k + 1)) (xs.length - (k + 1)) = xs.length - (k + 1) from Nat.min_self _]) (drop_cells (w := w.drew.drew) b1 b3 (k + 1)) (by rw [hdl]; omega) (flatC_oneCell _)
  obtain ⟨cur1, hcur1⟩ : ∃ c, c = splice cur ((k + 2) * 7) (flatC (xs.drop (k + 1))) := ⟨_, rfl⟩
  rw [← hcur1] at hcp1 hfin e3
  have hcp2 : ∀ (W : World) ty dl dc, CBlk W g cur1 → CBlk W pg curp → 2 ≤ dl → (Builtin.copy_ #[24, 24] ty #[.slice (some ⟨g, k * 7, none⟩) dl dc, .slice (some ⟨pg, 0, none⟩) 2 2]).run Tryz.prog W = .ok (goInt (Nat.min 2 dl)) (W.setRow g (splice cur1 (k * 7) (flatC ps)).toArray) := fun W ty dl dc q1 q2 hdl =>
    run_copyC W ty g (k * 7) dl dc _ 2 2 cur1 (flatC ps) q1 (by rw [hpl, show Nat.min 2 dl = 2 from Nat.min_eq_left hdl]) (fun j v hj => by
      rw [← p3, List.getElem?_take] at hj
      split at hj
      · rw [Go.WideShapes.add_plain, q2.cell, Nat.zero_add]; exact hj
      · cases hj) (by rw [hpl, e3, b2]; omega) (flatC_oneCell _)
  obtain ⟨W1, hW1⟩ : ∃ W1, W1 = w.drew.drew.setRow g cur1.toArray := ⟨_, rfl⟩
  rw [← hW1] at hcp1
  have HC2 := Lib.hid (hcp2 W1)
  have HW1 : Hid (CBlk W1 g cur1) := Lib.hid (by rw [hW1]; exact set_blk (w := w.drew.drew) b1 cur1)
  have HW2 : Hid (CBlk W1 pg curp) := Lib.hid (by rw [hW1]; exact (setRow_other _ _ _ _ (Ne.symm hne)).trans p1)
  have HG1 : Hid (w.grownBy W1 (some g)) := Lib.hid (by rw [hW1]; exact World.grownBy.trans (b := w.drew.drew) ⟨rfl, rfl, rfl, Nat.le_refl _, fun _ _ _ => rfl⟩ (set_gbR w.drew.drew g _))
  have HCP1 := Lib.hid hcp1
  clear hcp2 hW1 hcp1 e2 e3 hcur1 b1 b2 b3 b4 b5 b6 p1 p2 p3 p4 p5 p6 p7 hdl hpl htk
  have n0 : ¬ (cap = k) := by omega
  have n1 : ¬ (cap = k + 1) := by omega
  have n5 : ¬ (cap = k + 2) := by omega
  have n2 : ((k : Int) == (k : Int) + 1) = false := by rw [beq_eq_false_iff_ne]; omega
  have n3 : ((k : Int) + 1 == (xs.length : Int)) = false := by rw [beq_eq_false_iff_ne]; omega
  have n4 : decide ((k : Int) + 2 ≤ (k : Int) + 1) = false := decide_eq_false (by omega)
  have n6 : decide ((cap : Int) < (k : Int) + 2 + ((xs.length - (k + 1) : Nat) : Int)) = false := decide_eq_false (by omega)
  have hw1 : IntKind.i64.wrap ((k : Int) + 2) = (k : Int) + 2 := wrap_id (by omega)
  have hb1 : (0 : Int) ≤ (k : Int) + 2 := by omega
  have hb6 : (0 : Int) ≤ (k : Int) + 1 := by omega
  have htn : ((k : Int) + 2).toNat = k + 2 := by omega
  have hb3 : (k : Int) + 2 ≤ (k : Int) + 2 + ((xs.length - (k + 1) : Nat) : Int) := by omega
  have hb4 : (k : Int) ≤ (k : Int) + 2 + ((xs.length - (k + 1) : Nat) : Int) := by omega
  have hb5 : (k : Int) + 1 ≤ (xs.length : Int) := by omega
  have hw2 : IntKind.i64.wrap ((k : Int) + 1) = (k : Int) + 1 := wrap_id (by omega)
  have htn2 : ((k : Int) + 1).toNat = k + 1 := by omega
  go_enter Tryz.func51, Tryz.ntmps51
  go_wp2
  go_region
  go_wp2_with (simp only [hov])
  have hcp1 := HCP1.out
  have hcp2 := fun ty dc => HC2.out ty (k + 2 + (xs.length - (k + 1)) - k) dc HW1.out HW2.out (by omega)
  go_region
  go_wp2
  go_ret
  have hl : k + 2 + (xs.length - (k + 1)) = xs.length + 1 := by omega
  refine ⟨by rw [hl]; rfl, hfin.out _ (set_blk HW1.out _), HG1.out.trans (set_gbR W1 g _)⟩
end Go.Proofs.YtbbjnimadnbmnaaGreat
