/- Texts of this seat, 3 in one file. -/
import Derived.Test.YtakofjbjciljjaaGreatG27
import Derived.RangeFuncBox
import Derived.RangeFuncLeaves
import Derived.Shelf.Abstract
import Derived.WalkKit
import Derived.OwnWalkIn
import Derived.TacticsInMore
import Derived.LoopNIn
import Derived.LoopIn
import Derived.Maps.AppendAt
import Derived.Shelf.SortM.AssemblyIn
import Derived.Test.YtakofjbjciljjaaGreatProg
/- The program's named: leaves that a closure names; and two's closure. -/
namespace Go.Proofs.YtakofjbjciljjaaGreat
open Go.RowKit

/-- More is made: it still stands as long as what the call made does. -/
theorem Fas.grow {B : Nat} {w w' : World} {d : C} {u : T} (h : Fas B w d u) (hb : Below w.heap.size w w') : Fas B w' d u := by
  intro W' hW
  have hx : ∀ k, ({ W' with heap := W'.heap.extract 0 w.heap.size } : World).heap[k]? = if k < w.heap.size then W'.heap[k]? else none := by
    intro k
    change (W'.heap.extract 0 w.heap.size)[k]? = _
    rw [Array.getElem?_extract]
    by_cases hk : k < w.heap.size
    · rw [if_pos hk]
      by_cases hk2 : k < W'.heap.size
      · rw [if_pos (by omega), Nat.zero_add]
      · rw [if_neg (by omega), Array.getElem?_eq_none (by omega)]
    · rw [if_neg hk, if_neg (by omega)]
  have h2 : Is ({ W' with heap := W'.heap.extract 0 w.heap.size } : World) d u := h _ fun k hk => by
    rw [hx]
    by_cases hk2 : k < w.heap.size
    · rw [if_pos hk2, hW k hk, hb.block k hk2]
    · rw [if_neg hk2, Array.getElem?_eq_none (by omega)]
  refine h2.up ⟨rfl, rfl, rfl, ?_, fun k hk => ?_⟩
  · change (W'.heap.extract 0 w.heap.size).size ≤ W'.heap.size
    simp only [Array.size_extract]; omega
  · have hk' : k < w.heap.size := by
      have h3 : k < (W'.heap.extract 0 w.heap.size).size := hk
      simp only [Array.size_extract] at h3; omega
    rw [hx, if_pos hk']

def upTo (f : Nat → Int) (n : Nat) : List Int := (List.range n).map f
theorem upTo_len (f : Nat → Int) (n : Nat) : (upTo f n).length = n := by simp [upTo]
theorem upTo_succ (f : Nat → Int) (n : Nat) : upTo f (n + 1) = upTo f n ++ [f n] := by simp [upTo, List.range_succ]
theorem upTo_mem {f : Nat → Int} {n : Nat} {m : Int} (h : m ∈ upTo f n) : ∃ k, k < n ∧ f k = m := by
  unfold upTo at h
  obtain ⟨k, hk, he⟩ := List.mem_map.1 h
  exact ⟨k, List.mem_range.1 hk, he⟩

set_option maxHeartbeats 2000000 in
set_option maxRecDepth 100000 in
theorem named_any (F : Nat) (hE : Enters F) (lb : Array Value) (f : Nat → Int) (t : T) (c : C) (n : Nat) (w : World) (hm : sz t ≤ 900000) (hi : Is w c t) (hn : n = lvT t) (hf : ∀ k, k < n → fits (f k))
    (hF : ∀ (k : Nat) (W : World), k < n → Below w.heap.size w W → Calls Tryz.prog F (#[.int .i64 (k : Int)] ++ lb) W fun e w' => e = .returned (.int .i64 (f k)) ∧ Below W.heap.size W w') :
    Calls Tryz.prog 17 #[cval c, .int .i64 (n : Int), .func (.func F) #[] lb] w (NmSays (nmT (upTo f n) t) w) := by
  have hent : ∀ (args : Array Value) (w : World), (callFunc F args).run Tryz.prog w = .ok (.enter F args) w := hE
  have L0 := Lib.hid (SSt.start w c)
  have HI := Lib.hid hi
  have HM := Lib.hid hm
  have HF := Lib.hid hF
  have HFT := Lib.hid hf
  have HN := Lib.hid hn
  have HN9 : Hid (n ≤ 900000) := Lib.hid (by have := lv_sz t; omega)
  clear hi hm hF hf hn
  go_enter Tryz.func17, Tryz.ntmps17
  go_upto_region 1 with fail
  change Code.wp _ _ _ _ (freshW w c)
  generalize freshW w c = W0 at L0 ⊢
  have HZ : Hid (w.heap.size + 2 ≤ W0.heap.size) := Lib.hid L0.out.size
  have HO0 := Lib.hid (OwnI.nil W0 W0.heap.size)
  go_wp2
  go_loopg [7, 12] (n + 1) (fun g v i wr => ∃ (k : Nat), g + k = n + 1 ∧ k ≤ n ∧ i = .int .i64 k ∧ OwnI wr W0.heap.size v (upTo f k) ∧ Below W0.heap.size W0 wr)
  case atStart => exact ⟨0, by omega, by omega, rfl, HO0.out, Below.refl _ _⟩
  case round =>
    obtain ⟨k, hg, hk, rfl, hown, hbr⟩ := hrel
    have HG := Lib.hid hg
    have HO := Lib.hid hown
    have HBR := Lib.hid hbr
    clear hg hown hbr
    by_cases hlt : k < n
    · have hlti : (k : Int) < (n : Int) := by omega
      have HC := Lib.hid (HF.out k wr hlt (L0.out.below.trans (HBR.out.mono L0.out.below.size)))
      go_wp2
      refine HC.out.mono ?_
      rintro e w2 ⟨rfl, hb2⟩
      have HB2 := Lib.hid (HBR.out.trans (hb2.mono HBR.out.size))
      have HO2 := Lib.hid (HO.out.up hb2)
      have HCL : Hid ((upTo f k).length + [f k].length ≤ 1954687338211) := Lib.hid (by
        rw [upTo_len]; have := HN9.out; simp; omega)
      have A1 : Hid (OwnI (w2.alloc (.cells #[.int .i64 (f k)] 3)) W0.heap.size u7 (upTo f k)) := Lib.hid (HO2.out.up ((Below.refl _ _).alloc (Nat.le_refl _) _))
      have A2 : Hid (Below W0.heap.size W0 (w2.alloc (.cells #[.int .i64 (f k)] 3))) := Lib.hid (HB2.out.alloc (by have := HB2.out.size; omega) _)
      have A3 : Hid (Row (w2.alloc (.cells #[.int .i64 (f k)] 3)) (.slice (some ⟨w2.heap.size, 0, none⟩) 1 1) (ints [f k])) := Lib.hid (row_one w2 (.int .i64 (f k)) 3)
      clear hb2 HC
      go_wp2_with (at_builtin; refine wpList_append_ints rfl _ _ rfl W0.heap.size u7 _ (upTo f k) [f k] rfl A1.out rfl A3.out (by simp) HCL.out W0 A2.out (Nat.le_refl _) ?_; intro g cap3 w5 hown5 hb5 hgr5 hpl5)
      have HO5 := Lib.hid hown5
      have HB5 := Lib.hid hb5
      clear hown5 hb5 hgr5 hpl5
      go_wp2
      go_roundg (gk - 1)
      case measure => have := HG.out; omega
      case rel =>
        have h9 := HN9.out
        exact ⟨k + 1, by have := HG.out; omega, by omega, by have e : wrap64 ((k : Int) + 1) = ((k + 1 : Nat) : Int) := (by rw [← wrapE, wrap_id (by omega)]; omega); first | rfl | exact congrArg _ e | (rw [e]) | (congr 1; omega) | (simp only [IntKind.wrap_i64, e]), by rw [upTo_succ]; simpa using HO5.out, HB5.out⟩
    · obtain rfl : k = n := by omega
      have hkl : ((k : Int) < (k : Int)) = False := by simp
      have L1 := Lib.hid (L0.out.up HBR.out)
      obtain ⟨a1, cap1, rfl⟩ := row_shape HO.out.row
      have HNM := Lib.hid (name_any t c _ (upTo f k) wr (L1.out.is HI.out) HM.out HO.out.row (fun m hm => by obtain ⟨j, hj, rfl⟩ := upTo_mem hm; exact HFT.out j hj))
      have HNR : Hid (nameR (upTo f k) t = some (nmT (upTo f k) t)) := Lib.hid (by unfold nameR; rw [if_pos (by rw [upTo_len]; exact HN.out)])
      rw [HNR.out] at HNM
      obtain ⟨c0, c1, c2, c3, c4, c5, c6⟩ := c7_of L1.out.box.cat
      clear HNR
      go_wp2_with fail
      refine HNM.out.mono ?_
      rintro e w1 ⟨d, rfl, hd, hb1⟩
      have F1 : Hid (Fas wr.heap.size w1 d (nmT (upTo f k) t)) := Lib.hid hd
      have AL : Below w1.heap.size w1 (w1.alloc (cbox d)) := (Below.refl _ _).alloc (Nat.le_refl _) _
      have L2 := Lib.hid ((L1.out.up hb1).up AL)
      have F2 := Lib.hid (F1.out.grow AL)
      have D2 := Lib.hid (Box7.new w1 d)
      have HSZ : Hid (w.heap.size + 2 ≤ w1.heap.size) := Lib.hid (by have := hb1.size; have := L1.out.size; omega)
      have HSR : Hid (w.heap.size + 2 ≤ wr.heap.size) := Lib.hid L1.out.size
      clear hd hb1 AL F1 HNM c0 c1 c2 c3 c4 c5 c6
      go_upto_region 8 with fail
      change Code.wp _ _ _ _ (w1.alloc (cbox d))
      generalize w1.alloc (cbox d) = W at L2 F2 D2 ⊢
      generalize w1.heap.size = b at D2 HSZ ⊢
      have n1 : b ≠ w.heap.size + 1 := by have := HSZ.out; omega
      obtain ⟨c0, c1, c2, c3, c4, c5, c6⟩ := c7_of D2.out.cat
      obtain ⟨⟨z0, z1, z2, z3, z4, z5, z6⟩, f0, f1, f2, f3, f4, f5, f6⟩ := zero_parts L2.out.zero
      go_wp2
      (try simp only [Exit.inBlock, Exit.then])
      refine bodyPost_ret (results_cell1 rfl _ _ (w.heap.size + 1) d rfl ((Box7.of_zero L2.out.zero).put d)) rfl ?_
      exact ⟨d, rfl, (F2.out.put (b := w.heap.size + 1) (by have := HSR.out; omega)).low (by omega), below_put7 L2.out.below (by omega) d⟩

end Go.Proofs.YtakofjbjciljjaaGreat
/- The library's iterator over a row of numbers, and the row that is collected of it. -/
namespace Go.Proofs.YtakofjbjciljjaaGreat
open Go.RowKit

attribute [local go_sem] Oper.semAt_some

/-- What has come when k rounds are over. -/
def come (zs : List Int) (k : Nat) : List Int := (List.range k).map fun j => zs[j]?.getD 0
theorem come_succ (zs : List Int) (k : Nat) : come zs (k + 1) = come zs k ++ [zs[k]?.getD 0] := by simp [come, List.range_succ]
theorem come_length (zs : List Int) (k : Nat) : (come zs k).length = k := by simp [come]
theorem come_take (zs : List Int) {k : Nat} (hk : k ≤ zs.length) : come zs k = zs.take k := by
  apply List.ext_getElem
  · simp [come, hk]
  · intro i h1 h2
    have : i < zs.length := by simp [come] at h1; omega
    simp [come, this]

set_option maxRecDepth 100000 in
set_option maxHeartbeats 2000000 in
theorem values1_in (F : Fence) (n : Nat) (h7 : F.fn 31) (hro : F.round = none) (hn : 1 ≤ n) (l Bs n₀ b off cap : Nat) (zs : List Int) (hreach : zs.length ≤ 1000000) (hb : b < n₀) (J Jx : List Int → World → Prop)
    (hY : ∀ pre x W, J pre W → pre.length < zs.length → YieldAt F (n - 1) Tryz.prog l #[.int .i64 x] W fun e W' =>
      (e = .returned (.bool true) ∧ J (pre ++ [x]) W' ∧ Below n₀ W W') ∨ (e = .returned (.bool false) ∧ Jx (pre ++ [x]) W'))
    (W : World) (hBs : W.cell? ⟨Bs, 0, none⟩ = some (.slice (some ⟨b, off, none⟩) zs.length cap)) (hc : ∀ j, j < zs.length → W.cell? ⟨b, off + j, none⟩ = some (.int .i64 (zs[j]?.getD 0))) (h0 : J [] W) :
    CallsIn F n Tryz.prog 31 #[.func (.yield l) #[] #[], .pointer (some ⟨Bs, 0, none⟩)] W fun e W' => (∃ v, e = .returned v) ∧
      ((∃ ys, ys = zs ∧ J ys W') ∨ (∃ pre, pre <+: zs ∧ Jx pre W')) := by
  refine callsIn_of_wp Tryz.func31 rfl h7 ?_ hro
  simp only [Tryz.ntmps31, List.size_toArray, List.length_cons, List.length_nil, Nat.reduceAdd, Nat.reduceSub, Array.replicate_succ, Array.replicate_zero, List.push_toArray, List.append_toArray, List.nil_append, List.cons_append]
  gi_wp2
  gi_loopw [7] (fun i wr => ∃ k : Nat, k ≤ zs.length ∧ i = .int .i64 k ∧ J (come zs k) wr ∧ Below n₀ W wr)
    (fun i _ => zs.length - (intOf i).toNat)
  case atStart => exact ⟨0, Nat.zero_le _, rfl, h0, Below.refl _ _⟩
  case round =>
    obtain ⟨k, hk, rfl, hJs, hnx⟩ := hrel
    have hcx : k < zs.length → wr.cell? ⟨b, off + k, none⟩ = some (.int .i64 (zs[k]?.getD 0)) := fun h => (hnx.cell (p := ⟨b, off + k, none⟩) hb).trans (hc k h)
    by_cases hlt : k < zs.length
    · obtain ⟨fn, tmps, assign, body, hy, hR⟩ := hY _ (zs[k]?.getD 0) wr hJs (by rw [come_length]; exact hlt)
      have hcx' := hcx hlt
      have e9 : wrap64 ((k : Int) + 1) = ((k + 1 : Nat) : Int) := by rw [← wrapE, wrap_id (by omega)]; omega
      clear hcx
      generalize hz : zs[k]?.getD 0 = z at hcx' hy hR
      gi_wp2
      refine hR.mono ?_
      rintro e W3 (⟨rfl, hJ3, hk3⟩ | ⟨rfl, hJx3⟩)
      · gi_wp2
        go_roundw
        case rel => exact ⟨k + 1, by omega, by first | rfl | exact congrArg _ e9 | (rw [e9]) | (simp only [IntKind.wrap_i64, e9]), by rw [come_succ, hz]; exact hJ3, hnx.trans hk3⟩
        case measure => simp [intOf]; omega
      · gi_wp2
        refine bodyPost_ret (results_none rfl _ _ _) rfl ?_
        refine ⟨⟨_, rfl⟩, .inr ⟨_, ?_, hJx3⟩⟩
        rw [← hz, ← come_succ, come_take zs (by omega)]
        exact List.take_prefix _ _
    · obtain rfl : k = zs.length := by omega
      gi_wp2
      go_end0
      refine ⟨⟨_, rfl⟩, .inl ⟨_, ?_, hJs⟩⟩
      rw [come_take zs (Nat.le_refl _), List.take_length]

theorem values_stops (F : Fence) (n : Nat) (h7 : F.fn 31) (hro : F.round = none) (hn : 1 ≤ n) (Bs n₀ b off cap : Nat) (zs : List Int) (hreach : zs.length ≤ 1000000) (w : World) (hBs : Bs < w.heap.size) (hn₀ : n₀ ≤ w.heap.size) (hb : b < n₀)
    (hc : w.cell? ⟨Bs, 0, none⟩ = some (.slice (some ⟨b, off, none⟩) zs.length cap)) (hcs : ∀ j, j < zs.length → w.cell? ⟨b, off + j, none⟩ = some (.int .i64 (zs[j]?.getD 0))) :
    SeqStopsK F n Tryz.prog 31 #[.pointer (some ⟨Bs, 0, none⟩)] (fun x : Int => #[Value.int .i64 x]) (Below n₀) (fun ys => ys = zs) (fun pre => pre <+: zs) zs.length w := fun l J Jx W hW _ _ hY h0 =>
  values1_in F n h7 hro hn l Bs n₀ b off cap zs hreach hb J Jx hY W ((hW.cell (p := ⟨Bs, 0, none⟩) hBs).trans hc) (fun j hj => (hW.cell (p := ⟨b, off + j, none⟩) (Nat.lt_of_lt_of_le hb hn₀)).trans (hcs j hj)) h0

set_option maxRecDepth 100000 in
set_option maxHeartbeats 2000000 in
theorem appendSeq_in (F : Fence) (n : Nat) (h3 : F.fn 43) (h5 : F.fn 31) (hro : F.round = none) (hn : 3 ≤ n) (Bs b off cap : Nat) (zs : List Int) (hreach : zs.length ≤ 1000000) (w : World) (hBs : Bs < w.heap.size) (hbl : b < w.heap.size)
    (hc : w.cell? ⟨Bs, 0, none⟩ = some (.slice (some ⟨b, off, none⟩) zs.length cap)) (hcs : ∀ j, j < zs.length → w.cell? ⟨b, off + j, none⟩ = some (.int .i64 (zs[j]?.getD 0))) :
    CallsIn F n Tryz.prog 43 #[.slice none 0 0, .func (.func 31) #[] #[.pointer (some ⟨Bs, 0, none⟩)]] w fun e W' => ∃ v, e = .returned v ∧ W'.ownsRow w.heap.size 3 1 v zs.length (zs.map (Value.int .i64)) ∧ Below w.heap.size w W' := by
  have h1 : 1 ≤ n := by omega
  obtain ⟨i0, hi, hz0, hz1, hz2⟩ := info_parts infoI
  refine callsIn_of_wp_marks Tryz.func43 rfl h3 ?_ hro
  simp only [Tryz.ntmps43, List.size_toArray, List.length_cons, List.length_nil, Nat.reduceAdd, Nat.reduceSub, Array.replicate_succ, Array.replicate_zero, List.push_toArray, List.append_toArray, List.nil_append, List.cons_append]
  gi_wp2
  have bO := Boxed.new w 27 (.slice none 0 0)
  have hB0 : Below w.heap.size w (w.alloc (.cells #[.slice none 0 0] 27)) := (Below.refl _ w).alloc (Nat.le_refl _) _
  refine wpIn_rangeFunc_ownG hro h1 (gf := 31) (lb := #[.pointer (some ⟨Bs, 0, none⟩)]) rfl h5 (enters_of Tryz.func31 (by kernel_rfl) rfl)
    (values_stops F (n - 1) h5 hro (by omega) Bs w.heap.size b off cap zs hreach _ (by simp; omega) (by simp) hbl ((hB0.cell (p := ⟨Bs, 0, none⟩) hBs).trans hc) (fun j hj => (hB0.cell (p := ⟨b, off + j, none⟩) hbl).trans (hcs j hj))) belowK_t (belowK_b (by simp)) (Below.refl _ _) (fun _ => rfl)
    (fun pre W => (∃ v, Boxed W w.heap.size 27 v ∧ W.ownsRow w.heap.size 3 1 v pre.length (pre.map (Value.int .i64)) ∧ True) ∧ Below w.heap.size w W)
    (fun _ _ _ => False)
    (OwnFrom.and (Own.from (holdsRow_own w.heap.size w.heap.size 27 3 1 (fun pre : List Int => pre.length) (fun pre : List Int => pre.map (Value.int .i64)) (fun _ _ => True)) _) (ownFrom_below (Nat.le_refl _) (by simp)))
    (fun _ _ _ _ _ hs _ _ => hs)
    ⟨⟨_, bO, World.ownsRow_nil _ _ _ _, trivial⟩, hB0⟩
    (fun x => { tmps := #[.slice none 0 0, .func (.func 31) #[] #[.pointer (some ⟨Bs, 0, none⟩)], .pointer (some ⟨w.heap.size, 0, none⟩), undef, .slice none 0 0, .int .i64 x, .func (.func 31) #[] #[.pointer (some ⟨Bs, 0, none⟩)], .int .i64 x, undef, undef, undef, undef, undef], defers := [] }) ?assign ?body ?done ?stop
  case assign =>
    intro l x W K hK
    gi_wp2
    exact hK
  case body =>
    rintro l pre x W ⟨⟨v, hv, hrow, -⟩, hB⟩ hlt
    have hc := hv.cell
    gi_wp2_with (gi_at_builtin; refine wpListIn_append_own _ rfl _ _ 27 rfl w.heap.size 3 i0 (.int .i64 0) 1 8 Tryz.underlying27 hi hz0 hz1 hz2 rfl (by decide) _ _ _ rfl (hrow.alloc _) ⟨W.heap.size, 0, none⟩ 1 1 [.int .i64 x] rfl rfl (cell_one_new _ _ _) (by simp [Value.oneCell']) (by unfold maxLen; omega) (by omega) (by have := hB.size; simp; omega) ?_; intro v' w1 hown' hgrow _; obtain ⟨g', cap', rfl⟩ := ownsRow_succ hown'; obtain ⟨hv1, hv2, hr2, hk2, hb2⟩ := hv.appended (by decide) hrow hB.size (Nat.le_refl _) hown' hgrow; have hc1 := hv1.cell; have hf1 := hv1.frozen)
    exact ⟨hk2.from _, hb2, ⟨_, hv2, by simpa using hr2, trivial⟩, hB.trans hb2⟩
  case done =>
    rintro D ys W hD rfl ⟨⟨v, hv, hrow, -⟩, hB⟩ hK
    have hc := hv.cell
    gi_wp2
    refine ⟨by simp, .inl ⟨_, _, rfl, run_takeDeferred hK, ?_⟩⟩
    exact ⟨_, results_tmp rfl _ _ _, v, rfl, ownsRow_putObj hrow _ hK rfl, hB.trans (belowK_b (w := w) (Nat.le_refl _) W D _ _ (by simp at hD; omega) hK rfl rfl)⟩
  case stop =>
    rintro D c pre W _ _ h _
    exact h.elim
end Go.Proofs.YtakofjbjciljjaaGreat
/- Where generic library functions that this program calls lie in it, by the shelf's own tool, in plain words. -/
namespace Go.Proofs
open Go.Shelf
def Tryz.sortL_ren : Go.Shelf.Ren := ⟨fun | 5 => 30 | 8 => 45 | 7 => 44 | 19 => 68 | 20 => 69 | 10 => 59 | 11 => 60 | 12 => 61 | 13 => 62 | 14 => 63 | 15 => 64 | 16 => 65 | 17 => 66 | 18 => 67 | 30 => 83 | 31 => 84 | 32 => 85 | 33 => 86 | 34 => 87 | 35 => 88 | 40 => 98 | n => n, fun | 23 => 27 | 25 => 3 | 3 => 3 | 32 => 73 | 22 => 27 | 0 => 0 | 44 => 92 | 46 => 94 | 4 => 4 | 36 => 85 | 35 => 84 | 41 => 81 | 5 => 5 | 9 => 9 | 53 => 108 | 57 => 112 | 63 => 120 | 64 => 121 | n => n, fun | n => n⟩
theorem Tryz.sortL : Go.Proofs.SlLaysM.n5 Tryz.prog Tryz.sortL_ren := {
  mixed := by kernel_rfl
  f5 := ⟨Tryz.f30.name, by decide, Tryz.func30.trans (congrArg some (by kernel_rfl))⟩
  f7 := ⟨Tryz.f44.name, by decide, Tryz.func44.trans (congrArg some (by kernel_rfl))⟩
  f8 := Tryz.func45.trans (congrArg some (by kernel_rfl))
  f10 := ⟨Tryz.f59.name, by decide, Tryz.func59.trans (congrArg some (by kernel_rfl))⟩
  f11 := ⟨Tryz.f60.name, by decide, Tryz.func60.trans (congrArg some (by kernel_rfl))⟩
  f12 := ⟨Tryz.f61.name, by decide, Tryz.func61.trans (congrArg some (by kernel_rfl))⟩
  f13 := ⟨Tryz.f62.name, by decide, Tryz.func62.trans (congrArg some (by kernel_rfl))⟩
  f14 := ⟨Tryz.f63.name, by decide, Tryz.func63.trans (congrArg some (by kernel_rfl))⟩
  f15 := ⟨Tryz.f64.name, by decide, Tryz.func64.trans (congrArg some (by kernel_rfl))⟩
  f16 := ⟨Tryz.f65.name, by decide, Tryz.func65.trans (congrArg some (by kernel_rfl))⟩
  f17 := ⟨Tryz.f66.name, by decide, Tryz.func66.trans (congrArg some (by kernel_rfl))⟩
  f18 := ⟨Tryz.f67.name, by decide, Tryz.func67.trans (congrArg some (by kernel_rfl))⟩
  f19 := Tryz.func68.trans (congrArg some (by kernel_rfl))
  f20 := Tryz.func69.trans (congrArg some (by kernel_rfl))
  f30 := ⟨Tryz.f83.name, by decide, Tryz.func83.trans (congrArg some (by kernel_rfl))⟩
  f31 := Tryz.func84.trans (congrArg some (by kernel_rfl))
  f32 := Tryz.func85.trans (congrArg some (by kernel_rfl))
  f33 := ⟨Tryz.f86.name, by decide, Tryz.func86.trans (congrArg some (by kernel_rfl))⟩
  f34 := ⟨Tryz.f87.name, by decide, Tryz.func87.trans (congrArg some (by kernel_rfl))⟩
  f35 := ⟨Tryz.f88.name, by decide, Tryz.func88.trans (congrArg some (by kernel_rfl))⟩
  f40 := ⟨Tryz.f98.name, by decide, Tryz.func98.trans (congrArg some (by kernel_rfl))⟩
  t0 := Tryz.underlying0
  a0 := Tryz.isAgg0
  z0 := Tryz.sizeOf0
  v0 := Tryz.zeroValue0
  t3 := Tryz.underlying3
  a3 := Tryz.isAgg3
  z3 := Tryz.sizeOf3
  v3 := Tryz.zeroValue3
  t4 := Tryz.underlying4
  a4 := Tryz.isAgg4
  z4 := Tryz.sizeOf4
  v4 := Tryz.zeroValue4
  t5 := Tryz.underlying5
  a5 := Tryz.isAgg5
  z5 := Tryz.sizeOf5
  v5 := Tryz.zeroValue5
  t9 := Tryz.underlying9
  a9 := Tryz.isAgg9
  z9 := Tryz.sizeOf9
  v9 := Tryz.zeroValue9
  t22 := Tryz.underlying27
  a22 := Tryz.isAgg27
  z22 := Tryz.sizeOf27
  v22 := Tryz.zeroValue27
  t23 := Tryz.underlying27
  a23 := Tryz.isAgg27
  z23 := Tryz.sizeOf27
  v23 := Tryz.zeroValue27
  t25 := Tryz.underlying3
  a25 := Tryz.isAgg3
  z25 := Tryz.sizeOf3
  v25 := Tryz.zeroValue3
  t32 := Tryz.underlying73
  a32 := Tryz.isAgg73
  z32 := Tryz.sizeOf73
  v32 := Tryz.zeroValue73
  t35 := Tryz.underlying84
  a35 := Tryz.isAgg84
  z35 := Tryz.sizeOf84
  v35 := Tryz.zeroValue84
  t36 := Tryz.underlying85
  a36 := Tryz.isAgg85
  z36 := Tryz.sizeOf85
  v36 := Tryz.zeroValue85
  t41 := Tryz.underlying81
  a41 := Tryz.isAgg81
  z41 := Tryz.sizeOf81
  v41 := Tryz.zeroValue81
  t44 := Tryz.underlying92
  a44 := Tryz.isAgg92
  z44 := Tryz.sizeOf92
  v44 := Tryz.zeroValue92
  t46 := Tryz.underlying94
  a46 := Tryz.isAgg94
  z46 := Tryz.sizeOf94
  v46 := Tryz.zeroValue94
  t53 := Tryz.underlying108
  a53 := Tryz.isAgg108
  z53 := Tryz.sizeOf108
  v53 := Tryz.zeroValue108
  t57 := Tryz.underlying112
  a57 := Tryz.isAgg112
  z57 := Tryz.sizeOf112
  v57 := Tryz.zeroValue112
  t63 := Tryz.underlying120
  a63 := Tryz.isAgg120
  z63 := Tryz.sizeOf120
  v63 := Tryz.zeroValue120
  t64 := Tryz.underlying121
  a64 := Tryz.isAgg121
  z64 := Tryz.sizeOf121
  v64 := Tryz.zeroValue121 }
end Go.Proofs
