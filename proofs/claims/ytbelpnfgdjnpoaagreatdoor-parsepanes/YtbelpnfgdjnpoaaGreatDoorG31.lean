/- Texts of this seat, 3 in one file. -/
import Derived.Test.YtbelpnfgdjnpoaaGreatDoorG01
import Derived.Lib.FrozenHead
import Derived.Lib.Builder
import Derived.Lib.UnsafeStr
import Derived.Test.YtbelpnfgdjnpoaaGreatDoorG07
import Derived.Test.YtbelpnfgdjnpoaaGreatDoorG20
/- A text that is told piece by piece: print's body, a struct with a strings.Builder in it. What its methods answer: copyCheck, WriteString, String. -/
namespace Go.Proofs.YtbelpnfgdjnpoaaGreatDoor
open Go.RowKit

/-- In the block b lies a body that tells these bytes; all that it has lies at B or above. -/
abbrev Bl (B b : Nat) (l : List UInt8) (w : World) : Prop := Lib.IsBuilderF 102 5 B b (Lib.byteCells l) w
abbrev Kept (b : Nat) (w w' : World) : Prop := Lib.OthersKept 5 (some b) w w'
abbrev bptr (b : Nat) : Value := .pointer (some ⟨b, 0, none⟩)

theorem at_up {B b : Nat} {p : Value} {bs : List Value} {w w' : World} (h : Lib.BuilderAtF 102 5 B b p bs w) (hb : Below w.heap.size w w') : Lib.BuilderAtF 102 5 B b p bs w' := by
  have hl := h.lt
  obtain ⟨hB, v, hbk, hown, hne⟩ := h
  refine ⟨hB, v, (hb.block b hl).trans hbk, hown.kept (row := none) ⟨hb.os, hb.tape, hb.output, hb.size, fun i hi _ => hb.block i hi⟩ (by cases v.ownBlock <;> simp), hne⟩
theorem Bl.up {B b : Nat} {l : List UInt8} {w w' : World} (h : Bl B b l w) (hb : Below w.heap.size w w') : Bl B b l w' := h.elim (fun x => .inl (at_up x hb)) (fun x => .inr (at_up x hb))
theorem kept_up {b : Nat} {w w' : World} (hb : Below w.heap.size w w') : Kept b w w' := fun k o hk _ _ => by
  refine (hb.block k ?_).trans hk
  rcases Nat.lt_or_ge k w.heap.size with h | h
  · exact h
  · rw [Array.getElem?_eq_none h] at hk; cases hk
theorem Bl.lt {B b : Nat} {l : List UInt8} {w : World} (h : Bl B b l w) : b < w.heap.size := h.elim (·.lt) (·.lt)
theorem Bl.le {B b : Nat} {l : List UInt8} {w : World} (h : Bl B b l w) : B ≤ b := h.elim (·.1) (·.1)

set_option maxHeartbeats 1000000 in
set_option maxRecDepth 100000 in
theorem bcheck_used (b : Nat) (w : World) (h0 : w.cell? ⟨b, 0, none⟩ = some (bptr b)) :
    Calls Tryz.prog 123 #[bptr b] w fun e w' => e = .returned (.tuple #[]) ∧ w' = w := by
  obtain ⟨j, hj, _⟩ := Option.map_eq_some_iff.1 (show (Tryz.prog.info? 100).map (·.size) = some 2 by kernel_rfl)
  have hnq := Lib.run_neq_ptr_same (P := Tryz.prog) w (⟨b, 0, none⟩ : Addr) Tryz.underlying98 hj
  go_enter Tryz.func123, Tryz.ntmps123
  go_wp2
  go_end0
  exact ⟨rfl, rfl⟩

set_option maxHeartbeats 1000000 in
set_option maxRecDepth 100000 in
theorem bcheck_fresh (b : Nat) (w : World) (h0 : w.cell? ⟨b, 0, none⟩ = some (.pointer none)) (hsh : w.shape? b = some (102, 2)) (hfz : w.frozen? ⟨b, 0, none⟩ = false) :
    Calls Tryz.prog 123 #[bptr b] w fun e w' => e = .returned (.tuple #[]) ∧ w' = w.setCell ⟨b, 0, none⟩ (bptr b) := by
  obtain ⟨j, hj, hjs⟩ := Option.map_eq_some_iff.1 (show (Tryz.prog.info? 100).map (·.size) = some 2 by kernel_rfl)
  have hto := Lib.run_to_unsafe (P := Tryz.prog) w (⟨b, 0, none⟩ : Addr) Tryz.underlying98 Tryz.underlying114 hj (by rw [hjs]; decide) hsh (Nat.zero_lt_succ 1)
  have hback := Lib.run_from_unsafe (P := Tryz.prog) w (⟨b, 0, none⟩ : Addr) Tryz.underlying114 Tryz.underlying98 hj hsh (by kernel_rfl)
  have hno : (callFunc 138 #[bptr b]).run Tryz.prog w = .ok (.value (bptr b)) w := by kernel_rfl
  go_enter Tryz.func123, Tryz.ntmps123
  go_wp2
  go_end0
  exact ⟨rfl, rfl⟩

theorem bcheck_any (B b : Nat) (bs : List Value) (w : World) (h : Lib.IsBuilderF 102 5 B b bs w) :
    Calls Tryz.prog 123 #[bptr b] w fun e w' => e = .returned (.tuple #[]) ∧ Lib.BuilderAtF 102 5 B b (bptr b) bs w' ∧ Below B w w' ∧ Kept b w w' := by
  rcases h with h | h
  · refine (bcheck_fresh b w h.cell0 h.shape h.frozen0).mono ?_
    rintro e w' ⟨rfl, rfl⟩
    exact ⟨rfl, h.used _, (Below.refl B w).setCell (p := ⟨b, 0, none⟩) h.1 _, (Lib.OthersKept.refl _ _ w).setCell ⟨b, 0, none⟩ rfl _⟩
  · refine (bcheck_used b w h.cell0).mono ?_
    rintro e w' ⟨rfl, rfl⟩
    exact ⟨rfl, h, Below.refl B _, Lib.OthersKept.refl _ _ _⟩

set_option maxHeartbeats 2000000 in
set_option maxRecDepth 100000 in
theorem write_any (B b : Nat) (l : List UInt8) (s : ByteArray) (w : World) (h : Bl B b l w) (hlen : l.length + s.size ≤ 10000000) (hBw : B ≤ w.heap.size) :
    Calls Tryz.prog 95 #[bptr b, .string s] w fun e w' => (∃ v, e = .returned v) ∧ Bl B b (l ++ s.data.toList) w' ∧ Below B w w' ∧ Kept b w w' := by
  obtain ⟨i0, hi, hz0, hz1, hz2⟩ := info_parts (P := Tryz.prog) (e := 5) (z := .int .u8 0) (size := 1) (bytes := 1) (by kernel_rfl)
  have hbl : (Lib.byteCells l).length = l.length := Lib.byteCells_length l
  have HC := Lib.hid (bcheck_any B b (Lib.byteCells l) w h)
  clear h
  go_enter Tryz.func95, Tryz.ntmps95
  go_wp2_with (go_at_call 123; refine HC.out.mono ?_)
  rintro e w1 ⟨rfl, h1, hb1, hk1⟩
  obtain ⟨hB, v, hbk, hown, hne⟩ := h1
  have hlt : b < w1.heap.size := by
    rcases Nat.lt_or_ge b w1.heap.size with h' | h'
    · exact h'
    · rw [Array.getElem?_eq_none h'] at hbk; cases hbk
  have c0 : w1.cell? ⟨b, 0, none⟩ = some (bptr b) := by rw [Lib.cell_of_heap hbk]; rfl
  have c1 : w1.cell? ⟨b, 1, none⟩ = some v := by rw [Lib.cell_of_heap hbk]; rfl
  go_wp2_with (at_builtin; refine Lib.wpList_append_own_stringF _ rfl _ _ 73 9 rfl B 5 i0 Tryz.underlying73 Tryz.underlying9 hi hz0 hz1 hz2 _ _ _ rfl hown s rfl ?c3 ?c4 ?c5 ?_)
  case c3 => unfold maxLen; omega
  case c4 => omega
  case c5 => have := hb1.size; omega
  intro v' w2 hown' hgrow _
  have hb2 : w2.heap[b]? = some (.cells #[bptr b, v] 102 (0, 0)) := (hgrow.block b hlt (fun e => hne e.symm)).trans hbk
  have d1 : w2.cell? ⟨b, 1, none⟩ = some v := by rw [Lib.cell_of_heap hb2]; rfl
  have f1 : w2.frozen? ⟨b, 1, none⟩ = false := Lib.frozen_of_heap hb2 1
  obtain ⟨ao, n', cap, rfl⟩ : ∃ ao n' cap, v' = .slice ao n' cap := by
    rcases hown'.2 with ⟨hv, _⟩ | ⟨g, cap, cur, fz, hv, _⟩
    · exact ⟨_, _, _, hv⟩
    · exact ⟨_, _, _, hv⟩
  have HK := Lib.hid ((hk1.grown hgrow (Lib.ownsRowF_kind hown)).setCell ⟨b, 1, none⟩ rfl (.slice ao n' cap))
  have HB := Lib.hid ((hb1.grown hgrow (by have := hb1.size; omega) (fun k hk => (hown.lt k hk).1)).setCell (p := ⟨b, 1, none⟩) hB (.slice ao n' cap))
  have HN : Hid (Lib.BuilderAtF 102 5 B b (bptr b) (Lib.byteCells (l ++ s.data.toList)) (w2.setCell ⟨b, 1, none⟩ (.slice ao n' cap))) := by
    refine Lib.BuilderAtF.put (T := 102) (e := 5) hB hb2 (bs' := Lib.byteCells (l ++ s.data.toList)) ?_ (by decide)
    have hl2 : (Lib.byteCells (l ++ s.data.toList)).length = (Lib.byteCells l).length + s.size := by rw [Lib.byteCells_append, List.length_append, ← Lib.strCells_eq, Lib.strCells_length]
    rw [hl2, hbl, Lib.byteCells_append, ← Lib.strCells_eq]
    exact hown'
  clear hown hown' hgrow hk1 hb1 hbk hb2 hne
  go_wp2
  go_ret2
  exact ⟨⟨_, rfl⟩, .inr HN.out, HB.out, HK.out⟩

set_option maxHeartbeats 1000000 in
set_option maxRecDepth 100000 in
/-- What was told, as a string: if it is something. -/
theorem string_any (B b : Nat) (l : List UInt8) (w : World) (h : Bl B b l w) (h0 : l ≠ []) :
    Calls Tryz.prog 63 #[bptr b] w fun e w' => e = .returned (.string ⟨l.toArray⟩) ∧ Below B w w' := by
  obtain ⟨p, hB, v, hbk, hown, hne⟩ : ∃ p, Lib.BuilderAtF 102 5 B b p (Lib.byteCells l) w := h.elim (fun h => ⟨_, h⟩) (fun h => ⟨_, h⟩)
  have hl0 : l.length ≠ 0 := by simpa using h0
  rw [Lib.byteCells_length] at hown
  obtain ⟨g, cap, cur, fz, rfl, hbg, hg, hfz, hnc, hcm, hcs, htake⟩ : ∃ g cap cur fz, v = .slice (some ⟨g, 0, none⟩) l.length cap ∧ B ≤ g ∧ w.heap[g]? = some (.cells cur 5 fz) ∧ fz.2 ≤ l.length * 1 ∧ l.length ≤ cap ∧ cap ≤ maxLen ∧ cur.size = cap * 1 ∧ cur.toList.take (l.length * 1) = Lib.byteCells l := by
    rcases hown.2 with ⟨_, hz⟩ | ⟨g, cap, cur, fz, hv, r⟩
    · exact absurd hz hl0
    · exact ⟨g, cap, cur, fz, hv, r⟩
  have c1 : w.drew.cell? ⟨b, 1, none⟩ = some (.slice (some ⟨g, 0, none⟩) l.length cap) := by
    have : w.drew.heap[b]? = some (.cells #[p, .slice (some ⟨g, 0, none⟩) l.length cap] 102 (0, 0)) := hbk
    rw [Lib.cell_of_heap this]; rfl
  have hSD : (Builtin.unsafeSliceData_ #[73] 146 #[.slice (some ⟨g, 0, none⟩) l.length cap]).run Tryz.prog w.drew = .ok (.pointer (some ⟨g, 0, none⟩)) w.drew :=
    Lib.run_unsafeSliceData_row _ _ _ _ _ _ (by omega)
  have hUS : (Builtin.unsafeString_ #[146, 3] 9 #[.pointer (some ⟨g, 0, none⟩), .int .i64 l.length]).run Tryz.prog w.drew = .ok (.string ⟨l.toArray⟩) (w.drew.freeze ⟨g, 0, none⟩ l.length) := by
    refine Lib.run_unsafeString_row w.drew 146 3 9 5 Tryz.underlying146 (by kernel_rfl) g cur.size (by have hg' : w.drew.heap[g]? = some (.cells cur 5 fz) := hg; simp [World.shape?, hg']) l h0 (by omega) (by unfold maxLen at hcm; omega) ?_
    intro j x hx
    exact hown.cells (g := g) rfl j (.int .u8 x.toNat) (by simp [Lib.byteCells, hx])
  have HBF := Lib.hid (Lib.below_freeze (Below.drew (Below.refl B w)) (p := ⟨g, 0, none⟩) hbg l.length)
  clear hown hne hbk hg htake
  go_enter Tryz.func63, Tryz.ntmps63
  go_wp2
  go_region
  all_goals
    go_wp2
    go_ret
    exact ⟨rfl, HBF.out⟩
end Go.Proofs.YtbelpnfgdjnpoaaGreatDoor
/- print's body: a tree's text, told piece by piece. -/
namespace Go.Proofs.YtbelpnfgdjnpoaaGreatDoor
open Go.RowKit
open Sash.Num (dig dig_len)

abbrev D7 (b : Nat) (c : C) (W : World) : Prop := W.cell? ⟨b, 0, none⟩ = some (.int .u8 c.k) ∧ W.cell? ⟨b, 1, none⟩ = some (.int .i64 c.r.x) ∧ W.cell? ⟨b, 2, none⟩ = some (.int .i64 c.r.y) ∧ W.cell? ⟨b, 3, none⟩ = some (.int .i64 c.r.w) ∧ W.cell? ⟨b, 4, none⟩ = some (.int .i64 c.r.h) ∧ W.cell? ⟨b, 5, none⟩ = some (.int .i64 c.id) ∧ W.cell? ⟨b, 6, none⟩ = some (.slice c.a c.n c.cap)
theorem box_heap (w : World) (c : C) : (w.alloc (cbox c)).heap[w.heap.size]? = some (cbox c) := Array.getElem?_push_size
theorem box_cells {W : World} {g : Nat} {c : C} (h : W.heap[g]? = some (cbox c)) : D7 g c W := by
  refine ⟨?_, ?_, ?_, ?_, ?_, ?_, ?_⟩ <;> (rw [Lib.cell_of_heap h]; rfl)
theorem kept_box {b g : Nat} {c : C} {W W' : World} (hk : Kept b W W') (hne : g ≠ b) (h : W.heap[g]? = some (cbox c)) : W'.heap[g]? = some (cbox c) :=
  hk g _ h (by simpa using hne) (fun cs fz e => by cases e)
theorem box_lt {W : World} {g : Nat} {c : C} (h : W.heap[g]? = some (cbox c)) : g < W.heap.size := by
  rcases Nat.lt_or_ge g W.heap.size with h' | h'
  · exact h'
  · rw [Array.getElem?_eq_none h'] at h; cases h

/-- What stands while a cell in the block g is told to the body in b. -/
structure TS (w : World) (B b g : Nat) (c : C) (l : List UInt8) (W : World) : Prop where
  bl : Bl B b l W
  below : Below B w W
  le : B ≤ W.heap.size
  kept : Kept b w W
  box : W.heap[g]? = some (cbox c)
  ne : g ≠ b
theorem TS.up {w : World} {B b g : Nat} {c : C} {l : List UInt8} {W W' : World} (h : TS w B b g c l W) (hb : Below W.heap.size W W') : TS w B b g c l W' :=
  ⟨h.bl.up hb, h.below.trans (hb.mono h.le), Nat.le_trans h.le hb.size, h.kept.trans (kept_up hb), (hb.block g (box_lt h.box)).trans h.box, h.ne⟩
theorem TS.told {w : World} {B b g : Nat} {c : C} {l l' : List UInt8} {W W' : World} (h : TS w B b g c l W) (h1 : Bl B b l' W') (h2 : Below B W W') (h3 : Kept b W W') : TS w B b g c l' W' :=
  ⟨h1, h.below.trans h2, Nat.le_trans h.le h2.size, h.kept.trans h3, kept_box h3 h.ne h.box, h.ne⟩
theorem TS.new {w : World} {B b : Nat} {l : List UInt8} (c : C) (h : Bl B b l w) (hB : B ≤ w.heap.size) : TS w B b w.heap.size c l (w.alloc (cbox c)) :=
  ⟨h.up ((Below.refl _ _).alloc (Nat.le_refl _) _), (Below.refl _ _).alloc hB _, by simp; omega, kept_up ((Below.refl _ _).alloc (Nat.le_refl _) _), box_heap w c, by have := h.lt; omega⟩
theorem TS.d7 {w : World} {B b g : Nat} {c : C} {l : List UInt8} {W : World} (h : TS w B b g c l W) : D7 g c W := box_cells h.box

theorem bodyK_len1 {l : List T} (h : l ≠ []) : (bodyK l).length + 1 ≤ 64 * szL l := by
  cases l with
  | nil => exact absurd rfl h
  | cons t l =>
    have h1 := body_len t
    have h2 := rest_len l
    rw [bodyK, szL, List.length_append]
    omega
/-- What telling a piece answers. -/
def Told (B b : Nat) (l : List UInt8) (w : World) (e : Ending) (w' : World) : Prop := e = .returned (.tuple #[]) ∧ Bl B b l w' ∧ Below B w w' ∧ Kept b w w'
/-- A cell of at most so many cells can be told. -/
def Tells (N : Nat) : Prop := ∀ (t : T) (c : C) (B b : Nat) (l : List UInt8) (w0 w : World), sz t ≤ N → OkB t → Is w0 c t → w0.heap.size ≤ B → Below w0.heap.size w0 w → B ≤ w.heap.size → Tab w0 → Bl B b l w → l.length + 64 * sz t ≤ 5000000 →
    Calls Tryz.prog 62 #[bptr b, cval c] w (Told B b (l ++ bodyT t) w)

set_option maxRecDepth 100000 in
set_option maxHeartbeats 4000000 in
theorem tellKids_any {N : Nat} (ih : Tells N) (ts : List T) (v : Value) (B b : Nat) (l : List UInt8) (w0 w : World) (hN : ∀ t ∈ ts, sz t ≤ N) (hok : ∀ t ∈ ts, OkB t) (hr : TRow w0 v ts) (hB0 : w0.heap.size ≤ B) (hb0 : Below w0.heap.size w0 w) (hB : B ≤ w.heap.size) (htab : Tab w0) (hbl : Bl B b l w) (hlen : l.length + 64 * szL ts ≤ 5000000) :
    Calls Tryz.prog 97 #[bptr b, v] w (Told B b (l ++ bodyK ts) w) := by
  obtain ⟨a, cap, rfl⟩ := hr.shape
  have hll : ts.length ≤ 5000000 := by have := szL_len ts; omega
  have HR := Lib.hid hr
  have HN := Lib.hid hN
  have HOK := Lib.hid hok
  have HBL := Lib.hid hbl
  have H0 := Lib.hid hb0
  clear hr hN hbl hb0 hok
  go_enter Tryz.func97, Tryz.ntmps97
  go_wp2
  go_loopg [8] (ts.length + 1) (fun g i wr => ∃ k : Nat, g + k = ts.length + 1 ∧ k ≤ ts.length ∧ i = .int .i64 k ∧ Bl B b (l ++ bodyK (ts.take k)) wr ∧ Below B w wr ∧ Kept b w wr)
  case atStart => exact ⟨0, by omega, by omega, rfl, by simpa [bodyK] using HBL.out, Below.refl _ _, Lib.OthersKept.refl _ _ _⟩
  case round =>
    obtain ⟨k, hg, hk, rfl, hbl, hbw, hkw⟩ := hrel
    have HG := Lib.hid hg
    have HL := Lib.hid hbl
    have HW := Lib.hid hbw
    have HK := Lib.hid hkw
    clear hg hbl hbw hkw
    have HU := Lib.hid (H0.out.trans (HW.out.mono hB0))
    by_cases hlt : k < ts.length
    · obtain ⟨b1, o1, rfl, hf⟩ := HR.out.place (by omega)
      obtain ⟨u, hu⟩ : ∃ u, ts[k]? = some u := ⟨_, List.getElem?_eq_getElem hlt⟩
      obtain ⟨x, hx, hix⟩ := hf k u hu
      clear hf
      obtain ⟨c0, c1, c2, c3, c4, c5, c6⟩ := hx.up HU.out
      have S0 := Lib.hid (TS.new x HL.out (Nat.le_trans hB HW.out.size))
      have HX := Lib.hid hix
      have hzt := szL_take_succ hu
      have hzl := szL_take_le ts (k + 1)
      have hkl := bodyK_len (ts.take k)
      have HZ := Lib.hid (show sz u ≤ N from HN.out u (List.mem_of_getElem? hu))
      have HO := Lib.hid (show OkB u from HOK.out u (List.mem_of_getElem? hu))
      have HST := Lib.hid (bodyK_take hu)
      clear hix hx hu
      by_cases h0 : k = 0
      · have d0 : decide ((0 : Int) < (k : Int)) = false := decide_eq_false (by omega)
        have d1 : decide (0 < k) = false := decide_eq_false (by omega)
        have d2 : (0 < k) = False := eq_false (by omega)
        have HE : Hid (l ++ bodyK (ts.take k) ++ bodyT u = l ++ bodyK (ts.take (k + 1))) := Lib.hid (by rw [HST.out, if_pos h0, h0]; simp [bodyK])
        have hl2 : (l ++ bodyK (ts.take k)).length + 64 * sz u ≤ 5000000 := by rw [List.length_append]; omega
        clear h0
        go_upto_region 5 with (fail)
        change Code.wp _ _ _ _ (wr.alloc (cbox x))
        generalize wr.alloc (cbox x) = W1 at S0 ⊢
        clear c0 c1 c2 c3 c4 c5 c6
        obtain ⟨c0, c1, c2, c3, c4, c5, c6⟩ := S0.out.d7
        have HC := Lib.hid (ih u x B b _ w0 W1 HZ.out HO.out HX.out hB0 (HU.out.trans (S0.out.below.mono hB0)) S0.out.le htab S0.out.bl hl2)
        rw [HE.out] at HC
        go_wp2_with fail
        refine HC.out.mono ?_
        rintro e w2 ⟨rfl, h1, h2, h3⟩
        have S2 := Lib.hid (S0.out.told h1 h2 h3)
        clear h1 h2 h3 c0 c1 c2 c3 c4 c5 c6
        go_wp2
        go_roundg (gk - 1)
        case measure => have := HG.out; omega
        case rel => exact ⟨k + 1, by have := HG.out; omega, by omega, by go_num, S2.out.bl, HW.out.trans S2.out.below, HK.out.trans S2.out.kept⟩
      · have d0 : decide ((0 : Int) < (k : Int)) = true := decide_eq_true (by omega)
        have d1 : decide (0 < k) = true := decide_eq_true (by omega)
        have d2 : (0 < k) = True := eq_true (by omega)
        have HE : Hid (l ++ bodyK (ts.take k) ++ [44] ++ bodyT u = l ++ bodyK (ts.take (k + 1))) := Lib.hid (by rw [HST.out, if_neg h0]; simp)
        have hl2 : (l ++ bodyK (ts.take k) ++ [44]).length + 64 * sz u ≤ 5000000 := by
          have := bodyK_len1 (show ts.take k ≠ [] from fun e => by have h := congrArg List.length e; rw [List.length_take, List.length_nil] at h; omega)
          rw [List.length_append, List.length_append]
          simp only [List.length_singleton]
          omega
        have hl1 : (l ++ bodyK (ts.take k)).length + 1 ≤ 10000000 := by rw [List.length_append]; omega
        clear h0
        go_upto_region 4 with (fail)
        change Code.wp _ _ _ _ (wr.alloc (cbox x))
        generalize wr.alloc (cbox x) = W1 at S0 ⊢
        clear c0 c1 c2 c3 c4 c5 c6
        have HWR := Lib.hid (write_any B b _ ⟨#[44]⟩ W1 S0.out.bl hl1 S0.out.le)
        go_wp2_with fail
        refine HWR.out.mono ?_
        rintro e w2 ⟨⟨v2, rfl⟩, h1, h2, h3⟩
        have S2 := Lib.hid (S0.out.told h1 h2 h3)
        clear h1 h2 h3
        obtain ⟨c0, c1, c2, c3, c4, c5, c6⟩ := S2.out.d7
        have HC := Lib.hid (ih u x B b _ w0 w2 HZ.out HO.out HX.out hB0 (HU.out.trans (S2.out.below.mono hB0)) S2.out.le htab S2.out.bl hl2)
        go_wp2_with fail
        refine HC.out.mono ?_
        rintro e w3 ⟨rfl, h1, h2, h3⟩
        have S3 := Lib.hid (S2.out.told h1 h2 h3)
        clear h1 h2 h3 c0 c1 c2 c3 c4 c5 c6
        go_wp2
        go_roundg (gk - 1)
        case measure => have := HG.out; omega
        case rel => exact ⟨k + 1, by have := HG.out; omega, by omega, by go_num, by have := S3.out.bl; rw [← HE.out]; exact this, HW.out.trans S3.out.below, HK.out.trans S3.out.kept⟩
    · obtain rfl : k = ts.length := by omega
      have hkl2 : ((ts.length : Int) < (ts.length : Int)) = False := by simp
      go_wp2
      go_end0
      exact ⟨rfl, by have := HL.out; rwa [List.take_length] at this, HW.out, HK.out⟩
end Go.Proofs.YtbelpnfgdjnpoaaGreatDoor
/- print's body: a cell, told whole. -/
namespace Go.Proofs.YtbelpnfgdjnpoaaGreatDoor
open Go.RowKit
open Sash.Num (dig dig_len)

theorem TS.drew {w : World} {B b g : Nat} {c : C} {l : List UInt8} {W : World} (h : TS w B b g c l W) : TS w B b g c l W.drew := h.up (Below.refl _ _).drew
theorem TS.alloc {w : World} {B b g : Nat} {c : C} {l : List UInt8} {W : World} (h : TS w B b g c l W) (o : Obj) : TS w B b g c l (W.alloc o) := h.up ((Below.refl _ _).alloc (Nat.le_refl _) _)
theorem ok_leaf {t : T} (h : OkB t) (h1 : t.k = 1) : t.kids = [] := by
  cases h with
  | leaf => rfl
  | kids k r l hk => simp only [T.k] at h1; omega
theorem ok_kind {t : T} (h : OkB t) : t.k = 1 ∨ t.k = 2 ∨ t.k = 3 := by
  cases h with
  | leaf => exact .inl rfl
  | kids k r l hk => exact .inr hk
theorem ok_kids {t : T} (h : OkB t) : ∀ u ∈ t.kids, OkB u := by
  cases h with
  | leaf => exact fun u hu => by cases hu
  | kids k r l hk hr two each => exact each

set_option maxRecDepth 100000 in
set_option maxHeartbeats 4000000 in
theorem tell_step {N : Nat} (ih : Tells N) : Tells (N + 1) := by
  intro t c B b l w0 w hs hok hi hB0 hb0 hB htab hbl hlen
  have HR := Lib.hid hi.row
  have HZK := Lib.hid (show ∀ u ∈ t.kids, sz u ≤ N from fun u hu => by
    obtain ⟨k, hk⟩ := List.getElem?_of_mem hu
    have := sz_kid hk
    omega)
  have HOK := Lib.hid (ok_kids hok)
  have hkind := ok_kind hok
  have hn := hi.n
  have hfn := hi.fine.2.2.2
  have hfr := hi.fine.2.1
  have hfi := hi.fine.2.2.1
  obtain ⟨hk, hr, hid, -⟩ := hi.split
  have hszn := sz_node t
  have hkl := bodyK_len t.kids
  obtain ⟨ck, cr, cid, ca, cn, ccap⟩ := c
  simp only at hn hfn hfr hfi hk hr hid
  subst hn
  clear hi hok
  have hhl := head_len cr
  have hdl := dig_len cid
  have S0 := Lib.hid (TS.new ⟨ck, cr, cid, ca, t.kids.length, ccap⟩ hbl hB)
  have HT := Lib.hid (fun W (h : Below B w W) => tab_on htab (hb0.trans (h.mono hB0)))
  obtain ⟨s1, hs1⟩ : ∃ s : ByteArray, (⟨(headL cr).toArray⟩ : ByteArray) = s := ⟨_, rfl⟩
  have hz1 : s1.size ≤ 43 := by rw [← hs1]; exact hhl
  have hd1 : s1.data.toList = headL cr := by rw [← hs1]
  have HH := Lib.hid (fun W (ht : Tab W) => phead_any cr W hfr ht)
  rw [hs1] at HH
  have HWR := Lib.hid (fun W (h : Bl B b l W) (hB : B ≤ W.heap.size) => write_any B b l s1 W h (by omega) hB)
  rw [hd1] at HWR
  clear hs1
  go_enter Tryz.func62, Tryz.ntmps62
  go_upto_region 1 with (fail)
  change Code.wp _ _ _ _ (w.alloc (cbox ⟨ck, cr, cid, ca, t.kids.length, ccap⟩))
  generalize w.alloc (cbox ⟨ck, cr, cid, ca, t.kids.length, ccap⟩) = W1 at S0 ⊢
  have S1 := Lib.hid S0.out.drew
  have X1 := Lib.hid S1.out.d7
  go_region_held3 (fun W => W.cell? ⟨w.heap.size, 0, none⟩ = some (.int .u8 ck) ∧ W.cell? ⟨w.heap.size, 1, none⟩ = some (.int .i64 cr.x) ∧ W.cell? ⟨w.heap.size, 2, none⟩ = some (.int .i64 cr.y) ∧ W.cell? ⟨w.heap.size, 3, none⟩ = some (.int .i64 cr.w) ∧ W.cell? ⟨w.heap.size, 4, none⟩ = some (.int .i64 cr.h) ∧ W.cell? ⟨w.heap.size, 5, none⟩ = some (.int .i64 cid) ∧ W.cell? ⟨w.heap.size, 6, none⟩ = some (.slice ca t.kids.length ccap)) (first | exact X1.out | exact X2.out | exact X3.out)
    (first
      | (go_at_call 96; (with_reducible refine (HH.out _ (HT.out _ S1.out.below)).mono ?_); rintro e w2 ⟨rfl, hb2⟩; have S2 := Lib.hid (S1.out.up hb2); have X2 := Lib.hid S2.out.d7; clear hb2)
      | (go_at_call 95; (with_reducible refine (HWR.out _ S2.out.bl S2.out.le).mono ?_); rintro e w3 ⟨⟨v3, rfl⟩, h1, h2, h3⟩; have S3 := Lib.hid (S2.out.told h1 h2 h3); have X3 := Lib.hid S3.out.d7; clear h1 h2 h3))
  obtain ⟨c0, c1, c2, c3, c4, c5, c6⟩ := X3.out
  simp only at c0 c1 c2 c3 c4 c5 c6
  clear X1 X2 X3 HWR HH
  rcases hkind with h1 | h1 | h1
  · have HF : Hid (l ++ headL cr ++ 44 :: dig cid = l ++ bodyT t) := Lib.hid (by rw [body_leaf h1, hr, hid, List.append_assoc])
    have q3 : (ck == 3) = false := by rw [← hk, h1]; rfl
    have q2 : (ck == 2) = false := by rw [← hk, h1]; rfl
    clear h1 hk hr hid
    obtain ⟨s2, hs2⟩ : ∃ s : ByteArray, (⟨(dig cid).toArray⟩ : ByteArray) = s := ⟨_, rfl⟩
    have hz2 : s2.size ≤ 10 := by rw [← hs2]; exact hdl
    have HWR := Lib.hid (fun W (h : Bl B b (l ++ headL cr) W) (hB : B ≤ W.heap.size) => write_any B b (l ++ headL cr) (⟨#[44]⟩ ++ s2) W h (by rw [List.length_append, ByteArray.size_append, show (⟨#[44]⟩ : ByteArray).size = 1 from rfl]; omega) hB)
    rw [show ((⟨#[44]⟩ : ByteArray) ++ s2).data.toList = 44 :: dig cid by rw [← hs2]; simp, HF.out] at HWR
    have K1 := Lib.hid (fun W b (hc : IAt W b [cid]) ht => dig1_at W b cid hfi hc ht)
    rw [hs2] at K1
    have a1 : ((9223372036854775807 : Int) < 1 + (s2.size : Int)) = False := eq_false (by omega)
    have a2 : (9223372036854775807 < 1 + s2.size) = False := eq_false (by omega)
    clear hs2 hkl hszn
    go_upto_region 10 with (fail)
    clear c0 c1 c2 c3 c4 c5 c6
    have S4 := Lib.hid S3.out.drew
    have X4 := Lib.hid S4.out.d7
    have S5 := Lib.hid (S3.out.alloc (ibox1 cid)).drew
    have X5 := Lib.hid S5.out.d7
    have I5 := Lib.hid ((iat1 w3 cid).up (Below.refl _ _).drew)
    go_region_held3 (fun W => W.cell? ⟨w.heap.size, 0, none⟩ = some (.int .u8 ck) ∧ W.cell? ⟨w.heap.size, 1, none⟩ = some (.int .i64 cr.x) ∧ W.cell? ⟨w.heap.size, 2, none⟩ = some (.int .i64 cr.y) ∧ W.cell? ⟨w.heap.size, 3, none⟩ = some (.int .i64 cr.w) ∧ W.cell? ⟨w.heap.size, 4, none⟩ = some (.int .i64 cr.h) ∧ W.cell? ⟨w.heap.size, 5, none⟩ = some (.int .i64 cid) ∧ W.cell? ⟨w.heap.size, 6, none⟩ = some (.slice ca t.kids.length ccap)) (first | exact X4.out | exact X5.out | exact X6.out | exact X7.out)
      (first
        | (go_at_call 98; (with_reducible refine (K1.out _ _ I5.out (HT.out _ S5.out.below)).mono ?_); rintro e w6 ⟨rfl, hb6⟩; have S6 := Lib.hid (S5.out.up hb6); have X6 := Lib.hid S6.out.d7; clear hb6)
        | (go_at_call 95; (with_reducible refine (HWR.out _ S6.out.bl S6.out.le).mono ?_); rintro e w7 ⟨⟨v7, rfl⟩, h1, h2, h3⟩; have S7 := Lib.hid (S6.out.told h1 h2 h3); have X7 := Lib.hid S7.out.d7; clear h1 h2 h3))
    go_wp2
    go_end0
    exact ⟨rfl, S7.out.bl, S7.out.below, S7.out.kept⟩
  · have HF : Hid (l ++ headL cr ++ [123] ++ bodyK t.kids ++ [125] = l ++ bodyT t) := Lib.hid (by rw [body_row h1, hr]; simp)
    have q3 : (ck == 3) = false := by rw [← hk, h1]; rfl
    have q2 : (ck == 2) = true := by rw [← hk, h1]; rfl
    clear h1 hk hr hid
    have hlk : (l ++ headL cr ++ [123]).length + 64 * szL t.kids ≤ 5000000 := by rw [List.length_append, List.length_append, List.length_singleton]; omega
    have hlc : (l ++ headL cr ++ [123] ++ bodyK t.kids).length + 1 ≤ 10000000 := by rw [List.length_append, List.length_append, List.length_append, List.length_singleton]; omega
    have HW1 := Lib.hid (fun W (h : Bl B b (l ++ headL cr) W) (hB : B ≤ W.heap.size) => write_any B b (l ++ headL cr) ⟨#[123]⟩ W h (by rw [List.length_append]; show _ + 1 ≤ _; omega) hB)
    have HWK := Lib.hid (fun W (h : Bl B b (l ++ headL cr ++ [123]) W) (hb : Below B w W) (hB : B ≤ W.heap.size) => tellKids_any ih t.kids (.slice ca t.kids.length ccap) B b (l ++ headL cr ++ [123]) w0 W HZK.out HOK.out HR.out hB0 (hb0.trans (hb.mono hB0)) hB htab h hlk)
    have HW2 := Lib.hid (fun W (h : Bl B b (l ++ headL cr ++ [123] ++ bodyK t.kids) W) (hB : B ≤ W.heap.size) => write_any B b (l ++ headL cr ++ [123] ++ bodyK t.kids) ⟨#[125]⟩ W h hlc hB)
    clear hkl hszn hlk hlc
    go_upto_region 7 with (fail)
    clear c0 c1 c2 c3 c4 c5 c6
    go_wp2_with fail
    refine (HW1.out w3 S3.out.bl S3.out.le).mono ?_
    rintro e w4 ⟨⟨v4, rfl⟩, h1, h2, h3⟩
    have S4 := Lib.hid (S3.out.told h1 h2 h3)
    clear h1 h2 h3
    obtain ⟨c0, c1, c2, c3, c4, c5, c6⟩ := S4.out.d7
    simp only at c0 c1 c2 c3 c4 c5 c6
    go_wp2_with fail
    refine (HWK.out w4 S4.out.bl S4.out.below S4.out.le).mono ?_
    rintro e w5 ⟨rfl, h1, h2, h3⟩
    have S5 := Lib.hid (S4.out.told h1 h2 h3)
    clear h1 h2 h3 c0 c1 c2 c3 c4 c5 c6
    go_wp2_with fail
    refine (HW2.out w5 S5.out.bl S5.out.le).mono ?_
    rintro e w6 ⟨⟨v6, rfl⟩, h1, h2, h3⟩
    have S6 := Lib.hid (S5.out.told h1 h2 h3)
    clear h1 h2 h3
    go_wp2
    go_end0
    exact ⟨rfl, by rw [← HF.out]; exact S6.out.bl, S6.out.below, S6.out.kept⟩
  · have HF : Hid (l ++ headL cr ++ [91] ++ bodyK t.kids ++ [93] = l ++ bodyT t) := Lib.hid (by rw [body_col (by rw [h1]; decide) (by rw [h1]; decide), hr]; simp)
    have q3 : (ck == 3) = true := by rw [← hk, h1]; rfl
    have q2 : (ck == 2) = false := by rw [← hk, h1]; rfl
    clear h1 hk hr hid
    have hlk : (l ++ headL cr ++ [91]).length + 64 * szL t.kids ≤ 5000000 := by rw [List.length_append, List.length_append, List.length_singleton]; omega
    have hlc : (l ++ headL cr ++ [91] ++ bodyK t.kids).length + 1 ≤ 10000000 := by rw [List.length_append, List.length_append, List.length_append, List.length_singleton]; omega
    have HW1 := Lib.hid (fun W (h : Bl B b (l ++ headL cr) W) (hB : B ≤ W.heap.size) => write_any B b (l ++ headL cr) ⟨#[91]⟩ W h (by rw [List.length_append]; show _ + 1 ≤ _; omega) hB)
    have HWK := Lib.hid (fun W (h : Bl B b (l ++ headL cr ++ [91]) W) (hb : Below B w W) (hB : B ≤ W.heap.size) => tellKids_any ih t.kids (.slice ca t.kids.length ccap) B b (l ++ headL cr ++ [91]) w0 W HZK.out HOK.out HR.out hB0 (hb0.trans (hb.mono hB0)) hB htab h hlk)
    have HW2 := Lib.hid (fun W (h : Bl B b (l ++ headL cr ++ [91] ++ bodyK t.kids) W) (hB : B ≤ W.heap.size) => write_any B b (l ++ headL cr ++ [91] ++ bodyK t.kids) ⟨#[93]⟩ W h hlc hB)
    clear hkl hszn hlk hlc
    go_upto_region 7 with (fail)
    clear c0 c1 c2 c3 c4 c5 c6
    go_wp2_with fail
    refine (HW1.out w3 S3.out.bl S3.out.le).mono ?_
    rintro e w4 ⟨⟨v4, rfl⟩, h1, h2, h3⟩
    have S4 := Lib.hid (S3.out.told h1 h2 h3)
    clear h1 h2 h3
    obtain ⟨c0, c1, c2, c3, c4, c5, c6⟩ := S4.out.d7
    simp only at c0 c1 c2 c3 c4 c5 c6
    go_wp2_with fail
    refine (HWK.out w4 S4.out.bl S4.out.below S4.out.le).mono ?_
    rintro e w5 ⟨rfl, h1, h2, h3⟩
    have S5 := Lib.hid (S4.out.told h1 h2 h3)
    clear h1 h2 h3 c0 c1 c2 c3 c4 c5 c6
    go_wp2_with fail
    refine (HW2.out w5 S5.out.bl S5.out.le).mono ?_
    rintro e w6 ⟨⟨v6, rfl⟩, h1, h2, h3⟩
    have S6 := Lib.hid (S5.out.told h1 h2 h3)
    clear h1 h2 h3
    go_wp2
    go_end0
    exact ⟨rfl, by rw [← HF.out]; exact S6.out.bl, S6.out.below, S6.out.kept⟩
theorem tells_all : ∀ N, Tells N
  | 0 => fun t c B b l w0 w hs => by have := sz_pos t; omega
  | N + 1 => tell_step (tells_all N)
end Go.Proofs.YtbelpnfgdjnpoaaGreatDoor
