/- Texts of this seat, 3 in one file. -/
import Derived.Test.YthnoogmjlkgnbaaDoorG14
import Derived.Test.YthnoogmjlkgnbaaDoorG15
import Derived.Test.YthnoogmjlkgnbaaDoorG05
import Derived.Test.YthnoogmjlkgnbaaDoorG06
import Derived.Test.YthnoogmjlkgnbaaDoorG07
/- What may be is small; the kids of what tiles tile. -/
namespace Go.Proofs.YthnoogmjlkgnbaaDoor
open Go.RowKit

theorem mayStep_small {s : Nat × List Int} {t : T} (h : (mayStep s t).1 = false) : (mayStep s t).2.1 = s.1 + 1 ∧ s.1 + 1 ≤ 20000 := by
  unfold mayStep at h ⊢
  split at h
  · cases h
  · rename_i hn
    rw [if_neg hn]
    constructor
    · split <;> rfl
    · omega
mutual
theorem go_small (s : Nat × List Int) : ∀ t, (goT mayStep s t).1 = false → (goT mayStep s t).2.1 = s.1 + sz t ∧ s.1 + sz t ≤ 20000
  | .node k r i l => by
    intro h
    rw [goT] at h ⊢
    rw [sz]
    by_cases hf : (mayStep s (.node k r i l)).1 = true
    · rw [if_pos hf, hf] at h; cases h
    · rw [if_neg hf] at h ⊢
      obtain ⟨h1, h2⟩ := mayStep_small (s := s) (t := .node k r i l) (by simpa using hf)
      have h3 := goL_small (mayStep s (.node k r i l)).2 l h (by omega)
      omega
theorem goL_small (s : Nat × List Int) : ∀ l, (goL mayStep s l).1 = false → s.1 ≤ 20000 → (goL mayStep s l).2.1 = s.1 + szL l ∧ s.1 + szL l ≤ 20000
  | [] => by
    intro _ hs
    rw [goL, szL]
    exact ⟨rfl, hs⟩
  | t :: l => by
    intro h hs
    rw [goL] at h ⊢
    rw [szL]
    by_cases hf : (goT mayStep s t).1 = true
    · rw [if_pos hf, hf] at h; cases h
    · rw [if_neg hf] at h ⊢
      have h1 := go_small s t (by simpa using hf)
      have h3 := goL_small (goT mayStep s t).2 l h (by omega)
      omega
end
theorem may_small {t : T} (h : mayT t = true) : sz t ≤ 20000 := by
  unfold mayT at h
  have := go_small (0, []) t (by simpa using h)
  simp only at this
  omega
theorem tile_may {t : T} (h : tileB t = true) : mayT t = true := by
  unfold tileB at h
  rw [Bool.and_eq_true] at h
  exact h.1
theorem pre_cut {l : List T} {k : Nat} {u : T} (h : l[k]? = some u) : preL l = preL (l.take k) ++ preT u ++ preL (l.drop (k + 1)) := by
  conv => lhs; rw [← List.take_append_drop (k + 1) l]
  rw [preL_append, preL_step h]
theorem pre_sub {t u : T} {k : Nat} (h : t.kids[k]? = some u) : List.Sublist (preT u) (preT t) := by
  rw [preT_eq t, pre_cut h]
  refine List.Sublist.cons _ ?_
  rw [List.append_assoc]
  exact (List.sublist_append_left _ _).trans (List.sublist_append_right _ _)
theorem tile_kid {t u : T} {k : Nat} (hs : sz t ≤ 999) (ht : tileB t = true) (h : t.kids[k]? = some u) : tileB u = true := by
  have hu : sz u < sz t := sz_kid h
  have hsub := pre_sub h
  unfold tileB at ht ⊢
  rw [may_is (by omega)] at ht ⊢
  unfold rmayT at ht ⊢
  simp only [Bool.and_eq_true, decide_eq_true_eq] at ht ⊢
  obtain ⟨⟨h1, h2⟩, h3⟩ := ht
  refine ⟨⟨?_, ?_⟩, ?_⟩
  · rw [List.all_eq_true] at h1 ⊢
    exact fun x hx => h1 x (hsub.mem hx)
  · exact ((hsub.filter leafB).map T.id).nodup h2
  · rw [List.all_eq_true] at h3 ⊢
    exact fun x hx => h3 x (hsub.mem hx)
theorem tile_top {t : T} (hs : sz t ≤ 999) (ht : tileB t = true) : wellT t = true ∧ fitB t = true := by
  unfold tileB at ht
  rw [may_is (by omega)] at ht
  unfold rmayT at ht
  simp only [Bool.and_eq_true] at ht
  have hm : t ∈ preT t := by rw [preT_eq]; exact List.mem_cons_self ..
  exact ⟨List.all_eq_true.1 ht.1.1 t hm, List.all_eq_true.1 ht.2 t hm⟩
end Go.Proofs.YthnoogmjlkgnbaaDoor
/- What tiles has a text of its own. -/
namespace Go.Proofs.YthnoogmjlkgnbaaDoor
open Go.RowKit

theorem ok_rect {r : R} (h : mayB r = true) : okR r := by
  unfold mayB extB at h
  simp only [Bool.and_eq_true, decide_eq_true_eq] at h
  unfold okR okN
  omega
theorem ok_tile (N : Nat) : ∀ t : T, sz t ≤ N → sz t ≤ 999 → tileB t = true → OkB t := by
  induction N with
  | zero => intro t h; have := sz_pos t; omega
  | succ N ih =>
    intro t hN hs ht
    have hw := (tile_top hs ht).1
    have hkid : ∀ u ∈ t.kids, OkB u := fun u hu => by
      obtain ⟨k, hk⟩ := List.getElem?_of_mem hu
      have := sz_kid hk
      exact ih u (by omega) (by omega) (tile_kid hs ht hk)
    unfold wellT wellB at hw
    simp only [Bool.and_eq_true, Bool.or_eq_true, decide_eq_true_eq] at hw
    obtain ⟨k, r, i, l⟩ := t
    simp only [T.k, T.r, T.id, T.kids] at hw hkid
    obtain ⟨h1, ⟨rfl, h3, h4⟩ | ⟨h2, rfl, h4⟩⟩ := hw
    · obtain rfl := List.eq_nil_of_length_eq_zero h4
      exact .leaf r i (ok_rect h1) ⟨h3.1, h3.2⟩
    · exact .kids k r l h2 (ok_rect h1) h4 hkid
theorem text_inj {t u : T} (hs : sz t ≤ 999) (hs' : sz u ≤ 999) (ht : tileB t = true) (hu : tileB u = true) (h : Sash.Sum.putL (bodyT t) = Sash.Sum.putL (bodyT u)) : t = u :=
  body_inj (ok_tile _ t (Nat.le_refl _) hs ht) (ok_tile _ u (Nat.le_refl _) hs' hu) (putL_inj h)
theorem body_ne (t : T) : bodyT t ≠ [] := by
  rw [bodyT_eq]
  unfold headL
  simp
end Go.Proofs.YthnoogmjlkgnbaaDoor
/- print's body: a tree's text, told piece by piece. -/
namespace Go.Proofs.YthnoogmjlkgnbaaDoor
open Go.RowKit
open Sash.Num (dig dig_len)

abbrev D7 (b : Nat) (c : C) (W : World) : Prop := W.cell? ⟨b, 0, none⟩ = some (.int .u8 c.k) ∧ W.cell? ⟨b, 1, none⟩ = some (.int .i64 c.r.x) ∧ W.cell? ⟨b, 2, none⟩ = some (.int .i64 c.r.y) ∧ W.cell? ⟨b, 3, none⟩ = some (.int .i64 c.r.w) ∧ W.cell? ⟨b, 4, none⟩ = some (.int .i64 c.r.h) ∧ W.cell? ⟨b, 5, none⟩ = some (.int .i64 c.id) ∧ W.cell? ⟨b, 6, none⟩ = some (.slice c.a c.n c.cap)
theorem box_heap (w : World) (c : C) : (w.alloc (cbox c)).heap[w.heap.size]? = some (cbox c) := Array.getElem?_push_size
theorem box_cells {W : World} {g : Nat} {c : C} (h : W.heap[g]? = some (cbox c)) : D7 g c W := by
  refine ⟨?_, ?_, ?_, ?_, ?_, ?_, ?_⟩ <;> (rw [Lib.cell_of_heap h]; rfl)
theorem kept_box {b g : Nat} {c : C} {W W' : World} (hk : Kept b W W') (hne : g ≠ b) (h : W.heap[g]? = some (cbox c)) : W'.heap[g]? = some (cbox c) :=
  hk g _ h (by simpa using hne) (fun cs fz e => by cases e)
theorem box_lt {W : World} {g : Nat} {c : C} (h : W.heap[g]? = some (cbox c)) : g < W.heap.size := by
  rcases Nat.lt_or_ge g W.heap.size with h' | h'
  · exact h'
  · rw [Array.getElem?_eq_none h'] at h; cases h

/-- What stands while a cell in the block g is told to the body in b. -/
structure TS (w : World) (B b g : Nat) (c : C) (l : List UInt8) (W : World) : Prop where
  bl : Bl B b l W
  below : Below B w W
  le : B ≤ W.heap.size
  kept : Kept b w W
  box : W.heap[g]? = some (cbox c)
  ne : g ≠ b
theorem TS.up {w : World} {B b g : Nat} {c : C} {l : List UInt8} {W W' : World} (h : TS w B b g c l W) (hb : Below W.heap.size W W') : TS w B b g c l W' :=
  ⟨h.bl.up hb, h.below.trans (hb.mono h.le), Nat.le_trans h.le hb.size, h.kept.trans (kept_up hb), (hb.block g (box_lt h.box)).trans h.box, h.ne⟩
theorem TS.told {w : World} {B b g : Nat} {c : C} {l l' : List UInt8} {W W' : World} (h : TS w B b g c l W) (h1 : Bl B b l' W') (h2 : Below B W W') (h3 : Kept b W W') : TS w B b g c l' W' :=
  ⟨h1, h.below.trans h2, Nat.le_trans h.le h2.size, h.kept.trans h3, kept_box h3 h.ne h.box, h.ne⟩
theorem TS.new {w : World} {B b : Nat} {l : List UInt8} (c : C) (h : Bl B b l w) (hB : B ≤ w.heap.size) : TS w B b w.heap.size c l (w.alloc (cbox c)) :=
  ⟨h.up ((Below.refl _ _).alloc (Nat.le_refl _) _), (Below.refl _ _).alloc hB _, by simp; omega, kept_up ((Below.refl _ _).alloc (Nat.le_refl _) _), box_heap w c, by have := h.lt; omega⟩
theorem TS.d7 {w : World} {B b g : Nat} {c : C} {l : List UInt8} {W : World} (h : TS w B b g c l W) : D7 g c W := box_cells h.box

theorem bodyK_len1 {l : List T} (h : l ≠ []) : (bodyK l).length + 1 ≤ 64 * szL l := by
  cases l with
  | nil => exact absurd rfl h
  | cons t l =>
    have h1 := body_len t
    have h2 := rest_len l
    rw [bodyK, szL, List.length_append]
    omega
/-- What telling a piece answers. -/
def Told (B b : Nat) (l : List UInt8) (w : World) (e : Ending) (w' : World) : Prop := e = .returned (.tuple #[]) ∧ Bl B b l w' ∧ Below B w w' ∧ Kept b w w'
/-- A cell of at most so many cells can be told. -/
def Tells (N : Nat) : Prop := ∀ (t : T) (c : C) (B b : Nat) (l : List UInt8) (w0 w : World), sz t ≤ N → OkB t → Is w0 c t → w0.heap.size ≤ B → Below w0.heap.size w0 w → B ≤ w.heap.size → Tab w0 → Bl B b l w → l.length + 64 * sz t ≤ 5000000 →
    Calls Tryd.prog 25 #[bptr b, cval c] w (Told B b (l ++ bodyT t) w)

set_option maxRecDepth 100000 in
set_option maxHeartbeats 4000000 in
theorem tellKids_any {N : Nat} (ih : Tells N) (ts : List T) (v : Value) (B b : Nat) (l : List UInt8) (w0 w : World) (hN : ∀ t ∈ ts, sz t ≤ N) (hok : ∀ t ∈ ts, OkB t) (hr : TRow w0 v ts) (hB0 : w0.heap.size ≤ B) (hb0 : Below w0.heap.size w0 w) (hB : B ≤ w.heap.size) (htab : Tab w0) (hbl : Bl B b l w) (hlen : l.length + 64 * szL ts ≤ 5000000) :
    Calls Tryd.prog 39 #[bptr b, v] w (Told B b (l ++ bodyK ts) w) := by
  obtain ⟨a, cap, rfl⟩ := hr.shape
  have hll : ts.length ≤ 5000000 := by have := szL_len ts; omega
  have HR := Lib.hid hr
  have HN := Lib.hid hN
  have HOK := Lib.hid hok
  have HBL := Lib.hid hbl
  have H0 := Lib.hid hb0
  clear hr hN hbl hb0 hok
  go_enter Tryd.func39, Tryd.ntmps39
  go_wp2
  go_loopg [8] (ts.length + 1) (fun g i wr => ∃ k : Nat, g + k = ts.length + 1 ∧ k ≤ ts.length ∧ i = .int .i64 k ∧ Bl B b (l ++ bodyK (ts.take k)) wr ∧ Below B w wr ∧ Kept b w wr)
  case atStart => exact ⟨0, by omega, by omega, rfl, by simpa [bodyK] using HBL.out, Below.refl _ _, Lib.OthersKept.refl _ _ _⟩
  case round =>
    obtain ⟨k, hg, hk, rfl, hbl, hbw, hkw⟩ := hrel
    have HG := Lib.hid hg
    have HL := Lib.hid hbl
    have HW := Lib.hid hbw
    have HK := Lib.hid hkw
    clear hg hbl hbw hkw
    have HU := Lib.hid (H0.out.trans (HW.out.mono hB0))
    by_cases hlt : k < ts.length
    · obtain ⟨b1, o1, rfl, hf⟩ := HR.out.place (by omega)
      obtain ⟨u, hu⟩ : ∃ u, ts[k]? = some u := ⟨_, List.getElem?_eq_getElem hlt⟩
      obtain ⟨x, hx, hix⟩ := hf k u hu
      clear hf
      obtain ⟨c0, c1, c2, c3, c4, c5, c6⟩ := hx.up HU.out
      have S0 := Lib.hid (TS.new x HL.out (Nat.le_trans hB HW.out.size))
      have HX := Lib.hid hix
      have hzt := szL_take_succ hu
      have hzl := szL_take_le ts (k + 1)
      have hkl := bodyK_len (ts.take k)
      have HZ := Lib.hid (show sz u ≤ N from HN.out u (List.mem_of_getElem? hu))
      have HO := Lib.hid (show OkB u from HOK.out u (List.mem_of_getElem? hu))
      have HST := Lib.hid (bodyK_take hu)
      clear hix hx hu
      by_cases h0 : k = 0
      · have d0 : decide ((0 : Int) < (k : Int)) = false := decide_eq_false (by omega)
        have d1 : decide (0 < k) = false := decide_eq_false (by omega)
        have d2 : (0 < k) = False := eq_false (by omega)
        have HE : Hid (l ++ bodyK (ts.take k) ++ bodyT u = l ++ bodyK (ts.take (k + 1))) := Lib.hid (by rw [HST.out, if_pos h0, h0]; simp [bodyK])
        have hl2 : (l ++ bodyK (ts.take k)).length + 64 * sz u ≤ 5000000 := by rw [List.length_append]; omega
        clear h0
        go_upto_region 5 with (fail)
        change Code.wp _ _ _ _ (wr.alloc (cbox x))
        generalize wr.alloc (cbox x) = W1 at S0 ⊢
        clear c0 c1 c2 c3 c4 c5 c6
        obtain ⟨c0, c1, c2, c3, c4, c5, c6⟩ := S0.out.d7
        have HC := Lib.hid (ih u x B b _ w0 W1 HZ.out HO.out HX.out hB0 (HU.out.trans (S0.out.below.mono hB0)) S0.out.le htab S0.out.bl hl2)
        rw [HE.out] at HC
        go_wp2_with fail
        refine HC.out.mono ?_
        rintro e w2 ⟨rfl, h1, h2, h3⟩
        have S2 := Lib.hid (S0.out.told h1 h2 h3)
        clear h1 h2 h3 c0 c1 c2 c3 c4 c5 c6
        go_wp2
        go_roundg (gk - 1)
        case measure => have := HG.out; omega
        case rel => exact ⟨k + 1, by have := HG.out; omega, by omega, by go_num, S2.out.bl, HW.out.trans S2.out.below, HK.out.trans S2.out.kept⟩
      · have d0 : decide ((0 : Int) < (k : Int)) = true := decide_eq_true (by omega)
        have d1 : decide (0 < k) = true := decide_eq_true (by omega)
        have d2 : (0 < k) = True := eq_true (by omega)
        have HE : Hid (l ++ bodyK (ts.take k) ++ [44] ++ bodyT u = l ++ bodyK (ts.take (k + 1))) := Lib.hid (by rw [HST.out, if_neg h0]; simp)
        have hl2 : (l ++ bodyK (ts.take k) ++ [44]).length + 64 * sz u ≤ 5000000 := by
          have := bodyK_len1 (show ts.take k ≠ [] from fun e => by have h := congrArg List.length e; rw [List.length_take, List.length_nil] at h; omega)
          rw [List.length_append, List.length_append]
          simp only [List.length_singleton]
          omega
        have hl1 : (l ++ bodyK (ts.take k)).length + 1 ≤ 10000000 := by rw [List.length_append]; omega
        clear h0
        go_upto_region 4 with (fail)
        change Code.wp _ _ _ _ (wr.alloc (cbox x))
        generalize wr.alloc (cbox x) = W1 at S0 ⊢
        clear c0 c1 c2 c3 c4 c5 c6
        have HWR := Lib.hid (write_any B b _ ⟨#[44]⟩ W1 S0.out.bl hl1 S0.out.le)
        go_wp2_with fail
        refine HWR.out.mono ?_
        rintro e w2 ⟨⟨v2, rfl⟩, h1, h2, h3⟩
        have S2 := Lib.hid (S0.out.told h1 h2 h3)
        clear h1 h2 h3
        obtain ⟨c0, c1, c2, c3, c4, c5, c6⟩ := S2.out.d7
        have HC := Lib.hid (ih u x B b _ w0 w2 HZ.out HO.out HX.out hB0 (HU.out.trans (S2.out.below.mono hB0)) S2.out.le htab S2.out.bl hl2)
        go_wp2_with fail
        refine HC.out.mono ?_
        rintro e w3 ⟨rfl, h1, h2, h3⟩
        have S3 := Lib.hid (S2.out.told h1 h2 h3)
        clear h1 h2 h3 c0 c1 c2 c3 c4 c5 c6
        go_wp2
        go_roundg (gk - 1)
        case measure => have := HG.out; omega
        case rel => exact ⟨k + 1, by have := HG.out; omega, by omega, by go_num, by have := S3.out.bl; rw [← HE.out]; exact this, HW.out.trans S3.out.below, HK.out.trans S3.out.kept⟩
    · obtain rfl : k = ts.length := by omega
      have hkl2 : ((ts.length : Int) < (ts.length : Int)) = False := by simp
      go_wp2
      go_end0
      exact ⟨rfl, by have := HL.out; rwa [List.take_length] at this, HW.out, HK.out⟩
end Go.Proofs.YthnoogmjlkgnbaaDoor
