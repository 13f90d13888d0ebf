/- Texts of this seat, 3 in one file. -/
import Derived.Test.YtcdiogifgemjbaaGreatG07
import Derived.Test.YtcdiogifgemjbaaGreatG06
import Derived.Test.YtcdiogifgemjbaaGreatG04
import Derived.Test.YtcdiogifgemjbaaGreatG05
import Derived.Laws.ResultCell
/- The same tree in new memory. -/
namespace Go.Proofs.YtcdiogifgemjbaaGreat
open Go.RowKit

def FreshSays (t : T) (w : World) (e : Ending) (w' : World) : Prop := ∃ d S, e = .returned (cval d) ∧ OwnT w' w.heap.size d t S ∧ S.Nodup ∧ Below w.heap.size w w'

/-- What was copied: its kids' rows are as they were, its own cell is new. -/
theorem fresh_end {w wr : World} {k : Int} {r : R} {id : Int} {a : Option Addr} {cap : Nat} {cs : List C} {l : List T} {Ss : List (List Nat)} (hb : Below w.heap.size w wr) (hsz : w.heap.size + 2 ≤ wr.heap.size) (h : Forest wr (w.heap.size + 2) (.slice a cs.length cap) cs l Ss) (hk : 0 ≤ k ∧ k ≤ 255) (hr : r.fits) (hi : fits id) (hl : l.length ≤ 1954687338211) :
    OwnT (put7 (wr.setCell ⟨w.heap.size, 6, none⟩ (.slice a cs.length cap)) (w.heap.size + 1) ⟨k, r, id, a, cs.length, cap⟩) w.heap.size ⟨k, r, id, a, cs.length, cap⟩ (.node k r id l) (blk (.slice a cs.length cap) ++ Ss.flatten) ∧ (blk (.slice a cs.length cap) ++ Ss.flatten).Nodup ∧ Below w.heap.size w (put7 (wr.setCell ⟨w.heap.size, 6, none⟩ (.slice a cs.length cap)) (w.heap.size + 1) ⟨k, r, id, a, cs.length, cap⟩) := by
  have hsame : ∀ j, w.heap.size + 2 ≤ j → (put7 (wr.setCell ⟨w.heap.size, 6, none⟩ (.slice a cs.length cap)) (w.heap.size + 1) ⟨k, r, id, a, cs.length, cap⟩).heap[j]? = wr.heap[j]? := fun j hj => by
    rw [heap_put7 (by omega), Below.heap_setCell wr ⟨w.heap.size, 6, none⟩ _ j (by simp; omega)]
  refine ⟨?_, ?_, ?_⟩
  · refine .mk ⟨k, r, id, a, cs.length, cap⟩ l cs Ss ⟨hk, hr, hi, by simp only; rw [h.len]; exact hl⟩ ((ownC_kept h.row fun g hg => hsame g (own_block h.row hg).1).lower (by omega)) h.len h.slen fun j x t S hx ht hS => ?_
    exact ((h.each j x t S hx ht hS).frame fun m hm => hsame m ((h.each j x t S hx ht hS).ge m hm).1).lower (by omega)
  · rw [List.nodup_append]
    refine ⟨?_, h.nodup, fun x hx y hy e => ?_⟩
    · unfold blk; split <;> simp
    · subst e
      unfold blk at hx
      split at hx
      · rename_i g hg
        simp at hx; subst hx
        exact h.apart _ hg hy
      · cases hx
  · exact below_put7 (hb.setCell (Nat.le_refl _) _) (by omega) _

abbrev freshW (w : World) (c : C) : World := (w.alloc (cbox c)).alloc zeroBox

set_option maxRecDepth 100000 in
theorem fresh_any (N : Nat) : ∀ (t : T) (c : C) (w : World), sz t ≤ N → Is w c t → Calls Tryz.prog 32 #[cval c] w (FreshSays t w) := by
  induction N with
  | zero => intro t c w h; have := sz_pos t; omega
  | succ N ih =>
    intro t c w hs hi
    have HFINE := Lib.hid hi.fine
    have HR := Lib.hid hi.row
    have HSP := Lib.hid hi.split
    have hn := hi.n
    have hfn := hi.len
    obtain ⟨ck, cr, cid, ca, cn, ccap⟩ := c
    simp only at hn
    subst hn
    clear hi
    have HS := Lib.hid hs
    have HIH := Lib.hid ih
    clear hs ih
    have BX : Hid (Box7 (freshW w ⟨ck, cr, cid, ca, t.kids.length, ccap⟩) w.heap.size ⟨ck, cr, cid, ca, t.kids.length, ccap⟩) := Lib.hid ((Box7.new w _).up ((Below.refl _ _).alloc (Nat.le_refl _) _))
    have ZX : Hid (Zero7 (freshW w ⟨ck, cr, cid, ca, t.kids.length, ccap⟩) (w.heap.size + 1)) := Lib.hid (by
      have := zero_new (w.alloc (cbox ⟨ck, cr, cid, ca, t.kids.length, ccap⟩))
      simpa using this)
    have BW : Hid (Below w.heap.size w (freshW w ⟨ck, cr, cid, ca, t.kids.length, ccap⟩)) := ((Below.refl _ _).alloc (Nat.le_refl _) _).alloc (by simp) _
    have SW : Hid ((freshW w ⟨ck, cr, cid, ca, t.kids.length, ccap⟩).heap.size = w.heap.size + 2) := Lib.hid (by simp)
    go_enter Tryz.func32, Tryz.ntmps32
    go_wp2
    go_loopg [3, 9] (t.kids.length + 1) (fun g v i wr => ∃ (k : Nat) (cs : List C) (Ss : List (List Nat)), g + k = t.kids.length + 1 ∧ k ≤ t.kids.length ∧ i = .int .i64 k ∧ Forest wr (freshW w ⟨ck, cr, cid, ca, t.kids.length, ccap⟩).heap.size v cs (t.kids.take k) Ss ∧ Below (freshW w ⟨ck, cr, cid, ca, t.kids.length, ccap⟩).heap.size (freshW w ⟨ck, cr, cid, ca, t.kids.length, ccap⟩) wr)
    case atStart => exact ⟨0, [], [], by omega, by omega, rfl, by simpa using Forest.nil _ _, Below.refl _ _⟩
    case round =>
      obtain ⟨k, cs, Ss, hg, hk, rfl, hfo, hb⟩ := hrel
      have HG := Lib.hid hg
      have HF := Lib.hid hfo
      have HB := Lib.hid hb
      clear hg hfo hb
      have HBW := Lib.hid (BW.out.trans (HB.out.mono BW.out.size))
      by_cases hlt : k < t.kids.length
      · have hlti : (k : Int) < (t.kids.length : Int) := by omega
        obtain ⟨b, o, rfl, hf⟩ := HR.out.place (by omega)
        obtain ⟨u, hu⟩ : ∃ u, t.kids[k]? = some u := ⟨_, List.getElem?_eq_getElem hlt⟩
        obtain ⟨x, hx, hix⟩ := hf k u hu
        clear hf
        obtain ⟨c0, c1, c2, c3, c4, c5, c6⟩ := hx.up HBW.out
        have HA : Hid (Below wr.heap.size wr (wr.alloc (cbox x))) := (Below.refl _ _).alloc (Nat.le_refl _) _
        have HK := Lib.hid (HIH.out u x (wr.alloc (cbox x)) (by have := HS.out; have := sz_kid hu; omega) ((hix.up HBW.out).up HA.out))
        have HU := Lib.hid (take_snoc hu)
        clear hix hu hx
        go_wp2_with fail
        refine HK.out.mono ?_
        rintro e w2 ⟨d, S2, rfl, hown2, hnd2, hb2⟩
        have HO2 := Lib.hid hown2
        have HN2 := Lib.hid hnd2
        have HB12 := Lib.hid (below_one hb2)
        have HB2 := Lib.hid (HB.out.trans ((below_one hb2).mono HB.out.size))
        have HSZ2 : Hid (wr.heap.size + 1 ≤ w2.heap.size) := Lib.hid (by have := hb2.size; simpa using this)
        clear hown2 hnd2 hb2 c0 c1 c2 c3 c4 c5 c6
        have HLN : Hid (cs.length + [d].length ≤ 1954687338211) := Lib.hid (by have := HF.out.len; rw [List.length_take] at this; simp; omega)
        go_wp2_with (at_builtin; refine wpList_append_cells rfl _ _ rfl (freshW w ⟨ck, cr, cid, some ⟨b, o, none⟩, t.kids.length, ccap⟩).heap.size u3 _ cs [d] rfl (HF.out.row.up (HB12.out.trans ((Below.refl w2.heap.size w2).alloc (Nat.le_refl _) (cbox d) |>.mono HB12.out.size))) rfl (OwnC.one w2 0 (Nat.zero_le _) d).row (by simp) HLN.out (freshW w ⟨ck, cr, cid, some ⟨b, o, none⟩, t.kids.length, ccap⟩) (HB2.out.alloc HB2.out.size _) (Nat.le_refl _) ?_; intro g cap3 w3 hown3 hb3 hgr3 hpl3)
        have HF3 := Lib.hid (HF.out.add HB12.out HO2.out HN2.out (by simp) (by have := HB.out.size; exact Nat.le_trans this (by simp)) hown3 hgr3 hpl3)
        have HB3 := Lib.hid hb3
        clear hown3 hb3 hgr3 hpl3
        go_wp2
        go_roundg (gk - 1)
        case measure => have := HG.out; omega
        case rel =>
          refine ⟨k + 1, cs ++ [d], Ss ++ [S2], by have := HG.out; omega, by omega, by go_num, ?_, HB3.out⟩
          rw [HU.out]
          simpa using HF3.out
      · obtain rfl : k = t.kids.length := by omega
        have hkl : ((t.kids.length : Int) < (t.kids.length : Int)) = False := by simp
        have HFA : Hid (Forest wr (freshW w ⟨ck, cr, cid, ca, t.kids.length, ccap⟩).heap.size u3 cs t.kids Ss) := Lib.hid (by have := HF.out; rw [List.take_length] at this; exact this)
        obtain ⟨a', cap', rfl⟩ := HF.out.row.row.shape
        have HBX := Lib.hid (BX.out.up HB.out)
        have HZX := Lib.hid (zero_up ZX.out HB.out)
        obtain ⟨c0, c1, c2, c3, c4, c5, c6⟩ := HBX.out.cat
        simp only [Nat.zero_add] at c1 c2 c3 c4 c5 c6
        have g6 := HBX.out.free 6
        obtain ⟨⟨z0, z1, z2, z3, z4, z5, z6⟩, f0, f1, f2, f3, f4, f5, f6⟩ := zero_parts HZX.out
        go_wp2
        (try simp only [Exit.inBlock, Exit.then])
        have hset : (wr.setCell ⟨w.heap.size, 6, none⟩ (.slice a' cs.length cap')).heap[w.heap.size + 1]? = wr.heap[w.heap.size + 1]? := Below.heap_setCell wr ⟨w.heap.size, 6, none⟩ _ _ (by simp)
        have hz2 : Box7 (wr.setCell ⟨w.heap.size, 6, none⟩ (.slice a' cs.length cap')) (w.heap.size + 1) ⟨0, ⟨0, 0, 0, 0⟩, 0, none, 0, 0⟩ := hset.trans HZX.out
        refine bodyPost_ret (results_cell1 rfl _ _ (w.heap.size + 1) ⟨ck, cr, cid, a', cs.length, cap'⟩ rfl (hz2.put ⟨ck, cr, cid, a', cs.length, cap'⟩)) rfl ?_
        obtain ⟨e1, e2, e3, -⟩ := HSP.out
        have hend := fresh_end (k := ck) (r := cr) (id := cid) HBW.out (by have := HB.out.size; have := SW.out; omega) (by rw [← SW.out]; exact HFA.out) HFINE.out.1 HFINE.out.2.1 HFINE.out.2.2.1 hfn
        refine ⟨⟨ck, cr, cid, a', cs.length, cap'⟩, blk (.slice a' cs.length cap') ++ Ss.flatten, rfl, ?_, hend.2.1, hend.2.2⟩
        rw [T.eta t, e1, e2, e3]
        exact hend.1
end Go.Proofs.YtcdiogifgemjbaaGreat
/- The cell at a path, as it stands there. -/
namespace Go.Proofs.YtcdiogifgemjbaaGreat
open Go.RowKit

/-- One step of a path. -/
def StepSays (w0 : World) (t : T) (k : Int) (b : Nat) (W : World) (e : Ending) (w' : World) : Prop :=
  match kidAt t k with
  | some u => ∃ y, e = .returned (.bool false) ∧ Is w0 y u ∧ w' = put7 W b y
  | none => e = .returned (.bool true) ∧ w' = W
theorem step_some {w0 : World} {t u : T} {k : Int} {b : Nat} {W w' : World} {e : Ending} {y : C} (h : kidAt t k = some u) (he : e = .returned (.bool false)) (hi : Is w0 y u) (hw : w' = put7 W b y) : StepSays w0 t k b W e w' := by
  unfold StepSays; rw [h]; exact ⟨y, he, hi, hw⟩
theorem step_none {w0 : World} {t : T} {k : Int} {b : Nat} {W w' : World} {e : Ending} (h : kidAt t k = none) (he : e = .returned (.bool true)) (hw : w' = W) : StepSays w0 t k b W e w' := by
  unfold StepSays; rw [h]; exact ⟨he, hw⟩

set_option maxRecDepth 100000 in
theorem fol1_any (w0 : World) (t : T) (x : C) (k : Int) (b : Nat) (W : World) (hb0 : Below w0.heap.size w0 W) (hb : w0.heap.size ≤ b) (hx : Box7 W b x) (hi : Is w0 x t) :
    Calls Tryz.prog 49 #[.int .i64 k, .pointer (some ⟨b, 0, none⟩)] W (StepSays w0 t k b W) := by
  obtain ⟨c0, c1, c2, c3, c4, c5, c6⟩ := hx.cat
  simp only [Nat.zero_add] at c1 c2 c3 c4 c5 c6
  have f0 := hx.free 0
  have f1 := hx.free 1
  have f2 := hx.free 2
  have f3 := hx.free 3
  have f4 := hx.free 4
  have f5 := hx.free 5
  have f6 := hx.free 6
  have hn := hi.n
  have HR := Lib.hid hi.row
  obtain ⟨xk, xr, xid, xa, xn, xcap⟩ := x
  simp only at hn
  subst hn
  simp only at c0 c1 c2 c3 c4 c5 c6
  clear hi hx
  cases hk : kidAt t k with
  | none =>
    have HK := Lib.hid hk
    rcases kid_none hk with h | h
    · have d0 : decide (k < 0) = true := decide_eq_true h
      clear hk
      go_enter Tryz.func49, Tryz.ntmps49
      go_wp2
      go_ret
      exact step_none HK.out rfl rfl
    · clear hk
      by_cases h0 : k < 0
      · have d0 : decide (k < 0) = true := decide_eq_true h0
        go_enter Tryz.func49, Tryz.ntmps49
        go_wp2
        go_ret
        exact step_none HK.out rfl rfl
      · have d0 : decide (k < 0) = false := decide_eq_false h0
        have d1 : decide ((t.kids.length : Int) ≤ k) = true := decide_eq_true h
        go_enter Tryz.func49, Tryz.ntmps49
        go_wp2
        go_ret
        exact step_none HK.out rfl rfl
  | some u =>
    have HK := Lib.hid hk
    obtain ⟨j, rfl, hj⟩ := kid_some hk
    have hjl : j < t.kids.length := (List.getElem?_eq_some_iff.1 hj).1
    obtain ⟨bb, o, rfl, hf⟩ := HR.out.place (by omega)
    obtain ⟨y, hy, hiy⟩ := hf j u hj
    clear hf hk hj
    have hbb : bb < w0.heap.size := hy.lt
    have hne : bb ≠ b := by omega
    obtain ⟨e0, e1, e2, e3, e4, e5, e6⟩ := hy.up hb0
    have HY := Lib.hid hiy
    clear hy hiy
    have d0 : decide ((j : Int) < 0) = false := decide_eq_false (by omega)
    have d1 : decide ((t.kids.length : Int) ≤ (j : Int)) = false := decide_eq_false (by omega)
    have d2 : decide (t.kids.length ≤ j) = false := decide_eq_false (by omega)
    go_enter Tryz.func49, Tryz.ntmps49
    go_wp2
    go_ret
    exact step_some HK.out rfl HY.out rfl
end Go.Proofs.YtcdiogifgemjbaaGreat
/- The cell at a path, as it stands there: all steps. -/
namespace Go.Proofs.YtcdiogifgemjbaaGreat
open Go.RowKit

theorem enters48 : Enters 49 := enters_of Tryz.func49 (by kernel_rfl) rfl

theorem set_gb (w : World) (b i : Nat) (v : Value) : w.grownBy (w.setCell ⟨b, i, none⟩ v) (some b) :=
  ⟨rfl, rfl, rfl, by simp [World.setCell], fun k _ hk => Below.heap_setCell w ⟨b, i, none⟩ v k (fun e => hk (by rw [e]))⟩
theorem put7_gb (w : World) (b : Nat) (c : C) : w.grownBy (put7 w b c) (some b) :=
  ((((((set_gb w b 0 _).trans (set_gb _ b 1 _)).trans (set_gb _ b 2 _)).trans (set_gb _ b 3 _)).trans (set_gb _ b 4 _)).trans (set_gb _ b 5 _)).trans (set_gb _ b 6 _)
theorem gb_low {w0 w w' : World} {b : Nat} (h0 : Below w0.heap.size w0 w) (h : w.grownBy w' (some b)) (hb : w0.heap.size ≤ b) : Below w0.heap.size w0 w' :=
  ⟨h.os.trans h0.os, h.tape.trans h0.tape, h.output.trans h0.output, Nat.le_trans h0.size h.size, fun k hk => (h.block k (Nat.lt_of_lt_of_le hk h0.size) (fun e => by cases e; omega)).trans (h0.block k hk)⟩

def PathSays (w0 : World) (t : T) (p : List Int) (b : Nat) (W : World) (e : Ending) (w' : World) : Prop :=
  W.grownBy w' (some b) ∧ match atT t p with
  | some u => ∃ y, e = .returned (.bool true) ∧ Is w0 y u ∧ Box7 w' b y
  | none => ∃ y, e = .returned (.bool false) ∧ Box7 w' b y
theorem path_some {w0 : World} {t u : T} {p : List Int} {b : Nat} {W w' : World} {e : Ending} {y : C} (h : atT t p = some u) (hg : W.grownBy w' (some b)) (he : e = .returned (.bool true)) (hi : Is w0 y u) (hb : Box7 w' b y) : PathSays w0 t p b W e w' := by
  unfold PathSays; rw [h]; exact ⟨hg, y, he, hi, hb⟩
theorem path_none {w0 : World} {t : T} {p : List Int} {b : Nat} {W w' : World} {e : Ending} {y : C} (h : atT t p = none) (hg : W.grownBy w' (some b)) (he : e = .returned (.bool false)) (hb : Box7 w' b y) : PathSays w0 t p b W e w' := by
  unfold PathSays; rw [h]; exact ⟨hg, y, he, hb⟩

set_option maxRecDepth 100000 in
theorem nonei_any (w0 : World) (t : T) (x : C) (v : Value) (p : List Int) (b : Nat) (w : World) (hb0 : Below w0.heap.size w0 w) (hb : w0.heap.size ≤ b) (hx : Box7 w b x) (hi : Is w0 x t) (hr : Row w0 v (ints p)) (hl : p.length ≤ 1000000) :
    Calls Tryz.prog 48 #[v, .func (.func 49) #[] #[.pointer (some ⟨b, 0, none⟩)]] w (PathSays w0 t p b w) := by
  have hent : ∀ (args : Array Value) (w : World), (callFunc 49 args).run Tryz.prog w = .ok (.enter 49 args) w := enters48
  obtain ⟨a, cap, rfl⟩ := row_shape hr
  have HR := Lib.hid hr
  have HB0 := Lib.hid hb0
  have HX := Lib.hid hx
  have HI := Lib.hid hi
  clear hr hb0 hx hi
  go_enter Tryz.func48, Tryz.ntmps48
  go_wp2
  go_loopg [9] (p.length + 1) (fun g i wr => ∃ (k : Nat) (u : T) (y : C), g + k = p.length + 1 ∧ k ≤ p.length ∧ i = .int .i64 k ∧ atT t (p.take k) = some u ∧ Is w0 y u ∧ Box7 wr b y ∧ w.grownBy wr (some b))
  case atStart => exact ⟨0, t, x, by omega, by omega, rfl, by simp [atT], HI.out, HX.out, World.grownBy.refl _ _⟩
  case round =>
    obtain ⟨k, u, y, hg, hk, rfl, hat, hiy, hby, hgr⟩ := hrel
    have HG := Lib.hid hg
    have HAT := Lib.hid hat
    have HIY := Lib.hid hiy
    have HBY := Lib.hid hby
    have HGR := Lib.hid hgr
    clear hg hat hiy hby hgr
    by_cases hlt : k < p.length
    · have hlti : (k : Int) < (p.length : Int) := by omega
      obtain ⟨m, hm⟩ : ∃ m, p[k]? = some m := ⟨_, List.getElem?_eq_getElem hlt⟩
      obtain ⟨pb, po, rfl, hf⟩ := int_at HR.out (by omega)
      have HLW := Lib.hid (gb_low HB0.out HGR.out hb)
      have c0 := (HLW.out.cell (lt_of_cell (hf k m hm))).trans (hf k m hm)
      clear hf
      have HST := Lib.hid (atT_step HAT.out hm)
      have HC := Lib.hid (fol1_any w0 u y m b wr HLW.out hb HBY.out HIY.out)
      clear hm
      cases hkid : kidAt u m with
      | some u2 =>
        have HC2 : Hid (Calls Tryz.prog 49 #[.int .i64 m, .pointer (some ⟨b, 0, none⟩)] wr fun e w' => ∃ y2, e = .returned (.bool false) ∧ Is w0 y2 u2 ∧ w' = put7 wr b y2) := HC.out.mono fun e w' h => by
          unfold StepSays at h; rw [hkid] at h; exact h
        have HS2 := Lib.hid (HST.out.trans hkid)
        clear HC hkid
        go_wp2_with fail
        refine HC2.out.mono ?_
        rintro e w2 ⟨y2, rfl, hi2, rfl⟩
        have HI2 := Lib.hid hi2
        have HB2 := Lib.hid (HBY.out.put y2)
        have HG2 := Lib.hid (HGR.out.trans (put7_gb wr b y2))
        clear hi2
        generalize put7 wr b y2 = w2 at HB2 HG2 ⊢
        go_wp2
        go_roundg (gk - 1)
        case measure => have := HG.out; omega
        case rel => exact ⟨k + 1, u2, y2, by have := HG.out; omega, by omega, by go_num, HS2.out, HI2.out, HB2.out, HG2.out⟩
      | none =>
        have HC2 : Hid (Calls Tryz.prog 49 #[.int .i64 m, .pointer (some ⟨b, 0, none⟩)] wr fun e w' => e = .returned (.bool true) ∧ w' = wr) := HC.out.mono fun e w' h => by
          unfold StepSays at h; rw [hkid] at h; exact h
        have HS2 := Lib.hid (atT_stop (HST.out.trans hkid))
        clear HC hkid
        go_wp2_with fail
        refine HC2.out.mono ?_
        rintro e w2 ⟨rfl, hw2⟩
        rw [hw2]
        clear hw2 w2
        go_wp2
        go_ret
        exact path_none HS2.out HGR.out rfl HBY.out
    · obtain rfl : k = p.length := by omega
      have hkl : ((p.length : Int) < (p.length : Int)) = False := by simp
      have HF : Hid (atT t p = some u) := Lib.hid (by have := HAT.out; rw [List.take_length] at this; exact this)
      go_wp2
      go_ret
      exact path_some HF.out HGR.out rfl HIY.out HBY.out

/-- A cell and a bool, handed back. -/
theorem results_cell2 {fn : Func} {p u : Tmp} (h : fn.results = #[.cell p 26, .tmp u]) (tmps : Array Value) (w : World) (g : Nat) (c : C) (hp : tmps.getD p undef = .pointer (some ⟨g, 0, none⟩)) (hg : Box7 w g c) :
    (results fn tmps).run Tryz.prog w = .ok (.tuple #[cval c, tmps.getD u undef]) w := by
  have hg' : w.heap[g]? = some (cbox c) := hg
  have hl := run_loadVar_row (P := Tryz.prog) w g 26 26 _ (0, 0) _ hg' Tryz.underlying26 rfl (by kernel_rfl)
  rw [results_cell_tmp h, hp]
  simp [asAddr, hl, Result.andThen]
def FollowSays (w0 : World) (t : T) (p : List Int) (w : World) (e : Ending) (w' : World) : Prop :=
  Below w.heap.size w w' ∧ match atT t p with
  | some u => ∃ y, e = .returned (.tuple #[cval y, .bool true]) ∧ Is w0 y u
  | none => ∃ y : C, e = .returned (.tuple #[cval y, .bool false])
theorem fol_some {w0 : World} {t u : T} {p : List Int} {w w' : World} {e : Ending} {y : C} (h : atT t p = some u) (hb : Below w.heap.size w w') (he : e = .returned (.tuple #[cval y, .bool true])) (hi : Is w0 y u) : FollowSays w0 t p w e w' := by
  unfold FollowSays; rw [h]; exact ⟨hb, y, he, hi⟩
theorem fol_none {w0 : World} {t : T} {p : List Int} {w w' : World} {e : Ending} {y : C} (h : atT t p = none) (hb : Below w.heap.size w w') (he : e = .returned (.tuple #[cval y, .bool false])) : FollowSays w0 t p w e w' := by
  unfold FollowSays; rw [h]; exact ⟨hb, y, he⟩

set_option maxRecDepth 100000 in
theorem follow_any (w0 : World) (t : T) (c : C) (v : Value) (p : List Int) (w : World) (hb0 : Below w0.heap.size w0 w) (hi : Is w0 c t) (hr : Row w0 v (ints p)) (hl : p.length ≤ 1000000) :
    Calls Tryz.prog 31 #[cval c, v] w (FollowSays w0 t p w) := by
  have B1 : Hid (Below w.heap.size w (((w.alloc (cbox c)).alloc zeroBox).alloc (cbox c))) := (((Below.refl _ _).alloc (Nat.le_refl _) _).alloc (by simp) _).alloc (by simp; omega) _
  have X1 : Hid (Box7 (((w.alloc (cbox c)).alloc zeroBox).alloc (cbox c)) (w.heap.size + 2) c) := Lib.hid (by
    have := Box7.new ((w.alloc (cbox c)).alloc zeroBox) c
    simpa using this)
  have Z1 : Hid (Zero7 (((w.alloc (cbox c)).alloc zeroBox).alloc (cbox c)) (w.heap.size + 1)) := Lib.hid (by
    have := zero_up (zero_new (w.alloc (cbox c))) ((Below.refl _ ((w.alloc (cbox c)).alloc zeroBox)).alloc (Nat.le_refl _) (cbox c))
    simpa using this)
  have HC := Lib.hid (nonei_any w0 t c v p (w.heap.size + 2) _ (hb0.trans (B1.out.mono hb0.size)) (by have := hb0.size; omega) X1.out hi hr hl)
  obtain ⟨a, cap, rfl⟩ := row_shape hr
  clear hi hr hb0
  cases hat : atT t p with
  | some u =>
    have HC2 : Hid (Calls Tryz.prog 48 #[.slice a p.length cap, .func (.func 49) #[] #[.pointer (some ⟨w.heap.size + 2, 0, none⟩)]] (((w.alloc (cbox c)).alloc zeroBox).alloc (cbox c)) fun e w' => ∃ y, e = .returned (.bool true) ∧ Is w0 y u ∧ Box7 w' (w.heap.size + 2) y ∧ (((w.alloc (cbox c)).alloc zeroBox).alloc (cbox c)).grownBy w' (some (w.heap.size + 2))) := HC.out.mono fun e w' h => by
      unfold PathSays at h; rw [hat] at h
      obtain ⟨hg, y, h1, h2, h3⟩ := h
      exact ⟨y, h1, h2, h3, hg⟩
    have HAT := Lib.hid hat
    clear HC hat
    go_enter Tryz.func31, Tryz.ntmps31
    go_wp2_with fail
    refine HC2.out.mono ?_
    rintro e w2 ⟨y, rfl, hiy, hby, hgr⟩
    have HI := Lib.hid hiy
    have HB := Lib.hid hby
    have HG := Lib.hid (gb_low B1.out hgr (by omega))
    have hz : Zero7 w2 (w.heap.size + 1) := (hgr.block _ (lt_of_block Z1.out) (by intro e; have := Option.some.inj e; omega)).trans Z1.out
    have HZ := Lib.hid hz
    obtain ⟨c0, c1, c2, c3, c4, c5, c6⟩ := hby.cat
    simp only [Nat.zero_add] at c1 c2 c3 c4 c5 c6
    obtain ⟨⟨z0, z1, z2, z3, z4, z5, z6⟩, f0, f1, f2, f3, f4, f5, f6⟩ := zero_parts hz
    clear hiy hby hgr hz
    go_wp2
    (try simp only [Exit.inBlock, Exit.then])
    refine bodyPost_ret (results_cell2 rfl _ _ (w.heap.size + 1) y rfl ((Box7.of_zero HZ.out).put y)) rfl ?_
    exact fol_some HAT.out (gb_low HG.out (put7_gb w2 (w.heap.size + 1) y) (by omega)) rfl HI.out
  | none =>
    have HC2 : Hid (Calls Tryz.prog 48 #[.slice a p.length cap, .func (.func 49) #[] #[.pointer (some ⟨w.heap.size + 2, 0, none⟩)]] (((w.alloc (cbox c)).alloc zeroBox).alloc (cbox c)) fun e w' => ∃ y, e = .returned (.bool false) ∧ Box7 w' (w.heap.size + 2) y ∧ (((w.alloc (cbox c)).alloc zeroBox).alloc (cbox c)).grownBy w' (some (w.heap.size + 2))) := HC.out.mono fun e w' h => by
      unfold PathSays at h; rw [hat] at h
      obtain ⟨hg, y, h1, h3⟩ := h
      exact ⟨y, h1, h3, hg⟩
    have HAT := Lib.hid hat
    clear HC hat
    go_enter Tryz.func31, Tryz.ntmps31
    go_wp2_with fail
    refine HC2.out.mono ?_
    rintro e w2 ⟨y, rfl, hby, hgr⟩
    have HB := Lib.hid hby
    have HG := Lib.hid (gb_low B1.out hgr (by omega))
    have hz : Zero7 w2 (w.heap.size + 1) := (hgr.block _ (lt_of_block Z1.out) (by intro e; have := Option.some.inj e; omega)).trans Z1.out
    have HZ := Lib.hid hz
    obtain ⟨c0, c1, c2, c3, c4, c5, c6⟩ := hby.cat
    simp only [Nat.zero_add] at c1 c2 c3 c4 c5 c6
    obtain ⟨⟨z0, z1, z2, z3, z4, z5, z6⟩, f0, f1, f2, f3, f4, f5, f6⟩ := zero_parts hz
    clear hby hgr hz
    go_wp2
    (try simp only [Exit.inBlock, Exit.then])
    refine bodyPost_ret (results_cell2 rfl _ _ (w.heap.size + 1) y rfl ((Box7.of_zero HZ.out).put y)) rfl ?_
    exact fol_none HAT.out (gb_low HG.out (put7_gb w2 (w.heap.size + 1) y) (by omega)) rfl
end Go.Proofs.YtcdiogifgemjbaaGreat
