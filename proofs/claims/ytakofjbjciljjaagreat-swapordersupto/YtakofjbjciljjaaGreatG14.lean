/- Texts of this seat, 3 in one file. -/
import Derived.Test.YtakofjbjciljjaaGreatG13
import Derived.Deep.RegionHeld3
import Derived.Test.YtakofjbjciljjaaGreatG06
import Derived.Test.YtakofjbjciljjaaGreatG09
/- The tree in which the leaves have other numbers: the program's answer. -/
namespace Go.Proofs.YtakofjbjciljjaaGreat
open Go.RowKit

abbrev Nm8 (n : Nat) (c : C) (v : Value) (W : World) : Prop := W.cell? ⟨n, 0, none⟩ = some (.int .u8 c.k) ∧ W.cell? ⟨n, 1, none⟩ = some (.int .i64 c.r.x) ∧ W.cell? ⟨n, 2, none⟩ = some (.int .i64 c.r.y) ∧ W.cell? ⟨n, 3, none⟩ = some (.int .i64 c.r.w) ∧ W.cell? ⟨n, 4, none⟩ = some (.int .i64 c.r.h) ∧ W.cell? ⟨n, 5, none⟩ = some (.int .i64 c.id) ∧ W.cell? ⟨n, 6, none⟩ = some (.slice c.a c.n c.cap) ∧ W.cell? ⟨n + 1, 0, none⟩ = some v
theorem nm8_of {n : Nat} {c : C} {v : Value} {W : World} (h : CAt W n 0 c) (h2 : W.cell? ⟨n + 1, 0, none⟩ = some v) : Nm8 n c v W := by
  obtain ⟨a0, a1, a2, a3, a4, a5, a6⟩ := h
  simp only [Nat.zero_add] at a1 a2 a3 a4 a5 a6
  exact ⟨a0, a1, a2, a3, a4, a5, a6, h2⟩
theorem nm8_up {n : Nat} {c : C} {v : Value} {W W' : World} (h : Nm8 n c v W) (hb : Below W.heap.size W W') : Nm8 n c v W' := by
  obtain ⟨a0, a1, a2, a3, a4, a5, a6, a7⟩ := h
  exact ⟨(hb.cell (lt_of_cell a0)).trans a0, (hb.cell (lt_of_cell a1)).trans a1, (hb.cell (lt_of_cell a2)).trans a2, (hb.cell (lt_of_cell a3)).trans a3, (hb.cell (lt_of_cell a4)).trans a4, (hb.cell (lt_of_cell a5)).trans a5, (hb.cell (lt_of_cell a6)).trans a6, (hb.cell (lt_of_cell a7)).trans a7⟩

theorem idsL_one (t : T) : idsL [t] = idsT t := by rw [idsL_cons]; simp [idsL, preL]
abbrev nmW (w : World) (c : C) (v : Value) : World := ((w.alloc (cbox c)).alloc (.cells #[v] 27)).alloc zeroBox

/-- What each leaves behind. -/
def NameDone (w W0 : World) (d : C) (nb mb rb : Nat) (t' : T) (W : World) : Prop := Below w.heap.size w W ∧ Zero7 W rb ∧ ∃ d' : C, CAt W nb 0 d' ∧ (∀ W', (∀ k, w.heap.size ≤ k → k ≠ rb → W'.heap[k]? = W.heap[k]?) → Is W' d' t')

set_option maxRecDepth 100000 in
set_option maxHeartbeats 1000000 in
theorem neach_any (w w3 : World) (t : T) (d : C) (S : List Nat) (base ib rb : Nat) (ids : List Int) (a : Option Addr) (cap : Nat) (hbase : w.heap.size ≤ base) (hb3 : Below w.heap.size w w3) (hown : OwnT w3 base d t S) (hnd : S.Nodup) (hd : d.fine)
    (hids : w3.cell? ⟨ib, 0, none⟩ = some (.slice a ids.length cap)) (hrow : Row w (.slice a ids.length cap) (ints ids)) (hfit : ∀ m ∈ ids, fits m) (hlen : ids.length = lvT t) (hm : lvT t ≤ 900000) (hz : Zero7 w3 rb) (hrb : rb < base) (hib : ib < base) :
    Calls Tryz.prog 47 #[.pointer (some ⟨w3.heap.size, 0, none⟩), .func (.func 48) #[] #[.pointer (some ⟨ib, 0, none⟩), .pointer (some ⟨w3.heap.size + 1, 0, none⟩)]] ((w3.alloc (cbox d)).alloc (.cells #[.int .i64 0] 3)) fun e w' => e = .returned (.tuple #[]) ∧ NameDone w w3 d w3.heap.size (w3.heap.size + 1) rb (nmT ids t) w' := by
  have A1 : Below w3.heap.size w3 (w3.alloc (cbox d)) := (Below.refl _ _).alloc (Nat.le_refl _) _
  have A2 : Below w3.heap.size w3 ((w3.alloc (cbox d)).alloc (.cells #[.int .i64 0] 3)) := A1.alloc (by simp) _
  have hsz0 : ((w3.alloc (cbox d)).alloc (.cells #[.int .i64 0] 3)).heap.size = w3.heap.size + 2 := by simp
  have hmet0 : Box1 ((w3.alloc (cbox d)).alloc (.cells #[.int .i64 0] 3)) (w3.heap.size + 1) (.int .i64 0) 3 := by
    have := Box1.new (w3.alloc (cbox d)) (.int .i64 0) 3
    simpa using this
  have hcat0 : CAt ((w3.alloc (cbox d)).alloc (.cells #[.int .i64 0] 3)) w3.heap.size 0 d := (cbox_new w3 d).up ((Below.refl _ _).alloc (Nat.le_refl _) _)
  have hbox0 : Box7 ((w3.alloc (cbox d)).alloc (.cells #[.int .i64 0] 3)) w3.heap.size d := (Box7.new w3 d).up ((Below.refl _ _).alloc (Nat.le_refl _) _)
  have hown0 := hown.up A2
  have hSlt : ∀ k ∈ S, base ≤ k ∧ k < w3.heap.size := hown.ge
  have hbel0 : Below w.heap.size w ((w3.alloc (cbox d)).alloc (.cells #[.int .i64 0] 3)) := hb3.trans (A2.mono hb3.size)
  have hids0 : ((w3.alloc (cbox d)).alloc (.cells #[.int .i64 0] 3)).cell? ⟨ib, 0, none⟩ = some (.slice a ids.length cap) := (A2.cell (lt_of_cell hids)).trans hids
  have hz0 : Zero7 ((w3.alloc (cbox d)).alloc (.cells #[.int .i64 0] 3)) rb := zero_up hz A2
  have hrl : rb < w3.heap.size := lt_of_block hz
  generalize ((w3.alloc (cbox d)).alloc (.cells #[.int .i64 0] 3)) = W0 at *
  obtain ⟨x, hx, hxb, hxo, hin, hadn⟩ := hown0.stands hnd w3.heap.size 0 hcat0 (fun hm => by have := (hSlt _ hm).2; omega)
  have hin' : ∀ a ∈ adT x, w.heap.size ≤ a.1 ∧ a.1 < w3.heap.size + 1 ∧ a.1 ≠ rb ∧ a.2 % 7 = 0 := fun p hp => by
    rcases hin p hp with rfl | ⟨h1, h2⟩
    · exact ⟨hb3.size, by simp, by simp; omega, rfl⟩
    · have := hSlt _ h1
      exact ⟨by omega, by omega, by omega, h2⟩
  have hfree : ∀ a ∈ adT x, ∀ o, W0.frozen? ⟨a.1, o, none⟩ = false := fun p hp o => by
    rcases hin p hp with rfl | ⟨h1, -⟩
    · exact hbox0.free o
    · exact hown0.free _ h1 o
  have hsub : ∀ a ∈ lfT x t, a ∈ adT x := fun p hp => (lf_sub x t).subset hp
  have hlnd : (lfT x t).Nodup := List.Sublist.nodup (lf_sub x t) hadn
  have hllen : (lfT x t).length = lvT t := hx.lf_len
  have hne : ∀ a ∈ lfT x t, a.1 ≠ w3.heap.size + 1 := fun p hp => by have := (hin' p (hsub p hp)).2.1; omega
  have hun : ∀ (j : Nat) (W : World), Met1 w W0 (w3.heap.size + 1) (lfT x t) ids j W → ∀ a ∈ adT x, ∀ i, i < 7 → i ≠ 5 → W.cell? ⟨a.1, a.2 + i, none⟩ = W0.cell? ⟨a.1, a.2 + i, none⟩ := fun j W hW p hp i hi hi5 => by
    refine hW.other _ _ (by have := (hin' p hp).2.1; omega) fun k q hk hq e => ?_
    have h1 := (hin' p hp).2.2.2
    have h2 := (hin' q (hsub q (List.mem_of_getElem? hq))).2.2.2
    omega
  have H := feach_any 48 enters33 #[.pointer (some ⟨ib, 0, none⟩), .pointer (some ⟨w3.heap.size + 1, 0, none⟩)] (fun j W => Met1 w W0 (w3.heap.size + 1) (lfT x t) ids j W) (sz t) x t 0 W0 (Nat.le_refl _)
    (fun j W hW => hx.lies_of fun p hp i hi => hun j W hW p hp i (by omega) (by omega))
    (fun j p W hp hW => by
      rw [Nat.zero_add] at hW ⊢
      have hpl := lt_of_get hp
      obtain ⟨m, hmm⟩ := get_of hlen (show j < lvT t by omega)
      have hpm := List.mem_of_getElem? hp
      obtain ⟨y, hy⟩ := hx.at_ p (hsub p hpm)
      have hold := hy.2.2.2.2.2.1
      have hcur : W.cell? ⟨p.1, p.2 + 5, none⟩ = some (.int .i64 y.id) := by
        rw [hW.other _ _ (hne p hpm) fun i q hi hq e => ?_]
        · exact hold
        · have hpq : q = p := by obtain ⟨q1, q2⟩ := q; obtain ⟨p1, p2⟩ := p; simp only at e; rw [Prod.mk.injEq]; omega
          subst hpq
          have hnd' := hlnd
          unfold List.Nodup at hnd'
          rw [List.pairwise_iff_getElem] at hnd'
          obtain ⟨h1, h1'⟩ := List.getElem?_eq_some_iff.1 hq
          obtain ⟨h2, h2'⟩ := List.getElem?_eq_some_iff.1 hp
          exact hnd' i j h1 h2 hi (h1'.trans h2'.symm)
      have hbne : ib ≠ w3.heap.size + 1 := by have := hown.is; have := hb3.size; have := lt_of_cell hids; simp only at this; omega
      refine (name1_any p.1 p.2 ib (w3.heap.size + 1) j m y.id ids a cap W ?_ (hrow.up hW.below) hmm hW.met hcur ((hW.free _ _).trans (hfree p (hsub p hpm) _)) (hne p hpm) (by omega)).mono ?_
      · rw [hW.other ib 0 hbne fun i q hi hq e => by omega]
        exact hids0
      · rintro e w' ⟨rfl, rfl⟩
        exact ⟨rfl, met_step hW hlnd hp hmm (by have := hb3.size; omega) (hin' p (hsub p hpm)).1 hne hold⟩)
    ⟨hbel0, fun i p m hi => by omega, fun b o _ _ => rfl, fun b o => rfl, fun k _ _ => rfl, hmet0⟩
  rw [Nat.zero_add, hxb, hxo, hllen] at H
  refine H.mono fun e W hh => ?_
  obtain ⟨he, hW⟩ := hh
  refine ⟨he, hW.below, ?_, ⟨d.k, d.r, if d.k = 1 then ids.headD 0 else d.id, d.a, d.n, d.cap⟩, ?_, fun W' hW' => ?_⟩
  · exact (hW.block rb (by omega) fun p hp => Ne.symm (hin' p (hsub p hp)).2.2.1).trans hz0
  · have hr := hx.rename (W := W) ids (by omega) hfit hadn (fun p hp i hi hi5 => hun _ W hW p hp i hi hi5) (fun p hp hno => hW.other _ _ (by have := (hin' p hp).2.1; omega) fun i q hi hq e => hno (by
      have hpq : q = p := by obtain ⟨q1, q2⟩ := q; obtain ⟨p1, p2⟩ := p; simp only at e; rw [Prod.mk.injEq]; omega
      subst hpq; exact List.mem_of_getElem? hq)) (fun i p m hp hm => hW.done i p m (by have := lt_of_get hp; omega) hp hm)
    have := hr.cat
    rw [hxb, hxo] at this
    exact this
  · have hr := hx.rename (W := W) ids (by omega) hfit hadn (fun p hp i hi hi5 => hun _ W hW p hp i hi hi5) (fun p hp hno => hW.other _ _ (by have := (hin' p hp).2.1; omega) fun i q hi hq e => hno (by
      have hpq : q = p := by obtain ⟨q1, q2⟩ := q; obtain ⟨p1, p2⟩ := p; simp only at e; rw [Prod.mk.injEq]; omega
      subst hpq; exact List.mem_of_getElem? hq)) (fun i p m hp hm => hW.done i p m (by have := lt_of_get hp; omega) hp hm)
    exact (hr.frame fun p hp i => World.cell?_of_block (a := ⟨p.1, p.2 + i, none⟩) (hW' p.1 (hin' p hp).1 (hin' p hp).2.2.1)).is

/-- A tree and whether there is one; it stands in memory that is new. -/
def TreeFar (r : Option T) (w : World) (e : Ending) (w' : World) : Prop := ∃ d, e = .returned (.tuple #[cval d, .bool r.isSome]) ∧ (∀ W', (∀ k, w.heap.size ≤ k → W'.heap[k]? = w'.heap[k]?) → Is W' d (r.getD zT)) ∧ Below w.heap.size w w'
theorem far_some {r : Option T} {u : T} {w w' : World} {e : Ending} {d : C} (h : r = some u) (he : e = .returned (.tuple #[cval d, .bool true])) (hi : ∀ W', (∀ k, w.heap.size ≤ k → W'.heap[k]? = w'.heap[k]?) → Is W' d u) (hb : Below w.heap.size w w') : TreeFar r w e w' := by
  subst h; exact ⟨d, he, hi, hb⟩
theorem far_none {r : Option T} {w w' : World} {e : Ending} (h : r = none) (he : e = .returned (.tuple #[cval zC, .bool false])) (hb : Below w.heap.size w w') : TreeFar r w e w' := by
  subst h; exact ⟨zC, he, fun W' _ => zero_is W', hb⟩
def nameR (ids : List Int) (t : T) : Option T := if ids.length = lvT t then some (nmT ids t) else none

set_option maxRecDepth 100000 in
set_option maxHeartbeats 2000000 in
theorem name_any (t : T) (c : C) (v : Value) (ids : List Int) (w : World) (hi : Is w c t) (hm : sz t ≤ 900000) (hr : Row w v (ints ids)) (hfit : ∀ m ∈ ids, fits m) : Calls Tryz.prog 32 #[cval c, v] w (TreeFar (nameR ids t) w) := by
  obtain ⟨a, cap, rfl⟩ := row_shape hr
  have hlv : lvT t ≤ 900000 := by rw [← panes_lv]; have := panes_len t; omega
  have A1 : Hid (Below w.heap.size w (nmW w c (.slice a ids.length cap))) := (((Below.refl _ _).alloc (Nat.le_refl _) _).alloc (by simp) _).alloc (by simp; omega) _
  have C1 : Hid (CAt (nmW w c (.slice a ids.length cap)) w.heap.size 0 c) := Lib.hid (((cbox_new w c).up ((Below.refl _ _).alloc (Nat.le_refl _) _)).up ((Below.refl _ _).alloc (Nat.le_refl _) _))
  have V1 : Hid ((nmW w c (.slice a ids.length cap)).cell? ⟨w.heap.size + 1, 0, none⟩ = some (.slice a ids.length cap)) := Lib.hid (by
    have h := cell_of_one (Box1.new (w.alloc (cbox c)) (.slice a ids.length cap) 27)
    have h2 := ((Below.refl _ ((w.alloc (cbox c)).alloc (.cells #[.slice a ids.length cap] 27))).alloc (Nat.le_refl _) zeroBox).cell (lt_of_cell h)
    have h3 := h2.trans h
    simpa using h3)
  have Z1 : Hid (Zero7 (nmW w c (.slice a ids.length cap)) (w.heap.size + 2)) := Lib.hid (by
    have := zero_new ((w.alloc (cbox c)).alloc (.cells #[.slice a ids.length cap] 27))
    simpa using this)
  have SZ1 : Hid ((nmW w c (.slice a ids.length cap)).heap.size = w.heap.size + 3) := Lib.hid (by simp)
  have HI := Lib.hid hi
  have HR := Lib.hid hr
  have HFT := Lib.hid hfit
  clear hi hr hfit
  go_enter Tryz.func32, Tryz.ntmps32
  go_wp2_with fail
  change Code.wp _ _ _ _ (nmW w c (.slice a ids.length cap))
  generalize nmW w c (.slice a ids.length cap) = W1 at A1 C1 V1 Z1 SZ1 ⊢
  have A2 : Hid (Below W1.drew.heap.size W1.drew (W1.drew.alloc (cbox c))) := Lib.hid ((Below.refl _ _).alloc (Nat.le_refl _) _)
  have BD : Hid (Below w.heap.size w W1.drew) := Lib.hid A1.out.drew
  have BA : Hid (Below w.heap.size w (W1.drew.alloc (cbox c))) := Lib.hid (BD.out.trans (A2.out.mono BD.out.size))
  have S0 : Hid (Nm8 w.heap.size c (.slice a ids.length cap) W1.drew) := Lib.hid (nm8_of C1.out V1.out)
  have S1 : Hid (Nm8 w.heap.size c (.slice a ids.length cap) (W1.drew.alloc (cbox c))) := Lib.hid (nm8_up S0.out A2.out)
  have TR : Hid (TRow (W1.drew.alloc (cbox c)) (.slice (some ⟨W1.heap.size, 0, none⟩) 1 1) [t]) := Lib.hid (trow_one (HI.out.up BD.out))
  have HLV := Lib.hid (leaves_any (.slice (some ⟨W1.heap.size, 0, none⟩) 1 1) [t] (W1.drew.alloc (cbox c)) TR.out (by simp [szL]; omega))
  rw [idsL_one] at HLV
  have HLN : Hid ((idsT t).length = lvT t) := Lib.hid (ids_len t)
  go_region_held3 (fun W => W.cell? ⟨w.heap.size, 0, none⟩ = some (.int .u8 c.k) ∧ W.cell? ⟨w.heap.size, 1, none⟩ = some (.int .i64 c.r.x) ∧ W.cell? ⟨w.heap.size, 2, none⟩ = some (.int .i64 c.r.y) ∧ W.cell? ⟨w.heap.size, 3, none⟩ = some (.int .i64 c.r.w) ∧ W.cell? ⟨w.heap.size, 4, none⟩ = some (.int .i64 c.r.h) ∧ W.cell? ⟨w.heap.size, 5, none⟩ = some (.int .i64 c.id) ∧ W.cell? ⟨w.heap.size, 6, none⟩ = some (.slice c.a c.n c.cap) ∧ W.cell? ⟨w.heap.size + 1, 0, none⟩ = some (.slice a ids.length cap)) (first | exact S0.out | exact S1.out | exact S2.out)
    (first
      | (go_at_call 25; refine HLV.out.mono ?_; rintro e w2 ⟨v2, rfl, hr2, hb2⟩; have B2 := Lib.hid (BA.out.trans (hb2.mono BA.out.size)); have S2 := Lib.hid (nm8_up S1.out hb2); have Z2 := Lib.hid (zero_up (zero_up (show Zero7 W1.drew (w.heap.size + 2) from Z1.out) A2.out) hb2); have C2 := Lib.hid (((show CAt W1.drew w.heap.size 0 c from C1.out).up A2.out).up hb2); obtain ⟨a2, cap2, rfl⟩ := row_shape hr2; clear hr2 hb2))
  clear S0 S1 HLV TR A2 BD BA C1 V1 Z1 A1
  rw [HLN.out]
  have V2 := Lib.hid S2.out.2.2.2.2.2.2.2
  by_cases hlen : ids.length = lvT t
  · have HRES : Hid (nameR ids t = some (nmT ids t)) := Lib.hid (by unfold nameR; rw [if_pos hlen])
    have d0 : ((lvT t : Int) != (ids.length : Int)) = false := by simp; omega
    have HEQ := Lib.hid hlen
    clear hlen
    obtain ⟨c0, c1, c2, c3, c4, c5, c6⟩ := C2.out
    simp only [Nat.zero_add] at c1 c2 c3 c4 c5 c6
    have HAT := Lib.hid (at_own t c w2 (HI.out.up B2.out))
    go_wp2_with fail
    refine HAT.out.mono ?_
    rintro e w3 ⟨d, S, rfl, hown, hnd, hb3⟩
    have B3 := Lib.hid (B2.out.trans (hb3.mono B2.out.size))
    have Z3 := Lib.hid (zero_up Z2.out hb3)
    have V3 := Lib.hid ((hb3.cell (lt_of_cell V2.out)).trans V2.out)
    have L2 : Hid (w.heap.size + 2 < w2.heap.size) := Lib.hid (lt_of_block Z2.out)
    have HNE := Lib.hid (neach_any w w3 t d S w2.heap.size (w.heap.size + 1) (w.heap.size + 2) ids a cap (by have := L2.out; omega) B3.out hown hnd hown.is.fine V3.out HR.out HFT.out HEQ.out (by omega) Z3.out L2.out (by have := L2.out; omega))
    clear hown hnd hb3 c0 c1 c2 c3 c4 c5 c6
    go_wp2_with fail
    refine HNE.out.mono ?_
    rintro e W5 ⟨rfl, hb5, hz5, d', hc5, his5⟩
    have B5 := Lib.hid hb5
    have Z5 := Lib.hid hz5
    have I5 := Lib.hid his5
    have L3 : Hid (w.heap.size + 2 < w3.heap.size) := Lib.hid (lt_of_block Z3.out)
    obtain ⟨c0, c1, c2, c3, c4, c5, c6⟩ := hc5
    simp only [Nat.zero_add] at c1 c2 c3 c4 c5 c6
    obtain ⟨⟨z0, z1, z2, z3, z4, z5, z6⟩, f0, f1, f2, f3, f4, f5, f6⟩ := zero_parts hz5
    clear hb5 hz5 his5
    go_wp2
    (try simp only [Exit.inBlock, Exit.then])
    refine bodyPost_ret (results_cell2 rfl _ (put7 W5 (w.heap.size + 2) d') (w.heap.size + 2) d' rfl ((Box7.of_zero Z5.out).put d')) rfl ?_
    exact far_some HRES.out rfl (fun W' hW' => I5.out W' fun k hk hkr => (hW' k hk).trans (heap_put7 hkr)) (below_put7 B5.out (by omega) d')
  · have HRES : Hid (nameR ids t = none) := Lib.hid (by unfold nameR; rw [if_neg hlen])
    have d0 : ((lvT t : Int) != (ids.length : Int)) = true := by simp; omega
    have d1 : (lvT t == ids.length) = false := by rw [beq_eq_false_iff_ne]; omega
    obtain ⟨⟨z0, z1, z2, z3, z4, z5, z6⟩, f0, f1, f2, f3, f4, f5, f6⟩ := zero_parts Z2.out
    clear hlen
    go_wp2
    (try simp only [Exit.inBlock, Exit.then])
    refine bodyPost_ret (results_cell2 rfl _ (put7 w2 (w.heap.size + 2) zC) (w.heap.size + 2) zC rfl ((Box7.of_zero Z2.out).put zC)) rfl ?_
    exact far_none HRES.out rfl (below_put7 B2.out (by omega) zC)
end Go.Proofs.YtakofjbjciljjaaGreat
/- The law FlatNames. -/
namespace Go.Proofs.YtakofjbjciljjaaGreat
open Go.RowKit

theorem mem_idsL {l : List T} {m : Int} (h : m ∈ idsL l) : ∃ (j : Nat) (u : T), l[j]? = some u ∧ m ∈ idsT u := by
  induction l with
  | nil => simp [idsL, preL] at h
  | cons t l ih =>
    rw [idsL_cons] at h
    rcases List.mem_append.1 h with h | h
    · exact ⟨0, t, rfl, h⟩
    · obtain ⟨j, u, h1, h2⟩ := ih h
      exact ⟨j + 1, u, by simpa using h1, h2⟩
theorem Is.ids {w : World} {c : C} {t : T} (h : Is w c t) : ∀ m ∈ idsT t, fits m := by
  induction h with
  | mk c ts cs row len fine each ih =>
    intro m hm
    rw [idsT_eq] at hm
    rcases List.mem_append.1 hm with hm | hm
    · have hm' : m ∈ (if c.k = 1 then [c.id] else []) := hm
      split at hm'
      · simp at hm'; subst hm'; exact fine.2.2.1
      · cases hm'
    · obtain ⟨j, u, hu, hmu⟩ := mem_idsL hm
      obtain ⟨x, hx⟩ := get_of len (lt_of_get hu)
      exact ih j x u hx hu m hmu
theorem same_self (t : T) : sameT t t = true := (sameT_iff t t).2 rfl
theorem eqI_self (p : List Int) : eqI p p = true := by simp [eqI]

/-- What is there behind the inner call. -/
structure Aft7 (W W9 : World) (b : C) (bk : Nat) (u : T) : Prop where
  below : Below W.heap.size W W9
  box : Box7 W9 bk b
  ans : Is W9 b u
theorem aft7_one {W w5 w6 : World} {b : C} {u : T} (h5 : Below W.heap.size W w5) (h6 : Below w5.heap.size w5 w6) (hi : ∀ W', (∀ k, w5.heap.size ≤ k → W'.heap[k]? = w6.heap[k]?) → Is W' b u) : Aft7 W (w6.alloc (cbox b)) b w6.heap.size u := by
  have ha : Below w6.heap.size w6 (w6.alloc (cbox b)) := (Below.refl _ _).alloc (Nat.le_refl _) _
  have h56 := h5.trans (h6.mono h5.size)
  exact ⟨h56.trans (ha.mono h56.size), Box7.new w6 b, (hi w6 fun _ _ => rfl).up ha⟩
theorem aft7_two {W w5 w6 : World} {b : C} {u : T} {z : Nat} (h5 : Below W.heap.size W w5) (hz : Zero7 w5 z) (hzl : W.heap.size ≤ z) (h6 : Below w5.heap.size w5 w6) (hi : ∀ W', (∀ k, w5.heap.size ≤ k → W'.heap[k]? = w6.heap[k]?) → Is W' b u) : Aft7 W (put7 w6 z b) b z u := by
  have hzs := lt_of_block hz
  exact ⟨below_put7 (h5.trans (h6.mono h5.size)) hzl b, (Box7.of_zero (zero_up hz h6)).put b, hi _ fun k hk => heap_put7 (by omega)⟩

abbrev CX (n m : Nat) (c d : C) (W : World) : Prop := (W.cell? ⟨n, 0, none⟩ = some (.int .u8 c.k) ∧ W.cell? ⟨n, 1, none⟩ = some (.int .i64 c.r.x) ∧ W.cell? ⟨n, 2, none⟩ = some (.int .i64 c.r.y) ∧ W.cell? ⟨n, 3, none⟩ = some (.int .i64 c.r.w) ∧ W.cell? ⟨n, 4, none⟩ = some (.int .i64 c.r.h) ∧ W.cell? ⟨n, 5, none⟩ = some (.int .i64 c.id) ∧ W.cell? ⟨n, 6, none⟩ = some (.slice c.a c.n c.cap)) ∧ (W.cell? ⟨m, 0, none⟩ = some (.int .u8 d.k) ∧ W.cell? ⟨m, 1, none⟩ = some (.int .i64 d.r.x) ∧ W.cell? ⟨m, 2, none⟩ = some (.int .i64 d.r.y) ∧ W.cell? ⟨m, 3, none⟩ = some (.int .i64 d.r.w) ∧ W.cell? ⟨m, 4, none⟩ = some (.int .i64 d.r.h) ∧ W.cell? ⟨m, 5, none⟩ = some (.int .i64 d.id) ∧ W.cell? ⟨m, 6, none⟩ = some (.slice d.a d.n d.cap))
theorem cx_of {n m : Nat} {c d : C} {W : World} (h1 : CAt W n 0 c) (h2 : CAt W m 0 d) : CX n m c d W := by
  obtain ⟨a0, a1, a2, a3, a4, a5, a6⟩ := h1
  obtain ⟨b0, b1, b2, b3, b4, b5, b6⟩ := h2
  simp only [Nat.zero_add] at a1 a2 a3 a4 a5 a6 b1 b2 b3 b4 b5 b6
  exact ⟨⟨a0, a1, a2, a3, a4, a5, a6⟩, b0, b1, b2, b3, b4, b5, b6⟩
theorem cx_cat {n m : Nat} {c d : C} {W : World} (h : CX n m c d W) : CAt W n 0 c ∧ CAt W m 0 d := by
  obtain ⟨⟨a0, a1, a2, a3, a4, a5, a6⟩, b0, b1, b2, b3, b4, b5, b6⟩ := h
  refine ⟨⟨a0, ?_, ?_, ?_, ?_, ?_, ?_⟩, b0, ?_, ?_, ?_, ?_, ?_, ?_⟩ <;> (simp only [Nat.zero_add]; assumption)
theorem cx_up {n m : Nat} {c d : C} {W W' : World} (h : CX n m c d W) (hb : Below W.heap.size W W') : CX n m c d W' := cx_of ((cx_cat h).1.up hb) ((cx_cat h).2.up hb)
theorem cx_alloc {n m : Nat} {c d : C} {W : World} {o : Obj} (h : CX n m c d W) : CX n m c d (W.alloc o) := cx_up h ((Below.refl _ _).alloc (Nat.le_refl _) _)
theorem cx_put {n m : Nat} {c d e : C} {W : World} {b : Nat} (h : CX n m c d W) (h1 : n ≠ b) (h2 : m ≠ b) : CX n m c d (put7 W b e) := by
  have hc := cx_cat h
  have g : ∀ (k o : Nat) (x : C), k ≠ b → CAt W k o x → CAt (put7 W b e) k o x := fun k o x hk hx => by
    have q : ∀ i v, W.cell? ⟨k, i, none⟩ = some v → (put7 W b e).cell? ⟨k, i, none⟩ = some v := fun i v hv => (World.cell?_of_block (a := ⟨k, i, none⟩) (heap_put7 hk)).trans hv
    obtain ⟨a0, a1, a2, a3, a4, a5, a6⟩ := hx
    exact ⟨q _ _ a0, q _ _ a1, q _ _ a2, q _ _ a3, q _ _ a4, q _ _ a5, q _ _ a6⟩
  exact cx_of (g _ _ _ h1 hc.1) (g _ _ _ h2 hc.2)

end Go.Proofs.YtakofjbjciljjaaGreat
/- (This seat has no rect.Has: nothing but what it leans on.) -/
