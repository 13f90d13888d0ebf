/- Texts of this seat, 3 in one file. -/
import Derived.Test.YtakofjbjciljjaaGreatG11
import Derived.Test.YtakofjbjciljjaaGreatG12
import Derived.Test.YtakofjbjciljjaaGreatG06
import Derived.Deep.RegionHeld3
import Derived.Deep.Cut
import Derived.Deep.Strs
import Derived.Test.YtakofjbjciljjaaGreatG03
/- What flat.Name's closure writes. -/
namespace Go.Proofs.YtakofjbjciljjaaGreat
open Go.RowKit

/-- The tree at the empty path, in memory of the call's own. -/
def AtOwn (t : T) (w : World) (e : Ending) (w' : World) : Prop := ∃ d S, e = .returned (.tuple #[cval d, .bool true]) ∧ OwnT w' w.heap.size d t S ∧ S.Nodup ∧ Below w.heap.size w w'
set_option maxRecDepth 100000 in
theorem at_own (t : T) (c : C) (w : World) (hi : Is w c t) : Calls Tryz.prog 46 #[cval c, .slice none 0 0] w (AtOwn t w) := by
  have B1 : Hid (Below w.heap.size w ((w.alloc (cbox c)).alloc zeroBox)) := ((Below.refl _ _).alloc (Nat.le_refl _) _).alloc (by simp) _
  have Z1 : Hid (Zero7 ((w.alloc (cbox c)).alloc zeroBox) (w.heap.size + 1)) := Lib.hid (by
    have := zero_new (w.alloc (cbox c))
    simpa using this)
  have HC := Lib.hid (follow_any w t c (.slice none 0 0) [] ((w.alloc (cbox c)).alloc zeroBox) B1.out hi ⟨none, 0, rfl, fun _ => ⟨rfl, rfl⟩, fun x hx => by cases hx⟩ (by simp))
  clear hi
  have HC2 : Hid (Calls Tryz.prog 70 #[cval c, .slice none 0 0] ((w.alloc (cbox c)).alloc zeroBox) fun e w' => ∃ y, e = .returned (.tuple #[cval y, .bool true]) ∧ Is w y t ∧ Below ((w.alloc (cbox c)).alloc zeroBox).heap.size ((w.alloc (cbox c)).alloc zeroBox) w') := HC.out.mono fun e w' h => by
    unfold FollowSays at h
    obtain ⟨hb, y, h1, h2⟩ := h
    exact ⟨y, h1, h2, hb⟩
  clear HC
  go_enter Tryz.func46, Tryz.ntmps46
  go_wp2_with fail
  refine HC2.out.mono ?_
  rintro e w2 ⟨y, rfl, hiy, hb2⟩
  have HB2 := Lib.hid (B1.out.trans (hb2.mono B1.out.size))
  have HZ2 := Lib.hid (zero_up Z1.out hb2)
  have HA : Hid (Below w2.heap.size w2 (w2.alloc (cbox y))) := (Below.refl _ _).alloc (Nat.le_refl _) _
  have HF := Lib.hid (fresh_any (sz t) t y (w2.alloc (cbox y)) (Nat.le_refl _) ((hiy.up HB2.out).up HA.out))
  clear hiy hb2
  go_wp2_with fail
  refine HF.out.mono ?_
  rintro e w3 ⟨d, S3, rfl, hown, hnd, hb3⟩
  have HO := Lib.hid hown
  have HND := Lib.hid hnd
  have HB3 := Lib.hid (HB2.out.trans ((below_one hb3).mono HB2.out.size))
  have HZ3 := Lib.hid (zero_up HZ2.out (below_one hb3))
  have HSZ : Hid (w.heap.size + 2 ≤ w2.heap.size) := Lib.hid (by have := lt_of_block HZ2.out; omega)
  obtain ⟨⟨z0, z1, z2, z3, z4, z5, z6⟩, f0, f1, f2, f3, f4, f5, f6⟩ := zero_parts HZ3.out
  clear hown hb3 hnd
  go_wp2
  (try simp only [Exit.inBlock, Exit.then])
  refine bodyPost_ret (results_cell2 rfl _ _ (w.heap.size + 1) d rfl ((Box7.of_zero HZ3.out).put d)) rfl ?_
  refine ⟨d, S3, rfl, ?_, HND.out, below_put7 HB3.out (by omega) d⟩
  refine (HO.out.frame fun k hk => ?_).lower (by have := HSZ.out; simp; omega)
  have := (HO.out.ge k hk).1
  have := HSZ.out
  simp at *
  exact heap_put7 (by omega)

theorem own_free {w : World} {base : Nat} {v : Value} {l : List C} (h : OwnC w base v l) {g : Nat} (hg : v.ownBlock = some g) (o : Nat) : w.frozen? ⟨g, o, none⟩ = false := by
  rcases h.2 with ⟨rfl, -⟩ | ⟨g', cap, cur, rfl, hb, hg', -⟩
  · cases hg
  · cases hg; simp [World.frozen?, hg']
theorem OwnT.free {w : World} {base : Nat} {c : C} {t : T} {S : List Nat} (h : OwnT w base c t S) : ∀ k ∈ S, ∀ o, w.frozen? ⟨k, o, none⟩ = false := by
  induction h with
  | mk c kids cs Ss fine row len slen each ih =>
    intro k hk o
    rcases List.mem_append.1 hk with hk | hk
    · unfold blk at hk
      split at hk
      · rename_i g hg
        simp at hk; subst hk
        exact own_free row hg o
      · cases hk
    · obtain ⟨j, S, hS, hkS⟩ := mem_flat.1 hk
      have hj : j < kids.length := by rw [← slen]; exact (List.getElem?_eq_some_iff.1 hS).1
      exact ih j _ _ S (List.getElem?_eq_getElem (by rw [len]; exact hj)) (List.getElem?_eq_getElem hj) hS k hkS o

/-- Two numbers are written: a leaf's, and how many were met. -/
abbrev nameW (W : World) (b o mb : Nat) (m k : Int) : World := (W.setCell ⟨b, o, none⟩ (.int .i64 m)).setCell ⟨mb, 0, none⟩ (.int .i64 k)
set_option maxRecDepth 100000 in
theorem name1_any (b o ib mb : Nat) (j : Nat) (m old : Int) (ids : List Int) (a : Option Addr) (cap : Nat) (W : World) (hids : W.cell? ⟨ib, 0, none⟩ = some (.slice a ids.length cap)) (hrow : Row W (.slice a ids.length cap) (ints ids)) (hm : ids[j]? = some m) (hmet : Box1 W mb (.int .i64 (j : Int)) 3)
    (hc : W.cell? ⟨b, o + 5, none⟩ = some (.int .i64 old)) (hf : W.frozen? ⟨b, o + 5, none⟩ = false) (hne : b ≠ mb) (hj : j < 1000000) :
    Calls Tryz.prog 48 #[.pointer (some ⟨b, o, none⟩), .pointer (some ⟨ib, 0, none⟩), .pointer (some ⟨mb, 0, none⟩)] W fun e w' => e = .returned (.tuple #[]) ∧ w' = nameW W b (o + 5) mb m ((j : Int) + 1) := by
  have hjl : j < ids.length := lt_of_get hm
  have hjli : (j : Int) < (ids.length : Int) := by omega
  obtain ⟨pb, po, rfl, hcell⟩ := int_at hrow (by omega)
  have c0 := hcell j m hm
  have q0 := cell_of_one hmet
  have q1 := free_of_one hmet
  clear hcell hrow hm hmet
  have hnm : mb ≠ b := Ne.symm hne
  go_enter Tryz.func48, Tryz.ntmps48
  go_wp2
  go_end0
  exact ⟨rfl, rfl⟩
theorem enters33 : Enters 48 := enters_of Tryz.func48 (by kernel_rfl) rfl

/-- What is there when so many leaves have their numbers. -/
structure Met1 (w W0 : World) (mb : Nat) (lf : List (Nat × Nat)) (ids : List Int) (j : Nat) (W : World) : Prop where
  below : Below w.heap.size w W
  done : ∀ (i : Nat) (a : Nat × Nat) (m : Int), i < j → lf[i]? = some a → ids[i]? = some m → W.cell? ⟨a.1, a.2 + 5, none⟩ = some (.int .i64 m)
  other : ∀ (b o : Nat), b ≠ mb → (∀ (i : Nat) (a : Nat × Nat), i < j → lf[i]? = some a → ¬ (b = a.1 ∧ o = a.2 + 5)) → W.cell? ⟨b, o, none⟩ = W0.cell? ⟨b, o, none⟩
  free : ∀ (b o : Nat), W.frozen? ⟨b, o, none⟩ = W0.frozen? ⟨b, o, none⟩
  block : ∀ k, k ≠ mb → (∀ a ∈ lf, k ≠ a.1) → W.heap[k]? = W0.heap[k]?
  met : Box1 W mb (.int .i64 (j : Int)) 3

theorem met_step {w W0 W : World} {mb : Nat} {lf : List (Nat × Nat)} {ids : List Int} {j : Nat} {a : Nat × Nat} {m : Int} (h : Met1 w W0 mb lf ids j W) (hnd : lf.Nodup) (ha : lf[j]? = some a) (hm : ids[j]? = some m) (hmb : w.heap.size ≤ mb) (hge : w.heap.size ≤ a.1) (hne : ∀ a ∈ lf, a.1 ≠ mb) {old : Value} (hc : W0.cell? ⟨a.1, a.2 + 5, none⟩ = some old) :
    Met1 w W0 mb lf ids (j + 1) (nameW W a.1 (a.2 + 5) mb m ((j : Int) + 1)) := by
  have hap : ∀ (i : Nat) (b : Nat × Nat), i < j → lf[i]? = some b → b ≠ a := fun i b hi hb e => by
    subst e
    unfold List.Nodup at hnd
    rw [List.pairwise_iff_getElem] at hnd
    obtain ⟨h1, h1'⟩ := List.getElem?_eq_some_iff.1 hb
    obtain ⟨h2, h2'⟩ := List.getElem?_eq_some_iff.1 ha
    exact hnd i j h1 h2 hi (h1'.trans h2'.symm)
  have hcur : W.cell? ⟨a.1, a.2 + 5, none⟩ = some old := by
    rw [h.other a.1 (a.2 + 5) (hne a (List.mem_of_getElem? ha)) fun i b hi hb e => hap i b hi hb (by obtain ⟨b1, b2⟩ := b; obtain ⟨a1, a2⟩ := a; simp only at e; rw [Prod.mk.injEq]; omega)]
    exact hc
  have ham := hne a (List.mem_of_getElem? ha)
  have hset : ∀ (b o : Nat), b ≠ mb → (nameW W a.1 (a.2 + 5) mb m ((j : Int) + 1)).cell? ⟨b, o, none⟩ = (W.setCell ⟨a.1, a.2 + 5, none⟩ (.int .i64 m)).cell? ⟨b, o, none⟩ := fun b o hb => World.cell?_setCell_other _ _ _ _ (fun e => hb (by injection e with e1 e2; exact e1.symm))
  have hset2 : ∀ (b o : Nat), ¬ (b = a.1 ∧ o = a.2 + 5) → (W.setCell ⟨a.1, a.2 + 5, none⟩ (.int .i64 m)).cell? ⟨b, o, none⟩ = W.cell? ⟨b, o, none⟩ := fun b o hb => World.cell?_setCell_other _ _ _ _ (fun e => hb (by injection e with e1 e2; exact ⟨e1.symm, e2.symm⟩))
  refine ⟨(h.below.setCell hge _).setCell hmb _, fun i b n hi hb hn => ?_, fun b o hb hno => ?_, fun b o => ?_, fun k hk hno => ?_, ?_⟩
  · rw [hset _ _ (hne b (List.mem_of_getElem? hb))]
    rcases Nat.lt_or_ge i j with hij | hij
    · rw [hset2 _ _ fun e => hap i b hij hb (by obtain ⟨b1, b2⟩ := b; obtain ⟨a1, a2⟩ := a; simp only at e; rw [Prod.mk.injEq]; omega)]
      exact h.done i b n hij hb hn
    · obtain rfl : i = j := by omega
      rw [ha] at hb; cases hb
      rw [hm] at hn; cases hn
      exact World.cell?_setCell_same _ _ _ hcur
  · rw [hset _ _ hb, hset2 _ _ (hno j a (by omega) ha)]
    exact h.other b o hb fun i c hi hc => hno i c (by omega) hc
  · exact (World.frozen?_setCell _ _ _ _).trans ((World.frozen?_setCell _ _ _ _).trans (h.free b o))
  · rw [Below.heap_setCell _ ⟨mb, 0, none⟩ _ k hk, Below.heap_setCell _ ⟨a.1, a.2 + 5, none⟩ _ k (hno a (List.mem_of_getElem? ha))]
    exact h.block k hk hno
  · have := one_setCell (u := .int .i64 (((j + 1 : Nat) : Int))) (show Box1 (W.setCell ⟨a.1, a.2 + 5, none⟩ (.int .i64 m)) mb (.int .i64 (j : Int)) 3 from (Below.heap_setCell _ ⟨a.1, a.2 + 5, none⟩ _ mb (Ne.symm ham)).trans h.met)
    have e : (((j + 1 : Nat) : Int)) = (j : Int) + 1 := by omega
    rw [e] at this
    show Box1 _ mb (.int .i64 (((j + 1 : Nat) : Int))) 3
    rw [e]
    exact this

theorem IsL.frame {w w' : World} {x : L} {c : C} {t : T} (h : IsL w x c t) : (∀ a ∈ adT x, ∀ i, w'.cell? ⟨a.1, a.2 + i, none⟩ = w.cell? ⟨a.1, a.2 + i, none⟩) → IsL w' x c t := by
  induction h with
  | mk b o c ts xs cs cat fine cn xl cl place each ih =>
    intro hk
    have hq : ∀ i, w'.cell? ⟨b, o + i, none⟩ = w.cell? ⟨b, o + i, none⟩ := hk (b, o) (by rw [adT]; exact List.mem_cons_self ..)
    obtain ⟨a0, a1, a2, a3, a4, a5, a6⟩ := cat
    refine .mk b o c ts xs cs ⟨(hq 0).trans a0, (hq 1).trans a1, (hq 2).trans a2, (hq 3).trans a3, (hq 4).trans a4, (hq 5).trans a5, (hq 6).trans a6⟩ fine cn xl cl place fun j y x u hy hx hu => ?_
    exact ih j y x u hy hx hu fun a ha => hk a (by rw [adT]; exact List.mem_cons_of_mem _ (mem_adL.2 ⟨j, y, hy, ha⟩))
theorem IsL.at_ {w : World} {x : L} {c : C} {t : T} (h : IsL w x c t) : ∀ a ∈ adT x, ∃ y : C, CAt w a.1 a.2 y := by
  induction h with
  | mk b o c ts xs cs cat fine cn xl cl place each ih =>
    intro a ha
    rw [adT] at ha
    rcases List.mem_cons.1 ha with rfl | ha
    · exact ⟨c, cat⟩
    · obtain ⟨j, y, hy, hay⟩ := mem_adL.1 ha
      have hj : j < ts.length := by rw [← xl]; exact lt_of_get hy
      obtain ⟨x, hx⟩ := get_of cl hj
      obtain ⟨u, hu⟩ := get_of rfl hj
      exact ih j y x u hy hx hu a hay
/-- A tree whose kinds and kids stand where they stood. -/
theorem IsL.lies_of {w w' : World} {x : L} {c : C} {t : T} (h : IsL w x c t) : (∀ a ∈ adT x, ∀ i, i = 0 ∨ i = 6 → w'.cell? ⟨a.1, a.2 + i, none⟩ = w.cell? ⟨a.1, a.2 + i, none⟩) → Lies w' x t := by
  induction h with
  | mk b o c ts xs cs cat fine cn xl cl place each ih =>
    intro hk
    have hq : ∀ i, i = 0 ∨ i = 6 → w'.cell? ⟨b, o + i, none⟩ = w.cell? ⟨b, o + i, none⟩ := hk (b, o) (by rw [adT]; exact List.mem_cons_self ..)
    obtain ⟨h0, -, -, -, -, -, h6⟩ := cat
    rw [cn] at h6
    have g0 := hq 0 (.inl rfl)
    rw [Nat.add_zero] at g0
    refine .mk b o c.k c.r c.id ts xs c.a c.cap (g0.trans h0) ((hq 6 (.inr rfl)).trans h6) xl (by rw [← cn]; exact fine.2.2.2) place fun j y u hy hu => ?_
    obtain ⟨x, hx⟩ := get_of cl (lt_of_get hu)
    exact ih j y x u hy hx hu fun a ha => hk a (by rw [adT]; exact List.mem_cons_of_mem _ (mem_adL.2 ⟨j, y, hy, ha⟩))
end Go.Proofs.YtakofjbjciljjaaGreat
/- The tree in which the leaves have other numbers: the document's walk. -/
namespace Go.Proofs.YtakofjbjciljjaaGreat
open Go.RowKit

/-- Numbers that can be cut: as many as there is room for. -/
structure Cutt (w : World) (v : Value) (p : List Int) : Prop where
  row : Row w v (ints p)
  cap : ∃ a cap, v = .slice a p.length cap ∧ p.length ≤ cap
theorem Cutt.up {w w' : World} {v : Value} {p : List Int} (h : Cutt w v p) (hb : Below w.heap.size w w') : Cutt w' v p := ⟨h.row.up hb, h.cap⟩
theorem Cutt.drop {w : World} {a : Option Addr} {cap q : Nat} {p : List Int} (h : Cutt w (.slice a p.length cap) p) (hq : q ≤ p.length) (A : Option Addr) (hA : (if cap = q then a else Option.map (fun x => x.add q) a) = A) : Cutt w (.slice A (p.length - q) (cap - q)) (p.drop q) := by
  obtain ⟨⟨a1, cap1, he, h0, hc⟩, a2, cap2, he2, hl⟩ := h
  cases he2
  rw [ints_length] at he
  cases he
  have hlen : (ints (p.drop q)).length = p.length - q := by rw [ints_length, List.length_drop]
  refine ⟨⟨A, cap - q, by rw [hlen], fun hn => ?_, fun x hx j u hu => ?_⟩, A, cap - q, by rw [List.length_drop], by rw [List.length_drop]; omega⟩
  · subst hn
    have ha : a = none := by
      split at hA
      · exact hA
      · simpa using hA
    have := h0 ha
    have hp : p = [] := by have := this.1; simpa [ints] using this
    subst hp
    simp [ints, this.2]
  · subst hx
    have hu' : (ints p)[q + j]? = some u := by
      rw [ints, List.getElem?_map, List.getElem?_drop] at hu
      rw [ints, List.getElem?_map]; exact hu
    split at hA
    · rename_i hcq
      have : q + j < p.length := by have := lt_of_get hu'; rw [ints_length] at this; exact this
      omega
    · cases a with
      | none => simp at hA
      | some ad =>
        simp at hA
        subst hA
        have := hc ad rfl (q + j) u hu'
        rw [Go.Deep.add_add]; exact this

abbrev Oct (n : Nat) (s : Value) (bb oo : Nat) (y : C) (W : World) : Prop := W.cell? ⟨n, 6, none⟩ = some s ∧ W.cell? ⟨bb, oo, none⟩ = some (.int .u8 y.k) ∧ W.cell? ⟨bb, oo + 1, none⟩ = some (.int .i64 y.r.x) ∧ W.cell? ⟨bb, oo + 2, none⟩ = some (.int .i64 y.r.y) ∧ W.cell? ⟨bb, oo + 3, none⟩ = some (.int .i64 y.r.w) ∧ W.cell? ⟨bb, oo + 4, none⟩ = some (.int .i64 y.r.h) ∧ W.cell? ⟨bb, oo + 5, none⟩ = some (.int .i64 y.id) ∧ W.cell? ⟨bb, oo + 6, none⟩ = some (.slice y.a y.n y.cap)
theorem oct_agree {n : Nat} {s : Value} {bb oo : Nat} {y : C} {W W' : World} (h : Oct n s bb oo y W) (hk : ∀ b, b = n ∨ b = bb → W'.heap[b]? = W.heap[b]?) : Oct n s bb oo y W' := by
  obtain ⟨h0, h1, h2, h3, h4, h5, h6, h7⟩ := h
  have e : ∀ (b o : Nat), (b = n ∨ b = bb) → W'.cell? ⟨b, o, none⟩ = W.cell? ⟨b, o, none⟩ := fun b o hb => World.cell?_of_block (a := ⟨b, o, none⟩) (hk b hb)
  exact ⟨(e _ _ (by simp)).trans h0, (e _ _ (by simp)).trans h1, (e _ _ (by simp)).trans h2, (e _ _ (by simp)).trans h3, (e _ _ (by simp)).trans h4, (e _ _ (by simp)).trans h5, (e _ _ (by simp)).trans h6, (e _ _ (by simp)).trans h7⟩
theorem oct_up {n : Nat} {s : Value} {bb oo : Nat} {y : C} {W W' : World} (h : Oct n s bb oo y W) (hb : Below W.heap.size W W') : Oct n s bb oo y W' := oct_agree h fun b hh => hb.block b (by
  have a0 := lt_of_cell h.1
  have a1 := lt_of_cell h.2.1
  simp only at a0 a1
  omega)
theorem oct_alloc {n : Nat} {s : Value} {bb oo : Nat} {y : C} {W : World} {o : Obj} (h : Oct n s bb oo y W) : Oct n s bb oo y (W.alloc o) := oct_up h ((Below.refl _ _).alloc (Nat.le_refl _) _)
theorem oct_put {n : Nat} {s : Value} {bb oo : Nat} {y d : C} {W : World} {b : Nat} (h : Oct n s bb oo y W) (h1 : n ≠ b) (h2 : bb ≠ b) : Oct n s bb oo y (put7 W b d) := oct_agree h fun i hi => heap_put7 (by omega)

/-- What is there behind the inner call. -/
structure Aft (wr W : World) (d : C) (bk : Nat) (u : T) (S : List Nat) : Prop where
  below : Below wr.heap.size wr W
  box : Box7 W bk d
  own : OwnT W wr.heap.size d u S
  nodup : S.Nodup
theorem aft_one {wr w3 w5 : World} {d : C} {u : T} {S : List Nat} (h3 : Below wr.heap.size wr w3) (h5 : Below w3.heap.size w3 w5) (hd : OwnT w5 w3.heap.size d u S) (hn : S.Nodup) : Aft wr (w5.alloc (cbox d)) d w5.heap.size u S := by
  have ha : Below w5.heap.size w5 (w5.alloc (cbox d)) := (Below.refl _ _).alloc (Nat.le_refl _) _
  have h6 := h5.trans (ha.mono h5.size)
  exact ⟨h3.trans (h6.mono h3.size), Box7.new w5 d, (hd.up ha).lower h3.size, hn⟩
theorem aft_two {wr w3 w5 : World} {d : C} {u : T} {S : List Nat} (h3 : Below wr.heap.size wr w3) (hs : w3.heap.size = wr.heap.size + 1) (hz : Zero7 w3 wr.heap.size) (h5 : Below w3.heap.size w3 w5) (hd : OwnT w5 w3.heap.size d u S) (hn : S.Nodup) : Aft wr (put7 w5 wr.heap.size d) d wr.heap.size u S :=
  ⟨below_put7 (h3.trans (h5.mono h3.size)) (Nat.le_refl _) d, (Box7.of_zero (zero_up hz h5)).put d, (hd.frame fun k hk => heap_put7 (by have := (hd.ge k hk).1; omega)).lower (by omega), hn⟩

def RNameSays (ms : List Int) (t : T) (w : World) (e : Ending) (w' : World) : Prop := ∃ d S, e = .returned (.tuple #[cval d, .int .i64 ((lvT t : Nat) : Int)]) ∧ OwnT w' w.heap.size d (nmT ms t) S ∧ S.Nodup ∧ Below w.heap.size w w'

set_option maxRecDepth 100000 in
set_option maxHeartbeats 4000000 in
theorem rname_any (N : Nat) : ∀ (t : T) (c : C) (v : Value) (ms : List Int) (w : World), sz t ≤ N → lvT t ≤ 900000 → Is w c t → Cutt w v ms → lvT t ≤ ms.length → (∀ m ∈ ms, fits m) → Calls Tryz.prog 34 #[cval c, v] w (RNameSays ms t w) := by
  induction N with
  | zero => intro t c v ms w h; have := sz_pos t; omega
  | succ N ih =>
    intro t c v ms w hs hlv hi hp hml hfit
    obtain ⟨a, cap, rfl, hcap⟩ := hp.cap
    have HFINE := Lib.hid hi.fine
    have HR := Lib.hid hi.row
    have HSP := Lib.hid hi.split
    have HP := Lib.hid hp
    have HFT := Lib.hid hfit
    have hn := hi.n
    have hfn := hi.len
    have htk := hi.split.1
    obtain ⟨ck, cr, cid, ca, cn, ccap⟩ := c
    simp only at hn htk
    subst hn
    clear hi hp hfit
    have HS := Lib.hid hs
    have HIH := Lib.hid ih
    clear hs ih
    have BX : Hid (Box7 (freshW w ⟨ck, cr, cid, ca, t.kids.length, ccap⟩) w.heap.size ⟨ck, cr, cid, ca, t.kids.length, ccap⟩) := Lib.hid ((Box7.new w _).up ((Below.refl _ _).alloc (Nat.le_refl _) _))
    have ZX : Hid (Zero7 (freshW w ⟨ck, cr, cid, ca, t.kids.length, ccap⟩) (w.heap.size + 1)) := Lib.hid (by
      have := zero_new (w.alloc (cbox ⟨ck, cr, cid, ca, t.kids.length, ccap⟩))
      simpa using this)
    have BW : Hid (Below w.heap.size w (freshW w ⟨ck, cr, cid, ca, t.kids.length, ccap⟩)) := ((Below.refl _ _).alloc (Nat.le_refl _) _).alloc (by simp) _
    have SW : Hid ((freshW w ⟨ck, cr, cid, ca, t.kids.length, ccap⟩).heap.size = w.heap.size + 2) := Lib.hid (by simp)
    cases hk1 : (ck == 1) with
    | false =>
      have hk : ck ≠ 1 := by simpa using hk1
      have hlve : lvT t = 0 + lvL t.kids := by rw [lvT_eq, htk, if_neg hk]
      have HNM : Hid (nmT ms t = .node ck cr cid (nmL (ms.drop 0) t.kids)) := Lib.hid (by
        obtain ⟨e1, e2, e3, -⟩ := HSP.out
        rw [nmT_eq, e1, e2, e3, if_neg hk, if_neg hk])
      have hmfit : fits cid := HFINE.out.2.2.1
      go_enter Tryz.func34, Tryz.ntmps34
      go_upto_region 5 with fail
      have BX1 := BX
      have ZX1 := ZX
      have BW1 := BW
      have SW1 := SW
      change Code.wp _ _ _ _ (freshW w ⟨ck, cr, cid, ca, t.kids.length, ccap⟩)
      clear BX ZX BW SW
      generalize freshW w ⟨ck, cr, cid, ca, t.kids.length, ccap⟩ = W1 at BX1 ZX1 BW1 SW1 ⊢
      have A2 : Hid (Below W1.heap.size W1 (W1.alloc (.cells #[] 26))) := Lib.hid ((Below.refl _ _).alloc (Nat.le_refl _) _)
      have FE := Lib.hid (Forest.empty W1 (w.heap.size + 2) (by have := SW1.out; omega))
      have BX2 := Lib.hid (BX1.out.up A2.out)
      have ZX2 := Lib.hid (zero_up ZX1.out A2.out)
      have BW2 := Lib.hid (BW1.out.trans (A2.out.mono BW1.out.size))
      have SW2 : Hid ((W1.alloc (.cells #[] 26)).heap.size = w.heap.size + 3) := Lib.hid (by have h := SW1.out; simp [h])
      have hsw := SW1.out
      have q6 := BX2.out.cat.2.2.2.2.2.2
      simp only [Nat.zero_add] at q6
      go_upto_region 6 with fail
      change Code.wp _ _ _ _ (W1.alloc (.cells #[] 26))
      rw [hsw] at FE
      clear hsw
      generalize W1.alloc (.cells #[] 26) = W2 at FE BX2 ZX2 BW2 SW2 q6 ⊢
      clear A2 BX1 ZX1 BW1 SW1
      go_wp2
      go_loopg [6, 7, 22] (t.kids.length + 1) (fun g nq v i wr => ∃ (k q : Nat) (cs : List C) (Ss : List (List Nat)), g + k = t.kids.length + 1 ∧ k ≤ t.kids.length ∧ i = .int .i64 k ∧ q = 0 + lvL (t.kids.take k) ∧ nq = .int .i64 (q : Int) ∧ Forest wr (w.heap.size + 2) v cs (nmL (ms.drop 0) (t.kids.take k)) Ss ∧ Below (w.heap.size + 2) W2 wr)
      case atStart => exact ⟨0, 0, [], [], by omega, by omega, rfl, by simp [lvL], rfl, by simpa [nmL] using FE.out, Below.refl _ _⟩
      case round =>
        obtain ⟨k, q, cs, Ss, hg, hk, rfl, hq, rfl, hfo, hb⟩ := hrel
        have HG := Lib.hid hg
        have HF := Lib.hid hfo
        have HB := Lib.hid hb
        have HQ := Lib.hid hq
        clear hg hfo hb hq q6
        have BXr : Hid (Box7 wr w.heap.size ⟨ck, cr, cid, ca, t.kids.length, ccap⟩) := Lib.hid ((HB.out.block _ (by omega)).trans BX2.out)
        have ZXr : Hid (Zero7 wr (w.heap.size + 1)) := Lib.hid ((HB.out.block _ (by omega)).trans ZX2.out)
        have HBW : Hid (Below w.heap.size w wr) := Lib.hid (BW2.out.trans (HB.out.mono (by omega)))
        have SWr : Hid (w.heap.size + 3 ≤ wr.heap.size) := Lib.hid (by have := HB.out.size; have := SW2.out; omega)
        have q6 := BXr.out.cat.2.2.2.2.2.2
        simp only [Nat.zero_add] at q6
        by_cases hlt : k < t.kids.length
        · have hlti : (k : Int) < (t.kids.length : Int) := by omega
          obtain ⟨bb, o, rfl, hf⟩ := HR.out.place (by omega)
          obtain ⟨u, hu⟩ : ∃ u, t.kids[k]? = some u := ⟨_, List.getElem?_eq_getElem hlt⟩
          obtain ⟨y, hy, hiy⟩ := hf k u hu
          clear hf
          have hbl : bb < w.heap.size := hy.lt
          have hlu := lvL_at hu
          have hql : q ≤ ms.length := by have := HQ.out; omega
          have X3 : Hid (Oct w.heap.size (.slice (some ⟨bb, o, none⟩) t.kids.length ccap) bb (o + k * 7) y wr.drew) := Lib.hid (by
            obtain ⟨e0, e1, e2, e3, e4, e5, e6⟩ := hy.up HBW.out
            exact ⟨q6, e0, e1, e2, e3, e4, e5, e6⟩)
          have HIY := Lib.hid (hiy.up HBW.out)
          have HST := Lib.hid (nmL_step (ms := ms.drop 0) hu)
          have HLS := Lib.hid (lvL_step hu)
          have HSU := Lib.hid (show sz u ≤ N by have := HS.out; have := sz_kid hu; omega)
          have hlu2 : lvT u ≤ 900000 := by omega
          have HLU := Lib.hid (show lvT u ≤ (ms.drop q).length by rw [List.length_drop]; have := HQ.out; omega)
          have HDD : Hid ((ms.drop 0).drop (lvL (t.kids.take k)) = ms.drop q) := Lib.hid (by rw [List.drop_drop, HQ.out])
          clear hy hiy hu
          obtain ⟨A, hA⟩ : ∃ A : Option Addr, (if cap = q then a else Option.map (fun x => x.add q) a) = A := ⟨_, rfl⟩
          have HCU := Lib.hid ((HP.out.up HBW.out).drop hql A hA)
          have HK := Lib.hid (fun W (hW : Below wr.heap.size wr W) => HIH.out u y (.slice A (ms.length - q) (cap - q)) (ms.drop q) W HSU.out hlu2 (HIY.out.up hW) (HCU.out.up hW) HLU.out (fun m hm => HFT.out m (List.mem_of_mem_drop hm)))
          have l1 : (0 : Int) ≤ (q : Int) := by omega
          have l2 : (q : Int) ≤ (ms.length : Int) := by omega
          have l3 : q ≤ ms.length := hql
          have BD : Hid (Below wr.heap.size wr wr.drew) := Lib.hid (Below.refl _ wr).drew
          have BZ : Hid (Below wr.heap.size wr (wr.alloc zeroBox).drew) := Lib.hid ((Below.refl _ wr).alloc (Nat.le_refl _) _).drew
          have XZ : Hid (Oct w.heap.size (.slice (some ⟨bb, o, none⟩) t.kids.length ccap) bb (o + k * 7) y (wr.alloc zeroBox).drew) := Lib.hid (oct_up (W := wr) X3.out BZ.out)
          have KZ : Hid (Zero7 (wr.alloc zeroBox).drew wr.heap.size) := Lib.hid (show Zero7 (wr.alloc zeroBox) wr.heap.size from zero_new wr)
          have hsZ : Hid ((wr.alloc zeroBox).drew.heap.size = wr.heap.size + 1) := Lib.hid (show (wr.alloc zeroBox).heap.size = wr.heap.size + 1 by simp)
          have n1 : w.heap.size ≠ wr.heap.size := by have := SWr.out; omega
          have n2 : bb ≠ wr.heap.size := by have := SWr.out; omega
          clear q6
          go_wp2
          go_region_held3 (fun W => W.cell? ⟨w.heap.size, 6, none⟩ = some (.slice (some ⟨bb, o, none⟩) t.kids.length ccap) ∧ W.cell? ⟨bb, o + k * 7, none⟩ = some (.int .u8 y.k) ∧ W.cell? ⟨bb, o + k * 7 + 1, none⟩ = some (.int .i64 y.r.x) ∧ W.cell? ⟨bb, o + k * 7 + 2, none⟩ = some (.int .i64 y.r.y) ∧ W.cell? ⟨bb, o + k * 7 + 3, none⟩ = some (.int .i64 y.r.w) ∧ W.cell? ⟨bb, o + k * 7 + 4, none⟩ = some (.int .i64 y.r.h) ∧ W.cell? ⟨bb, o + k * 7 + 5, none⟩ = some (.int .i64 y.id) ∧ W.cell? ⟨bb, o + k * 7 + 6, none⟩ = some (.slice y.a y.n y.cap)) (first | with_reducible exact X3.out | with_reducible exact XZ.out | with_reducible exact X5.out | with_reducible exact oct_alloc X5.out | with_reducible exact oct_put X5.out n1 n2)
            (first
              | (go_at_call 34; (with_reducible refine (HK.out wr.drew BD.out).mono ?_); rintro e w5 ⟨d, S5, rfl, hd5, hn5, hb5⟩; have P5 := Lib.hid (aft_one BD.out hb5 hd5 hn5); have X5 := Lib.hid (oct_up X3.out hb5); have NO := Lib.hid True.intro; clear hd5 hn5 hb5)
              | (go_at_call 34; (with_reducible refine (HK.out (wr.alloc zeroBox).drew BZ.out).mono ?_); rintro e w5 ⟨d, S5, rfl, hd5, hn5, hb5⟩; have P5 := Lib.hid (aft_two BZ.out hsZ.out KZ.out hb5 hd5 hn5); have X5 := Lib.hid (oct_up XZ.out hb5); have Z5 := Lib.hid (zero_up KZ.out hb5); obtain ⟨⟨z0, z1, z2, z3, z4, z5, z6⟩, f0, f1, f2, f3, f4, f5, f6⟩ := zero_parts Z5.out; clear hd5 hn5 hb5))
          all_goals first
            | (have Z5' := Z5; change Exit.then _ _ _ _ (put7 w5 wr.heap.size d); clear z0 z1 z2 z3 z4 z5 z6 f0 f1 f2 f3 f4 f5 f6 Z5 Z5' X5 X3 XZ KZ; generalize put7 w5 wr.heap.size d = W6 at P5 ⊢)
            | (have NO' := NO; change Exit.then _ _ _ _ (w5.alloc (cbox d)); clear X5 X3 XZ KZ; generalize w5.alloc (cbox d) = W6 at P5 ⊢; generalize w5.heap.size = bk at P5 ⊢)
          all_goals
            obtain ⟨d0, d1, d2, d3, d4, d5, d6⟩ := P5.out.box.cat
            simp only [Nat.zero_add] at d1 d2 d3 d4 d5 d6
            have AB : Hid (Below wr.heap.size wr (W6.alloc (cbox d))) := Lib.hid (P5.out.below.alloc P5.out.below.size _)
            have HLN : Hid (cs.length + [d].length ≤ 1954687338211) := Lib.hid (by have := HF.out.len; rw [nmL_length, List.length_take] at this; simp; omega)
            have FO := Lib.hid (HF.out.row.up AB.out)
            have BB : Hid (Below (w.heap.size + 2) W2 (W6.alloc (cbox d))) := Lib.hid (HB.out.trans (AB.out.mono (by have := SWr.out; omega)))
            have s1 : IntKind.i64.wrap ((q : Int) + ((lvT u : Nat) : Int)) = (q : Int) + ((lvT u : Nat) : Int) := wrap_id (by have := HQ.out; omega)
            go_wp2_with (at_builtin; refine wpList_append_cells rfl _ _ rfl (w.heap.size + 2) u7 _ cs [d] rfl FO.out rfl (OwnC.one W6 0 (Nat.zero_le _) d).row (by simp) HLN.out W2 BB.out (by have := SW2.out; omega) ?_; intro g cap3 w8 hown8 hb8 hgr8 hpl8)
            have HF8 := Lib.hid (HF.out.add P5.out.below P5.out.own P5.out.nodup (Nat.le_refl _) (by have := SWr.out; omega) hown8 hgr8 hpl8)
            have B8 := Lib.hid hb8
            clear hown8 hb8 hgr8 hpl8
            go_wp2
            go_roundg (gk - 1)
            case measure => have := HG.out; omega
            case rel =>
              refine ⟨k + 1, q + lvT u, cs ++ [d], Ss ++ [S5], by have := HG.out; omega, by omega, by go_num, by rw [HLS.out, HQ.out]; omega, by go_num, ?_, B8.out⟩
              rw [HST.out, HDD.out]
              simpa using HF8.out
        · obtain rfl : k = t.kids.length := by omega
          have hkl : ((t.kids.length : Int) < (t.kids.length : Int)) = False := by simp
          have HFA : Hid (Forest wr (w.heap.size + 2) u7 cs (nmL (ms.drop 0) t.kids) Ss) := Lib.hid (by have := HF.out; rw [List.take_length] at this; exact this)
          have HQT : Hid (q = lvT t) := Lib.hid (by have := HQ.out; rw [List.take_length] at this; omega)
          obtain ⟨a', cap', rfl⟩ := HF.out.row.row.shape
          obtain ⟨c0, c1, c2, c3, c4, c5, c6⟩ := BXr.out.cat
          simp only [Nat.zero_add] at c1 c2 c3 c4 c5 c6
          have g6 := BXr.out.free 6
          obtain ⟨⟨z0, z1, z2, z3, z4, z5, z6⟩, f0, f1, f2, f3, f4, f5, f6⟩ := zero_parts ZXr.out
          clear q6
          go_wp2
          (try simp only [Exit.inBlock, Exit.then])
          have hset : (wr.setCell ⟨w.heap.size, 6, none⟩ (.slice a' cs.length cap')).heap[w.heap.size + 1]? = wr.heap[w.heap.size + 1]? := Below.heap_setCell wr ⟨w.heap.size, 6, none⟩ _ _ (by simp)
          have hz2 : Box7 (wr.setCell ⟨w.heap.size, 6, none⟩ (.slice a' cs.length cap')) (w.heap.size + 1) ⟨0, ⟨0, 0, 0, 0⟩, 0, none, 0, 0⟩ := hset.trans ZXr.out
          refine bodyPost_ret (results_cell2 rfl _ _ (w.heap.size + 1) ⟨ck, cr, cid, a', cs.length, cap'⟩ rfl (hz2.put ⟨ck, cr, cid, a', cs.length, cap'⟩)) rfl ?_
          have hend := fresh_end (k := ck) (r := cr) (id := cid) HBW.out (by have := SWr.out; omega) HFA.out HFINE.out.1 HFINE.out.2.1 hmfit (by rw [nmL_length]; exact hfn)
          refine ⟨⟨ck, cr, cid, a', cs.length, cap'⟩, blk (.slice a' cs.length cap') ++ Ss.flatten, by rw [← HQT.out]; rfl, ?_, hend.2.1, hend.2.2⟩
          rw [HNM.out]
          exact hend.1
    | true =>
      have hk : ck = 1 := by simpa using hk1
      subst hk
      have hlve : lvT t = 1 + lvL t.kids := by rw [lvT_eq, htk, if_pos rfl]
      have HNM : Hid (nmT ms t = .node 1 cr (ms.headD 0) (nmL (ms.drop 1) t.kids)) := Lib.hid (by
        obtain ⟨e1, e2, e3, -⟩ := HSP.out
        rw [nmT_eq, e1, e2, if_pos rfl, if_pos rfl])
      obtain ⟨m, ms', hms⟩ : ∃ m ms', ms = m :: ms' := by
        cases ms with
        | nil => simp at hml; omega
        | cons m ms' => exact ⟨m, ms', rfl⟩
      have hm0 : ms[0]? = some m := by rw [hms]; rfl
      have hmd : ms.headD 0 = m := by rw [hms]; rfl
      rw [hmd] at HNM
      have hmfit : fits m := HFT.out m (by rw [hms]; simp)
      obtain ⟨pb, po, rfl, hpf⟩ := int_at HP.out.row (by omega)
      have p0 := hpf 0 m hm0
      rw [Nat.add_zero] at p0
      have hpl : pb < w.heap.size := lt_of_cell p0
      have hpne : pb ≠ w.heap.size := by omega
      have hpne2 : pb ≠ w.heap.size + 1 := by omega
      have p0' := (BW.out.cell hpl).trans p0
      have hmlp : (0 : Int) < (ms.length : Int) := by omega
      clear hpf hk1 hms hm0 hmd
      go_enter Tryz.func34, Tryz.ntmps34
      go_upto_region 5 with fail
      have BX1 : Hid (Box7 (freshW w ⟨1, cr, m, ca, t.kids.length, ccap⟩) w.heap.size ⟨1, cr, m, ca, t.kids.length, ccap⟩) := Lib.hid ((Box7.new w _).up ((Below.refl _ _).alloc (Nat.le_refl _) _))
      have ZX1 : Hid (Zero7 (freshW w ⟨1, cr, m, ca, t.kids.length, ccap⟩) (w.heap.size + 1)) := Lib.hid (by
        have := zero_new (w.alloc (cbox ⟨1, cr, m, ca, t.kids.length, ccap⟩))
        simpa using this)
      have BW1 : Hid (Below w.heap.size w (freshW w ⟨1, cr, m, ca, t.kids.length, ccap⟩)) := ((Below.refl _ _).alloc (Nat.le_refl _) _).alloc (by simp) _
      have SW1 : Hid ((freshW w ⟨1, cr, m, ca, t.kids.length, ccap⟩).heap.size = w.heap.size + 2) := Lib.hid (by simp)
      change Code.wp _ _ _ _ (freshW w ⟨1, cr, m, ca, t.kids.length, ccap⟩)
      generalize freshW w ⟨1, cr, m, ca, t.kids.length, ccap⟩ = W1 at BX1 ZX1 BW1 SW1 ⊢
      clear BX ZX BW SW p0 p0'
      generalize hea : (some (⟨pb, po, none⟩ : Addr)) = a at HP ⊢
      clear hea
      have A2 : Hid (Below W1.heap.size W1 (W1.alloc (.cells #[] 26))) := Lib.hid ((Below.refl _ _).alloc (Nat.le_refl _) _)
      have FE := Lib.hid (Forest.empty W1 (w.heap.size + 2) (by have := SW1.out; omega))
      have BX2 := Lib.hid (BX1.out.up A2.out)
      have ZX2 := Lib.hid (zero_up ZX1.out A2.out)
      have BW2 := Lib.hid (BW1.out.trans (A2.out.mono BW1.out.size))
      have SW2 : Hid ((W1.alloc (.cells #[] 26)).heap.size = w.heap.size + 3) := Lib.hid (by have h := SW1.out; simp [h])
      have hsw := SW1.out
      have q6 := BX2.out.cat.2.2.2.2.2.2
      simp only [Nat.zero_add] at q6
      go_upto_region 6 with fail
      change Code.wp _ _ _ _ (W1.alloc (.cells #[] 26))
      rw [hsw] at FE
      clear hsw
      generalize W1.alloc (.cells #[] 26) = W2 at FE BX2 ZX2 BW2 SW2 q6 ⊢
      clear A2 BX1 ZX1 BW1 SW1
      go_wp2
      go_loopg [6, 7, 22] (t.kids.length + 1) (fun g nq v i wr => ∃ (k q : Nat) (cs : List C) (Ss : List (List Nat)), g + k = t.kids.length + 1 ∧ k ≤ t.kids.length ∧ i = .int .i64 k ∧ q = 1 + lvL (t.kids.take k) ∧ nq = .int .i64 (q : Int) ∧ Forest wr (w.heap.size + 2) v cs (nmL (ms.drop 1) (t.kids.take k)) Ss ∧ Below (w.heap.size + 2) W2 wr)
      case atStart => exact ⟨0, 1, [], [], by omega, by omega, rfl, by simp [lvL], rfl, by simpa [nmL] using FE.out, Below.refl _ _⟩
      case round =>
        obtain ⟨k, q, cs, Ss, hg, hk, rfl, hq, rfl, hfo, hb⟩ := hrel
        have HG := Lib.hid hg
        have HF := Lib.hid hfo
        have HB := Lib.hid hb
        have HQ := Lib.hid hq
        clear hg hfo hb hq q6
        have BXr : Hid (Box7 wr w.heap.size ⟨1, cr, m, ca, t.kids.length, ccap⟩) := Lib.hid ((HB.out.block _ (by omega)).trans BX2.out)
        have ZXr : Hid (Zero7 wr (w.heap.size + 1)) := Lib.hid ((HB.out.block _ (by omega)).trans ZX2.out)
        have HBW : Hid (Below w.heap.size w wr) := Lib.hid (BW2.out.trans (HB.out.mono (by omega)))
        have SWr : Hid (w.heap.size + 3 ≤ wr.heap.size) := Lib.hid (by have := HB.out.size; have := SW2.out; omega)
        have q6 := BXr.out.cat.2.2.2.2.2.2
        simp only [Nat.zero_add] at q6
        by_cases hlt : k < t.kids.length
        · have hlti : (k : Int) < (t.kids.length : Int) := by omega
          obtain ⟨bb, o, rfl, hf⟩ := HR.out.place (by omega)
          obtain ⟨u, hu⟩ : ∃ u, t.kids[k]? = some u := ⟨_, List.getElem?_eq_getElem hlt⟩
          obtain ⟨y, hy, hiy⟩ := hf k u hu
          clear hf
          have hbl : bb < w.heap.size := hy.lt
          have hlu := lvL_at hu
          have hql : q ≤ ms.length := by have := HQ.out; omega
          have X3 : Hid (Oct w.heap.size (.slice (some ⟨bb, o, none⟩) t.kids.length ccap) bb (o + k * 7) y wr.drew) := Lib.hid (by
            obtain ⟨e0, e1, e2, e3, e4, e5, e6⟩ := hy.up HBW.out
            exact ⟨q6, e0, e1, e2, e3, e4, e5, e6⟩)
          have HIY := Lib.hid (hiy.up HBW.out)
          have HST := Lib.hid (nmL_step (ms := ms.drop 1) hu)
          have HLS := Lib.hid (lvL_step hu)
          have HSU := Lib.hid (show sz u ≤ N by have := HS.out; have := sz_kid hu; omega)
          have hlu2 : lvT u ≤ 900000 := by omega
          have HLU := Lib.hid (show lvT u ≤ (ms.drop q).length by rw [List.length_drop]; have := HQ.out; omega)
          have HDD : Hid ((ms.drop 1).drop (lvL (t.kids.take k)) = ms.drop q) := Lib.hid (by rw [List.drop_drop, HQ.out])
          clear hy hiy hu
          obtain ⟨A, hA⟩ : ∃ A : Option Addr, (if cap = q then a else Option.map (fun x => x.add q) a) = A := ⟨_, rfl⟩
          have HCU := Lib.hid ((HP.out.up HBW.out).drop hql A hA)
          have HK := Lib.hid (fun W (hW : Below wr.heap.size wr W) => HIH.out u y (.slice A (ms.length - q) (cap - q)) (ms.drop q) W HSU.out hlu2 (HIY.out.up hW) (HCU.out.up hW) HLU.out (fun m hm => HFT.out m (List.mem_of_mem_drop hm)))
          have l1 : (0 : Int) ≤ (q : Int) := by omega
          have l2 : (q : Int) ≤ (ms.length : Int) := by omega
          have l3 : q ≤ ms.length := hql
          have BD : Hid (Below wr.heap.size wr wr.drew) := Lib.hid (Below.refl _ wr).drew
          have BZ : Hid (Below wr.heap.size wr (wr.alloc zeroBox).drew) := Lib.hid ((Below.refl _ wr).alloc (Nat.le_refl _) _).drew
          have XZ : Hid (Oct w.heap.size (.slice (some ⟨bb, o, none⟩) t.kids.length ccap) bb (o + k * 7) y (wr.alloc zeroBox).drew) := Lib.hid (oct_up (W := wr) X3.out BZ.out)
          have KZ : Hid (Zero7 (wr.alloc zeroBox).drew wr.heap.size) := Lib.hid (show Zero7 (wr.alloc zeroBox) wr.heap.size from zero_new wr)
          have hsZ : Hid ((wr.alloc zeroBox).drew.heap.size = wr.heap.size + 1) := Lib.hid (show (wr.alloc zeroBox).heap.size = wr.heap.size + 1 by simp)
          have n1 : w.heap.size ≠ wr.heap.size := by have := SWr.out; omega
          have n2 : bb ≠ wr.heap.size := by have := SWr.out; omega
          clear q6
          go_wp2
          go_region_held3 (fun W => W.cell? ⟨w.heap.size, 6, none⟩ = some (.slice (some ⟨bb, o, none⟩) t.kids.length ccap) ∧ W.cell? ⟨bb, o + k * 7, none⟩ = some (.int .u8 y.k) ∧ W.cell? ⟨bb, o + k * 7 + 1, none⟩ = some (.int .i64 y.r.x) ∧ W.cell? ⟨bb, o + k * 7 + 2, none⟩ = some (.int .i64 y.r.y) ∧ W.cell? ⟨bb, o + k * 7 + 3, none⟩ = some (.int .i64 y.r.w) ∧ W.cell? ⟨bb, o + k * 7 + 4, none⟩ = some (.int .i64 y.r.h) ∧ W.cell? ⟨bb, o + k * 7 + 5, none⟩ = some (.int .i64 y.id) ∧ W.cell? ⟨bb, o + k * 7 + 6, none⟩ = some (.slice y.a y.n y.cap)) (first | with_reducible exact X3.out | with_reducible exact XZ.out | with_reducible exact X5.out | with_reducible exact oct_alloc X5.out | with_reducible exact oct_put X5.out n1 n2)
            (first
              | (go_at_call 34; (with_reducible refine (HK.out wr.drew BD.out).mono ?_); rintro e w5 ⟨d, S5, rfl, hd5, hn5, hb5⟩; have P5 := Lib.hid (aft_one BD.out hb5 hd5 hn5); have X5 := Lib.hid (oct_up X3.out hb5); have NO := Lib.hid True.intro; clear hd5 hn5 hb5)
              | (go_at_call 34; (with_reducible refine (HK.out (wr.alloc zeroBox).drew BZ.out).mono ?_); rintro e w5 ⟨d, S5, rfl, hd5, hn5, hb5⟩; have P5 := Lib.hid (aft_two BZ.out hsZ.out KZ.out hb5 hd5 hn5); have X5 := Lib.hid (oct_up XZ.out hb5); have Z5 := Lib.hid (zero_up KZ.out hb5); obtain ⟨⟨z0, z1, z2, z3, z4, z5, z6⟩, f0, f1, f2, f3, f4, f5, f6⟩ := zero_parts Z5.out; clear hd5 hn5 hb5))
          all_goals first
            | (have Z5' := Z5; change Exit.then _ _ _ _ (put7 w5 wr.heap.size d); clear z0 z1 z2 z3 z4 z5 z6 f0 f1 f2 f3 f4 f5 f6 Z5 Z5' X5 X3 XZ KZ; generalize put7 w5 wr.heap.size d = W6 at P5 ⊢)
            | (have NO' := NO; change Exit.then _ _ _ _ (w5.alloc (cbox d)); clear X5 X3 XZ KZ; generalize w5.alloc (cbox d) = W6 at P5 ⊢; generalize w5.heap.size = bk at P5 ⊢)
          all_goals
            obtain ⟨d0, d1, d2, d3, d4, d5, d6⟩ := P5.out.box.cat
            simp only [Nat.zero_add] at d1 d2 d3 d4 d5 d6
            have AB : Hid (Below wr.heap.size wr (W6.alloc (cbox d))) := Lib.hid (P5.out.below.alloc P5.out.below.size _)
            have HLN : Hid (cs.length + [d].length ≤ 1954687338211) := Lib.hid (by have := HF.out.len; rw [nmL_length, List.length_take] at this; simp; omega)
            have FO := Lib.hid (HF.out.row.up AB.out)
            have BB : Hid (Below (w.heap.size + 2) W2 (W6.alloc (cbox d))) := Lib.hid (HB.out.trans (AB.out.mono (by have := SWr.out; omega)))
            have s1 : IntKind.i64.wrap ((q : Int) + ((lvT u : Nat) : Int)) = (q : Int) + ((lvT u : Nat) : Int) := wrap_id (by have := HQ.out; omega)
            go_wp2_with (at_builtin; refine wpList_append_cells rfl _ _ rfl (w.heap.size + 2) u7 _ cs [d] rfl FO.out rfl (OwnC.one W6 0 (Nat.zero_le _) d).row (by simp) HLN.out W2 BB.out (by have := SW2.out; omega) ?_; intro g cap3 w8 hown8 hb8 hgr8 hpl8)
            have HF8 := Lib.hid (HF.out.add P5.out.below P5.out.own P5.out.nodup (Nat.le_refl _) (by have := SWr.out; omega) hown8 hgr8 hpl8)
            have B8 := Lib.hid hb8
            clear hown8 hb8 hgr8 hpl8
            go_wp2
            go_roundg (gk - 1)
            case measure => have := HG.out; omega
            case rel =>
              refine ⟨k + 1, q + lvT u, cs ++ [d], Ss ++ [S5], by have := HG.out; omega, by omega, by go_num, by rw [HLS.out, HQ.out]; omega, by go_num, ?_, B8.out⟩
              rw [HST.out, HDD.out]
              simpa using HF8.out
        · obtain rfl : k = t.kids.length := by omega
          have hkl : ((t.kids.length : Int) < (t.kids.length : Int)) = False := by simp
          have HFA : Hid (Forest wr (w.heap.size + 2) u7 cs (nmL (ms.drop 1) t.kids) Ss) := Lib.hid (by have := HF.out; rw [List.take_length] at this; exact this)
          have HQT : Hid (q = lvT t) := Lib.hid (by have := HQ.out; rw [List.take_length] at this; omega)
          obtain ⟨a', cap', rfl⟩ := HF.out.row.row.shape
          obtain ⟨c0, c1, c2, c3, c4, c5, c6⟩ := BXr.out.cat
          simp only [Nat.zero_add] at c1 c2 c3 c4 c5 c6
          have g6 := BXr.out.free 6
          obtain ⟨⟨z0, z1, z2, z3, z4, z5, z6⟩, f0, f1, f2, f3, f4, f5, f6⟩ := zero_parts ZXr.out
          clear q6
          go_wp2
          (try simp only [Exit.inBlock, Exit.then])
          have hset : (wr.setCell ⟨w.heap.size, 6, none⟩ (.slice a' cs.length cap')).heap[w.heap.size + 1]? = wr.heap[w.heap.size + 1]? := Below.heap_setCell wr ⟨w.heap.size, 6, none⟩ _ _ (by simp)
          have hz2 : Box7 (wr.setCell ⟨w.heap.size, 6, none⟩ (.slice a' cs.length cap')) (w.heap.size + 1) ⟨0, ⟨0, 0, 0, 0⟩, 0, none, 0, 0⟩ := hset.trans ZXr.out
          refine bodyPost_ret (results_cell2 rfl _ _ (w.heap.size + 1) ⟨1, cr, m, a', cs.length, cap'⟩ rfl (hz2.put ⟨1, cr, m, a', cs.length, cap'⟩)) rfl ?_
          have hend := fresh_end (k := 1) (r := cr) (id := m) HBW.out (by have := SWr.out; omega) HFA.out HFINE.out.1 HFINE.out.2.1 hmfit (by rw [nmL_length]; exact hfn)
          refine ⟨⟨1, cr, m, a', cs.length, cap'⟩, blk (.slice a' cs.length cap') ++ Ss.flatten, by rw [← HQT.out]; rfl, ?_, hend.2.1, hend.2.2⟩
          rw [HNM.out]
          exact hend.1
end Go.Proofs.YtakofjbjciljjaaGreat
/- Numbers that come in as an argument: they fit, and can be cut. -/
namespace Go.Proofs.YtakofjbjciljjaaGreat
open Go.ChangeShapes Go.WideShapes Go.ChangeAt Go.WideMaps Go.WideElems Go.RowKit

section
variable {H : Type} {enc : TypeId × Value → H} {w : World} {spare : Nat → Bool} {held : Bool}

theorem cutt_of {fuel : Nat} {v : Value} {x : DataW H × List MemPlace} (h : DataW.trod enc Tryz.prog w 0 spare held fuel 27 [v] = some x) : ∃ ms : List Int, Cutt w v ms ∧ ∀ m ∈ ms, fits m := by
  rcases open_ints Tryz.underlying27 Tryz.underlying3 (by kernel_rfl) h with ⟨hcs, _⟩ | ⟨a, l, c, zs, hcs, _, hl, hm, hz, _, hcell, hwz⟩
  · simp at hcs
    subst hcs
    exact ⟨[], ⟨⟨none, 0, rfl, fun _ => ⟨rfl, rfl⟩, fun _ h => by cases h⟩, none, 0, rfl, Nat.le_refl _⟩, fun m hm => by cases hm⟩
  · simp at hcs
    subst hcs
    have hlm : l ≤ zs.length := by rw [hz]; split <;> omega
    have htl : (zs.take l).length = l := by rw [List.length_take]; omega
    refine ⟨zs.take l, ⟨⟨some a, c, by rw [ints_length, htl], fun h => (by cases h), fun y hy j u hu => ?_⟩, some a, c, by rw [htl], by rw [htl]; exact hl⟩, fun m hm => fits_wf (hwz m (List.mem_of_mem_take hm))⟩
    cases hy
    unfold ints at hu
    rw [List.getElem?_map, Option.map_eq_some_iff] at hu
    obtain ⟨n, hn, rfl⟩ := hu
    have hjl : j < zs.length := by
      rcases Nat.lt_or_ge j zs.length with h | h
      · exact h
      · rw [List.getElem?_take, List.getElem?_eq_none h] at hn; split at hn <;> cases hn
    rw [hcell j hjl]
    rw [List.getElem?_take] at hn
    split at hn
    · rw [List.getD_eq_getElem?_getD, hn]; rfl
    · cases hn
end
end Go.Proofs.YtakofjbjciljjaaGreat
