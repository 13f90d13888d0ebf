/- What flat.Name's closure writes. -/
import Derived.Test.YtlpklpkalcgeaaaNameO
import Derived.Test.YtlpklpkalcgeaaaAt
namespace Go.Proofs.Ytlpklpkalcgeaaa
open Go.RowKit

/-- The tree at the empty path, in memory of the call's own. -/
def AtOwn (t : T) (w : World) (e : Ending) (w' : World) : Prop := ∃ d S, e = .returned (.tuple #[cval d, .bool true]) ∧ OwnT w' w.heap.size d t S ∧ S.Nodup ∧ Below w.heap.size w w'
set_option maxRecDepth 100000 in
theorem at_own (t : T) (c : C) (w : World) (hi : Is w c t) : Calls Try.prog 32 #[cval c, .slice none 0 0] w (AtOwn t w) := by
  have B1 : Hid (Below w.heap.size w ((w.alloc (cbox c)).alloc zeroBox)) := ((Below.refl _ _).alloc (Nat.le_refl _) _).alloc (by simp) _
  have Z1 : Hid (Zero7 ((w.alloc (cbox c)).alloc zeroBox) (w.heap.size + 1)) := Lib.hid (by
    have := zero_new (w.alloc (cbox c))
    simpa using this)
  have HC := Lib.hid (follow_any w t c (.slice none 0 0) [] ((w.alloc (cbox c)).alloc zeroBox) B1.out hi ⟨none, 0, rfl, fun _ => ⟨rfl, rfl⟩, fun x hx => by cases hx⟩ (by simp))
  clear hi
  have HC2 : Hid (Calls Try.prog 40 #[cval c, .slice none 0 0] ((w.alloc (cbox c)).alloc zeroBox) fun e w' => ∃ y, e = .returned (.tuple #[cval y, .bool true]) ∧ Is w y t ∧ Below ((w.alloc (cbox c)).alloc zeroBox).heap.size ((w.alloc (cbox c)).alloc zeroBox) w') := HC.out.mono fun e w' h => by
    unfold FollowSays at h
    obtain ⟨hb, y, h1, h2⟩ := h
    exact ⟨y, h1, h2, hb⟩
  clear HC
  go_enter Try.func32, Try.ntmps32
  go_wp2_with fail
  refine HC2.out.mono ?_
  rintro e w2 ⟨y, rfl, hiy, hb2⟩
  have HB2 := Lib.hid (B1.out.trans (hb2.mono B1.out.size))
  have HZ2 := Lib.hid (zero_up Z1.out hb2)
  have HA : Hid (Below w2.heap.size w2 (w2.alloc (cbox y))) := (Below.refl _ _).alloc (Nat.le_refl _) _
  have HF := Lib.hid (fresh_any (sz t) t y (w2.alloc (cbox y)) (Nat.le_refl _) ((hiy.up HB2.out).up HA.out))
  clear hiy hb2
  go_wp2_with fail
  refine HF.out.mono ?_
  rintro e w3 ⟨d, S3, rfl, hown, hnd, hb3⟩
  have HO := Lib.hid hown
  have HND := Lib.hid hnd
  have HB3 := Lib.hid (HB2.out.trans ((below_one hb3).mono HB2.out.size))
  have HZ3 := Lib.hid (zero_up HZ2.out (below_one hb3))
  have HSZ : Hid (w.heap.size + 2 ≤ w2.heap.size) := Lib.hid (by have := lt_of_block HZ2.out; omega)
  obtain ⟨⟨z0, z1, z2, z3, z4, z5, z6⟩, f0, f1, f2, f3, f4, f5, f6⟩ := zero_parts HZ3.out
  clear hown hb3 hnd
  go_wp2
  (try simp only [Exit.inBlock, Exit.then])
  refine bodyPost_ret (results_cell2 rfl _ _ (w.heap.size + 1) d rfl ((Box7.of_zero HZ3.out).put d)) rfl ?_
  refine ⟨d, S3, rfl, ?_, HND.out, below_put7 HB3.out (by omega) d⟩
  refine (HO.out.frame fun k hk => ?_).lower (by have := HSZ.out; simp; omega)
  have := (HO.out.ge k hk).1
  have := HSZ.out
  simp at *
  exact heap_put7 (by omega)

theorem own_free {w : World} {base : Nat} {v : Value} {l : List C} (h : OwnC w base v l) {g : Nat} (hg : v.ownBlock = some g) (o : Nat) : w.frozen? ⟨g, o, none⟩ = false := by
  rcases h.2 with ⟨rfl, -⟩ | ⟨g', cap, cur, rfl, hb, hg', -⟩
  · cases hg
  · cases hg; simp [World.frozen?, hg']
theorem OwnT.free {w : World} {base : Nat} {c : C} {t : T} {S : List Nat} (h : OwnT w base c t S) : ∀ k ∈ S, ∀ o, w.frozen? ⟨k, o, none⟩ = false := by
  induction h with
  | mk c kids cs Ss fine row len slen each ih =>
    intro k hk o
    rcases List.mem_append.1 hk with hk | hk
    · unfold blk at hk
      split at hk
      · rename_i g hg
        simp at hk; subst hk
        exact own_free row hg o
      · cases hk
    · obtain ⟨j, S, hS, hkS⟩ := mem_flat.1 hk
      have hj : j < kids.length := by rw [← slen]; exact (List.getElem?_eq_some_iff.1 hS).1
      exact ih j _ _ S (List.getElem?_eq_getElem (by rw [len]; exact hj)) (List.getElem?_eq_getElem hj) hS k hkS o

/-- Two numbers are written: a leaf's, and how many were met. -/
abbrev nameW (W : World) (b o mb : Nat) (m k : Int) : World := (W.setCell ⟨b, o, none⟩ (.int .i64 m)).setCell ⟨mb, 0, none⟩ (.int .i64 k)
set_option maxRecDepth 100000 in
theorem name1_any (b o ib mb : Nat) (j : Nat) (m old : Int) (ids : List Int) (a : Option Addr) (cap : Nat) (W : World) (hids : W.cell? ⟨ib, 0, none⟩ = some (.slice a ids.length cap)) (hrow : Row W (.slice a ids.length cap) (ints ids)) (hm : ids[j]? = some m) (hmet : Box1 W mb (.int .i64 (j : Int)) 3)
    (hc : W.cell? ⟨b, o + 5, none⟩ = some (.int .i64 old)) (hf : W.frozen? ⟨b, o + 5, none⟩ = false) (hne : b ≠ mb) (hj : j < 1000000) :
    Calls Try.prog 33 #[.pointer (some ⟨b, o, none⟩), .pointer (some ⟨ib, 0, none⟩), .pointer (some ⟨mb, 0, none⟩)] W fun e w' => e = .returned (.tuple #[]) ∧ w' = nameW W b (o + 5) mb m ((j : Int) + 1) := by
  have hjl : j < ids.length := lt_of_get hm
  have hjli : (j : Int) < (ids.length : Int) := by omega
  obtain ⟨pb, po, rfl, hcell⟩ := int_at hrow (by omega)
  have c0 := hcell j m hm
  have q0 := cell_of_one hmet
  have q1 := free_of_one hmet
  clear hcell hrow hm hmet
  have hnm : mb ≠ b := Ne.symm hne
  go_enter Try.func33, Try.ntmps33
  go_wp2
  go_end0
  exact ⟨rfl, rfl⟩
theorem enters33 : Enters 33 := enters_of Try.func33 (by kernel_rfl) rfl

/-- What is there when so many leaves have their numbers. -/
structure Met1 (w W0 : World) (mb : Nat) (lf : List (Nat × Nat)) (ids : List Int) (j : Nat) (W : World) : Prop where
  below : Below w.heap.size w W
  done : ∀ (i : Nat) (a : Nat × Nat) (m : Int), i < j → lf[i]? = some a → ids[i]? = some m → W.cell? ⟨a.1, a.2 + 5, none⟩ = some (.int .i64 m)
  other : ∀ (b o : Nat), b ≠ mb → (∀ (i : Nat) (a : Nat × Nat), i < j → lf[i]? = some a → ¬ (b = a.1 ∧ o = a.2 + 5)) → W.cell? ⟨b, o, none⟩ = W0.cell? ⟨b, o, none⟩
  free : ∀ (b o : Nat), W.frozen? ⟨b, o, none⟩ = W0.frozen? ⟨b, o, none⟩
  block : ∀ k, k ≠ mb → (∀ a ∈ lf, k ≠ a.1) → W.heap[k]? = W0.heap[k]?
  met : Box1 W mb (.int .i64 (j : Int)) 3

theorem met_step {w W0 W : World} {mb : Nat} {lf : List (Nat × Nat)} {ids : List Int} {j : Nat} {a : Nat × Nat} {m : Int} (h : Met1 w W0 mb lf ids j W) (hnd : lf.Nodup) (ha : lf[j]? = some a) (hm : ids[j]? = some m) (hmb : w.heap.size ≤ mb) (hge : w.heap.size ≤ a.1) (hne : ∀ a ∈ lf, a.1 ≠ mb) {old : Value} (hc : W0.cell? ⟨a.1, a.2 + 5, none⟩ = some old) :
    Met1 w W0 mb lf ids (j + 1) (nameW W a.1 (a.2 + 5) mb m ((j : Int) + 1)) := by
  have hap : ∀ (i : Nat) (b : Nat × Nat), i < j → lf[i]? = some b → b ≠ a := fun i b hi hb e => by
    subst e
    unfold List.Nodup at hnd
    rw [List.pairwise_iff_getElem] at hnd
    obtain ⟨h1, h1'⟩ := List.getElem?_eq_some_iff.1 hb
    obtain ⟨h2, h2'⟩ := List.getElem?_eq_some_iff.1 ha
    exact hnd i j h1 h2 hi (h1'.trans h2'.symm)
  have hcur : W.cell? ⟨a.1, a.2 + 5, none⟩ = some old := by
    rw [h.other a.1 (a.2 + 5) (hne a (List.mem_of_getElem? ha)) fun i b hi hb e => hap i b hi hb (by obtain ⟨b1, b2⟩ := b; obtain ⟨a1, a2⟩ := a; simp only at e; rw [Prod.mk.injEq]; omega)]
    exact hc
  have ham := hne a (List.mem_of_getElem? ha)
  have hset : ∀ (b o : Nat), b ≠ mb → (nameW W a.1 (a.2 + 5) mb m ((j : Int) + 1)).cell? ⟨b, o, none⟩ = (W.setCell ⟨a.1, a.2 + 5, none⟩ (.int .i64 m)).cell? ⟨b, o, none⟩ := fun b o hb => World.cell?_setCell_other _ _ _ _ (fun e => hb (by injection e with e1 e2; exact e1.symm))
  have hset2 : ∀ (b o : Nat), ¬ (b = a.1 ∧ o = a.2 + 5) → (W.setCell ⟨a.1, a.2 + 5, none⟩ (.int .i64 m)).cell? ⟨b, o, none⟩ = W.cell? ⟨b, o, none⟩ := fun b o hb => World.cell?_setCell_other _ _ _ _ (fun e => hb (by injection e with e1 e2; exact ⟨e1.symm, e2.symm⟩))
  refine ⟨(h.below.setCell hge _).setCell hmb _, fun i b n hi hb hn => ?_, fun b o hb hno => ?_, fun b o => ?_, fun k hk hno => ?_, ?_⟩
  · rw [hset _ _ (hne b (List.mem_of_getElem? hb))]
    rcases Nat.lt_or_ge i j with hij | hij
    · rw [hset2 _ _ fun e => hap i b hij hb (by obtain ⟨b1, b2⟩ := b; obtain ⟨a1, a2⟩ := a; simp only at e; rw [Prod.mk.injEq]; omega)]
      exact h.done i b n hij hb hn
    · obtain rfl : i = j := by omega
      rw [ha] at hb; cases hb
      rw [hm] at hn; cases hn
      exact World.cell?_setCell_same _ _ _ hcur
  · rw [hset _ _ hb, hset2 _ _ (hno j a (by omega) ha)]
    exact h.other b o hb fun i c hi hc => hno i c (by omega) hc
  · exact (World.frozen?_setCell _ _ _ _).trans ((World.frozen?_setCell _ _ _ _).trans (h.free b o))
  · rw [Below.heap_setCell _ ⟨mb, 0, none⟩ _ k hk, Below.heap_setCell _ ⟨a.1, a.2 + 5, none⟩ _ k (hno a (List.mem_of_getElem? ha))]
    exact h.block k hk hno
  · have := one_setCell (u := .int .i64 (((j + 1 : Nat) : Int))) (show Box1 (W.setCell ⟨a.1, a.2 + 5, none⟩ (.int .i64 m)) mb (.int .i64 (j : Int)) 3 from (Below.heap_setCell _ ⟨a.1, a.2 + 5, none⟩ _ mb (Ne.symm ham)).trans h.met)
    have e : (((j + 1 : Nat) : Int)) = (j : Int) + 1 := by omega
    rw [e] at this
    show Box1 _ mb (.int .i64 (((j + 1 : Nat) : Int))) 3
    rw [e]
    exact this

theorem IsL.frame {w w' : World} {x : L} {c : C} {t : T} (h : IsL w x c t) : (∀ a ∈ adT x, ∀ i, w'.cell? ⟨a.1, a.2 + i, none⟩ = w.cell? ⟨a.1, a.2 + i, none⟩) → IsL w' x c t := by
  induction h with
  | mk b o c ts xs cs cat fine cn xl cl place each ih =>
    intro hk
    have hq : ∀ i, w'.cell? ⟨b, o + i, none⟩ = w.cell? ⟨b, o + i, none⟩ := hk (b, o) (by rw [adT]; exact List.mem_cons_self ..)
    obtain ⟨a0, a1, a2, a3, a4, a5, a6⟩ := cat
    refine .mk b o c ts xs cs ⟨(hq 0).trans a0, (hq 1).trans a1, (hq 2).trans a2, (hq 3).trans a3, (hq 4).trans a4, (hq 5).trans a5, (hq 6).trans a6⟩ fine cn xl cl place fun j y x u hy hx hu => ?_
    exact ih j y x u hy hx hu fun a ha => hk a (by rw [adT]; exact List.mem_cons_of_mem _ (mem_adL.2 ⟨j, y, hy, ha⟩))
theorem IsL.at_ {w : World} {x : L} {c : C} {t : T} (h : IsL w x c t) : ∀ a ∈ adT x, ∃ y : C, CAt w a.1 a.2 y := by
  induction h with
  | mk b o c ts xs cs cat fine cn xl cl place each ih =>
    intro a ha
    rw [adT] at ha
    rcases List.mem_cons.1 ha with rfl | ha
    · exact ⟨c, cat⟩
    · obtain ⟨j, y, hy, hay⟩ := mem_adL.1 ha
      have hj : j < ts.length := by rw [← xl]; exact lt_of_get hy
      obtain ⟨x, hx⟩ := get_of cl hj
      obtain ⟨u, hu⟩ := get_of rfl hj
      exact ih j y x u hy hx hu a hay
/-- A tree whose kinds and kids stand where they stood. -/
theorem IsL.lies_of {w w' : World} {x : L} {c : C} {t : T} (h : IsL w x c t) : (∀ a ∈ adT x, ∀ i, i = 0 ∨ i = 6 → w'.cell? ⟨a.1, a.2 + i, none⟩ = w.cell? ⟨a.1, a.2 + i, none⟩) → Lies w' x t := by
  induction h with
  | mk b o c ts xs cs cat fine cn xl cl place each ih =>
    intro hk
    have hq : ∀ i, i = 0 ∨ i = 6 → w'.cell? ⟨b, o + i, none⟩ = w.cell? ⟨b, o + i, none⟩ := hk (b, o) (by rw [adT]; exact List.mem_cons_self ..)
    obtain ⟨h0, -, -, -, -, -, h6⟩ := cat
    rw [cn] at h6
    have g0 := hq 0 (.inl rfl)
    rw [Nat.add_zero] at g0
    refine .mk b o c.k c.r c.id ts xs c.a c.cap (g0.trans h0) ((hq 6 (.inr rfl)).trans h6) xl (by rw [← cn]; exact fine.2.2.2) place fun j y u hy hu => ?_
    obtain ⟨x, hx⟩ := get_of cl (lt_of_get hu)
    exact ih j y x u hy hx hu fun a ha => hk a (by rw [adT]; exact List.mem_cons_of_mem _ (mem_adL.2 ⟨j, y, hy, ha⟩))
end Go.Proofs.Ytlpklpkalcgeaaa
