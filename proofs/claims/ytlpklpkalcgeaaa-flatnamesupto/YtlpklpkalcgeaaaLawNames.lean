/- The law FlatNames. -/
import Derived.Test.YtlpklpkalcgeaaaFName
import Derived.Test.YtlpklpkalcgeaaaRName
import Derived.Test.YtlpklpkalcgeaaaAwake7
import Derived.Test.YtlpklpkalcgeaaaSameB
namespace Go.Proofs.Ytlpklpkalcgeaaa
open Go.RowKit

theorem mem_idsL {l : List T} {m : Int} (h : m ∈ idsL l) : ∃ (j : Nat) (u : T), l[j]? = some u ∧ m ∈ idsT u := by
  induction l with
  | nil => simp [idsL, preL] at h
  | cons t l ih =>
    rw [idsL_cons] at h
    rcases List.mem_append.1 h with h | h
    · exact ⟨0, t, rfl, h⟩
    · obtain ⟨j, u, h1, h2⟩ := ih h
      exact ⟨j + 1, u, by simpa using h1, h2⟩
theorem Is.ids {w : World} {c : C} {t : T} (h : Is w c t) : ∀ m ∈ idsT t, fits m := by
  induction h with
  | mk c ts cs row len fine each ih =>
    intro m hm
    rw [idsT_eq] at hm
    rcases List.mem_append.1 hm with hm | hm
    · have hm' : m ∈ (if c.k = 1 then [c.id] else []) := hm
      split at hm'
      · simp at hm'; subst hm'; exact fine.2.2.1
      · cases hm'
    · obtain ⟨j, u, hu, hmu⟩ := mem_idsL hm
      obtain ⟨x, hx⟩ := get_of len (lt_of_get hu)
      exact ih j x u hx hu m hmu
theorem same_self (t : T) : sameT t t = true := (sameT_iff t t).2 rfl
theorem eqI_self (p : List Int) : eqI p p = true := by simp [eqI]

/-- What is there behind the inner call. -/
structure Aft7 (W W9 : World) (b : C) (bk : Nat) (u : T) : Prop where
  below : Below W.heap.size W W9
  box : Box7 W9 bk b
  ans : Is W9 b u
theorem aft7_one {W w5 w6 : World} {b : C} {u : T} (h5 : Below W.heap.size W w5) (h6 : Below w5.heap.size w5 w6) (hi : ∀ W', (∀ k, w5.heap.size ≤ k → W'.heap[k]? = w6.heap[k]?) → Is W' b u) : Aft7 W (w6.alloc (cbox b)) b w6.heap.size u := by
  have ha : Below w6.heap.size w6 (w6.alloc (cbox b)) := (Below.refl _ _).alloc (Nat.le_refl _) _
  have h56 := h5.trans (h6.mono h5.size)
  exact ⟨h56.trans (ha.mono h56.size), Box7.new w6 b, (hi w6 fun _ _ => rfl).up ha⟩
theorem aft7_two {W w5 w6 : World} {b : C} {u : T} {z : Nat} (h5 : Below W.heap.size W w5) (hz : Zero7 w5 z) (hzl : W.heap.size ≤ z) (h6 : Below w5.heap.size w5 w6) (hi : ∀ W', (∀ k, w5.heap.size ≤ k → W'.heap[k]? = w6.heap[k]?) → Is W' b u) : Aft7 W (put7 w6 z b) b z u := by
  have hzs := lt_of_block hz
  exact ⟨below_put7 (h5.trans (h6.mono h5.size)) hzl b, (Box7.of_zero (zero_up hz h6)).put b, hi _ fun k hk => heap_put7 (by omega)⟩

abbrev CX (n m : Nat) (c d : C) (W : World) : Prop := (W.cell? ⟨n, 0, none⟩ = some (.int .u8 c.k) ∧ W.cell? ⟨n, 1, none⟩ = some (.int .i64 c.r.x) ∧ W.cell? ⟨n, 2, none⟩ = some (.int .i64 c.r.y) ∧ W.cell? ⟨n, 3, none⟩ = some (.int .i64 c.r.w) ∧ W.cell? ⟨n, 4, none⟩ = some (.int .i64 c.r.h) ∧ W.cell? ⟨n, 5, none⟩ = some (.int .i64 c.id) ∧ W.cell? ⟨n, 6, none⟩ = some (.slice c.a c.n c.cap)) ∧ (W.cell? ⟨m, 0, none⟩ = some (.int .u8 d.k) ∧ W.cell? ⟨m, 1, none⟩ = some (.int .i64 d.r.x) ∧ W.cell? ⟨m, 2, none⟩ = some (.int .i64 d.r.y) ∧ W.cell? ⟨m, 3, none⟩ = some (.int .i64 d.r.w) ∧ W.cell? ⟨m, 4, none⟩ = some (.int .i64 d.r.h) ∧ W.cell? ⟨m, 5, none⟩ = some (.int .i64 d.id) ∧ W.cell? ⟨m, 6, none⟩ = some (.slice d.a d.n d.cap))
theorem cx_of {n m : Nat} {c d : C} {W : World} (h1 : CAt W n 0 c) (h2 : CAt W m 0 d) : CX n m c d W := by
  obtain ⟨a0, a1, a2, a3, a4, a5, a6⟩ := h1
  obtain ⟨b0, b1, b2, b3, b4, b5, b6⟩ := h2
  simp only [Nat.zero_add] at a1 a2 a3 a4 a5 a6 b1 b2 b3 b4 b5 b6
  exact ⟨⟨a0, a1, a2, a3, a4, a5, a6⟩, b0, b1, b2, b3, b4, b5, b6⟩
theorem cx_cat {n m : Nat} {c d : C} {W : World} (h : CX n m c d W) : CAt W n 0 c ∧ CAt W m 0 d := by
  obtain ⟨⟨a0, a1, a2, a3, a4, a5, a6⟩, b0, b1, b2, b3, b4, b5, b6⟩ := h
  refine ⟨⟨a0, ?_, ?_, ?_, ?_, ?_, ?_⟩, b0, ?_, ?_, ?_, ?_, ?_, ?_⟩ <;> (simp only [Nat.zero_add]; assumption)
theorem cx_up {n m : Nat} {c d : C} {W W' : World} (h : CX n m c d W) (hb : Below W.heap.size W W') : CX n m c d W' := cx_of ((cx_cat h).1.up hb) ((cx_cat h).2.up hb)
theorem cx_alloc {n m : Nat} {c d : C} {W : World} {o : Obj} (h : CX n m c d W) : CX n m c d (W.alloc o) := cx_up h ((Below.refl _ _).alloc (Nat.le_refl _) _)
theorem cx_put {n m : Nat} {c d e : C} {W : World} {b : Nat} (h : CX n m c d W) (h1 : n ≠ b) (h2 : m ≠ b) : CX n m c d (put7 W b e) := by
  have hc := cx_cat h
  have g : ∀ (k o : Nat) (x : C), k ≠ b → CAt W k o x → CAt (put7 W b e) k o x := fun k o x hk hx => by
    have q : ∀ i v, W.cell? ⟨k, i, none⟩ = some v → (put7 W b e).cell? ⟨k, i, none⟩ = some v := fun i v hv => (World.cell?_of_block (a := ⟨k, i, none⟩) (heap_put7 hk)).trans hv
    obtain ⟨a0, a1, a2, a3, a4, a5, a6⟩ := hx
    exact ⟨q _ _ a0, q _ _ a1, q _ _ a2, q _ _ a3, q _ _ a4, q _ _ a5, q _ _ a6⟩
  exact cx_of (g _ _ _ h1 hc.1) (g _ _ _ h2 hc.2)

set_option maxRecDepth 100000 in
set_option maxHeartbeats 8000000 in
theorem flatNames_any (t : T) (c : C) (v : Value) (ids : List Int) (w : World) (hi : Is w c t) (hs : sz t ≤ 1099511627776) (hp : Cutt w v ids) (hfit : ∀ m ∈ ids, fits m) : Calls Try.prog 4 #[cval c, v] w fun e w' => e = .returned (.bool true) ∧ Below w.heap.size w w' := by
  obtain ⟨a, cap, rfl, hcap⟩ := hp.cap
  have A1 : Hid (Below w.heap.size w (w.alloc (cbox c))) := (Below.refl _ _).alloc (Nat.le_refl _) _
  have HI := Lib.hid hi
  have HP := Lib.hid hp
  have HFT := Lib.hid hfit
  have X1 := Lib.hid (cbox_new w c)
  have HGR := Lib.hid (great_any t c _ (hi.up A1.out))
  have HS := Lib.hid hs
  have HIDF := Lib.hid hi.ids
  clear hi hs hp hfit
  go_enter Try.func4, Try.ntmps4
  go_wp2_with fail
  refine HGR.out.mono ?_
  rintro e w1 ⟨g, rfl, hg, hb1⟩
  have B1 := Lib.hid (A1.out.trans (hb1.mono A1.out.size))
  have C1 := Lib.hid (X1.out.up hb1)
  have HF := Lib.hid hg
  clear hb1 hg
  cases g with
  | true =>
    go_wp2_with fail
    refine (awake_any w1).mono ?_
    rintro e w2 ⟨rfl, hb2⟩
    have B2 := Lib.hid (B1.out.trans (hb2.mono B1.out.size))
    clear hb2
    go_wp2
    go_ret
    exact ⟨rfl, B2.out⟩
  | false =>
    have hsz : sz t ≤ 200 := HF.out rfl HS.out
    have HSZ := Lib.hid hsz
    clear hsz
    by_cases h300 : 300 < ids.length
    · have d3 : decide (300 < (ids.length : Int)) = true := decide_eq_true (by omega)
      have d3' : decide (300 < ids.length) = true := decide_eq_true h300
      go_wp2_with fail
      refine (awake_any w1).mono ?_
      rintro e w2 ⟨rfl, hb2⟩
      have B2 := Lib.hid (B1.out.trans (hb2.mono B1.out.size))
      clear hb2
      go_wp2
      go_ret
      exact ⟨rfl, B2.out⟩
    have d3 : decide (300 < (ids.length : Int)) = false := decide_eq_false (by omega)
    have d3' : decide (300 < ids.length) = false := decide_eq_false h300
    have hlv : Hid (lvT t ≤ 200) := Lib.hid (by rw [← panes_lv]; have := panes_len t; have := HSZ.out; omega)
    obtain ⟨c0, c1, c2, c3, c4, c5, c6⟩ := C1.out
    simp only [Nat.zero_add] at c1 c2 c3 c4 c5 c6
    have HN := Lib.hid (name_any t c _ ids w1 (HI.out.up B1.out) (by have := HSZ.out; omega) (HP.out.up B1.out).row HFT.out)
    go_wp2_with fail
    refine HN.out.mono ?_
    rintro e w2 ⟨x, rfl, hx2, hb2⟩
    have B2 := Lib.hid (B1.out.trans (hb2.mono B1.out.size))
    have A3 : Hid (Below w2.heap.size w2 (w2.alloc (cbox x))) := (Below.refl _ _).alloc (Nat.le_refl _) _
    have B3 := Lib.hid (B2.out.trans (A3.out.mono B2.out.size))
    have C3 := Lib.hid ((C1.out.up hb2).up A3.out)
    have D3 := Lib.hid (cbox_new w2 x)
    have I3 := Lib.hid ((hx2 w2 fun _ _ => rfl).up A3.out)
    have L6 : Hid (w.heap.size < w2.heap.size) := Lib.hid (by have := C1.out.lt; have := hb2.size; omega)
    clear hb2 hx2 c0 c1 c2 c3 c4 c5 c6
    have HID := Lib.hid (rids_any t c (w2.alloc (cbox x)) (by have := HSZ.out; omega) (HI.out.up B3.out))
    obtain ⟨c0, c1, c2, c3, c4, c5, c6⟩ := C3.out
    simp only [Nat.zero_add] at c1 c2 c3 c4 c5 c6
    go_wp2_with fail
    refine HID.out.mono ?_
    rintro e w4 ⟨v4, rfl, ho4, hb4⟩
    have B4 := Lib.hid (B3.out.trans (hb4.mono B3.out.size))
    have C4 := Lib.hid (C3.out.up hb4)
    have D4 := Lib.hid (D3.out.up hb4)
    have I4 := Lib.hid (I3.out.up hb4)
    obtain ⟨a4, cap4, rfl⟩ := row_shape ho4.row
    have HLE : Hid ((idsT t).length = lvT t) := Lib.hid (ids_len t)
    clear ho4 hb4 c0 c1 c2 c3 c4 c5 c6
    rw [HLE.out]
    by_cases hlen : ids.length = lvT t
    · have hres : nameR ids t = some (nmT ids t) := by unfold nameR; rw [if_pos hlen]
      rw [hres] at I4 ⊢
      have J4 : Hid (Is w4 x (nmT ids t)) := Lib.hid I4.out
      have so : (some (nmT ids t)).isSome = true := rfl
      rw [so]
      have HEQ := Lib.hid hlen
      have d0 : ((ids.length : Int) != (lvT t : Int)) = false := by simp; omega
      have d0' : ((lvT t : Int) == (ids.length : Int)) = true := by simp; omega
      clear hlen hres I4 so
      obtain ⟨c0, c1, c2, c3, c4, c5, c6⟩ := C4.out
      simp only [Nat.zero_add] at c1 c2 c3 c4 c5 c6
      have HRN := Lib.hid (rname_any (sz t) t c _ ids w4 (Nat.le_refl _) (by have := hlv.out; omega) (HI.out.up B4.out) (HP.out.up B4.out) (by have := HEQ.out; omega) HFT.out)
      go_wp2_with fail
      refine HRN.out.mono ?_
      rintro e w5 ⟨y, S5, rfl, hy5, -, hb5⟩
      have A6 : Hid (Below w5.heap.size w5 (w5.alloc (cbox y))) := (Below.refl _ _).alloc (Nat.le_refl _) _
      have B46 := Lib.hid (hb5.trans (A6.out.mono hb5.size))
      have B6 := Lib.hid (B4.out.trans (B46.out.mono B4.out.size))
      have C6 := Lib.hid (C4.out.up B46.out)
      have D6 := Lib.hid (D4.out.up B46.out)
      have J6 := Lib.hid (J4.out.up B46.out)
      have E6 := Lib.hid (cbox_new w5 y)
      have K6 := Lib.hid (hy5.is.up A6.out)
      clear hy5 hb5 c0 c1 c2 c3 c4 c5 c6
      go_upto_region 7 with fail
      change Code.wp _ _ _ _ (w5.alloc (cbox y))
      have LW : Hid (w2.heap.size < (w5.alloc (cbox y)).heap.size) := Lib.hid D6.out.lt
      generalize w5.alloc (cbox y) = W at B6 C6 D6 J6 E6 K6 LW ⊢
      generalize w5.heap.size = wb at E6 ⊢
      have HIDS := Lib.hid (fun W' (h : Below W.heap.size W W') => rids_any t c W' (by have := HSZ.out; omega) ((HI.out.up B6.out).up h))
      have HNB := Lib.hid (fun W' u (h : Below W.heap.size W W') (hr : Row W' u (ints (idsT t))) => name_any (nmT ids t) x u (idsT t) W' (J6.out.up h) (by rw [nm_sz]; have := HSZ.out; omega) hr HIDF.out)
      have hnb : nameR (idsT t) (nmT ids t) = some t := by unfold nameR; rw [if_pos (by rw [nm_lv, ids_len]), nm_back_all]
      rw [hnb] at HNB
      clear hnb
      have BD : Hid (Below W.heap.size W W.drew) := Lib.hid (Below.refl _ W).drew
      have BZ : Hid (Below W.heap.size W (W.alloc zeroBox).drew) := Lib.hid ((Below.refl _ W).alloc (Nat.le_refl _) _).drew
      have S0 : Hid (CX w.heap.size w2.heap.size c x W.drew) := Lib.hid (cx_of (W := W) C6.out D6.out)
      have SZ : Hid (CX w.heap.size w2.heap.size c x (W.alloc zeroBox).drew) := Lib.hid (cx_up (W := W) S0.out BZ.out)
      have KZ : Hid (Zero7 (W.alloc zeroBox).drew W.heap.size) := Lib.hid (show Zero7 (W.alloc zeroBox) W.heap.size from zero_new W)
      have n1 : w.heap.size ≠ W.heap.size := by have := LW.out; have := L6.out; omega
      have n2 : w2.heap.size ≠ W.heap.size := by have := LW.out; omega
      go_region_held3 (fun W => (W.cell? ⟨w.heap.size, 0, none⟩ = some (.int .u8 c.k) ∧ W.cell? ⟨w.heap.size, 1, none⟩ = some (.int .i64 c.r.x) ∧ W.cell? ⟨w.heap.size, 2, none⟩ = some (.int .i64 c.r.y) ∧ W.cell? ⟨w.heap.size, 3, none⟩ = some (.int .i64 c.r.w) ∧ W.cell? ⟨w.heap.size, 4, none⟩ = some (.int .i64 c.r.h) ∧ W.cell? ⟨w.heap.size, 5, none⟩ = some (.int .i64 c.id) ∧ W.cell? ⟨w.heap.size, 6, none⟩ = some (.slice c.a c.n c.cap)) ∧ (W.cell? ⟨w2.heap.size, 0, none⟩ = some (.int .u8 x.k) ∧ W.cell? ⟨w2.heap.size, 1, none⟩ = some (.int .i64 x.r.x) ∧ W.cell? ⟨w2.heap.size, 2, none⟩ = some (.int .i64 x.r.y) ∧ W.cell? ⟨w2.heap.size, 3, none⟩ = some (.int .i64 x.r.w) ∧ W.cell? ⟨w2.heap.size, 4, none⟩ = some (.int .i64 x.r.h) ∧ W.cell? ⟨w2.heap.size, 5, none⟩ = some (.int .i64 x.id) ∧ W.cell? ⟨w2.heap.size, 6, none⟩ = some (.slice x.a x.n x.cap))) (first | with_reducible exact S0.out | with_reducible exact SZ.out | with_reducible exact S5.out | with_reducible exact cx_alloc S5.out | with_reducible exact S7.out | with_reducible exact cx_alloc S7.out | with_reducible exact cx_put S7.out n1 n2 | with_reducible exact cx_put S7.out n3 n4)
        (first
          | (go_at_call 16; (with_reducible refine (HIDS.out W.drew BD.out).mono ?_); rintro e w7 ⟨v7, rfl, ho7, hb7⟩; have B7 := Lib.hid (BD.out.trans (hb7.mono BD.out.size)); have R7 := Lib.hid ho7.row; have S5 := Lib.hid (cx_up S0.out hb7); have NO := Lib.hid True.intro; have n3 : w.heap.size ≠ w7.heap.size := (by have := LW.out; have := L6.out; have := B7.out.size; omega); have n4 : w2.heap.size ≠ w7.heap.size := (by have := LW.out; have := B7.out.size; omega); clear ho7 hb7)
          | (go_at_call 16; (with_reducible refine (HIDS.out (W.alloc zeroBox).drew BZ.out).mono ?_); rintro e w7 ⟨v7, rfl, ho7, hb7⟩; have B7 := Lib.hid (BZ.out.trans (hb7.mono BZ.out.size)); have R7 := Lib.hid ho7.row; have S5 := Lib.hid (cx_up SZ.out hb7); have Z7 := Lib.hid (zero_up KZ.out hb7); clear ho7 hb7)
          | (go_at_call 15; have Z7' := Z7; (with_reducible refine (HNB.out w7 v7 B7.out R7.out).mono ?_); rintro e w8 ⟨b, rfl, hb, hb8⟩; have P := Lib.hid (aft7_two B7.out Z7.out (Nat.le_refl _) hb8 hb); have S7 := Lib.hid (cx_up S5.out hb8); have Z8 := Lib.hid (zero_up Z7.out hb8); obtain ⟨⟨z0, z1, z2, z3, z4, z5, z6⟩, f0, f1, f2, f3, f4, f5, f6⟩ := zero_parts Z8.out; clear hb hb8)
          | (go_at_call 15; have NO' := NO; (with_reducible refine (HNB.out w7 v7 B7.out R7.out).mono ?_); rintro e w8 ⟨b, rfl, hb, hb8⟩; have P := Lib.hid (aft7_one B7.out hb8 hb); have S7 := Lib.hid (cx_up S5.out hb8); have ONE := Lib.hid True.intro; clear hb hb8)
          | (go_at_call 15; have NO' := NO; (with_reducible refine (HNB.out (w7.alloc zeroBox) v7 (B7.out.alloc B7.out.size _) (R7.out.up ((Below.refl _ _).alloc (Nat.le_refl _) _))).mono ?_); rintro e w8 ⟨b, rfl, hb, hb8⟩; have P := Lib.hid (aft7_two (B7.out.alloc B7.out.size zeroBox) (zero_new w7) B7.out.size hb8 hb); have S7 := Lib.hid (cx_up (cx_alloc S5.out) hb8); have Z8 := Lib.hid (zero_up (zero_new w7) hb8); obtain ⟨⟨z0, z1, z2, z3, z4, z5, z6⟩, f0, f1, f2, f3, f4, f5, f6⟩ := zero_parts Z8.out; clear hb hb8))
      all_goals first
        | (have h1 := ONE; change Exit.then _ _ _ _ (w8.alloc (cbox b)); clear S5 S7; generalize w8.alloc (cbox b) = W9 at P ⊢; generalize w8.heap.size = bk at P ⊢)
        | (have h1 := Z7; change Exit.then _ _ _ _ (put7 w8 W.heap.size b); clear z0 z1 z2 z3 z4 z5 z6 f0 f1 f2 f3 f4 f5 f6 Z8 S5 S7; generalize put7 w8 W.heap.size b = W9 at P ⊢)
        | (change Exit.then _ _ _ _ (put7 w8 w7.heap.size b); clear z0 z1 z2 z3 z4 z5 z6 f0 f1 f2 f3 f4 f5 f6 Z8 S5 S7; generalize put7 w8 w7.heap.size b = W9 at P ⊢; generalize w7.heap.size = bk at P ⊢)
      all_goals
        have B9 := Lib.hid (B6.out.trans (P.out.below.mono B6.out.size))
        have C9 := Lib.hid (C6.out.up P.out.below)
        have D9 := Lib.hid (D6.out.up P.out.below)
        have E9 := Lib.hid (E6.out.up P.out.below)
        have J9 := Lib.hid (J6.out.up P.out.below)
        have K9 := Lib.hid (K6.out.up P.out.below)
        have F9 := Lib.hid P.out.box.cat
        have I9 := Lib.hid P.out.ans
        clear P S0 SZ KZ BD BZ B7 R7 HIDS HNB n1 n2
        obtain ⟨c0, c1, c2, c3, c4, c5, c6⟩ := D9.out
        simp only [Nat.zero_add] at c1 c2 c3 c4 c5 c6
        obtain ⟨e0, e1, e2, e3, e4, e5, e6⟩ := E9.out
        simp only [Nat.zero_add] at e1 e2 e3 e4 e5 e6
        have HSM := Lib.hid (rsame_any (sz (nmT ids t)) (nmT ids t) (nmT ids t) x y W9 (Nat.le_refl _) J9.out K9.out)
        rw [same_self] at HSM
        go_wp2_with fail
        refine HSM.out.mono ?_
        rintro e w10 ⟨rfl, hb10⟩
        have B10 := Lib.hid (B9.out.trans (hb10.mono B9.out.size))
        have C10 := Lib.hid (C9.out.up hb10)
        have D10 := Lib.hid (D9.out.up hb10)
        have J10 := Lib.hid (J9.out.up hb10)
        have F10 := Lib.hid (F9.out.up hb10)
        have I10 := Lib.hid (I9.out.up hb10)
        clear hb10 c0 c1 c2 c3 c4 c5 c6 e0 e1 e2 e3 e4 e5 e6
        obtain ⟨c0, c1, c2, c3, c4, c5, c6⟩ := D10.out
        simp only [Nat.zero_add] at c1 c2 c3 c4 c5 c6
        have HID2 := Lib.hid (rids_any (nmT ids t) x w10 (by rw [nm_sz]; have := HSZ.out; omega) J10.out)
        rw [nm_ids_all HEQ.out] at HID2
        go_wp2_with fail
        refine HID2.out.mono ?_
        rintro e w11 ⟨v11, rfl, ho11, hb11⟩
        have B11 := Lib.hid (B10.out.trans (hb11.mono B10.out.size))
        have C11 := Lib.hid (C10.out.up hb11)
        have F11 := Lib.hid (F10.out.up hb11)
        have I11 := Lib.hid (I10.out.up hb11)
        have R11 := Lib.hid ho11.row
        obtain ⟨a11, cap11, rfl⟩ := row_shape ho11.row
        clear ho11 hb11 c0 c1 c2 c3 c4 c5 c6
        have HIN := Lib.hid (ints_any _ _ ids ids w11 R11.out (HP.out.up B11.out).row (by omega))
        rw [eqI_self] at HIN
        go_wp2_with fail
        refine HIN.out.mono ?_
        rintro e w12 ⟨rfl, hb12⟩
        have B12 := Lib.hid (B11.out.trans (hb12.mono B11.out.size))
        have C12 := Lib.hid (C11.out.up hb12)
        have F12 := Lib.hid (F11.out.up hb12)
        have I12 := Lib.hid (I11.out.up hb12)
        clear hb12
        have so : (some t).isSome = true := rfl
        obtain ⟨c0, c1, c2, c3, c4, c5, c6⟩ := C12.out
        simp only [Nat.zero_add] at c1 c2 c3 c4 c5 c6
        obtain ⟨e0, e1, e2, e3, e4, e5, e6⟩ := F12.out
        simp only [Nat.zero_add] at e1 e2 e3 e4 e5 e6
        have HSB := Lib.hid (rsame_any (sz t) t t b c w12 (Nat.le_refl _) I12.out (HI.out.up B12.out))
        rw [same_self] at HSB
        go_wp2_with fail
        refine HSB.out.mono ?_
        rintro e w13 ⟨rfl, hb13⟩
        have B13 := Lib.hid (B12.out.trans (hb13.mono B12.out.size))
        clear hb13
        go_wp2_with fail
        refine (awake_any w13).mono ?_
        rintro e w14 ⟨rfl, hb14⟩
        have B14 := Lib.hid (B13.out.trans (hb14.mono B13.out.size))
        clear hb14
        go_wp2
        go_ret
        exact ⟨rfl, B14.out⟩
    · have hres : nameR ids t = none := by unfold nameR; rw [if_neg hlen]
      rw [hres] at I4 ⊢
      have J4 : Hid (Is w4 x zT) := Lib.hid I4.out
      have so : (none : Option T).isSome = false := rfl
      rw [so]
      have d0 : ((ids.length : Int) != (lvT t : Int)) = true := by simp; omega
      have d0' : (ids.length == lvT t) = false := by rw [beq_eq_false_iff_ne]; omega
      clear hlen hres I4 so
      obtain ⟨c0, c1, c2, c3, c4, c5, c6⟩ := D4.out
      simp only [Nat.zero_add] at c1 c2 c3 c4 c5 c6
      have HSM := Lib.hid (rsame_any (sz zT) zT zT x zC w4 (Nat.le_refl _) J4.out (zero_is w4))
      rw [same_self] at HSM
      go_wp2_with fail
      refine HSM.out.mono ?_
      rintro e w5 ⟨rfl, hb5⟩
      have B5 := Lib.hid (B4.out.trans (hb5.mono B4.out.size))
      clear hb5
      go_wp2_with fail
      refine (awake_any w5).mono ?_
      rintro e w6 ⟨rfl, hb6⟩
      have B6 := Lib.hid (B5.out.trans (hb6.mono B5.out.size))
      clear hb6
      go_wp2
      go_ret
      exact ⟨rfl, B6.out⟩

theorem flatNames_wf (t : T) (c : C) (v0 v : Value) (ids : List Int) (w : World) (hv : v0 = cval c) (hi : Is w c t) (hs : sz t ≤ 1048576) (hp : Cutt w v ids) (hfit : ∀ m ∈ ids, fits m) : Calls Try.prog 4 #[v0, v] w fun e w' => e = .returned (.bool true) ∧ Below w.heap.size w w' := by
  subst hv
  exact flatNames_any t c v ids w hi (by omega) hp hfit
end Go.Proofs.Ytlpklpkalcgeaaa
