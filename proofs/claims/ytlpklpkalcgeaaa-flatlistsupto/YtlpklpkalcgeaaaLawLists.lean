/- The law FlatLists. -/
import Derived.Test.YtlpklpkalcgeaaaAwake7
import Derived.Test.YtlpklpkalcgeaaaRIds
import Derived.Deep.RegionHeld3
namespace Go.Proofs.Ytlpklpkalcgeaaa
open Go.RowKit

abbrev Twelve (W : World) (n m : Nat) (c : C) (p : Pn) : Prop := W.cell? ⟨n, 0, none⟩ = some (.int .u8 c.k) ∧ W.cell? ⟨n, 1, none⟩ = some (.int .i64 c.r.x) ∧ W.cell? ⟨n, 2, none⟩ = some (.int .i64 c.r.y) ∧ W.cell? ⟨n, 3, none⟩ = some (.int .i64 c.r.w) ∧ W.cell? ⟨n, 4, none⟩ = some (.int .i64 c.r.h) ∧ W.cell? ⟨n, 5, none⟩ = some (.int .i64 c.id) ∧ W.cell? ⟨n, 6, none⟩ = some (.slice c.a c.n c.cap) ∧
  W.cell? ⟨m, 0, none⟩ = some (.int .i64 p.id) ∧ W.cell? ⟨m, 1, none⟩ = some (.int .i64 p.r.x) ∧ W.cell? ⟨m, 2, none⟩ = some (.int .i64 p.r.y) ∧ W.cell? ⟨m, 3, none⟩ = some (.int .i64 p.r.w) ∧ W.cell? ⟨m, 4, none⟩ = some (.int .i64 p.r.h)
abbrev Row5 (W : World) (b o : Nat) (p : Pn) : Prop := W.cell? ⟨b, o, none⟩ = some (.int .i64 p.id) ∧ W.cell? ⟨b, o + 1, none⟩ = some (.int .i64 p.r.x) ∧ W.cell? ⟨b, o + 2, none⟩ = some (.int .i64 p.r.y) ∧ W.cell? ⟨b, o + 3, none⟩ = some (.int .i64 p.r.w) ∧ W.cell? ⟨b, o + 4, none⟩ = some (.int .i64 p.r.h)
abbrev S17 (n m b o : Nat) (c : C) (p q : Pn) (W : World) : Prop := (W.cell? ⟨n, 0, none⟩ = some (.int .u8 c.k) ∧ W.cell? ⟨n, 1, none⟩ = some (.int .i64 c.r.x) ∧ W.cell? ⟨n, 2, none⟩ = some (.int .i64 c.r.y) ∧ W.cell? ⟨n, 3, none⟩ = some (.int .i64 c.r.w) ∧ W.cell? ⟨n, 4, none⟩ = some (.int .i64 c.r.h) ∧ W.cell? ⟨n, 5, none⟩ = some (.int .i64 c.id) ∧ W.cell? ⟨n, 6, none⟩ = some (.slice c.a c.n c.cap)) ∧
  (W.cell? ⟨m, 0, none⟩ = some (.int .i64 p.id) ∧ W.cell? ⟨m, 1, none⟩ = some (.int .i64 p.r.x) ∧ W.cell? ⟨m, 2, none⟩ = some (.int .i64 p.r.y) ∧ W.cell? ⟨m, 3, none⟩ = some (.int .i64 p.r.w) ∧ W.cell? ⟨m, 4, none⟩ = some (.int .i64 p.r.h)) ∧
  (W.cell? ⟨b, o, none⟩ = some (.int .i64 q.id) ∧ W.cell? ⟨b, o + 1, none⟩ = some (.int .i64 q.r.x) ∧ W.cell? ⟨b, o + 2, none⟩ = some (.int .i64 q.r.y) ∧ W.cell? ⟨b, o + 3, none⟩ = some (.int .i64 q.r.w) ∧ W.cell? ⟨b, o + 4, none⟩ = some (.int .i64 q.r.h))
theorem s17_of {n m b o : Nat} {c : C} {p q : Pn} {W : World} (h1 : CAt W n 0 c) (h2 : PAt W m 0 p) (h3 : PAt W b o q) : S17 n m b o c p q W := by
  obtain ⟨a0, a1, a2, a3, a4, a5, a6⟩ := h1
  obtain ⟨b0, b1, b2, b3, b4⟩ := h2
  simp only [Nat.zero_add] at a1 a2 a3 a4 a5 a6 b1 b2 b3 b4
  exact ⟨⟨a0, a1, a2, a3, a4, a5, a6⟩, ⟨b0, b1, b2, b3, b4⟩, h3⟩

set_option maxRecDepth 100000 in
set_option maxHeartbeats 4000000 in
theorem flatLists_any (t : T) (c : C) (id : Int) (w : World) (hi : Is w c t) (hs : sz t ≤ 1099511627776) : Calls Try.prog 3 #[cval c, .int .i64 id] w fun e w' => e = .returned (.bool true) ∧ Below w.heap.size w w' := by
  have A1 : Hid (Below w.heap.size w (w.alloc (cbox c))) := (Below.refl _ _).alloc (Nat.le_refl _) _
  have HI := Lib.hid hi
  have X1 := Lib.hid (cbox_new w c)
  have HGR := Lib.hid (great_any t c _ (hi.up A1.out))
  have HS := Lib.hid hs
  clear hi hs
  have hgd := eqg_pane
  go_enter Try.func3, Try.ntmps3
  go_wp2_with fail
  refine HGR.out.mono ?_
  rintro e w1 ⟨g, rfl, hg, hb1⟩
  have B1 := Lib.hid (A1.out.trans (hb1.mono A1.out.size))
  have C1 := Lib.hid (X1.out.up hb1)
  have HF := Lib.hid hg
  clear hb1 hg
  cases g with
  | true =>
    go_wp2_with fail
    refine (awake_any w1).mono ?_
    rintro e w2 ⟨rfl, hb2⟩
    have B2 := Lib.hid (B1.out.trans (hb2.mono B1.out.size))
    clear hb2
    go_wp2
    go_ret
    exact ⟨rfl, B2.out⟩
  | false =>
    have hsz : sz t ≤ 200 := HF.out rfl HS.out
    have HSZ := Lib.hid hsz
    clear hsz
    obtain ⟨c0, c1, c2, c3, c4, c5, c6⟩ := C1.out
    simp only [Nat.zero_add] at c1 c2 c3 c4 c5 c6
    have HL := Lib.hid (rlist_any t c w1 (by have := HSZ.out; omega) (HI.out.up B1.out))
    go_wp2_with fail
    refine HL.out.mono ?_
    rintro e w2 ⟨v2, rfl, ho2, hb2⟩
    have B2 := Lib.hid (B1.out.trans (hb2.mono B1.out.size))
    have C2 := Lib.hid (C1.out.up hb2)
    have R2 := Lib.hid ho2.row
    have HN : Hid ((panesT t).length ≤ 1000000) := Lib.hid (by have := panes_len t; have := HSZ.out; omega)
    clear hb2 c0 c1 c2 c3 c4 c5 c6
    obtain ⟨c0, c1, c2, c3, c4, c5, c6⟩ := C2.out
    simp only [Nat.zero_add] at c1 c2 c3 c4 c5 c6
    have HP := Lib.hid (pane_any t c id w2 (by have := HSZ.out; omega) (HI.out.up B2.out))
    have HL2 := Lib.hid (fun W (h : Below w.heap.size w W) => list_any t c W (by have := HSZ.out; omega) (HI.out.up h))
    generalize panesT t = l at HP HL2 R2 HN ho2
    obtain ⟨a2, cap2, rfl⟩ := ho2.row.shape
    clear ho2
    cases hix : idxP l id with
    | none =>
      rw [paneOf_none hix] at HP
      have HIX := Lib.hid hix
      clear hix
      have hE : ∀ w, (Op.equalIn 10000 32 (.agg #[.int .i64 0, .int .i64 0, .int .i64 0, .int .i64 0, .int .i64 0]) (.agg #[.int .i64 0, .int .i64 0, .int .i64 0, .int .i64 0, .int .i64 0])).run Try.prog w = .ok true w := fun w => by
        have := eq_pane zP zP w
        rw [show eqPn zP zP = true by decide] at this
        exact this
      go_wp2_with fail
      refine HP.out.mono ?_
      rintro e w3 ⟨rfl, hb3⟩
      have A3 : Hid (Below w3.heap.size w3 (w3.alloc (pbox zP))) := (Below.refl _ _).alloc (Nat.le_refl _) _
      have B23 := Lib.hid (hb3.trans (A3.out.mono hb3.size))
      have B3 := Lib.hid (B2.out.trans (B23.out.mono B2.out.size))
      have C3 := Lib.hid (C2.out.up B23.out)
      have R3 := Lib.hid (R2.out.up B23.out)
      have P3 := Lib.hid (pbox_new w3 zP)
      clear hb3 c0 c1 c2 c3 c4 c5 c6
      have HFI := Lib.hid (rfindP_any _ l id (w3.alloc (pbox zP)) R3.out HN.out)
      rw [HIX.out] at HFI
      go_wp2_with fail
      refine HFI.out.mono ?_
      rintro e w4 ⟨rfl, hb4⟩
      have hps : posP none = -1 := rfl
      rw [hps]
      have B4 := Lib.hid (B3.out.trans (hb4.mono B3.out.size))
      have C4 := Lib.hid (C3.out.up hb4)
      have R4 := Lib.hid (R3.out.up hb4)
      have P4 := Lib.hid (P3.out.up hb4)
      clear hb4
      obtain ⟨c0, c1, c2, c3, c4, c5, c6⟩ := C4.out
      simp only [Nat.zero_add] at c1 c2 c3 c4 c5 c6
      go_wp2_with fail
      refine (HL2.out w4 B4.out).mono ?_
      rintro e w5 ⟨v5, rfl, ho5, hb5⟩
      have B5 := Lib.hid (B4.out.trans (hb5.mono B4.out.size))
      have R5 := Lib.hid (R4.out.up hb5)
      have P5 := Lib.hid (P4.out.up hb5)
      have Q5 := Lib.hid ho5.row
      obtain ⟨a5, cap5, rfl⟩ := ho5.row.shape
      clear ho5 hb5
      have HSM := Lib.hid (rsameP_any _ _ l l w5 Q5.out R5.out HN.out)
      rw [eqPs_self] at HSM
      go_wp2_with fail
      refine HSM.out.mono ?_
      rintro e w6 ⟨rfl, hb6⟩
      have B6 := Lib.hid (B5.out.trans (hb6.mono B5.out.size))
      obtain ⟨p0, p1, p2, p3, p4⟩ := P5.out.up hb6
      simp only [Nat.zero_add] at p1 p2 p3 p4
      clear hb6 c0 c1 c2 c3 c4 c5 c6
      go_wp2_with fail
      refine (awake_any w6).mono ?_
      rintro e w7 ⟨rfl, hb7⟩
      have B7 := Lib.hid (B6.out.trans (hb7.mono B6.out.size))
      clear hb7
      go_wp2
      go_ret
      exact ⟨rfl, B7.out⟩
    | some i =>
      obtain ⟨p, hp, -⟩ := idx_at hix
      rw [paneOf_some hix hp] at HP
      have HIX := Lib.hid hix
      have HPP := Lib.hid hp
      have hil : i < l.length := lt_of_get hp
      clear hix hp
      have hE : ∀ w, (Op.equalIn 10000 32 (.agg #[.int .i64 p.id, .int .i64 p.r.x, .int .i64 p.r.y, .int .i64 p.r.w, .int .i64 p.r.h]) (.agg #[.int .i64 p.id, .int .i64 p.r.x, .int .i64 p.r.y, .int .i64 p.r.w, .int .i64 p.r.h])).run Try.prog w = .ok true w := fun w => by
        have := eq_pane p p w
        rw [show eqPn p p = true by simp [eqPn]] at this
        exact this
      go_wp2_with fail
      refine HP.out.mono ?_
      rintro e w3 ⟨rfl, hb3⟩
      have A3 : Hid (Below w3.heap.size w3 (w3.alloc (pbox p))) := (Below.refl _ _).alloc (Nat.le_refl _) _
      have B23 := Lib.hid (hb3.trans (A3.out.mono hb3.size))
      have B3 := Lib.hid (B2.out.trans (B23.out.mono B2.out.size))
      have C3 := Lib.hid (C2.out.up B23.out)
      have R3 := Lib.hid (R2.out.up B23.out)
      have P3 := Lib.hid (pbox_new w3 p)
      clear hb3 c0 c1 c2 c3 c4 c5 c6
      have HFI := Lib.hid (rfindP_any _ l id (w3.alloc (pbox p)) R3.out HN.out)
      rw [HIX.out] at HFI
      go_wp2_with fail
      refine HFI.out.mono ?_
      rintro e w4 ⟨rfl, hb4⟩
      have hps : posP (some i) = (i : Int) := rfl
      rw [hps]
      have d0 : decide ((i : Int) < 0) = false := decide_eq_false (by omega)
      have B4 := Lib.hid (B3.out.trans (hb4.mono B3.out.size)).drew
      have C4 := Lib.hid (C3.out.up hb4)
      have R4 := Lib.hid (R3.out.up hb4)
      have P4 := Lib.hid (P3.out.up hb4)
      clear hb4
      obtain ⟨b, o, rfl, hf⟩ := R4.out.place (by omega)
      have Q4 := Lib.hid (hf i p HPP.out)
      clear hf
      have hili : (i : Int) < (l.length : Int) := by omega
      have S4 := Lib.hid (s17_of (W := w4.drew) C4.out P4.out Q4.out)
      go_wp2
      go_region_held3 (fun W => (W.cell? ⟨w.heap.size, 0, none⟩ = some (.int .u8 c.k) ∧ W.cell? ⟨w.heap.size, 1, none⟩ = some (.int .i64 c.r.x) ∧ W.cell? ⟨w.heap.size, 2, none⟩ = some (.int .i64 c.r.y) ∧ W.cell? ⟨w.heap.size, 3, none⟩ = some (.int .i64 c.r.w) ∧ W.cell? ⟨w.heap.size, 4, none⟩ = some (.int .i64 c.r.h) ∧ W.cell? ⟨w.heap.size, 5, none⟩ = some (.int .i64 c.id) ∧ W.cell? ⟨w.heap.size, 6, none⟩ = some (.slice c.a c.n c.cap)) ∧
  (W.cell? ⟨w3.heap.size, 0, none⟩ = some (.int .i64 p.id) ∧ W.cell? ⟨w3.heap.size, 1, none⟩ = some (.int .i64 p.r.x) ∧ W.cell? ⟨w3.heap.size, 2, none⟩ = some (.int .i64 p.r.y) ∧ W.cell? ⟨w3.heap.size, 3, none⟩ = some (.int .i64 p.r.w) ∧ W.cell? ⟨w3.heap.size, 4, none⟩ = some (.int .i64 p.r.h)) ∧
  (W.cell? ⟨b, o + i * 5, none⟩ = some (.int .i64 p.id) ∧ W.cell? ⟨b, o + i * 5 + 1, none⟩ = some (.int .i64 p.r.x) ∧ W.cell? ⟨b, o + i * 5 + 2, none⟩ = some (.int .i64 p.r.y) ∧ W.cell? ⟨b, o + i * 5 + 3, none⟩ = some (.int .i64 p.r.w) ∧ W.cell? ⟨b, o + i * 5 + 4, none⟩ = some (.int .i64 p.r.h))) (first | with_reducible exact S4.out | with_reducible exact S5.out | with_reducible exact S6.out | with_reducible exact S7.out)
        (first
          | (go_at_call 14; (with_reducible refine (HL2.out w4.drew B4.out).mono ?_); rintro e w5 ⟨v5, rfl, ho5, hb5⟩; have B5 := Lib.hid (B4.out.trans (hb5.mono B4.out.size)); have R5 := Lib.hid ((show PRow w4.drew _ l from R4.out).up hb5); have Q5 := Lib.hid ho5.row; have S5 := Lib.hid (s17_of ((show CAt w4.drew w.heap.size 0 c from C4.out).up hb5) ((show PAt w4.drew w3.heap.size 0 p from P4.out).up hb5) ((show PAt w4.drew b (o + i * 5) p from Q4.out).up hb5)); have C5 := Lib.hid ((show CAt w4.drew w.heap.size 0 c from C4.out).up hb5); have P5 := Lib.hid ((show PAt w4.drew w3.heap.size 0 p from P4.out).up hb5); have K5 := Lib.hid ((show PAt w4.drew b (o + i * 5) p from Q4.out).up hb5); obtain ⟨a5, cap5, rfl⟩ := ho5.row.shape; clear ho5 hb5)
          | (go_at_call 13; (with_reducible refine (rsameP_any _ _ l l w5 Q5.out R5.out HN.out).mono ?_); rw [eqPs_self]; rintro e w6 ⟨rfl, hb6⟩; have B6 := Lib.hid (B5.out.trans (hb6.mono B5.out.size)); have S6 := Lib.hid (s17_of (C5.out.up hb6) (P5.out.up hb6) (K5.out.up hb6)); have C6 := Lib.hid (C5.out.up hb6); have P6 := Lib.hid (P5.out.up hb6); have K6 := Lib.hid (K5.out.up hb6); clear hb6)
          | (go_at_call 9; (with_reducible refine (awake_any w6).mono ?_); rintro e w7 ⟨rfl, hb7⟩; have B7 := Lib.hid (B6.out.trans (hb7.mono B6.out.size)); have S7 := Lib.hid (s17_of (C6.out.up hb7) (P6.out.up hb7) (K6.out.up hb7)); clear hb7))
      go_wp2
      go_ret
      exact ⟨rfl, B7.out⟩

theorem flatLists_wf (t : T) (c : C) (id : Int) (v : Value) (w : World) (hv : v = cval c) (hi : Is w c t) (hs : sz t ≤ 1048576) : Calls Try.prog 3 #[v, .int .i64 id] w fun e w' => e = .returned (.bool true) ∧ Below w.heap.size w w' := by
  subst hv
  exact flatLists_any t c id w hi (by omega)
end Go.Proofs.Ytlpklpkalcgeaaa
