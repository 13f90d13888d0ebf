/- How many cells of a path are along an axis: the document's. -/
import Derived.Test.YtajhojbnpajelaaPaths
namespace Go.Proofs.Ytajhojbnpajelaa
open Go.RowKit

theorem drewN_below (w : World) (n : Nat) : Below w.heap.size w (w.drewN n) := ⟨rfl, rfl, rfl, Nat.le_refl _, fun _ _ => rfl⟩

set_option maxRecDepth 100000 in
set_option maxHeartbeats 1600000 in
theorem rpath_any (ax : Int) (p : List Int) : ∀ (t : T) (c : C) (v : Value) (w : World), Is w c t → Path w v p → p.length ≤ 1000000 →
    Calls Try.prog 20 #[cval c, .int .u8 ax, v] w fun e w' => e = .returned (.int .i64 (pathT ax t p : Nat)) ∧ Below w.heap.size w w' := by
  induction p with
  | nil =>
    intro t c v w hi hp _
    obtain ⟨a, cap, rfl, -⟩ := hp.cap
    clear hi hp
    have e0 : ((0 : Int) == 0) = true := rfl
    go_enter Try.func20, Try.ntmps20
    go_wp2
    go_ret
    exact ⟨rfl, (Below.refl _ _).alloc (Nat.le_refl _) _⟩
  | cons k p ih =>
    intro t c v w hi hp hl
    obtain ⟨a, cap, rfl, hcap⟩ := hp.cap
    obtain ⟨pb, po, rfl, hpf⟩ := int_at hp.row (by simp)
    have hp0 := hpf 0 k rfl
    rw [Nat.add_zero] at hp0
    clear hpf
    have HP0 := Lib.hid hp0
    have HIH := Lib.hid ih
    have HP := Lib.hid hp
    have HI := Lib.hid hi
    have hn := hi.n
    have HKK := Lib.hid hi.split.1
    clear ih hp hi
    obtain ⟨ck, cr, cid, ca, cn, ccap⟩ := c
    simp only at hn HKK
    subst hn
    have hlp : (k :: p).length = p.length + 1 := rfl
    rw [hlp] at hcap hl
    have d0 : (((p.length : Int) + 1) == 0) = false := by rw [beq_eq_false_iff_ne]; omega
    have HA : Hid (Below w.heap.size w (w.alloc (cbox ⟨ck, cr, cid, ca, t.kids.length, ccap⟩))) := (Below.refl _ _).alloc (Nat.le_refl _) _
    have HC := Lib.hid (cbox_new w ⟨ck, cr, cid, ca, t.kids.length, ccap⟩)
    have HAL := Lib.hid (ralong_any ⟨ck, cr, cid, ca, t.kids.length, ccap⟩ ax (w.alloc (cbox ⟨ck, cr, cid, ca, t.kids.length, ccap⟩)))
    have HPE : Hid (pathT ax t (k :: p) = one8 (alB ck ax) + match kidAt t k with | some u => pathT ax u p | none => 0) := Lib.hid (by rw [pathT, HKK.out]; cases kidAt t k <;> rfl)
    have HPL := Lib.hid (path_len ax p)
    simp only at HAL
    generalize pathT ax t (k :: p) = P at HPE ⊢
    generalize alB ck ax = ab at HPE HAL
    cases hk : kidAt t k with
    | none =>
      rw [hk] at HPE
      have HPV : Hid (P = one8 ab) := Lib.hid (by rw [HPE.out]; rfl)
      have hkn := kid_none hk
      clear hk HPE
      go_enter Try.func20, Try.ntmps20
      go_wp2_with fail
      refine HAL.out.mono ?_
      rintro e w2 ⟨rfl, hb2⟩
      have HB2 := Lib.hid (HA.out.trans (hb2.mono HA.out.size))
      obtain ⟨c0, c1, c2, c3, c4, c5, c6⟩ := c7_of (HC.out.up hb2)
      have x0 := (HB2.out.cell (lt_of_cell HP0.out)).trans HP0.out
      clear hb2
      by_cases h0 : k < 0
      · have g0 : decide (k < 0) = true := decide_eq_true h0
        cases ab
        all_goals
          go_wp2
          go_quiet (fail)
          go_wp2
          go_ret
          exact ⟨ret_int (by rw [HPV.out]; rfl), HB2.out.trans ((drewN_below _ _).mono HB2.out.size)⟩
      · have g0 : decide (k < 0) = false := decide_eq_false h0
        have g1 : decide ((t.kids.length : Int) ≤ k) = true := decide_eq_true (by omega)
        cases ab
        all_goals
          go_wp2
          go_quiet (fail)
          go_wp2
          go_ret
          exact ⟨ret_int (by rw [HPV.out]; rfl), HB2.out.trans ((drewN_below _ _).mono HB2.out.size)⟩
    | some u =>
      rw [hk] at HPE
      have HPV : Hid (P = one8 ab + pathT ax u p) := Lib.hid (by rw [HPE.out])
      obtain ⟨j, rfl, hj⟩ := kid_some hk
      have hjl : j < t.kids.length := (List.getElem?_eq_some_iff.1 hj).1
      obtain ⟨bb, o, rfl, hf⟩ := HI.out.row.place (by omega)
      obtain ⟨y, hy, hiy⟩ := hf j u hj
      have HY := Lib.hid hy
      have HIY := Lib.hid hiy
      have g0 : decide ((j : Int) < 0) = false := decide_eq_false (by omega)
      have g1 : decide ((t.kids.length : Int) ≤ (j : Int)) = false := decide_eq_false (by omega)
      have g2 : decide (t.kids.length ≤ j) = false := decide_eq_false (by omega)
      clear hf hj hk HPE hy hiy
      obtain ⟨A, hA⟩ : ∃ A : Addr, (if cap = 1 then some ⟨pb, po, none⟩ else some ⟨pb, po + 1, none⟩ : Option Addr) = some A := by split <;> exact ⟨_, rfl⟩
      have hpt := path_if HP.out hcap
      rw [hA] at hpt
      have HPT := Lib.hid hpt
      clear hpt
      have HK := Lib.hid (fun W (h : Below w.heap.size w W) => HIH.out u y _ W (HIY.out.up h) (HPT.out.up h) (by omega))
      have hpu := path_len ax p u
      generalize pathT ax u p = pu at HK HPV hpu
      go_enter Try.func20, Try.ntmps20
      go_wp2_with fail
      refine HAL.out.mono ?_
      rintro e w2 ⟨rfl, hb2⟩
      have HB2 := Lib.hid (HA.out.trans (hb2.mono HA.out.size))
      have D2 := Lib.hid (HC.out.up hb2)
      obtain ⟨c0, c1, c2, c3, c4, c5, c6⟩ := c7_of D2.out
      have x0 := (HB2.out.cell (lt_of_cell HP0.out)).trans HP0.out
      obtain ⟨e0, e1, e2, e3, e4, e5, e6⟩ := HY.out.up HB2.out
      clear hb2
      have l1 : (1 : Int) ≤ (p.length : Int) + 1 := by omega
      have l2 : (p.length : Int) + 1 ≤ (cap : Int) := by omega
      cases ab
      all_goals
        go_wp2
        go_quiet (fail)
        go_wp2
        have X00 : Hid (Nine w.heap.size (.slice (some ⟨bb, o, none⟩) t.kids.length ccap) (.int .i64 (j : Int)) pb po bb (o + j * 7) y (w2.drewN nq).drew) := Lib.hid ⟨c6, x0, e0, e1, e2, e3, e4, e5, e6⟩
        have X0 : Hid (Nine w.heap.size (.slice (some ⟨bb, o, none⟩) t.kids.length ccap) (.int .i64 (j : Int)) pb po bb (o + j * 7) y (w2.drewN (nq + 1))) := Lib.hid ⟨c6, x0, e0, e1, e2, e3, e4, e5, e6⟩
        have B0 : Hid (Below w.heap.size w (w2.drewN (nq + 1))) := Lib.hid (HB2.out.trans ((drewN_below _ _).mono HB2.out.size))
        go_region_held3 (fun W => W.cell? ⟨w.heap.size, 6, none⟩ = some (.slice (some ⟨bb, o, none⟩) t.kids.length ccap) ∧ W.cell? ⟨pb, po, none⟩ = some (.int .i64 (j : Int)) ∧ W.cell? ⟨bb, o + j * 7, none⟩ = some (.int .u8 y.k) ∧ W.cell? ⟨bb, o + j * 7 + 1, none⟩ = some (.int .i64 y.r.x) ∧ W.cell? ⟨bb, o + j * 7 + 2, none⟩ = some (.int .i64 y.r.y) ∧ W.cell? ⟨bb, o + j * 7 + 3, none⟩ = some (.int .i64 y.r.w) ∧ W.cell? ⟨bb, o + j * 7 + 4, none⟩ = some (.int .i64 y.r.h) ∧ W.cell? ⟨bb, o + j * 7 + 5, none⟩ = some (.int .i64 y.id) ∧ W.cell? ⟨bb, o + j * 7 + 6, none⟩ = some (.slice y.a y.n y.cap)) (first | with_reducible exact X00.out | with_reducible exact X0.out | with_reducible exact X5.out)
          (first
            | (go_at_call 20; refine (HK.out _ B0.out).mono ?_; rintro e w5 ⟨rfl, hb5⟩; have X5 := Lib.hid (X0.out.up hb5); have B5 := Lib.hid (B0.out.trans (hb5.mono B0.out.size)); clear hb5))
        go_wp2
        go_ret
        exact ⟨ret_int (by rw [HPV.out, wrap_id (by omega)]; first | (rw [show one8 true = 1 from rfl]; omega) | (rw [show one8 false = 0 from rfl]; omega)), B5.out⟩
end Go.Proofs.Ytajhojbnpajelaa
