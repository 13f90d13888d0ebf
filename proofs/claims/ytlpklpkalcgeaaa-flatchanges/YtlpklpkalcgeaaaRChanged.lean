/- Those panes that are new, or of another size: the document's walk. -/
import Derived.Test.YtlpklpkalcgeaaaFChanged
namespace Go.Proofs.Ytlpklpkalcgeaaa
open Go.RowKit

set_option maxRecDepth 100000 in
set_option maxHeartbeats 1000000 in
theorem rchanged_any (v1 v2 : Value) (a b : List Pn) (w : World) (h1 : PRow w v1 a) (h2 : PRow w v2 b) (hl1 : a.length ≤ 900000) (hl2 : b.length ≤ 900000) :
    Calls Try.prog 24 #[v1, v2] w (PanesSays (changedP a b) w) := by
  obtain ⟨a1, cap1, rfl⟩ := h1.shape
  obtain ⟨a2, cap2, rfl⟩ := h2.shape
  have H1 := Lib.hid h1
  have H2 := Lib.hid h2
  clear h1 h2
  have HE := Lib.hid (OwnP.empty w w.heap.size (Nat.le_refl _))
  unfold changedP
  go_enter Try.func24, Try.ntmps24
  go_wp2
  go_loopg [5, 11] (b.length + 1) (fun g v i wr => ∃ k : Nat, g + k = b.length + 1 ∧ k ≤ b.length ∧ i = .int .i64 k ∧ OwnP wr w.heap.size v ((b.take k).filter (chB a)) ∧ Below w.heap.size w wr)
  case atStart => exact ⟨0, by omega, by omega, rfl, by simpa using HE.out, (Below.refl _ _).alloc (Nat.le_refl _) _⟩
  case round =>
    obtain ⟨k, hg, hk, rfl, hown, hb⟩ := hrel
    have HG := Lib.hid hg
    have HO := Lib.hid hown
    have HB := Lib.hid hb
    clear hg hown hb
    by_cases hlt : k < b.length
    · have hlti : (k : Int) < (b.length : Int) := by omega
      obtain ⟨bb, o, rfl, hf⟩ := H2.out.place (by omega)
      obtain ⟨p, hp⟩ : ∃ p, b[k]? = some p := ⟨_, List.getElem?_eq_getElem hlt⟩
      have PP := Lib.hid (hf k p hp)
      obtain ⟨c0, c1, c2, c3, c4⟩ := PP.out.up HB.out
      clear hf
      have HST := Lib.hid (filterP_step (chB a) hp)
      have HFD := Lib.hid (rfindP_any _ a p.id wr (H1.out.up HB.out) (by omega))
      have HLN : Hid (((b.take k).filter (chB a)).length + [p].length ≤ 1000000) := Lib.hid (by have := filterP_len b k (chB a); simp; omega)
      clear hp
      cases hix : idxP a p.id with
      | none =>
        rw [hix] at HFD
        have hc : chB a p = true := by rw [chB, paneOf_none hix]; rfl
        rw [hc] at HST
        clear hc hix
        go_wp2_with fail
        refine HFD.out.mono ?_
        rintro e w3 ⟨rfl, hb3⟩
        have hps : posP none = -1 := rfl
        rw [hps]
        have O3 := Lib.hid (HO.out.up hb3)
        have B3 := Lib.hid (HB.out.trans (hb3.mono HB.out.size))
        clear hb3 c0 c1 c2 c3 c4
        go_wp2
        go_quiet (fail)
        have O4 : Hid (OwnP (w3.drewN nq) w.heap.size u5 ((b.take k).filter (chB a))) := Lib.hid O3.out
        have B4 : Hid (Below w.heap.size w (w3.drewN nq)) := Lib.hid ⟨B3.out.os, B3.out.tape, B3.out.output, B3.out.size, B3.out.block⟩
        clear O3 B3
        generalize w3.drewN nq = w4 at O4 B4 ⊢
        obtain ⟨c0, c1, c2, c3, c4⟩ := PP.out.up B4.out
        go_wp2_with (at_builtin; refine wpList_append_panes rfl _ _ rfl w.heap.size u5 _ ((b.take k).filter (chB a)) [p] rfl (O4.out.up ((Below.refl _ _).alloc (Nat.le_refl _) _)) rfl (OwnP.one w4 0 (Nat.zero_le _) p).row (by simp) HLN.out w (B4.out.alloc B4.out.size _) (Nat.le_refl _) ?_; intro g cap3 w5 hown5 hb5 hgr5 hpl5)
        have O5 := Lib.hid hown5
        have B5 := Lib.hid hb5
        clear hown5 hb5 hgr5 hpl5
        go_wp2
        go_roundg (gk - 1)
        case measure => have := HG.out; omega
        case rel =>
          refine ⟨k + 1, by have := HG.out; omega, by omega, by go_num, ?_, B5.out⟩
          rw [HST.out]
          simpa using O5.out
      | some i =>
        obtain ⟨q, hq, -⟩ := idx_at hix
        rw [hix] at HFD
        have HCH : Hid (chB a p = (p.r.w != q.r.w || p.r.h != q.r.h)) := Lib.hid (by rw [chB, paneOf_some hix hq]; rfl)
        have hil := lt_of_get hq
        obtain ⟨ba, oa, rfl, hfa⟩ := H1.out.place (by omega)
        have QQ := Lib.hid (hfa i q hq)
        clear hix hfa hq
        have d0 : decide ((i : Int) < 0) = false := decide_eq_false (by omega)
        have hili : (i : Int) < (a.length : Int) := by omega
        have hcase : (chB a p = true ∧ (p.r.w != q.r.w) = true) ∨ (chB a p = true ∧ (p.r.w != q.r.w) = false ∧ (p.r.h != q.r.h) = true) ∨ (chB a p = false ∧ (p.r.w != q.r.w) = false ∧ (p.r.h != q.r.h) = false) := by
          rw [HCH.out]
          cases (p.r.w != q.r.w) <;> cases (p.r.h != q.r.h) <;> simp
        clear HCH
        go_wp2_with fail
        refine HFD.out.mono ?_
        rintro e w3 ⟨rfl, hb3⟩
        have hps : posP (some i) = (i : Int) := rfl
        rw [hps]
        have O3 := Lib.hid (HO.out.up hb3)
        have B3 := Lib.hid (HB.out.trans (hb3.mono HB.out.size))
        clear hb3 c0 c1 c2 c3 c4
        obtain ⟨e0, e1, e2, e3, e4⟩ : PAt w3 bb (o + k * 5) p := PP.out.up B3.out
        obtain ⟨f0, f1, f2, f3, f4⟩ : PAt w3 ba (oa + i * 5) q := QQ.out.up B3.out
        rcases hcase with ⟨hc, d1⟩ | ⟨hc, d1, d2⟩ | ⟨hc, d1, d2⟩
        · rw [hc] at HST
          have d1' : (q.r.w != p.r.w) = true := by rw [bne_comm]; exact d1
          have d1q : (q.r.w == p.r.w) = false := by simpa [bne] using d1'
          clear hc
          go_wp2
          go_quiet (fail)
          have O4 : Hid (OwnP (w3.drewN nq) w.heap.size u5 ((b.take k).filter (chB a))) := Lib.hid O3.out
          have B4 : Hid (Below w.heap.size w (w3.drewN nq)) := Lib.hid ⟨B3.out.os, B3.out.tape, B3.out.output, B3.out.size, B3.out.block⟩
          clear O3 B3
          generalize w3.drewN nq = w4 at O4 B4 ⊢
          clear e0 e1 e2 e3 e4 f0 f1 f2 f3 f4
          obtain ⟨c0, c1, c2, c3, c4⟩ := PP.out.up B4.out
          go_wp2_with (at_builtin; refine wpList_append_panes rfl _ _ rfl w.heap.size u5 _ ((b.take k).filter (chB a)) [p] rfl (O4.out.up ((Below.refl _ _).alloc (Nat.le_refl _) _)) rfl (OwnP.one w4 0 (Nat.zero_le _) p).row (by simp) HLN.out w (B4.out.alloc B4.out.size _) (Nat.le_refl _) ?_; intro g cap3 w5 hown5 hb5 hgr5 hpl5)
          have O5 := Lib.hid hown5
          have B5 := Lib.hid hb5
          clear hown5 hb5 hgr5 hpl5
          go_wp2
          go_roundg (gk - 1)
          case measure => have := HG.out; omega
          case rel =>
            refine ⟨k + 1, by have := HG.out; omega, by omega, by go_num, ?_, B5.out⟩
            rw [HST.out]
            simpa using O5.out
        · rw [hc] at HST
          have d1' : (q.r.w != p.r.w) = false := by rw [bne_comm]; exact d1
          have d1q : (q.r.w == p.r.w) = true := by simpa [bne] using d1'
          have d2' : (q.r.h != p.r.h) = true := by rw [bne_comm]; exact d2
          have d2q : (q.r.h == p.r.h) = false := by simpa [bne] using d2'
          clear hc
          go_wp2
          go_quiet (fail)
          have O4 : Hid (OwnP (w3.drewN nq) w.heap.size u5 ((b.take k).filter (chB a))) := Lib.hid O3.out
          have B4 : Hid (Below w.heap.size w (w3.drewN nq)) := Lib.hid ⟨B3.out.os, B3.out.tape, B3.out.output, B3.out.size, B3.out.block⟩
          clear O3 B3
          generalize w3.drewN nq = w4 at O4 B4 ⊢
          clear e0 e1 e2 e3 e4 f0 f1 f2 f3 f4
          obtain ⟨c0, c1, c2, c3, c4⟩ := PP.out.up B4.out
          go_wp2_with (at_builtin; refine wpList_append_panes rfl _ _ rfl w.heap.size u5 _ ((b.take k).filter (chB a)) [p] rfl (O4.out.up ((Below.refl _ _).alloc (Nat.le_refl _) _)) rfl (OwnP.one w4 0 (Nat.zero_le _) p).row (by simp) HLN.out w (B4.out.alloc B4.out.size _) (Nat.le_refl _) ?_; intro g cap3 w5 hown5 hb5 hgr5 hpl5)
          have O5 := Lib.hid hown5
          have B5 := Lib.hid hb5
          clear hown5 hb5 hgr5 hpl5
          go_wp2
          go_roundg (gk - 1)
          case measure => have := HG.out; omega
          case rel =>
            refine ⟨k + 1, by have := HG.out; omega, by omega, by go_num, ?_, B5.out⟩
            rw [HST.out]
            simpa using O5.out
        · rw [hc] at HST
          have d1' : (q.r.w != p.r.w) = false := by rw [bne_comm]; exact d1
          have d1q : (q.r.w == p.r.w) = true := by simpa [bne] using d1'
          have d2' : (q.r.h != p.r.h) = false := by rw [bne_comm]; exact d2
          have d2q : (q.r.h == p.r.h) = true := by simpa [bne] using d2'
          clear hc
          go_wp2
          go_quiet (fail)
          have O4 : Hid (OwnP (w3.drewN nq) w.heap.size u5 ((b.take k).filter (chB a))) := Lib.hid O3.out
          have B4 : Hid (Below w.heap.size w (w3.drewN nq)) := Lib.hid ⟨B3.out.os, B3.out.tape, B3.out.output, B3.out.size, B3.out.block⟩
          clear O3 B3
          generalize w3.drewN nq = w4 at O4 B4 ⊢
          clear e0 e1 e2 e3 e4 f0 f1 f2 f3 f4
          go_wp2
          go_roundg (gk - 1)
          case measure => have := HG.out; omega
          case rel =>
            refine ⟨k + 1, by have := HG.out; omega, by omega, by go_num, ?_, B4.out⟩
            rw [HST.out]
            simpa using O4.out
    · obtain rfl : k = b.length := by omega
      have hkl : ((b.length : Int) < (b.length : Int)) = False := by simp
      go_wp2
      go_ret
      refine ⟨_, rfl, ?_, HB.out⟩
      have := HO.out
      rw [List.take_length] at this
      exact this
end Go.Proofs.Ytlpklpkalcgeaaa
