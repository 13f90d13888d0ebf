/- Those panes that are new, or of another size: the program's answer. -/
import Derived.Test.YtlpklpkalcgeaaaFFirsts
namespace Go.Proofs.Ytlpklpkalcgeaaa
open Go.RowKit

def chB (a : List Pn) (p : Pn) : Bool := !(paneOf a p.id).2 || (p.r.w != (paneOf a p.id).1.r.w || p.r.h != (paneOf a p.id).1.r.h)
def changedP (a b : List Pn) : List Pn := b.filter (chB a)
theorem filterP_step {l : List Pn} {k : Nat} {p : Pn} (f : Pn → Bool) (h : l[k]? = some p) : (l.take (k + 1)).filter f = (l.take k).filter f ++ (if f p then [p] else []) := by
  rw [List.take_add_one, h, List.filter_append]
  cases hp : f p <;> simp [hp]
theorem filterP_len (l : List Pn) (k : Nat) (f : Pn → Bool) : ((l.take k).filter f).length ≤ k := Nat.le_trans (List.length_filter_le _ _) (List.length_take_le _ _)

set_option maxRecDepth 100000 in
set_option maxHeartbeats 1000000 in
theorem changed_any (v1 v2 : Value) (a b : List Pn) (w : World) (h1 : PRow w v1 a) (h2 : PRow w v2 b) (hf1 : fitsP a) (hf2 : fitsP b) (hl1 : a.length ≤ 900000) (hl2 : b.length ≤ 900000) :
    Calls Try.prog 23 #[v1, v2] w (PanesSays (changedP a b) w) := by
  have HFI := Lib.hid (firsts_any v1 a w h1 hf1 (by omega))
  obtain ⟨a1, cap1, rfl⟩ := h1.shape
  obtain ⟨a2, cap2, rfl⟩ := h2.shape
  have H2 := Lib.hid h2
  have HF2 := Lib.hid hf2
  clear h1 h2 hf1 hf2
  unfold changedP
  go_enter Try.func23, Try.ntmps23
  go_wp2_with fail
  refine HFI.out.mono ?_
  rintro e w2 ⟨rfl, hfa, hb2⟩
  have FA := Lib.hid hfa
  have B2 := Lib.hid hb2
  clear hfa hb2
  go_wp2
  go_loopg [6, 15] (b.length + 1) (fun g v i wr => ∃ k : Nat, g + k = b.length + 1 ∧ k ≤ b.length ∧ i = .int .i64 k ∧ OwnP wr w2.heap.size v ((b.take k).filter (chB a)) ∧ Below w2.heap.size w2 wr)
  case atStart => exact ⟨0, by omega, by omega, rfl, by simpa using OwnP.nil _ _, Below.refl _ _⟩
  case round =>
    obtain ⟨k, hg, hk, rfl, hown, hb⟩ := hrel
    have HG := Lib.hid hg
    have HO := Lib.hid hown
    have HB := Lib.hid hb
    clear hg hown hb
    have HBW := Lib.hid (B2.out.trans (HB.out.mono B2.out.size))
    by_cases hlt : k < b.length
    · have hlti : (k : Int) < (b.length : Int) := by omega
      obtain ⟨bb, o, rfl, hf⟩ := H2.out.place (by omega)
      obtain ⟨p, hp⟩ : ∃ p, b[k]? = some p := ⟨_, List.getElem?_eq_getElem hlt⟩
      obtain ⟨c0, c1, c2, c3, c4⟩ := (hf k p hp).up HBW.out
      clear hf
      have hpf : fits p.id := HF2.out p (List.mem_of_getElem? hp)
      have HST := Lib.hid (filterP_step (chB a) hp)
      have A1 : Hid (Below wr.heap.size wr (wr.alloc (pbox p))) := (Below.refl _ _).alloc (Nat.le_refl _) _
      have hlook := ((FA.out.up HB.out).up A1.out).look hpf
      have HCH : Hid (chB a p = (!(paneOf a p.id).2 || (p.r.w != (paneOf a p.id).1.r.w || p.r.h != (paneOf a p.id).1.r.h))) := Lib.hid rfl
      clear hp hpf
      generalize paneOf a p.id = res at hlook HCH
      obtain ⟨q, ok⟩ := res
      simp only at hlook HCH
      have A2 : Hid (Below wr.heap.size wr ((wr.alloc (pbox p)).alloc (pbox q))) := A1.out.alloc (by simp) _
      have A3 : Hid (Below wr.heap.size wr (((wr.alloc (pbox p)).alloc (pbox q)).alloc (pbox p))) := A2.out.alloc (by simp; omega) _
      have HLN : Hid (((b.take k).filter (chB a)).length + [p].length ≤ 1000000) := Lib.hid (by have := filterP_len b k (chB a); simp; omega)
      have RR : Hid (PRow (((wr.alloc (pbox p)).alloc (pbox q)).alloc (pbox p)) (.slice (some ⟨wr.heap.size + 2, 0, none⟩) 1 1) [p]) := Lib.hid (by
        have := (OwnP.one ((wr.alloc (pbox p)).alloc (pbox q)) 0 (Nat.zero_le _) p).row
        simpa using this)
      have HSZ : Hid (w2.heap.size ≤ wr.heap.size) := Lib.hid HB.out.size
      rcases Bool.eq_false_or_eq_true (chB a p) with hc | hc
      · have hcase : ok = false ∨ (ok = true ∧ (p.r.w != q.r.w) = true) ∨ (ok = true ∧ (p.r.w != q.r.w) = false ∧ (p.r.h != q.r.h) = true) := by
          have h := HCH.out
          rw [hc] at h
          cases ok
          · exact .inl rfl
          · cases hw : (p.r.w != q.r.w)
            · rw [hw] at h
              refine .inr (.inr ⟨rfl, rfl, ?_⟩)
              simpa using h.symm
            · exact .inr (.inl ⟨rfl, rfl⟩)
        rw [hc] at HST
        clear hc HCH
        rcases hcase with rfl | ⟨rfl, d1⟩ | ⟨rfl, d1, d2⟩
        all_goals
          go_wp2_with (at_builtin; refine wpList_append_panes rfl _ _ rfl w2.heap.size u6 _ ((b.take k).filter (chB a)) [p] rfl (HO.out.up A3.out) rfl RR.out (by simp) HLN.out w2 (HB.out.trans (A3.out.mono HB.out.size)) (Nat.le_refl _) ?_; intro g cap3 w3 hown3 hb3 hgr3 hpl3)
          have O3 := Lib.hid hown3
          have B3 := Lib.hid hb3
          clear hown3 hb3 hgr3 hpl3
          go_wp2
          go_roundg (gk - 1)
          case measure => have := HG.out; omega
          case rel =>
            refine ⟨k + 1, by have := HG.out; omega, by omega, by go_num, ?_, B3.out⟩
            rw [HST.out]
            simpa using O3.out
      · have hcase : ok = true ∧ (p.r.w != q.r.w) = false ∧ (p.r.h != q.r.h) = false := by
          have h := HCH.out
          rw [hc] at h
          cases ok
          · simp at h
          · refine ⟨rfl, ?_⟩
            simpa using h.symm
        rw [hc] at HST
        clear hc HCH
        obtain ⟨rfl, d1, d2⟩ := hcase
        go_wp2
        go_roundg (gk - 1)
        case measure => have := HG.out; omega
        case rel =>
          refine ⟨k + 1, by have := HG.out; omega, by omega, by go_num, ?_, HB.out.trans (A2.out.mono HB.out.size)⟩
          rw [HST.out]
          simpa using HO.out.up A2.out
    · obtain rfl : k = b.length := by omega
      have hkl : ((b.length : Int) < (b.length : Int)) = False := by simp
      go_wp2
      go_ret
      refine ⟨_, rfl, ?_, HBW.out⟩
      have := HO.out.lower (base' := w.heap.size) B2.out.size
      rw [List.take_length] at this
      exact this
end Go.Proofs.Ytlpklpkalcgeaaa
