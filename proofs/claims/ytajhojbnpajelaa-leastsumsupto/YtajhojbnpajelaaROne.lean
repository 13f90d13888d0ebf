/- The document's answer: does a cell tile, and its lines. -/
import Derived.Test.YtajhojbnpajelaaBetween
import Derived.Test.YtajhojbnpajelaaRCut1
import Derived.Test.YtajhojbnpajelaaRCut2
import Derived.BigQuiet
import Derived.Deep.QuietTactic
namespace Go.Proofs.Ytajhojbnpajelaa
open Go.RowKit

theorem rcut_any (r : R) (ax : Int) (v : Value) (ms : List Int) (w : World) (hf : r.fits) (hr : IRow w v ms) (hlen : ms.length ≤ 1000) (hax : 0 ≤ ax ∧ ax ≤ 255) :
    Calls Try.prog 51 #[val r, .int .u8 ax, v] w fun e w' => CutSays r ax ms w e w' := by
  by_cases h : mayB r = true ∧ (ax = 1 ∨ ax = 2) ∧ 0 < ms.length
  · obtain ⟨hm, hx, hp⟩ := h
    rcases hx with rfl | rfl
    · exact rcut1_any r v ms w hf hr hlen hm hp
    · exact rcut2_any r v ms w hf hr hlen hm hp
  · exact rcut_not r ax v ms w hf hr hax h

def rsizesT (t : T) : List Int := if t.k = 2 then wsT t else hsT t
theorem rs_len (t : T) : (rsizesT t).length = t.kids.length := by unfold rsizesT; split; exact ws_len t; exact hs_len t
def pickR (b : Bool) (r : R) : Int := if b = true then r.w else r.h
theorem rs_step {t u : T} {k : Nat} (h : t.kids[k]? = some u) : (rsizesT t).take (k + 1) = (rsizesT t).take k ++ [pickR (decide (t.k = 2)) u.r] := by
  unfold rsizesT pickR
  by_cases h2 : t.k = 2
  · rw [if_pos h2, ws_step h]; simp [h2]
  · rw [if_neg h2, hs_step h]; simp [h2]

set_option maxRecDepth 100000 in
set_option maxHeartbeats 1600000 in
theorem rsizes_any (t : T) (c : C) (w : World) (hi : Is w c t) (hl : t.kids.length ≤ 999) :
    Calls Try.prog 52 #[cval c] w fun e w' => ∃ v, e = .returned v ∧ IRow w' v (rsizesT t) ∧ Below w.heap.size w w' := by
  have HA : Hid (Below w.heap.size w (w.alloc (cbox c))) := (Below.refl _ _).alloc (Nat.le_refl _) _
  have HA2 : Hid (Below w.heap.size w ((w.alloc (cbox c)).alloc (.cells #[] 3))) := Lib.hid (HA.out.alloc (by simp) _)
  have HC := Lib.hid ((cbox_new w c).up ((Below.refl _ _).alloc (Nat.le_refl _) (.cells #[] 3)))
  have HO := Lib.hid (OwnN.empty (w.alloc (cbox c)) (w.heap.size + 1) (by simp))
  have HSZ2 : Hid (w.heap.size + 1 ≤ ((w.alloc (cbox c)).alloc (.cells #[] 3)).heap.size) := Lib.hid (by simp)
  have HROW := Lib.hid hi.row
  have hcn := hi.n
  have hck : t.k = c.k := hi.split.1
  clear hi
  obtain ⟨ck, cr, cid, ca, cn, ccap⟩ := c
  simp only at hcn hck
  subst hcn
  have HST := Lib.hid (fun (k : Nat) (u : T) (h : t.kids[k]? = some u) => rs_step h)
  rw [hck] at HST
  go_enter Try.func52, Try.ntmps52
  go_wp2
  go_loopg [3, 9] (t.kids.length + 1) (fun g v i wr => ∃ k : Nat, g + k = t.kids.length + 1 ∧ k ≤ t.kids.length ∧ i = .int .i64 k ∧ TwoI wr (w.heap.size + 1) v ((rsizesT t).take k) (.slice none 0 0) [] ∧ Below (w.heap.size + 1) ((w.alloc (cbox ⟨ck, cr, cid, ca, t.kids.length, ccap⟩)).alloc (.cells #[] 3)) wr)
  case atStart => exact ⟨0, by omega, by omega, rfl, ⟨by simpa using HO.out, OwnN.nil _ _, fun k _ h => by cases h⟩, Below.refl _ _⟩
  case round =>
    obtain ⟨k, hg, hk, rfl, htw, hb⟩ := hrel
    have HG := Lib.hid hg
    have HT := Lib.hid htw
    have HB := Lib.hid hb
    clear hg htw hb
    by_cases hlt : k < t.kids.length
    · obtain ⟨b, o, hca, hf⟩ := HROW.out.place (by omega)
      subst hca
      obtain ⟨u, hu⟩ : ∃ u, t.kids[k]? = some u := ⟨_, List.getElem?_eq_getElem hlt⟩
      obtain ⟨x, hx, hxi⟩ := hf k u hu
      have hxr : u.r = x.r := hxi.split.2.1
      have hBW : Below w.heap.size w wr := HA2.out.trans (HB.out.mono (by omega))
      obtain ⟨-, -, -, e3, e4, -, -⟩ := hx.up hBW
      have HSP := Lib.hid (HST.out k u hu)
      rw [hxr] at HSP
      obtain ⟨c0, -, -, -, -, -, c6⟩ := HC.out.upB HB.out (by omega)
      simp only [Nat.zero_add] at c6
      clear hf hx hxi hBW hu hxr
      have HLN : Hid (((rsizesT t).take k).length ≤ 1000) := Lib.hid (by rw [List.length_take, rs_len]; omega)
      have hki : (k : Int) < (t.kids.length : Int) := by omega
      by_cases h2 : ck = 2
      · subst h2
        have TD := Lib.hid (HT.out.alloc (.cells #[.int .i64 x.r.w] 3))
        have BD := Lib.hid (bel_alloc HB.out HSZ2.out (.cells #[.int .i64 x.r.w] 3))
        go_wp2_with (at_builtin; refine wpList_twoI rfl _ _ rfl (w.heap.size + 1) _ _ _ _ wr.heap.size x.r.w rfl TD.out rfl (by simp) HLN.out _ BD.out HSZ2.out ?_)
        intro v6 w6 hT6 hB6 _
        have T6 := Lib.hid hT6
        have B6 := Lib.hid hB6
        clear hT6 hB6
        go_wp2
        go_roundg (gk - 1)
        case measure => have := HG.out; omega
        case rel => exact ⟨k + 1, by have := HG.out; omega, by omega, by go_num, by rw [HSP.out]; exact T6.out, B6.out⟩
      · have d2 : (ck == 2) = false := by simpa using h2
        rw [decide_eq_false h2] at HSP
        have TD := Lib.hid (HT.out.alloc (.cells #[.int .i64 x.r.h] 3))
        have BD := Lib.hid (bel_alloc HB.out HSZ2.out (.cells #[.int .i64 x.r.h] 3))
        go_wp2_with (at_builtin; refine wpList_twoI rfl _ _ rfl (w.heap.size + 1) _ _ _ _ wr.heap.size x.r.h rfl TD.out rfl (by simp) HLN.out _ BD.out HSZ2.out ?_)
        intro v6 w6 hT6 hB6 _
        have T6 := Lib.hid hT6
        have B6 := Lib.hid hB6
        clear hT6 hB6
        go_wp2
        go_roundg (gk - 1)
        case measure => have := HG.out; omega
        case rel => exact ⟨k + 1, by have := HG.out; omega, by omega, by go_num, by rw [HSP.out]; exact T6.out, B6.out⟩
    · obtain rfl : k = t.kids.length := by omega
      have hkl : ((t.kids.length : Int) < (t.kids.length : Int)) = False := by simp
      have HT2 : Hid (TwoI wr (w.heap.size + 1) u3 (rsizesT t) (.slice none 0 0) []) := Lib.hid (by
        have h := HT.out
        rw [List.take_of_length_le (by rw [rs_len]; exact Nat.le_refl _)] at h
        exact h)
      have HBE := Lib.hid (HA2.out.trans (HB.out.mono (by omega)))
      go_wp2
      go_ret
      exact ⟨u3, rfl, HT2.out.own1.row, HBE.out⟩
end Go.Proofs.Ytajhojbnpajelaa
