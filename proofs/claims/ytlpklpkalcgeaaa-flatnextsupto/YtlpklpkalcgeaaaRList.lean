/- The document's panes of a tree. -/
import Derived.Test.YtlpklpkalcgeaaaPane
import Derived.Test.YtlpklpkalcgeaaaRLeaves
import Derived.Deep.RegionHeld3
namespace Go.Proofs.Ytlpklpkalcgeaaa
open Go.RowKit

def paneT (t : T) : Pn := ⟨t.id, t.r⟩
def panesT (t : T) : List Pn := ((preT t).filter leafB).map paneT
def PanesSays (l : List Pn) (w : World) (e : Ending) (w' : World) : Prop := ∃ v, e = .returned v ∧ OwnP w' w.heap.size v l ∧ Below w.heap.size w w'

/-- What of a cell is a pane's. -/
abbrev Five (W : World) (b o : Nat) (c : C) : Prop := W.cell? ⟨b, o + 1, none⟩ = some (.int .i64 c.r.x) ∧ W.cell? ⟨b, o + 2, none⟩ = some (.int .i64 c.r.y) ∧ W.cell? ⟨b, o + 3, none⟩ = some (.int .i64 c.r.w) ∧ W.cell? ⟨b, o + 4, none⟩ = some (.int .i64 c.r.h) ∧ W.cell? ⟨b, o + 5, none⟩ = some (.int .i64 c.id)
theorem five_of {W : World} {b o : Nat} {c : C} (h : CAt W b o c) : Five W b o c := ⟨h.2.1, h.2.2.1, h.2.2.2.1, h.2.2.2.2.1, h.2.2.2.2.2.1⟩

theorem gb_drew {w wr : World} {row : Option Nat} (h : w.grownBy wr row) : w.grownBy wr.drew row := ⟨h.os, h.tape, h.output, h.size, h.block⟩

set_option maxRecDepth 100000 in
theorem rlist_any (t : T) (c : C) (w : World) (hm : sz t ≤ 900000) (hi : Is w c t) : Calls Try.prog 10 #[cval c] w (PanesSays (panesT t) w) := by
  have B1 : Hid (Below w.heap.size w ((w.alloc (cbox c)).alloc (.cells #[] 32))) := ((Below.refl _ _).alloc (Nat.le_refl _) _).alloc (by simp) _
  have H := Lib.hid (rleaves_any w t c ((w.alloc (cbox c)).alloc (.cells #[] 32)) (by omega) hi B1.out)
  have HE : Hid (OwnP ((w.alloc (cbox c)).alloc (.cells #[] 32)) (w.heap.size + 1) (.slice (some ⟨w.heap.size + 1, 0, none⟩) 0 0) []) := by
    have := OwnP.empty (w.alloc (cbox c)) (w.heap.size + 1) (by simp)
    exact Lib.hid (by simpa using this)
  have HM := Lib.hid (show ((preT t).filter leafB).length ≤ 900000 by have := List.length_filter_le leafB (preT t); rw [preT_len] at this; omega)
  unfold panesT
  generalize (preT t).filter leafB = ls at H HM ⊢
  clear hi hm
  go_enter Try.func10, Try.ntmps10
  go_wp2_with fail
  refine H.out.mono ?_
  rintro e w2 ⟨vl, al, rfl, howl, htl, hb2⟩
  have hsz2 : w.heap.size + 2 ≤ w2.heap.size := by have := hb2.size; simpa using this
  have HT := Lib.hid htl
  have hall : al.length ≤ 900000 := by rw [htl.1]; exact HM.out
  have HROW := Lib.hid howl
  obtain ⟨aa, capl, rfl⟩ := howl.row.shape
  have HOE := Lib.hid (HE.out.up hb2)
  have HB2 := Lib.hid (B1.out.trans (hb2.mono B1.out.size))
  clear hb2 howl htl
  go_wp2
  go_loopg [3, 11] (al.length + 1) (fun g v i wr => ∃ (k : Nat), g + k = al.length + 1 ∧ k ≤ al.length ∧ i = .int .i64 k ∧ OwnP wr (w.heap.size + 1) v ((ls.take k).map paneT) ∧ OwnLater w2 (w.heap.size + 1) v ∧ w2.grownBy wr (some (w.heap.size + 1)))
  case atStart => exact ⟨0, by omega, by omega, rfl, by simpa using HOE.out, .inl rfl, World.grownBy.refl _ _⟩
  case round =>
    obtain ⟨k, hg, hk, rfl, hown, hlat, hgr⟩ := hrel
    have HG := Lib.hid hg
    have HO := Lib.hid hown
    have HLT := Lib.hid hlat
    have HGR := Lib.hid hgr
    clear hg hown hlat hgr
    by_cases hlt : k < al.length
    · have hlti : (k : Int) < (al.length : Int) := by omega
      obtain ⟨x, u, hx, hu, hxu⟩ := HT.out.at hlt
      obtain ⟨gl, capl', hvl, hgl, hgl2⟩ := HROW.out.form (by omega)
      have haa : aa = some ⟨gl, 0, none⟩ := by cases hvl; rfl
      subst haa
      have hgl' : w.heap.size + 2 ≤ gl := by simpa using hgl
      have HCX := Lib.hid ((cat_of_flat (HROW.out.cells (g := gl) rfl) k x hx).grown HGR.out (by intro e; cases e; omega))
      have HST : Hid ((ls.take (k + 1)).map paneT = (ls.take k).map paneT ++ [⟨x.id, x.r⟩]) := Lib.hid (by
        rw [List.take_add_one, hu]; simp [paneT, hxu.split.2.2.1, hxu.split.2.1])
      have HGE : Hid (∀ g, u3.ownBlock = some g → g ≠ gl) := Lib.hid (fun g hg e => by
        subst e
        rcases HLT.out with h | ⟨y, h, h2⟩
        · rw [h] at hg; cases hg; omega
        · rw [h] at hg; cases hg
          omega)
      clear hxu hx hu hvl hgl
      have HCL : Hid (((ls.take k).map paneT).length + 1 ≤ 1000000) := Lib.hid (by
        have h3 : (ls.take k).length ≤ k := List.length_take_le _ _
        simp; omega)
      have S0 := Lib.hid (five_of (show CAt wr.drew gl (k * 7) x from HCX.out))
      have S1 := Lib.hid (five_of ((show CAt wr.drew gl (k * 7) x from HCX.out).up ((Below.refl _ _).alloc (Nat.le_refl _) (pbox ⟨x.id, x.r⟩))))
      have OD := Lib.hid ((show OwnP wr.drew (w.heap.size + 1) u3 ((ls.take k).map paneT) from HO.out).up ((Below.refl _ _).alloc (Nat.le_refl _) (pbox ⟨x.id, x.r⟩)))
      have BD : Hid (Below (w.heap.size + 1) wr (wr.drew.alloc (pbox ⟨x.id, x.r⟩))) := Lib.hid ((Below.refl _ wr).drew.alloc (by have := HGR.out.size; simp; omega) _)
      have SZ : Hid (w.heap.size + 1 ≤ wr.heap.size) := Lib.hid (by have := HGR.out.size; omega)
      go_wp2
      go_region_held3 (fun W => W.cell? ⟨gl, k * 7 + 1, none⟩ = some (.int .i64 x.r.x) ∧ W.cell? ⟨gl, k * 7 + 2, none⟩ = some (.int .i64 x.r.y) ∧ W.cell? ⟨gl, k * 7 + 3, none⟩ = some (.int .i64 x.r.w) ∧ W.cell? ⟨gl, k * 7 + 4, none⟩ = some (.int .i64 x.r.h) ∧ W.cell? ⟨gl, k * 7 + 5, none⟩ = some (.int .i64 x.id)) (first | exact S0.out | exact S1.out | exact S6.out)
        (first
          | (refine step_append_pane rfl _ _ rfl (w.heap.size + 1) u3 ((ls.take k).map paneT) wr.heap.size ⟨x.id, x.r⟩ rfl OD.out rfl (pbox_new wr.drew ⟨x.id, x.r⟩) HCL.out wr BD.out SZ.out ?_
             intro g cap3 w6 hown3 hb3 hgr3 hpl3
             have O6 := Lib.hid hown3
             have G6 := Lib.hid (later_gb (by omega) HLT.out (gb_alloc (gb_drew HGR.out) _) hgr3)
             have L6 : Hid (OwnLater w2 (w.heap.size + 1) (.slice (some ⟨g, 0, none⟩) (((ls.take k).map paneT).length + 1) cap3)) := Lib.hid (by
               rcases hpl3 with h | h
               · rcases HLT.out with h2 | ⟨y, h2, h3⟩
                 · rw [h2] at h; cases h; exact .inl rfl
                 · rw [h2] at h; cases h; exact .inr ⟨_, rfl, h3⟩
               · refine .inr ⟨g, rfl, ?_⟩
                 rw [h]; have := HGR.out.size; simp; omega)
             have S6 := Lib.hid (five_of (((show CAt wr.drew gl (k * 7) x from HCX.out).up ((Below.refl _ _).alloc (Nat.le_refl _) (pbox ⟨x.id, x.r⟩))).grown hgr3 (fun e => HGE.out gl e.symm rfl)))
             clear hown3 hb3 hgr3 hpl3))
      go_wp2
      go_roundg (gk - 1)
      case measure => have := HG.out; omega
      case rel =>
        refine ⟨k + 1, by have := HG.out; omega, by omega, by go_num, ?_, by simpa using L6.out, G6.out⟩
        rw [HST.out]
        simpa using O6.out
    · obtain rfl : k = al.length := by omega
      have hkl : ((al.length : Int) < (al.length : Int)) = False := by simp
      go_wp2
      go_ret
      refine ⟨_, rfl, ?_, ?_⟩
      · have := HO.out.lower (base' := w.heap.size) (by omega)
        rw [List.take_of_length_le (by rw [← HT.out.1]; omega)] at this
        exact this
      · exact HB2.out.trans ⟨HGR.out.os, HGR.out.tape, HGR.out.output, HGR.out.size, fun j hj => HGR.out.block j (by omega) (by intro e; cases e; omega)⟩
end Go.Proofs.Ytlpklpkalcgeaaa
