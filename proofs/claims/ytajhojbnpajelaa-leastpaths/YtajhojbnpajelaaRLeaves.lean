/- The document's row of a tree's leaves. -/
import Derived.Test.YtajhojbnpajelaaRAll
namespace Go.Proofs.Ytajhojbnpajelaa
open Go.RowKit

def leafB (t : T) : Bool := t.k == 1
theorem filter_step {l : List T} {k : Nat} {t : T} (p : T → Bool) (h : l[k]? = some t) : (l.take (k + 1)).filter p = (l.take k).filter p ++ (if p t then [t] else []) := by
  rw [List.take_add_one, h, List.filter_append]
  cases hp : p t <;> simp [hp]

theorem CAt.grown {w w' : World} {b o : Nat} {c : C} {row : Option Nat} (h : CAt w b o c) (hb : w.grownBy w' row) (hne : some b ≠ row) : CAt w' b o c := by
  obtain ⟨h1, h2, h3, h4, h5, h6, h7⟩ := h
  exact ⟨hb.cell h1 hne, hb.cell h2 hne, hb.cell h3 hne, hb.cell h4 hne, hb.cell h5 hne, hb.cell h6 hne, hb.cell h7 hne⟩

/-- A row of one's own that is added to: it lies in one block, or in one that came later. -/
def OwnLater (w2 : World) (b : Nat) (v : Value) : Prop := v.ownBlock = some b ∨ ∃ g, v.ownBlock = some g ∧ w2.heap.size ≤ g
theorem later_gb {w2 wr w' : World} {b : Nat} {v : Value} (hb : b < w2.heap.size) (hl : OwnLater w2 b v) (h : w2.grownBy wr (some b)) (g : wr.grownBy w' v.ownBlock) : w2.grownBy w' (some b) := by
  rcases hl with hl | ⟨x, hl, hx⟩
  · rw [hl] at g; exact h.trans g
  · rw [hl] at g
    refine ⟨g.os.trans h.os, g.tape.trans h.tape, g.output.trans h.output, Nat.le_trans h.size g.size, fun k hk hne => ?_⟩
    exact (g.block k (Nat.lt_of_lt_of_le hk h.size) (fun e => by cases e; omega)).trans (h.block k hk hne)
theorem gb_alloc {w2 wr : World} {b : Nat} (h : w2.grownBy wr (some b)) (o : Obj) : w2.grownBy (wr.alloc o) (some b) := h.trans (Below.gb ((Below.refl _ _).alloc (Nat.le_refl _) _) _)

set_option maxRecDepth 100000 in
theorem rleaves_any (w0 : World) (t : T) (c : C) (w : World) (hm : sz t ≤ 1000000) (hi : Is w0 c t) (hb0 : Below w0.heap.size w0 w) : Calls Try.prog 37 #[cval c] w (RowSays ((preT t).filter leafB) w0 w) := by
  have B1 : Hid (Below w.heap.size w ((w.alloc (cbox c)).alloc (.cells #[] 26))) := ((Below.refl _ _).alloc (Nat.le_refl _) _).alloc (by simp) _
  have H := Lib.hid (rall_any w0 (sz t) t c ((w.alloc (cbox c)).alloc (.cells #[] 26)) (Nat.le_refl _) hm hi (hb0.trans (B1.out.mono hb0.size)))
  have HE : Hid (OwnC ((w.alloc (cbox c)).alloc (.cells #[] 26)) (w.heap.size + 1) (.slice (some ⟨w.heap.size + 1, 0, none⟩) 0 0) []) := by
    have := OwnC.empty (w.alloc (cbox c)) (w.heap.size + 1) (by simp)
    exact Lib.hid (by simpa using this)
  have HM := Lib.hid hm
  clear hi hb0 hm
  go_enter Try.func37, Try.ntmps37
  go_wp2_with fail
  refine H.out.mono ?_
  rintro e w2 ⟨vl, al, rfl, howl, htl, hb2⟩
  have hsz2 : w.heap.size + 2 ≤ w2.heap.size := by have := hb2.size; simpa using this
  have HT := Lib.hid htl
  have hal : al.length = sz t := by rw [htl.1, preT_len]
  have hp : 0 < al.length := by rw [hal]; exact sz_pos t
  obtain ⟨gl, capl, hvl, hgl, hgl2⟩ := howl.form hp
  have hgl' : w.heap.size + 2 ≤ gl := by simpa using hgl
  have HROW : Hid (∀ (j : Nat) (x : C), al[j]? = some x → CAt w2 gl (j * 7) x) := fun j x hx => by
    rw [hvl] at howl
    exact cat_of_flat (howl.cells (g := gl) rfl) j x hx
  subst hvl
  have HOE := Lib.hid (HE.out.up hb2)
  have HB2 := Lib.hid (B1.out.trans (hb2.mono B1.out.size))
  have hall : al.length ≤ 1000000 := by rw [hal]; exact HM.out
  clear hb2 howl htl hgl hal
  go_wp2
  go_loopg [3, 11] (al.length + 1) (fun g v i wr => ∃ (k : Nat) (cs : List C), g + k = al.length + 1 ∧ k ≤ al.length ∧ i = .int .i64 k ∧ OwnC wr (w.heap.size + 1) v cs ∧ Tops w0 cs (((preT t).take k).filter leafB) ∧ OwnLater w2 (w.heap.size + 1) v ∧ w2.grownBy wr (some (w.heap.size + 1)))
  case atStart => exact ⟨0, [], by omega, by omega, rfl, HOE.out, by simpa using Tops.nil w0, .inl rfl, World.grownBy.refl _ _⟩
  case round =>
    obtain ⟨k, cs, hg, hk, rfl, hown, htops, hlat, hgr⟩ := hrel
    have HG := Lib.hid hg
    have HO := Lib.hid hown
    have HTS := Lib.hid htops
    have HLT := Lib.hid hlat
    have HGR := Lib.hid hgr
    clear hg hown htops hlat hgr
    by_cases hlt : k < al.length
    · obtain ⟨x, u, hx, hu, hxu⟩ := HT.out.at hlt
      obtain ⟨c0, c1, c2, c3, c4, c5, c6⟩ := (HROW.out k x hx).grown HGR.out (by intro e; cases e; omega)
      have htk := hxu.split.1
      have HST := Lib.hid (filter_step leafB hu)
      have HXU := Lib.hid hxu
      clear hxu hx hu
      cases hk1 : (x.k == 1) with
      | true =>
        have hlf : Hid (leafB u = true) := Lib.hid (by rw [leafB, htk]; exact hk1)
        clear htk
        have hcl : cs.length + [x].length ≤ 1954687338211 := by
          have h1 := HTS.out.1
          have h2 := List.length_filter_le leafB ((preT t).take k)
          have h3 : ((preT t).take k).length ≤ k := List.length_take_le _ _
          simp; omega
        have HCL := Lib.hid hcl
        clear hcl
        go_wp2_with (at_builtin; refine wpList_append_cells rfl _ _ rfl (w.heap.size + 1) u3 _ cs [x] rfl (HO.out.up ((Below.refl _ _).alloc (Nat.le_refl _) (cbox x))) rfl (OwnC.one wr 0 (Nat.zero_le _) x).row (by simp) HCL.out wr ((Below.refl _ _).alloc (by have := HGR.out.size; omega) _) (by have := HGR.out.size; omega) ?_; intro g cap3 w3 hown3 hb3 hgr3 hpl3)
        have HO3 := Lib.hid hown3
        have HG3 := Lib.hid (later_gb (by omega) HLT.out (gb_alloc HGR.out (cbox x)) hgr3)
        have HL3 : Hid (OwnLater w2 (w.heap.size + 1) (.slice (some ⟨g, 0, none⟩) (cs ++ [x]).length cap3)) := by
          rcases hpl3 with h | h
          · rcases HLT.out with h2 | ⟨y, h2, h3⟩
            · rw [h2] at h; cases h; exact .inl rfl
            · rw [h2] at h; cases h; exact .inr ⟨_, rfl, h3⟩
          · refine .inr ⟨g, rfl, ?_⟩
            rw [h]; have := HGR.out.size; simp; omega
        clear hown3 hb3 hgr3 hpl3
        go_wp2
        go_roundg (gk - 1)
        case measure => have := HG.out; omega
        case rel =>
          refine ⟨k + 1, cs ++ [x], by have := HG.out; omega, by omega, by go_num, by simpa using HO3.out, ?_, by simpa using HL3.out, HG3.out⟩
          rw [HST.out, hlf.out, if_pos rfl]
          exact HTS.out.append (Tops.one HXU.out)
      | false =>
        have hlf : Hid (leafB u = false) := Lib.hid (by rw [leafB, htk]; exact hk1)
        clear htk
        go_wp2
        go_roundg (gk - 1)
        case measure => have := HG.out; omega
        case rel =>
          refine ⟨k + 1, cs, by have := HG.out; omega, by omega, by go_num, HO.out, ?_, HLT.out, HGR.out⟩
          rw [HST.out, hlf.out]
          simpa using HTS.out
    · obtain rfl : k = al.length := by omega
      have hkl : ((al.length : Int) < (al.length : Int)) = False := by simp
      go_wp2
      go_ret
      refine ⟨_, cs, rfl, HO.out.lower (by omega), ?_, ?_⟩
      · have := HTS.out
        rw [List.take_of_length_le (by rw [← HT.out.1]; omega)] at this
        exact this
      · exact HB2.out.trans ⟨HGR.out.os, HGR.out.tape, HGR.out.output, HGR.out.size, fun j hj => HGR.out.block j (by omega) (by intro e; cases e; omega)⟩
end Go.Proofs.Ytajhojbnpajelaa
