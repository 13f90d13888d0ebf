/- The program's panes of a tree. -/
import Derived.Test.YtlpklpkalcgeaaaFIsL
import Derived.Deep.RegionLaw
namespace Go.Proofs.Ytlpklpkalcgeaaa
open Go.RowKit

theorem five_set {W : World} {b o bx : Nat} {p : Pn} {u : Value} (h : FiveP W b o p) (hne : b ≠ bx) : FiveP (W.setCell ⟨bx, 0, none⟩ u) b o p := by
  obtain ⟨h1, h2, h3, h4, h5⟩ := h
  have hh : ∀ i v, W.cell? ⟨b, i, none⟩ = some v → (W.setCell ⟨bx, 0, none⟩ u).cell? ⟨b, i, none⟩ = some v := fun i v hv => (World.cell?_of_block (a := ⟨b, i, none⟩) (Below.heap_setCell W ⟨bx, 0, none⟩ u b hne)).trans hv
  exact ⟨hh _ _ h1, hh _ _ h2, hh _ _ h3, hh _ _ h4, hh _ _ h5⟩

set_option maxRecDepth 100000 in
theorem list1_any (b o bx : Nat) (p : Pn) (l : List Pn) (v : Value) (W : World) (h5 : FiveP W b o p) (hb : b < bx) (hv : Box1 W bx v 29) (hown : OwnP W (bx + 1) v l) (hl : l.length + 1 ≤ 1000000) :
    Calls Try.prog 30 #[.pointer (some ⟨b, o, none⟩), .pointer (some ⟨bx, 0, none⟩)] W fun e w' => e = .returned (.tuple #[]) ∧ (∃ v', Box1 w' bx v' 29 ∧ OwnP w' (bx + 1) v' (l ++ [p])) ∧ Below bx W w' := by
  obtain ⟨a, cap, rfl⟩ := hown.row.shape
  have hlt : bx < W.heap.size := lt_of_block hv
  have HV := Lib.hid hv
  have HLN := Lib.hid hl
  have q0 : W.drew.cell? ⟨bx, 0, none⟩ = some (.slice a l.length cap) := cell_of_one hv
  have S0 : Hid (FiveP W.drew b o p) := Lib.hid h5
  have A1 : Hid (Below W.drew.heap.size W.drew (W.drew.alloc (pbox p))) := Lib.hid ((Below.refl _ _).alloc (Nat.le_refl _) _)
  have S1 : Hid (FiveP (W.drew.alloc (pbox p)) b o p) := Lib.hid (S0.out.upB A1.out S0.out.lt)
  have OD : Hid (OwnP (W.drew.alloc (pbox p)) (bx + 1) (.slice a l.length cap) l) := Lib.hid ((show OwnP W.drew (bx + 1) (.slice a l.length cap) l from hown).up A1.out)
  have BD : Hid (Below (bx + 1) W (W.drew.alloc (pbox p))) := Lib.hid ((Below.refl _ W).drew.alloc (by simp; omega) _)
  have hne : b ≠ bx := by omega
  clear hv hown h5
  go_enter Try.func30, Try.ntmps30
  go_wp2_with fail
  have q0' : W.cell? ⟨bx, 0, none⟩ = some (.slice a l.length cap) := q0
  obtain ⟨c1, c2, c3, c4, c5⟩ : FiveP W b o p := S0.out
  have hnx : bx ≠ W.heap.size := by omega
  have hnb : b ≠ W.heap.size := by omega
  go_region_law (
    refine step_append_pane rfl _ _ rfl (bx + 1) (.slice a l.length cap) l W.heap.size p rfl OD.out rfl (pbox_new W.drew p) HLN.out W BD.out hlt ?_
    intro g cap3 w6 hown3 hb3 hgr3 hpl3
    have O6 := Lib.hid hown3
    have B6 := Lib.hid hb3
    have V6 := Lib.hid (show Box1 w6 bx (.slice a l.length cap) 29 from (hb3.block _ (Nat.lt_succ_self _)).trans HV.out)
    have z0 := cell_of_one V6.out
    have z1 := free_of_one V6.out
    have S6 : Hid (FiveP w6 b o p) := Lib.hid (FiveP.upB (w := W) S0.out hb3 (by omega))
    clear hown3 hb3 hgr3 hpl3)
  all_goals
    go_end0
    refine ⟨rfl, ⟨_, one_setCell V6.out, ?_⟩, (B6.out.mono (Nat.le_succ _)).setCell (Nat.le_refl _) _⟩
    have := ownsRow_setCell_below O6.out (a := ⟨bx, 0, none⟩) (Nat.lt_succ_self _) (.slice (some ⟨g, 0, none⟩) (l.length + 1) cap3)
    simpa [OwnP] using this
theorem enters30 : Enters 30 := enters_of Try.func30 (by kernel_rfl) rfl

def PanesRow (l : List Pn) (w : World) (e : Ending) (w' : World) : Prop := ∃ v, e = .returned v ∧ OwnP w' w.heap.size v l ∧ Below w.heap.size w w'

set_option maxRecDepth 100000 in
theorem list_any (t : T) (c : C) (w : World) (hm : sz t ≤ 900000) (hi : Is w c t) : Calls Try.prog 14 #[cval c] w (PanesSays (panesT t) w) := by
  have A0 : Hid (Below w.heap.size w (w.alloc (cbox c))) := (Below.refl _ _).alloc (Nat.le_refl _) _
  have A1 : Hid (Below (w.alloc (cbox c)).heap.size (w.alloc (cbox c)) ((w.alloc (cbox c)).alloc (.cells #[.slice none 0 0] 29))) := (Below.refl _ _).alloc (Nat.le_refl _) _
  obtain ⟨x, hx, hxb, hxo⟩ := (hi.up A0.out).stands w.heap.size 0 (cbox_new w c)
  have hbx : (w.alloc (cbox c)).heap.size = w.heap.size + 1 := by simp
  have H := Lib.hid (feach_any 30 enters30 #[.pointer (some ⟨(w.alloc (cbox c)).heap.size, 0, none⟩)] (fun j W => Below (w.alloc (cbox c)).heap.size (w.alloc (cbox c)) W ∧ ∃ v, Box1 W (w.alloc (cbox c)).heap.size v 29 ∧ OwnP W ((w.alloc (cbox c)).heap.size + 1) v ((panesT t).take j)) (sz t) x t 0 ((w.alloc (cbox c)).alloc (.cells #[.slice none 0 0] 29)) (Nat.le_refl _)
    (fun j W h => (hx.up h.1).lies)
    (fun j a W ha hI => by
      obtain ⟨hb, v, hv, ho⟩ := hI
      have hlen := hx.fives.1
      obtain ⟨p, hp⟩ := get_of hlen.symm (lt_of_get ha)
      have hf := hx.fives.2 j a p ha hp
      rw [Nat.zero_add] at ho ⊢
      refine (list1_any a.1 a.2 _ p _ v W (hf.upB hb hf.lt) hf.lt hv ho (by have := panes_len t; simp; omega)).mono ?_
      rintro e w' ⟨rfl, ⟨v', hv', ho'⟩, hb'⟩
      refine ⟨rfl, hb.trans hb', v', hv', ?_⟩
      rw [List.take_add_one, hp]
      exact ho')
    ⟨A1.out, .slice none 0 0, Box1.new _ _ _, by simpa using OwnP.nil _ _⟩)
  rw [Nat.zero_add, hxb, hxo, hx.fives.1] at H
  simp only [List.take_length] at H
  rw [hbx] at H
  clear hi hx hxb hxo hbx
  go_enter Try.func14, Try.ntmps14
  go_wp2_with fail
  refine H.out.mono ?_
  rintro e w2 ⟨rfl, hb2, v2, hv2, ho2⟩
  have HB2 := Lib.hid (A0.out.trans (hb2.mono (by simp)))
  have HO2 := Lib.hid (ho2.lower (base' := w.heap.size) (by omega))
  have q0 := cell_of_one hv2
  obtain ⟨a2, cap2, rfl⟩ := ho2.row.shape
  clear hb2 ho2 hv2
  go_wp2
  go_ret
  exact ⟨_, rfl, HO2.out, HB2.out⟩
end Go.Proofs.Ytlpklpkalcgeaaa
