/- The laws' awake: the document's example. -/
import Derived.Test.YtmlmgkaghcnpnaaDoorMade
namespace Go.Proofs.YtmlmgkaghcnpnaaDoor
open Go.RowKit

def sPane : ByteArray := ⟨#[112, 97, 110, 101]⟩
def s4 : ByteArray := ⟨#[52]⟩
def sSplit : ByteArray := ⟨#[115, 112, 108, 105, 116]⟩

theorem decide_self (xs : List ByteArray) : decide (xs = xs) = true := by simp

set_option maxRecDepth 100000 in
theorem awake_any (w : World) (hg : EtLaid w) : Calls Tryd.prog 8 #[] w fun e w' => e = .returned (.bool true) ∧ Below w.heap.size w w' := by
  have HG := Lib.hid hg
  clear hg
  go_enter Tryd.func8, Tryd.ntmps8
  go_wp2_with fail
  refine (new_some 2 7 _ (by decide)).mono ?_
  rintro e w1 ⟨v1, rfl, hf1, hb1⟩
  have HF1 := Lib.hid hf1
  have H1 := Lib.hid hb1
  obtain ⟨b1, rfl, -, -⟩ := hf1
  clear hb1
  go_wp2_with fail
  have ha1 := (Below.refl w1.heap.size w1).alloc (Nat.le_refl _) (.cells #[.string ⟨#[112, 97, 110, 101]⟩, .string ⟨#[52]⟩] 9)
  have HA1 := Lib.hid ha1
  clear ha1
  refine (in_any _ _ [] [.string sPane, .string s4] 52 (.pointer (some ⟨b1, 0, none⟩)) _ ⟨[], rfl, rfl⟩ (row_lit w1 [.string sPane, .string s4] 9 2 rfl) (strs_one [sPane, s4]) (by decide)).mono ?_
  rintro e w2 ⟨v2, rfl, hE2, hb2⟩
  have HE2 := Lib.hid hE2
  have H2 := Lib.hid hb2
  obtain ⟨t2, x2, rfl⟩ := hE2.iface
  clear hb2 hE2
  go_wp2_with fail
  have HA2 := Lib.hid ((Below.refl w2.heap.size w2).alloc (Nat.le_refl _) (.cells #[.string ⟨#[115, 112, 108, 105, 116]⟩] 9))
  refine (in_any _ _ _ [.string sSplit] _ _ _ (HE2.out.up HA2.out) (row_lit w2 [.string sSplit] 9 1 rfl) (strs_one [sSplit]) (by decide)).mono ?_
  rintro e w3 ⟨v3, rfl, hE3, hb3⟩
  have HE3 := Lib.hid hE3
  have H3 := Lib.hid hb3
  obtain ⟨t3, x3, rfl⟩ := hE3.iface
  clear hb3 hE3
  have B1 := Lib.hid (H1.out)
  have B2 := Lib.hid (B1.out.trans ((HA1.out.trans (H2.out.mono HA1.out.size)).mono B1.out.size))
  have B3 := Lib.hid (B2.out.trans ((HA2.out.trans (H3.out.mono HA2.out.size)).mono B2.out.size))
  have HF3 := Lib.hid ((HF1.out.up (HA1.out.trans (H2.out.mono HA1.out.size))).up (HA2.out.trans (H3.out.mono HA2.out.size)))
  go_wp2_with fail
  refine (words_any _ _ _ _ HE3.out HF3.out.isBot (by decide)).mono ?_
  rintro e w4 ⟨r4, rfl, hr4, hb4⟩
  have HR4 := Lib.hid hr4
  have H4 := Lib.hid hb4
  obtain ⟨a4, c4, rfl, -, -⟩ := hr4
  clear hb4
  go_wp2_with fail
  have HA4 := Lib.hid ((Below.refl w4.heap.size w4).alloc (Nat.le_refl _) (.cells #[.string ⟨#[115, 112, 108, 105, 116]⟩, .string ⟨#[112, 97, 110, 101]⟩, .string ⟨#[52]⟩] 9))
  refine (same_any _ _ [sSplit, sPane, s4] [sSplit, sPane, s4] _ (HR4.out.up HA4.out) (row_lit w4 [.string sSplit, .string sPane, .string s4] 9 3 rfl) (by decide)).mono ?_
  rw [decide_self]
  rintro e w5 ⟨rfl, hb5⟩
  have H5 := Lib.hid hb5
  clear hb5
  have H35 := Lib.hid (H4.out.trans ((HA4.out.trans (H5.out.mono HA4.out.size)).mono H4.out.size))
  have B5 := Lib.hid (B3.out.trans (H35.out.mono B3.out.size))
  go_wp2_with fail
  refine (code_plain _ _ _ 2 _ (HE3.out.up H35.out) (HF3.out.tells.up H35.out) (HG.out.up B5.out)).mono ?_
  rintro e w6 ⟨rfl, hb6⟩
  have B6 := Lib.hid (B5.out.trans (hb6.mono B5.out.size))
  clear hb6
  go_wp2
  go_ret
  exact ⟨rfl, B6.out⟩
end Go.Proofs.YtmlmgkaghcnpnaaDoor
