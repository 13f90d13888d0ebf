/- Shares, the program's walk. -/
import Derived.Test.YtcmkhppkdbdfdaaGrow
import Derived.Test.YtcmkhppkdbdfdaaShrink
namespace Go.Proofs.Ytcmkhppkdbdfdaa
open Go.RowKit Sh

theorem row_nil (w : World) : Row w (.slice none 0 0) (ints []) := ⟨none, 0, rfl, fun _ => ⟨rfl, rfl⟩, fun x hx => by cases hx⟩
theorem sh_no {b : Int} {gs : List Int} {w w' : World} (hb : Below w.heap.size w w') (h : ¬ okS b gs) : ShSays b gs w (.returned (.tuple #[.slice none 0 0, .bool false])) w' := ⟨hb, .inr ⟨h, _, rfl, row_nil _⟩⟩

set_option maxRecDepth 100000 in
theorem shares_any (b : Int) (v : Value) (gs : List Int) (w : World) (hv : Row w v (ints gs)) (hb : fits b) (hl : gs.length ≤ 1000) :
    Calls Try.prog 7 #[.int .i64 b, v] w (ShSays b gs w) := by
  have HB := Lib.hid (Below.refl w.heap.size w)
  obtain ⟨hb1, hb2⟩ := hb
  obtain ⟨a, cap, rfl⟩ := row_shape hv
  have HV := Lib.hid hv
  clear hv
  by_cases h0 : gs.length = 0
  · have HN : Hid (¬ okS b gs) := Lib.hid fun h => h.1 (List.length_eq_zero_iff.1 h0)
    rw [h0]
    clear HV h0 hl
    go_enter Try.func7, Try.ntmps7
    go_wp2
    go_ret2
    exact sh_no HB.out HN.out
  have d0 : ((gs.length : Int) == 0) = false := by rw [beq_eq_false_iff_ne]; omega
  have hne : gs ≠ [] := fun h => h0 (by rw [h]; rfl)
  by_cases h1 : b < -2147483647
  · have d1 : decide (b < -2147483647) = true := decide_eq_true h1
    have HN : Hid (¬ okS b gs) := Lib.hid fun h => by have := h.2.2.1; omega
    go_enter Try.func7, Try.ntmps7
    go_wp2
    go_ret2
    exact sh_no HB.out HN.out
  have d1 : decide (b < -2147483647) = false := decide_eq_false h1
  by_cases h2 : 2147483647 < b
  · have d2 : decide (2147483647 < b) = true := decide_eq_true h2
    have HN : Hid (¬ okS b gs) := Lib.hid fun h => by have := h.2.2.2.1; omega
    go_enter Try.func7, Try.ntmps7
    go_wp2
    go_ret2
    exact sh_no HB.out HN.out
  have d2 : decide (2147483647 < b) = false := decide_eq_false h2
  have HC := Lib.hid (contains_any _ gs w HV.out (by omega))
  cases hbad : anyBad gs with
  | true =>
    rw [hbad] at HC
    have HN : Hid (¬ okS b gs) := Lib.hid fun h => anyBad_yes hbad h.2.1
    clear hbad
    go_enter Try.func7, Try.ntmps7
    go_wp2_with fail
    refine HC.out.mono ?_
    rintro e w1 ⟨rfl, hw1⟩
    rw [hw1]
    clear hw1 w1
    go_wp2
    go_ret2
    exact sh_no HB.out HN.out
  | false =>
    rw [hbad] at HC
    have HGD := Lib.hid (anyBad_no hbad)
    clear hbad
    by_cases hneg : b < 0
    · have d3 : decide (b < 0) = true := decide_eq_true hneg
      obtain ⟨need, hneed⟩ : ∃ need : Nat, -b = (need : Int) := ⟨(-b).toNat, by omega⟩
      have HNT := Lib.hid (show (-b).toNat = need by omega)
      have HL := Lib.hid (show (gs.map Int.toNat).length = gs.length by simp)
      have HS := Lib.hid (shrink_any need (gs.map Int.toNat) (.slice a gs.length cap) w (by rw [← natI_of HGD.out]; exact HV.out) (goodN_of HGD.out) (by omega) (by rw [HL.out]; exact hl))
      have HNE := Lib.hid hne
      clear hne
      go_enter Try.func7, Try.ntmps7
      go_wp2_with fail
      refine HC.out.mono ?_
      rintro e w1 ⟨rfl, hw1⟩
      rw [hw1]
      clear hw1 w1
      go_wp2_with fail
      refine HS.out.mono ?_
      rintro e w2 ⟨hb3, hres⟩
      have HB3 := Lib.hid hb3
      clear hb3
      rcases hres with ⟨hle, v', m, rfl, hsum, hrow⟩ | ⟨hgt, rfl⟩
      · have HLE := Lib.hid hle
        have HSM := Lib.hid hsum
        have HRW := Lib.hid hrow
        clear hle hsum hrow
        go_wp2
        go_ret2
        refine ⟨HB3.out, .inl ⟨⟨HNE.out, HGD.out, by omega, by omega, fun _ => by rw [HNT.out]; exact HLE.out⟩, v', _, rfl, .inr ⟨hneg, m, rfl, ?_⟩, ?_⟩⟩
        · have := HSM.out; rw [HL.out] at this; rw [this, HNT.out]
        · have := HRW.out; rw [HL.out] at this; exact this
      · have HGT := Lib.hid hgt
        clear hgt
        go_wp2
        go_ret2
        exact sh_no HB3.out fun h => by have := h.2.2.2.2 hneg; rw [HNT.out] at this; have := HGT.out; omega
    · have d3 : decide (b < 0) = false := decide_eq_false hneg
      obtain ⟨m, rfl⟩ : ∃ m : Nat, b = (m : Int) := ⟨b.toNat, by omega⟩
      have HS := Lib.hid (grow_any m gs.length w (by omega) (by omega) (by omega))
      have HNE := Lib.hid hne
      clear hne
      go_enter Try.func7, Try.ntmps7
      go_wp2_with fail
      refine HC.out.mono ?_
      rintro e w1 ⟨rfl, hw1⟩
      rw [hw1]
      clear hw1 w1
      go_wp2_with fail
      refine HS.out.mono ?_
      rintro e w2 ⟨g, rfl, hgw, hblk, hb3⟩
      have HB3 := Lib.hid hb3
      have HBK := Lib.hid hblk
      clear hb3 hblk
      go_wp2
      go_ret2
      refine ⟨HB3.out, .inl ⟨⟨HNE.out, HGD.out, by omega, by omega, fun h => by omega⟩, _, natI (out none gs.length m), rfl, .inl ⟨by omega, by simp⟩, ?_⟩⟩
      exact HBK.out.row _ _ (by rw [natI_length, out_len])
end Go.Proofs.Ytcmkhppkdbdfdaa
