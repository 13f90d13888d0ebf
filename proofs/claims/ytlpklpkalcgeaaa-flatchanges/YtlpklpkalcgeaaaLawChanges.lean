/- The law FlatChanges. -/
import Derived.Test.YtlpklpkalcgeaaaRChanged
import Derived.Test.YtlpklpkalcgeaaaAwake7
namespace Go.Proofs.Ytlpklpkalcgeaaa
open Go.RowKit

theorem changed_none (b : List Pn) : changedP [] b = b := by
  unfold changedP
  rw [List.filter_eq_self]
  intro p _
  rfl

set_option maxRecDepth 100000 in
set_option maxHeartbeats 4000000 in
theorem flatChanges_any (v1 v2 : Value) (a b : List Pn) (w : World) (h1 : PRow w v1 a) (h2 : PRow w v2 b) (hf1 : fitsP a) (hf2 : fitsP b) : Calls Try.prog 6 #[v1, v2] w fun e w' => e = .returned (.bool true) ∧ Below w.heap.size w w' := by
  have HC := Lib.hid (fun W (h : Below w.heap.size w W) (ha : a.length ≤ 100) (hb : b.length ≤ 100) => changed_any v1 v2 a b W (h1.up h) (h2.up h) hf1 hf2 (by omega) (by omega))
  have HRC := Lib.hid (fun W (h : Below w.heap.size w W) (ha : a.length ≤ 100) (hb : b.length ≤ 100) => rchanged_any v1 v2 a b W (h1.up h) (h2.up h) (by omega) (by omega))
  have HN := Lib.hid (fun W (v : Value) (h : Below w.heap.size w W) (hv : PRow W v []) (hb : b.length ≤ 100) => changed_any v v2 [] b W hv (h2.up h) (fun p hp => by simp at hp) hf2 (by simp) (by omega))
  obtain ⟨a1, cap1, rfl⟩ := h1.shape
  obtain ⟨a2, cap2, rfl⟩ := h2.shape
  have H2 := Lib.hid h2
  clear h1 h2 hf1 hf2
  by_cases hal : 100 < a.length
  · have d1 : decide (100 < (a.length : Int)) = true := decide_eq_true (by omega)
    go_enter Try.func6, Try.ntmps6
    go_wp2_with fail
    refine (awake_any w).mono ?_
    rintro e w2 ⟨rfl, hb2⟩
    have B2 := Lib.hid hb2
    clear hb2
    go_wp2
    go_ret
    exact ⟨rfl, B2.out⟩
  have d1 : decide (100 < (a.length : Int)) = false := decide_eq_false (by omega)
  have d1' : decide (100 < a.length) = false := decide_eq_false (by omega)
  by_cases hbl : 100 < b.length
  · have d2 : decide (100 < (b.length : Int)) = true := decide_eq_true (by omega)
    go_enter Try.func6, Try.ntmps6
    go_wp2_with fail
    refine (awake_any w).mono ?_
    rintro e w2 ⟨rfl, hb2⟩
    have B2 := Lib.hid hb2
    clear hb2
    go_wp2
    go_ret
    exact ⟨rfl, B2.out⟩
  have d2 : decide (100 < (b.length : Int)) = false := decide_eq_false (by omega)
  have d2' : decide (100 < b.length) = false := decide_eq_false (by omega)
  have ha : a.length ≤ 100 := by omega
  have hb : b.length ≤ 100 := by omega
  have HL : Hid ((changedP a b).length ≤ 1000000) := Lib.hid (by have : (changedP a b).length ≤ b.length := List.length_filter_le _ _; omega)
  have K1 := Lib.hid (HC.out w (Below.refl _ _) ha hb)
  have K2 := Lib.hid (fun W h => HRC.out W h ha hb)
  have K3 := Lib.hid (fun W v h hv => HN.out W v h hv hb)
  rw [changed_none] at K3
  clear HC HRC HN
  generalize changedP a b = ch at K1 K2 HL
  go_enter Try.func6, Try.ntmps6
  go_wp2_with fail
  refine K1.out.mono ?_
  rintro e w2 ⟨v2, rfl, ho2, hb2⟩
  have B2 := Lib.hid hb2
  have R2 := Lib.hid ho2.row
  obtain ⟨x2, y2, rfl⟩ := ho2.row.shape
  clear ho2 hb2
  go_wp2_with fail
  refine (K2.out w2 B2.out).mono ?_
  rintro e w3 ⟨v3, rfl, ho3, hb3⟩
  have B3 := Lib.hid (B2.out.trans (hb3.mono B2.out.size))
  have R3 := Lib.hid (R2.out.up hb3)
  have Q3 := Lib.hid ho3.row
  obtain ⟨x3, y3, rfl⟩ := ho3.row.shape
  clear ho3 hb3
  have HS := Lib.hid (rsameP_any _ _ ch ch w3 R3.out Q3.out HL.out)
  rw [eqPs_self] at HS
  go_wp2_with fail
  refine HS.out.mono ?_
  rintro e w4 ⟨rfl, hb4⟩
  have B4 := Lib.hid (B3.out.trans (hb4.mono B3.out.size))
  clear hb4
  have A5 : Hid (Below w4.heap.size w4 (w4.alloc (.cells #[] 32))) := (Below.refl _ _).alloc (Nat.le_refl _) _
  have B5 := Lib.hid (B4.out.trans (A5.out.mono B4.out.size))
  have K5 := Lib.hid (K3.out (w4.alloc (.cells #[] 32)) (.slice (some ⟨w4.heap.size, 0, none⟩) 0 0) B5.out (OwnP.empty w4 0 (Nat.zero_le _)).row)
  go_wp2_with fail
  refine K5.out.mono ?_
  rintro e w6 ⟨v6, rfl, ho6, hb6⟩
  have B6 := Lib.hid (B5.out.trans (hb6.mono B5.out.size))
  have Q6 := Lib.hid ho6.row
  obtain ⟨x6, y6, rfl⟩ := ho6.row.shape
  clear ho6 hb6
  have HS2 := Lib.hid (rsameP_any _ _ b b w6 Q6.out (H2.out.up B6.out) (by omega))
  rw [eqPs_self] at HS2
  go_wp2_with fail
  refine HS2.out.mono ?_
  rintro e w7 ⟨rfl, hb7⟩
  have B7 := Lib.hid (B6.out.trans (hb7.mono B6.out.size))
  clear hb7
  go_wp2_with fail
  refine (awake_any w7).mono ?_
  rintro e w8 ⟨rfl, hb8⟩
  have B8 := Lib.hid (B7.out.trans (hb8.mono B7.out.size))
  clear hb8
  go_wp2
  go_ret
  exact ⟨rfl, B8.out⟩
end Go.Proofs.Ytlpklpkalcgeaaa
