/- The law TileAll. -/
import Derived.Test.YtibjpkicchdomaaAwake6
namespace Go.Proofs.Ytibjpkicchdomaa
open Go.RowKit

theorem allT_step {l : List T} {k : Nat} {t : T} (p : T → Bool) (h : l[k]? = some t) : (l.take (k + 1)).all p = ((l.take k).all p && p t) := by
  rw [List.take_add_one, h, List.all_append]; simp
theorem beq_self6 (b : Bool) : (b == b) = true := by cases b <;> rfl

set_option maxRecDepth 100000 in
set_option maxHeartbeats 4000000 in
theorem tileAll_any (v : Value) (l : List T) (w : World) (hr : TRow w v l) (hs : szL l ≤ 1099511627776) : Calls Try.prog 4 #[v] w fun e w' => e = .returned (.bool true) ∧ Below w.heap.size w w' := by
  have HGR := Lib.hid (greatAll_any v l w hr)
  have HR := Lib.hid hr
  have HS := Lib.hid hs
  obtain ⟨a, cap, rfl⟩ := hr.shape
  clear hr hs
  go_enter Try.func4, Try.ntmps4
  go_wp2_with fail
  refine HGR.out.mono ?_
  rintro e w1 ⟨g, rfl, hg, hb1⟩
  have B1 := Lib.hid hb1
  have HF := Lib.hid hg
  clear hb1 hg
  cases g with
  | true =>
    go_wp2_with fail
    refine (awake6_any w1).mono ?_
    rintro e w2 ⟨rfl, hb2⟩
    have B2 := Lib.hid (B1.out.trans (hb2.mono B1.out.size))
    clear hb2
    go_wp2
    go_ret
    exact ⟨rfl, B2.out⟩
  | false =>
    obtain ⟨h20, h200⟩ := HF.out rfl HS.out
    have HSM : Hid (∀ t ∈ l, sz t ≤ 999) := Lib.hid fun t ht => Nat.le_trans (h200 t ht) (by decide)
    clear h200
    go_wp2
    go_loopg [3, 4] (l.length + 1) (fun g n i wr => ∃ (k : Nat) (b : Bool), g + k = l.length + 1 ∧ k ≤ l.length ∧ i = .int .i64 k ∧ n = .bool b ∧ b = (l.take k).all tileB ∧ Below w.heap.size w wr)
    case atStart => exact ⟨0, true, by omega, by omega, rfl, rfl, by simp, B1.out⟩
    case round =>
      obtain ⟨k, wb, hg, hk, rfl, rfl, hwb, hb⟩ := hrel
      have HG := Lib.hid hg
      have HB := Lib.hid hb
      have HW := Lib.hid hwb
      clear hg hb hwb
      by_cases hlt : k < l.length
      · have hlti : (k : Int) < (l.length : Int) := by omega
        obtain ⟨b, o, rfl, hf⟩ := HR.out.place (by omega)
        obtain ⟨u, hu⟩ : ∃ u, l[k]? = some u := ⟨_, List.getElem?_eq_getElem hlt⟩
        obtain ⟨x, hx, hix⟩ := hf k u hu
        clear hf
        have hum : sz u ≤ 999 := HSM.out u (List.mem_of_getElem? hu)
        have HST := Lib.hid (allT_step tileB hu)
        cases wb with
        | false =>
          clear hix hx hu
          go_wp2
          go_roundg (gk - 1)
          case measure => have := HG.out; omega
          case rel => exact ⟨k + 1, false, by have := HG.out; omega, by omega, by go_num, rfl, by rw [HST.out, ← HW.out]; rfl, HB.out⟩
        | true =>
          obtain ⟨c0, c1, c2, c3, c4, c5, c6⟩ := hx.up HB.out
          have HK := Lib.hid (rtiles_any u x wr (hix.up HB.out) hum)
          clear hix hx hu
          generalize tileB u = mb at HK HST
          go_wp2_with fail
          refine HK.out.mono ?_
          rintro e w2 ⟨rfl, hb2⟩
          have HB2 := Lib.hid (HB.out.trans (hb2.mono HB.out.size))
          clear hb2
          go_wp2
          go_roundg (gk - 1)
          case measure => have := HG.out; omega
          case rel => exact ⟨k + 1, mb, by have := HG.out; omega, by omega, by go_num, by first | rfl | simp, by rw [HST.out, ← HW.out]; rfl, HB2.out⟩
      · obtain rfl : k = l.length := by omega
        have hkl : ((l.length : Int) < (l.length : Int)) = False := by simp
        have HMA := Lib.hid (tiles_any l _ wr (HR.out.up HB.out) (by omega) HSM.out)
        have HW2 : Hid (l.all tileB = wb) := Lib.hid (by have := HW.out; rw [List.take_length] at this; exact this.symm)
        rw [HW2.out] at HMA
        have hbb := beq_self6 wb
        go_wp2_with fail
        refine HMA.out.mono ?_
        rintro e w2 ⟨rfl, hb2⟩
        have HB2 := Lib.hid (HB.out.trans (hb2.mono HB.out.size))
        clear hb2
        go_wp2_with fail
        refine (awake6_any w2).mono ?_
        rintro e w3 ⟨rfl, hb3⟩
        have HB3 := Lib.hid (HB2.out.trans (hb3.mono HB2.out.size))
        clear hb3
        go_wp2
        go_ret
        exact ⟨rfl, HB3.out⟩

theorem tileAll_wf (v : Value) (l : List T) (w : World) (hr : TRow w v l) (hs : szL l ≤ 1048576) : Calls Try.prog 4 #[v] w fun e w' => e = .returned (.bool true) ∧ Below w.heap.size w w' :=
  tileAll_any v l w hr (by omega)
end Go.Proofs.Ytibjpkicchdomaa
