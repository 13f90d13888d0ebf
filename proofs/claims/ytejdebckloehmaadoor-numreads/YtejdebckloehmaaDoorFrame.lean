/- What the listed tables give a walk, and that the door's own heap meets the list. -/
import Derived.Test.YtejdebckloehmaaDoorRows
import Derived.Test.YtejdebckloehmaaDoorLaws2
import Derived.ProofKit
import Derived.LaidMore
import Derived.OpenShut
import Derived.ShutString
import Derived.Stop.Joined
import Derived.Lib.LaidTab
namespace Go.Proofs.YtejdebckloehmaaDoor
open Go.ChangeShapes Go.WideShapes Go.ChangeAt Go.WideMaps Go.WideElems Go.RowKit
open Go.ChangeMaps (open_string shut_string)

theorem own : ownKnob Tryd.prog.godebug = none := by kernel_rfl
theorem laidOut : laidOutB Tryd.prog = true := by kernel_rfl

def laid3 : List (String × DataW Unit) := [("math/bits.deBruijn32tab", Rows.laid_math_bits_deBruijn32tab), ("math/bits.deBruijn64tab", Rows.laid_math_bits_deBruijn64tab), ("internal/strconv.uint64pow10", Rows.laid_internal_strconv_uint64pow10)]

theorem door_met (os : Os) (args : Array Value) : laidMetH Tryd.prog laid3 ((World.doorLaid Tryd.prog 400 os).forCall (fun _ _ => 0) ⟨#[], args, []⟩).memory :=
  laidMetH_of_parts3 (fuel := 8) (laidMet_of_run' 8 (by kernel_rfl) (by kernel_rfl)) (by kernel_rfl) (by kernel_rfl)

theorem of_laid {W : World} (h : laidMetH Tryd.prog laid3 W) : Tab W := by
  rw [MakeChecks.laidMetH_plain _ _ _ (by kernel_rfl)] at h
  obtain ⟨ps, ⟨g0, t0, cs0, f0, p0, q0, hg0, ht0, hv0, hd0, ⟨g1, t1, cs1, f1, p1, q1, hg1, ht1, hv1, hd1, ⟨g2, t2, cs2, f2, p2, q2, hg2, ht2, hv2, hd2, _, _⟩, _⟩, _⟩, _, _⟩ := h
  obtain rfl := Option.some.inj ((show Tryd.prog.globalNamed "internal/strconv.uint64pow10" = some 1 by kernel_rfl).symm.trans hg2)
  obtain rfl := Option.some.inj ((show (Tryd.prog.globals[1]?).map (·.type) = some 77 by kernel_rfl).symm.trans ht2)
  unfold Tab Lib.TabIs
  rw [hv2, ← Lib.cells_of_tab (P := Tryd.prog) (n := 20) (e := 70) (k := .u64) (zs := Lib.pow10Tab) Tryd.underlying77 Tryd.underlying70 (by kernel_rfl) (by kernel_rfl) (show _ = some (Lib.tabData .u64 Lib.pow10Tab, _) from hd2)]

/-- A slice of integers that came in: nil; or it leads to a row of 'cap' cells, the numbers 'zs'. -/
def IsRow (k : IntKind) (w : World) (a : Option Addr) (len cap : Nat) (zs : List Int) : Prop :=
  (a = none ∧ len = 0 ∧ cap = 0 ∧ zs = []) ∨
  ∃ x, a = some x ∧ len ≤ cap ∧ cap ≤ maxLen ∧ zs.length = cap ∧ (∀ i, i < zs.length → w.cell? (x.add i) = some (.int k (zs.getD i 0))) ∧ ∀ n ∈ zs, (Lit.int k n).wf = true

theorem numBack_wf (n : Int) (s : ByteArray) (w : World) (w0 : (Lit.int .i64 n).wf = true) (hs : s.size ≤ maxLen) (htab : Tab w) :
    Calls Tryd.prog 6 #[.int .i64 n, .string s] w fun e w' => e = .returned (.bool true) ∧ Below w.heap.size w w' := by
  have := bounds_i64 w0
  exact numBack_any n s w this.1 this.2 hs htab

theorem numHex_wf (n : Int) (s : ByteArray) (w : World) (w0 : (Lit.int .u16 n).wf = true) (htab : Tab w) :
    Calls Tryd.prog 7 #[.int .u16 n, .string s] w fun e w' => e = .returned (.bool true) ∧ Below w.heap.size w w' := by
  have := bounds_u16 w0
  obtain ⟨k, rfl⟩ := Int.eq_ofNat_of_zero_le this.1
  exact numHex_any k s w (by omega) htab

theorem cell_lt {w : World} {b o : Nat} {v : Value} (h : w.cell? ⟨b, o, none⟩ = some v) : b < w.heap.size := by
  refine Classical.byContradiction fun hn => ?_
  have hno : w.heap[b]? = none := Array.getElem?_eq_none (by omega)
  simp [World.cell?, hno] at h

theorem numDigits_row (a : Option Addr) (len cap : Nat) (zs : List Int) (w : World) (w0 : IsRow .i64 w a len cap zs) (htab : Tab w) :
    Calls Tryd.prog 3 #[.slice a len cap] w fun e w' => e = .returned (.bool true) ∧ Below w.heap.size w w' := by
  by_cases hl : 50 < len
  · exact numDigits_long a len cap w hl htab
  · rcases Nat.eq_zero_or_pos len with rfl | hp
    · exact numDigits_none a cap w htab
    · rcases w0 with ⟨_, h, _⟩ | ⟨x, rfl, hlc, hm, hz, hcell, hwf⟩
      · omega
      · obtain ⟨b, o, rfl, hc⟩ := ints_at hcell (by omega)
        have hlen : (zs.take len).length = len := by rw [List.length_take]; omega
        have h := numDigits_some b o cap (zs.take len) w (by omega) (by omega) (cell_lt (hc 0 (by omega))) (fun j x hj => by
          have hjl := (List.getElem?_eq_some_iff.1 hj).1
          rw [hc j (by omega)]
          rw [List.getElem?_take, if_pos (by omega)] at hj
          rw [List.getD_eq_getElem?_getD, hj]; rfl) (fun x hx => bounds_i64 (hwf x (List.mem_of_mem_take hx))) htab
        rw [hlen] at h
        exact h
end Go.Proofs.YtejdebckloehmaaDoor
