/- What the rows of this seat ask of a walk: whole numbers as such, texts in a slice. -/
import Derived.Test.YthhjeiabjmhalaaRows
import Derived.Test.YthhjeiabjmhalaaLawsC
import Derived.ProofKit
import Derived.LaidMore
import Derived.OpenShut
import Derived.ShutString
import Derived.Stop.Joined
import Derived.Deep.Strs
namespace Go.Proofs.Ythhjeiabjmhalaa
open Go.ChangeShapes Go.WideShapes Go.ChangeAt Go.WideMaps Go.WideElems Go.RowKit
open Go.ChangeMaps (open_string shut_string)

theorem own : ownKnob Try.prog.godebug = none := by kernel_rfl
theorem laidOut : laidOutB Try.prog = true := by kernel_rfl

/-- A slice of texts that came in: nil; or these texts lie there. -/
def IsStrs (w : World) (a : Option Addr) (len : Nat) (xs : List ByteArray) : Prop :=
  (a = none ∧ len = 0 ∧ xs = []) ∨
  (∃ x, a = some x ∧ xs.length = len ∧ ∀ i (h : i < xs.length), w.cell? (x.add i) = some (.string xs[i]) ∧ xs[i].size ≤ maxLen)
theorem strs_row {w : World} {x : Addr} {l c m : Nat} {Sx : Nat → ByteArray} (_hl : l ≤ c) (hm : l ≤ m) (h : ∀ i, i < m → w.cell? (x.add i) = some (.string (Sx i)) ∧ (Sx i).size ≤ maxLen) : IsStrs w (some x) l ((List.range l).map Sx) := by
  refine Or.inr ⟨x, rfl, by simp, fun i hi => ?_⟩
  have hi' : i < l := by simpa using hi
  have := h i (by omega)
  simpa using this

theorem sumIs_wf (n : Int) (s : ByteArray) (w : World) (w0 : (Lit.int .u16 n).wf = true) :
    Calls Try.prog 3 #[.int .u16 n, .string s] w fun e w' => e = .returned (.bool true) ∧ Below w.heap.size w w' := by
  have := bounds_u16 w0
  obtain ⟨k, rfl⟩ := Int.eq_ofNat_of_zero_le this.1
  exact sumIs_any k s w (by omega)
theorem sumTells_wf (s : ByteArray) (n c : Int) (w : World) (w0 : (Lit.int .u16 n).wf = true) (w1 : (Lit.int .u8 c).wf = true) :
    Calls Try.prog 6 #[.string s, .int .u16 n, .int .u8 c] w fun e w' => e = .returned (.bool true) ∧ Below w.heap.size w w' := by
  have h0 := bounds_u16 w0
  have h1 := bounds_u8 w1
  obtain ⟨k, rfl⟩ := Int.eq_ofNat_of_zero_le h0.1
  obtain ⟨b, rfl⟩ := Int.eq_ofNat_of_zero_le h1.1
  have h := sumTells_any s k (UInt8.ofNat b) w (by omega)
  have hb : (UInt8.ofNat b).toNat = b := UInt8.toNat_ofNat_of_lt' (by show b < 256; omega)
  rw [hb] at h
  exact h
theorem sumLong_wf (n : Int) (w : World) (w0 : (Lit.int .u8 n).wf = true) :
    Calls Try.prog 7 #[.int .u8 n] w fun e w' => e = .returned (.bool true) ∧ Below w.heap.size w w' := by
  have := bounds_u8 w0
  obtain ⟨k, rfl⟩ := Int.eq_ofNat_of_zero_le this.1
  exact sumLong_any k w (by omega)
theorem sumJoins_wf (n : Int) (a : Option Addr) (len cap : Nat) (xs : List ByteArray) (w : World) (w0 : (Lit.int .u16 n).wf = true) (w1 : IsStrs w a len xs) :
    Calls Try.prog 4 #[.int .u16 n, .slice a len cap] w fun e w' => e = .returned (.bool true) ∧ Below w.heap.size w w' := by
  have h0 := bounds_u16 w0
  obtain ⟨k, rfl⟩ := Int.eq_ofNat_of_zero_le h0.1
  by_cases hl : 20 < len
  · exact sumJoins_long k len cap a w hl
  · rcases Nat.eq_zero_or_pos len with rfl | hp
    · exact sumJoins_none k cap a w (by omega)
    · rcases w1 with ⟨_, h, _⟩ | ⟨x, rfl, hlen, hcell⟩
      · omega
      · obtain ⟨b, o, spot⟩ := x
        have hspot : spot = none := by simpa [Addr.add] using World.cell?_spot (hcell 0 (by omega)).1
        subst hspot
        subst hlen
        refine sumJoins_some k b o cap xs w (by omega) (by omega) (fun j y hj => ?_)
        obtain ⟨hj1, rfl⟩ := List.getElem?_eq_some_iff.1 hj
        rw [← Go.WideShapes.add_plain]
        exact (hcell j hj1).1
end Go.Proofs.Ythhjeiabjmhalaa
