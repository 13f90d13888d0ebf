/- What the rows of this seat ask of a walk: the listed variable's cell; a fault in words, several, numbers, texts as arguments. -/
import Derived.Test.YtmlmgkaghcnpnaaDoorRows
import Derived.Test.YtmlmgkaghcnpnaaDoorLawJoins
import Derived.ProofKit
import Derived.LaidMore
import Derived.LaidLaws
import Derived.LaidHandle
import Derived.OpenShut
import Derived.ShutString
import Derived.Stop.Joined
import Derived.Deep.Strs
namespace Go.Proofs.YtmlmgkaghcnpnaaDoor
open Go.ChangeShapes Go.WideShapes Go.ChangeAt Go.WideMaps Go.WideElems Go.RowKit
open Go.ChangeMaps (open_string shut_string)

theorem own : ownKnob Tryd.prog.godebug = none := by kernel_rfl
theorem laidOut : laidOutB Tryd.prog = true := by kernel_rfl

def laidE : List (String × DataW Unit) := [("errors.errorType", Rows.laid_errors_errorType)]
theorem Tryd.et : Tryd.prog.globalNamed "errors.errorType" = some 0 := by kernel_rfl
theorem Tryd.rt : (Tryd.prog.cutTypes.find? (·.1 == "internal/reflectlite.rtype")).map (·.2) = some 95 := by kernel_rfl
theorem Tryd.oneRow : ((List.range 138).filter fun t => Tryd.prog.rowNamed t [101, 114, 114, 111, 114]) = [29] := by kernel_rfl
theorem Tryd.typesSize : Tryd.prog.types.size = 138 := by kernel_rfl

/-- What the condition gives a walk: the variable's one cell. -/
theorem of_laid {W : World} (h : laidMetH Tryd.prog laidE W) : EtLaid W := by
  have h' : laidMet Tryd.prog [] W ∧ handlesMet Tryd.prog laidE W := h
  obtain ⟨name, u, ty, e1, e2, e3, e4, e5⟩ := h'.2 _ (List.mem_singleton.2 rfl)
  have en : name = [101, 114, 114, 111, 114] := (Option.some.inj e1).symm
  subst en
  obtain rfl := Option.some.inj (Tryd.rt.symm.trans e2)
  have hm : ty ∈ (List.range 138).filter fun t => Tryd.prog.rowNamed t [101, 114, 114, 111, 114] := List.mem_filter.2 ⟨List.mem_range.2 (by rw [← Tryd.typesSize]; exact e3), e4⟩
  rw [Tryd.oneRow] at hm
  obtain rfl := List.mem_singleton.1 hm
  have hh : typeHandle Tryd.prog 29 = .pointer (some ⟨1, 29, none⟩) := by kernel_rfl
  rw [hh] at e5
  show W.cell? _ = _
  simpa using World.var?_cell Tryd.et e5 0

/-- A world that meets the condition: the settled one, the variable's cell laid. -/
noncomputable def laidWorld (os : Os) : World :=
  let w0 := World.holding Tryd.prog os ⟨#[], #[], []⟩
  { w0 with heap := w0.heap.modify 0 fun
      | .cells _ t frozen => .cells #[.iface 95 (.agg #[.pointer (some ⟨1, 29, none⟩)])] t frozen
      | o => o }
theorem door_met (os : Os) (args : Array Value) : laidMetH Tryd.prog laidE ((laidWorld os).forCall (fun _ _ => 0) ⟨#[], args, []⟩).memory :=
  laidMetH_of_parts (laidMet_nil _ _) (by kernel_rfl)

section
variable {H : Type} {enc : TypeId × Value → H} {w : World} {spare : Nat → Bool} {held : Bool}

theorem range_at {α : Type} (f : Nat → α) {n i : Nat} {x : α} (h : ((List.range n).map f)[i]? = some x) : i < n ∧ x = f i := by
  rcases Nat.lt_or_ge i n with hi | hi
  · refine ⟨hi, ?_⟩
    simp [hi] at h
    exact h.symm
  · rw [List.getElem?_eq_none (by simpa using hi)] at h
    cases h

/-- Texts in a slice that came in. -/
theorem strs_of {fuel : Nat} {v : Value} {x : DataW H × List MemPlace} (h : DataW.trod enc Tryd.prog w 0 spare held fuel 36 [v] = some x) : ∃ ws, Strs w v ws := by
  rcases Go.Deep.open_strs Tryd.underlying36 Tryd.underlying9 (by kernel_rfl) h with ⟨hcs, _⟩ | ⟨a, len, cap, m, Sx, hcs, _, hl, _, hm, _, hcell⟩
  · simp at hcs
    subst hcs
    exact ⟨[], none, 0, rfl, fun _ => ⟨rfl, rfl⟩, fun _ h => by cases h⟩
  · simp at hcs
    subst hcs
    have hlm : len ≤ m := by rw [hm]; split <;> omega
    refine ⟨(List.range len).map Sx, some a, cap, by simp, fun h => (by cases h), fun y hy j u hu => ?_⟩
    cases hy
    rw [List.map_map] at hu
    obtain ⟨hj, rfl⟩ := range_at _ hu
    exact (hcell j (by omega)).1

/-- Rows of texts that came in. -/
theorem rows_of {fuel : Nat} {v : Value} {x : DataW H × List MemPlace} (h : DataW.trod enc Tryd.prog w 0 spare held fuel 22 [v] = some x) : ∃ wss, Rows w v wss := by
  rcases Go.Deep.open_slice1 Tryd.underlying22 (by kernel_rfl) h with ⟨hcs, _⟩ | ⟨a, len, cap, m, n, V, D, Pl, hcs, _, hl, _, hm, _, hx⟩
  · simp at hcs
    subst hcs
    exact ⟨[], [], ⟨none, 0, rfl, fun _ => ⟨rfl, rfl⟩, fun _ h => by cases h⟩, rfl, fun i x ws h => by simp at h⟩
  · simp at hcs
    subst hcs
    have hlm : len ≤ m := by rw [hm]; split <;> omega
    obtain ⟨Wf, hW⟩ := Go.Deep.choose_lt (α := List ByteArray) (n := m) (p := fun i ws => Strs w (V i) ws) (fun i hi => strs_of (hx i hi).2)
    refine ⟨(List.range len).map Wf, (List.range len).map V, ⟨some a, cap, by simp, fun h => (by cases h), fun y hy j u hu => ?_⟩, by simp, fun i x ws hx' hw => ?_⟩
    · cases hy
      obtain ⟨hj, rfl⟩ := range_at _ hu
      exact (hx j (by omega)).1
    · obtain ⟨hi, rfl⟩ := range_at _ hx'
      obtain ⟨-, rfl⟩ := range_at _ hw
      exact hW i (by omega)

/-- A fault in words that came in. -/
theorem f_of {fuel : Nat} {cs : List Value} {x : DataW H × List MemPlace} (h : DataW.trod enc Tryd.prog w 0 spare held fuel 24 cs = some x) : ∃ e k s wss, cs = [.int .i64 e, .int .i64 k, s] ∧ Rows w s wss := by
  obtain ⟨y0, y1, y2, n, -, hl, h0, h1, h2⟩ := Go.Deep.trod_struct3 Tryd.underlying24 h
  rw [show Tryd.prog.cellsOf 24 = 3 by kernel_rfl] at hl
  have q3 : Tryd.prog.cellsOf 3 = 1 := by kernel_rfl
  have q22 : Tryd.prog.cellsOf 22 = 1 := by kernel_rfl
  simp only [q3, q22] at h0 h1 h2
  match cs, hl, h0, h1, h2 with
  | [c0, c1, c2], _, h0, h1, h2 =>
    have h0' : DataW.trod enc Tryd.prog w 0 spare held n 3 [c0] = some y0 := by simpa using h0
    have h1' : DataW.trod enc Tryd.prog w 0 spare held n 3 [c1] = some y1 := by simpa using h1
    have h2' : DataW.trod enc Tryd.prog w 0 spare held n 22 [c2] = some y2 := by simpa using h2
    obtain ⟨e, he, -, -⟩ := DataW.trod_int Tryd.underlying3 h0'
    obtain ⟨k, hk, -, -⟩ := DataW.trod_int Tryd.underlying3 h1'
    obtain ⟨wss, hw⟩ := rows_of h2'
    simp at he hk
    subst he; subst hk
    exact ⟨e, k, c2, wss, rfl, hw⟩

/-- Faults in words that came in. -/
theorem frow_of {fuel : Nat} {v : Value} {x : DataW H × List MemPlace} (h : DataW.trod enc Tryd.prog w 0 spare held fuel 26 [v] = some x) : ∃ fs, FRow w v fs := by
  rcases Go.Deep.open_slice Tryd.underlying26 h with ⟨hcs, _⟩ | ⟨a, len, cap, m, n, D, Pl, hcs, _, hl, _, hm, _, hx⟩
  · simp at hcs
    subst hcs
    exact ⟨[], .inl ⟨_, _, rfl, rfl⟩⟩
  · simp at hcs
    subst hcs
    have hlm : len ≤ m := by rw [hm]; split <;> omega
    rw [show Tryd.prog.cellsOf 24 = 3 by kernel_rfl] at hx
    rcases Nat.eq_zero_or_pos len with rfl | hp
    · exact ⟨[], .inl ⟨_, _, rfl, rfl⟩⟩
    have each : ∀ i, i < m → ∃ f : FD, ∃ s, w.cell? (a.add (i * 3)) = some (.int .i64 f.1) ∧ w.cell? (a.add (i * 3 + 1)) = some (.int .i64 f.2.1) ∧ w.cell? (a.add (i * 3 + 2)) = some s ∧ Rows w s f.2.2 := fun i hi => by
      obtain ⟨cs', h1, h2⟩ := hx i hi
      obtain ⟨e, k, s, wss, rfl, hw⟩ := f_of h2
      obtain ⟨-, -, hc⟩ := World.cells?_some h1
      refine ⟨(e, k, wss), s, ?_, ?_, ?_, hw⟩
      · have := hc 0 (by omega); rw [Go.Deep.add_add] at this; simpa using this
      · have := hc 1 (by omega); rw [Go.Deep.add_add] at this; simpa using this
      · have := hc 2 (by omega); rw [Go.Deep.add_add] at this; simpa using this
    obtain ⟨Ff, hF⟩ := Go.Deep.choose_lt (α := FD) (n := m) each
    obtain ⟨b, o, spot⟩ := a
    have hspot : spot = none := by
      obtain ⟨s, h0, -⟩ := hF 0 (by omega)
      simpa [Addr.add] using World.cell?_spot h0
    subst hspot
    refine ⟨(List.range len).map Ff, .inr ⟨b, o, cap, by simp, fun j f hf => ?_⟩⟩
    obtain ⟨hj, rfl⟩ := range_at _ hf
    obtain ⟨s, h0, h1, h2, h3⟩ := hF j (by omega)
    rw [Go.WideShapes.add_plain] at h0 h1 h2
    exact ⟨h0, h1, s, h2, h3⟩

/-- Numbers that came in. -/
theorem ints_of {fuel : Nat} {v : Value} {x : DataW H × List MemPlace} (h : DataW.trod enc Tryd.prog w 0 spare held fuel 47 [v] = some x) : ∃ ms : List Int, Row w v (ms.map (Value.int .i64)) := by
  rcases open_ints Tryd.underlying47 Tryd.underlying3 (by kernel_rfl) h with ⟨hcs, _⟩ | ⟨a, l, c, zs, hcs, _, hl, hm, hz, _, hcell, hwz⟩
  · simp at hcs
    subst hcs
    exact ⟨[], none, 0, rfl, fun _ => ⟨rfl, rfl⟩, fun _ h => by cases h⟩
  · simp at hcs
    subst hcs
    have hlm : l ≤ zs.length := by rw [hz]; split <;> omega
    refine ⟨zs.take l, some a, c, by simp; omega, fun h => (by cases h), fun y hy j u hu => ?_⟩
    cases hy
    rw [List.getElem?_map, Option.map_eq_some_iff] at hu
    obtain ⟨n, hn, rfl⟩ := hu
    have hjl : j < zs.length := by
      rcases Nat.lt_or_ge j zs.length with h | h
      · exact h
      · rw [List.getElem?_take, List.getElem?_eq_none h] at hn; split at hn <;> cases hn
    rw [hcell j hjl]
    rw [List.getElem?_take] at hn
    split at hn
    · rw [List.getD_eq_getElem?_getD, hn]; rfl
    · cases hn
end

theorem faultTells_wf (v : Value) (e k : Int) (s : Value) (wss : List (List ByteArray)) (w : World) (hv : v = .agg #[.int .i64 e, .int .i64 k, s]) (hr : Rows w s wss) (hg : EtLaid w) :
    Calls Tryd.prog 3 #[v] w fun e w' => e = .returned (.bool true) ∧ Below w.heap.size w w' := by
  subst hv
  exact faultTells_any e k s wss w hg hr
theorem faultAlone_wf (v : Value) (e k n : Int) (s : Value) (wss : List (List ByteArray)) (w : World) (hv : v = .agg #[.int .i64 e, .int .i64 k, s]) (hr : Rows w s wss) (hg : EtLaid w) :
    Calls Tryd.prog 6 #[v, .int .i64 n] w fun e w' => e = .returned (.bool true) ∧ Below w.heap.size w w' := by
  subst hv
  exact faultAlone_any e k s wss n w hg hr
theorem faultIs_wf (v : Value) (e k : Int) (s v1 : Value) (wss : List (List ByteArray)) (ms : List Int) (w : World) (hv : v = .agg #[.int .i64 e, .int .i64 k, s]) (hr : Rows w s wss) (hm : Row w v1 (ms.map (Value.int .i64))) (hg : EtLaid w) :
    Calls Tryd.prog 5 #[v, v1] w fun e w' => e = .returned (.bool true) ∧ Below w.heap.size w w' := by
  subst hv
  have hm' := hm
  obtain ⟨a, c, rfl, -, -⟩ := hm'
  rw [List.length_map] at hm ⊢
  exact faultIs_any e k s wss a c ms w hg hr hm
theorem faultJoins_wf (v v1 : Value) (n : Int) (fs : List FD) (us : List ByteArray) (w : World) (hf : FRow w v fs) (hu : Strs w v1 us) (hg : EtLaid w) :
    Calls Tryd.prog 4 #[v, v1, .int .i64 n] w fun e w' => e = .returned (.bool true) ∧ Below w.heap.size w w' := by
  have hu' := hu
  obtain ⟨a, c, rfl, -, -⟩ := hu'
  have hu2 : Strs w (.slice a us.length c) us := by
    have := hu
    rw [List.length_map] at this
    exact this
  rw [List.length_map]
  exact faultJoins_any v fs a c us n w hg hf hu2
end Go.Proofs.YtmlmgkaghcnpnaaDoor
