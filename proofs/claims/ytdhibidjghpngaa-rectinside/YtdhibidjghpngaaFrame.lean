/- What the rows of this seat ask of a walk: rectangles, several, numbers as arguments. -/
import Derived.Test.YtdhibidjghpngaaRows
import Derived.Test.YtdhibidjghpngaaCutA
import Derived.ProofKit
import Derived.LaidMore
import Derived.OpenShut
import Derived.ShutString
import Derived.Stop.Joined
import Derived.Deep.Strs
import Derived.Lib.SmallJoins
namespace Go.Proofs.Ytdhibidjghpngaa
open Go.ChangeShapes Go.WideShapes Go.ChangeAt Go.WideMaps Go.WideElems Go.RowKit
open Go.ChangeMaps (open_string shut_string)

theorem own : ownKnob Try.prog.godebug = none := by kernel_rfl
theorem laidOut : laidOutB Try.prog = true := by kernel_rfl

theorem fits_wf {n : Int} (h : (Lit.int .i64 n).wf = true) : fits n := bounds_i64 h
theorem byte_wf {n : Int} (h : (Lit.int .u8 n).wf = true) : 0 ≤ n ∧ n ≤ 255 := by
  simp [Lit.wf, IntKind.min, IntKind.max, IntKind.signed, IntKind.bits] at h
  omega

section
variable {H : Type} {enc : TypeId × Value → H} {w : World} {spare : Nat → Bool} {held : Bool}

theorem range_at {α : Type} (f : Nat → α) {n i : Nat} {x : α} (h : ((List.range n).map f)[i]? = some x) : i < n ∧ x = f i := by
  rcases Nat.lt_or_ge i n with hi | hi
  · refine ⟨hi, ?_⟩
    simp [hi] at h
    exact h.symm
  · rw [List.getElem?_eq_none (by simpa using hi)] at h
    cases h

/-- A rectangle that came in. -/
theorem r_of {fuel : Nat} {cs : List Value} {x : DataW H × List MemPlace} (h : DataW.trod enc Try.prog w 0 spare held fuel 29 cs = some x) : ∃ r : R, cs = [.int .i64 r.x, .int .i64 r.y, .int .i64 r.w, .int .i64 r.h] ∧ r.fits := by
  obtain ⟨y0, y1, y2, y3, n, -, hl, h0, h1, h2, h3⟩ := Go.Joins.trod_struct4 Try.underlying29 h
  rw [show Try.prog.cellsOf 29 = 4 by kernel_rfl] at hl
  have q3 : Try.prog.cellsOf 3 = 1 := by kernel_rfl
  simp only [q3] at h0 h1 h2 h3
  match cs, hl, h0, h1, h2, h3 with
  | [c0, c1, c2, c3], _, h0, h1, h2, h3 =>
    have h0' : DataW.trod enc Try.prog w 0 spare held n 3 [c0] = some y0 := by simpa using h0
    have h1' : DataW.trod enc Try.prog w 0 spare held n 3 [c1] = some y1 := by simpa using h1
    have h2' : DataW.trod enc Try.prog w 0 spare held n 3 [c2] = some y2 := by simpa using h2
    have h3' : DataW.trod enc Try.prog w 0 spare held n 3 [c3] = some y3 := by simpa using h3
    obtain ⟨a, ha, -, wa⟩ := DataW.trod_int Try.underlying3 h0'
    obtain ⟨b, hb, -, wb⟩ := DataW.trod_int Try.underlying3 h1'
    obtain ⟨c, hc, -, wc⟩ := DataW.trod_int Try.underlying3 h2'
    obtain ⟨d, hd, -, wd⟩ := DataW.trod_int Try.underlying3 h3'
    simp at ha hb hc hd
    subst ha; subst hb; subst hc; subst hd
    exact ⟨⟨a, b, c, d⟩, rfl, fits_wf wa, fits_wf wb, fits_wf wc, fits_wf wd⟩

/-- Rectangles that came in. -/
theorem rrow_of {fuel : Nat} {v : Value} {x : DataW H × List MemPlace} (h : DataW.trod enc Try.prog w 0 spare held fuel 22 [v] = some x) : ∃ l : List R, RRow w v l ∧ fitsAll l := by
  rcases Go.Deep.open_slice Try.underlying22 h with ⟨hcs, _⟩ | ⟨a, len, cap, m, n, D, Pl, hcs, _, hl, _, hm, _, hx⟩
  · simp at hcs
    subst hcs
    exact ⟨[], .inl ⟨_, _, rfl, rfl⟩, fun r hr => by simp at hr⟩
  · simp at hcs
    subst hcs
    have hlm : len ≤ m := by rw [hm]; split <;> omega
    rw [show Try.prog.cellsOf 29 = 4 by kernel_rfl] at hx
    rcases Nat.eq_zero_or_pos len with rfl | hp
    · exact ⟨[], .inl ⟨_, _, rfl, rfl⟩, fun r hr => by simp at hr⟩
    have each : ∀ i, i < m → ∃ r : R, (w.cell? (a.add (i * 4)) = some (.int .i64 r.x) ∧ w.cell? (a.add (i * 4 + 1)) = some (.int .i64 r.y) ∧ w.cell? (a.add (i * 4 + 2)) = some (.int .i64 r.w) ∧ w.cell? (a.add (i * 4 + 3)) = some (.int .i64 r.h)) ∧ r.fits := fun i hi => by
      obtain ⟨cs', h1, h2⟩ := hx i hi
      obtain ⟨r, rfl, hf⟩ := r_of h2
      obtain ⟨-, -, hc⟩ := World.cells?_some h1
      refine ⟨r, ⟨?_, ?_, ?_, ?_⟩, hf⟩
      · have := hc 0 (by omega); rw [Go.Deep.add_add] at this; simpa using this
      · have := hc 1 (by omega); rw [Go.Deep.add_add] at this; simpa using this
      · have := hc 2 (by omega); rw [Go.Deep.add_add] at this; simpa using this
      · have := hc 3 (by omega); rw [Go.Deep.add_add] at this; simpa using this
    obtain ⟨Ff, hF⟩ := Go.Deep.choose_lt (α := R) (n := m) each
    obtain ⟨b, o, spot⟩ := a
    have hspot : spot = none := by
      have h0 := (hF 0 (by omega)).1.1
      simpa [Addr.add] using World.cell?_spot h0
    subst hspot
    refine ⟨(List.range len).map Ff, .inr ⟨b, o, cap, by simp, fun j r hr => ?_⟩, fun r hr => ?_⟩
    · obtain ⟨hj, rfl⟩ := range_at _ hr
      obtain ⟨⟨h0, h1, h2, h3⟩, -⟩ := hF j (by omega)
      rw [Go.WideShapes.add_plain] at h0 h1 h2 h3
      exact ⟨h0, h1, h2, h3⟩
    · obtain ⟨j, hj, rfl⟩ := List.mem_map.1 hr
      exact (hF j (by have := List.mem_range.1 hj; omega)).2

/-- Numbers that came in. -/
theorem irow_of {fuel : Nat} {v : Value} {x : DataW H × List MemPlace} (h : DataW.trod enc Try.prog w 0 spare held fuel 35 [v] = some x) : ∃ ms : List Int, IRow w v ms := by
  rcases open_ints Try.underlying35 Try.underlying3 (by kernel_rfl) h with ⟨hcs, _⟩ | ⟨a, l, c, zs, hcs, _, hl, hm, hz, _, hcell, hwz⟩
  · simp at hcs
    subst hcs
    exact ⟨[], .inl ⟨_, _, rfl, rfl⟩⟩
  · simp at hcs
    subst hcs
    have hlm : l ≤ zs.length := by rw [hz]; split <;> omega
    rcases Nat.eq_zero_or_pos l with rfl | hp
    · exact ⟨[], .inl ⟨_, _, rfl, rfl⟩⟩
    obtain ⟨b, o, spot⟩ := a
    have hspot : spot = none := by
      have h0 := hcell 0 (by omega)
      simpa [Addr.add] using World.cell?_spot h0
    subst hspot
    refine ⟨zs.take l, .inr ⟨b, o, c, by simp; omega, fun j m hm' => ?_⟩⟩
    have hjl : j < zs.length := by
      rcases Nat.lt_or_ge j zs.length with h | h
      · exact h
      · rw [List.getElem?_take, List.getElem?_eq_none h] at hm'; split at hm' <;> cases hm'
    have h1 := hcell j hjl
    rw [Go.WideShapes.add_plain] at h1
    rw [h1]
    rw [List.getElem?_take] at hm'
    split at hm'
    · rw [List.getD_eq_getElem?_getD, hm']; rfl
    · cases hm'
end

end Go.Proofs.Ytdhibidjghpngaa
