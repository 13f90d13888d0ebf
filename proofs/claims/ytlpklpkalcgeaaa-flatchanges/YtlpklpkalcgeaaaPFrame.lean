/- Panes that come in as arguments. -/
import Derived.Test.YtlpklpkalcgeaaaFrame
import Derived.Test.YtlpklpkalcgeaaaFFirsts
namespace Go.Proofs.Ytlpklpkalcgeaaa
open Go.ChangeShapes Go.WideShapes Go.ChangeAt Go.WideMaps Go.WideElems Go.RowKit

section
variable {H : Type} {enc : TypeId × Value → H} {w : World} {spare : Nat → Bool} {held : Bool}

/-- A pane that came in. -/
theorem p_of {fuel : Nat} {cs : List Value} {x : DataW H × List MemPlace} (h : DataW.trod enc Try.prog w 0 spare held fuel 32 cs = some x) : ∃ p : Pn, cs = encP p ∧ p.fits := by
  obtain ⟨xs, n, -, rfl, hl, hlen, hg⟩ := DataW.trod_struct Try.underlying32 h
  rw [show Try.prog.cellsOf 32 = 5 by kernel_rfl] at hl
  have h0 := hg 0 _ rfl
  have h1 := hg 1 _ rfl
  clear hg
  have q3 : Try.prog.cellsOf 3 = 1 := by kernel_rfl
  have q23 : Try.prog.cellsOf 23 = 4 := by kernel_rfl
  match xs, hlen with
  | [y0, y1], _ =>
  match cs, hl with
  | [c0, c1, c2, c3, c4], _ =>
  simp [q3] at h0
  simp [q23] at h1
  obtain ⟨i, hi, -, wi⟩ := DataW.trod_int Try.underlying3 h0
  obtain ⟨r, hr, hrf⟩ := r_of h1
  simp at hi hr
  obtain ⟨rfl, rfl, rfl, rfl⟩ := hr
  subst hi
  exact ⟨⟨i, r⟩, rfl, fits_wf wi, hrf⟩

/-- Panes that came in. -/
theorem prow_of {fuel : Nat} {v : Value} {x : DataW H × List MemPlace} (h : DataW.trod enc Try.prog w 0 spare held fuel 29 [v] = some x) : ∃ l : List Pn, PRow w v l ∧ fitsP l := by
  rcases Go.Deep.open_slice Try.underlying29 h with ⟨hcs, _⟩ | ⟨a, len, cap, m, n, D, Pl, hcs, _, hl, _, hm, _, hx⟩
  · simp at hcs
    subst hcs
    exact ⟨[], .inl ⟨_, _, rfl, rfl⟩, fun r hr => by simp at hr⟩
  · simp at hcs
    subst hcs
    have hlm : len ≤ m := by rw [hm]; split <;> omega
    rw [show Try.prog.cellsOf 32 = 5 by kernel_rfl] at hx
    rcases Nat.eq_zero_or_pos len with rfl | hp
    · exact ⟨[], .inl ⟨_, _, rfl, rfl⟩, fun r hr => by simp at hr⟩
    have each : ∀ i, i < m → ∃ p : Pn, (w.cell? (a.add (i * 5)) = some (.int .i64 p.id) ∧ w.cell? (a.add (i * 5 + 1)) = some (.int .i64 p.r.x) ∧ w.cell? (a.add (i * 5 + 2)) = some (.int .i64 p.r.y) ∧ w.cell? (a.add (i * 5 + 3)) = some (.int .i64 p.r.w) ∧ w.cell? (a.add (i * 5 + 4)) = some (.int .i64 p.r.h)) ∧ p.fits := fun i hi => by
      obtain ⟨cs', h1, h2⟩ := hx i hi
      obtain ⟨p, rfl, hf⟩ := p_of h2
      obtain ⟨-, -, hc⟩ := World.cells?_some h1
      refine ⟨p, ⟨?_, ?_, ?_, ?_, ?_⟩, hf⟩
      · have := hc 0 (by omega); rw [Go.Deep.add_add] at this; simpa [encP] using this
      · have := hc 1 (by omega); rw [Go.Deep.add_add] at this; simpa [encP] using this
      · have := hc 2 (by omega); rw [Go.Deep.add_add] at this; simpa [encP] using this
      · have := hc 3 (by omega); rw [Go.Deep.add_add] at this; simpa [encP] using this
      · have := hc 4 (by omega); rw [Go.Deep.add_add] at this; simpa [encP] using this
    obtain ⟨Ff, hF⟩ := Go.Deep.choose_lt (α := Pn) (n := m) each
    obtain ⟨b, o, spot⟩ := a
    have hspot : spot = none := by
      have h0 := (hF 0 (by omega)).1.1
      simpa [Addr.add] using World.cell?_spot h0
    subst hspot
    refine ⟨(List.range len).map Ff, .inr ⟨b, o, cap, by simp, fun j r hr => ?_⟩, fun r hr => ?_⟩
    · obtain ⟨hj, rfl⟩ := range_at _ hr
      obtain ⟨⟨h0, h1, h2, h3, h4⟩, -⟩ := hF j (by omega)
      rw [Go.WideShapes.add_plain] at h0 h1 h2 h3 h4
      exact ⟨h0, h1, h2, h3, h4⟩
    · obtain ⟨j, hj, rfl⟩ := List.mem_map.1 hr
      exact (hF j (by have := List.mem_range.1 hj; omega)).2.1
end
end Go.Proofs.Ytlpklpkalcgeaaa
