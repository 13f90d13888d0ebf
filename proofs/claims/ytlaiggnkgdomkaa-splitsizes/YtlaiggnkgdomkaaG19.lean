/- Texts of this seat, 3 in one file. -/
import Derived.Test.YtlaiggnkgdomkaaG12
import Derived.Deep.RegionHeld3
/- The document's own cut. -/
namespace Go.Proofs.Ytlaiggnkgdomkaa
open Go.RowKit

theorem Two.drew {w : World} {base : Nat} {v1 : Value} {l1 : List R} {v2 : Value} {l2 : List R} (h : Two w base v1 l1 v2 l2) : Two w.drew base v1 l1 v2 l2 := ⟨h.own1, h.own2, h.ne⟩
theorem two_new {w : World} : Two ((w.alloc (.cells #[] 28)).alloc (.cells #[] 28)) w.heap.size (.slice (some ⟨w.heap.size, 0, none⟩) 0 0) [] (.slice (some ⟨w.heap.size + 1, 0, none⟩) 0 0) [] := by
  refine ⟨?_, ?_, fun k h1 h2 => ?_⟩
  · exact Owns.up (World.ownsRow_made w #[] 0 (Nat.le_refl _) (Nat.zero_le _) (by simp)) ((Below.refl _ _).alloc (Nat.le_refl _) _)
  · have := World.ownsRow_made (base := w.heap.size) (e := 28) (size := 4) (w.alloc (.cells #[] 28)) #[] 0 (by simp) (Nat.zero_le _) (by simp)
    rw [World.size_alloc] at this
    exact this
  · simp [Value.ownBlock] at h1 h2
    omega

theorem c5_of {w : World} {q b j : Nat} {r : R} {m : Int} (h : RAt w q 0 r) (hm : w.cell? ⟨b, j, none⟩ = some (.int .i64 m)) :
    w.cell? ⟨q, 0, none⟩ = some (.int .i64 r.x) ∧ w.cell? ⟨q, 1, none⟩ = some (.int .i64 r.y) ∧ w.cell? ⟨q, 2, none⟩ = some (.int .i64 r.w) ∧ w.cell? ⟨q, 3, none⟩ = some (.int .i64 r.h) ∧ w.cell? ⟨b, j, none⟩ = some (.int .i64 m) := by
  obtain ⟨h0, h1, h2, h3⟩ := h
  simp only [Nat.zero_add] at h1 h2 h3
  exact ⟨h0, h1, h2, h3, hm⟩

theorem fill_none {whole : Int} (h : 1 ≤ whole) : ¬ fillP whole [] := fun h' => by
  have := h'.2
  simp [offS] at this
  omega
theorem rcut_no {r : R} {ax : Int} {ms : List Int} {w w' : World} {b c b' c' : Nat} (h : ¬ cutP r ax ms) (hb : Below w.heap.size w w') : CutSays r ax ms w (.returned (.tuple #[.slice (some ⟨b, c, none⟩) 0 0, .slice (some ⟨b', c', none⟩) 0 0, .bool false])) w' :=
  ⟨_, _, false, rfl, by simp [h], .inl ⟨_, _, rfl, rfl⟩, .inl ⟨_, _, rfl, rfl⟩, hb⟩

end Go.Proofs.Ytlaiggnkgdomkaa
/- The document's own cut, across. -/
namespace Go.Proofs.Ytlaiggnkgdomkaa
open Go.RowKit

end Go.Proofs.Ytlaiggnkgdomkaa
/- The document's own cut, down. -/
namespace Go.Proofs.Ytlaiggnkgdomkaa
open Go.RowKit

end Go.Proofs.Ytlaiggnkgdomkaa
