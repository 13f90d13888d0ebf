/- Rows of rectangles; what is asked of all of them. -/
import Derived.Test.YtcmkhppkdbdfdaaSmall
import Derived.OwnWalk
import Derived.Maps.AppendAt
namespace Go.Proofs.Ytcmkhppkdbdfdaa
open Go.RowKit

def Enters (F : Nat) : Prop := ∀ (args : Array Value) (w : World), (callFunc F args).run Try.prog w = .ok (.enter F args) w

theorem lt_of_cell {w : World} {a : Addr} {v : Value} (h : w.cell? a = some v) : a.block < w.heap.size := World.block_lt_of_cell? w a h

/-- A rectangle, where it lies. -/
def RAt (w : World) (b o : Nat) (r : R) : Prop :=
  w.cell? ⟨b, o, none⟩ = some (.int .i64 r.x) ∧ w.cell? ⟨b, o + 1, none⟩ = some (.int .i64 r.y) ∧ w.cell? ⟨b, o + 2, none⟩ = some (.int .i64 r.w) ∧ w.cell? ⟨b, o + 3, none⟩ = some (.int .i64 r.h)
theorem RAt.up {w w' : World} {b o : Nat} {r : R} (h : RAt w b o r) (hb : Below w.heap.size w w') : RAt w' b o r := by
  obtain ⟨h1, h2, h3, h4⟩ := h
  exact ⟨(hb.cell (lt_of_cell h1)).trans h1, (hb.cell (lt_of_cell h2)).trans h2, (hb.cell (lt_of_cell h3)).trans h3, (hb.cell (lt_of_cell h4)).trans h4⟩
theorem RAt.grown {w w' : World} {b o : Nat} {r : R} {row : Option Nat} (h : RAt w b o r) (hb : w.grownBy w' row) (hne : some b ≠ row) : RAt w' b o r := by
  obtain ⟨h1, h2, h3, h4⟩ := h
  exact ⟨hb.cell h1 hne, hb.cell h2 hne, hb.cell h3 hne, hb.cell h4 hne⟩

/-- Rectangles in a slice. -/
def RRow (w : World) (v : Value) (l : List R) : Prop :=
  (∃ a cap, v = .slice a 0 cap ∧ l = []) ∨ ∃ b o cap, v = .slice (some ⟨b, o, none⟩) l.length cap ∧ ∀ (j : Nat) (r : R), l[j]? = some r → RAt w b (o + j * 4) r
theorem RRow.up {w w' : World} {v : Value} {l : List R} (h : RRow w v l) (hb : Below w.heap.size w w') : RRow w' v l := by
  rcases h with h | ⟨b, o, cap, h1, h2⟩
  · exact .inl h
  · exact .inr ⟨b, o, cap, h1, fun j f hf => (h2 j f hf).up hb⟩
theorem RRow.shape {w : World} {v : Value} {l : List R} (hr : RRow w v l) : ∃ a cap, v = .slice a l.length cap := by
  rcases hr with ⟨a, cap, rfl, rfl⟩ | ⟨b, o, cap, rfl, -⟩
  · exact ⟨_, _, rfl⟩
  · exact ⟨_, _, rfl⟩
theorem RRow.place {w : World} {a : Option Addr} {cap : Nat} {l : List R} (hr : RRow w (.slice a l.length cap) l) (hp : 0 < l.length) : ∃ b o, a = some ⟨b, o, none⟩ ∧ ∀ (j : Nat) (r : R), l[j]? = some r → RAt w b (o + j * 4) r := by
  rcases hr with ⟨_, _, -, rfl⟩ | ⟨b, o, cap', he, hf⟩
  · simp at hp
  · obtain ⟨rfl, rfl⟩ : a = some ⟨b, o, none⟩ ∧ cap = cap' := by cases he; exact ⟨rfl, rfl⟩
    exact ⟨b, o, rfl, hf⟩

theorem Below.gb {w w' : World} (h : Below w.heap.size w w') (row : Option Nat) : w.grownBy w' row := ⟨h.os, h.tape, h.output, h.size, fun k hk _ => h.block k hk⟩
theorem gb_below {w w' : World} (h : w.grownBy w' none) : Below w.heap.size w w' := ⟨h.os, h.tape, h.output, h.size, fun k hk => h.block k hk (by simp)⟩

/-- Are the first n so? -/
def allB (ans : Nat → Bool) : Nat → Bool
  | 0 => true
  | n + 1 => allB ans n && ans n
theorem allB_iff (ans : Nat → Bool) (n : Nat) : allB ans n = true ↔ ∀ k, k < n → ans k = true := by
  induction n with
  | zero => simp [allB]
  | succ n ih =>
    rw [allB, Bool.and_eq_true, ih]
    constructor
    · intro ⟨h1, h2⟩ k hk
      rcases Nat.lt_or_ge k n with h | h
      · exact h1 k h
      · obtain rfl : k = n := by omega
        exact h2
    · exact fun h => ⟨fun k hk => h k (by omega), h n (by omega)⟩
theorem allB_false {ans : Nat → Bool} {n k : Nat} (hk : k < n) (h : ans k = false) : allB ans n = false := by
  cases e : allB ans n with
  | false => rfl
  | true => rw [(allB_iff ans n).1 e k hk] at h; cases h
end Go.Proofs.Ytcmkhppkdbdfdaa
