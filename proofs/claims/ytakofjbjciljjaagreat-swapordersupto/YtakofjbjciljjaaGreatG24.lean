/- Texts of this seat, 3 in one file. -/
import Derived.Test.YtakofjbjciljjaaGreatG06
import Derived.Test.YtakofjbjciljjaaGreatG08
import Derived.Test.YtakofjbjciljjaaGreatG23
import Derived.Test.YtakofjbjciljjaaGreatG12
/- The first pane with a number: the document's walk, the program's closure. -/
namespace Go.Proofs.YtakofjbjciljjaaGreat
open Go.RowKit

def idxP (l : List Pn) (id : Int) : Option Nat := l.findIdx? (fun p => decide (p.id = id))
def posP (o : Option Nat) : Int := match o with | some i => (i : Int) | none => -1
theorem idx_some {l : List Pn} {id : Int} {k : Nat} {p : Pn} (hno : ∀ (j : Nat) (q : Pn), j < k → l[j]? = some q → q.id ≠ id) (hk : l[k]? = some p) (hp : p.id = id) : idxP l id = some k := by
  unfold idxP
  rw [List.findIdx?_eq_some_iff_getElem]
  obtain ⟨hlt, rfl⟩ := List.getElem?_eq_some_iff.1 hk
  exact ⟨hlt, by simpa using hp, fun j hj => by simpa using hno j _ hj (List.getElem?_eq_getElem (by omega))⟩
theorem idx_none {l : List Pn} {id : Int} (hno : ∀ (j : Nat) (q : Pn), j < l.length → l[j]? = some q → q.id ≠ id) : idxP l id = none := by
  unfold idxP
  rw [List.findIdx?_eq_none_iff]
  intro q hq
  obtain ⟨j, hj, rfl⟩ := List.getElem_of_mem hq
  simpa using hno j _ hj (List.getElem?_eq_getElem hj)
theorem idx_at {l : List Pn} {id : Int} {k : Nat} (h : idxP l id = some k) : ∃ p, l[k]? = some p ∧ p.id = id ∧ ∀ (j : Nat) (q : Pn), j < k → l[j]? = some q → q.id ≠ id := by
  unfold idxP at h
  rw [List.findIdx?_eq_some_iff_getElem] at h
  obtain ⟨hlt, h1, h2⟩ := h
  refine ⟨l[k], List.getElem?_eq_getElem hlt, by simpa using h1, fun j q hj hq => ?_⟩
  obtain ⟨hlt', rfl⟩ := List.getElem?_eq_some_iff.1 hq
  simpa using h2 j hj
theorem idx_gone {l : List Pn} {id : Int} (h : idxP l id = none) : ∀ q ∈ l, q.id ≠ id := by
  unfold idxP at h
  rw [List.findIdx?_eq_none_iff] at h
  intro q hq
  simpa using h q hq

end Go.Proofs.YtakofjbjciljjaaGreat
/- The pane with a number; the one so many places behind it: the program's answers. -/
namespace Go.Proofs.YtakofjbjciljjaaGreat
open Go.RowKit

abbrev put5 (w : World) (b : Nat) (p : Pn) : World := ((((w.setCell ⟨b, 0, none⟩ (.int .i64 p.id)).setCell ⟨b, 1, none⟩ (.int .i64 p.r.x)).setCell ⟨b, 2, none⟩ (.int .i64 p.r.y)).setCell ⟨b, 3, none⟩ (.int .i64 p.r.w)).setCell ⟨b, 4, none⟩ (.int .i64 p.r.h)
theorem below_put5 {B : Nat} {w w' : World} (h : Below B w w') {b : Nat} (hb : B ≤ b) (p : Pn) : Below B w (put5 w' b p) := ((((h.setCell hb _).setCell hb _).setCell hb _).setCell hb _).setCell hb _
/-- The pane, and whether there is one. -/
def paneOf (l : List Pn) (id : Int) : Pn × Bool := match idxP l id with | some i => (l.getD i zP, true) | none => (zP, false)
theorem paneOf_some {l : List Pn} {id : Int} {i : Nat} {p : Pn} (h : idxP l id = some i) (hp : l[i]? = some p) : paneOf l id = (p, true) := by
  unfold paneOf; rw [h]; simp [List.getD, hp]
theorem paneOf_none {l : List Pn} {id : Int} (h : idxP l id = none) : paneOf l id = (zP, false) := by
  unfold paneOf; rw [h]

/-- The number of the pane so many places behind. -/
def nextP (l : List Pn) (id by_ : Int) : Int × Bool := match idxP l id with | some i => ((l.getD (((i : Int) + by_) % (l.length : Int)).toNat zP).id, true) | none => (0, false)
theorem nextP_none {l : List Pn} {id by_ : Int} (h : idxP l id = none) : nextP l id by_ = (0, false) := by unfold nextP; rw [h]
theorem nextP_some {l : List Pn} {id by_ : Int} {i j : Nat} {q : Pn} (h : idxP l id = some i) (hj : ((i : Int) + by_) % (l.length : Int) = j) (hq : l[j]? = some q) : nextP l id by_ = (q.id, true) := by
  unfold nextP; rw [h]; simp [List.getD, hj, hq]
theorem round_at {n : Nat} (hn : 0 < n) (x : Int) : ∃ j : Nat, x % (n : Int) = j ∧ j < n := by
  have h1 := Int.emod_nonneg x (show (n : Int) ≠ 0 by omega)
  have h2 := Int.emod_lt_of_pos x (show (0 : Int) < n by omega)
  exact ⟨(x % (n : Int)).toNat, by omega, by omega⟩
theorem tmod_round {n : Nat} (hn : 0 < n) (x : Int) : -(n : Int) < x.tmod n ∧ x.tmod n < n ∧ ∀ i : Int, (i + x.tmod n + n) % (n : Int) = (i + x) % n := by
  have h1 := Int.tmod_lt_of_pos x (show (0 : Int) < n by omega)
  have h2 : -(n : Int) < x.tmod n := by
    have := Int.tmod_lt_of_pos (-x) (show (0 : Int) < n by omega)
    rw [Int.neg_tmod] at this; omega
  refine ⟨h2, h1, fun i => ?_⟩
  have h3 := Int.mul_tdiv_add_tmod x n
  rw [Int.add_emod_right]
  conv => rhs; rw [← h3]
  rw [show i + ((n : Int) * x.tdiv n + x.tmod n) = i + x.tmod n + n * x.tdiv n by omega, Int.add_mul_emod_self_left]

end Go.Proofs.YtakofjbjciljjaaGreat
/- The pane so many places behind: the document's walk, step by step. -/
namespace Go.Proofs.YtakofjbjciljjaaGreat
open Go.RowKit

end Go.Proofs.YtakofjbjciljjaaGreat
