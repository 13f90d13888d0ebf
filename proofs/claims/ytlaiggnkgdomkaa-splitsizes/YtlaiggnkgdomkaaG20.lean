/- Texts of this seat, 3 in one file. -/
import Derived.Test.YtlaiggnkgdomkaaG14
import Derived.Test.YtlaiggnkgdomkaaG19
import Derived.BigQuiet
import Derived.Deep.QuietTactic
import Derived.Test.YtlaiggnkgdomkaaG18
import Derived.Test.YtlaiggnkgdomkaaG17
/- The document's answer: does a cell tile, and its lines. -/
namespace Go.Proofs.Ytlaiggnkgdomkaa
open Go.RowKit

def rsizesT (t : T) : List Int := if t.k = 2 then wsT t else hsT t
theorem rs_len (t : T) : (rsizesT t).length = t.kids.length := by unfold rsizesT; split; exact ws_len t; exact hs_len t
def pickR (b : Bool) (r : R) : Int := if b = true then r.w else r.h
theorem rs_step {t u : T} {k : Nat} (h : t.kids[k]? = some u) : (rsizesT t).take (k + 1) = (rsizesT t).take k ++ [pickR (decide (t.k = 2)) u.r] := by
  unfold rsizesT pickR
  by_cases h2 : t.k = 2
  · rw [if_pos h2, ws_step h]; simp [h2]
  · rw [if_neg h2, hs_step h]; simp [h2]

end Go.Proofs.Ytlaiggnkgdomkaa
/- The document's answer: does a cell tile, and its lines (its walk). -/
namespace Go.Proofs.Ytlaiggnkgdomkaa
open Go.RowKit

theorem rs_is {t : T} (hk : t.k = 2 ∨ t.k = 3) : rsizesT t = sizesT t ∧ axT t = t.k - 1 := by
  unfold rsizesT sizesT axT
  rcases hk with h | h <;> rw [h] <;> simp
theorem parts_len (r : R) (ax : Int) (ms : List Int) : (cutParts r ax ms true).length = ms.length := by
  simp only [cutParts]; split <;> rw [partsL_length] <;> omega
theorem bel_drewN {B : Nat} {w w' : World} {n : Nat} (h : Below B w w') : Below B w (w'.drewN n) := ⟨h.os, h.tape, h.output, h.size, h.block⟩
theorem one_no {t : T} (h1 : ¬ t.k = 1) (h : ¬ cutP t.r (axT t) (sizesT t)) : ¬ fitsP t := by
  rintro (h2 | ⟨h2, -⟩)
  · exact h1 h2
  · exact h h2
theorem one_diff {t u : T} {k : Nat} {q : R} (h1 : ¬ t.k = 1) (hu : t.kids[k]? = some u) (hq : (cutParts t.r (axT t) (sizesT t) true)[k]? = some q) (hne : ¬ q = u.r) : ¬ fitsP t := by
  rintro (h2 | ⟨-, h2⟩)
  · exact h1 h2
  · rw [← h2, List.getElem?_map, hu] at hq
    simp at hq
    exact hne hq.symm
theorem one_all {t : T} (hc : cutP t.r (axT t) (sizesT t)) (h : ∀ (k : Nat) (u : T) (q : R), t.kids[k]? = some u → (cutParts t.r (axT t) (sizesT t) true)[k]? = some q → q = u.r) : fitsP t := by
  refine .inr ⟨hc, of_decide_eq_true (eqR_yes (by rw [parts_len, sizes_len]) fun k u q hu hq => (h k u q hu hq).symm)⟩

end Go.Proofs.Ytlaiggnkgdomkaa
/- The document's answer: does a tree tile, its lines, and which cell doesn't. -/
namespace Go.Proofs.Ytlaiggnkgdomkaa
open Go.RowKit

theorem well_kind {t : T} (h : wellT t = true) : t.k = 1 ∨ t.k = 2 ∨ t.k = 3 := by
  unfold wellT wellB at h
  simp only [Bool.and_eq_true, Bool.or_eq_true, decide_eq_true_eq] at h
  omega
theorem rmay_well {t u : T} (h : rmayT t = true) (hu : u ∈ preT t) : wellT u = true := by
  unfold rmayT at h
  rw [Bool.and_eq_true] at h
  exact List.all_eq_true.1 h.1 u hu
theorem cutLines_len (r : R) (ax : Int) (ms : List Int) (b : Bool) : (cutLines r ax ms b).length ≤ ms.length := by
  cases b with
  | false => simp [cutLines]
  | true => simp only [cutLines]; split <;> rw [linesL_length] <;> omega
theorem linesT_len (t : T) : (linesT t).length ≤ t.kids.length := by
  unfold linesT
  split
  · simp
  · have := cutLines_len t.r (axT t) (sizesT t) true
    rw [sizes_len] at this
    exact this
def allLines (l : List T) : List R := l.flatMap linesT
theorem allLines_step {l : List T} {k : Nat} {u : T} (h : l[k]? = some u) : allLines (l.take (k + 1)) = allLines (l.take k) ++ linesT u := by
  unfold allLines; rw [List.take_add_one, h]; simp
mutual
theorem pre_kids : ∀ (t u : T), u ∈ preT t → u.kids.length ≤ sz t
  | .node k r i l, u, h => by
    rw [preT] at h
    rw [sz]
    rcases List.mem_cons.1 h with rfl | h
    · have := szL_len l; show l.length ≤ _; omega
    · have := preL_kids l u h; omega
theorem preL_kids : ∀ (l : List T) (u : T), u ∈ preL l → u.kids.length ≤ szL l
  | [], u, h => by rw [preL] at h; cases h
  | t :: l, u, h => by
    rw [preL] at h
    rw [szL]
    rcases List.mem_append.1 h with h | h
    · have := pre_kids t u h; omega
    · have := preL_kids l u h; omega
end
theorem allLines_len {l : List T} {n : Nat} (h : ∀ u ∈ l, u.kids.length ≤ n) : (allLines l).length ≤ l.length * n := by
  induction l with
  | nil => simp [allLines]
  | cons t l ih =>
    have h1 := ih fun u hu => h u (List.mem_cons_of_mem _ hu)
    have h2 := h t (List.mem_cons_self ..)
    have h3 := linesT_len t
    unfold allLines at *
    rw [List.flatMap_cons, List.length_append, List.length_cons, Nat.add_mul]
    omega
theorem Owns.empty (w : World) (base : Nat) (hb : base ≤ w.heap.size) : Owns (w.alloc (.cells #[] 28)) base (.slice (some ⟨w.heap.size, 0, none⟩) 0 0) [] := World.ownsRow_made w #[] 0 hb (Nat.zero_le _) (by simp)

def RCheckSays (t : T) (w : World) (e : Ending) (w' : World) : Prop := ∃ (v : Value) (no pl : Int) (l : List R), e = .returned (.tuple #[v, .int .i64 no, .int .i64 pl]) ∧ RRow w' v l ∧ Below w.heap.size w w' ∧
  ((rmayT t = false ∧ no = 1 ∧ pl = 0 ∧ l = []) ∨ (rmayT t = true ∧ (preT t).all fitB = true ∧ no = 0 ∧ pl = 0 ∧ l = allLines (preT t)) ∨ (rmayT t = true ∧ (preT t).all fitB = false ∧ no = 5 ∧ pl = ((preT t).findIdx fun u => !fitB u : Nat) ∧ l = []))

theorem idx_first {l : List T} {k : Nat} {u : T} (hu : l[k]? = some u) (hf : fitB u = false) (h : ∀ (j : Nat) (x : T), j < k → l[j]? = some x → fitB x = true) : l.findIdx (fun u => !fitB u) = k ∧ l.all fitB = false := by
  have hk := (List.getElem?_eq_some_iff.1 hu).1
  have hue : l[k] = u := (List.getElem?_eq_some_iff.1 hu).2
  constructor
  · rw [List.findIdx_eq hk]
    refine ⟨by rw [hue, hf]; rfl, fun j hj => ?_⟩
    have := h j l[j] hj (List.getElem?_eq_getElem (by omega))
    rw [this]; rfl
  · cases e : l.all fitB with
    | false => rfl
    | true => rw [List.all_eq_true.1 e u (List.mem_of_getElem? hu)] at hf; cases hf

end Go.Proofs.Ytlaiggnkgdomkaa
