/- Texts of this seat, 3 in one file. -/
import Derived.Test.YtodcabaihhmhnaaG26
import Derived.Test.YtodcabaihhmhnaaG18
import Derived.Test.YtodcabaihhmhnaaG24
import Derived.Test.YtodcabaihhmhnaaG07
import Derived.Test.YtodcabaihhmhnaaG08
/- Adjust: what it answers. No walk. -/
namespace Go.Proofs.Ytodcabaihhmhnaa
open Go.RowKit

/-- The error's number; the tree. -/
noncomputable def ajE (ax b : Int) (t : T) : Int := if tileB t = true ∧ axB ax = true then (if 10000 < b ∨ b < -10000 ∨ 10000 < atA t.r ax + szA t.r ax + b ∨ szA t.r ax + b < lsT ax t then 7 else 0) else 1
noncomputable def ajT (ax b : Int) (t : T) : T := setT t.r.x t.r.y (adjT ax b t)
def AjSays (ax b : Int) (t : T) (kind : IntKind) (w : World) (e : Ending) (w' : World) : Prop :=
  ∃ d, e = .returned (.tuple #[cval d, .int kind (ajE ax b t)]) ∧ Stands (fun _ => True) w' w.heap.size w'.heap.size d (if ajE ax b t = 0 then ajT ax b t else noT) ∧ Below w.heap.size w w'
theorem aj_err {ax b : Int} {t : T} {kind : IntKind} {w w' : World} {n : Int} (hn : ajE ax b t = n) (h0 : n ≠ 0) (hb : Below w.heap.size w w') : AjSays ax b t kind w (.returned (.tuple #[cval noC, .int kind n])) w' := by
  subst hn
  exact ⟨noC, rfl, fun W' _ _ => by rw [if_neg h0]; exact no_is W', hb⟩
theorem aj_ok {ax b : Int} {t t' : T} {kind : IntKind} {w w' : World} {d : C} (hn : ajE ax b t = 0) (ht : ajT ax b t = t') (hi : Stands (fun _ => True) w' w.heap.size w'.heap.size d t') (hb : Below w.heap.size w w') : AjSays ax b t kind w (.returned (.tuple #[cval d, .int kind 0])) w' := by
  subst ht
  exact ⟨d, by rw [hn], by rw [if_pos hn]; exact hi, hb⟩
theorem aj_arg {ax b : Int} {t : T} (h : ¬ (tileB t = true ∧ axB ax = true)) : ajE ax b t = 1 := if_neg h
theorem aj_do {ax b : Int} {t : T} (h : tileB t = true ∧ axB ax = true) : ajE ax b t = if 10000 < b ∨ b < -10000 ∨ 10000 < atA t.r ax + szA t.r ax + b ∨ szA t.r ax + b < lsT ax t then 7 else 0 := if_pos h
theorem aj_can {ax b : Int} {t : T} (h : ¬ (10000 < b ∨ b < -10000 ∨ 10000 < atA t.r ax + szA t.r ax + b ∨ szA t.r ax + b < lsT ax t)) : canB ax b t := by
  unfold canB gvT; omega
theorem OwnT.stands {w : World} {base : Nat} {c : C} {t : T} {S : List Nat} (h : OwnT w base c t S) : Stands (fun _ => True) w base w.heap.size c t :=
  fun _ _ g => (h.frame fun k hk => g k (h.ge k hk).1 (h.ge k hk).2).is
end Go.Proofs.Ytodcabaihhmhnaa
/- A leaf that goes: the document's answer, in words. No walk. -/
namespace Go.Proofs.Ytodcabaihhmhnaa
open Go.RowKit

/-- What Adjust hands back. -/
noncomputable def adjO (ax b : Int) (t : T) : T := if ajE ax b t = 0 then ajT ax b t else noT
/-- The kids behind it, counted from m: the neighbour (at h) is g, the one at j is gone. -/
def gnL (j h : Int) (g : T) : Nat → List T → List T
  | _, [] => []
  | m, t :: l => (if (m : Int) = h then [g] else if (m : Int) = j then [] else [t]) ++ gnL j h g (m + 1) l
def gnK (j h : Int) (g : T) (m : Nat) (t : T) : List T := if (m : Int) = h then [g] else if (m : Int) = j then [] else [t]
theorem gnL_snoc (j h : Int) (g t : T) (l : List T) : ∀ m, gnL j h g m (l ++ [t]) = gnL j h g m l ++ gnK j h g (m + l.length) t := by
  induction l with
  | nil => intro m; simp [gnL, gnK]
  | cons u l ih =>
    intro m
    simp only [List.cons_append, gnL]
    rw [ih, List.length_cons, List.append_assoc, show m + 1 + l.length = m + (l.length + 1) by omega]
theorem gnL_step {j h : Int} {g t : T} {l : List T} {k : Nat} (hk : l[k]? = some t) : gnL j h g 0 (l.take (k + 1)) = gnL j h g 0 (l.take k) ++ gnK j h g k t := by
  have hj := (List.getElem?_eq_some_iff.1 hk).1
  have h1 : l.take (k + 1) = l.take k ++ [t] := by rw [List.take_add_one, hk]; rfl
  rw [h1, gnL_snoc, List.length_take, Nat.min_eq_left (by omega), Nat.zero_add]
theorem gnL_len (j h : Int) (g : T) (l : List T) : ∀ m, (gnL j h g m l).length ≤ l.length := by
  induction l with
  | nil => intro m; simp [gnL]
  | cons t l ih =>
    intro m
    have := ih (m + 1)
    rw [gnL, List.length_append, List.length_cons]
    split
    · simp only [List.length_cons, List.length_nil]; omega
    · split
      · simp only [List.length_nil]; omega
      · simp only [List.length_cons, List.length_nil]; omega
/-- The cell from which its kid at j has gone. -/
noncomputable def outT (k : Int) (r : R) (id : Int) (ks : List T) (j : Int) : T :=
  match gnL j (heirN j) (adjO (k - 1) (szA (ks.getD j.toNat default).r (k - 1) + 1) (setT 0 0 (ks.getD (heirN j).toNat default))) 0 ks with
  | [x] => x
  | l => .node k r id l
mutual
noncomputable def woT (id : Int) : T → T
  | .node k r i ks => if plN id ks 0 < 0 then .node k r i (woL id ks) else outT k r i ks (plN id ks 0)
noncomputable def woL (id : Int) : List T → List T
  | [] => []
  | t :: l => woT id t :: woL id l
end
theorem woT_eq (id : Int) (t : T) : woT id t = if plN id t.kids 0 < 0 then .node t.k t.r t.id (woL id t.kids) else outT t.k t.r t.id t.kids (plN id t.kids 0) := by cases t; rw [woT]; rfl
theorem woL_append (id : Int) (a b : List T) : woL id (a ++ b) = woL id a ++ woL id b := by
  induction a with
  | nil => simp [woL]
  | cons t a ih => simp only [List.cons_append, woL, ih]
theorem woL_step {id : Int} {l : List T} {k : Nat} {t : T} (h : l[k]? = some t) : woL id (l.take (k + 1)) = woL id (l.take k) ++ [woT id t] := by
  have h1 : l.take (k + 1) = l.take k ++ [t] := by rw [List.take_add_one, h]; rfl
  rw [h1, woL_append]; simp [woL]
theorem woL_len (id : Int) (l : List T) : (woL id l).length = l.length := by
  induction l with
  | nil => simp [woL]
  | cons t l ih => simp [woL, ih]
end Go.Proofs.Ytodcabaihhmhnaa
/- The document's row of the leaves' numbers. -/
namespace Go.Proofs.Ytodcabaihhmhnaa
open Go.RowKit

/-- A row of numbers of the call's own. -/
def OwnI (w : World) (base : Nat) (v : Value) (l : List Int) : Prop := w.ownsRow base 3 1 v l.length (ints l)
theorem OwnI.row {w : World} {base : Nat} {v : Value} {l : List Int} (h : OwnI w base v l) : Row w v (ints l) := Row.of_owns h
theorem OwnI.up {w w' : World} {base : Nat} {v : Value} {l : List Int} (h : OwnI w base v l) (hb : Below w.heap.size w w') : OwnI w' base v l := owns_up h hb
theorem OwnI.lower {w : World} {base base' : Nat} {v : Value} {l : List Int} (h : OwnI w base v l) (hb : base' ≤ base) : OwnI w base' v l := owns_base h hb
theorem OwnI.empty (w : World) (base : Nat) (hb : base ≤ w.heap.size) : OwnI (w.alloc (.cells #[] 3)) base (.slice (some ⟨w.heap.size, 0, none⟩) 0 0) [] := World.ownsRow_made w #[] 0 hb (Nat.zero_le _) (by simp)
theorem OwnI.nil (w : World) (base : Nat) : OwnI w base (.slice none 0 0) [] := World.ownsRow_nil w base _ _

/-- append(own.., numbers...): what is owned then is both; where it lies. -/
theorem wpList_append_ints {w : World} {ops : Array Oper} {rest : List Oper} {o : Oper} {a : Act} {Q : Exit → Act → World → Prop} (hgd : o.guard = none) (s x : Operand)
    (ho : o.op = .call { callee := .builtin .append, args := #[s, x], argTypes := #[37, 37] })
    (base : Nat) (v src : Value) (xs news : List Int) (hs : a.eval s = v) (hown : OwnI w base v xs) (hx : a.eval x = src) (hrow : Row w src (ints news)) (hp : 0 < news.length)
    (h63 : xs.length + news.length ≤ 1954687338211) (w0 : World) (hb : Below base w0 w) (hbase0 : base ≤ w0.heap.size)
    (h : ∀ g cap w', OwnI w' base (.slice (some ⟨g, 0, none⟩) (xs ++ news).length cap) (xs ++ news) → Below base w0 w' → w.grownBy w' v.ownBlock → (v.ownBlock = some g ∨ g = w.heap.size) → wpList Try.prog ops Q rest (a.put o.dst (.slice (some ⟨g, 0, none⟩) (xs ++ news).length cap)) w') : wpList Try.prog ops Q (o :: rest) a w := by
  have hbase : base ≤ w.heap.size := Nat.le_trans hbase0 hb.size
  obtain ⟨i, hi, hz0, hz2, hz3⟩ := info_parts infoI
  obtain ⟨ad', cap, rfl⟩ := row_shape hrow
  obtain ⟨a', cap', he, h0, hc⟩ := hrow
  rw [ints_length] at he
  cases he
  cases ad' with
  | none => have := (h0 rfl).1; rw [← List.length_eq_zero_iff, ints_length] at this; omega
  | some ad =>
    refine wpList_append_lies w hgd s x 37 ho base 3 i (.int .i64 0) 1 8 Try.underlying37 hi hz0 hz2 hz3 rfl (by decide) v xs.length (ints xs) hs hown ad news.length cap (ints news) hx (by rw [ints_length, Nat.mul_one]) (hc ad rfl) (ints_one _) hp (by unfold maxLen; omega) (by omega) hbase w.heap.size rfl ?_
    intro g cap' w' g1 g2 g3 _
    rw [← List.length_append] at g1 ⊢
    exact h g cap' w' (by rw [← ints_append] at g1; exact g1) (hb.grown g2 hbase (fun k hk => (hown.lt k hk).1)) g2 g3

def idsT (t : T) : List Int := ((preT t).filter leafB).map T.id
def IdsSays (l : List Int) (w : World) (e : Ending) (w' : World) : Prop := ∃ v, e = .returned v ∧ OwnI w' w.heap.size v l ∧ Below w.heap.size w w'

end Go.Proofs.Ytodcabaihhmhnaa
