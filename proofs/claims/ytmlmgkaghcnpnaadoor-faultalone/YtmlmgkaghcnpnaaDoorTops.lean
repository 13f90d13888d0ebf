/- Errors that were made one by one, joined, and put in words: what is told of them. -/
import Derived.Test.YtmlmgkaghcnpnaaDoorLawIs
import Derived.Test.YtmlmgkaghcnpnaaDoorRefC
namespace Go.Proofs.YtmlmgkaghcnpnaaDoor
open Go.RowKit

/-- An error in these words, a fault of these at the bottom. -/
def OneErr (w : World) (v : Value) (f : FD) : Prop := ∃ bot, ErrOf w v ((rwords f).map Value.string) bot ∧ IsFault w bot f.1 f.2.1
theorem OneErr.up {w w' : World} {v : Value} {f : FD} (h : OneErr w v f) (hb : Below w.heap.size w w') : OneErr w' v f := by
  obtain ⟨bot, h1, h2⟩ := h
  exact ⟨bot, h1.up hb, h2.up hb⟩
theorem OneErr.iface {w : World} {v : Value} {f : FD} (h : OneErr w v f) : ∃ t x, v = .iface t x := by
  obtain ⟨bot, h1, h2⟩ := h
  exact tells_iface h1 h2.tells
/-- What was made of a fault in words. -/
def MadeOf (w : World) (v : Value) (f : FD) : Prop := (f.1 = 0 ∧ v = .nilIface) ∨ (¬ f.1 = 0 ∧ OneErr w v f)
theorem MadeOf.up {w w' : World} {v : Value} {f : FD} (h : MadeOf w v f) (hb : Below w.heap.size w w') : MadeOf w' v f := by
  rcases h with h | ⟨h1, h2⟩
  · exact .inl h
  · exact .inr ⟨h1, h2.up hb⟩
inductive Pairs (p : Value → FD → Prop) : List Value → List FD → Prop
  | nil : Pairs p [] []
  | cons {v : Value} {f : FD} {vs : List Value} {fs : List FD} : p v f → Pairs p vs fs → Pairs p (v :: vs) (f :: fs)
theorem Pairs.snoc {p : Value → FD → Prop} {vs : List Value} {fs : List FD} {v : Value} {f : FD} (h : Pairs p vs fs) (hv : p v f) : Pairs p (vs ++ [v]) (fs ++ [f]) := by
  induction h with
  | nil => exact .cons hv .nil
  | cons h1 _ ih => exact .cons h1 ih
theorem Pairs.imp {p q : Value → FD → Prop} {vs : List Value} {fs : List FD} (h : Pairs p vs fs) (hi : ∀ v f, p v f → q v f) : Pairs q vs fs := by
  induction h with
  | nil => exact .nil
  | cons h1 _ ih => exact .cons (hi _ _ h1) ih
theorem Pairs.length {p : Value → FD → Prop} {vs : List Value} {fs : List FD} (h : Pairs p vs fs) : vs.length = fs.length := by
  induction h with
  | nil => rfl
  | cons _ _ ih => simp [ih]
theorem Pairs.at {p : Value → FD → Prop} {vs : List Value} {fs : List FD} (h : Pairs p vs fs) : ∀ (i : Nat) (v : Value) (f : FD), vs[i]? = some v → fs[i]? = some f → p v f := by
  induction h with
  | nil => intro i v f hv; simp at hv
  | cons h1 _ ih =>
    intro i v f hv hf
    cases i with
    | zero => simp at hv hf; subst hv; subst hf; exact h1
    | succ i => exact ih i v f (by simpa using hv) (by simpa using hf)

def nz (f : FD) : Bool := f.1 != 0
theorem mades_filter {w : World} {vs : List Value} {fs : List FD} (h : Pairs (MadeOf w) vs fs) : Pairs (OneErr w) (vs.filter isErr) (fs.filter nz) := by
  induction h with
  | nil => exact .nil
  | @cons v f vs fs h1 _ ih =>
    rcases h1 with ⟨h0, rfl⟩ | ⟨h0, h1⟩
    · have e1 : nz f = false := by simp [nz, h0]
      rw [List.filter_cons_of_neg (by simp [isErr]), List.filter_cons_of_neg (by simp [e1])]
      exact ih
    · have e1 : nz f = true := by simp [nz, h0]
      obtain ⟨t, x, rfl⟩ := h1.iface
      rw [List.filter_cons_of_pos (by simp [isErr]), List.filter_cons_of_pos e1]
      exact .cons h1 ih
theorem mades_shape {w : World} {vs : List Value} {fs : List FD} (h : Pairs (MadeOf w) vs fs) : ∀ u ∈ vs, u = .nilIface ∨ ∃ t y, u = .iface t y := by
  induction h with
  | nil => intro u hu; simp at hu
  | cons h1 _ ih =>
    intro u hu
    rcases List.mem_cons.1 hu with rfl | hu
    · rcases h1 with ⟨-, h⟩ | ⟨-, h⟩
      · exact .inl h
      · exact .inr h.iface
    · exact ih u hu

theorem first_none (fs : List FD) (n : Nat) (h : fs.filter nz = []) : firstF fs n = -1 := by
  induction fs generalizing n with
  | nil => rfl
  | cons f r ih =>
    cases hn : nz f with
    | true => rw [List.filter_cons_of_pos hn] at h; cases h
    | false =>
      rw [List.filter_cons_of_neg (by simp [hn])] at h
      have h0 : f.1 = 0 := by simpa [nz] using hn
      rw [firstF, if_pos h0]
      exact ih (n + 1) h
theorem first_some (fs : List FD) (n : Nat) (f : FD) (r : List FD) (h : fs.filter nz = f :: r) : ∃ k : Nat, firstF fs n = ((n + k : Nat) : Int) ∧ fs[k]? = some f := by
  induction fs generalizing n with
  | nil => cases h
  | cons g s ih =>
    cases hn : nz g with
    | true =>
      rw [List.filter_cons_of_pos hn] at h
      cases h
      have h0 : ¬ f.1 = 0 := by simpa [nz] using hn
      exact ⟨0, by rw [firstF, if_neg h0]; simp, rfl⟩
    | false =>
      rw [List.filter_cons_of_neg (by simp [hn])] at h
      have h0 : g.1 = 0 := by simpa [nz] using hn
      obtain ⟨k, h1, h2⟩ := ih (n + 1) h
      refine ⟨k + 1, ?_, by simpa using h2⟩
      rw [firstF, if_pos h0, h1]
      congr 1
      omega
theorem many_len (fs : List FD) : manyF fs = (fs.filter nz).length := List.countP_eq_length_filter

/-- An error of one fault, or of several that were joined: the first one's number and place, the words, all numbers. -/
def Top (w : World) (v : Value) (n k : Int) (W : List Value) (es : List Int) : Prop :=
  (∃ bot, ErrOf w v W bot ∧ IsFault w bot n k ∧ es = [n]) ∨ (∃ r : List (Int × Int), IsMany w v W ((n, k) :: r) ∧ es = n :: r.map (·.1))
theorem Top.up {w w' : World} {v : Value} {n k : Int} {W : List Value} {es : List Int} (h : Top w v n k W es) (hb : Below w.heap.size w w') : Top w' v n k W es := by
  rcases h with ⟨bot, h1, h2, h3⟩ | ⟨r, h1, h2⟩
  · exact .inl ⟨bot, h1.up hb, h2.up hb, h3⟩
  · exact .inr ⟨r, h1.up hb, h2⟩
theorem Top.iface {w : World} {v : Value} {n k : Int} {W : List Value} {es : List Int} (h : Top w v n k W es) : ∃ t x, v = .iface t x := by
  rcases h with ⟨bot, h1, h2, -⟩ | ⟨r, ⟨b, sl, xs, h1, -⟩, -⟩
  · exact tells_iface h1 h2.tells
  · exact h1.iface

theorem top_code (v : Value) (n k : Int) (W : List Value) (es : List Int) (w : World) (h : Top w v n k W es) (hg : EtLaid w) :
    Calls Tryd.prog 11 #[v] w fun e w' => e = .returned (.int .i64 n) ∧ Below w.heap.size w w' := by
  rcases h with ⟨bot, h1, h2, -⟩ | ⟨r, h1, -⟩
  · exact code_plain v bot W n w h1 h2.tells hg
  · exact code_many v W (n, k) r w h1 hg
theorem top_at (v : Value) (n k : Int) (W : List Value) (es : List Int) (w : World) (h : Top w v n k W es) (hg : EtLaid w) :
    Calls Tryd.prog 10 #[v] w fun e w' => e = .returned (.tuple #[.int .i64 k, .bool true]) ∧ Below w.heap.size w w' := by
  rcases h with ⟨bot, h1, h2, -⟩ | ⟨r, h1, -⟩
  · exact at_fault v bot W n k w h1 h2 hg
  · exact at_many v W (n, k) r w h1 hg
theorem top_words (v : Value) (n k : Int) (W : List Value) (es : List Int) (w : World) (h : Top w v n k W es) (hlen : W.length ≤ 100000) :
    Calls Tryd.prog 13 #[v] w fun e w' => ∃ r, e = .returned r ∧ Row w' r W ∧ Below w.heap.size w w' := by
  rcases h with ⟨bot, h1, h2, -⟩ | ⟨r, ⟨b, sl, xs, h1, -⟩, -⟩
  · exact words_any v W bot w h1 h2.isBot hlen
  · exact words_any v W _ w h1 (.several b) hlen
theorem top_is (v : Value) (n k : Int) (W : List Value) (es : List Int) (ms : List Int) (sl : Value) (w : World) (h : Top w v n k W es) (hr : Row w sl (ms.map (Value.int .i64))) (hlen : ms.length ≤ 100000) :
    Calls Tryd.prog 19 #[v, sl] w fun e w' => e = .returned (.bool ((es.map (fun n => asks n ms)).any id)) ∧ Below w.heap.size w w' := by
  rcases h with ⟨bot, h1, h2, rfl⟩ | ⟨r, h1, rfl⟩
  · have := is_plain v bot W n ms sl w h1 h2.tells hr hlen
    simpa using this
  · have := is_many v W ((n, k) :: r) ms sl w h1 hr hlen
    have e : ((n, k) :: r).map (fun f => asks f.1 ms) = (n :: r.map (·.1)).map (fun n => asks n ms) := by simp
    rw [e] at this
    exact this

/-- Put in words once more. -/
theorem top_in (v sl : Value) (n k : Int) (W us : List Value) (es : List Int) (w : World) (h : Top w v n k W es) (hr : Row w sl us) (h1 : ∀ u ∈ us, u.oneCell' = true) (hlen : us.length ≤ 100000) :
    Calls Tryd.prog 15 #[v, sl] w fun e w' => ∃ v', e = .returned v' ∧ Top w' v' n k (us ++ W) es ∧ Below w.heap.size w w' := by
  rcases h with ⟨bot, g1, g2, g3⟩ | ⟨r, ⟨b, s, xs, g1, g2, g3, g4, g5, g6⟩, ge⟩
  · have hF := g2
    obtain ⟨bb, rfl, -, -⟩ := g2
    refine (in_any v sl W us _ _ w g1 hr h1 hlen).mono ?_
    rintro e w' ⟨v', rfl, hE, hb⟩
    exact ⟨v', rfl, .inl ⟨_, hE, hF.up hb, g3⟩, hb⟩
  · refine (in_any v sl W us _ _ w g1 hr h1 hlen).mono ?_
    rintro e w' ⟨v', rfl, hE, hb⟩
    refine ⟨v', rfl, .inr ⟨r, ⟨b, s, xs, hE, (hb.cell (lt_of_cell g2)).trans g2, g3.up hb, g4, g5, fun i x f hx hf => ?_⟩, ge⟩, hb⟩
    obtain ⟨us', bot, q1, q2⟩ := g6 i x f hx hf
    exact ⟨us', bot, q1.up hb, q2.up hb⟩

/-- All of several, joined. -/
theorem top_join (sl : Value) (vs : List Value) (fs : List FD) (f : FD) (r : List FD) (w : World) (hr : Row w sl vs) (hm : Pairs (MadeOf w) vs fs) (hf : fs.filter nz = f :: r) (hlen : vs.length ≤ 1000) :
    Calls Tryd.prog 16 #[sl] w fun e w' => ∃ v, e = .returned v ∧ Top w' v f.1 f.2.1 (if r = [] then (rwords f).map Value.string else []) ((fs.filter nz).map (·.1)) ∧ Below w.heap.size w w' := by
  have hp := mades_filter hm
  refine (join_any sl vs w hr (mades_shape hm) (by omega)).mono ?_
  rintro e w' ⟨v, rfl, hb, -, h1, h2⟩
  refine ⟨v, rfl, ?_, hb⟩
  rw [hf] at hp ⊢
  generalize hxs : vs.filter isErr = xs at hp h1 h2
  have hxl : xs.length ≤ 1000 := by rw [← hxs]; exact Nat.le_trans (List.length_filter_le _ _) hlen
  cases r with
  | nil =>
    cases hp with
    | @cons x _ ys _ hx hy =>
      cases hy
      obtain rfl := h1 x rfl
      obtain ⟨bot, q1, q2⟩ := hx
      exact .inl ⟨bot, by simpa using q1.up hb, q2.up hb, rfl⟩
  | cons g r =>
    have hlx := hp.length
    obtain ⟨b, s, rfl, hc, hrow⟩ := h2 (by rw [hlx]; simp)
    refine .inr ⟨(g :: r).map (fun f => (f.1, f.2.1)), ⟨b, s, xs, ⟨[], rfl, by simp⟩, hc, hrow, by simpa using hlx, hxl, fun i x q hx hq => ?_⟩, by simp⟩
    have hq' : ((f :: g :: r).map (fun f => (f.1, f.2.1)))[i]? = some q := hq
    rw [List.getElem?_map, Option.map_eq_some_iff] at hq'
    obtain ⟨f', hf', rfl⟩ := hq'
    obtain ⟨bot, q1, q2⟩ := hp.at i x f' hx hf'
    exact ⟨_, bot, q1.up hb, q2.up hb⟩

theorem has_eq (fs : List FD) (n : Int) : hasF fs n = (((fs.filter nz).map (·.1)).map (fun m => asks m [n])).any id := by
  induction fs with
  | nil => rfl
  | cons f r ih =>
    have e : hasF (f :: r) n = (decide (f.1 = n ∧ n ≠ 0) || hasF r n) := rfl
    rw [e, ih]
    cases hz : nz f with
    | true =>
      have h0 : ¬ f.1 = 0 := by simpa [nz] using hz
      rw [List.filter_cons_of_pos hz]
      simp only [List.map_cons, List.any_cons, id_eq]
      congr 1
      by_cases h1 : f.1 = n
      · simp [asks, h1, show n ≠ 0 from fun h => h0 (h1.trans h)]
      · simp [asks, h1]
    | false =>
      have h0 : f.1 = 0 := by simpa [nz] using hz
      rw [List.filter_cons_of_neg (by simp [hz])]
      have : decide (f.1 = n ∧ n ≠ 0) = false := by
        simp only [decide_eq_false_iff_not]
        rintro ⟨h1, h2⟩
        exact h2 (h1.symm.trans h0)
      rw [this, Bool.false_or]
theorem asks_none (es : List Int) : (es.map (fun n => asks n [])).any id = false := by
  induction es with
  | nil => rfl
  | cons a r ih => simp only [List.map_cons, List.any_cons, ih]; rfl
end Go.Proofs.YtmlmgkaghcnpnaaDoor
