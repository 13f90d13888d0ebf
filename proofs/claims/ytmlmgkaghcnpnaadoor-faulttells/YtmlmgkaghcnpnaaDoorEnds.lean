/- What Code, At and Is answer of the errors that the laws make. -/
import Derived.Test.YtmlmgkaghcnpnaaDoorCode
import Derived.Test.YtmlmgkaghcnpnaaDoorJoin
namespace Go.Proofs.YtmlmgkaghcnpnaaDoor
open Go.RowKit

theorem IsFault.tells {w : World} {bot : Value} {n k : Int} (h : IsFault w bot n k) : Tells w bot n := by
  obtain ⟨b, rfl, h0, -⟩ := h
  exact .inr ⟨b, rfl, h0⟩
theorem IsFault.isBot {w : World} {bot : Value} {n k : Int} (h : IsFault w bot n k) : Bot w bot := by
  obtain ⟨b, rfl, h0, h1⟩ := h
  exact .fault b n k h0 h1
theorem tells_iface {w : World} {v bot : Value} {ws : List Value} {n : Int} (he : ErrOf w v ws bot) (h : Tells w bot n) : ∃ t x, v = .iface t x := by
  rcases h with rfl | ⟨b, rfl, h⟩
  · exact he.iface
  · exact he.iface

theorem code_plain (v bot : Value) (ws : List Value) (n : Int) (w : World) (he : ErrOf w v ws bot) (ht : Tells w bot n) (hg : EtLaid w) :
    Calls Tryd.prog 11 #[v] w fun e w' => e = .returned (.int .i64 n) ∧ Below w.heap.size w w' := by
  obtain ⟨tv, xv, rfl⟩ := tells_iface he ht
  refine code_of tv xv n w fun t w1 hb hc hf => ?_
  exact (some_bot 25 enters25 (.pointer (some t)) _ bot ws w1 true _ (he.up hb) ht.plain (code_does bot n t _ w1 (ht.up hb) (hg.up hb) hc hf)).mono fun _ _ h => ⟨h.1, h.2.1 rfl⟩

theorem at_fault (v bot : Value) (ws : List Value) (n k : Int) (w : World) (he : ErrOf w v ws bot) (ht : IsFault w bot n k) (hg : EtLaid w) :
    Calls Tryd.prog 10 #[v] w fun e w' => e = .returned (.tuple #[.int .i64 k, .bool true]) ∧ Below w.heap.size w w' := by
  obtain ⟨tv, xv, rfl⟩ := tells_iface he ht.tells
  have hp := ht.tells.plain
  obtain ⟨b, rfl, h0, h1⟩ := ht
  refine at_some tv xv b k w h1 fun t w1 hb hc hf => ?_
  exact (some_bot 23 enters23 (.pointer (some t)) _ _ ws w1 true _ (he.up hb) hp (at_does_fault b t _ w1 (hg.up hb) hc hf)).mono fun _ _ h => ⟨h.1, h.2.1 rfl⟩

theorem at_errno (v : Value) (ws : List Value) (n : Int) (w : World) (he : ErrOf w v ws (.iface 33 (.int .i64 n))) (hg : EtLaid w) :
    Calls Tryd.prog 10 #[v] w fun e w' => e = .returned (.tuple #[.int .i64 0, .bool false]) ∧ Below w.heap.size w w' := by
  refine at_none v w (.inr he.iface) fun t w1 hb => ?_
  exact (some_bot 23 enters23 (.pointer (some t)) _ _ ws w1 false (fun _ => True) (he.up hb) (.inl ⟨n, rfl⟩) (at_does_errno n t w1 _ (hg.up hb))).mono fun _ _ h => ⟨h.1, h.2.2 rfl⟩

theorem at_nil (w : World) : Calls Tryd.prog 10 #[.nilIface] w fun e w' => e = .returned (.tuple #[.int .i64 0, .bool false]) ∧ Below w.heap.size w w' :=
  at_none .nilIface w (.inl rfl) fun _ w1 _ => some_nil _ w1 ⟨_, _, rfl⟩

theorem is_nil (sl : Value) (w : World) (hsl : ∃ a n c, sl = .slice a n c) : Calls Tryd.prog 19 #[.nilIface, sl] w fun e w' => e = .returned (.bool false) ∧ Below w.heap.size w w' :=
  is_of .nilIface sl false w (.inl rfl) hsl fun _ w1 _ _ => some_nil _ w1 ⟨_, _, rfl⟩

def asks (n : Int) (ms : List Int) : Bool := (ms.map (fun m => decide (n = m))).any id

theorem is_plain (v bot : Value) (ws : List Value) (n : Int) (ms : List Int) (sl : Value) (w : World) (he : ErrOf w v ws bot) (ht : Tells w bot n) (hr : Row w sl (ms.map (Value.int .i64))) (hlen : ms.length ≤ 100000) :
    Calls Tryd.prog 19 #[v, sl] w fun e w' => e = .returned (.bool (asks n ms)) ∧ Below w.heap.size w w' := by
  have hsl : ∃ a n c, sl = .slice a n c := by obtain ⟨a, c, rfl, -, -⟩ := hr; exact ⟨_, _, _, rfl⟩
  refine is_of v sl (asks n ms) w (.inr (tells_iface he ht)) hsl fun t w1 hb hc => ?_
  refine (some_bot 28 enters28 (.pointer (some t)) _ bot ws w1 (asks n ms) _ (he.up hb) ht.plain (is_does bot n ms t sl w1 (ht.up hb) hc (hr.up hb) hlen)).mono ?_
  rintro e w' ⟨h1, h2, h3⟩
  refine ⟨h1, ?_⟩
  cases h : asks n ms with
  | true => exact h2 h
  | false => exact h3 h

/-- Several that were joined, in these words: each is a fault in words of its own. -/
def IsMany (w : World) (v : Value) (ws : List Value) (fs : List (Int × Int)) : Prop :=
  ∃ b sl xs, ErrOf w v ws (.iface 66 (.pointer (some ⟨b, 0, none⟩))) ∧ w.cell? ⟨b, 0, none⟩ = some sl ∧ Row w sl xs ∧ xs.length = fs.length ∧ xs.length ≤ 1000 ∧
    ∀ (i : Nat) (x : Value) (f : Int × Int), xs[i]? = some x → fs[i]? = some f → ∃ us bot, ErrOf w x us bot ∧ IsFault w bot f.1 f.2
theorem IsMany.up {w w' : World} {v : Value} {ws : List Value} {fs : List (Int × Int)} (h : IsMany w v ws fs) (hb : Below w.heap.size w w') : IsMany w' v ws fs := by
  obtain ⟨b, sl, xs, h1, h2, h3, h4, h5, h6⟩ := h
  refine ⟨b, sl, xs, h1.up hb, (hb.cell (lt_of_cell h2)).trans h2, h3.up hb, h4, h5, fun i x f hx hf => ?_⟩
  obtain ⟨us, bot, g1, g2⟩ := h6 i x f hx hf
  exact ⟨us, bot, g1.up hb, g2.up hb⟩
theorem IsMany.shapes {w : World} {xs : List Value} {fs : List (Int × Int)} (hl : xs.length = fs.length) (h6 : ∀ (i : Nat) (x : Value) (f : Int × Int), xs[i]? = some x → fs[i]? = some f → ∃ us bot, ErrOf w x us bot ∧ IsFault w bot f.1 f.2) : ∀ u ∈ xs, ∃ t y, u = .iface t y := by
  intro u hu
  obtain ⟨i, hi, rfl⟩ := List.getElem_of_mem hu
  obtain ⟨us, bot, g1, g2⟩ := h6 i _ _ (List.getElem?_eq_getElem hi) (List.getElem?_eq_getElem (by omega))
  exact tells_iface g1 g2.tells

theorem all_true_any (xs : List Value) (h : xs ≠ []) : (xs.map (fun _ => true)).any id = true := by
  cases xs with
  | nil => exact absurd rfl h
  | cons a r => simp
theorem first_only {xs : List Value} {k : Nat} {a : Bool} (hj : ∀ j, j < k → (xs.map (fun _ => true))[j]? = some false) (ha : (xs.map (fun _ => true))[k]? = some a) : k = 0 ∧ a = true := by
  have hk : k < xs.length := by
    rcases Nat.lt_or_ge k xs.length with h | h
    · exact h
    · rw [List.getElem?_eq_none (by simpa using h)] at ha; cases ha
  refine ⟨?_, ?_⟩
  · rcases Nat.eq_zero_or_pos k with h | h
    · exact h
    · have := hj 0 h
      simp [show 0 < xs.length by omega] at this
  · simp [hk] at ha; exact ha

theorem code_many (v : Value) (ws : List Value) (f : Int × Int) (fs : List (Int × Int)) (w : World) (hm : IsMany w v ws (f :: fs)) (hg : EtLaid w) :
    Calls Tryd.prog 11 #[v] w fun e w' => e = .returned (.int .i64 f.1) ∧ Below w.heap.size w w' := by
  obtain ⟨b, sl, xs, h1, h2, h3, h4, h5, h6⟩ := hm
  obtain ⟨tv, xv, rfl⟩ := h1.iface
  have hsh := IsMany.shapes h4 h6
  have hne : xs ≠ [] := by rintro rfl; simp at h4
  refine code_of tv xv f.1 w fun t w1 hb hc hf => ?_
  have h := some_several 25 enters25 (.pointer (some t)) _ b sl xs (xs.map (fun _ => true)) ws w1 (fun w' => Hit w1 w' t (.int .i64 f.1)) (h1.up hb) ((hb.cell (lt_of_cell h2)).trans h2) (h3.up hb) (by simp) (by omega) hsh
    (fun k x a hj hx ha => by
      obtain ⟨rfl, rfl⟩ := first_only hj ha
      obtain ⟨us, bot, g1, g2⟩ := h6 0 x f hx rfl
      exact ⟨us, bot, g1.up hb, g2.tells.plain, code_does bot f.1 t _ w1 (g2.tells.up hb) (hg.up hb) hc hf⟩)
  rw [all_true_any xs hne] at h
  exact h.mono fun _ _ h => ⟨h.1, h.2.1 rfl⟩

theorem at_many (v : Value) (ws : List Value) (f : Int × Int) (fs : List (Int × Int)) (w : World) (hm : IsMany w v ws (f :: fs)) (hg : EtLaid w) :
    Calls Tryd.prog 10 #[v] w fun e w' => e = .returned (.tuple #[.int .i64 f.2, .bool true]) ∧ Below w.heap.size w w' := by
  obtain ⟨b, sl, xs, h1, h2, h3, h4, h5, h6⟩ := hm
  obtain ⟨tv, xv, rfl⟩ := h1.iface
  have hsh := IsMany.shapes h4 h6
  have hne : xs ≠ [] := by rintro rfl; simp at h4
  obtain ⟨us, bot, g1, g2⟩ := h6 0 _ f (List.getElem?_eq_getElem (List.length_pos_iff.2 hne)) rfl
  have hp := g2.tells.plain
  obtain ⟨b', rfl, c0, c1⟩ := g2
  refine at_some tv xv b' f.2 w c1 fun t w1 hb hc hf => ?_
  have h := some_several 23 enters23 (.pointer (some t)) _ b sl xs (xs.map (fun _ => true)) ws w1 (fun w' => Hit w1 w' t (.pointer (some ⟨b', 0, none⟩))) (h1.up hb) ((hb.cell (lt_of_cell h2)).trans h2) (h3.up hb) (by simp) (by omega) hsh
    (fun k x a hj hx ha => by
      obtain ⟨rfl, rfl⟩ := first_only hj ha
      rw [List.getElem?_eq_getElem (List.length_pos_iff.2 hne)] at hx
      cases hx
      exact ⟨us, _, g1.up hb, hp, at_does_fault b' t _ w1 (hg.up hb) hc hf⟩)
  rw [all_true_any xs hne] at h
  exact h.mono fun _ _ h => ⟨h.1, h.2.1 rfl⟩

theorem is_many (v : Value) (ws : List Value) (fs : List (Int × Int)) (ms : List Int) (sl : Value) (w : World) (hm : IsMany w v ws fs) (hr : Row w sl (ms.map (Value.int .i64))) (hlen : ms.length ≤ 100000) :
    Calls Tryd.prog 19 #[v, sl] w fun e w' => e = .returned (.bool ((fs.map (fun f => asks f.1 ms)).any id)) ∧ Below w.heap.size w w' := by
  have hsl : ∃ a n c, sl = .slice a n c := by obtain ⟨a, c, rfl, -, -⟩ := hr; exact ⟨_, _, _, rfl⟩
  obtain ⟨b, s, xs, h1, h2, h3, h4, h5, h6⟩ := hm
  have hsh := IsMany.shapes h4 h6
  refine is_of v sl _ w (.inr h1.iface) hsl fun t w1 hb hc => ?_
  have h := some_several 28 enters28 (.pointer (some t)) _ b s xs (fs.map (fun f => asks f.1 ms)) ws w1 (fun w' => Below w1.heap.size w1 w') (h1.up hb) ((hb.cell (lt_of_cell h2)).trans h2) (h3.up hb) (by simpa using h4) (by omega) hsh
    (fun k x a hj hx ha => by
      simp only [List.getElem?_map, Option.map_eq_some_iff] at ha
      obtain ⟨f, hf, rfl⟩ := ha
      obtain ⟨us, bot, g1, g2⟩ := h6 k x f hx hf
      exact ⟨us, bot, g1.up hb, g2.tells.plain, is_does bot f.1 ms t sl w1 (g2.tells.up hb) hc (hr.up hb) hlen⟩)
  refine h.mono ?_
  rintro e w' ⟨e1, e2, e3⟩
  refine ⟨e1, ?_⟩
  cases hy : (fs.map (fun f => asks f.1 ms)).any id with
  | true => exact e2 hy
  | false => exact e3 hy
end Go.Proofs.YtmlmgkaghcnpnaaDoor
