/- Rows of rectangles in memory of the call's own: how they are made, copied, added to. -/
import Derived.Test.YtajhojbnpajelaaHas
import Derived.Laws.AppendOwn
import Derived.Laws.AppendOwnNone
import Derived.Lib.SliceRun
import Derived.WideShapes
namespace Go.Proofs.Ytajhojbnpajelaa
open Go.RowKit

/-- The cells of rectangles, one behind the other. -/
def flat (l : List R) : List Value := l.flatMap enc
theorem flat_length (l : List R) : (flat l).length = l.length * 4 := by
  induction l with
  | nil => rfl
  | cons r l ih => simp only [flat, List.flatMap_cons, List.length_append] at *; rw [ih]; simp [enc]; omega
theorem flat_append (a b : List R) : flat (a ++ b) = flat a ++ flat b := by simp [flat]
theorem flat_one (r : R) : flat [r] = enc r := by simp [flat]
theorem flat_get (l : List R) (j c : Nat) (r : R) (hj : l[j]? = some r) (hc : c < 4) : (flat l)[j * 4 + c]? = (enc r)[c]? := by
  induction l generalizing j with
  | nil => simp at hj
  | cons q l ih =>
    have he : flat (q :: l) = enc q ++ flat l := by simp [flat]
    rw [he]
    have hq : (enc q).length = 4 := rfl
    cases j with
    | zero =>
      simp at hj; subst hj
      rw [List.getElem?_append_left (by omega)]
      simp
    | succ j =>
      rw [List.getElem?_append_right (by omega), hq, show (j + 1) * 4 + c - 4 = j * 4 + c by omega]
      exact ih j (by simpa using hj)
theorem flat_oneCell (l : List R) : ∀ u ∈ flat l, u.oneCell' = true := by
  intro u hu
  simp only [flat, List.mem_flatMap] at hu
  obtain ⟨r, -, hr⟩ := hu
  simp [enc] at hr
  rcases hr with rfl | rfl | rfl | rfl <;> rfl

/-- A row of the call's own. -/
def Owns (w : World) (base : Nat) (v : Value) (l : List R) : Prop := w.ownsRow base 23 4 v l.length (flat l)

theorem rat_of_flat {w : World} {x : Addr} {l : List R} (h : ∀ j u, (flat l)[j]? = some u → w.cell? (x.add j) = some u) (b o : Nat) (hx : x = ⟨b, o, none⟩) (j : Nat) (r : R) (hj : l[j]? = some r) : RAt w b (o + j * 4) r := by
  subst hx
  have hc : ∀ c, c < 4 → ∀ u, (enc r)[c]? = some u → w.cell? ⟨b, o + j * 4 + c, none⟩ = some u := fun c hc u hu => by
    have := h (j * 4 + c) u (by rw [flat_get l j c r hj hc]; exact hu)
    rw [Go.WideShapes.add_plain] at this
    rw [Nat.add_assoc]; exact this
  exact ⟨hc 0 (by omega) _ rfl, hc 1 (by omega) _ rfl, hc 2 (by omega) _ rfl, hc 3 (by omega) _ rfl⟩

theorem Owns.row {w : World} {base : Nat} {v : Value} {l : List R} (h : Owns w base v l) : RRow w v l := by
  rcases h.2 with ⟨rfl, hn⟩ | ⟨g, cap, cur, rfl, hb, hg, hn, hm, hs, ht⟩
  · exact .inl ⟨_, _, rfl, List.length_eq_zero_iff.1 hn⟩
  · exact .inr ⟨g, 0, cap, rfl, fun j r hj => rat_of_flat (h.cells (g := g) rfl) g 0 rfl j r hj⟩

theorem Owns.up {w w' : World} {base : Nat} {v : Value} {l : List R} (h : Owns w base v l) (hb : Below w.heap.size w w') : Owns w' base v l := by
  refine ⟨h.1, ?_⟩
  rcases h.2 with hn | ⟨g, cap, cur, rfl, hg0, hg, rest⟩
  · exact .inl hn
  · exact .inr ⟨g, cap, cur, rfl, hg0, (hb.block g (Array.getElem?_eq_some_iff.1 hg).1).trans hg, rest⟩

theorem Owns.nil (w : World) (base : Nat) : Owns w base (.slice none 0 0) [] := World.ownsRow_nil w base _ _

theorem rat_cells {w : World} {b o : Nat} {l : List R} (h : ∀ (j : Nat) (r : R), l[j]? = some r → RAt w b (o + j * 4) r) : ∀ j u, (flat l)[j]? = some u → w.cell? ((⟨b, o, none⟩ : Addr).add j) = some u := fun j u hu => by
  have hj : j / 4 < l.length := by
    rcases Nat.lt_or_ge j (flat l).length with h1 | h1
    · rw [flat_length] at h1; omega
    · rw [List.getElem?_eq_none h1] at hu; cases hu
  have hr := List.getElem?_eq_getElem hj
  have hc : j % 4 < 4 := Nat.mod_lt _ (by omega)
  have e : j / 4 * 4 + j % 4 = j := by omega
  have h1 := flat_get l (j / 4) (j % 4) _ hr hc
  rw [e, hu] at h1
  obtain ⟨a0, a1, a2, a3⟩ := h _ _ hr
  rw [Go.WideShapes.add_plain]
  generalize hm : j % 4 = m at *
  have e' : o + j = o + j / 4 * 4 + m := by omega
  rw [e']
  match m, hc with
  | 0, _ => simp [enc] at h1; rw [h1]; exact a0
  | 1, _ => simp [enc] at h1; rw [h1]; exact a1
  | 2, _ => simp [enc] at h1; rw [h1]; exact a2
  | 3, _ => simp [enc] at h1; rw [h1]; exact a3

abbrev zeroR : Value := .agg #[.int .i64 0, .int .i64 0, .int .i64 0, .int .i64 0]
theorem rinfo : ∃ i, Try.prog.info? 23 = some i ∧ i.zero = some zeroR ∧ i.size = 4 ∧ i.bytes = 32 := info_parts (P := Try.prog) (e := 23) (z := zeroR) (size := 4) (bytes := 32) (by kernel_rfl)

end Go.Proofs.Ytajhojbnpajelaa
