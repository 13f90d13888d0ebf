/- What the rows of this seat ask of a walk: trees, several, rectangles, numbers as arguments. -/
import Derived.Test.YtcmkhppkdbdfdaaRows
import Derived.Test.YtcmkhppkdbdfdaaFind
import Derived.ProofKit
import Derived.LaidMore
import Derived.OpenShut
import Derived.ShutString
import Derived.Stop.Joined
import Derived.Deep.Strs
import Derived.Lib.SmallJoins
import Derived.SizedLaws
import Derived.Deep.CondSized
namespace Go.Proofs.Ytcmkhppkdbdfdaa
open Go.ChangeShapes Go.WideShapes Go.ChangeAt Go.WideMaps Go.WideElems Go.RowKit
open Go.ChangeMaps (open_string shut_string)

theorem own : ownKnob Try.prog.godebug = none := by kernel_rfl
theorem laidOut : laidOutB Try.prog = true := by kernel_rfl
theorem fits_wf {n : Int} (h : (Lit.int .i64 n).wf = true) : fits n := bounds_i64 h
theorem byte_wf {n : Int} (h : (Lit.int .u8 n).wf = true) : 0 ≤ n ∧ n ≤ 255 := by
  simp [Lit.wf, IntKind.min, IntKind.max, IntKind.signed, IntKind.bits] at h
  omega

theorem bulk_range {H : Type} (D : Nat → DataW H) (m i : Nat) (hi : i < m) : Rows.uptoBulk (D i) ≤ Rows.uptoBulkAll ((List.range m).map D) := by
  induction m with
  | zero => omega
  | succ m ih =>
    rw [List.range_succ, List.map_append]
    have happ : ∀ (a b : List (DataW H)), Rows.uptoBulkAll (a ++ b) = Rows.uptoBulkAll a + Rows.uptoBulkAll b := by
      intro a b
      induction a with
      | nil => simp [Rows.uptoBulkAll]
      | cons x l ih => simp only [List.cons_append, Rows.uptoBulkAll, ih]; omega
    rw [happ]
    rcases Nat.lt_or_ge i m with h | h
    · have := ih h; omega
    · obtain rfl : i = m := by omega
      simp [Rows.uptoBulkAll]
theorem sz_range {H : Type} (D : Nat → DataW H) (F : Nat → T) (m : Nat) (h : ∀ i, i < m → sz (F i) ≤ Rows.uptoBulk (D i)) : szL ((List.range m).map F) ≤ Rows.uptoBulkAll ((List.range m).map D) := by
  induction m with
  | zero => simp [szL, Rows.uptoBulkAll]
  | succ m ih =>
    rw [List.range_succ, List.map_append, List.map_append, szL_append]
    have happ : ∀ (a b : List (DataW H)), Rows.uptoBulkAll (a ++ b) = Rows.uptoBulkAll a + Rows.uptoBulkAll b := by
      intro a b
      induction a with
      | nil => simp [Rows.uptoBulkAll]
      | cons x l ih => simp only [List.cons_append, Rows.uptoBulkAll, ih]; omega
    rw [happ]
    have h1 := ih fun i hi => h i (by omega)
    have h2 := h m (by omega)
    simp [szL, Rows.uptoBulkAll]
    omega
theorem weight_mem {H : Type} (e : TypeId) (D : Nat → DataW H) (m i : Nat) (hi : i < m) : ∀ n ∈ (D i).weights Try.prog e, n ∈ DataW.weightsAll Try.prog e ((List.range m).map D) := by
  have hall : ∀ (l : List (DataW H)) (d : DataW H), d ∈ l → ∀ n ∈ d.weights Try.prog e, n ∈ DataW.weightsAll Try.prog e l := by
    intro l
    induction l with
    | nil => intro d hd; simp at hd
    | cons x l ih =>
      intro d hd n hn
      rw [DataW.weightsAll, List.mem_append]
      rcases List.mem_cons.1 hd with rfl | h
      · exact .inl hn
      · exact .inr (ih d h n hn)
  exact hall _ _ (List.mem_map.2 ⟨i, List.mem_range.2 hi, rfl⟩)

theorem wt_head {H : Type} {t : TypeId} {ts : List TypeId} {d : DataW H} {ds : List (DataW H)} (h : (DataW.weightsEach Try.prog (t :: ts) (d :: ds)).all (· ≤ reachBytes) = true) :
    (∀ n ∈ d.weights Try.prog t, n ≤ reachBytes) ∧ (DataW.weightsEach Try.prog ts ds).all (· ≤ reachBytes) = true := by
  rw [DataW.weightsEach, List.all_append, Bool.and_eq_true] at h
  exact ⟨fun n hn => of_decide_eq_true (List.all_eq_true.1 h.1 n hn), h.2⟩

section
variable {H : Type} {enc : TypeId × Value → H} {w : World} {spare : Nat → Bool} {held : Bool}

theorem range_at {α : Type} (f : Nat → α) {n i : Nat} {x : α} (h : ((List.range n).map f)[i]? = some x) : i < n ∧ x = f i := by
  rcases Nat.lt_or_ge i n with hi | hi
  · refine ⟨hi, ?_⟩
    simp [hi] at h
    exact h.symm
  · rw [List.getElem?_eq_none (by simpa using hi)] at h
    cases h

/-- A rectangle that came in. -/
theorem r_of {fuel : Nat} {cs : List Value} {x : DataW H × List MemPlace} (h : DataW.trod enc Try.prog w 0 spare held fuel 30 cs = some x) : ∃ r : R, cs = [.int .i64 r.x, .int .i64 r.y, .int .i64 r.w, .int .i64 r.h] ∧ r.fits := by
  obtain ⟨y0, y1, y2, y3, n, -, hl, h0, h1, h2, h3⟩ := Go.Joins.trod_struct4 Try.underlying30 h
  rw [show Try.prog.cellsOf 30 = 4 by kernel_rfl] at hl
  have q3 : Try.prog.cellsOf 3 = 1 := by kernel_rfl
  simp only [q3] at h0 h1 h2 h3
  match cs, hl, h0, h1, h2, h3 with
  | [c0, c1, c2, c3], _, h0, h1, h2, h3 =>
    have h0' : DataW.trod enc Try.prog w 0 spare held n 3 [c0] = some y0 := by simpa using h0
    have h1' : DataW.trod enc Try.prog w 0 spare held n 3 [c1] = some y1 := by simpa using h1
    have h2' : DataW.trod enc Try.prog w 0 spare held n 3 [c2] = some y2 := by simpa using h2
    have h3' : DataW.trod enc Try.prog w 0 spare held n 3 [c3] = some y3 := by simpa using h3
    obtain ⟨a, ha, -, wa⟩ := DataW.trod_int Try.underlying3 h0'
    obtain ⟨b, hb, -, wb⟩ := DataW.trod_int Try.underlying3 h1'
    obtain ⟨c, hc, -, wc⟩ := DataW.trod_int Try.underlying3 h2'
    obtain ⟨d, hd, -, wd⟩ := DataW.trod_int Try.underlying3 h3'
    simp at ha hb hc hd
    subst ha; subst hb; subst hc; subst hd
    exact ⟨⟨a, b, c, d⟩, rfl, fits_wf wa, fits_wf wb, fits_wf wc, fits_wf wd⟩

/-- A slice of trees that came in, where each element is one. -/
theorem row_of {fuel : Nat} {v : Value} {x : DataW H × List MemPlace} (h : DataW.trod enc Try.prog w 0 spare held fuel 31 [v] = some x) (hw : ∀ n ∈ x.1.weights Try.prog 31, n ≤ reachBytes)
    (each : ∀ (fuel' : Nat) (cs : List Value) (y : DataW H × List MemPlace), DataW.trod enc Try.prog w 0 spare held fuel' 33 cs = some y → (∀ n ∈ y.1.weights Try.prog 33, n ≤ reachBytes) → Rows.uptoBulk y.1 < Rows.uptoBulk x.1 → ∃ (c : C) (t : T), cs = encC c ∧ Is w c t ∧ sz t ≤ Rows.uptoBulk y.1) :
    ∃ (a : Option Addr) (cap : Nat) (l : List T), v = .slice a l.length cap ∧ TRow w v l ∧ szL l < Rows.uptoBulk x.1 ∧ l.length ≤ 1954687338211 := by
  rcases Go.Deep.open_slice Try.underlying31 h with ⟨hcs, hx0⟩ | ⟨a, len, cap, m, n, D, Pl, hcs, _, hl, _, hm, hx, hel⟩
  · simp at hcs
    subst hcs
    refine ⟨none, 0, [], rfl, ⟨[], .inl ⟨_, _, rfl, rfl⟩, rfl, fun j x u hx => by simp at hx⟩, ?_, by simp⟩
    rw [hx0]; simp [szL, Rows.uptoBulk]
  · simp at hcs
    subst hcs
    have hlm : len ≤ m := by rw [hm]; split <;> omega
    have hb72 : Try.prog.bytesOf 33 = 72 := by kernel_rfl
    have hwt : x.1.weights Try.prog 31 = (len + (m - len)) * 72 :: (DataW.weightsAll Try.prog 33 ((List.range len).map D) ++ DataW.weightsAll Try.prog 33 ((List.range (m - len)).map fun j => D (len + j))) := by
      rw [hx, DataW.weights, Try.underlying31]
      simp [hb72]
    have hbk : Rows.uptoBulk x.1 = Rows.uptoBulkAll ((List.range len).map D) + Rows.uptoBulkAll ((List.range (m - len)).map fun j => D (len + j)) + 1 := by rw [hx, Rows.uptoBulk]
    rw [hwt] at hw
    have hlen : len ≤ 1954687338211 := by
      have := hw _ (List.mem_cons_self ..)
      unfold reachBytes at this
      omega
    rw [show Try.prog.cellsOf 33 = 7 by kernel_rfl] at hel
    have hone : ∀ i, i < len → ∃ p : C × T, (w.cells? 0 (a.add (i * 7)) 7 = some (encC p.1)) ∧ Is w p.1 p.2 ∧ sz p.2 ≤ Rows.uptoBulk (D i) := fun i hi => by
      obtain ⟨cs', h1, h2⟩ := hel i (by omega)
      obtain ⟨c, t, rfl, hi2, hs⟩ := each n cs' _ h2 (fun k hk => hw k (List.mem_cons_of_mem _ (List.mem_append_left _ (weight_mem 33 D len i hi k hk)))) (by have := bulk_range D len i hi; rw [hbk]; simp only; omega)
      exact ⟨(c, t), h1, hi2, hs⟩
    obtain ⟨F, hF⟩ := Go.Deep.choose_lt (α := C × T) (n := len) hone
    have hsz : szL ((List.range len).map fun i => (F i).2) < Rows.uptoBulk x.1 := by
      have := sz_range D (fun i => (F i).2) len fun i hi => (hF i hi).2.2
      rw [hbk]; omega
    refine ⟨some a, cap, (List.range len).map fun i => (F i).2, by simp, ⟨(List.range len).map fun i => (F i).1, ?_, by simp, fun j y u hy hu => ?_⟩, hsz, by simpa using hlen⟩
    · rcases Nat.eq_zero_or_pos len with rfl | hp
      · exact .inl ⟨_, _, rfl, rfl⟩
      obtain ⟨b, o, spot⟩ := a
      have hspot : spot = none := by
        obtain ⟨-, -, hc⟩ := World.cells?_some (hF 0 hp).1
        have h0 := hc 0 (by omega)
        simpa [Addr.add] using World.cell?_spot h0
      subst hspot
      refine .inr ⟨b, o, cap, by simp, fun j c hc => ?_⟩
      obtain ⟨hj, rfl⟩ := range_at _ hc
      obtain ⟨-, -, hc⟩ := World.cells?_some (hF j hj).1
      have hk : ∀ i, i < 7 → ∀ u, (encC (F j).1)[i]? = some u → w.cell? ⟨b, o + j * 7 + i, none⟩ = some u := fun i hi u hu => by
        have := hc i hi
        rw [Go.Deep.add_add, Go.WideShapes.add_plain] at this
        rw [Nat.add_assoc, this, hu]
      exact ⟨hk 0 (by omega) _ rfl, hk 1 (by omega) _ rfl, hk 2 (by omega) _ rfl, hk 3 (by omega) _ rfl, hk 4 (by omega) _ rfl, hk 5 (by omega) _ rfl, hk 6 (by omega) _ rfl⟩
    · obtain ⟨hj, rfl⟩ := range_at _ hy
      obtain ⟨_, rfl⟩ := range_at _ hu
      exact (hF j hj).2.1

/-- A tree that came in. -/
theorem is_of (N : Nat) : ∀ (fuel : Nat) (cs : List Value) (x : DataW H × List MemPlace), Rows.uptoBulk x.1 ≤ N → DataW.trod enc Try.prog w 0 spare held fuel 33 cs = some x → (∀ n ∈ x.1.weights Try.prog 33, n ≤ reachBytes) →
    ∃ (c : C) (t : T), cs = encC c ∧ Is w c t ∧ sz t ≤ Rows.uptoBulk x.1 := by
  induction N with
  | zero =>
    intro fuel cs x hN h _
    obtain ⟨xs, n, -, rfl, -⟩ := DataW.trod_struct Try.underlying33 h
    simp [Rows.uptoBulk] at hN
  | succ N ih =>
    intro fuel cs x hN h hw
    obtain ⟨xs, n, -, rfl, hl, hlen, hg⟩ := DataW.trod_struct Try.underlying33 h
    rw [show Try.prog.cellsOf 33 = 7 by kernel_rfl] at hl
    have h0 := hg 0 _ rfl
    have h1 := hg 1 _ rfl
    have h2 := hg 2 _ rfl
    have h3 := hg 3 _ rfl
    clear hg
    have q5 : Try.prog.cellsOf 5 = 1 := by kernel_rfl
    have q3 : Try.prog.cellsOf 3 = 1 := by kernel_rfl
    have q27 : Try.prog.cellsOf 30 = 4 := by kernel_rfl
    have q22 : Try.prog.cellsOf 31 = 1 := by kernel_rfl
    match xs, hlen with
    | [y0, y1, y2, y3], _ =>
    match cs, hl with
    | [c0, c1, c2, c3, c4, c5, c6], _ =>
    simp [q5] at h0
    simp [q27] at h1
    simp [q3] at h2
    simp [q22] at h3
    obtain ⟨k, hk, -, wk⟩ := DataW.trod_int Try.underlying5 h0
    obtain ⟨r, hr, hrf⟩ := r_of h1
    obtain ⟨i, hi, -, wi⟩ := DataW.trod_int Try.underlying3 h2
    have hbk : Rows.uptoBulk (DataW.agg (List.map (fun x => x.1) [y0, y1, y2, y3])) = Rows.uptoBulk y0.1 + (Rows.uptoBulk y1.1 + (Rows.uptoBulk y2.1 + (Rows.uptoBulk y3.1 + 0))) + 1 := by simp [Rows.uptoBulk, Rows.uptoBulkAll]
    have hwt : ∀ n ∈ y3.1.weights Try.prog 31, n ≤ reachBytes := fun n hn => hw n (by
      simp only [DataW.weights, Try.underlying33]
      simp [DataW.weightsEach, hn])
    obtain ⟨a, cap, l, hv, hrow, hsz, hll⟩ := row_of h3 hwt (fun fuel' cs' y hy hyw hlt => ih fuel' cs' y (by simp only at hN; rw [hbk] at hN; omega) hy hyw)
    simp at hk hr hi
    obtain ⟨rfl, rfl, rfl, rfl⟩ := hr
    subst hk; subst hi; subst hv
    refine ⟨⟨k, r, i, a, l.length, cap⟩, .node k r i l, rfl, ?_, ?_⟩
    · obtain ⟨cs', g1, g2, g3⟩ := hrow
      exact .mk ⟨k, r, i, a, l.length, cap⟩ l cs' g1 g2 ⟨byte_wf wk, hrf, fits_wf wi, hll⟩ g3
    · simp only
      rw [hbk, sz]; omega

/-- Numbers that came in. -/
theorem ints_of {fuel : Nat} {v : Value} {x : DataW H × List MemPlace} (h : DataW.trod enc Try.prog w 0 spare held fuel 22 [v] = some x) : ∃ ms : List Int, Row w v (ints ms) ∧ ∃ a cap, v = .slice a ms.length cap ∧ ms.length ≤ cap := by
  rcases open_ints Try.underlying22 Try.underlying3 (by kernel_rfl) h with ⟨hcs, _⟩ | ⟨a, l, c, zs, hcs, _, hl, hm, hz, _, hcell, hwz⟩
  · simp at hcs
    subst hcs
    exact ⟨[], ⟨none, 0, rfl, fun _ => ⟨rfl, rfl⟩, fun _ h => by cases h⟩, none, 0, rfl, Nat.le_refl _⟩
  · simp at hcs
    subst hcs
    have hlm : l ≤ zs.length := by rw [hz]; split <;> omega
    have htl : (zs.take l).length = l := by rw [List.length_take]; omega
    refine ⟨zs.take l, ⟨some a, c, by rw [ints_length, htl], fun h => (by cases h), fun y hy j u hu => ?_⟩, some a, c, by rw [htl], by rw [htl]; exact hl⟩
    cases hy
    unfold ints at hu
    rw [List.getElem?_map, Option.map_eq_some_iff] at hu
    obtain ⟨n, hn, rfl⟩ := hu
    have hjl : j < zs.length := by
      rcases Nat.lt_or_ge j zs.length with h | h
      · exact h
      · rw [List.getElem?_take, List.getElem?_eq_none h] at hn; split at hn <;> cases hn
    rw [hcell j hjl]
    rw [List.getElem?_take] at hn
    split at hn
    · rw [List.getD_eq_getElem?_getD, hn]; rfl
    · cases hn
end
end Go.Proofs.Ytcmkhppkdbdfdaa
