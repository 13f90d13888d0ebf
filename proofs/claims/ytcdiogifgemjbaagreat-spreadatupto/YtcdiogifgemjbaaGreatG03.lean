/- Texts of this seat, 3 in one file. -/
import Derived.Test.YtcdiogifgemjbaaGreatG02
import Derived.Laws.AppendOwn
import Derived.Laws.AppendOwnNone
import Derived.OwnWalk
import Derived.WideShapes
import Derived.Test.YtcdiogifgemjbaaGreatRows
import Derived.ProofKit
import Derived.LaidMore
import Derived.OpenShut
import Derived.ShutString
import Derived.Stop.Joined
import Derived.Deep.Strs
import Derived.Lib.SmallJoins
import Derived.SizedLaws
import Derived.Deep.CondSized
/- Rows of one-cell values in memory, own ones and others; append on them. -/
namespace Go.Proofs.YtcdiogifgemjbaaGreat
open Go.RowKit

/-- A slice that reads as these values, each one cell. -/
def Row (w : World) (v : Value) (xs : List Value) : Prop :=
  ∃ a cap, v = .slice a xs.length cap ∧ (a = none → xs = [] ∧ cap = 0) ∧ ∀ x, a = some x → ∀ j u, xs[j]? = some u → w.cell? (x.add j) = some u

theorem Row.below {B : Nat} {w w' : World} {v : Value} {xs : List Value} (h : Row w v xs) (hB : w.heap.size ≤ B) (hb : Below B w w') : Row w' v xs := by
  obtain ⟨a, cap, rfl, h0, hc⟩ := h
  refine ⟨a, cap, rfl, h0, fun x hx j u hu => ?_⟩
  have := hc x hx j u hu
  exact (hb.cell (Nat.lt_of_lt_of_le (lt_of_cell this) hB)).trans this

theorem Row.up {w w' : World} {v : Value} {xs : List Value} (h : Row w v xs) (hb : Below w.heap.size w w') : Row w' v xs := h.below (Nat.le_refl _) hb

theorem Row.of_owns {w : World} {base : Nat} {e : TypeId} {v : Value} {n : Nat} {xs : List Value} (h : w.ownsRow base e 1 v n xs) : Row w v xs := by
  have hl : xs.length = n := by simpa using h.1
  rcases h.2 with ⟨rfl, rfl⟩ | ⟨g, cap, cur, rfl, hb, hg, hn, hm, hs, ht⟩
  · obtain rfl : xs = [] := List.length_eq_zero_iff.1 hl
    exact ⟨none, 0, rfl, fun _ => ⟨rfl, rfl⟩, fun x hx => by cases hx⟩
  · refine ⟨some ⟨g, 0, none⟩, cap, by rw [hl], fun h => (by cases h), fun x hx j u hu => ?_⟩
    cases hx
    exact h.cells (g := g) rfl j u hu

/-- Where a row that isn't empty lies. -/
theorem row_at {w : World} {a : Option Addr} {cap : Nat} {xs : List Value} (h0 : a = none → xs = [] ∧ cap = 0) (hc : ∀ x, a = some x → ∀ j u, xs[j]? = some u → w.cell? (x.add j) = some u) (hp : 0 < xs.length) :
    ∃ b o, a = some ⟨b, o, none⟩ ∧ ∀ j u, xs[j]? = some u → w.cell? ⟨b, o + j, none⟩ = some u := by
  cases a with
  | none => rw [(h0 rfl).1] at hp; simp at hp
  | some x =>
    obtain ⟨b, o, spot⟩ := x
    have h1 := hc _ rfl 0 _ (List.getElem?_eq_getElem hp)
    have hspot : spot = none := by simpa [Addr.add] using World.cell?_spot h1
    subst hspot
    refine ⟨b, o, rfl, fun j u hu => ?_⟩
    rw [← Go.WideShapes.add_plain]
    exact hc _ rfl j u hu

theorem owns_up {w w' : World} {base : Nat} {e : TypeId} {size : Nat} {v : Value} {n : Nat} {xs : List Value} (h : w.ownsRow base e size v n xs) (hb : Below w.heap.size w w') : w'.ownsRow base e size v n xs := by
  refine ⟨h.1, ?_⟩
  rcases h.2 with hn | ⟨g, cap, cur, rfl, hg0, hg, rest⟩
  · exact .inl hn
  · exact .inr ⟨g, cap, cur, rfl, hg0, (hb.block g (Array.getElem?_eq_some_iff.1 hg).1).trans hg, rest⟩

theorem owns_base {w : World} {base base' : Nat} {e : TypeId} {size : Nat} {v : Value} {n : Nat} {xs : List Value} (h : w.ownsRow base e size v n xs) (hb : base' ≤ base) : w.ownsRow base' e size v n xs := by
  refine ⟨h.1, ?_⟩
  rcases h.2 with hn | ⟨g, cap, cur, rfl, hg0, rest⟩
  · exact .inl hn
  · exact .inr ⟨g, cap, cur, rfl, Nat.le_trans hb hg0, rest⟩

/-- append(own.., row...): what is owned then is both; no other block is turned. -/
theorem wpList_append_row2 {P : Program} {w : World} {ops : Array Oper} {rest : List Oper} {o : Oper} {a : Act} {Q : Exit → Act → World → Prop} (hgd : o.guard = none) (s x : Operand) (t : TypeId)
    (ho : o.op = .call { callee := .builtin .append, args := #[s, x], argTypes := #[t, t] })
    (base : Nat) (e : TypeId) (z : Value) (bytes : Nat) (ht : P.underlying t = some (.slice e)) (hinfo : (P.info? e).map (fun i => (i.zero, i.size, i.bytes)) = some (some z, 1, bytes)) (hz1 : z.cells.size = 1)
    (v src : Value) (xs news : List Value) (hs : a.eval s = v) (hown : w.ownsRow base e 1 v xs.length xs) (hx : a.eval x = src) (hrow : Row w src news) (h1 : ∀ u ∈ news, u.oneCell' = true)
    (h63 : xs.length + news.length ≤ 1000000) (hbytes : bytes ≤ 64) (w0 : World) (hb : Below base w0 w) (hbase0 : base ≤ w0.heap.size)
    (h : ∀ v' w', w'.ownsRow base e 1 v' (xs ++ news).length (xs ++ news) → Below base w0 w' → w.grownBy w' v.ownBlock → wpList P ops Q rest (a.put o.dst v') w') : wpList P ops Q (o :: rest) a w := by
  have hbase : base ≤ w.heap.size := Nat.le_trans hbase0 hb.size
  obtain ⟨i, hi, hz0, hz2, hz3⟩ := info_parts hinfo
  obtain ⟨ad, cap, rfl, h0, hc⟩ := hrow
  cases ad with
  | none =>
    obtain ⟨rfl, rfl⟩ := h0 rfl
    refine wpList_append_own_none hgd s x t ho base e i 1 ht hi v xs.length xs hs hown hx (h v w (by simpa using hown) hb ⟨rfl, rfl, rfl, Nat.le_refl _, fun _ _ _ => rfl⟩)
  | some ad =>
    refine wpList_append_own w hgd s x t ho base e i z 1 bytes ht hi hz0 hz2 hz3 hz1 (by decide) v xs.length xs hs hown ad news.length cap news hx (by simp) (hc ad rfl) h1 (by unfold maxLen; omega) ?_ hbase ?_
    · exact Nat.le_trans (Nat.mul_le_mul h63 hbytes) (by decide)
    · intro v' w' g1 g2 _
      exact h v' w' (by rw [List.length_append]; exact g1) (hb.grown g2 hbase (fun k hk => (hown.lt k hk).1)) g2
/-- append(own.., row...): what is owned then is both. -/
theorem wpList_append_row {P : Program} {w : World} {ops : Array Oper} {rest : List Oper} {o : Oper} {a : Act} {Q : Exit → Act → World → Prop} (hgd : o.guard = none) (s x : Operand) (t : TypeId)
    (ho : o.op = .call { callee := .builtin .append, args := #[s, x], argTypes := #[t, t] })
    (base : Nat) (e : TypeId) (z : Value) (bytes : Nat) (ht : P.underlying t = some (.slice e)) (hinfo : (P.info? e).map (fun i => (i.zero, i.size, i.bytes)) = some (some z, 1, bytes)) (hz1 : z.cells.size = 1)
    (v src : Value) (xs news : List Value) (hs : a.eval s = v) (hown : w.ownsRow base e 1 v xs.length xs) (hx : a.eval x = src) (hrow : Row w src news) (h1 : ∀ u ∈ news, u.oneCell' = true)
    (h63 : xs.length + news.length ≤ 1000000) (hbytes : bytes ≤ 64) (w0 : World) (hb : Below base w0 w) (hbase0 : base ≤ w0.heap.size)
    (h : ∀ v' w', w'.ownsRow base e 1 v' (xs ++ news).length (xs ++ news) → Below base w0 w' → wpList P ops Q rest (a.put o.dst v') w') : wpList P ops Q (o :: rest) a w :=
  wpList_append_row2 hgd s x t ho base e z bytes ht hinfo hz1 v src xs news hs hown hx hrow h1 h63 hbytes w0 hb hbase0 fun v' w' g1 g2 _ => h v' w' g1 g2
end Go.Proofs.YtcdiogifgemjbaaGreat
/- The way to a leaf. -/
namespace Go.Proofs.YtcdiogifgemjbaaGreat
open Go.RowKit

def ints (p : List Int) : List Value := p.map (Value.int .i64)
theorem ints_length (p : List Int) : (ints p).length = p.length := by simp [ints]
theorem ints_append (p q : List Int) : ints (p ++ q) = ints p ++ ints q := by simp [ints]
theorem ints_one (p : List Int) : ∀ u ∈ ints p, u.oneCell' = true := by
  intro u hu
  obtain ⟨n, -, rfl⟩ := List.mem_map.1 hu
  rfl
theorem row_one (w : World) (v : Value) (t : TypeId) : Row (w.alloc (.cells #[v] t)) (.slice (some ⟨w.heap.size, 0, none⟩) 1 1) [v] := by
  refine ⟨_, 1, rfl, (fun h => by cases h), fun x hx j u hu => ?_⟩
  cases hx
  cases j with
  | zero => simp at hu; subst hu; simp [Addr.add]
  | succ j => simp at hu
theorem infoI : (Tryz.prog.info? 3).map (fun i => (i.zero, i.size, i.bytes)) = some (some (.int .i64 0), 1, 8) := by kernel_rfl

end Go.Proofs.YtcdiogifgemjbaaGreat
/- What the rows of this seat ask of a walk: trees, several, rectangles, numbers as arguments. -/
namespace Go.Proofs.YtcdiogifgemjbaaGreat
open Go.ChangeShapes Go.WideShapes Go.ChangeAt Go.WideMaps Go.WideElems Go.RowKit
open Go.ChangeMaps (open_string shut_string)

theorem own : ownKnob Tryz.prog.godebug = none := by kernel_rfl
theorem laidOut : laidOutB Tryz.prog = true := by kernel_rfl
theorem fits_wf {n : Int} (h : (Lit.int .i64 n).wf = true) : fits n := bounds_i64 h
theorem byte_wf {n : Int} (h : (Lit.int .u8 n).wf = true) : 0 ≤ n ∧ n ≤ 255 := by
  simp [Lit.wf, IntKind.min, IntKind.max, IntKind.signed, IntKind.bits] at h
  omega

theorem bulk_range {H : Type} (D : Nat → DataW H) (m i : Nat) (hi : i < m) : Rows.uptoBulk (D i) ≤ Rows.uptoBulkAll ((List.range m).map D) := by
  induction m with
  | zero => omega
  | succ m ih =>
    rw [List.range_succ, List.map_append]
    have happ : ∀ (a b : List (DataW H)), Rows.uptoBulkAll (a ++ b) = Rows.uptoBulkAll a + Rows.uptoBulkAll b := by
      intro a b
      induction a with
      | nil => simp [Rows.uptoBulkAll]
      | cons x l ih => simp only [List.cons_append, Rows.uptoBulkAll, ih]; omega
    rw [happ]
    rcases Nat.lt_or_ge i m with h | h
    · have := ih h; omega
    · obtain rfl : i = m := by omega
      simp [Rows.uptoBulkAll]
theorem sz_range {H : Type} (D : Nat → DataW H) (F : Nat → T) (m : Nat) (h : ∀ i, i < m → sz (F i) ≤ Rows.uptoBulk (D i)) : szL ((List.range m).map F) ≤ Rows.uptoBulkAll ((List.range m).map D) := by
  induction m with
  | zero => simp [szL, Rows.uptoBulkAll]
  | succ m ih =>
    rw [List.range_succ, List.map_append, List.map_append, szL_append]
    have happ : ∀ (a b : List (DataW H)), Rows.uptoBulkAll (a ++ b) = Rows.uptoBulkAll a + Rows.uptoBulkAll b := by
      intro a b
      induction a with
      | nil => simp [Rows.uptoBulkAll]
      | cons x l ih => simp only [List.cons_append, Rows.uptoBulkAll, ih]; omega
    rw [happ]
    have h1 := ih fun i hi => h i (by omega)
    have h2 := h m (by omega)
    simp [szL, Rows.uptoBulkAll]
    omega
theorem weight_mem {H : Type} (e : TypeId) (D : Nat → DataW H) (m i : Nat) (hi : i < m) : ∀ n ∈ (D i).weights Tryz.prog e, n ∈ DataW.weightsAll Tryz.prog e ((List.range m).map D) := by
  have hall : ∀ (l : List (DataW H)) (d : DataW H), d ∈ l → ∀ n ∈ d.weights Tryz.prog e, n ∈ DataW.weightsAll Tryz.prog e l := by
    intro l
    induction l with
    | nil => intro d hd; simp at hd
    | cons x l ih =>
      intro d hd n hn
      rw [DataW.weightsAll, List.mem_append]
      rcases List.mem_cons.1 hd with rfl | h
      · exact .inl hn
      · exact .inr (ih d h n hn)
  exact hall _ _ (List.mem_map.2 ⟨i, List.mem_range.2 hi, rfl⟩)

theorem wt_head {H : Type} {t : TypeId} {ts : List TypeId} {d : DataW H} {ds : List (DataW H)} (h : (DataW.weightsEach Tryz.prog (t :: ts) (d :: ds)).all (· ≤ reachBytes) = true) :
    (∀ n ∈ d.weights Tryz.prog t, n ≤ reachBytes) ∧ (DataW.weightsEach Tryz.prog ts ds).all (· ≤ reachBytes) = true := by
  rw [DataW.weightsEach, List.all_append, Bool.and_eq_true] at h
  exact ⟨fun n hn => of_decide_eq_true (List.all_eq_true.1 h.1 n hn), h.2⟩

section
variable {H : Type} {enc : TypeId × Value → H} {w : World} {spare : Nat → Bool} {held : Bool}

theorem range_at {α : Type} (f : Nat → α) {n i : Nat} {x : α} (h : ((List.range n).map f)[i]? = some x) : i < n ∧ x = f i := by
  rcases Nat.lt_or_ge i n with hi | hi
  · refine ⟨hi, ?_⟩
    simp [hi] at h
    exact h.symm
  · rw [List.getElem?_eq_none (by simpa using hi)] at h
    cases h

/-- A rectangle that came in. -/
theorem r_of {fuel : Nat} {cs : List Value} {x : DataW H × List MemPlace} (h : DataW.trod enc Tryz.prog w 0 spare held fuel 23 cs = some x) : ∃ r : R, cs = [.int .i64 r.x, .int .i64 r.y, .int .i64 r.w, .int .i64 r.h] ∧ r.fits := by
  obtain ⟨y0, y1, y2, y3, n, -, hl, h0, h1, h2, h3⟩ := Go.Joins.trod_struct4 Tryz.underlying23 h
  rw [show Tryz.prog.cellsOf 23 = 4 by kernel_rfl] at hl
  have q3 : Tryz.prog.cellsOf 3 = 1 := by kernel_rfl
  simp only [q3] at h0 h1 h2 h3
  match cs, hl, h0, h1, h2, h3 with
  | [c0, c1, c2, c3], _, h0, h1, h2, h3 =>
    have h0' : DataW.trod enc Tryz.prog w 0 spare held n 3 [c0] = some y0 := by simpa using h0
    have h1' : DataW.trod enc Tryz.prog w 0 spare held n 3 [c1] = some y1 := by simpa using h1
    have h2' : DataW.trod enc Tryz.prog w 0 spare held n 3 [c2] = some y2 := by simpa using h2
    have h3' : DataW.trod enc Tryz.prog w 0 spare held n 3 [c3] = some y3 := by simpa using h3
    obtain ⟨a, ha, -, wa⟩ := DataW.trod_int Tryz.underlying3 h0'
    obtain ⟨b, hb, -, wb⟩ := DataW.trod_int Tryz.underlying3 h1'
    obtain ⟨c, hc, -, wc⟩ := DataW.trod_int Tryz.underlying3 h2'
    obtain ⟨d, hd, -, wd⟩ := DataW.trod_int Tryz.underlying3 h3'
    simp at ha hb hc hd
    subst ha; subst hb; subst hc; subst hd
    exact ⟨⟨a, b, c, d⟩, rfl, fits_wf wa, fits_wf wb, fits_wf wc, fits_wf wd⟩

/-- A slice of trees that came in, where each element is one. -/
theorem row_of {fuel : Nat} {v : Value} {x : DataW H × List MemPlace} (h : DataW.trod enc Tryz.prog w 0 spare held fuel 24 [v] = some x) (hw : ∀ n ∈ x.1.weights Tryz.prog 24, n ≤ reachBytes)
    (each : ∀ (fuel' : Nat) (cs : List Value) (y : DataW H × List MemPlace), DataW.trod enc Tryz.prog w 0 spare held fuel' 26 cs = some y → (∀ n ∈ y.1.weights Tryz.prog 26, n ≤ reachBytes) → Rows.uptoBulk y.1 < Rows.uptoBulk x.1 → ∃ (c : C) (t : T), cs = encC c ∧ Is w c t ∧ sz t ≤ Rows.uptoBulk y.1) :
    ∃ (a : Option Addr) (cap : Nat) (l : List T), v = .slice a l.length cap ∧ TRow w v l ∧ szL l < Rows.uptoBulk x.1 ∧ l.length ≤ 1954687338211 := by
  rcases Go.Deep.open_slice Tryz.underlying24 h with ⟨hcs, hx0⟩ | ⟨a, len, cap, m, n, D, Pl, hcs, _, hl, _, hm, hx, hel⟩
  · simp at hcs
    subst hcs
    refine ⟨none, 0, [], rfl, ⟨[], .inl ⟨_, _, rfl, rfl⟩, rfl, fun j x u hx => by simp at hx⟩, ?_, by simp⟩
    rw [hx0]; simp [szL, Rows.uptoBulk]
  · simp at hcs
    subst hcs
    have hlm : len ≤ m := by rw [hm]; split <;> omega
    have hb72 : Tryz.prog.bytesOf 26 = 72 := by kernel_rfl
    have hwt : x.1.weights Tryz.prog 24 = (len + (m - len)) * 72 :: (DataW.weightsAll Tryz.prog 26 ((List.range len).map D) ++ DataW.weightsAll Tryz.prog 26 ((List.range (m - len)).map fun j => D (len + j))) := by
      rw [hx, DataW.weights, Tryz.underlying24]
      simp [hb72]
    have hbk : Rows.uptoBulk x.1 = Rows.uptoBulkAll ((List.range len).map D) + Rows.uptoBulkAll ((List.range (m - len)).map fun j => D (len + j)) + 1 := by rw [hx, Rows.uptoBulk]
    rw [hwt] at hw
    have hlen : len ≤ 1954687338211 := by
      have := hw _ (List.mem_cons_self ..)
      unfold reachBytes at this
      omega
    rw [show Tryz.prog.cellsOf 26 = 7 by kernel_rfl] at hel
    have hone : ∀ i, i < len → ∃ p : C × T, (w.cells? 0 (a.add (i * 7)) 7 = some (encC p.1)) ∧ Is w p.1 p.2 ∧ sz p.2 ≤ Rows.uptoBulk (D i) := fun i hi => by
      obtain ⟨cs', h1, h2⟩ := hel i (by omega)
      obtain ⟨c, t, rfl, hi2, hs⟩ := each n cs' _ h2 (fun k hk => hw k (List.mem_cons_of_mem _ (List.mem_append_left _ (weight_mem 26 D len i hi k hk)))) (by have := bulk_range D len i hi; rw [hbk]; simp only; omega)
      exact ⟨(c, t), h1, hi2, hs⟩
    obtain ⟨F, hF⟩ := Go.Deep.choose_lt (α := C × T) (n := len) hone
    have hsz : szL ((List.range len).map fun i => (F i).2) < Rows.uptoBulk x.1 := by
      have := sz_range D (fun i => (F i).2) len fun i hi => (hF i hi).2.2
      rw [hbk]; omega
    refine ⟨some a, cap, (List.range len).map fun i => (F i).2, by simp, ⟨(List.range len).map fun i => (F i).1, ?_, by simp, fun j y u hy hu => ?_⟩, hsz, by simpa using hlen⟩
    · rcases Nat.eq_zero_or_pos len with rfl | hp
      · exact .inl ⟨_, _, rfl, rfl⟩
      obtain ⟨b, o, spot⟩ := a
      have hspot : spot = none := by
        obtain ⟨-, -, hc⟩ := World.cells?_some (hF 0 hp).1
        have h0 := hc 0 (by omega)
        simpa [Addr.add] using World.cell?_spot h0
      subst hspot
      refine .inr ⟨b, o, cap, by simp, fun j c hc => ?_⟩
      obtain ⟨hj, rfl⟩ := range_at _ hc
      obtain ⟨-, -, hc⟩ := World.cells?_some (hF j hj).1
      have hk : ∀ i, i < 7 → ∀ u, (encC (F j).1)[i]? = some u → w.cell? ⟨b, o + j * 7 + i, none⟩ = some u := fun i hi u hu => by
        have := hc i hi
        rw [Go.Deep.add_add, Go.WideShapes.add_plain] at this
        rw [Nat.add_assoc, this, hu]
      exact ⟨hk 0 (by omega) _ rfl, hk 1 (by omega) _ rfl, hk 2 (by omega) _ rfl, hk 3 (by omega) _ rfl, hk 4 (by omega) _ rfl, hk 5 (by omega) _ rfl, hk 6 (by omega) _ rfl⟩
    · obtain ⟨hj, rfl⟩ := range_at _ hy
      obtain ⟨_, rfl⟩ := range_at _ hu
      exact (hF j hj).2.1

set_option maxRecDepth 100000 in
/-- A tree that came in. -/
theorem is_of (N : Nat) : ∀ (fuel : Nat) (cs : List Value) (x : DataW H × List MemPlace), Rows.uptoBulk x.1 ≤ N → DataW.trod enc Tryz.prog w 0 spare held fuel 26 cs = some x → (∀ n ∈ x.1.weights Tryz.prog 26, n ≤ reachBytes) →
    ∃ (c : C) (t : T), cs = encC c ∧ Is w c t ∧ sz t ≤ Rows.uptoBulk x.1 := by
  induction N with
  | zero =>
    intro fuel cs x hN h _
    obtain ⟨xs, n, -, rfl, -⟩ := DataW.trod_struct Tryz.underlying26 h
    simp [Rows.uptoBulk] at hN
  | succ N ih =>
    intro fuel cs x hN h hw
    obtain ⟨xs, n, -, rfl, hl, hlen, hg⟩ := DataW.trod_struct Tryz.underlying26 h
    rw [show Tryz.prog.cellsOf 26 = 7 by kernel_rfl] at hl
    have h0 := hg 0 _ rfl
    have h1 := hg 1 _ rfl
    have h2 := hg 2 _ rfl
    have h3 := hg 3 _ rfl
    clear hg
    have q5 : Tryz.prog.cellsOf 5 = 1 := by kernel_rfl
    have q3 : Tryz.prog.cellsOf 3 = 1 := by kernel_rfl
    have q27 : Tryz.prog.cellsOf 23 = 4 := by kernel_rfl
    have q22 : Tryz.prog.cellsOf 24 = 1 := by kernel_rfl
    match xs, hlen with
    | [y0, y1, y2, y3], _ =>
    match cs, hl with
    | [c0, c1, c2, c3, c4, c5, c6], _ =>
    simp [q5] at h0
    simp [q27] at h1
    simp [q3] at h2
    simp [q22] at h3
    obtain ⟨k, hk, -, wk⟩ := DataW.trod_int Tryz.underlying5 h0
    obtain ⟨r, hr, hrf⟩ := r_of h1
    obtain ⟨i, hi, -, wi⟩ := DataW.trod_int Tryz.underlying3 h2
    have hbk : Rows.uptoBulk (DataW.agg (List.map (fun x => x.1) [y0, y1, y2, y3])) = Rows.uptoBulk y0.1 + (Rows.uptoBulk y1.1 + (Rows.uptoBulk y2.1 + (Rows.uptoBulk y3.1 + 0))) + 1 := by simp [Rows.uptoBulk, Rows.uptoBulkAll]
    have hwt : ∀ n ∈ y3.1.weights Tryz.prog 24, n ≤ reachBytes := fun n hn => hw n (by
      simp only [DataW.weights, Tryz.underlying26]
      simp [DataW.weightsEach, hn])
    obtain ⟨a, cap, l, hv, hrow, hsz, hll⟩ := row_of h3 hwt (fun fuel' cs' y hy hyw hlt => ih fuel' cs' y (by simp only at hN; rw [hbk] at hN; omega) hy hyw)
    simp at hk hr hi
    obtain ⟨rfl, rfl, rfl, rfl⟩ := hr
    subst hk; subst hi; subst hv
    refine ⟨⟨k, r, i, a, l.length, cap⟩, .node k r i l, rfl, ?_, ?_⟩
    · obtain ⟨cs', g1, g2, g3⟩ := hrow
      exact .mk ⟨k, r, i, a, l.length, cap⟩ l cs' g1 g2 ⟨byte_wf wk, hrf, fits_wf wi, hll⟩ g3
    · simp only
      rw [hbk, sz]; omega

/-- Numbers that came in. -/
theorem ints_of {fuel : Nat} {v : Value} {x : DataW H × List MemPlace} (h : DataW.trod enc Tryz.prog w 0 spare held fuel 27 [v] = some x) : ∃ ms : List Int, Row w v (ints ms) ∧ ∃ a cap, v = .slice a ms.length cap ∧ ms.length ≤ cap := by
  rcases open_ints Tryz.underlying27 Tryz.underlying3 (by kernel_rfl) h with ⟨hcs, _⟩ | ⟨a, l, c, zs, hcs, _, hl, hm, hz, _, hcell, hwz⟩
  · simp at hcs
    subst hcs
    exact ⟨[], ⟨none, 0, rfl, fun _ => ⟨rfl, rfl⟩, fun _ h => by cases h⟩, none, 0, rfl, Nat.le_refl _⟩
  · simp at hcs
    subst hcs
    have hlm : l ≤ zs.length := by rw [hz]; split <;> omega
    have htl : (zs.take l).length = l := by rw [List.length_take]; omega
    refine ⟨zs.take l, ⟨some a, c, by rw [ints_length, htl], fun h => (by cases h), fun y hy j u hu => ?_⟩, some a, c, by rw [htl], by rw [htl]; exact hl⟩
    cases hy
    unfold ints at hu
    rw [List.getElem?_map, Option.map_eq_some_iff] at hu
    obtain ⟨n, hn, rfl⟩ := hu
    have hjl : j < zs.length := by
      rcases Nat.lt_or_ge j zs.length with h | h
      · exact h
      · rw [List.getElem?_take, List.getElem?_eq_none h] at hn; split at hn <;> cases hn
    rw [hcell j hjl]
    rw [List.getElem?_take] at hn
    split at hn
    · rw [List.getD_eq_getElem?_getD, hn]; rfl
    · cases hn
end
end Go.Proofs.YtcdiogifgemjbaaGreat
