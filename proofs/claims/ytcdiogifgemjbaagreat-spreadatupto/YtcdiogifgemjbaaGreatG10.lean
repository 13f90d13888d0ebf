/- Texts of this seat, 3 in one file. -/
import Derived.Test.YtcdiogifgemjbaaGreatG09
import Derived.Laws.AppendOwn
import Derived.Laws.AppendOwnNone
import Derived.Lib.SliceRun
import Derived.WideShapes
/- Rows of rectangles in memory of the call's own: how they are made, copied, added to. -/
namespace Go.Proofs.YtcdiogifgemjbaaGreat
open Go.RowKit

/-- The cells of rectangles, one behind the other. -/
def flat (l : List R) : List Value := l.flatMap enc
theorem flat_length (l : List R) : (flat l).length = l.length * 4 := by
  induction l with
  | nil => rfl
  | cons r l ih => simp only [flat, List.flatMap_cons, List.length_append] at *; rw [ih]; simp [enc]; omega
theorem flat_append (a b : List R) : flat (a ++ b) = flat a ++ flat b := by simp [flat]
theorem flat_one (r : R) : flat [r] = enc r := by simp [flat]
theorem flat_get (l : List R) (j c : Nat) (r : R) (hj : l[j]? = some r) (hc : c < 4) : (flat l)[j * 4 + c]? = (enc r)[c]? := by
  induction l generalizing j with
  | nil => simp at hj
  | cons q l ih =>
    have he : flat (q :: l) = enc q ++ flat l := by simp [flat]
    rw [he]
    have hq : (enc q).length = 4 := rfl
    cases j with
    | zero =>
      simp at hj; subst hj
      rw [List.getElem?_append_left (by omega)]
      simp
    | succ j =>
      rw [List.getElem?_append_right (by omega), hq, show (j + 1) * 4 + c - 4 = j * 4 + c by omega]
      exact ih j (by simpa using hj)
theorem flat_oneCell (l : List R) : ∀ u ∈ flat l, u.oneCell' = true := by
  intro u hu
  simp only [flat, List.mem_flatMap] at hu
  obtain ⟨r, -, hr⟩ := hu
  simp [enc] at hr
  rcases hr with rfl | rfl | rfl | rfl <;> rfl

/-- A row of the call's own. -/
def Owns (w : World) (base : Nat) (v : Value) (l : List R) : Prop := w.ownsRow base 23 4 v l.length (flat l)

theorem rat_of_flat {w : World} {x : Addr} {l : List R} (h : ∀ j u, (flat l)[j]? = some u → w.cell? (x.add j) = some u) (b o : Nat) (hx : x = ⟨b, o, none⟩) (j : Nat) (r : R) (hj : l[j]? = some r) : RAt w b (o + j * 4) r := by
  subst hx
  have hc : ∀ c, c < 4 → ∀ u, (enc r)[c]? = some u → w.cell? ⟨b, o + j * 4 + c, none⟩ = some u := fun c hc u hu => by
    have := h (j * 4 + c) u (by rw [flat_get l j c r hj hc]; exact hu)
    rw [Go.WideShapes.add_plain] at this
    rw [Nat.add_assoc]; exact this
  exact ⟨hc 0 (by omega) _ rfl, hc 1 (by omega) _ rfl, hc 2 (by omega) _ rfl, hc 3 (by omega) _ rfl⟩

theorem Owns.row {w : World} {base : Nat} {v : Value} {l : List R} (h : Owns w base v l) : RRow w v l := by
  rcases h.2 with ⟨rfl, hn⟩ | ⟨g, cap, cur, rfl, hb, hg, hn, hm, hs, ht⟩
  · exact .inl ⟨_, _, rfl, List.length_eq_zero_iff.1 hn⟩
  · exact .inr ⟨g, 0, cap, rfl, fun j r hj => rat_of_flat (h.cells (g := g) rfl) g 0 rfl j r hj⟩

theorem Owns.up {w w' : World} {base : Nat} {v : Value} {l : List R} (h : Owns w base v l) (hb : Below w.heap.size w w') : Owns w' base v l := by
  refine ⟨h.1, ?_⟩
  rcases h.2 with hn | ⟨g, cap, cur, rfl, hg0, hg, rest⟩
  · exact .inl hn
  · exact .inr ⟨g, cap, cur, rfl, hg0, (hb.block g (Array.getElem?_eq_some_iff.1 hg).1).trans hg, rest⟩

theorem Owns.nil (w : World) (base : Nat) : Owns w base (.slice none 0 0) [] := World.ownsRow_nil w base _ _

theorem rat_cells {w : World} {b o : Nat} {l : List R} (h : ∀ (j : Nat) (r : R), l[j]? = some r → RAt w b (o + j * 4) r) : ∀ j u, (flat l)[j]? = some u → w.cell? ((⟨b, o, none⟩ : Addr).add j) = some u := fun j u hu => by
  have hj : j / 4 < l.length := by
    rcases Nat.lt_or_ge j (flat l).length with h1 | h1
    · rw [flat_length] at h1; omega
    · rw [List.getElem?_eq_none h1] at hu; cases hu
  have hr := List.getElem?_eq_getElem hj
  have hc : j % 4 < 4 := Nat.mod_lt _ (by omega)
  have e : j / 4 * 4 + j % 4 = j := by omega
  have h1 := flat_get l (j / 4) (j % 4) _ hr hc
  rw [e, hu] at h1
  obtain ⟨a0, a1, a2, a3⟩ := h _ _ hr
  rw [Go.WideShapes.add_plain]
  generalize hm : j % 4 = m at *
  have e' : o + j = o + j / 4 * 4 + m := by omega
  rw [e']
  match m, hc with
  | 0, _ => simp [enc] at h1; rw [h1]; exact a0
  | 1, _ => simp [enc] at h1; rw [h1]; exact a1
  | 2, _ => simp [enc] at h1; rw [h1]; exact a2
  | 3, _ => simp [enc] at h1; rw [h1]; exact a3

abbrev zeroR : Value := .agg #[.int .i64 0, .int .i64 0, .int .i64 0, .int .i64 0]
theorem rinfo : ∃ i, Tryz.prog.info? 23 = some i ∧ i.zero = some zeroR ∧ i.size = 4 ∧ i.bytes = 32 := info_parts (P := Tryz.prog) (e := 23) (z := zeroR) (size := 4) (bytes := 32) (by kernel_rfl)

end Go.Proofs.YtcdiogifgemjbaaGreat
/- Two rows of rectangles of the call's own, side by side: one is added to, the other stays. -/
namespace Go.Proofs.YtcdiogifgemjbaaGreat
open Go.RowKit

/-- Behind an append the row lies where it lay, or in a new block. -/
theorem append_place {w : World} {base : Nat} {v : Value} {l : List R} (h : Owns w base v l) (g : Nat) (r : R) (hr : RAt w g 0 r) (hlen : l.length ≤ 100000) (hbase : base ≤ w.heap.size) (ty : TypeId) :
    ∃ v' w', (Builtin.append_ #[64, 64] ty #[v, .slice (some ⟨g, 0, none⟩) 1 1]).run Tryz.prog w = .ok v' w' ∧ Owns w' base v' (l ++ [r]) ∧ w.grownBy w' v.ownBlock ∧ (v'.ownBlock = v.ownBlock ∨ v'.ownBlock = some w.heap.size) := by
  obtain ⟨i, hi, hz0, hz1, hz2⟩ := rinfo
  have hnews : ∀ j u, (flat [r])[j]? = some u → w.cell? ((⟨g, 0, none⟩ : Addr).add j) = some u := rat_cells (fun j q hq => by
    cases j with
    | zero => simp at hq; subst hq; simpa using hr
    | succ j => simp at hq)
  have hl : (flat [r]).length = 1 * 4 := rfl
  obtain ⟨v', w', hrun, hown, hg, -⟩ := run_append_own (P := Tryz.prog) w base 64 ty 23 i zeroR 4 32 Tryz.underlying64 hi hz0 hz1 hz2 rfl (by decide) v l.length (flat l) h ⟨g, 0, none⟩ 1 1 (flat [r]) hl hnews (flat_oneCell _) (by unfold maxLen; omega) (by omega) hbase
  refine ⟨v', w', hrun, ?_, hg, ?_⟩
  · have h2 : w'.ownsRow base 23 4 v' (l ++ [r]).length (flat (l ++ [r])) := by
      rw [flat_append, List.length_append]; exact hown
    exact h2
  · rcases h.2 with ⟨rfl, hn⟩ | ⟨g', cap, cur, rfl, hbg, hgg, hnc, hcm, hcs, htake⟩
    · have hr1 := run_append_nil (P := Tryz.prog) w 64 ty 23 i zeroR Tryz.underlying64 hi hz0 ⟨g, 0, none⟩ 1 1 (flat [r]) (by rw [hz1]; exact hl) hnews (by omega) (by omega) (by rw [hz2]; omega)
      rw [hrun] at hr1
      right
      cases hr1
      rfl
    · by_cases hroom : l.length + 1 ≤ cap
      · have hr1 := run_append_room (P := Tryz.prog) w 64 ty 23 i Tryz.underlying64 hi g' l.length cap cur hgg ⟨g, 0, none⟩ 1 1 (flat [r]) (by rw [hz1]; exact hl) hnews (flat_oneCell _) hroom (by rw [hz1, hl, hcs]; omega)
        rw [hrun] at hr1
        left
        cases hr1
        rfl
      · have hr1 := run_append_grow (P := Tryz.prog) w 64 ty 23 i zeroR Tryz.underlying64 hi hz0 ⟨g', 0, none⟩ l.length cap (flat l) (by rw [hz1]; exact h.1) (h.cells (g := g') rfl) ⟨g, 0, none⟩ 1 1 (flat [r]) (by rw [hz1]; exact hl) hnews (by omega) (by omega) (growslice_fits (by omega) (by rw [hz2]; omega))
        rw [hrun] at hr1
        right
        cases hr1
        rfl

/-- Two own rows, not in one block. -/
structure Two (w : World) (base : Nat) (v1 : Value) (l1 : List R) (v2 : Value) (l2 : List R) : Prop where
  own1 : Owns w base v1 l1
  own2 : Owns w base v2 l2
  ne : ∀ k, v1.ownBlock = some k → v2.ownBlock ≠ some k
theorem Two.swap {w : World} {base : Nat} {v1 : Value} {l1 : List R} {v2 : Value} {l2 : List R} (h : Two w base v1 l1 v2 l2) : Two w base v2 l2 v1 l1 := ⟨h.own2, h.own1, fun k h2 h1 => h.ne k h1 h2⟩
theorem Two.up {w w' : World} {base : Nat} {v1 : Value} {l1 : List R} {v2 : Value} {l2 : List R} (h : Two w base v1 l1 v2 l2) (hb : Below w.heap.size w w') : Two w' base v1 l1 v2 l2 := ⟨h.own1.up hb, h.own2.up hb, h.ne⟩

/-- One of two is added to. -/
theorem wp_two {w : World} {o : Oper} {a : Act} {K : Act → World → Prop} {Q : Exit → Act → World → Prop} (s x : Operand)
    (ho : o.op = .call { callee := .builtin .append, args := #[s, x], argTypes := #[64, 64] })
    (base : Nat) (v1 v2 : Value) (l1 l2 : List R) (g : Nat) (r : R) (hs : a.eval s = v1) (hT : Two w base v1 l1 v2 l2) (hx : a.eval x = .slice (some ⟨g, 0, none⟩) 1 1) (hr : RAt w g 0 r) (hlen : l1.length ≤ 100000)
    (w0 : World) (hb : Below base w0 w) (hbase0 : base ≤ w0.heap.size)
    (h : ∀ v' w', Two w' base v' (l1 ++ [r]) v2 l2 → Below base w0 w' → K (a.put o.dst v') w') : o.wp Tryz.prog a w K Q := by
  have hbase : base ≤ w.heap.size := Nat.le_trans hbase0 hb.size
  obtain ⟨v', w', hrun, hown, hg, hpl⟩ := append_place hT.own1 g r hr hlen hbase o.type
  have hT' : Two w' base v' (l1 ++ [r]) v2 l2 := by
    refine ⟨hown, hT.own2.kept hg ?_, fun k h1 h2 => ?_⟩
    · cases h2 : v2.ownBlock with
      | none => exact .inl rfl
      | some k => exact .inr fun h1 => hT.ne k h1.symm h2
    · rcases hpl with hp | hp
      · exact hT.ne k (hp ▸ h1) h2
      · have h3 := (hT.own2.lt k h2).2
        rw [hp] at h1
        have := Option.some.inj h1
        omega
  have hb' : Below base w0 w' := hb.grown hg hbase (fun k hk => (hT.own1.lt k hk).1)
  unfold Oper.wp execOp
  simp only [ho, resolve, invoke, builtin, Sem.run_bind, Sem.run_pure, Result.andThen_ok, List.map_toArray, List.map_cons, List.map_nil, hs, hx, hrun]
  exact h v' w' hT' hb'
theorem wpList_two {w : World} {ops : Array Oper} {rest : List Oper} {o : Oper} {a : Act} {Q : Exit → Act → World → Prop} (hgd : o.guard = none) (s x : Operand)
    (ho : o.op = .call { callee := .builtin .append, args := #[s, x], argTypes := #[64, 64] })
    (base : Nat) (v1 v2 : Value) (l1 l2 : List R) (g : Nat) (r : R) (hs : a.eval s = v1) (hT : Two w base v1 l1 v2 l2) (hx : a.eval x = .slice (some ⟨g, 0, none⟩) 1 1) (hr : RAt w g 0 r) (hlen : l1.length ≤ 100000)
    (w0 : World) (hb : Below base w0 w) (hbase0 : base ≤ w0.heap.size)
    (h : ∀ v' w', Two w' base v' (l1 ++ [r]) v2 l2 → Below base w0 w' → wpList Tryz.prog ops Q rest (a.put o.dst v') w') : wpList Tryz.prog ops Q (o :: rest) a w :=
  wpList_plain hgd fun _ hK => wp_two s x ho base v1 v2 l1 l2 g r hs hT hx hr hlen w0 hb hbase0 fun v' w' h1 h2 => hK _ _ (h v' w' h1 h2)
/-- .. as a step of a region that draws its order. -/
theorem step_two {w : World} {ops : Array Oper} {o : Oper} {a : Act} {K : Act → World → Prop} {Q : Exit → Act → World → Prop} {E : Prop} (hgd : o.guard = none) (s x : Operand)
    (ho : o.op = .call { callee := .builtin .append, args := #[s, x], argTypes := #[64, 64] })
    (base : Nat) (v1 v2 : Value) (l1 l2 : List R) (g : Nat) (r : R) (hs : a.eval s = v1) (hT : Two w base v1 l1 v2 l2) (hx : a.eval x = .slice (some ⟨g, 0, none⟩) 1 1) (hr : RAt w g 0 r) (hlen : l1.length ≤ 100000)
    (w0 : World) (hb : Below base w0 w) (hbase0 : base ≤ w0.heap.size)
    (h : ∀ v' w', Two w' base v' (l1 ++ [r]) v2 l2 → Below base w0 w' → K (a.put o.dst v') w') : if Region.wanted o (yielded ops a.tmps) = true then Oper.wp Tryz.prog o a w K Q else E := by
  have hw : Region.wanted o (yielded ops a.tmps) = true := by simp [Region.wanted, hgd]
  rw [if_pos hw]
  exact wp_two s x ho base v1 v2 l1 l2 g r hs hT hx hr hlen w0 hb hbase0 h
end Go.Proofs.YtcdiogifgemjbaaGreat
/- A cut across: the parts, and what is between them. -/
namespace Go.Proofs.YtcdiogifgemjbaaGreat
open Go.RowKit

/-- Numbers in a slice. -/
def IRow (w : World) (v : Value) (ms : List Int) : Prop :=
  (∃ a cap, v = .slice a 0 cap ∧ ms = []) ∨ ∃ b o cap, v = .slice (some ⟨b, o, none⟩) ms.length cap ∧ ∀ (j : Nat) (m : Int), ms[j]? = some m → w.cell? ⟨b, o + j, none⟩ = some (.int .i64 m)
theorem IRow.up {w w' : World} {v : Value} {ms : List Int} (h : IRow w v ms) (hb : Below w.heap.size w w') : IRow w' v ms := by
  rcases h with h | ⟨b, o, cap, h1, h2⟩
  · exact .inl h
  · exact .inr ⟨b, o, cap, h1, fun j m hm => (hb.cell (lt_of_cell (h2 j m hm))).trans (h2 j m hm)⟩
theorem IRow.shape {w : World} {v : Value} {ms : List Int} (hr : IRow w v ms) : ∃ a cap, v = .slice a ms.length cap := by
  rcases hr with ⟨a, cap, rfl, rfl⟩ | ⟨b, o, cap, rfl, -⟩
  · exact ⟨_, _, rfl⟩
  · exact ⟨_, _, rfl⟩
theorem IRow.place {w : World} {a : Option Addr} {cap : Nat} {ms : List Int} (hr : IRow w (.slice a ms.length cap) ms) (hp : 0 < ms.length) : ∃ b o, a = some ⟨b, o, none⟩ ∧ ∀ (j : Nat) (m : Int), ms[j]? = some m → w.cell? ⟨b, o + j, none⟩ = some (.int .i64 m) := by
  rcases hr with ⟨_, _, -, rfl⟩ | ⟨b, o, cap', he, hf⟩
  · simp at hp
  · obtain ⟨rfl, rfl⟩ : a = some ⟨b, o, none⟩ ∧ cap = cap' := by cases he; exact ⟨rfl, rfl⟩
    exact ⟨b, o, rfl, hf⟩

/-- Where the k-th size begins. -/
def offS (ms : List Int) (k : Nat) : Int := (ms.take k).foldl (fun n m => n + (m + 1)) 0
theorem off_succ {ms : List Int} {k : Nat} {m : Int} (h : ms[k]? = some m) : offS ms (k + 1) = offS ms k + (m + 1) := by
  unfold offS; rw [List.take_add_one, h, List.foldl_append]; rfl
theorem off_zero (ms : List Int) : offS ms 0 = 0 := rfl
/-- Where the first k sizes end. -/
def endS (ms : List Int) : Nat → Int
  | 0 => 0
  | k + 1 => offS ms (k + 1) - 1
theorem end_zero (ms : List Int) : endS ms 0 = 0 := rfl
theorem end_pos (ms : List Int) {k : Nat} (h : 0 < k) : endS ms k + 1 = offS ms k := by
  cases k with
  | zero => omega
  | succ k => simp only [endS]; omega
theorem end_succ {ms : List Int} {k : Nat} {m : Int} (h : ms[k]? = some m) : endS ms (k + 1) = offS ms k + m := by
  simp only [endS, off_succ h]; omega

/-- The first n sizes are ones that lie in a width. -/
def fitS (whole : Int) (ms : List Int) (n : Nat) : Prop := ∀ k m, k < n → ms[k]? = some m → 1 ≤ m ∧ offS ms k + m ≤ whole
theorem off_nonneg {whole : Int} {ms : List Int} {n : Nat} (h : fitS whole ms n) : ∀ k, k ≤ n → k ≤ ms.length → k ≤ offS ms k := by
  intro k
  induction k with
  | zero => intro _ _; simp [off_zero]
  | succ k ih =>
    intro h1 h2
    have hm := List.getElem?_eq_getElem (show k < ms.length by omega)
    have := h k _ (by omega) hm
    have := ih (by omega) (by omega)
    rw [off_succ hm]
    omega
/-- They, with what is between them, are just a width. -/
def fillP (whole : Int) (ms : List Int) : Prop := fitS whole ms ms.length ∧ offS ms ms.length = whole + 1

def turnR (r : R) : R := ⟨r.y, r.x, r.h, r.w⟩
theorem turn_turn (r : R) : turnR (turnR r) = r := rfl

theorem ident_any (r : R) (w : World) : Calls Tryz.prog 81 #[val r] w fun e w' => e = .returned (val (id r)) ∧ Below w.heap.size w w' := by
  have B1 : Hid (Below w.heap.size w ((w.alloc (box r)).alloc (box r))) := ((Below.refl _ _).alloc (Nat.le_refl _) _).alloc (by simp) _
  go_enter Tryz.func81, Tryz.ntmps81
  go_wp2
  (try simp only [Exit.inBlock, Exit.then])
  refine bodyPost_ret (results_cell_row rfl _ _ (w.heap.size + 1) 23 _ (0, 0) _ rfl (heap_alloc2_new w (box r) (box (id r))) Tryz.underlying23 rfl (by kernel_rfl)) rfl ?_
  exact ⟨rfl, B1.out⟩
theorem turn_any (r : R) (w : World) : Calls Tryz.prog 82 #[val r] w fun e w' => e = .returned (val (turnR r)) ∧ Below w.heap.size w w' := by
  have B1 : Hid (Below w.heap.size w ((w.alloc (box r)).alloc (box (turnR r)))) := ((Below.refl _ _).alloc (Nat.le_refl _) _).alloc (by simp) _
  go_enter Tryz.func82, Tryz.ntmps82
  go_wp2
  (try simp only [Exit.inBlock, Exit.then])
  refine bodyPost_ret (results_cell_row rfl _ _ (w.heap.size + 1) 23 _ (0, 0) _ rfl (heap_alloc2_new w (box r) (box (turnR r))) Tryz.underlying23 rfl (by kernel_rfl)) rfl ?_
  exact ⟨rfl, B1.out⟩

def FillSays (whole : Int) (ms : List Int) (e : Ending) : Prop := ∃ b : Bool, e = .returned (.bool b) ∧ (b = true ↔ fillP whole ms)

set_option maxRecDepth 100000 in
theorem fill_any (whole : Int) (v : Value) (ms : List Int) (w : World) (hr : IRow w v ms) (hlen : ms.length ≤ 100000) (h0 : 1 ≤ whole) (h1 : whole ≤ 10000) :
    Calls Tryz.prog 83 #[.int .i64 whole, v] w fun e w' => FillSays whole ms e ∧ w = w' := by
  obtain ⟨a, cap, rfl⟩ := hr.shape
  have HR := Lib.hid hr
  clear hr
  have hw : IntKind.i64.wrap (whole + 1) = whole + 1 := wrap_id (by omega)
  go_enter Tryz.func83, Tryz.ntmps83
  go_wp2
  go_loopg [5, 12] (ms.length + 1) (fun g s i wr => w = wr ∧ ∃ k : Nat, g + k = ms.length + 1 ∧ k ≤ ms.length ∧ i = .int .i64 k ∧ s = .int .i64 (whole + 1 - offS ms k) ∧ fitS whole ms k)
  case atStart => exact ⟨rfl, 0, by omega, by omega, rfl, by simp [off_zero], fun k m hk => by omega⟩
  case round =>
    obtain ⟨rfl, k, hg, hk, rfl, rfl, hfit⟩ := hrel
    have HB : Hid (fitS whole ms k ∧ gk + k = ms.length + 1) := ⟨hfit, hg⟩
    have hoff := off_nonneg hfit k (Nat.le_refl _) hk
    have hoff2 : offS ms k ≤ whole + 1 := by
      rcases Nat.eq_zero_or_pos k with h | h
      · subst h; rw [off_zero]; omega
      · obtain ⟨j, rfl⟩ : ∃ j, k = j + 1 := ⟨k - 1, by omega⟩
        have hm := List.getElem?_eq_getElem (show j < ms.length by omega)
        have := hfit j _ (by omega) hm
        rw [off_succ hm]; omega
    clear hfit hg
    by_cases hlt : k < ms.length
    · obtain ⟨m, hm⟩ : ∃ m, ms[k]? = some m := ⟨_, List.getElem?_eq_getElem hlt⟩
      obtain ⟨b, o, rfl, hat⟩ := HR.out.place (by omega)
      have c0 := hat k m hm
      have HM := Lib.hid hm
      have HS := Lib.hid (off_succ hm)
      clear hat hm
      obtain ⟨f, hf⟩ : ∃ f, whole + 1 - offS ms k = f := ⟨_, rfl⟩
      rw [hf]
      have HF := Lib.hid hf
      have hfb : 0 ≤ f ∧ f ≤ whole + 1 := by omega
      clear hf hoff hoff2
      by_cases h2 : m < 1
      · have d1 : decide (m < 1) = true := decide_eq_true h2
        go_wp2
        go_ret
        refine ⟨⟨false, rfl, ?_⟩, rfl⟩
        simp only [Bool.false_eq_true, false_iff]
        intro h
        have := h.1 k m hlt HM.out
        omega
      · have d1 : decide (m < 1) = false := decide_eq_false h2
        by_cases h3 : f ≤ m
        · have d2 : decide (f ≤ m) = true := decide_eq_true h3
          go_wp2
          go_ret
          refine ⟨⟨false, rfl, ?_⟩, rfl⟩
          simp only [Bool.false_eq_true, false_iff]
          intro h
          have := h.1 k m hlt HM.out
          have := HF.out
          omega
        · have d2 : decide (f ≤ m) = false := decide_eq_false h3
          have s1 : IntKind.i64.wrap (m + 1) = m + 1 := wrap_id (by omega)
          have s2 : IntKind.i64.wrap (f - (m + 1)) = f - (m + 1) := wrap_id (by omega)
          go_wp2
          go_roundg (gk - 1)
          case measure => have := HB.out.2; omega
          case rel =>
            refine ⟨rfl, k + 1, ?_, by omega, by go_num, ?_, ?_⟩
            · have := HB.out.2; omega
            · rw [HS.out, ← HF.out]
              exact congrArg (Value.int .i64) (by omega)
            · intro j m' hj hm'
              rcases Nat.lt_or_ge j k with h | h
              · exact HB.out.1 j m' h hm'
              · obtain rfl : j = k := by omega
                have := HM.out.symm.trans hm'
                obtain rfl := Option.some.inj this
                have := HF.out
                omega
    · obtain rfl : k = ms.length := by omega
      have hkl : ((ms.length : Int) < (ms.length : Int)) = False := by simp
      obtain ⟨f, hf⟩ : ∃ f, whole + 1 - offS ms ms.length = f := ⟨_, rfl⟩
      rw [hf]
      have HF := Lib.hid hf
      clear hf
      by_cases hz : f = 0
      · subst hz
        go_wp2
        go_ret
        refine ⟨⟨true, rfl, ?_⟩, rfl⟩
        simp only [true_iff]
        exact ⟨HB.out.1, by have := HF.out; omega⟩
      · have d : (f == 0) = false := by rw [beq_eq_false_iff_ne]; exact hz
        go_wp2
        go_ret
        refine ⟨⟨false, rfl, ?_⟩, rfl⟩
        simp only [Bool.false_eq_true, false_iff]
        intro h
        have := h.2
        have := HF.out
        omega
end Go.Proofs.YtcdiogifgemjbaaGreat
