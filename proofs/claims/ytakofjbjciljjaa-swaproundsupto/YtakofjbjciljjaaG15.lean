/- Texts of this seat, 3 in one file. -/
import Derived.Test.YtakofjbjciljjaaG14
/- Two rows of rectangles of the call's own, side by side: one is added to, the other stays. -/
namespace Go.Proofs.Ytakofjbjciljjaa
open Go.RowKit

/-- Behind an append the row lies where it lay, or in a new block. -/
theorem append_place {w : World} {base : Nat} {v : Value} {l : List R} (h : Owns w base v l) (g : Nat) (r : R) (hr : RAt w g 0 r) (hlen : l.length ≤ 100000) (hbase : base ≤ w.heap.size) (ty : TypeId) :
    ∃ v' w', (Builtin.append_ #[56, 56] ty #[v, .slice (some ⟨g, 0, none⟩) 1 1]).run Try.prog w = .ok v' w' ∧ Owns w' base v' (l ++ [r]) ∧ w.grownBy w' v.ownBlock ∧ (v'.ownBlock = v.ownBlock ∨ v'.ownBlock = some w.heap.size) := by
  obtain ⟨i, hi, hz0, hz1, hz2⟩ := rinfo
  have hnews : ∀ j u, (flat [r])[j]? = some u → w.cell? ((⟨g, 0, none⟩ : Addr).add j) = some u := rat_cells (fun j q hq => by
    cases j with
    | zero => simp at hq; subst hq; simpa using hr
    | succ j => simp at hq)
  have hl : (flat [r]).length = 1 * 4 := rfl
  obtain ⟨v', w', hrun, hown, hg, -⟩ := run_append_own (P := Try.prog) w base 56 ty 23 i zeroR 4 32 Try.underlying56 hi hz0 hz1 hz2 rfl (by decide) v l.length (flat l) h ⟨g, 0, none⟩ 1 1 (flat [r]) hl hnews (flat_oneCell _) (by unfold maxLen; omega) (by omega) hbase
  refine ⟨v', w', hrun, ?_, hg, ?_⟩
  · have h2 : w'.ownsRow base 23 4 v' (l ++ [r]).length (flat (l ++ [r])) := by
      rw [flat_append, List.length_append]; exact hown
    exact h2
  · rcases h.2 with ⟨rfl, hn⟩ | ⟨g', cap, cur, rfl, hbg, hgg, hnc, hcm, hcs, htake⟩
    · have hr1 := run_append_nil (P := Try.prog) w 56 ty 23 i zeroR Try.underlying56 hi hz0 ⟨g, 0, none⟩ 1 1 (flat [r]) (by rw [hz1]; exact hl) hnews (by omega) (by omega) (by rw [hz2]; omega)
      rw [hrun] at hr1
      right
      cases hr1
      rfl
    · by_cases hroom : l.length + 1 ≤ cap
      · have hr1 := run_append_room (P := Try.prog) w 56 ty 23 i Try.underlying56 hi g' l.length cap cur hgg ⟨g, 0, none⟩ 1 1 (flat [r]) (by rw [hz1]; exact hl) hnews (flat_oneCell _) hroom (by rw [hz1, hl, hcs]; omega)
        rw [hrun] at hr1
        left
        cases hr1
        rfl
      · have hr1 := run_append_grow (P := Try.prog) w 56 ty 23 i zeroR Try.underlying56 hi hz0 ⟨g', 0, none⟩ l.length cap (flat l) (by rw [hz1]; exact h.1) (h.cells (g := g') rfl) ⟨g, 0, none⟩ 1 1 (flat [r]) (by rw [hz1]; exact hl) hnews (by omega) (by omega) (growslice_fits (by omega) (by rw [hz2]; omega))
        rw [hrun] at hr1
        right
        cases hr1
        rfl

/-- Two own rows, not in one block. -/
structure Two (w : World) (base : Nat) (v1 : Value) (l1 : List R) (v2 : Value) (l2 : List R) : Prop where
  own1 : Owns w base v1 l1
  own2 : Owns w base v2 l2
  ne : ∀ k, v1.ownBlock = some k → v2.ownBlock ≠ some k
theorem Two.swap {w : World} {base : Nat} {v1 : Value} {l1 : List R} {v2 : Value} {l2 : List R} (h : Two w base v1 l1 v2 l2) : Two w base v2 l2 v1 l1 := ⟨h.own2, h.own1, fun k h2 h1 => h.ne k h1 h2⟩
theorem Two.up {w w' : World} {base : Nat} {v1 : Value} {l1 : List R} {v2 : Value} {l2 : List R} (h : Two w base v1 l1 v2 l2) (hb : Below w.heap.size w w') : Two w' base v1 l1 v2 l2 := ⟨h.own1.up hb, h.own2.up hb, h.ne⟩

/-- One of two is added to. -/
theorem wp_two {w : World} {o : Oper} {a : Act} {K : Act → World → Prop} {Q : Exit → Act → World → Prop} (s x : Operand)
    (ho : o.op = .call { callee := .builtin .append, args := #[s, x], argTypes := #[56, 56] })
    (base : Nat) (v1 v2 : Value) (l1 l2 : List R) (g : Nat) (r : R) (hs : a.eval s = v1) (hT : Two w base v1 l1 v2 l2) (hx : a.eval x = .slice (some ⟨g, 0, none⟩) 1 1) (hr : RAt w g 0 r) (hlen : l1.length ≤ 100000)
    (w0 : World) (hb : Below base w0 w) (hbase0 : base ≤ w0.heap.size)
    (h : ∀ v' w', Two w' base v' (l1 ++ [r]) v2 l2 → Below base w0 w' → K (a.put o.dst v') w') : o.wp Try.prog a w K Q := by
  have hbase : base ≤ w.heap.size := Nat.le_trans hbase0 hb.size
  obtain ⟨v', w', hrun, hown, hg, hpl⟩ := append_place hT.own1 g r hr hlen hbase o.type
  have hT' : Two w' base v' (l1 ++ [r]) v2 l2 := by
    refine ⟨hown, hT.own2.kept hg ?_, fun k h1 h2 => ?_⟩
    · cases h2 : v2.ownBlock with
      | none => exact .inl rfl
      | some k => exact .inr fun h1 => hT.ne k h1.symm h2
    · rcases hpl with hp | hp
      · exact hT.ne k (hp ▸ h1) h2
      · have h3 := (hT.own2.lt k h2).2
        rw [hp] at h1
        have := Option.some.inj h1
        omega
  have hb' : Below base w0 w' := hb.grown hg hbase (fun k hk => (hT.own1.lt k hk).1)
  unfold Oper.wp execOp
  simp only [ho, resolve, invoke, builtin, Sem.run_bind, Sem.run_pure, Result.andThen_ok, List.map_toArray, List.map_cons, List.map_nil, hs, hx, hrun]
  exact h v' w' hT' hb'
theorem wpList_two {w : World} {ops : Array Oper} {rest : List Oper} {o : Oper} {a : Act} {Q : Exit → Act → World → Prop} (hgd : o.guard = none) (s x : Operand)
    (ho : o.op = .call { callee := .builtin .append, args := #[s, x], argTypes := #[56, 56] })
    (base : Nat) (v1 v2 : Value) (l1 l2 : List R) (g : Nat) (r : R) (hs : a.eval s = v1) (hT : Two w base v1 l1 v2 l2) (hx : a.eval x = .slice (some ⟨g, 0, none⟩) 1 1) (hr : RAt w g 0 r) (hlen : l1.length ≤ 100000)
    (w0 : World) (hb : Below base w0 w) (hbase0 : base ≤ w0.heap.size)
    (h : ∀ v' w', Two w' base v' (l1 ++ [r]) v2 l2 → Below base w0 w' → wpList Try.prog ops Q rest (a.put o.dst v') w') : wpList Try.prog ops Q (o :: rest) a w :=
  wpList_plain hgd fun _ hK => wp_two s x ho base v1 v2 l1 l2 g r hs hT hx hr hlen w0 hb hbase0 fun v' w' h1 h2 => hK _ _ (h v' w' h1 h2)
/-- .. as a step of a region that draws its order. -/
theorem step_two {w : World} {ops : Array Oper} {o : Oper} {a : Act} {K : Act → World → Prop} {Q : Exit → Act → World → Prop} {E : Prop} (hgd : o.guard = none) (s x : Operand)
    (ho : o.op = .call { callee := .builtin .append, args := #[s, x], argTypes := #[56, 56] })
    (base : Nat) (v1 v2 : Value) (l1 l2 : List R) (g : Nat) (r : R) (hs : a.eval s = v1) (hT : Two w base v1 l1 v2 l2) (hx : a.eval x = .slice (some ⟨g, 0, none⟩) 1 1) (hr : RAt w g 0 r) (hlen : l1.length ≤ 100000)
    (w0 : World) (hb : Below base w0 w) (hbase0 : base ≤ w0.heap.size)
    (h : ∀ v' w', Two w' base v' (l1 ++ [r]) v2 l2 → Below base w0 w' → K (a.put o.dst v') w') : if Region.wanted o (yielded ops a.tmps) = true then Oper.wp Try.prog o a w K Q else E := by
  have hw : Region.wanted o (yielded ops a.tmps) = true := by simp [Region.wanted, hgd]
  rw [if_pos hw]
  exact wp_two s x ho base v1 v2 l1 l2 g r hs hT hx hr hlen w0 hb hbase0 h
end Go.Proofs.Ytakofjbjciljjaa
/- A cut across: the parts, and what is between them. -/
namespace Go.Proofs.Ytakofjbjciljjaa
open Go.RowKit

/-- Numbers in a slice. -/
def IRow (w : World) (v : Value) (ms : List Int) : Prop :=
  (∃ a cap, v = .slice a 0 cap ∧ ms = []) ∨ ∃ b o cap, v = .slice (some ⟨b, o, none⟩) ms.length cap ∧ ∀ (j : Nat) (m : Int), ms[j]? = some m → w.cell? ⟨b, o + j, none⟩ = some (.int .i64 m)
theorem IRow.up {w w' : World} {v : Value} {ms : List Int} (h : IRow w v ms) (hb : Below w.heap.size w w') : IRow w' v ms := by
  rcases h with h | ⟨b, o, cap, h1, h2⟩
  · exact .inl h
  · exact .inr ⟨b, o, cap, h1, fun j m hm => (hb.cell (lt_of_cell (h2 j m hm))).trans (h2 j m hm)⟩
theorem IRow.shape {w : World} {v : Value} {ms : List Int} (hr : IRow w v ms) : ∃ a cap, v = .slice a ms.length cap := by
  rcases hr with ⟨a, cap, rfl, rfl⟩ | ⟨b, o, cap, rfl, -⟩
  · exact ⟨_, _, rfl⟩
  · exact ⟨_, _, rfl⟩
theorem IRow.place {w : World} {a : Option Addr} {cap : Nat} {ms : List Int} (hr : IRow w (.slice a ms.length cap) ms) (hp : 0 < ms.length) : ∃ b o, a = some ⟨b, o, none⟩ ∧ ∀ (j : Nat) (m : Int), ms[j]? = some m → w.cell? ⟨b, o + j, none⟩ = some (.int .i64 m) := by
  rcases hr with ⟨_, _, -, rfl⟩ | ⟨b, o, cap', he, hf⟩
  · simp at hp
  · obtain ⟨rfl, rfl⟩ : a = some ⟨b, o, none⟩ ∧ cap = cap' := by cases he; exact ⟨rfl, rfl⟩
    exact ⟨b, o, rfl, hf⟩

/-- Where the k-th size begins. -/
def offS (ms : List Int) (k : Nat) : Int := (ms.take k).foldl (fun n m => n + (m + 1)) 0
theorem off_succ {ms : List Int} {k : Nat} {m : Int} (h : ms[k]? = some m) : offS ms (k + 1) = offS ms k + (m + 1) := by
  unfold offS; rw [List.take_add_one, h, List.foldl_append]; rfl
theorem off_zero (ms : List Int) : offS ms 0 = 0 := rfl
/-- Where the first k sizes end. -/
def endS (ms : List Int) : Nat → Int
  | 0 => 0
  | k + 1 => offS ms (k + 1) - 1
theorem end_zero (ms : List Int) : endS ms 0 = 0 := rfl
theorem end_pos (ms : List Int) {k : Nat} (h : 0 < k) : endS ms k + 1 = offS ms k := by
  cases k with
  | zero => omega
  | succ k => simp only [endS]; omega
theorem end_succ {ms : List Int} {k : Nat} {m : Int} (h : ms[k]? = some m) : endS ms (k + 1) = offS ms k + m := by
  simp only [endS, off_succ h]; omega

/-- The first n sizes are ones that lie in a width. -/
def fitS (whole : Int) (ms : List Int) (n : Nat) : Prop := ∀ k m, k < n → ms[k]? = some m → 1 ≤ m ∧ offS ms k + m ≤ whole
theorem off_nonneg {whole : Int} {ms : List Int} {n : Nat} (h : fitS whole ms n) : ∀ k, k ≤ n → k ≤ ms.length → k ≤ offS ms k := by
  intro k
  induction k with
  | zero => intro _ _; simp [off_zero]
  | succ k ih =>
    intro h1 h2
    have hm := List.getElem?_eq_getElem (show k < ms.length by omega)
    have := h k _ (by omega) hm
    have := ih (by omega) (by omega)
    rw [off_succ hm]
    omega
/-- They, with what is between them, are just a width. -/
def fillP (whole : Int) (ms : List Int) : Prop := fitS whole ms ms.length ∧ offS ms ms.length = whole + 1

def turnR (r : R) : R := ⟨r.y, r.x, r.h, r.w⟩
theorem turn_turn (r : R) : turnR (turnR r) = r := rfl

theorem ident_any (r : R) (w : World) : Calls Try.prog 82 #[val r] w fun e w' => e = .returned (val (id r)) ∧ Below w.heap.size w w' := by
  have B1 : Hid (Below w.heap.size w ((w.alloc (box r)).alloc (box r))) := ((Below.refl _ _).alloc (Nat.le_refl _) _).alloc (by simp) _
  go_enter Try.func82, Try.ntmps82
  go_wp2
  (try simp only [Exit.inBlock, Exit.then])
  refine bodyPost_ret (results_cell_row rfl _ _ (w.heap.size + 1) 23 _ (0, 0) _ rfl (heap_alloc2_new w (box r) (box (id r))) Try.underlying23 rfl (by kernel_rfl)) rfl ?_
  exact ⟨rfl, B1.out⟩
theorem turn_any (r : R) (w : World) : Calls Try.prog 83 #[val r] w fun e w' => e = .returned (val (turnR r)) ∧ Below w.heap.size w w' := by
  have B1 : Hid (Below w.heap.size w ((w.alloc (box r)).alloc (box (turnR r)))) := ((Below.refl _ _).alloc (Nat.le_refl _) _).alloc (by simp) _
  go_enter Try.func83, Try.ntmps83
  go_wp2
  (try simp only [Exit.inBlock, Exit.then])
  refine bodyPost_ret (results_cell_row rfl _ _ (w.heap.size + 1) 23 _ (0, 0) _ rfl (heap_alloc2_new w (box r) (box (turnR r))) Try.underlying23 rfl (by kernel_rfl)) rfl ?_
  exact ⟨rfl, B1.out⟩

def FillSays (whole : Int) (ms : List Int) (e : Ending) : Prop := ∃ b : Bool, e = .returned (.bool b) ∧ (b = true ↔ fillP whole ms)

set_option maxRecDepth 100000 in
theorem fill_any (whole : Int) (v : Value) (ms : List Int) (w : World) (hr : IRow w v ms) (hlen : ms.length ≤ 100000) (h0 : 1 ≤ whole) (h1 : whole ≤ 10000) :
    Calls Try.prog 84 #[.int .i64 whole, v] w fun e w' => FillSays whole ms e ∧ w = w' := by
  obtain ⟨a, cap, rfl⟩ := hr.shape
  have HR := Lib.hid hr
  clear hr
  have hw : IntKind.i64.wrap (whole + 1) = whole + 1 := wrap_id (by omega)
  go_enter Try.func84, Try.ntmps84
  go_wp2
  go_loopg [5, 12] (ms.length + 1) (fun g s i wr => w = wr ∧ ∃ k : Nat, g + k = ms.length + 1 ∧ k ≤ ms.length ∧ i = .int .i64 k ∧ s = .int .i64 (whole + 1 - offS ms k) ∧ fitS whole ms k)
  case atStart => exact ⟨rfl, 0, by omega, by omega, rfl, by simp [off_zero], fun k m hk => by omega⟩
  case round =>
    obtain ⟨rfl, k, hg, hk, rfl, rfl, hfit⟩ := hrel
    have HB : Hid (fitS whole ms k ∧ gk + k = ms.length + 1) := ⟨hfit, hg⟩
    have hoff := off_nonneg hfit k (Nat.le_refl _) hk
    have hoff2 : offS ms k ≤ whole + 1 := by
      rcases Nat.eq_zero_or_pos k with h | h
      · subst h; rw [off_zero]; omega
      · obtain ⟨j, rfl⟩ : ∃ j, k = j + 1 := ⟨k - 1, by omega⟩
        have hm := List.getElem?_eq_getElem (show j < ms.length by omega)
        have := hfit j _ (by omega) hm
        rw [off_succ hm]; omega
    clear hfit hg
    by_cases hlt : k < ms.length
    · obtain ⟨m, hm⟩ : ∃ m, ms[k]? = some m := ⟨_, List.getElem?_eq_getElem hlt⟩
      obtain ⟨b, o, rfl, hat⟩ := HR.out.place (by omega)
      have c0 := hat k m hm
      have HM := Lib.hid hm
      have HS := Lib.hid (off_succ hm)
      clear hat hm
      obtain ⟨f, hf⟩ : ∃ f, whole + 1 - offS ms k = f := ⟨_, rfl⟩
      rw [hf]
      have HF := Lib.hid hf
      have hfb : 0 ≤ f ∧ f ≤ whole + 1 := by omega
      clear hf hoff hoff2
      by_cases h2 : m < 1
      · have d1 : decide (m < 1) = true := decide_eq_true h2
        go_wp2
        go_ret
        refine ⟨⟨false, rfl, ?_⟩, rfl⟩
        simp only [Bool.false_eq_true, false_iff]
        intro h
        have := h.1 k m hlt HM.out
        omega
      · have d1 : decide (m < 1) = false := decide_eq_false h2
        by_cases h3 : f ≤ m
        · have d2 : decide (f ≤ m) = true := decide_eq_true h3
          go_wp2
          go_ret
          refine ⟨⟨false, rfl, ?_⟩, rfl⟩
          simp only [Bool.false_eq_true, false_iff]
          intro h
          have := h.1 k m hlt HM.out
          have := HF.out
          omega
        · have d2 : decide (f ≤ m) = false := decide_eq_false h3
          have s1 : IntKind.i64.wrap (m + 1) = m + 1 := wrap_id (by omega)
          have s2 : IntKind.i64.wrap (f - (m + 1)) = f - (m + 1) := wrap_id (by omega)
          go_wp2
          go_roundg (gk - 1)
          case measure => have := HB.out.2; omega
          case rel =>
            refine ⟨rfl, k + 1, ?_, by omega, by go_num, ?_, ?_⟩
            · have := HB.out.2; omega
            · rw [HS.out, ← HF.out]
              exact congrArg (Value.int .i64) (by omega)
            · intro j m' hj hm'
              rcases Nat.lt_or_ge j k with h | h
              · exact HB.out.1 j m' h hm'
              · obtain rfl : j = k := by omega
                have := HM.out.symm.trans hm'
                obtain rfl := Option.some.inj this
                have := HF.out
                omega
    · obtain rfl : k = ms.length := by omega
      have hkl : ((ms.length : Int) < (ms.length : Int)) = False := by simp
      obtain ⟨f, hf⟩ : ∃ f, whole + 1 - offS ms ms.length = f := ⟨_, rfl⟩
      rw [hf]
      have HF := Lib.hid hf
      clear hf
      by_cases hz : f = 0
      · subst hz
        go_wp2
        go_ret
        refine ⟨⟨true, rfl, ?_⟩, rfl⟩
        simp only [true_iff]
        exact ⟨HB.out.1, by have := HF.out; omega⟩
      · have d : (f == 0) = false := by rw [beq_eq_false_iff_ne]; exact hz
        go_wp2
        go_ret
        refine ⟨⟨false, rfl, ?_⟩, rfl⟩
        simp only [Bool.false_eq_true, false_iff]
        intro h
        have := h.2
        have := HF.out
        omega
end Go.Proofs.Ytakofjbjciljjaa
/- A cut across: what across makes. -/
namespace Go.Proofs.Ytakofjbjciljjaa
open Go.RowKit

def partK (o : R) (tb : R → R) (ms : List Int) (k : Nat) : R := tb ⟨o.x + offS ms k, o.y, ms.getD k 0, o.h⟩
def lineK (o : R) (tb : R → R) (ms : List Int) (k : Nat) : R := tb ⟨o.x + endS ms k, o.y, 1, o.h⟩
/-- The first k parts. -/
def partsL (o : R) (tb : R → R) (ms : List Int) : Nat → List R
  | 0 => []
  | k + 1 => partsL o tb ms k ++ [partK o tb ms k]
/-- What is between them. -/
def linesL (o : R) (tb : R → R) (ms : List Int) : Nat → List R
  | 0 => []
  | 1 => []
  | k + 2 => linesL o tb ms (k + 1) ++ [lineK o tb ms (k + 1)]
theorem partsL_length (o : R) (tb : R → R) (ms : List Int) (k : Nat) : (partsL o tb ms k).length = k := by
  induction k with
  | zero => rfl
  | succ k ih => simp [partsL, ih]
theorem linesL_length (o : R) (tb : R → R) (ms : List Int) (k : Nat) : (linesL o tb ms k).length = k - 1 := by
  induction k with
  | zero => rfl
  | succ k ih =>
    cases k with
    | zero => rfl
    | succ k => simp only [linesL, List.length_append, ih]; simp
theorem partsL_succ {o : R} {tb : R → R} {ms : List Int} {k : Nat} {m : Int} (h : ms[k]? = some m) : partsL o tb ms (k + 1) = partsL o tb ms k ++ [tb ⟨o.x + offS ms k, o.y, m, o.h⟩] := by
  rw [partsL, partK, List.getD_eq_getElem?_getD, h]; rfl
theorem linesL_pos {o : R} {tb : R → R} {ms : List Int} {k : Nat} (h : 0 < k) : linesL o tb ms (k + 1) = linesL o tb ms k ++ [tb ⟨o.x + endS ms k, o.y, 1, o.h⟩] := by
  cases k with
  | zero => omega
  | succ k => rfl

theorem off_le {whole : Int} {ms : List Int} {n : Nat} (h : fitS whole ms n) {k : Nat} (hk : k ≤ n) (hl : k ≤ ms.length) (h0 : 1 ≤ whole) : 0 ≤ endS ms k ∧ endS ms k ≤ whole := by
  cases k with
  | zero => rw [end_zero]; omega
  | succ k =>
    have hm := List.getElem?_eq_getElem (show k < ms.length by omega)
    have h1 := h k _ (by omega) hm
    have h2 := off_nonneg h k (by omega) (by omega)
    rw [end_succ hm]
    omega

set_option maxRecDepth 100000 in
set_option maxHeartbeats 3200000 in
theorem across_any (F : Nat) (hE : Enters F) (tb : R → R) (hF : ∀ (r : R) (W : World), Calls Try.prog F #[val r] W fun e w' => e = .returned (val (tb r)) ∧ Below W.heap.size W w')
    (o : R) (v : Value) (ms : List Int) (w : World) (ho : mayB o = true) (hr : IRow w v ms) (hlen : ms.length ≤ 100000) (hfit : fitS o.w ms ms.length) :
    Calls Try.prog 85 #[val o, v, .func (.func F) #[] #[]] w fun e w' => ∃ v1 v2, e = .returned (.tuple #[v1, v2]) ∧ RRow w' v1 (partsL o tb ms ms.length) ∧ RRow w' v2 (linesL o tb ms ms.length) ∧ Below w.heap.size w w' := by
  obtain ⟨a, cap, rfl⟩ := hr.shape
  have hent : ∀ (args : Array Value) (w : World), (callFunc F args).run Try.prog w = .ok (.enter F args) w := hE
  have hb := (mayB_iff o).1 ho
  have HR := Lib.hid hr
  have HF := Lib.hid hF
  have HT := Lib.hid hfit
  have HO : Hid ((0 ≤ o.x ∧ 1 ≤ o.w ∧ o.x + o.w ≤ 10000) ∧ 0 ≤ o.y ∧ 1 ≤ o.h ∧ o.y + o.h ≤ 10000) := hb
  clear hr hF hfit hE hb
  have B1 : Hid (Below w.heap.size w (w.alloc (box o))) := (Below.refl _ _).alloc (Nat.le_refl _) _
  have HA : Hid (RAt (w.alloc (box o)) w.heap.size 0 o) := rat_new w o
  go_enter Try.func85, Try.ntmps85
  go_wp2
  go_loopg [6, 7, 8, 15] (ms.length + 1) (fun g s6 s7 s8 i wr => ∃ k : Nat, g + k = ms.length + 1 ∧ k ≤ ms.length ∧ i = .int .i64 k ∧ s8 = .int .i64 (o.x + endS ms k) ∧ Two wr (w.heap.size + 1) s6 (partsL o tb ms k) s7 (linesL o tb ms k) ∧ Below (w.heap.size + 1) (w.alloc (box o)) wr)
  case atStart => exact ⟨0, by omega, by omega, rfl, by simp [end_zero], ⟨Owns.nil _ _, Owns.nil _ _, fun k h => by cases h⟩, Below.refl _ _⟩
  case round =>
    obtain ⟨k, hg, hk, rfl, rfl, hT, hB⟩ := hrel
    have TW := Lib.hid hT
    have HB : Hid (Below (w.heap.size + 1) (w.alloc (box o)) wr ∧ gk + k = ms.length + 1) := ⟨hB, hg⟩
    clear hT hB hg
    have HBw : Hid (Below w.heap.size w wr) := B1.out.trans (HB.out.1.mono (by omega))
    have hA0 := HB.out.1.mono (show (w.alloc (box o)).heap.size ≤ w.heap.size + 1 by simp)
    have HA1 := Lib.hid (HA.out.up hA0)
    clear hA0
    by_cases hlt : k < ms.length
    · obtain ⟨m, hm⟩ : ∃ m, ms[k]? = some m := ⟨_, List.getElem?_eq_getElem hlt⟩
      obtain ⟨b, off, rfl, hat⟩ := HR.out.place (by omega)
      have cm := (HBw.out.cell (lt_of_cell (hat k m hm))).trans (hat k m hm)
      clear hat
      have HM := Lib.hid hm
      clear hm
      obtain ⟨c0, c1, c2, c3⟩ := HA1.out
      have hfm := HT.out k m hlt HM.out
      have hoff := off_nonneg HT.out k hk hk
      have hend := off_le HT.out hk hk HO.out.1.2.1
      have HE := Lib.hid (end_succ HM.out)
      have hbs : Hid (w.heap.size + 1 ≤ (w.alloc (box o)).heap.size) := (by simp : w.heap.size + 1 ≤ (w.alloc (box o)).heap.size)
      rcases Nat.eq_zero_or_pos k with hk0 | hkp
      · have hz : offS ms k = 0 := by rw [hk0]; rfl
        have he0 : endS ms k = 0 := by rw [hk0]; rfl
        have hl0 : Hid (linesL o tb ms (k + 1) = linesL o tb ms k) := (by rw [hk0]; rfl : linesL o tb ms (k + 1) = linesL o tb ms k)
        obtain ⟨x, hx⟩ : ∃ x, o.x + endS ms k = x := ⟨_, rfl⟩
        rw [hx]
        have HX : Hid (x = o.x) := (by omega : x = o.x)
        have HO2 : Hid (offS ms k = 0) := hz
        have HQ : Hid (tb ⟨o.x + offS ms k, o.y, m, o.h⟩ = tb ⟨x, o.y, m, o.h⟩) := (by rw [HO2.out, HX.out, Int.add_zero] : tb ⟨o.x + offS ms k, o.y, m, o.h⟩ = tb ⟨x, o.y, m, o.h⟩)
        have hxb : 0 ≤ x ∧ x + m ≤ 10000 ∧ 1 ≤ m := by have := HO.out; omega
        have s2 : IntKind.i64.wrap (x + m) = x + m := wrap_id (by omega)
        have HBp := Lib.hid HB.out.1
        have d0 : decide (0 < k) = false := by simp; omega
        clear hfm hoff hend hz he0 hx hxb hk0
        go_wp2_with fail
        refine (HF.out ⟨x, o.y, m, o.h⟩ _).mono ?_
        rintro e w5 ⟨rfl, hb5⟩
        have TW5 := Lib.hid ((TW.out.up hb5).up ((Below.refl _ _).alloc (Nat.le_refl _) (box (tb ⟨x, o.y, m, o.h⟩))))
        have B5 := Lib.hid ((HBp.out.trans (hb5.mono (Nat.le_trans hbs.out HBp.out.size))).alloc (Nat.le_trans (Nat.le_trans hbs.out HBp.out.size) hb5.size) (box (tb ⟨x, o.y, m, o.h⟩)))
        clear hb5
        generalize tb ⟨x, o.y, m, o.h⟩ = q at HQ TW5 B5 ⊢
        go_wp2_with (at_builtin; refine wpList_two rfl _ _ rfl (w.heap.size + 1) _ _ _ _ w5.heap.size q rfl TW5.out rfl (rat_new w5 q) ?_ (w.alloc (box o)) B5.out hbs.out ?_)
        · rw [partsL_length]; omega
        intro v6 w6 hT6 hB6
        have T6 := Lib.hid hT6
        have B6 := Lib.hid hB6
        clear hT6 hB6
        go_wp2
        go_roundg (gk - 1)
        case measure => have := HB.out.2; omega
        case rel =>
          refine ⟨k + 1, ?_, by omega, by go_num, ?_, ?_, B6.out⟩
          · have := HB.out.2; omega
          · exact congrArg (Value.int .i64) (by rw [HE.out]; have := HX.out; have := HO2.out; omega)
          · rw [partsL_succ HM.out, hl0.out]
            rw [HQ.out]
            exact T6.out
      · have hz := end_pos ms hkp
        obtain ⟨x, hx⟩ : ∃ x, o.x + endS ms k = x := ⟨_, rfl⟩
        rw [hx]
        have HX : Hid (x = o.x + endS ms k) := hx.symm
        have HO2 : Hid (endS ms k + 1 = offS ms k) := hz
        have HL : Hid (tb ⟨o.x + endS ms k, o.y, 1, o.h⟩ = tb ⟨x, o.y, 1, o.h⟩) := (by rw [hx] : tb ⟨o.x + endS ms k, o.y, 1, o.h⟩ = tb ⟨x, o.y, 1, o.h⟩)
        have HQ : Hid (tb ⟨o.x + offS ms k, o.y, m, o.h⟩ = tb ⟨x + 1, o.y, m, o.h⟩) := (by rw [← hz, ← hx, Int.add_assoc] : tb ⟨o.x + offS ms k, o.y, m, o.h⟩ = tb ⟨x + 1, o.y, m, o.h⟩)
        have hxb : 0 ≤ x ∧ x + 1 + m ≤ 10000 ∧ 1 ≤ m := by have := HO.out; omega
        have s1 : IntKind.i64.wrap (x + 1) = x + 1 := wrap_id (by omega)
        have s2 : IntKind.i64.wrap (x + 1 + m) = x + 1 + m := wrap_id (by omega)
        have d0 : (0 : Int) < (k : Int) := by omega
        clear hfm hoff hend hz hx hxb
        go_wp2_with fail
        refine (HF.out ⟨x, o.y, 1, o.h⟩ _).mono ?_
        rintro e w2 ⟨rfl, hb2⟩
        have TW2 := Lib.hid (((TW.out.swap).up hb2).up ((Below.refl _ _).alloc (Nat.le_refl _) (box (tb ⟨x, o.y, 1, o.h⟩))))
        have B2 := Lib.hid ((HB.out.1.trans (hb2.mono (Nat.le_trans hbs.out HB.out.1.size))).alloc (Nat.le_trans (Nat.le_trans hbs.out HB.out.1.size) hb2.size) (box (tb ⟨x, o.y, 1, o.h⟩)))
        clear hb2
        generalize tb ⟨x, o.y, 1, o.h⟩ = ln at HL TW2 B2 ⊢
        clear c0 c1 c2 c3 cm
        go_wp2_with (at_builtin; refine wpList_two rfl _ _ rfl (w.heap.size + 1) _ _ _ _ w2.heap.size ln rfl TW2.out rfl (rat_new w2 ln) ?_ (w.alloc (box o)) B2.out hbs.out ?_)
        · rw [linesL_length]; omega
        intro v3 w3 hT3 hB3
        have T3 := Lib.hid hT3.swap
        have HBp := Lib.hid hB3
        obtain ⟨c0, c1, c2, c3⟩ := HA.out.up (hB3.mono (show (w.alloc (box o)).heap.size ≤ w.heap.size + 1 by simp))
        clear hT3 hB3
        go_wp2_with fail
        refine (HF.out ⟨x + 1, o.y, m, o.h⟩ _).mono ?_
        rintro e w5 ⟨rfl, hb5⟩
        have TW5 := Lib.hid ((T3.out.up hb5).up ((Below.refl _ _).alloc (Nat.le_refl _) (box (tb ⟨x + 1, o.y, m, o.h⟩))))
        have B5 := Lib.hid ((HBp.out.trans (hb5.mono (Nat.le_trans hbs.out HBp.out.size))).alloc (Nat.le_trans (Nat.le_trans hbs.out HBp.out.size) hb5.size) (box (tb ⟨x + 1, o.y, m, o.h⟩)))
        clear hb5
        generalize tb ⟨x + 1, o.y, m, o.h⟩ = q at HQ TW5 B5 ⊢
        go_wp2_with (at_builtin; refine wpList_two rfl _ _ rfl (w.heap.size + 1) _ _ _ _ w5.heap.size q rfl TW5.out rfl (rat_new w5 q) ?_ (w.alloc (box o)) B5.out hbs.out ?_)
        · rw [partsL_length]; omega
        intro v6 w6 hT6 hB6
        have T6 := Lib.hid hT6
        have B6 := Lib.hid hB6
        clear hT6 hB6
        go_wp2
        go_roundg (gk - 1)
        case measure => have := HB.out.2; omega
        case rel =>
          refine ⟨k + 1, ?_, by omega, by go_num, ?_, ?_, B6.out⟩
          · have := HB.out.2; omega
          · exact congrArg (Value.int .i64) (by rw [HE.out]; have := HX.out; have := HO2.out; omega)
          · rw [partsL_succ HM.out, linesL_pos hkp, HL.out]
            rw [HQ.out]
            exact T6.out
    · obtain rfl : k = ms.length := by omega
      have hkl : ((ms.length : Int) < (ms.length : Int)) = False := by simp
      go_wp2
      go_ret2
      exact ⟨_, _, rfl, TW.out.own1.row, TW.out.own2.row, HBw.out⟩
end Go.Proofs.Ytakofjbjciljjaa
