/- The pane with a number; the one so many places behind it: the program's answers. -/
import Derived.Test.YtlpklpkalcgeaaaFList
import Derived.Test.YtlpklpkalcgeaaaPIdx
import Derived.Test.YtlpklpkalcgeaaaFollowB
namespace Go.Proofs.Ytlpklpkalcgeaaa
open Go.RowKit

/-- A box of a pane. -/
def Box5 (w : World) (b : Nat) (p : Pn) : Prop := w.heap[b]? = some (pbox p)
theorem Box5.up {w w' : World} {b : Nat} {p : Pn} (h : Box5 w b p) (hb : Below w.heap.size w w') : Box5 w' b p := (hb.block b (lt_of_block h)).trans h
theorem Box5.pat {w : World} {b : Nat} {p : Pn} (h : Box5 w b p) : PAt w b 0 p := by
  have h' : w.heap[b]? = some (pbox p) := h
  refine ⟨?_, ?_, ?_, ?_, ?_⟩ <;> simp [World.cell?, h']
theorem Box5.free {w : World} {b : Nat} {p : Pn} (h : Box5 w b p) (o : Nat) : w.frozen? ⟨b, o, none⟩ = false := by
  have h' : w.heap[b]? = some (pbox p) := h
  simp [World.frozen?, h']
theorem Box5.new (w : World) (p : Pn) : Box5 (w.alloc (pbox p)) w.heap.size p := heap_alloc_new w _
abbrev put5 (w : World) (b : Nat) (p : Pn) : World := ((((w.setCell ⟨b, 0, none⟩ (.int .i64 p.id)).setCell ⟨b, 1, none⟩ (.int .i64 p.r.x)).setCell ⟨b, 2, none⟩ (.int .i64 p.r.y)).setCell ⟨b, 3, none⟩ (.int .i64 p.r.w)).setCell ⟨b, 4, none⟩ (.int .i64 p.r.h)
theorem Box5.put {w : World} {b : Nat} {p : Pn} (h : Box5 w b p) (d : Pn) : Box5 (put5 w b d) b d := by
  have h' : w.heap[b]? = some (pbox p) := h
  have h1 := set_block (i := 0) h' (.int .i64 d.id)
  have h2 := set_block (i := 1) h1 (.int .i64 d.r.x)
  have h3 := set_block (i := 2) h2 (.int .i64 d.r.y)
  have h4 := set_block (i := 3) h3 (.int .i64 d.r.w)
  have h5 := set_block (i := 4) h4 (.int .i64 d.r.h)
  refine h5.trans ?_
  simp
theorem below_put5 {B : Nat} {w w' : World} (h : Below B w w') {b : Nat} (hb : B ≤ b) (p : Pn) : Below B w (put5 w' b p) := ((((h.setCell hb _).setCell hb _).setCell hb _).setCell hb _).setCell hb _
theorem results_pane2 {fn : Func} {p u : Tmp} (h : fn.results = #[.cell p 32, .tmp u]) (tmps : Array Value) (w : World) (g : Nat) (c : Pn) (hp : tmps.getD p undef = .pointer (some ⟨g, 0, none⟩)) (hg : Box5 w g c) :
    (results fn tmps).run Try.prog w = .ok (.tuple #[pval c, tmps.getD u undef]) w := by
  have hg' : w.heap[g]? = some (pbox c) := hg
  have hl := run_loadVar_row (P := Try.prog) w g 32 32 _ (0, 0) _ hg' Try.underlying32 rfl (by kernel_rfl)
  rw [results_cell_tmp h, hp]
  simp [asAddr, hl, Result.andThen]

/-- The pane, and whether there is one. -/
def paneOf (l : List Pn) (id : Int) : Pn × Bool := match idxP l id with | some i => (l.getD i zP, true) | none => (zP, false)
theorem paneOf_some {l : List Pn} {id : Int} {i : Nat} {p : Pn} (h : idxP l id = some i) (hp : l[i]? = some p) : paneOf l id = (p, true) := by
  unfold paneOf; rw [h]; simp [List.getD, hp]
theorem paneOf_none {l : List Pn} {id : Int} (h : idxP l id = none) : paneOf l id = (zP, false) := by
  unfold paneOf; rw [h]

set_option maxRecDepth 100000 in
theorem pane_any (t : T) (c : C) (id : Int) (w : World) (hm : sz t ≤ 900000) (hi : Is w c t) :
    Calls Try.prog 11 #[cval c, .int .i64 id] w fun e w' => e = .returned (.tuple #[pval (paneOf (panesT t) id).1, .bool (paneOf (panesT t) id).2]) ∧ Below w.heap.size w w' := by
  have A1 : Hid (Below w.heap.size w ((w.alloc (cbox c)).alloc (pbox zP))) := ((Below.refl _ _).alloc (Nat.le_refl _) _).alloc (by simp) _
  have X1 : Hid (Box5 ((w.alloc (cbox c)).alloc (pbox zP)) (w.heap.size + 1) zP) := Lib.hid (by
    have := Box5.new (w.alloc (cbox c)) zP
    simpa using this)
  have HL := Lib.hid (list_any t c _ hm (hi.up A1.out))
  have HN : Hid ((panesT t).length ≤ 1000000) := Lib.hid (by have := panes_len t; omega)
  clear hi
  generalize panesT t = l at HL HN ⊢
  cases hix : idxP l id with
  | none =>
    rw [paneOf_none hix]
    have HIX := Lib.hid hix
    clear hix
    go_enter Try.func11, Try.ntmps11
    go_wp2_with fail
    refine HL.out.mono ?_
    rintro e w2 ⟨v2, rfl, ho2, hb2⟩
    have B2 := Lib.hid (A1.out.trans (hb2.mono A1.out.size))
    have X2 := Lib.hid (X1.out.up hb2)
    have R2 := Lib.hid ho2.row
    obtain ⟨a2, cap2, rfl⟩ := ho2.row.shape
    clear ho2 hb2
    go_wp2_with fail
    refine (with_any id w2).mono ?_
    rintro e w3' ⟨rfl, rfl⟩
    have A3 : Hid (Below w2.heap.size w2 (w2.alloc (.cells #[.int .i64 id] 3))) := (Below.refl _ _).alloc (Nat.le_refl _) _
    have HI := Lib.hid (indexP_any _ l id w2.heap.size _ (R2.out.up A3.out) HN.out (Box1.new _ _ _))
    rw [HIX.out] at HI
    go_wp2_with fail
    refine HI.out.mono ?_
    rintro e w4 ⟨rfl, hb4⟩
    have B24 := Lib.hid (below_one hb4)
    have B4 := Lib.hid (B2.out.trans (B24.out.mono B2.out.size))
    have X4 := Lib.hid (X2.out.up B24.out)
    clear hb4
    have hps : posP none = -1 := rfl
    rw [hps]
    obtain ⟨z0, z1, z2, z3, z4⟩ := X4.out.pat
    simp only [Nat.zero_add] at z1 z2 z3 z4
    have f0 := X4.out.free 0
    have f1 := X4.out.free 1
    have f2 := X4.out.free 2
    have f3 := X4.out.free 3
    have f4 := X4.out.free 4
    go_wp2
    (try simp only [Exit.inBlock, Exit.then])
    refine bodyPost_ret (results_pane2 rfl _ _ (w.heap.size + 1) zP rfl (X4.out.put zP)) rfl ?_
    exact ⟨rfl, below_put5 B4.out (by omega) zP⟩
  | some i =>
    obtain ⟨p, hp, -⟩ := idx_at hix
    rw [paneOf_some hix hp]
    have HIX := Lib.hid hix
    have HP := Lib.hid hp
    have hil : i < l.length := lt_of_get hp
    clear hix hp
    go_enter Try.func11, Try.ntmps11
    go_wp2_with fail
    refine HL.out.mono ?_
    rintro e w2 ⟨v2, rfl, ho2, hb2⟩
    have B2 := Lib.hid (A1.out.trans (hb2.mono A1.out.size))
    have X2 := Lib.hid (X1.out.up hb2)
    have R2 := Lib.hid ho2.row
    obtain ⟨a2, cap2, rfl⟩ := ho2.row.shape
    clear ho2 hb2
    go_wp2_with fail
    refine (with_any id w2).mono ?_
    rintro e w3' ⟨rfl, rfl⟩
    have A3 : Hid (Below w2.heap.size w2 (w2.alloc (.cells #[.int .i64 id] 3))) := (Below.refl _ _).alloc (Nat.le_refl _) _
    have HI := Lib.hid (indexP_any _ l id w2.heap.size _ (R2.out.up A3.out) HN.out (Box1.new _ _ _))
    rw [HIX.out] at HI
    go_wp2_with fail
    refine HI.out.mono ?_
    rintro e w4 ⟨rfl, hb4⟩
    have B24 := Lib.hid (below_one hb4)
    have B4 := Lib.hid (B2.out.trans (B24.out.mono B2.out.size))
    have X4 := Lib.hid (X2.out.up B24.out)
    have R4 := Lib.hid (R2.out.up B24.out)
    clear hb4
    have hps : posP (some i) = (i : Int) := rfl
    rw [hps]
    have d0 : decide ((i : Int) < 0) = false := decide_eq_false (by omega)
    obtain ⟨b, o, rfl, hf⟩ := R4.out.place (by omega)
    obtain ⟨c0, c1, c2, c3, c4⟩ := hf i p HP.out
    clear hf
    obtain ⟨z0, z1, z2, z3, z4⟩ := X4.out.pat
    simp only [Nat.zero_add] at z1 z2 z3 z4
    have f0 := X4.out.free 0
    have f1 := X4.out.free 1
    have f2 := X4.out.free 2
    have f3 := X4.out.free 3
    have f4 := X4.out.free 4
    go_wp2
    (try simp only [Exit.inBlock, Exit.then])
    refine bodyPost_ret (results_pane2 rfl _ _ (w.heap.size + 1) p rfl (X4.out.put p)) rfl ?_
    exact ⟨rfl, below_put5 B4.out (by omega) p⟩

/-- The number of the pane so many places behind. -/
def nextP (l : List Pn) (id by_ : Int) : Int × Bool := match idxP l id with | some i => ((l.getD (((i : Int) + by_) % (l.length : Int)).toNat zP).id, true) | none => (0, false)
theorem nextP_none {l : List Pn} {id by_ : Int} (h : idxP l id = none) : nextP l id by_ = (0, false) := by unfold nextP; rw [h]
theorem nextP_some {l : List Pn} {id by_ : Int} {i j : Nat} {q : Pn} (h : idxP l id = some i) (hj : ((i : Int) + by_) % (l.length : Int) = j) (hq : l[j]? = some q) : nextP l id by_ = (q.id, true) := by
  unfold nextP; rw [h]; simp [List.getD, hj, hq]
theorem round_at {n : Nat} (hn : 0 < n) (x : Int) : ∃ j : Nat, x % (n : Int) = j ∧ j < n := by
  have h1 := Int.emod_nonneg x (show (n : Int) ≠ 0 by omega)
  have h2 := Int.emod_lt_of_pos x (show (0 : Int) < n by omega)
  exact ⟨(x % (n : Int)).toNat, by omega, by omega⟩
theorem tmod_round {n : Nat} (hn : 0 < n) (x : Int) : -(n : Int) < x.tmod n ∧ x.tmod n < n ∧ ∀ i : Int, (i + x.tmod n + n) % (n : Int) = (i + x) % n := by
  have h1 := Int.tmod_lt_of_pos x (show (0 : Int) < n by omega)
  have h2 : -(n : Int) < x.tmod n := by
    have := Int.tmod_lt_of_pos (-x) (show (0 : Int) < n by omega)
    rw [Int.neg_tmod] at this; omega
  refine ⟨h2, h1, fun i => ?_⟩
  have h3 := Int.mul_tdiv_add_tmod x n
  rw [Int.add_emod_right]
  conv => rhs; rw [← h3]
  rw [show i + ((n : Int) * x.tdiv n + x.tmod n) = i + x.tmod n + n * x.tdiv n by omega, Int.add_mul_emod_self_left]

set_option maxRecDepth 100000 in
theorem next_any (t : T) (c : C) (id by_ : Int) (w : World) (hm : sz t ≤ 900000) (hi : Is w c t) :
    Calls Try.prog 20 #[cval c, .int .i64 id, .int .i64 by_] w fun e w' => e = .returned (.tuple #[.int .i64 (nextP (panesT t) id by_).1, .bool (nextP (panesT t) id by_).2]) ∧ Below w.heap.size w w' := by
  have A1 : Hid (Below w.heap.size w (w.alloc (cbox c))) := (Below.refl _ _).alloc (Nat.le_refl _) _
  have HL := Lib.hid (list_any t c _ hm (hi.up A1.out))
  have HN : Hid ((panesT t).length ≤ 900000) := Lib.hid (by have := panes_len t; omega)
  clear hi
  generalize panesT t = l at HL HN ⊢
  cases hix : idxP l id with
  | none =>
    rw [nextP_none hix]
    have HIX := Lib.hid hix
    clear hix
    go_enter Try.func20, Try.ntmps20
    go_wp2_with fail
    refine HL.out.mono ?_
    rintro e w2 ⟨v2, rfl, ho2, hb2⟩
    have B2 := Lib.hid (A1.out.trans (hb2.mono A1.out.size))
    have R2 := Lib.hid ho2.row
    obtain ⟨a2, cap2, rfl⟩ := ho2.row.shape
    clear ho2 hb2
    go_wp2_with fail
    refine (with_any id w2).mono ?_
    rintro e w3' ⟨rfl, rfl⟩
    have A3 : Hid (Below w2.heap.size w2 (w2.alloc (.cells #[.int .i64 id] 3))) := (Below.refl _ _).alloc (Nat.le_refl _) _
    have HI := Lib.hid (indexP_any _ l id w2.heap.size _ (R2.out.up A3.out) (by have := HN.out; omega) (Box1.new _ _ _))
    rw [HIX.out] at HI
    go_wp2_with fail
    refine HI.out.mono ?_
    rintro e w4 ⟨rfl, hb4⟩
    have B24 := Lib.hid (below_one hb4)
    have B4 := Lib.hid (B2.out.trans (B24.out.mono B2.out.size))
    clear hb4
    have hps : posP none = -1 := rfl
    rw [hps]
    go_wp2
    go_ret2
    exact ⟨rfl, B4.out⟩
  | some i =>
    obtain ⟨p, hp, -⟩ := idx_at hix
    have hil : i < l.length := lt_of_get hp
    obtain ⟨j, hj, hjl⟩ := round_at (show 0 < l.length by omega) ((i : Int) + by_)
    obtain ⟨q, hq⟩ := get_of rfl hjl
    rw [nextP_some hix hj hq]
    obtain ⟨r1, r2, r3⟩ := tmod_round (show 0 < l.length by omega) by_
    have hj2 := (r3 i).trans hj
    obtain ⟨r, hr⟩ : ∃ r, by_.tmod (l.length : Int) = r := ⟨_, rfl⟩
    rw [hr] at r1 r2 hj2
    have hll := HN.out
    have s1 : IntKind.i64.wrap ((i : Int) + r) = i + r := wrap_id (by omega)
    have s2 : IntKind.i64.wrap ((i : Int) + r + l.length) = i + r + l.length := wrap_id (by omega)
    have s3 : ((i : Int) + r + l.length).tmod (l.length : Int) = j := by rw [Int.tmod_eq_emod_of_nonneg (by omega)]; exact hj2
    have s0 : ((l.length : Int) == 0) = false := by rw [beq_eq_false_iff_ne]; omega
    have s0' : (l.length == 0) = false := by rw [beq_eq_false_iff_ne]; omega
    have HIX := Lib.hid hix
    have HQ := Lib.hid hq
    clear hix hp hq r3 hj hj2
    have d0 : decide ((i : Int) < 0) = false := decide_eq_false (by omega)
    go_enter Try.func20, Try.ntmps20
    go_wp2_with fail
    refine HL.out.mono ?_
    rintro e w2 ⟨v2, rfl, ho2, hb2⟩
    have B2 := Lib.hid (A1.out.trans (hb2.mono A1.out.size))
    have R2 := Lib.hid ho2.row
    obtain ⟨a2, cap2, rfl⟩ := ho2.row.shape
    clear ho2 hb2
    go_wp2_with fail
    refine (with_any id w2).mono ?_
    rintro e w3' ⟨rfl, rfl⟩
    have A3 : Hid (Below w2.heap.size w2 (w2.alloc (.cells #[.int .i64 id] 3))) := (Below.refl _ _).alloc (Nat.le_refl _) _
    have HI := Lib.hid (indexP_any _ l id w2.heap.size _ (R2.out.up A3.out) (by have := HN.out; omega) (Box1.new _ _ _))
    rw [HIX.out] at HI
    go_wp2_with fail
    refine HI.out.mono ?_
    rintro e w4 ⟨rfl, hb4⟩
    have B24 := Lib.hid (below_one hb4)
    have B4 := Lib.hid (B2.out.trans (B24.out.mono B2.out.size))
    have R4 := Lib.hid (R2.out.up B24.out)
    clear hb4
    have hps : posP (some i) = (i : Int) := rfl
    rw [hps]
    obtain ⟨b, o, rfl, hf⟩ := R4.out.place (by omega)
    obtain ⟨c0, -⟩ := hf j q HQ.out
    clear hf
    go_wp2
    go_ret2
    exact ⟨rfl, B4.out⟩
end Go.Proofs.Ytlpklpkalcgeaaa
