/- Texts of this seat, 3 in one file. -/
import Derived.Test.YtakofjbjciljjaaG23
import Derived.Test.YtakofjbjciljjaaG12
import Derived.Test.YtakofjbjciljjaaG14
import Derived.Test.YtakofjbjciljjaaG11
/- The pane with a number; the one so many places behind it: the program's answers. -/
namespace Go.Proofs.Ytakofjbjciljjaa
open Go.RowKit

/-- A box of a pane. -/
def Box5 (w : World) (b : Nat) (p : Pn) : Prop := w.heap[b]? = some (pbox p)
theorem Box5.up {w w' : World} {b : Nat} {p : Pn} (h : Box5 w b p) (hb : Below w.heap.size w w') : Box5 w' b p := (hb.block b (lt_of_block h)).trans h
theorem Box5.pat {w : World} {b : Nat} {p : Pn} (h : Box5 w b p) : PAt w b 0 p := by
  have h' : w.heap[b]? = some (pbox p) := h
  refine ⟨?_, ?_, ?_, ?_, ?_⟩ <;> simp [World.cell?, h']
theorem Box5.free {w : World} {b : Nat} {p : Pn} (h : Box5 w b p) (o : Nat) : w.frozen? ⟨b, o, none⟩ = false := by
  have h' : w.heap[b]? = some (pbox p) := h
  simp [World.frozen?, h']
theorem Box5.new (w : World) (p : Pn) : Box5 (w.alloc (pbox p)) w.heap.size p := heap_alloc_new w _
abbrev put5 (w : World) (b : Nat) (p : Pn) : World := ((((w.setCell ⟨b, 0, none⟩ (.int .i64 p.id)).setCell ⟨b, 1, none⟩ (.int .i64 p.r.x)).setCell ⟨b, 2, none⟩ (.int .i64 p.r.y)).setCell ⟨b, 3, none⟩ (.int .i64 p.r.w)).setCell ⟨b, 4, none⟩ (.int .i64 p.r.h)
theorem Box5.put {w : World} {b : Nat} {p : Pn} (h : Box5 w b p) (d : Pn) : Box5 (put5 w b d) b d := by
  have h' : w.heap[b]? = some (pbox p) := h
  have h1 := set_block (i := 0) h' (.int .i64 d.id)
  have h2 := set_block (i := 1) h1 (.int .i64 d.r.x)
  have h3 := set_block (i := 2) h2 (.int .i64 d.r.y)
  have h4 := set_block (i := 3) h3 (.int .i64 d.r.w)
  have h5 := set_block (i := 4) h4 (.int .i64 d.r.h)
  refine h5.trans ?_
  simp
theorem below_put5 {B : Nat} {w w' : World} (h : Below B w w') {b : Nat} (hb : B ≤ b) (p : Pn) : Below B w (put5 w' b p) := ((((h.setCell hb _).setCell hb _).setCell hb _).setCell hb _).setCell hb _
theorem results_pane2 {fn : Func} {p u : Tmp} (h : fn.results = #[.cell p 46, .tmp u]) (tmps : Array Value) (w : World) (g : Nat) (c : Pn) (hp : tmps.getD p undef = .pointer (some ⟨g, 0, none⟩)) (hg : Box5 w g c) :
    (results fn tmps).run Try.prog w = .ok (.tuple #[pval c, tmps.getD u undef]) w := by
  have hg' : w.heap[g]? = some (pbox c) := hg
  have hl := run_loadVar_row (P := Try.prog) w g 46 46 _ (0, 0) _ hg' Try.underlying46 rfl (by kernel_rfl)
  rw [results_cell_tmp h, hp]
  simp [asAddr, hl, Result.andThen]

/-- The pane, and whether there is one. -/
def paneOf (l : List Pn) (id : Int) : Pn × Bool := match idxP l id with | some i => (l.getD i zP, true) | none => (zP, false)
theorem paneOf_some {l : List Pn} {id : Int} {i : Nat} {p : Pn} (h : idxP l id = some i) (hp : l[i]? = some p) : paneOf l id = (p, true) := by
  unfold paneOf; rw [h]; simp [List.getD, hp]
theorem paneOf_none {l : List Pn} {id : Int} (h : idxP l id = none) : paneOf l id = (zP, false) := by
  unfold paneOf; rw [h]

/-- The number of the pane so many places behind. -/
def nextP (l : List Pn) (id by_ : Int) : Int × Bool := match idxP l id with | some i => ((l.getD (((i : Int) + by_) % (l.length : Int)).toNat zP).id, true) | none => (0, false)
theorem nextP_none {l : List Pn} {id by_ : Int} (h : idxP l id = none) : nextP l id by_ = (0, false) := by unfold nextP; rw [h]
theorem nextP_some {l : List Pn} {id by_ : Int} {i j : Nat} {q : Pn} (h : idxP l id = some i) (hj : ((i : Int) + by_) % (l.length : Int) = j) (hq : l[j]? = some q) : nextP l id by_ = (q.id, true) := by
  unfold nextP; rw [h]; simp [List.getD, hj, hq]
theorem round_at {n : Nat} (hn : 0 < n) (x : Int) : ∃ j : Nat, x % (n : Int) = j ∧ j < n := by
  have h1 := Int.emod_nonneg x (show (n : Int) ≠ 0 by omega)
  have h2 := Int.emod_lt_of_pos x (show (0 : Int) < n by omega)
  exact ⟨(x % (n : Int)).toNat, by omega, by omega⟩
theorem tmod_round {n : Nat} (hn : 0 < n) (x : Int) : -(n : Int) < x.tmod n ∧ x.tmod n < n ∧ ∀ i : Int, (i + x.tmod n + n) % (n : Int) = (i + x) % n := by
  have h1 := Int.tmod_lt_of_pos x (show (0 : Int) < n by omega)
  have h2 : -(n : Int) < x.tmod n := by
    have := Int.tmod_lt_of_pos (-x) (show (0 : Int) < n by omega)
    rw [Int.neg_tmod] at this; omega
  refine ⟨h2, h1, fun i => ?_⟩
  have h3 := Int.mul_tdiv_add_tmod x n
  rw [Int.add_emod_right]
  conv => rhs; rw [← h3]
  rw [show i + ((n : Int) * x.tdiv n + x.tmod n) = i + x.tmod n + n * x.tdiv n by omega, Int.add_mul_emod_self_left]

set_option maxRecDepth 100000 in
theorem next_any (t : T) (c : C) (id by_ : Int) (w : World) (hm : sz t ≤ 900000) (hi : Is w c t) :
    Calls Try.prog 27 #[cval c, .int .i64 id, .int .i64 by_] w fun e w' => e = .returned (.tuple #[.int .i64 (nextP (panesT t) id by_).1, .bool (nextP (panesT t) id by_).2]) ∧ Below w.heap.size w w' := by
  have A1 : Hid (Below w.heap.size w (w.alloc (cbox c))) := (Below.refl _ _).alloc (Nat.le_refl _) _
  have HL := Lib.hid (list_any t c _ hm (hi.up A1.out))
  have HN : Hid ((panesT t).length ≤ 900000) := Lib.hid (by have := panes_len t; omega)
  clear hi
  generalize panesT t = l at HL HN ⊢
  cases hix : idxP l id with
  | none =>
    rw [nextP_none hix]
    have HIX := Lib.hid hix
    clear hix
    go_enter Try.func27, Try.ntmps27
    go_wp2_with fail
    refine HL.out.mono ?_
    rintro e w2 ⟨v2, rfl, ho2, hb2⟩
    have B2 := Lib.hid (A1.out.trans (hb2.mono A1.out.size))
    have R2 := Lib.hid ho2.row
    obtain ⟨a2, cap2, rfl⟩ := ho2.row.shape
    clear ho2 hb2
    go_wp2_with fail
    refine (with_any id w2).mono ?_
    rintro e w3' ⟨rfl, rfl⟩
    have A3 : Hid (Below w2.heap.size w2 (w2.alloc (.cells #[.int .i64 id] 3))) := (Below.refl _ _).alloc (Nat.le_refl _) _
    have HI := Lib.hid (indexP_any _ l id w2.heap.size _ (R2.out.up A3.out) (by have := HN.out; omega) (Box1.new _ _ _))
    rw [HIX.out] at HI
    go_wp2_with fail
    refine HI.out.mono ?_
    rintro e w4 ⟨rfl, hb4⟩
    have B24 := Lib.hid (below_one hb4)
    have B4 := Lib.hid (B2.out.trans (B24.out.mono B2.out.size))
    clear hb4
    have hps : posP none = -1 := rfl
    rw [hps]
    go_wp2
    go_ret2
    exact ⟨rfl, B4.out⟩
  | some i =>
    obtain ⟨p, hp, -⟩ := idx_at hix
    have hil : i < l.length := lt_of_get hp
    obtain ⟨j, hj, hjl⟩ := round_at (show 0 < l.length by omega) ((i : Int) + by_)
    obtain ⟨q, hq⟩ := get_of rfl hjl
    rw [nextP_some hix hj hq]
    obtain ⟨r1, r2, r3⟩ := tmod_round (show 0 < l.length by omega) by_
    have hj2 := (r3 i).trans hj
    obtain ⟨r, hr⟩ : ∃ r, by_.tmod (l.length : Int) = r := ⟨_, rfl⟩
    rw [hr] at r1 r2 hj2
    have hll := HN.out
    have s1 : IntKind.i64.wrap ((i : Int) + r) = i + r := wrap_id (by omega)
    have s2 : IntKind.i64.wrap ((i : Int) + r + l.length) = i + r + l.length := wrap_id (by omega)
    have s3 : ((i : Int) + r + l.length).tmod (l.length : Int) = j := by rw [Int.tmod_eq_emod_of_nonneg (by omega)]; exact hj2
    have s0 : ((l.length : Int) == 0) = false := by rw [beq_eq_false_iff_ne]; omega
    have s0' : (l.length == 0) = false := by rw [beq_eq_false_iff_ne]; omega
    have HIX := Lib.hid hix
    have HQ := Lib.hid hq
    clear hix hp hq r3 hj hj2
    have d0 : decide ((i : Int) < 0) = false := decide_eq_false (by omega)
    go_enter Try.func27, Try.ntmps27
    go_wp2_with fail
    refine HL.out.mono ?_
    rintro e w2 ⟨v2, rfl, ho2, hb2⟩
    have B2 := Lib.hid (A1.out.trans (hb2.mono A1.out.size))
    have R2 := Lib.hid ho2.row
    obtain ⟨a2, cap2, rfl⟩ := ho2.row.shape
    clear ho2 hb2
    go_wp2_with fail
    refine (with_any id w2).mono ?_
    rintro e w3' ⟨rfl, rfl⟩
    have A3 : Hid (Below w2.heap.size w2 (w2.alloc (.cells #[.int .i64 id] 3))) := (Below.refl _ _).alloc (Nat.le_refl _) _
    have HI := Lib.hid (indexP_any _ l id w2.heap.size _ (R2.out.up A3.out) (by have := HN.out; omega) (Box1.new _ _ _))
    rw [HIX.out] at HI
    go_wp2_with fail
    refine HI.out.mono ?_
    rintro e w4 ⟨rfl, hb4⟩
    have B24 := Lib.hid (below_one hb4)
    have B4 := Lib.hid (B2.out.trans (B24.out.mono B2.out.size))
    have R4 := Lib.hid (R2.out.up B24.out)
    clear hb4
    have hps : posP (some i) = (i : Int) := rfl
    rw [hps]
    obtain ⟨b, o, rfl, hf⟩ := R4.out.place (by omega)
    obtain ⟨c0, -⟩ := hf j q HQ.out
    clear hf
    go_wp2
    go_ret2
    exact ⟨rfl, B4.out⟩
end Go.Proofs.Ytakofjbjciljjaa
/- The pane so many places behind: the document's walk, step by step. -/
namespace Go.Proofs.Ytakofjbjciljjaa
open Go.RowKit

set_option maxRecDepth 100000 in
theorem rnext_any (t : T) (c : C) (id by_ : Int) (w : World) (hm : sz t ≤ 900000) (hi : Is w c t) :
    Calls Try.prog 16 #[cval c, .int .i64 id, .int .i64 by_] w fun e w' => e = .returned (.tuple #[.int .i64 (nextP (panesT t) id by_).1, .bool (nextP (panesT t) id by_).2]) ∧ Below w.heap.size w w' := by
  have A1 : Hid (Below w.heap.size w (w.alloc (cbox c))) := (Below.refl _ _).alloc (Nat.le_refl _) _
  have HL := Lib.hid (rlist_any t c _ hm (hi.up A1.out))
  have HN : Hid ((panesT t).length ≤ 900000) := Lib.hid (by have := panes_len t; omega)
  clear hi
  generalize panesT t = l at HL HN ⊢
  cases hix : idxP l id with
  | none =>
    rw [nextP_none hix]
    have HIX := Lib.hid hix
    clear hix
    go_enter Try.func16, Try.ntmps16
    go_wp2_with fail
    refine HL.out.mono ?_
    rintro e w2 ⟨v2, rfl, ho2, hb2⟩
    have B2 := Lib.hid (A1.out.trans (hb2.mono A1.out.size))
    have R2 := Lib.hid ho2.row
    obtain ⟨a2, cap2, rfl⟩ := ho2.row.shape
    clear ho2 hb2
    have HI := Lib.hid (rfindP_any _ l id w2 R2.out (by have := HN.out; omega))
    rw [HIX.out] at HI
    go_wp2_with fail
    refine HI.out.mono ?_
    rintro e w4 ⟨rfl, hb4⟩
    have B4 := Lib.hid (B2.out.trans (hb4.mono B2.out.size))
    clear hb4
    have hps : posP none = -1 := rfl
    rw [hps]
    go_wp2
    go_ret2
    exact ⟨rfl, B4.out⟩
  | some i =>
    obtain ⟨p, hp, -⟩ := idx_at hix
    have hil : i < l.length := lt_of_get hp
    obtain ⟨J, hJ, hJl⟩ := round_at (show 0 < l.length by omega) ((i : Int) + by_)
    obtain ⟨q, hq⟩ := get_of rfl hJl
    rw [nextP_some hix hJ hq]
    obtain ⟨r1, r2, r3⟩ := tmod_round (show 0 < l.length by omega) by_
    have hJ2 : ((i : Int) + by_.tmod (l.length : Int)) % (l.length : Int) = J := by
      rw [← hJ, ← r3 i, Int.add_emod_right]
    obtain ⟨r, hr⟩ : ∃ r, by_.tmod (l.length : Int) = r := ⟨_, rfl⟩
    rw [hr] at r1 r2 hJ2
    have hll := HN.out
    have s0 : ((l.length : Int) == 0) = false := by rw [beq_eq_false_iff_ne]; omega
    have s0' : (l.length == 0) = false := by rw [beq_eq_false_iff_ne]; omega
    have HIX := Lib.hid hix
    have HQ := Lib.hid hq
    have HJ2 := Lib.hid hJ2
    clear hix hp hq r3 hJ hJ2
    have d0 : decide ((i : Int) < 0) = false := decide_eq_false (by omega)
    go_enter Try.func16, Try.ntmps16
    go_wp2_with fail
    refine HL.out.mono ?_
    rintro e w2 ⟨v2, rfl, ho2, hb2⟩
    have B2 := Lib.hid (A1.out.trans (hb2.mono A1.out.size))
    have R2 := Lib.hid ho2.row
    obtain ⟨a2, cap2, rfl⟩ := ho2.row.shape
    clear ho2 hb2
    have HI := Lib.hid (rfindP_any _ l id w2 R2.out (by have := HN.out; omega))
    rw [HIX.out] at HI
    go_wp2_with fail
    refine HI.out.mono ?_
    rintro e w4 ⟨rfl, hb4⟩
    have B4 := Lib.hid (B2.out.trans (hb4.mono B2.out.size))
    have R4 := Lib.hid (R2.out.up hb4)
    clear hb4
    have hps : posP (some i) = (i : Int) := rfl
    rw [hps]
    go_wp2
    go_loopg [9, 10] (l.length + 1) (fun g vi vs wr => ∃ (j : Nat) (s : Int), vi = .int .i64 j ∧ vs = .int .i64 s ∧ j < l.length ∧ s + 1 ≤ (g : Int) ∧ -(l.length : Int) < s ∧ s < l.length ∧ ((j : Int) + s) % (l.length : Int) = J ∧ Below w4.heap.size w4 wr)
    case atStart => exact ⟨i, r, rfl, rfl, hil, by omega, r1, r2, HJ2.out, Below.refl _ _⟩
    case round =>
      obtain ⟨j, s, rfl, rfl, hjl, hsg, hs1, hs2, hjs, hb⟩ := hrel
      have HB := Lib.hid hb
      have HJS := Lib.hid hjs
      clear hb hjs
      by_cases hpos : 0 < s
      · have dp : decide (0 < s) = true := decide_eq_true hpos
        have e1 : IntKind.i64.wrap ((j : Int) + 1) = j + 1 := wrap_id (by omega)
        have e2 : IntKind.i64.wrap (s - 1) = s - 1 := wrap_id (by omega)
        by_cases hend : j + 1 = l.length
        · have d1 : (((j : Int) + 1) == (l.length : Int)) = true := by rw [beq_iff_eq]; omega
          have d2 : ((j : Int) + 1 = (l.length : Int)) = True := by rw [eq_iff_iff]; simp; omega
          go_wp2
          go_roundg (gk - 1)
          case measure => omega
          case rel =>
            refine ⟨0, s - 1, rfl, rfl, by omega, by omega, by omega, by omega, ?_, HB.out⟩
            rw [← HJS.out, show (j : Int) + s = ((0 : Nat) : Int) + (s - 1) + (l.length : Int) by omega, Int.add_emod_right]
        · have d1 : (((j : Int) + 1) == (l.length : Int)) = false := by rw [beq_eq_false_iff_ne]; omega
          have d2 : ((j : Int) + 1 = (l.length : Int)) = False := by rw [eq_iff_iff]; simp; omega
          go_wp2
          go_roundg (gk - 1)
          case measure => omega
          case rel =>
            refine ⟨j + 1, s - 1, by go_num, rfl, by omega, by omega, by omega, by omega, ?_, HB.out⟩
            rw [← HJS.out, show (((j + 1 : Nat) : Int)) + (s - 1) = (j : Int) + s by omega]
      · have dp : decide (0 < s) = false := decide_eq_false hpos
        go_wp2
        go_loopg [9, 10] (l.length + 1) (fun g vi vs wr => ∃ (j : Nat) (s : Int), vi = .int .i64 j ∧ vs = .int .i64 s ∧ j < l.length ∧ -s + 1 ≤ (g : Int) ∧ -(l.length : Int) < s ∧ s ≤ 0 ∧ ((j : Int) + s) % (l.length : Int) = J ∧ Below w4.heap.size w4 wr)
        case atStart => exact ⟨j, s, rfl, rfl, hjl, by omega, hs1, by omega, HJS.out, HB.out⟩
        case round =>
          clear hjl hsg hs1 hs2 HB HJS hpos dp
          obtain ⟨j, s, rfl, rfl, hjl, hsg, hs1, hs2, hjs, hb⟩ := hrel
          have HB := Lib.hid hb
          have HJS := Lib.hid hjs
          clear hb hjs
          by_cases hneg : s < 0
          · have dn : decide (s < 0) = true := decide_eq_true hneg
            have e1 : IntKind.i64.wrap ((j : Int) - 1) = j - 1 := wrap_id (by omega)
            have e2 : IntKind.i64.wrap (s + 1) = s + 1 := wrap_id (by omega)
            by_cases hz : j = 0
            · subst hz
              have e3 : IntKind.i64.wrap ((l.length : Int) - 1) = l.length - 1 := wrap_id (by omega)
              go_wp2
              go_roundg (gk - 1)
              case measure => omega
              case rel =>
                refine ⟨l.length - 1, s + 1, by congr 1; omega, rfl, by omega, by omega, by omega, by omega, ?_, HB.out⟩
                rw [← HJS.out, show ((l.length - 1 : Nat) : Int) + (s + 1) = ((0 : Nat) : Int) + s + (l.length : Int) by omega, Int.add_emod_right]
            · have d1 : decide ((j : Int) - 1 < 0) = false := decide_eq_false (by omega)
              go_wp2
              go_roundg (gk - 1)
              case measure => omega
              case rel =>
                refine ⟨j - 1, s + 1, by congr 1; omega, rfl, by omega, by omega, by omega, by omega, ?_, HB.out⟩
                rw [← HJS.out, show (((j - 1 : Nat) : Int)) + (s + 1) = (j : Int) + s by omega]
          · have dn : decide (s < 0) = false := decide_eq_false hneg
            obtain rfl : s = 0 := by omega
            have hjj : j = J := by
              have := HJS.out
              rw [Int.add_zero, Int.emod_eq_of_lt (by omega) (by omega)] at this
              omega
            subst hjj
            obtain ⟨b, o, rfl, hf⟩ := (R4.out.up HB.out).place (by omega)
            obtain ⟨c0, -⟩ := hf j q HQ.out
            clear hf
            have hjli : (j : Int) < (l.length : Int) := by omega
            go_wp2
            go_ret2
            exact ⟨rfl, B4.out.trans (HB.out.mono B4.out.size)⟩
end Go.Proofs.Ytakofjbjciljjaa
/- Panes change places: the document's answers, in words. No walk. -/
namespace Go.Proofs.Ytakofjbjciljjaa
open Go.RowKit

/-- One number for another, and the other way round. -/
def tw1 (a b x : Int) : Int := if x = a then b else if x = b then a else x
theorem tw1_tw1 (a b x : Int) : tw1 a b (tw1 a b x) = x := by
  unfold tw1
  by_cases h1 : x = a
  · rw [if_pos h1]
    by_cases h2 : b = a
    · rw [if_pos h2, h1, h2]
    · rw [if_neg h2, if_pos rfl, h1]
  · rw [if_neg h1]
    by_cases h2 : x = b
    · rw [if_pos h2, if_pos rfl, h2]
    · rw [if_neg h2, if_neg h1, if_neg h2]
def twL (a b : Int) (l : List Int) : List Int := l.map (tw1 a b)
theorem twL_len (a b : Int) (l : List Int) : (twL a b l).length = l.length := by simp [twL]
theorem twL_twL (a b : Int) (l : List Int) : twL a b (twL a b l) = l := by
  unfold twL
  rw [List.map_map]
  conv => rhs; rw [← List.map_id l]
  exact List.map_congr_left fun x _ => tw1_tw1 a b x
theorem twL_nodup {a b : Int} {l : List Int} (h : l.Nodup) : (twL a b l).Nodup := by
  unfold twL List.Nodup at *
  rw [List.pairwise_map]
  refine h.imp fun {x y} hxy e => hxy ?_
  rw [← tw1_tw1 a b x, ← tw1_tw1 a b y, e]
theorem twL_mem {a b : Int} {l : List Int} (ha : a ∈ l) (hb : b ∈ l) : ∀ m ∈ twL a b l, m ∈ l := by
  intro m hm
  unfold twL at hm
  obtain ⟨x, hx, rfl⟩ := List.mem_map.1 hm
  unfold tw1
  split
  · exact hb
  · split
    · exact ha
    · exact hx
theorem twL_has {a b x : Int} {l : List Int} (h : x ∈ l) : tw1 a b x ∈ twL a b l := List.mem_map.2 ⟨x, h, rfl⟩
theorem tw1_a (a b : Int) : tw1 a b a = b := if_pos rfl
theorem tw1_b (a b : Int) : tw1 a b b = a := by
  unfold tw1
  by_cases h : b = a
  · rw [if_pos h, h]
  · rw [if_neg h, if_pos rfl]

/-- So many places on, going round. -/
def rdAt (n : Nat) (by_ : Int) (i : Nat) : Nat := (((i : Int) - by_) % (n : Int)).toNat
theorem rdAt_lt {n : Nat} (hn : 0 < n) (by_ : Int) (i : Nat) : rdAt n by_ i < n := by
  have h1 := Int.emod_nonneg ((i : Int) - by_) (show (n : Int) ≠ 0 by omega)
  have h2 := Int.emod_lt_of_pos ((i : Int) - by_) (show (0 : Int) < n by omega)
  unfold rdAt; omega
theorem rdAt_is {n : Nat} (hn : 0 < n) (by_ : Int) (i : Nat) : ((rdAt n by_ i : Nat) : Int) = ((i : Int) - by_) % (n : Int) := by
  have h1 := Int.emod_nonneg ((i : Int) - by_) (show (n : Int) ≠ 0 by omega)
  unfold rdAt; omega
theorem rdAt_back {n i : Nat} (hi : i < n) (a b : Int) (h : a = -b) : rdAt n a (rdAt n b i) = i := by
  subst h
  have h1 := rdAt_is (show 0 < n by omega) (-b) (rdAt n b i)
  rw [rdAt_is (show 0 < n by omega) b i, Int.emod_sub_emod, show (i : Int) - b - -b = i by omega, Int.emod_eq_of_lt (by omega) (by omega)] at h1
  omega
def rdL (by_ : Int) (l : List Int) : List Int := (List.range l.length).map fun i => l.getD (rdAt l.length by_ i) 0
theorem rdL_len (by_ : Int) (l : List Int) : (rdL by_ l).length = l.length := by simp [rdL]
theorem rdL_get {by_ : Int} {l : List Int} {i : Nat} (hi : i < l.length) : (rdL by_ l)[i]? = l[rdAt l.length by_ i]? := by
  have h := rdAt_lt (show 0 < l.length by omega) by_ i
  unfold rdL
  rw [List.getElem?_map, List.getElem?_range hi, List.getElem?_eq_getElem h]
  simp [List.getD, h]
theorem rdL_mem {by_ : Int} {l : List Int} : ∀ m ∈ rdL by_ l, m ∈ l := by
  intro m hm
  obtain ⟨i, hi, rfl⟩ := List.getElem_of_mem hm
  have hi' : i < l.length := by rw [rdL_len] at hi; exact hi
  have h := rdL_get (by_ := by_) hi'
  rw [List.getElem?_eq_getElem hi] at h
  exact List.mem_of_getElem? h.symm
theorem rdL_back {by_ c : Int} (h : by_ = -c) (l : List Int) : rdL by_ (rdL c l) = l := by
  refine List.ext_getElem? fun i => ?_
  by_cases hi : i < l.length
  · have h1 : i < (rdL c l).length := by rw [rdL_len]; exact hi
    have h2 := rdAt_lt (show 0 < l.length by omega) by_ i
    rw [rdL_get h1, rdL_len, rdL_get h2, rdAt_back hi c by_ (by omega)]
  · rw [List.getElem?_eq_none (by rw [rdL_len, rdL_len]; omega), List.getElem?_eq_none (by omega)]
theorem rdL_nodup {by_ : Int} {l : List Int} (h : l.Nodup) : (rdL by_ l).Nodup := by
  unfold List.Nodup at *
  rw [List.pairwise_iff_getElem] at h ⊢
  intro i j hi hj hij e
  have hi' : i < l.length := by rw [rdL_len] at hi; exact hi
  have hj' : j < l.length := by rw [rdL_len] at hj; exact hj
  have g1 := rdL_get (by_ := by_) hi'
  have g2 := rdL_get (by_ := by_) hj'
  have p1 := rdAt_lt (show 0 < l.length by omega) by_ i
  have p2 := rdAt_lt (show 0 < l.length by omega) by_ j
  rw [List.getElem?_eq_getElem hi, List.getElem?_eq_getElem p1] at g1
  rw [List.getElem?_eq_getElem hj, List.getElem?_eq_getElem p2] at g2
  have e2 : l[rdAt l.length by_ i] = l[rdAt l.length by_ j] := by
    rw [← Option.some.inj g1, ← Option.some.inj g2, e]
  have ne : rdAt l.length by_ i ≠ rdAt l.length by_ j := by
    intro e3
    have q1 := rdAt_back hi' (-by_) by_ rfl
    have q2 := rdAt_back hj' (-by_) by_ rfl
    rw [e3, q2] at q1
    omega
  rcases Nat.lt_or_gt_of_ne ne with hl | hl
  · exact h _ _ p1 p2 hl e2
  · exact h _ _ p2 p1 hl e2.symm
theorem rdL_has {by_ : Int} {l : List Int} {x : Int} (h : x ∈ l) : x ∈ rdL by_ l := by
  rw [← rdL_back (show (-by_ : Int) = -by_ from rfl) l] at h
  exact rdL_mem x h

/-- What is answered: by its number, and the tree. -/
def SwSays (n : Int) (u : T) (kind : IntKind) (w : World) (e : Ending) (w' : World) : Prop :=
  ∃ d, e = .returned (.tuple #[cval d, .int kind n]) ∧ (∀ W', (∀ k, w.heap.size ≤ k → W'.heap[k]? = w'.heap[k]?) → Is W' d (if n = 0 then u else zT)) ∧ Below w.heap.size w w'
theorem sw_err {n : Int} {u : T} {kind : IntKind} {w w' : World} (h : n ≠ 0) (hb : Below w.heap.size w w') : SwSays n u kind w (.returned (.tuple #[cval zC, .int kind n])) w' :=
  ⟨zC, rfl, fun W' _ => by rw [if_neg h]; exact zero_is W', hb⟩
theorem sw_ok {n : Int} {u : T} {kind : IntKind} {w w' : World} {d : C} (h : n = 0) (hi : ∀ W', (∀ k, w.heap.size ≤ k → W'.heap[k]? = w'.heap[k]?) → Is W' d u) (hb : Below w.heap.size w w') : SwSays n u kind w (.returned (.tuple #[cval d, .int kind 0])) w' :=
  ⟨d, by rw [h], fun W' hW => by rw [if_pos h]; exact hi W' hW, hb⟩

noncomputable def twE (t : T) (a b : Int) : Int := if tileB t = true then (if a ∈ idsT t ∧ b ∈ idsT t then 0 else 6) else 1
def twT (t : T) (a b : Int) : T := nmT (twL a b (idsT t)) t
noncomputable def rdE (t : T) : Int := if tileB t = true then 0 else 1
def rdT (t : T) (by_ : Int) : T := nmT (rdL by_ (idsT t)) t
def odP (ids l : List Int) : Prop := l.Nodup ∧ ∀ x ∈ l, x ∈ ids
noncomputable def odE (t : T) (l : List Int) : Int := if tileB t = true then (if (idsT t).length = l.length then (if @decide (odP (idsT t) l) (Classical.propDecidable _) = true then 0 else 6) else 9) else 1
noncomputable def bsE (t : T) (id by_ : Int) : Int := if tileB t = true then (if (nextP (panesT t) id by_).2 = true then 0 else 6) else 1

/-- With other numbers it tiles, too. -/
theorem nmL_r (ms : List Int) (l : List T) : (nmL ms l).map T.r = l.map T.r := by
  refine List.ext_getElem? fun j => ?_
  rw [List.getElem?_map, List.getElem?_map, nmL_get]
  cases h : l[j]? with
  | none => rfl
  | some t => simp only [Option.map_some]; rw [nmT_eq]; rfl
theorem nm_fit {ms : List Int} {t : T} (h : fitB t = true) : fitB (nmT ms t) = true := by
  obtain ⟨k, r, i, l⟩ := t
  rw [fitB_iff] at h ⊢
  have hr := nmL_r (ms.drop (if k = 1 then 1 else 0)) l
  have hw : (nmL (ms.drop (if k = 1 then 1 else 0)) l).map (fun u => u.r.w) = l.map fun u => u.r.w := by
    have := congrArg (List.map R.w) hr
    rw [List.map_map, List.map_map] at this
    exact this
  have hh : (nmL (ms.drop (if k = 1 then 1 else 0)) l).map (fun u => u.r.h) = l.map fun u => u.r.h := by
    have := congrArg (List.map R.h) hr
    rw [List.map_map, List.map_map] at this
    exact this
  rw [nmT_eq]
  rcases h with h | ⟨h1, h2⟩
  · exact .inl h
  · have e1 : wsT (.node k r (if k = 1 then ms.headD 0 else i) (nmL (ms.drop (if k = 1 then 1 else 0)) l)) = wsT (.node k r i l) := hw
    have e2 : hsT (.node k r (if k = 1 then ms.headD 0 else i) (nmL (ms.drop (if k = 1 then 1 else 0)) l)) = hsT (.node k r i l) := hh
    have e3 : sizesT (.node k r (if k = 1 then ms.headD 0 else i) (nmL (ms.drop (if k = 1 then 1 else 0)) l)) = sizesT (.node k r i l) := by
      unfold sizesT; rw [e1, e2]; rfl
    refine .inr ⟨?_, ?_⟩
    · change cutP r (axT (.node k r i l)) (sizesT (.node k r (if k = 1 then ms.headD 0 else i) (nmL (ms.drop (if k = 1 then 1 else 0)) l)))
      rw [e3]; exact h1
    · change (nmL (ms.drop (if k = 1 then 1 else 0)) l).map T.r = cutParts r (axT (.node k r i l)) (sizesT (.node k r (if k = 1 then ms.headD 0 else i) (nmL (ms.drop (if k = 1 then 1 else 0)) l))) true
      rw [e3, hr]; exact h2
theorem nm_well {ms : List Int} {t : T} (h : wellT t = true) (hn : t.k = 1 → 0 ≤ ms.headD 0 ∧ ms.headD 0 ≤ 2147483647) : wellT (nmT ms t) = true := by
  obtain ⟨k, r, i, l⟩ := t
  have hn' : k = 1 → 0 ≤ ms.headD 0 ∧ ms.headD 0 ≤ 2147483647 := hn
  have h' : wellB k r i l.length = true := h
  rw [nmT_eq]
  change wellB k r (if k = 1 then ms.headD 0 else i) (nmL (ms.drop (if k = 1 then 1 else 0)) l).length = true
  rw [nmL_length]
  unfold wellB at h' ⊢
  rw [Bool.and_eq_true, Bool.or_eq_true, Bool.and_eq_true, Bool.and_eq_true, Bool.and_eq_true, Bool.and_eq_true, Bool.or_eq_true] at h' ⊢
  simp only [decide_eq_true_eq] at h' ⊢
  refine ⟨h'.1, ?_⟩
  rcases h'.2 with ⟨h1, -, h3⟩ | ⟨h1, h2, h3⟩
  · exact .inl ⟨h1, by rw [if_pos h1]; exact hn' h1, h3⟩
  · have h4 : ¬ k = 1 := by rcases h1 with h1 | h1 <;> omega
    exact .inr ⟨h1, by rw [if_neg h4]; exact h2, h3⟩
def okI (ms : List Int) : Prop := ∀ m ∈ ms, 0 ≤ m ∧ m ≤ 2147483647
theorem okI.drop {ms : List Int} (h : okI ms) (n : Nat) : okI (ms.drop n) := fun m hm => h m (List.mem_of_mem_drop hm)
theorem okI.head {ms : List Int} (h : okI ms) (hn : 1 ≤ ms.length) : 0 ≤ ms.headD 0 ∧ ms.headD 0 ≤ 2147483647 := by
  cases ms with
  | nil => simp at hn
  | cons m ms => exact h m (List.mem_cons_self ..)
mutual
theorem nm_good : ∀ (t : T) (ms : List Int), lvT t ≤ ms.length → okI ms → (∀ u ∈ preT t, wellT u = true ∧ fitB u = true) → ∀ u ∈ preT (nmT ms t), wellT u = true ∧ fitB u = true
  | .node k r i l, ms, hl, hok, hg => by
    have ihl := nmL_good l
    have ht := hg _ (by rw [preT_eq]; exact List.mem_cons_self ..)
    intro u hu
    rw [preT_eq] at hu
    rcases List.mem_cons.1 hu with rfl | hu
    · exact ⟨nm_well ht.1 (fun hk => hok.head (by rw [lvT_eq, if_pos hk] at hl; omega)), nm_fit ht.2⟩
    · rw [nmT_eq] at hu
      have hu' : u ∈ preL (nmL (ms.drop (if k = 1 then 1 else 0)) l) := hu
      refine ihl (ms.drop (if k = 1 then 1 else 0)) ?_ (hok.drop _) (fun v hv => hg v (by rw [preT_eq]; exact List.mem_cons_of_mem _ hv)) u hu'
      rw [lvT_eq] at hl
      have hl' : (if k = 1 then 1 else 0) + lvL l ≤ ms.length := hl
      rw [List.length_drop]
      omega
theorem nmL_good : ∀ (l : List T) (ms : List Int), lvL l ≤ ms.length → okI ms → (∀ u ∈ preL l, wellT u = true ∧ fitB u = true) → ∀ u ∈ preL (nmL ms l), wellT u = true ∧ fitB u = true
  | [], ms, hl, hok, hg => by
    intro u hu
    simp [nmL, preL] at hu
  | t :: l, ms, hl, hok, hg => by
    have hl' : lvT t + lvL l ≤ ms.length := by rw [lvL] at hl; exact hl
    have iht := nm_good t ms (by omega) hok fun v hv => hg v (by rw [preL]; exact List.mem_append_left _ hv)
    have ihl := nmL_good l (ms.drop (lvT t)) (by rw [List.length_drop]; omega) (hok.drop _) fun v hv => hg v (by rw [preL]; exact List.mem_append_right _ hv)
    intro u hu
    rw [nmL, preL] at hu
    rcases List.mem_append.1 hu with hu | hu
    · exact iht u hu
    · exact ihl u hu
end
theorem tile_ids {t : T} (hs : sz t ≤ 20000) (ht : tileB t = true) : (idsT t).Nodup ∧ okI (idsT t) := by
  unfold tileB at ht
  rw [may_is (by omega)] at ht
  unfold rmayT at ht
  simp only [Bool.and_eq_true, decide_eq_true_eq, List.all_eq_true] at ht
  refine ⟨ht.1.2, fun m hm => ?_⟩
  unfold idsT at hm
  obtain ⟨u, hu, rfl⟩ := List.mem_map.1 hm
  obtain ⟨hu1, hu2⟩ := List.mem_filter.1 hu
  have hw := ht.1.1 u hu1
  have hk : u.k = 1 := by simpa [leafB] using hu2
  unfold wellT wellB at hw
  simp only [Bool.and_eq_true, Bool.or_eq_true, decide_eq_true_eq] at hw
  rcases hw.2 with ⟨-, h2, -⟩ | ⟨h1, -, -⟩
  · exact h2
  · rcases h1 with h1 | h1 <;> omega
theorem tile_nm {t : T} {ms : List Int} (hs : sz t ≤ 20000) (ht : tileB t = true) (hl : ms.length = lvT t) (hnd : ms.Nodup) (hok : ∀ m ∈ ms, m ∈ idsT t) : tileB (nmT ms t) = true := by
  have hid := (tile_ids hs ht).2
  have ht' := ht
  unfold tileB at ht'
  rw [may_is (by omega)] at ht'
  unfold rmayT at ht'
  simp only [Bool.and_eq_true, decide_eq_true_eq, List.all_eq_true] at ht'
  have hg := nm_good t ms (by omega) (fun m hm => hid m (hok m hm)) fun u hu => ⟨ht'.1.1 u hu, ht'.2 u hu⟩
  have hids := nm_ids_all hl
  unfold idsT at hids
  unfold tileB
  rw [may_is (by rw [nm_sz]; omega)]
  unfold rmayT
  rw [Bool.and_eq_true, Bool.and_eq_true, decide_eq_true_eq, List.all_eq_true, List.all_eq_true]
  refine ⟨⟨fun u hu => (hg u hu).1, ?_⟩, fun u hu => (hg u hu).2⟩
  rw [hids]
  exact hnd

/-- Done twice. -/
theorem tw_tile {t : T} {a b : Int} (hs : sz t ≤ 20000) (h : twE t a b = 0) : tileB t = true ∧ a ∈ idsT t ∧ b ∈ idsT t := by
  unfold twE at h
  split at h
  · rename_i ht
    split at h
    · rename_i hab
      exact ⟨ht, hab⟩
    · omega
  · omega
theorem tw_lv (t : T) (a b : Int) : (twL a b (idsT t)).length = lvT t := by rw [twL_len, ids_len]
theorem tw_ids (t : T) (a b : Int) : idsT (twT t a b) = twL a b (idsT t) := nm_ids_all (tw_lv t a b)
theorem tw_tiles {t : T} {a b : Int} (hs : sz t ≤ 20000) (ht : tileB t = true) (ha : a ∈ idsT t) (hb : b ∈ idsT t) : tileB (twT t a b) = true :=
  tile_nm hs ht (tw_lv t a b) (twL_nodup (tile_ids hs ht).1) (twL_mem ha hb)
theorem tw_twice {t : T} {a b : Int} (hs : sz t ≤ 20000) (h : twE t a b = 0) : twE (twT t a b) a b = 0 ∧ twT (twT t a b) a b = t := by
  obtain ⟨ht, ha, hb⟩ := tw_tile hs h
  refine ⟨?_, ?_⟩
  · unfold twE
    rw [if_pos (tw_tiles hs ht ha hb), if_pos]
    rw [tw_ids]
    have h1 := twL_has (a := a) (b := b) hb
    have h2 := twL_has (a := a) (b := b) ha
    rw [tw1_b] at h1
    rw [tw1_a] at h2
    exact ⟨h1, h2⟩
  · have e : twT (twT t a b) a b = nmT (twL a b (idsT (twT t a b))) (twT t a b) := rfl
    rw [e, tw_ids, twL_twL]
    exact nm_back_all _ _
theorem rd_lv (t : T) (by_ : Int) : (rdL by_ (idsT t)).length = lvT t := by rw [rdL_len, ids_len]
theorem rd_ids (t : T) (by_ : Int) : idsT (rdT t by_) = rdL by_ (idsT t) := nm_ids_all (rd_lv t by_)
theorem rd_tiles {t : T} {by_ : Int} (hs : sz t ≤ 20000) (ht : tileB t = true) : tileB (rdT t by_) = true :=
  tile_nm hs ht (rd_lv t by_) (rdL_nodup (tile_ids hs ht).1) rdL_mem
theorem rd_yes {t : T} (h : rdE t = 0) : tileB t = true := by
  unfold rdE at h
  split at h
  · assumption
  · omega
theorem rd_back {t : T} {by_ c : Int} (hs : sz t ≤ 20000) (hc : c = -by_) (h : rdE t = 0) : rdE (rdT t by_) = 0 ∧ rdT (rdT t by_) c = t := by
  refine ⟨if_pos (rd_tiles hs (rd_yes h)), ?_⟩
  have e : rdT (rdT t by_) c = nmT (rdL c (idsT (rdT t by_))) (rdT t by_) := rfl
  rw [e, rd_ids, rdL_back (by omega)]
  exact nm_back_all _ _
theorem tw_sz (t : T) (a b : Int) : sz (twT t a b) = sz t := nm_sz _ _
theorem rd_sz (t : T) (by_ : Int) : sz (rdT t by_) = sz t := nm_sz _ _
/-- Who stands beside is there. -/
theorem next_there {t : T} {id by_ : Int} (h : (nextP (panesT t) id by_).2 = true) : id ∈ idsT t ∧ (nextP (panesT t) id by_).1 ∈ idsT t := by
  rw [← ids_panes]
  cases hix : idxP (panesT t) id with
  | none => rw [nextP_none hix] at h; cases h
  | some i =>
    obtain ⟨p, hp, he, -⟩ := idx_at hix
    have hi := (List.getElem?_eq_some_iff.1 hp).1
    obtain ⟨j, hj, hjl⟩ := round_at (show 0 < (panesT t).length by omega) ((i : Int) + by_)
    rw [nextP_some hix hj (List.getElem?_eq_getElem hjl)]
    exact ⟨List.mem_map.2 ⟨p, List.mem_of_getElem? hp, he⟩, List.mem_map.2 ⟨_, List.getElem_mem hjl, rfl⟩⟩
end Go.Proofs.Ytakofjbjciljjaa
