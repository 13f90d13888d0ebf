/- The leaf of a tree that tiles that has a cell. -/
import Derived.Test.YtibjpkicchdomaaLines
import Derived.Test.YtibjpkicchdomaaHas
import Derived.Test.YtibjpkicchdomaaRLeaves
namespace Go.Proofs.Ytibjpkicchdomaa
open Go.RowKit

def qh (x y : Int) (t : T) : Bool := decide (t.k = 1) && hasB t.r x y
def hstep (x y : Int) (s : Int) (t : T) : Bool × Int := (qh x y t, if qh x y t = true then t.id else s)
structure HKept (w0 : World) (bx bb p : Nat) (x y : Int) (s : Int) (W : World) : Prop where
  low : Below w0.heap.size w0 W
  place : w0.heap.size ≤ p
  cell : W.heap[p]? = some (.cells #[.int .i64 s] 3 (0, 0))
  hx : w0.cell? ⟨bx, 0, none⟩ = some (.int .i64 x)
  hy : w0.cell? ⟨bb, 0, none⟩ = some (.int .i64 y)
def HOwn (p : Nat) (_ : Int) (_ : Option Obj) (k : Nat) : Prop := k = p
theorem hkeptM (w0 : World) (bx bb p : Nat) (x y : Int) : MachF w0 (HOwn p) (HKept w0 bx bb p x y) := by
  refine ⟨fun s W cs hI => ?_, fun s W hI => hI.low, fun s W W' hI hb => ?_⟩
  · have := lt_of_block hI.cell
    intro h
    have h' : W.heap.size = p := h
    omega
  · exact ⟨hI.low.trans (hb.mono hI.low.size), hI.place, (hb.block p (lt_of_block hI.cell)).trans hI.cell, hI.hx, hI.hy⟩
theorem hkept_same {w0 W w2 : World} {bx bb p : Nat} {x y s : Int} (hI : HKept w0 bx bb p x y s W) (hb : Below W.heap.size W w2) : HKept w0 bx bb p x y s w2 ∧ Fr (HOwn p) s W s w2 := ⟨(hkeptM w0 bx bb p x y).up _ _ _ hI hb, Fr.of hb⟩
theorem hkept_set {w0 W w2 : World} {bx bb p : Nat} {x y s m : Int} (hI : HKept w0 bx bb p x y s W) (hb : Below W.heap.size W w2) : HKept w0 bx bb p x y m (w2.setCell ⟨p, 0, none⟩ (.int .i64 m)) ∧ Fr (HOwn p) s W m (w2.setCell ⟨p, 0, none⟩ (.int .i64 m)) := by
  have hp := lt_of_block hI.cell
  have h2 : w2.heap[p]? = some (.cells #[.int .i64 s] 3 (0, 0)) := (hb.block p hp).trans hI.cell
  have hsF : (w2.setCell ⟨p, 0, none⟩ (.int .i64 m)).heap.size = w2.heap.size := by simp [World.setCell]
  constructor
  · refine ⟨(hI.low.trans (hb.mono hI.low.size)).setCell (by have := hI.place; simpa using this) _, hI.place, ?_, hI.hx, hI.hy⟩
    have := set_block0 (i := 0) h2 (.int .i64 m)
    simpa using this
  · refine ⟨hb.os, hb.tape, hb.output, by rw [hsF]; exact hb.size, fun k hk hn => ?_, fun k hk => .inl hk⟩
    rw [Below.heap_setCell _ ⟨p, 0, none⟩ _ k hn]
    exact hb.block k hk

theorem enters45 : Enters 45 := enters_of Try.func45 (by kernel_rfl) rfl
set_option maxRecDepth 100000 in
set_option maxHeartbeats 800000 in
theorem hit1_any (w0 : World) (bx bb p : Nat) (x y : Int) (t : T) : JudgeF (fun _ : Int => 999) w0 (HOwn p) (HKept w0 bx bb p x y) 45 #[.pointer (some ⟨bx, 0, none⟩), .pointer (some ⟨bb, 0, none⟩), .pointer (some ⟨p, 0, none⟩)] (hstep x y) t := by
  intro s c W _ hi hI
  have hck : t.k = c.k := hi.split.1
  have hcr : t.r = c.r := hi.split.2.1
  have hci : t.id = c.id := hi.split.2.2.1
  have HRF := Lib.hid hi.fine.2.1
  have HA : Hid (Below W.heap.size W (W.alloc (cbox c))) := (Below.refl _ _).alloc (Nat.le_refl _) _
  have HI := Lib.hid hI
  have hq : qh x y t = (decide (c.k = 1) && hasB c.r x y) := by unfold qh; rw [hck, hcr]
  unfold hstep
  rw [hq, hci]
  clear hq hck hcr hci hi
  have HC := Lib.hid (cbox_new W c)
  by_cases h1 : c.k = 1
  · have d1 : (c.k != 1) = false := by simp [h1]
    rw [decide_eq_true h1]
    simp only [Bool.true_and]
    have q1 : (W.alloc (cbox c)).cell? ⟨bx, 0, none⟩ = some (.int .i64 x) := (HA.out.cell (Nat.lt_of_lt_of_le (lt_of_cell hI.hx) hI.low.size)).trans ((hI.low.cell (lt_of_cell hI.hx)).trans hI.hx)
    have q2 : (W.alloc (cbox c)).cell? ⟨bb, 0, none⟩ = some (.int .i64 y) := (HA.out.cell (Nat.lt_of_lt_of_le (lt_of_cell hI.hy) hI.low.size)).trans ((hI.low.cell (lt_of_cell hI.hy)).trans hI.hy)
    have HH := Lib.hid (has_any c.r x y (W.alloc (cbox c)) HRF.out)
    have Q := Lib.hid (And.intro q1 q2)
    clear q1 q2 h1 hI
    cases hh : hasB c.r x y with
    | false =>
      rw [hh] at HH
      clear hh
      go_enter Try.func45, Try.ntmps45
      go_upto_region 1 with (fail)
      change Code.wp _ _ _ _ (W.alloc (cbox c))
      generalize W.alloc (cbox c) = W1 at HH Q HC HA ⊢
      obtain ⟨q1, q2⟩ := Q.out
      obtain ⟨c0, c1, c2, c3, c4, c5, c6⟩ := HC.out
      simp only [Nat.zero_add] at c1 c2 c3 c4 c5 c6
      go_wp2_with fail
      refine HH.out.mono ?_
      rintro e w2 ⟨rfl, hb2⟩
      have HB2 := Lib.hid (HA.out.trans (hb2.mono HA.out.size))
      clear hb2 c0 c1 c2 c3 c4 c5 c6 q1 q2
      go_wp2
      go_ret
      exact ⟨rfl, hkept_same HI.out HB2.out⟩
    | true =>
      rw [hh] at HH
      clear hh
      go_enter Try.func45, Try.ntmps45
      go_upto_region 1 with (fail)
      change Code.wp _ _ _ _ (W.alloc (cbox c))
      generalize W.alloc (cbox c) = W1 at HH Q HC HA ⊢
      obtain ⟨q1, q2⟩ := Q.out
      obtain ⟨c0, c1, c2, c3, c4, c5, c6⟩ := HC.out
      simp only [Nat.zero_add] at c1 c2 c3 c4 c5 c6
      go_wp2_with fail
      refine HH.out.mono ?_
      rintro e w2 ⟨rfl, hb2⟩
      have HB2 := Lib.hid (HA.out.trans (hb2.mono HA.out.size))
      obtain ⟨-, -, -, -, -, e5, -⟩ := HC.out.up hb2
      simp only [Nat.zero_add] at e5
      have h2 : w2.heap[p]? = some (.cells #[.int .i64 s] 3 (0, 0)) := (HB2.out.block p (lt_of_block HI.out.cell)).trans HI.out.cell
      have g0 : w2.cell? ⟨p, 0, none⟩ = some (.int .i64 s) := by simp [World.cell?, h2]
      have f0 : w2.frozen? ⟨p, 0, none⟩ = false := by simp [World.frozen?, h2]
      have HF := Lib.hid (hkept_set (m := c.id) HI.out HB2.out)
      clear hb2 c0 c1 c2 c3 c4 c5 c6 q1 q2 h2
      go_wp2
      go_ret
      exact ⟨rfl, HF.out⟩
  · have d1 : (c.k != 1) = true := by simpa using h1
    rw [decide_eq_false h1]
    simp only [Bool.false_and, Bool.false_eq_true, if_false]
    clear h1 hI
    go_enter Try.func45, Try.ntmps45
    go_wp2
    go_ret
    exact ⟨rfl, hkept_same HI.out HA.out⟩

def hitT (x y : Int) (t : T) : Option T := (preT t).find? (qh x y)
theorem fold_hit (x y : Int) (l : List T) : ∀ s : Int, (visit (qh x y) l).foldl (fun s t => (hstep x y s t).2) s = ((l.find? (qh x y)).map T.id).getD s := by
  induction l with
  | nil => intro s; simp [visit]
  | cons t l ih =>
    intro s
    cases h : qh x y t with
    | true =>
      have : visit (qh x y) (t :: l) = [t] := by simp [visit, List.findIdx_cons, h]
      rw [this, List.find?_cons, h]
      simp [hstep, h]
    | false =>
      have : visit (qh x y) (t :: l) = t :: visit (qh x y) l := visit_on (a := [t]) (by simp [h])
      rw [this, List.foldl_cons, ih, List.find?_cons, h]
      simp [hstep, h]
theorem find_any (x y : Int) (l : List T) : l.any (qh x y) = (l.find? (qh x y)).isSome := by
  rw [Bool.eq_iff_iff, List.find?_isSome, List.any_eq_true]

theorem hitF_any (x y : Int) (t : T) (c : C) (w0 : World) (bx bb : Nat) (hx : w0.cell? ⟨bx, 0, none⟩ = some (.int .i64 x)) (hy : w0.cell? ⟨bb, 0, none⟩ = some (.int .i64 y)) (hi : Is w0 c t) (hs : sz t ≤ 999) :
    Calls Try.prog 39 #[cval c, .func (.func 45) #[] #[.pointer (some ⟨bx, 0, none⟩), .pointer (some ⟨bb, 0, none⟩), .pointer (some ⟨w0.heap.size, 0, none⟩)]] (w0.alloc (.cells #[.int .i64 0] 3)) fun e w' => (∃ n : Int, e = .returned (.tuple #[.int .i64 n, .bool (hitT x y t).isSome])) ∧ Below w0.heap.size w0 w' ∧ w'.cell? ⟨w0.heap.size, 0, none⟩ = some (.int .i64 (((hitT x y t).map T.id).getD 0)) := by
  have hI : HKept w0 bx bb w0.heap.size x y 0 (w0.alloc (.cells #[.int .i64 0] 3)) := ⟨(Below.refl _ _).alloc (Nat.le_refl _) _, Nat.le_refl _, heap_alloc_new w0 _, hx, hy⟩
  have H := first_any (hkeptM w0 bx bb w0.heap.size x y) 45 enters45 _ (hstep x y) (fun _ => 999) (fun s t => by omega) (hit1_any w0 bx bb w0.heap.size x y) (sz t) t c 0 _ (Nat.le_refl _) (by omega) hs hi hI
  have hq : firstT (hstep x y) 0 t = (((preT t).findIdx (qh x y), (preT t).any (qh x y)), (visit (qh x y) (preT t)).foldl (fun s t => (hstep x y s t).2) 0) := firstT_pre (qh x y) (fun s t => (hstep x y s t).2) t 0
  rw [hq, fold_hit, find_any] at H
  refine H.mono fun e w' ⟨h1, h2, _⟩ => ⟨⟨_, h1⟩, h2.low, ?_⟩
  have h3 := h2.cell
  simp only [World.cell?]
  rw [h3]
  simp [hitT]

/-- What Hit says. -/
def hitR (x y : Int) (t : T) (b : Bool) : Option T := if b = true then hitT x y t else none
set_option maxRecDepth 100000 in
set_option maxHeartbeats 800000 in
theorem hit_any (x y : Int) (t : T) (c : C) (w : World) (hi : Is w c t) (hs : sz t ≤ 999) : Calls Try.prog 23 #[cval c, .int .i64 x, .int .i64 y] w fun e w' => e = .returned (.tuple #[.int .i64 (((hitR x y t (tileB t)).map T.id).getD 0), .bool (hitR x y t (tileB t)).isSome]) ∧ Below w.heap.size w w' := by
  have HA : Hid (Below w.heap.size w (((w.alloc (cbox c)).alloc (.cells #[.int .i64 x] 3)).alloc (.cells #[.int .i64 y] 3))) := (((Below.refl _ _).alloc (Nat.le_refl _) _).alloc (by simp) _).alloc (by simp; omega) _
  have al : ∀ (x : World) (o : Obj), Below x.heap.size x (x.alloc o) := fun x o => (Below.refl _ _).alloc (Nat.le_refl _) _
  have HC := Lib.hid (((cbox_new w c).up (al _ (.cells #[.int .i64 x] 3))).up (al _ (.cells #[.int .i64 y] 3)))
  have HX : Hid ((((w.alloc (cbox c)).alloc (.cells #[.int .i64 x] 3)).alloc (.cells #[.int .i64 y] 3)).cell? ⟨w.heap.size + 1, 0, none⟩ = some (.int .i64 x) ∧ (((w.alloc (cbox c)).alloc (.cells #[.int .i64 x] 3)).alloc (.cells #[.int .i64 y] 3)).cell? ⟨w.heap.size + 2, 0, none⟩ = some (.int .i64 y)) := Lib.hid (by
    have b1 : ((w.alloc (cbox c)).alloc (.cells #[.int .i64 x] 3)).heap[w.heap.size + 1]? = some (.cells #[.int .i64 x] 3) := by
      have := heap_alloc_new (w.alloc (cbox c)) (.cells #[.int .i64 x] 3)
      simpa using this
    have b2 : (((w.alloc (cbox c)).alloc (.cells #[.int .i64 x] 3)).alloc (.cells #[.int .i64 y] 3)).heap[w.heap.size + 2]? = some (.cells #[.int .i64 y] 3) := by
      have := heap_alloc_new ((w.alloc (cbox c)).alloc (.cells #[.int .i64 x] 3)) (.cells #[.int .i64 y] 3)
      simpa using this
    have b3 := ((al _ (.cells #[.int .i64 y] 3)).block (w.heap.size + 1) (lt_of_block b1)).trans b1
    constructor
    · simp only [World.cell?]; rw [b3]; rfl
    · simp only [World.cell?]; rw [b2]; rfl)
  have HT := Lib.hid (tilesOne_any t c (((w.alloc (cbox c)).alloc (.cells #[.int .i64 x] 3)).alloc (.cells #[.int .i64 y] 3)) (hi.up HA.out) (fun _ => hs) (w.heap.size + 3) (by simp))
  have HI := Lib.hid hi
  have HS := Lib.hid hs
  clear hi hs al
  cases ht : tileB t with
  | false =>
    rw [ht] at HT
    clear ht
    go_enter Try.func23, Try.ntmps23
    go_wp2_with fail
    refine HT.out.mono ?_
    rintro e w2 ⟨rfl, hb2⟩
    have HB2 := Lib.hid (HA.out.trans (hb2.mono HA.out.size))
    clear hb2
    go_wp2
    go_ret2
    exact ⟨rfl, HB2.out⟩
  | true =>
    rw [ht] at HT
    have he : hitR x y t true = hitT x y t := rfl
    rw [he]
    clear ht he
    go_enter Try.func23, Try.ntmps23
    go_wp2_with fail
    refine HT.out.mono ?_
    rintro e w2 ⟨rfl, hb2⟩
    have HB2 := Lib.hid (HA.out.trans (hb2.mono HA.out.size))
    have C3 := Lib.hid ((HC.out.up hb2).up ((Below.refl _ _).alloc (Nat.le_refl _) (.cells #[.int .i64 0] 3)))
    have hx2 := (hb2.cell (lt_of_cell HX.out.1)).trans HX.out.1
    have hy2 := (hb2.cell (lt_of_cell HX.out.2)).trans HX.out.2
    have HF := Lib.hid (hitF_any x y t c w2 (w.heap.size + 1) (w.heap.size + 2) hx2 hy2 (HI.out.up HB2.out) HS.out)
    clear hb2 hx2 hy2
    go_upto_region 4 with (fail)
    change Code.wp _ _ _ _ (w2.alloc (.cells #[.int .i64 0] 3))
    generalize w2.alloc (.cells #[.int .i64 0] 3) = w2a at C3 HF ⊢
    obtain ⟨c0, c1, c2, c3, c4, c5, c6⟩ := C3.out
    simp only [Nat.zero_add] at c1 c2 c3 c4 c5 c6
    go_wp2_with fail
    refine HF.out.mono ?_
    rintro e w3 ⟨⟨n, rfl⟩, hb3, hv⟩
    have HB3 := Lib.hid (HB2.out.trans (hb3.mono HB2.out.size))
    clear hb3 c0 c1 c2 c3 c4 c5 c6
    go_wp2
    go_ret2
    exact ⟨rfl, HB3.out⟩
end Go.Proofs.Ytibjpkicchdomaa
