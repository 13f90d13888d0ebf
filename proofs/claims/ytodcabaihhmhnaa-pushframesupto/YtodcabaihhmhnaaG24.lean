/- Texts of this seat, 3 in one file. -/
import Derived.Test.YtodcabaihhmhnaaG23
import Derived.Test.YtodcabaihhmhnaaG19
import Derived.Test.YtodcabaihhmhnaaG20
/- Least, Gives, Fits: the document's. -/
namespace Go.Proofs.Ytodcabaihhmhnaa
open Go.RowKit

/-- Does a tree tile: the document's. -/
theorem rtiles8_any (t : T) (c : C) (w : World) (hi : Is w c t) (hs : sz t ≤ 20000) : Calls Try.prog 13 #[cval c] w fun e w' => e = .returned (.bool (tileB t)) ∧ Below w.heap.size w w' := by
  have HA : Hid (Below w.heap.size w (w.alloc (cbox c))) := (Below.refl _ _).alloc (Nat.le_refl _) _
  have hmi := may_is (t := t) (by omega)
  have HCK : Hid (Calls Try.prog 26 #[cval c] (w.alloc (cbox c)) fun e w' => ∃ (v : Value) (no pl : Int), e = .returned (.tuple #[v, .int .i64 no, .int .i64 pl]) ∧ (no == 0) = tileB t ∧ Below w.heap.size w w') := Lib.hid ((rcheck_any t c (w.alloc (cbox c)) (hi.up HA.out) hs).mono fun e w' h => by
    obtain ⟨v, no, pl, l, h1, -, h3, h4⟩ := h
    refine ⟨v, no, pl, h1, ?_, below_one h3⟩
    unfold tileB
    rw [hmi]
    rcases h4 with ⟨a, rfl, -, -⟩ | ⟨a, b, rfl, -, -⟩ | ⟨a, b, rfl, -, -⟩
    · rw [a]; rfl
    · rw [a, b]; rfl
    · rw [a, b]; rfl)
  clear hi hmi
  generalize tileB t = tb at HCK ⊢
  go_enter Try.func13, Try.ntmps13
  go_wp2_with fail
  refine HCK.out.mono ?_
  rintro e w2 ⟨v, no, pl, rfl, hno, hb2⟩
  have B2 := Lib.hid hb2
  clear hb2
  go_wp2
  go_ret
  exact ⟨by first | (rw [hno]; rfl) | rfl, B2.out⟩

theorem ax_tests {ax : Int} : (axB ax = true → decide (ax < 1) = false ∧ decide (2 < ax) = false) := fun h => by
  rcases (axB_iff ax).1 h with rfl | rfl <;> decide
theorem ax_test2 {ax : Int} (h : axB ax = false) : decide (ax < 1) = true ∨ (decide (ax < 1) = false ∧ decide (2 < ax) = true) := by
  have hn : ¬ (ax = 1 ∨ ax = 2) := fun e => by rw [(axB_iff ax).2 e] at h; cases h
  by_cases h1 : ax < 1
  · exact .inl (decide_eq_true h1)
  · exact .inr ⟨decide_eq_false h1, decide_eq_true (by omega)⟩

theorem fits_parts (t : T) (a b : Int) : fits8 t a b = (mayT t && (decide (lsT 1 t ≤ a) && (decide (a ≤ 10000 - t.r.x) && (decide (lsT 2 t ≤ b) && decide (b ≤ 10000 - t.r.y))))) := by
  have e1 : atA t.r 1 = t.r.x := rfl
  have e2 : atA t.r 2 = t.r.y := rfl
  unfold fits8 roomB
  rw [e1, e2]
  simp only [Bool.and_assoc]

end Go.Proofs.Ytodcabaihhmhnaa
/- A leaf is split: the document's answer. -/
namespace Go.Proofs.Ytodcabaihhmhnaa
open Go.RowKit

theorem sp_err {t : T} {id ax z fresh : Int} {ahead : Bool} {kind : IntKind} {w w' : World} {n : Int} (hn : spE t id ax z fresh ahead = n) (h0 : n ≠ 0) (hb : Below w.heap.size w w') : SpSays t id ax z fresh ahead kind w (.returned (.tuple #[cval noC, .int kind n])) w' := by
  subst hn
  exact ⟨noC, rfl, by rw [if_neg h0]; exact no_is w', hb⟩
theorem sp_ok {t t' : T} {id ax z fresh : Int} {ahead : Bool} {kind : IntKind} {w w' : World} {d : C} (hn : spE t id ax z fresh ahead = 0) (ht : spT t id ax z fresh ahead = t') (hi : Is w' d t') (hb : Below w.heap.size w w') : SpSays t id ax z fresh ahead kind w (.returned (.tuple #[cval d, .int kind 0])) w' := by
  subst ht
  exact ⟨d, by rw [hn], by rw [if_pos hn]; exact hi, hb⟩
theorem sp_arg {t : T} {id ax z fresh : Int} {ahead : Bool} (h : ¬ (tileB t = true ∧ axB ax = true ∧ 0 ≤ z ∧ 0 ≤ fresh ∧ fresh ≤ 2147483647)) : spE t id ax z fresh ahead = 1 := if_neg h
theorem sp_dup {t : T} {id ax z fresh : Int} {ahead : Bool} (h : tileB t = true ∧ axB ax = true ∧ 0 ≤ z ∧ 0 ≤ fresh ∧ fresh ≤ 2147483647) (hf : (lfF fresh t).isSome = true) : spE t id ax z fresh ahead = 1 := by
  unfold spE; rw [if_pos h, if_pos hf]
theorem sp_none {t : T} {id ax z fresh : Int} {ahead : Bool} (h : tileB t = true ∧ axB ax = true ∧ 0 ≤ z ∧ 0 ≤ fresh ∧ fresh ≤ 2147483647) (hf : (lfF fresh t).isSome = false) (hl : lfF id t = none) : spE t id ax z fresh ahead = 6 := by
  unfold spE; rw [if_pos h, if_neg (by rw [hf]; decide), hl]
theorem sp_some {t u : T} {id ax z fresh : Int} {ahead : Bool} (h : tileB t = true ∧ axB ax = true ∧ 0 ≤ z ∧ 0 ≤ fresh ∧ fresh ≤ 2147483647) (hf : (lfF fresh t).isSome = false) (hl : lfF id t = some u) :
    spE t id ax z fresh ahead = if szA u.r ax < 3 then 7 else if 20000 < sz (inT id ax (bothT u ax z fresh ahead) t) then 8 else 0 := by
  unfold spE; rw [if_pos h, if_neg (by rw [hf]; decide), hl]
theorem lf_leaf {id : Int} {t u : T} (h : lfF id t = some u) : u.k = 1 ∧ u.id = id ∧ u ∈ preT t := by
  have h1 := List.find?_some h
  have h2 := List.mem_of_find?_eq_some h
  rw [List.mem_filter] at h2
  refine ⟨?_, ?_, h2.1⟩
  · have := h2.2; unfold leafB at this; simpa using this
  · unfold lfB at h1; simpa using h1

/-- What the call keeps: its tree's box, its answer's, an empty one. -/
abbrev startW (w : World) (c : C) : World := ((w.alloc (cbox c)).alloc zeroBox).alloc zeroBox
structure LSt (w : World) (c : C) (W : World) : Prop where
  below : Below w.heap.size w W
  box : Box7 W w.heap.size c
  zero : Zero7 W (w.heap.size + 1)
  none : Box7 W (w.heap.size + 2) noC
theorem LSt.up {w W W' : World} {c : C} (h : LSt w c W) (hb : Below W.heap.size W W') : LSt w c W' := ⟨h.below.trans (hb.mono h.below.size), h.box.up hb, zero_up h.zero hb, h.none.up hb⟩
theorem LSt.start (w : World) (c : C) : LSt w c (startW w c) := by
  have h1 := cellW_below w c
  have h2 : Below (cellW w c).heap.size (cellW w c) (startW w c) := (Below.refl _ _).alloc (Nat.le_refl _) _
  refine ⟨h1.trans (h2.mono h1.size), (cellW_box w c).up h2, zero_up (cellW_zero w c) h2, ?_⟩
  have := zero_new (cellW w c)
  rw [cellW_size] at this
  exact this
theorem LSt.is {w W : World} {c : C} {t : T} (h : LSt w c W) (hi : Is w c t) : Is W c t := hi.up h.below

structure L2 (w : World) (c : C) (b : Nat) (lc : C) (W : World) : Prop where
  st : LSt w c W
  leaf : Box7 W b lc
theorem L2.up {w W W' : World} {c lc : C} {b : Nat} (h : L2 w c b lc W) (hb : Below W.heap.size W W') : L2 w c b lc W' := ⟨h.st.up hb, h.leaf.up hb⟩
abbrev C14 (b : Nat) (c : C) (b2 : Nat) (d : C) (W : World) : Prop := (W.cell? ⟨b, 0, none⟩ = some (.int .u8 c.k) ∧ W.cell? ⟨b, 1, none⟩ = some (.int .i64 c.r.x) ∧ W.cell? ⟨b, 2, none⟩ = some (.int .i64 c.r.y) ∧ W.cell? ⟨b, 3, none⟩ = some (.int .i64 c.r.w) ∧ W.cell? ⟨b, 4, none⟩ = some (.int .i64 c.r.h) ∧ W.cell? ⟨b, 5, none⟩ = some (.int .i64 c.id) ∧ W.cell? ⟨b, 6, none⟩ = some (.slice c.a c.n c.cap)) ∧ W.cell? ⟨b2, 0, none⟩ = some (.int .u8 d.k) ∧ W.cell? ⟨b2, 1, none⟩ = some (.int .i64 d.r.x) ∧ W.cell? ⟨b2, 2, none⟩ = some (.int .i64 d.r.y) ∧ W.cell? ⟨b2, 3, none⟩ = some (.int .i64 d.r.w) ∧ W.cell? ⟨b2, 4, none⟩ = some (.int .i64 d.r.h) ∧ W.cell? ⟨b2, 5, none⟩ = some (.int .i64 d.id) ∧ W.cell? ⟨b2, 6, none⟩ = some (.slice d.a d.n d.cap)
theorem L2.c14 {w W : World} {c lc : C} {b : Nat} (h : L2 w c b lc W) : C14 w.heap.size c b lc W := ⟨c7_of h.st.box.cat, c7_of h.leaf.cat⟩
theorem c14_alloc {b b2 : Nat} {c d : C} {W : World} (h : C14 b c b2 d W) (o : Obj) : C14 b c b2 d (W.alloc o) := by
  have hb : Below W.heap.size W (W.alloc o) := (Below.refl _ _).alloc (Nat.le_refl _) _
  obtain ⟨⟨a0, a1, a2, a3, a4, a5, a6⟩, b0, b1, b2, b3, b4, b5, b6⟩ := h
  exact ⟨⟨(hb.cell (lt_of_cell a0)).trans a0, (hb.cell (lt_of_cell a1)).trans a1, (hb.cell (lt_of_cell a2)).trans a2, (hb.cell (lt_of_cell a3)).trans a3, (hb.cell (lt_of_cell a4)).trans a4, (hb.cell (lt_of_cell a5)).trans a5, (hb.cell (lt_of_cell a6)).trans a6⟩, (hb.cell (lt_of_cell b0)).trans b0, (hb.cell (lt_of_cell b1)).trans b1, (hb.cell (lt_of_cell b2)).trans b2, (hb.cell (lt_of_cell b3)).trans b3, (hb.cell (lt_of_cell b4)).trans b4, (hb.cell (lt_of_cell b5)).trans b5, (hb.cell (lt_of_cell b6)).trans b6⟩

theorem c14_put7 {b b2 k : Nat} {c d x : C} {W : World} (h : C14 b c b2 d W) (h1 : b ≠ k) (h2 : b2 ≠ k) : C14 b c b2 d (put7 W k x) := by
  have g1 : ∀ o, (put7 W k x).cell? ⟨b, o, none⟩ = W.cell? ⟨b, o, none⟩ := fun o => World.cell?_of_block (a := ⟨b, o, none⟩) (heap_put7 h1)
  have g2 : ∀ o, (put7 W k x).cell? ⟨b2, o, none⟩ = W.cell? ⟨b2, o, none⟩ := fun o => World.cell?_of_block (a := ⟨b2, o, none⟩) (heap_put7 h2)
  obtain ⟨⟨a0, a1, a2, a3, a4, a5, a6⟩, b0, b1, b2, b3, b4, b5, b6⟩ := h
  exact ⟨⟨(g1 _).trans a0, (g1 _).trans a1, (g1 _).trans a2, (g1 _).trans a3, (g1 _).trans a4, (g1 _).trans a5, (g1 _).trans a6⟩, (g2 _).trans b0, (g2 _).trans b1, (g2 _).trans b2, (g2 _).trans b3, (g2 _).trans b4, (g2 _).trans b5, (g2 _).trans b6⟩

/-- Split, done: the whole tree in a box. -/
structure Mid (w : World) (c : C) (b : Nat) (d : C) (t' : T) (W : World) : Prop where
  st : LSt w c W
  cat : CAt W b 0 d
  is : Is W d t'
theorem Mid.up {w W W' : World} {c d : C} {b : Nat} {t' : T} (h : Mid w c b d t' W) (hb : Below W.heap.size W W') : Mid w c b d t' W' := ⟨h.st.up hb, h.cat.up hb, h.is.up hb⟩
theorem mid_new {w W : World} {c d : C} {t' : T} (h : LSt w c W) (hi : Is W d t') : Mid w c W.heap.size d t' (W.alloc (cbox d)) :=
  have hb : Below W.heap.size W (W.alloc (cbox d)) := (Below.refl _ _).alloc (Nat.le_refl _) _
  ⟨h.up hb, by simpa using cbox_new W d, hi.up hb⟩
/-- What stands: the elder memory, and the row of both. -/
def SpE (w : World) (v : Value) (ps : List C) (W : World) : Prop := Eld w W ∧ CRow W v ps
theorem spE_mk {w W : World} {base : Nat} {v : Value} {ps : List C} (h1 : Below w.heap.size w W) (h2 : OwnC W base v ps) : SpE w v ps W := ⟨Eld.of h1, h2.row⟩
theorem SpE.up {w : World} {v : Value} {ps : List C} : ∀ W W' : World, SpE w v ps W → Below W.heap.size W W' → SpE w v ps W' := fun _ _ h hb => ⟨h.1.up hb, h.2.up hb⟩
theorem mid_put {w W : World} {c d : C} {b lo hi base : Nat} {t' : T} {v : Value} {ps : List C} (h : LSt w c W) (hs : Stands (SpE w v ps) W lo hi d t') (hz : Zero7 W b) (h2 : w.heap.size + 2 < b) (hlo : b < lo) (hrow : OwnC W base v ps) (hne : ∀ g, v.ownBlock = some g → g ≠ b) : Mid w c b d t' (put7 W b d) := by
  have hsm : ∀ k, k ≠ b → (put7 W b d).heap[k]? = W.heap[k]? := fun k hk => heap_put7 hk
  refine ⟨⟨below_put7 h.below (by omega) d, (hsm _ (by omega)).trans h.box, (hsm _ (by omega)).trans h.zero, (hsm _ (by omega)).trans h.none⟩, ((Box7.of_zero hz).put d).cat, ?_⟩
  refine hs _ ⟨fun k hk => (hsm k (by omega)).trans (h.below.block k hk), (ownC_kept hrow fun g hg => hsm g (hne g hg)).row⟩ fun k hk _ => hsm k (by omega)

theorem ltA {a b : Nat} (h : a + 2 < b) : a < b := by omega
theorem two_shape {w : World} {base : Nat} {v : Value} {r : R} {id ax a b fresh : Int} {ahead : Bool} (h : OwnC w base v (twoC r id ax a b fresh ahead)) : ∃ va vcap, v = .slice va 2 vcap := by
  obtain ⟨va, vcap, hv⟩ := h.row.shape
  rw [twoC_len] at hv
  exact ⟨va, vcap, hv⟩
theorem own2_lt {W : World} {base cap : Nat} {a : Option Addr} {ps : List C} (h : OwnC W base (.slice a 2 cap) ps) : base < W.heap.size := by
  rcases h.2 with ⟨h1, -⟩ | ⟨g, cap', cur, h1, hb, hg, -⟩
  · cases h1
  · have := lt_of_block hg; omega
theorem mid_a {w W W11 W6 : World} {c d : C} {t' : T} {v : Value} {ps : List C} {base : Nat} (h : LSt w c W) (hs : Stands (SpE w v ps) W W11.heap.size W.heap.size d t') (hz : Zero7 W W6.heap.size) (h2 : w.heap.size + 2 < W6.heap.size) (hlo : W6.heap.size < W11.heap.size) (hrow : OwnC W base v ps) (hbase : W6.heap.size < base) : Mid w c W6.heap.size d t' (put7 W W6.heap.size d) :=
  mid_put h hs hz h2 hlo hrow fun g hg => by have := own_block hrow hg; omega
theorem mid_b {w W W11 : World} {c d : C} {t' : T} {v : Value} {ps : List C} {base : Nat} (h : LSt w c W) (hs : Stands (SpE w v ps) W (W11.alloc zeroBox).heap.size W.heap.size d t') (hz : Zero7 W W11.heap.size) (h2 : w.heap.size + 2 < W11.heap.size) (hrow1 : OwnC W11 base v ps) (hrow : OwnC W base v ps) : Mid w c W11.heap.size d t' (put7 W W11.heap.size d) :=
  mid_put h hs hz h2 (by simp) hrow fun g hg => by have := own_block hrow1 hg; omega

end Go.Proofs.Ytodcabaihhmhnaa
/- The place of a kid that is a leaf with a number; its neighbour's: the document's. -/
namespace Go.Proofs.Ytodcabaihhmhnaa
open Go.RowKit

def plB (id : Int) (t : T) : Bool := t.k == 1 && t.id == id
/-- The place, counted from m; -1. -/
def plN (id : Int) : List T → Nat → Int
  | [], _ => -1
  | t :: l, m => if plB id t = true then (m : Int) else plN id l (m + 1)
theorem plN_at {id : Int} {l : List T} : ∀ {k m : Nat} {u : T}, (∀ (j : Nat) (x : T), j < k → l[j]? = some x → plB id x = false) → l[k]? = some u → plB id u = true → plN id l m = ((m + k : Nat) : Int) := by
  induction l with
  | nil => intro k m u hno hu; simp at hu
  | cons t l ih =>
    intro k m u hno hu hp
    cases k with
    | zero => simp at hu; subst hu; rw [plN, if_pos hp]; simp
    | succ k =>
      have h0 := hno 0 t (by omega) rfl
      rw [plN, if_neg (by rw [h0]; decide), ih (k := k) (m := m + 1) (fun j y hj hy => hno (j + 1) y (by omega) (by simpa using hy)) (by simpa using hu) hp]
      congr 1; omega
theorem plN_none {id : Int} {l : List T} : ∀ {m : Nat}, (∀ (j : Nat) (x : T), j < l.length → l[j]? = some x → plB id x = false) → plN id l m = -1 := by
  induction l with
  | nil => intro m _; rfl
  | cons t l ih =>
    intro m hno
    have h0 := hno 0 t (by simp) rfl
    rw [plN, if_neg (by rw [h0]; decide)]
    exact ih fun j y hj hy => hno (j + 1) y (by simpa using hj) (by simpa using hy)
/-- The neighbour that grows. -/
def heirN (i : Int) : Int := if i = 0 then 1 else i - 1

end Go.Proofs.Ytodcabaihhmhnaa
