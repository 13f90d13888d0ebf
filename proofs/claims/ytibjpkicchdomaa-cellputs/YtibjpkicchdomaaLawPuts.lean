/- The law CellPuts. -/
import Derived.Test.YtibjpkicchdomaaPut
import Derived.Test.YtibjpkicchdomaaRPut
import Derived.Deep.Cut
namespace Go.Proofs.Ytibjpkicchdomaa
open Go.RowKit

/-- A block that has room for n cells. -/
def Slab (W : World) (g n : Nat) : Prop := ∃ cur, W.heap[g]? = some (.cells cur 26 (0, 0)) ∧ n * 7 ≤ cur.size
theorem Slab.cell {W : World} {g n j i : Nat} (h : Slab W g n) (hj : j < n) (hi : i < 7) : ∃ v, W.cell? ⟨g, j * 7 + i, none⟩ = some v := by
  obtain ⟨cur, h1, h2⟩ := h
  refine ⟨cur[j * 7 + i]'(by omega), ?_⟩
  simp only [World.cell?, h1]
  simp
theorem Slab.free {W : World} {g n : Nat} (h : Slab W g n) (o : Nat) : W.frozen? ⟨g, o, none⟩ = false := by
  obtain ⟨cur, h1, -⟩ := h
  exact free_of_block h1 o
theorem Slab.set {W : World} {g n : Nat} (h : Slab W g n) (i : Nat) (v : Value) : Slab (W.setCell ⟨g, i, none⟩ v) g n := by
  obtain ⟨cur, h1, h2⟩ := h
  exact ⟨_, set_block h1 v, by simpa using h2⟩
theorem Slab.keep {W W' : World} {g n : Nat} (h : Slab W g n) (hk : W'.heap[g]? = W.heap[g]?) : Slab W' g n := by
  obtain ⟨cur, h1, h2⟩ := h
  exact ⟨cur, hk.trans h1, h2⟩
/-- The kids of a cell lie in a block between lo and hi. -/
def Room (W : World) (lo hi : Nat) (x : C) : Prop := 0 < x.n → ∃ g, x.a = some ⟨g, 0, none⟩ ∧ lo ≤ g ∧ g < hi ∧ Slab W g x.n
theorem room_of {W : World} {base : Nat} {x : C} (h : HasRow W base x) : Room W base W.heap.size x := by
  intro hn
  obtain ⟨cs, h⟩ := h
  have hl := h.row.len
  obtain ⟨g, cap, hv, hbg, hgl⟩ := h.form (by omega)
  have hxa : x.a = some ⟨g, 0, none⟩ := by injection hv
  refine ⟨g, hxa, hbg, hgl, ?_⟩
  rw [hxa] at h
  rcases h.2 with ⟨h0, -⟩ | ⟨g', cap', cur, he, hb, hgg, hn2, hm, hs, ht⟩
  · cases h0
  · have e : g = g' := by injection he with e1 e2 e3; injection e1 with e1; injection e1
    subst e
    have e2 : x.cap = cap' := by injection he
    exact ⟨cur, hgg, by omega⟩
theorem Room.up {W W' : World} {lo hi : Nat} {x : C} (h : Room W lo hi x) (hh : hi ≤ W.heap.size) (hb : Below W.heap.size W W') : Room W' lo hi x := fun hn => by
  obtain ⟨g, h1, h2, h3, h4⟩ := h hn
  exact ⟨g, h1, h2, h3, h4.keep (hb.block g (by omega))⟩

/-- What marks turn: blocks between lo and hi. -/
structure Turned (w W : World) (lo hi : Nat) (x : C) (wr : World) : Prop where
  below : Below w.heap.size w wr
  size : wr.heap.size = W.heap.size
  same : ∀ b, b < lo ∨ hi ≤ b → wr.heap[b]? = W.heap[b]?
  room : Room wr lo hi x
theorem Turned.set {w W : World} {lo hi : Nat} {x : C} {wr : World} (h : Turned w W lo hi x wr) {g : Nat} (hg : x.a = some ⟨g, 0, none⟩) (hl : lo ≤ g) (hh : g < hi) (hw : w.heap.size ≤ lo) (i : Nat) (v : Value) : Turned w W lo hi x (wr.setCell ⟨g, i, none⟩ v) := by
  refine ⟨h.below.setCell (by simp; omega) _, by simp [World.setCell, h.size], fun b hb => ?_, fun hn => ?_⟩
  · rw [Below.heap_setCell _ ⟨g, i, none⟩ _ b (by simp; omega)]
    exact h.same b hb
  · obtain ⟨g', h1, h2, h3, h4⟩ := h.room hn
    rw [hg] at h1
    cases h1
    exact ⟨g, hg, hl, hh, h4.set i v⟩
theorem Turned.box {w W : World} {lo hi : Nat} {x : C} {wr : World} (h : Turned w W lo hi x wr) {b : Nat} {y : C} (hb : Box7 W b y) (hl : b < lo ∨ hi ≤ b) : Box7 wr b y := (h.same b hl).trans hb

abbrev putsW (w : World) (c k : C) : World := (w.alloc (cbox c)).alloc (cbox k)
theorem bne_self2 (b : Bool) : (b != b) = false := by cases b <;> rfl
theorem sameT_self'' (a : T) : sameT a a = true := (sameT_iff a a).2 rfl
theorem puts_below (w : World) (c k : C) : Below w.heap.size w (putsW w c k) := ((Below.refl _ _).alloc (Nat.le_refl _) _).alloc (by simp) _
theorem puts_fst (w : World) (c k : C) : Box7 (putsW w c k) w.heap.size c := (Box7.new w c).up ((Below.refl _ _).alloc (Nat.le_refl _) _)
theorem puts_snd (w : World) (c k : C) : Box7 (putsW w c k) (w.heap.size + 1) k := by
  have := Box7.new (w.alloc (cbox c)) k
  simpa using this
theorem Box7.cells {w : World} {b : Nat} {c : C} (h : Box7 w b c) : w.cell? ⟨b, 0, none⟩ = some (.int .u8 c.k) ∧ w.cell? ⟨b, 1, none⟩ = some (.int .i64 c.r.x) ∧ w.cell? ⟨b, 2, none⟩ = some (.int .i64 c.r.y) ∧ w.cell? ⟨b, 3, none⟩ = some (.int .i64 c.r.w) ∧ w.cell? ⟨b, 4, none⟩ = some (.int .i64 c.r.h) ∧ w.cell? ⟨b, 5, none⟩ = some (.int .i64 c.id) ∧ w.cell? ⟨b, 6, none⟩ = some (.slice c.a c.n c.cap) := by
  obtain ⟨c0, c1, c2, c3, c4, c5, c6⟩ := h.cat
  simp only [Nat.zero_add] at c1 c2 c3 c4 c5 c6
  exact ⟨c0, c1, c2, c3, c4, c5, c6⟩

set_option maxRecDepth 100000 in
set_option maxHeartbeats 4000000 in
theorem cellPuts_any (t kt : T) (c k : C) (v : Value) (p : List Int) (mark : Int) (w : World) (hc : Is w c t) (hk : Is w k kt) (hp : Path w v p) :
    Calls Try.prog 3 #[cval c, cval k, v, .int .i64 mark] w fun e w' => e = .returned (.bool true) ∧ Below w.heap.size w w' := by
  have B0 := Lib.hid (puts_below w c k)
  have X0 := Lib.hid (puts_fst w c k)
  have Y0 := Lib.hid (puts_snd w c k)
  have HC := Lib.hid hc
  have HK := Lib.hid hk
  have HP := Lib.hid hp
  have HG1 := Lib.hid (great_any t c (putsW w c k) (hc.up B0.out))
  obtain ⟨a, cap, rfl, -⟩ := hp.cap
  clear hc hk hp
  go_enter Try.func3, Try.ntmps3
  go_wp2_with fail
  refine HG1.out.mono ?_
  rintro e w1 ⟨g1, rfl, -, hb1⟩
  have B1 := Lib.hid (B0.out.trans (hb1.mono B0.out.size))
  have X1 := Lib.hid (X0.out.up hb1)
  have Y1 := Lib.hid (Y0.out.up hb1)
  clear hb1
  cases g1 with
  | true =>
    go_wp2_with fail
    refine (awake_any w1).mono ?_
    rintro e w2 ⟨rfl, hb2⟩
    have B2 := Lib.hid (B1.out.trans (hb2.mono B1.out.size))
    clear hb2
    go_wp2
    go_ret
    exact ⟨rfl, B2.out⟩
  | false =>
    obtain ⟨d0, d1, d2, d3, d4, d5, d6⟩ := Y1.out.cells
    have HG2 := Lib.hid (great_any kt k w1 (HK.out.up B1.out))
    go_wp2_with fail
    refine HG2.out.mono ?_
    rintro e w2 ⟨g2, rfl, -, hb2⟩
    have B2 := Lib.hid (B1.out.trans (hb2.mono B1.out.size))
    have X2 := Lib.hid (X1.out.up hb2)
    have Y2 := Lib.hid (Y1.out.up hb2)
    clear hb2 d0 d1 d2 d3 d4 d5 d6
    cases g2 with
    | true =>
      go_wp2_with fail
      refine (awake_any w2).mono ?_
      rintro e w3 ⟨rfl, hb3⟩
      have B3 := Lib.hid (B2.out.trans (hb3.mono B2.out.size))
      clear hb3
      go_wp2
      go_ret
      exact ⟨rfl, B3.out⟩
    | false =>
      by_cases h50 : 50 < p.length
      · have d50 : decide (50 < (p.length : Int)) = true := decide_eq_true (by omega)
        have d50' : decide (50 < p.length) = true := decide_eq_true h50
        go_wp2_with fail
        refine (awake_any w2).mono ?_
        rintro e w3 ⟨rfl, hb3⟩
        have B3 := Lib.hid (B2.out.trans (hb3.mono B2.out.size))
        clear hb3
        go_wp2
        go_ret
        exact ⟨rfl, B3.out⟩
      · have d50 : decide (50 < (p.length : Int)) = false := decide_eq_false (by omega)
        have d50' : decide (50 < p.length) = false := decide_eq_false h50
        have HL : Hid (p.length ≤ 1000000) := Lib.hid (by omega)
        have HPT := Lib.hid (put_any t kt c k _ p w2 (HC.out.up B2.out) (HK.out.up B2.out) (HP.out.up B2.out).row HL.out)
        have HRP := Lib.hid (fun W (h : Below w.heap.size w W) => rput_any w kt k HK.out p t c _ W HC.out h HP.out HL.out)
        have HTH : Hid (∀ t', putT kt t p = some t' → atT t' p = some kt) := Lib.hid (fun t' h => put_there h)
        have HW2 : Hid (w.heap.size + 2 ≤ w2.heap.size) := Lib.hid (by have := lt_of_block Y2.out; omega)
        generalize putT kt t p = r at HPT HRP HTH
        obtain ⟨c0, c1, c2, c3, c4, c5, c6⟩ := X2.out.cells
        obtain ⟨d0, d1, d2, d3, d4, d5, d6⟩ := Y2.out.cells
        go_wp2_with fail
        refine HPT.out.mono ?_
        rintro e w3 ⟨x, rfl, hx3, hrow3, hb3⟩
        have A3 : Hid (Below w3.heap.size w3 (w3.alloc (cbox x))) := (Below.refl _ _).alloc (Nat.le_refl _) _
        have hb3a := hb3.trans (A3.out.mono hb3.size)
        have B3 := Lib.hid (B2.out.trans (hb3a.mono B2.out.size))
        have X3' := Lib.hid (X2.out.up hb3)
        have Y3' := Lib.hid (Y2.out.up hb3)
        have X3 := Lib.hid (X2.out.up hb3a)
        have Y3 := Lib.hid (Y2.out.up hb3a)
        have Z3 := Lib.hid (Box7.new w3 x)
        have I3 := Lib.hid (hx3.up A3.out)
        have R3 := Lib.hid ((room_of hrow3).up (Nat.le_refl _) A3.out)
        have hlt3 : w.heap.size < w3.heap.size := lt_of_block X3'.out
        have hlt3' : w.heap.size + 1 < w3.heap.size := lt_of_block Y3'.out
        have hne3 : w.heap.size ≠ w3.heap.size := by omega
        have hne3' : w.heap.size + 1 ≠ w3.heap.size := by omega
        clear hb3 hb3a hx3 hrow3 c0 c1 c2 c3 c4 c5 c6 d0 d1 d2 d3 d4 d5 d6
        obtain ⟨c0, c1, c2, c3, c4, c5, c6⟩ := X3'.out.cells
        obtain ⟨d0, d1, d2, d3, d4, d5, d6⟩ := Y3'.out.cells
        go_wp2_with fail
        refine (HRP.out _ B3.out).mono ?_
        rintro e w4 ⟨y, rfl, hy4, hb4⟩
        have A4 : Hid (Below w4.heap.size w4 (w4.alloc (cbox y))) := (Below.refl _ _).alloc (Nat.le_refl _) _
        have hb4a := hb4.trans (A4.out.mono hb4.size)
        have B4 := Lib.hid (B3.out.trans (hb4a.mono B3.out.size))
        have X4 := Lib.hid (X3.out.up hb4a)
        have Y4 := Lib.hid (Y3.out.up hb4a)
        have Z4 := Lib.hid (Z3.out.up hb4a)
        have V4 := Lib.hid (Box7.new w4 y)
        have I4 := Lib.hid (I3.out.up hb4a)
        have J4 : Hid (IsFor w (w4.alloc (cbox y)) w3.heap.size y (r.getD zT)) := Lib.hid (hy4.up (by simp) A4.out)
        have R4 := Lib.hid (R3.out.up (by simp) hb4a)
        have HS4 : Hid (w3.heap.size < w4.heap.size) := Lib.hid (by have := hb4.size; simp at this; omega)
        have Z4' := Lib.hid (Z3.out.up hb4)
        have hne4 : w3.heap.size ≠ w4.heap.size := by have := HS4.out; omega
        clear hb4 hb4a hy4 c0 c1 c2 c3 c4 c5 c6 d0 d1 d2 d3 d4 d5 d6
        have hbn := bne_self2 r.isSome
        have HSS := Lib.hid (rsame_any (sz (r.getD zT)) (r.getD zT) (r.getD zT) x y (w4.alloc (cbox y)) (Nat.le_refl _) I4.out (J4.out.is B4.out))
        rw [sameT_self''] at HSS
        have HV4 : Hid (w4.heap.size < (w4.alloc (cbox y)).heap.size) := Lib.hid (by simp)
        go_upto_region 5 with (fail)
        change Code.wp _ _ _ _ (w4.alloc (cbox y))
        generalize w4.alloc (cbox y) = w4a at B4 X4 Y4 Z4 V4 I4 J4 R4 HSS HV4 ⊢
        obtain ⟨c0, c1, c2, c3, c4, c5, c6⟩ := Z4.out.cells
        obtain ⟨d0, d1, d2, d3, d4, d5, d6⟩ := V4.out.cells
        go_wp2_with fail
        refine HSS.out.mono ?_
        rintro e w5 ⟨rfl, hb5⟩
        have B5 := Lib.hid (B4.out.trans (hb5.mono B4.out.size))
        have X5 := Lib.hid (X4.out.up hb5)
        have Y5 := Lib.hid (Y4.out.up hb5)
        have Z5 := Lib.hid (Z4.out.up hb5)
        have V5 := Lib.hid (V4.out.up hb5)
        have I5 := Lib.hid (I4.out.up hb5)
        have J5 := Lib.hid (J4.out.up (Nat.le_refl _) hb5)
        have R5 := Lib.hid (R4.out.up (by have := HS4.out; have := HV4.out; omega) hb5)
        have HS5 : Hid (w4.heap.size < w5.heap.size) := Lib.hid (by have := hb5.size; have := HV4.out; omega)
        clear hb5 c0 c1 c2 c3 c4 c5 c6 d0 d1 d2 d3 d4 d5 d6
        obtain ⟨c0, c1, c2, c3, c4, c5, c6⟩ := Z5.out.cells
        have HAT := Lib.hid (at_any (r.getD zT) x _ p w5 I5.out (HP.out.up B5.out).row HL.out)
        go_wp2_with fail
        refine HAT.out.mono ?_
        rintro e w6 ⟨z, rfl, hz6, hb6⟩
        have A6 : Hid (Below w6.heap.size w6 (w6.alloc (cbox z))) := (Below.refl _ _).alloc (Nat.le_refl _) _
        have hb6a := hb6.trans (A6.out.mono hb6.size)
        have B6 := Lib.hid (B5.out.trans (hb6a.mono B5.out.size))
        have X6 := Lib.hid (X5.out.up hb6a)
        have Y6 := Lib.hid (Y5.out.up hb6a)
        have Z6 := Lib.hid (Z5.out.up hb6a)
        have V6 := Lib.hid (V5.out.up hb6a)
        have J6 := Lib.hid (J5.out.up (Nat.le_refl _) hb6a)
        have R6 := Lib.hid (R5.out.up (by have := HS4.out; have := HS5.out; omega) hb6a)
        have I6 := Lib.hid (hz6.up A6.out)
        have Y6' := Lib.hid (Y5.out.up hb6)
        have hne6 : w.heap.size + 1 ≠ w6.heap.size := by have := lt_of_block Y6'.out; omega
        have HS6 : Hid (w4.heap.size < w6.heap.size) := Lib.hid (by have := HS5.out; have := hb6.size; omega)
        have HXN : Hid (x.n = (r.getD zT).kids.length) := Lib.hid I5.out.n
        have HFN : Hid (x.n ≤ 1954687338211) := Lib.hid I5.out.fine.2.2.2
        clear hb6 hb6a hz6 c0 c1 c2 c3 c4 c5 c6 HSS HAT HPT
        go_upto_region 8 with (fail)
        change Code.wp _ _ _ _ (w6.alloc (cbox z))
        have N6 := Lib.hid (Box7.new w6 z)
        generalize w6.alloc (cbox z) = w6a at B6 X6 Y6 Z6 V6 J6 R6 I6 N6 ⊢
        rcases r with _ | t'
        · have B7 := B6
          have X7 := X6
          have Y7 := Y6
          have Z7 := Z6
          have V7 := V6
          have J7 := J6
          have R7 := R6
          clear B6 X6 Y6 Z6 V6 J6 R6 I6 N6 Y6'
          have z6 := Z7.out.cells.2.2.2.2.2.2
          go_wp2
          go_loopg [15] (x.n + 1) (fun g i wr => ∃ j : Nat, g + j = x.n + 1 ∧ j ≤ x.n ∧ i = .int .i64 j ∧ Turned w w6a w2.heap.size w3.heap.size x wr)
          case atStart => exact ⟨0, by omega, by omega, rfl, B7.out, rfl, fun _ _ => rfl, R7.out⟩
          case round =>
            obtain ⟨j, hg, hj, rfl, ht⟩ := hrel
            have HG := Lib.hid hg
            have HT := Lib.hid ht
            have Z8 := Lib.hid (ht.box Z7.out (.inr (Nat.le_refl _)))
            clear hg ht z6
            have z6 := Z8.out.cells.2.2.2.2.2.2
            have hfn := HFN.out
            by_cases hlt : j < x.n
            · obtain ⟨g, hxa, hl, hh, hsl⟩ := HT.out.room (by omega)
              rw [hxa] at z6
              obtain ⟨v5, s5⟩ := hsl.cell hlt (i := 5) (by omega)
              have f5 := hsl.free (j * 7 + 5)
              have hlti : (j : Int) < (x.n : Int) := by omega
              have T9 := Lib.hid (HT.out.set hxa hl hh (by have := HW2.out; omega) (j * 7 + 5) (.int .i64 mark))
              have L9 := Lib.hid (hsl.set (j * 7 + 5) (.int .i64 mark))
              go_upto_region 14 with (fail)
              change Code.wp _ _ _ _ (wr.setCell ⟨g, j * 7 + 5, none⟩ (.int .i64 mark))
              generalize wr.setCell ⟨g, j * 7 + 5, none⟩ (.int .i64 mark) = wq at T9 L9 ⊢
              clear s5 f5 z6 hsl
              have Z9 := Lib.hid (T9.out.box Z7.out (.inr (Nat.le_refl _)))
              have z6 := Z9.out.cells.2.2.2.2.2.2
              rw [hxa] at z6
              obtain ⟨v3, s3⟩ := L9.out.cell hlt (i := 3) (by omega)
              have f3 := L9.out.free (j * 7 + 3)
              have T10 := Lib.hid (T9.out.set hxa hl hh (by have := HW2.out; omega) (j * 7 + 3) (.int .i64 mark))
              go_wp2
              go_roundg (gk - 1)
              case measure => have := HG.out; omega
              case rel => exact ⟨j + 1, by have := HG.out; omega, by omega, by go_num, T10.out⟩
            · obtain rfl : j = x.n := by omega
              have hkl : ((x.n : Int) < (x.n : Int)) = False := by simp
              have X8 := Lib.hid (HT.out.box X7.out (.inl (by have := HW2.out; omega)))
              have Y8 := Lib.hid (HT.out.box Y7.out (.inl (by have := HW2.out; omega)))
              have V8 := Lib.hid (HT.out.box V7.out (.inr (by have := HS4.out; omega)))
              have J8 := Lib.hid (J7.out.step (Nat.le_refl _) (Nat.le_of_eq HT.out.size.symm) (fun b h1 _ => HT.out.same b (.inr h1)))
              have B8 := Lib.hid HT.out.below
              have HR8 := Lib.hid (HRP.out wr B8.out)
              obtain ⟨c0, c1, c2, c3, c4, c5, c6⟩ := X8.out.cells
              obtain ⟨d0, d1, d2, d3, d4, d5, d6⟩ := Y8.out.cells
              clear B0 X0 Y0 HG1 B1 X1 Y1 HG2 B2 X2 Y2 A3 B3 X3' Y3' X3 Y3 Z3 R3 A4 Z4' B4 X4 Y4 Z4 V4 R4 B5 X5 Y5 Z5 V5 R5 I3 I4 J4 I5 J5 B7 X7 Y7 Z7 V7 J7 R7 HT
              go_wp2_with fail
              refine HR8.out.mono ?_
              rintro e w9 ⟨d, rfl, hd9, hb9⟩
              have A9 : Hid (Below w9.heap.size w9 (w9.alloc (cbox d))) := (Below.refl _ _).alloc (Nat.le_refl _) _
              have hb9a := hb9.trans (A9.out.mono hb9.size)
              have B9 := Lib.hid (B8.out.trans (hb9a.mono B8.out.size))
              have V9 := Lib.hid (V8.out.up hb9a)
              have J9 := Lib.hid (J8.out.up (Nat.le_refl _) hb9a)
              have K9 := Lib.hid (hd9.up (Nat.le_refl _) A9.out)
              have N9 := Lib.hid (Box7.new w9 d)
              clear hb9 hb9a hd9 c0 c1 c2 c3 c4 c5 c6 d0 d1 d2 d3 d4 d5 d6
              go_upto_region 16 with (fail)
              change Code.wp _ _ _ _ (w9.alloc (cbox d))
              generalize w9.alloc (cbox d) = w10 at B9 V9 J9 K9 N9 ⊢
              obtain ⟨c0, c1, c2, c3, c4, c5, c6⟩ := N9.out.cells
              obtain ⟨d0, d1, d2, d3, d4, d5, d6⟩ := V9.out.cells
              have HS10 := Lib.hid (rsame_any _ _ _ d y w10 (Nat.le_refl _) (K9.out.is B9.out) (J9.out.is B9.out))
              rw [sameT_self''] at HS10
              go_wp2_with fail
              refine HS10.out.mono ?_
              rintro e w11 ⟨rfl, hb11⟩
              have B11 := Lib.hid (B9.out.trans (hb11.mono B9.out.size))
              clear hb11 c0 c1 c2 c3 c4 c5 c6 d0 d1 d2 d3 d4 d5 d6
              go_wp2_with fail
              refine (awake_any w11).mono ?_
              rintro e w12 ⟨rfl, hb12⟩
              have B12 := Lib.hid (B11.out.trans (hb12.mono B11.out.size))
              clear hb12
              go_wp2
              go_ret
              exact ⟨rfl, B12.out⟩
        · have ha : atT ((some t').getD zT) p = some kt := HTH.out t' rfl
          rw [ha] at I6
          simp only [Option.isSome_some, ha]
          obtain ⟨c0, c1, c2, c3, c4, c5, c6⟩ := N6.out.cells
          obtain ⟨d0, d1, d2, d3, d4, d5, d6⟩ := Y6.out.cells
          have HS7 := Lib.hid (rsame_any (sz kt) kt kt z k w6a (Nat.le_refl _) I6.out (HK.out.up B6.out))
          rw [sameT_self''] at HS7
          clear ha
          go_wp2_with fail
          refine HS7.out.mono ?_
          rintro e w7 ⟨rfl, hb7⟩
          have B7 := Lib.hid (B6.out.trans (hb7.mono B6.out.size))
          have X7 := Lib.hid (X6.out.up hb7)
          have Y7 := Lib.hid (Y6.out.up hb7)
          have Z7 := Lib.hid (Z6.out.up hb7)
          have V7 := Lib.hid (V6.out.up hb7)
          have J7 := Lib.hid (J6.out.up (Nat.le_refl _) hb7)
          have R7 := Lib.hid (R6.out.up (by have := lt_of_block V6.out; have := HS4.out; omega) hb7)
          clear hb7 c0 c1 c2 c3 c4 c5 c6 d0 d1 d2 d3 d4 d5 d6 B6 X6 Y6 Z6 V6 J6 R6 I6 N6 Y6' HS7
          have z6 := Z7.out.cells.2.2.2.2.2.2
          go_wp2
          go_loopg [15] (x.n + 1) (fun g i wr => ∃ j : Nat, g + j = x.n + 1 ∧ j ≤ x.n ∧ i = .int .i64 j ∧ Turned w w7 w2.heap.size w3.heap.size x wr)
          case atStart => exact ⟨0, by omega, by omega, rfl, B7.out, rfl, fun _ _ => rfl, R7.out⟩
          case round =>
            obtain ⟨j, hg, hj, rfl, ht⟩ := hrel
            have HG := Lib.hid hg
            have HT := Lib.hid ht
            have Z8 := Lib.hid (ht.box Z7.out (.inr (Nat.le_refl _)))
            clear hg ht z6
            have z6 := Z8.out.cells.2.2.2.2.2.2
            have hfn := HFN.out
            by_cases hlt : j < x.n
            · obtain ⟨g, hxa, hl, hh, hsl⟩ := HT.out.room (by omega)
              rw [hxa] at z6
              obtain ⟨v5, s5⟩ := hsl.cell hlt (i := 5) (by omega)
              have f5 := hsl.free (j * 7 + 5)
              have hlti : (j : Int) < (x.n : Int) := by omega
              have T9 := Lib.hid (HT.out.set hxa hl hh (by have := HW2.out; omega) (j * 7 + 5) (.int .i64 mark))
              have L9 := Lib.hid (hsl.set (j * 7 + 5) (.int .i64 mark))
              go_upto_region 14 with (fail)
              change Code.wp _ _ _ _ (wr.setCell ⟨g, j * 7 + 5, none⟩ (.int .i64 mark))
              generalize wr.setCell ⟨g, j * 7 + 5, none⟩ (.int .i64 mark) = wq at T9 L9 ⊢
              clear s5 f5 z6 hsl
              have Z9 := Lib.hid (T9.out.box Z7.out (.inr (Nat.le_refl _)))
              have z6 := Z9.out.cells.2.2.2.2.2.2
              rw [hxa] at z6
              obtain ⟨v3, s3⟩ := L9.out.cell hlt (i := 3) (by omega)
              have f3 := L9.out.free (j * 7 + 3)
              have T10 := Lib.hid (T9.out.set hxa hl hh (by have := HW2.out; omega) (j * 7 + 3) (.int .i64 mark))
              go_wp2
              go_roundg (gk - 1)
              case measure => have := HG.out; omega
              case rel => exact ⟨j + 1, by have := HG.out; omega, by omega, by go_num, T10.out⟩
            · obtain rfl : j = x.n := by omega
              have hkl : ((x.n : Int) < (x.n : Int)) = False := by simp
              have X8 := Lib.hid (HT.out.box X7.out (.inl (by have := HW2.out; omega)))
              have Y8 := Lib.hid (HT.out.box Y7.out (.inl (by have := HW2.out; omega)))
              have V8 := Lib.hid (HT.out.box V7.out (.inr (by have := HS4.out; omega)))
              have J8 := Lib.hid (J7.out.step (Nat.le_refl _) (Nat.le_of_eq HT.out.size.symm) (fun b h1 _ => HT.out.same b (.inr h1)))
              have B8 := Lib.hid HT.out.below
              have HR8 := Lib.hid (HRP.out wr B8.out)
              obtain ⟨c0, c1, c2, c3, c4, c5, c6⟩ := X8.out.cells
              obtain ⟨d0, d1, d2, d3, d4, d5, d6⟩ := Y8.out.cells
              clear B0 X0 Y0 HG1 B1 X1 Y1 HG2 B2 X2 Y2 A3 B3 X3' Y3' X3 Y3 Z3 R3 A4 Z4' B4 X4 Y4 Z4 V4 R4 B5 X5 Y5 Z5 V5 R5 I3 I4 J4 I5 J5 B7 X7 Y7 Z7 V7 J7 R7 HT
              go_wp2_with fail
              refine HR8.out.mono ?_
              rintro e w9 ⟨d, rfl, hd9, hb9⟩
              have A9 : Hid (Below w9.heap.size w9 (w9.alloc (cbox d))) := (Below.refl _ _).alloc (Nat.le_refl _) _
              have hb9a := hb9.trans (A9.out.mono hb9.size)
              have B9 := Lib.hid (B8.out.trans (hb9a.mono B8.out.size))
              have V9 := Lib.hid (V8.out.up hb9a)
              have J9 := Lib.hid (J8.out.up (Nat.le_refl _) hb9a)
              have K9 := Lib.hid (hd9.up (Nat.le_refl _) A9.out)
              have N9 := Lib.hid (Box7.new w9 d)
              clear hb9 hb9a hd9 c0 c1 c2 c3 c4 c5 c6 d0 d1 d2 d3 d4 d5 d6
              go_upto_region 16 with (fail)
              change Code.wp _ _ _ _ (w9.alloc (cbox d))
              generalize w9.alloc (cbox d) = w10 at B9 V9 J9 K9 N9 ⊢
              obtain ⟨c0, c1, c2, c3, c4, c5, c6⟩ := N9.out.cells
              obtain ⟨d0, d1, d2, d3, d4, d5, d6⟩ := V9.out.cells
              have HS10 := Lib.hid (rsame_any _ _ _ d y w10 (Nat.le_refl _) (K9.out.is B9.out) (J9.out.is B9.out))
              rw [sameT_self''] at HS10
              go_wp2_with fail
              refine HS10.out.mono ?_
              rintro e w11 ⟨rfl, hb11⟩
              have B11 := Lib.hid (B9.out.trans (hb11.mono B9.out.size))
              clear hb11 c0 c1 c2 c3 c4 c5 c6 d0 d1 d2 d3 d4 d5 d6
              go_wp2_with fail
              refine (awake_any w11).mono ?_
              rintro e w12 ⟨rfl, hb12⟩
              have B12 := Lib.hid (B11.out.trans (hb12.mono B11.out.size))
              clear hb12
              go_wp2
              go_ret
              exact ⟨rfl, B12.out⟩

theorem cellPuts_wf (v0 v1 v2 : Value) (t kt : T) (c k : C) (p : List Int) (mark : Int) (w : World) (e0 : v0 = cval c) (e1 : v1 = cval k) (hc : Is w c t) (hk : Is w k kt) (hp : Path w v2 p) :
    Calls Try.prog 3 #[v0, v1, v2, .int .i64 mark] w fun e w' => e = .returned (.bool true) ∧ Below w.heap.size w w' := by
  subst e0; subst e1
  exact cellPuts_any t kt c k v2 p mark w hc hk hp
end Go.Proofs.Ytibjpkicchdomaa
