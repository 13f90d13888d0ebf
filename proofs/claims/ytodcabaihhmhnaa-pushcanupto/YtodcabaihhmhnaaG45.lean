/- Texts of this seat, 3 in one file. -/
import Derived.Test.YtodcabaihhmhnaaG44
import Derived.Test.YtodcabaihhmhnaaG10
import Derived.Test.YtodcabaihhmhnaaG36
import Derived.Test.YtodcabaihhmhnaaG31
import Derived.Test.YtodcabaihhmhnaaG29
import Derived.Test.YtodcabaihhmhnaaG39
/- The last cell on a path that is along an axis: the program's lastAlong. -/
namespace Go.Proofs.Ytodcabaihhmhnaa
open Go.RowKit Sh

def laI (r : Option Nat) : Int := match r with | some n => (n : Int) | none => 0
set_option maxHeartbeats 1000000 in
set_option maxRecDepth 100000 in
theorem last_any (ax : Int) (t u : T) (p : List Int) (c : C) (va : Option Addr) (vcap : Nat) (w : World) (hl : p.length ≤ 1000000) (hi : Is w c t) (hr : Row w (.slice va p.length vcap) (ints p)) (hat : atT t p = some u) :
    Calls Try.prog 34 #[cval c, .int .u8 ax, .slice va p.length vcap] w fun e w' => e = .returned (.tuple #[.int .i64 (laI (frN ax t p p.length)), .bool (frN ax t p p.length).isSome]) ∧ Below w.heap.size w w' := by
  have B1 : Hid (Below w.heap.size w (w.alloc (cbox c))) := Lib.hid ((Below.refl _ _).alloc (Nat.le_refl _) _)
  have X1 := Lib.hid (Box7.new w c)
  have HI := Lib.hid hi
  have HR := Lib.hid hr
  have HAT := Lib.hid hat
  clear hi hr hat
  go_enter Try.func34, Try.ntmps34
  go_upto_region 1 with (fail)
  change Code.wp _ _ _ _ (w.alloc (cbox c))
  generalize w.alloc (cbox c) = w2 at B1 X1 ⊢
  go_wp2
  go_loopg [8, 9, 14] (p.length + 1) (fun g s o i wr => ∃ (k : Nat) (x : C) (u' : T), g + k = p.length + 1 ∧ k ≤ p.length ∧ i = .int .i64 k ∧ s = .int .i64 (laI (frN ax t p k)) ∧ o = .bool (frN ax t p k).isSome ∧ Box7 wr w.heap.size x ∧ Is w x u' ∧ atT t (p.take k) = some u' ∧ Below w.heap.size w wr)
  case atStart => exact ⟨0, c, t, by omega, by omega, rfl, rfl, rfl, X1.out, HI.out, by simp [atT], B1.out⟩
  case round =>
    obtain ⟨k, x, u', hg, hk, rfl, rfl, rfl, hx, hi, hat, hb⟩ := hrel
    have HG := Lib.hid hg
    have HX := Lib.hid hx
    have HIX := Lib.hid hi
    have HA := Lib.hid hat
    have HB := Lib.hid hb
    clear hg hx hi hat hb
    by_cases hlt : k < p.length
    · have hlti : (k : Int) < (p.length : Int) := by omega
      obtain ⟨m, hm⟩ : ∃ m, p[k]? = some m := ⟨_, List.getElem?_eq_getElem hlt⟩
      obtain ⟨pb, po, rfl, hf⟩ := int_at HR.out (by omega)
      have p0 := (HB.out.cell (lt_of_cell (hf k m hm))).trans (hf k m hm)
      obtain ⟨u2, hu2⟩ : ∃ u2, kidAt u' m = some u2 := by
        cases hkk : kidAt u' m with
        | some u2 => exact ⟨u2, rfl⟩
        | none =>
          have h1 := atT_stop ((atT_step HA.out hm).trans hkk)
          rw [HAT.out] at h1; cases h1
      have HA2 := Lib.hid ((atT_step HA.out hm).trans hu2)
      obtain ⟨j, rfl, hj⟩ := kid_some hu2
      have hjl := (List.getElem?_eq_some_iff.1 hj).1
      have hjli : (j : Int) < (u'.kids.length : Int) := by omega
      obtain ⟨cb, co, hca, hcf⟩ := HIX.out.row.place (by omega)
      obtain ⟨y, hy, hyi⟩ := hcf j u2 hj
      have HY := Lib.hid hyi
      have HYC := Lib.hid hy
      have hxn := HIX.out.n
      have hxk := HIX.out.split.1
      have HXK := Lib.hid hxk
      have HAL := Lib.hid (along8_any x ax)
      obtain ⟨xk, xr, xid, xa, xn, xcap⟩ := x
      simp only at hca hxn hxk
      subst hca hxn
      clear hf hm hu2 hj hcf hy hyi
      obtain ⟨c0, c1, c2, c3, c4, c5, c6⟩ := c7_of HX.out.cat
      cases ha : alB xk ax with
      | true =>
        have HF : Hid (frN ax t p (k + 1) = some k) := Lib.hid (fr_yes HA.out (by rw [hxk]; exact ha))
        rw [ha] at HAL
        clear ha hxk
        go_wp2_with fail
        refine (HAL.out wr).mono ?_
        rintro e w3 ⟨rfl, hb3⟩
        have X3 := Lib.hid (HX.out.up hb3)
        have B3 := Lib.hid (HB.out.trans (hb3.mono HB.out.size))
        clear hb3 c0 c1 c2 c3 c4 c5 c6
        obtain ⟨c0, c1, c2, c3, c4, c5, c6⟩ := c7_of X3.out.cat
        obtain ⟨y0, y1, y2, y3, y4, y5, y6⟩ := HYC.out.up B3.out
        have f0 := X3.out.free 0
        have f1 := X3.out.free 1
        have f2 := X3.out.free 2
        have f3 := X3.out.free 3
        have f4 := X3.out.free 4
        have f5 := X3.out.free 5
        have f6 := X3.out.free 6
        go_wp2
        go_roundg (gk - 1)
        case measure => have := HG.out; omega
        case rel => exact ⟨k + 1, y, u2, by have := HG.out; omega, by omega, by go_num, by rw [HF.out]; first | rfl | done, by rw [HF.out]; first | rfl | done, X3.out.put y, HY.out, HA2.out, below_put7 B3.out (Nat.le_refl _) y⟩
      | false =>
        have HF : Hid (frN ax t p (k + 1) = frN ax t p k) := Lib.hid (fr_no HA.out (by rw [hxk]; exact ha))
        rw [ha] at HAL
        clear ha hxk
        go_wp2_with fail
        refine (HAL.out wr).mono ?_
        rintro e w3 ⟨rfl, hb3⟩
        have X3 := Lib.hid (HX.out.up hb3)
        have B3 := Lib.hid (HB.out.trans (hb3.mono HB.out.size))
        clear hb3 c0 c1 c2 c3 c4 c5 c6
        obtain ⟨c0, c1, c2, c3, c4, c5, c6⟩ := c7_of X3.out.cat
        obtain ⟨y0, y1, y2, y3, y4, y5, y6⟩ := HYC.out.up B3.out
        have f0 := X3.out.free 0
        have f1 := X3.out.free 1
        have f2 := X3.out.free 2
        have f3 := X3.out.free 3
        have f4 := X3.out.free 4
        have f5 := X3.out.free 5
        have f6 := X3.out.free 6
        go_wp2
        go_roundg (gk - 1)
        case measure => have := HG.out; omega
        case rel => exact ⟨k + 1, y, u2, by have := HG.out; omega, by omega, by go_num, by rw [HF.out], by rw [HF.out], X3.out.put y, HY.out, HA2.out, below_put7 B3.out (Nat.le_refl _) y⟩
    · obtain rfl : k = p.length := by omega
      have hkl : ((p.length : Int) < (p.length : Int)) = False := by simp
      go_wp2
      go_ret2
      exact ⟨rfl, HB.out⟩
end Go.Proofs.Ytodcabaihhmhnaa
/- The cell around a leaf that is split: the program's around. -/
namespace Go.Proofs.Ytodcabaihhmhnaa
open Go.RowKit

theorem PRow.take {w : World} {base cap n : Nat} {va : Option Addr} {p : List Int} (h : PRow w base (.slice va n cap) p) (k : Nat) (hk : k ≤ p.length) : PRow w base (.slice va k cap) (p.take k) := by
  have hc := h.2.2 _ _ _ rfl
  obtain ⟨a', cap', he, h0, h1⟩ := h.1
  cases he
  rw [ints_length] at hc
  refine ⟨⟨va, cap, by rw [ints_length, List.length_take, Nat.min_eq_left hk], fun e => ?_, fun x hx j v hv => ?_⟩, fun a n cap' e => ?_, fun a n cap' e => ?_⟩
  · obtain ⟨h2, h3⟩ := h0 e
    have h4 : p = [] := by cases p with | nil => rfl | cons a l => simp [ints] at h2
    subst h4
    exact ⟨by simp [ints], h3⟩
  · refine h1 x hx j v ?_
    have h5 : ints (p.take k) = (ints p).take k := by unfold ints; rw [List.map_take]
    rw [h5, List.getElem?_take] at hv
    split at hv
    · exact hv
    · cases hv
  · cases e; exact h.2.1 _ _ _ rfl
  · cases e; omega
theorem PRow.at {w : World} {base cap n : Nat} {va : Option Addr} {p : List Int} (h : PRow w base (.slice va n cap) p) (hp : 0 < p.length) : ∃ g, va = some ⟨g, 0, none⟩ ∧ n = p.length ∧ p.length ≤ cap ∧ ∀ (j : Nat) (m : Int), p[j]? = some m → w.cell? ⟨g, j, none⟩ = some (.int .i64 m) := by
  have hc := h.2.2 _ _ _ rfl
  obtain ⟨a', cap', he, h0, h1⟩ := h.1
  cases he
  rw [ints_length] at hc ⊢
  cases va with
  | none => have := (h0 rfl).1; cases p with | nil => simp at hp | cons a l => simp [ints] at this
  | some x =>
    obtain ⟨g, rfl, -⟩ := h.2.1 x _ _ rfl
    refine ⟨g, rfl, rfl, hc, fun j m hj => ?_⟩
    have := h1 _ rfl j (.int .i64 m) (by simp [ints, hj])
    rw [Go.WideShapes.add_plain, Nat.zero_add] at this
    exact this

/-- What around answers. -/
def ArSays (t : T) (p : List Int) (ax : Int) (u : T) (base : Nat) (w : World) (e : Ending) (w' : World) : Prop := ∃ (d : C) (S : List Nat) (g : T) (pl : List Int) (k : Nat) (qa : Option Addr) (qcap : Nat), e = .returned (.tuple #[cval d, .slice qa pl.length qcap, .int .i64 (k : Int)]) ∧ Around t p ax u g pl k ∧ OwnT w' w.heap.size d g S ∧ S.Nodup ∧ PRow w base (.slice qa pl.length qcap) pl ∧ Below w.heap.size w w'

/-- A cell of one's own in a box of one's own. -/
structure Grp (w : World) (c : C) (b : Nat) (d : C) (g : T) (S : List Nat) (W : World) : Prop where
  st : ASt w c W
  box : Box7 W b d
  far : w.heap.size + 1 < b
  own : OwnT W (w.heap.size + 2) d g S
theorem Grp.up {w W W' : World} {c d : C} {b : Nat} {g : T} {S : List Nat} (h : Grp w c b d g S W) (hb : Below W.heap.size W W') : Grp w c b d g S W' := ⟨h.st.up hb, h.box.up hb, h.far, h.own.up hb⟩
theorem grp_new {w W : World} {B : Nat} {c d : C} {g : T} {S : List Nat} (h : ASt w c W) (h0 : w.heap.size + 2 ≤ B) (ho : OwnT W B d g S) : Grp w c W.heap.size d g S (W.alloc (cbox d)) :=
  have hb : Below W.heap.size W (W.alloc (cbox d)) := (Below.refl _ _).alloc (Nat.le_refl _) _
  ⟨h.up hb, Box7.new W d, lt_of_block h.zero, (ho.lower h0).up hb⟩
theorem grp_put {w W : World} {B : Nat} {c d : C} {b : Nat} {g : T} {S : List Nat} (h : ASt w c W) (hz : Zero7 W b) (hb : w.heap.size + 1 < b) (h0 : b < B) (ho : OwnT W B d g S) : Grp w c b d g S (put7 W b d) := by
  have hs : ∀ k, k ≠ b → (put7 W b d).heap[k]? = W.heap[k]? := fun k hk => heap_put7 hk
  refine ⟨⟨below_put7 h.below (by omega) d, (hs _ (by omega)).trans h.box, (hs _ (by omega)).trans h.zero⟩, (Box7.of_zero hz).put d, hb, ?_⟩
  exact (ho.frame fun k hk => hs k (by have := (ho.ge k hk).1; omega)).lower (by omega)

theorem ar_end {t u g : T} {p pl : List Int} {ax : Int} {base k b : Nat} {w W : World} {c d : C} {S : List Nat} {qa : Option Addr} {qcap n : Nat} (hln : n = pl.length) (h : Grp w c b d g S W) (hq : PRow w base (.slice qa pl.length qcap) pl) (ha : Around t p ax u g pl k) (hn : S.Nodup) :
    ArSays t p ax u base w (.returned (.tuple #[cval d, .slice qa n qcap, .int .i64 (k : Int)])) (put7 W (w.heap.size + 1) d) := by
  subst hln
  have h1 := below_put7 h.st.below (show w.heap.size ≤ w.heap.size + 1 by omega) d
  refine ⟨d, S, g, pl, k, qa, qcap, rfl, ha, ?_, hn, hq, h1⟩
  exact (h.own.frame fun i hi => heap_put7 (by have := (h.own.ge i hi).1; omega)).lower (by omega)
theorem ar_endD {t u g : T} {p pl : List Int} {ax : Int} {base k b : Nat} {w W : World} {c d : C} {S : List Nat} {qa : Option Addr} {qcap n : Nat} (hln : n = pl.length) (h : Grp w c b d g S W) (hq : PRow w base (.slice qa pl.length qcap) pl) (ha : Around t p ax u g pl k) (hn : S.Nodup) :
    ArSays t p ax u base w (.returned (.tuple #[cval d, .slice qa n qcap, .int .i64 (k : Int)])) (put7 W (w.heap.size + 1) d).drew := by
  subst hln
  have h1 := (below_put7 h.st.below (show w.heap.size ≤ w.heap.size + 1 by omega) d).drew
  refine ⟨d, S, g, pl, k, qa, qcap, rfl, ha, ?_, hn, hq, h1⟩
  have h2 : OwnT (put7 W (w.heap.size + 1) d) (w.heap.size + 2) d g S := h.own.frame fun i hi => heap_put7 (by have := (h.own.ge i hi).1; omega)
  exact (h2.up (Below.refl _ _).drew).lower (by omega)
/-- A cell of one's own around a leaf of one's own. -/
abbrev grpC (kd : Int) (r : R) (n : Nat) : C := ⟨kd, r, 0, some ⟨n, 0, none⟩, 1, 1⟩
theorem grp_group {w W : World} {B : Nat} {c d : C} {u : T} {ax kd : Int} {S : List Nat} (h : ASt w c W) (h0 : w.heap.size + 2 ≤ B) (ho : OwnT W B d u S) (hB : Below B W W) (hn : S.Nodup) (hk : kd = if ax = 2 then 3 else 2) :
    ∃ S', S'.Nodup ∧ Grp w c (W.heap.size + 1 + 1) (grpC kd d.r (W.heap.size + 1)) (mkG ax u) S' (((W.alloc (cbox d)).alloc (cbox d)).alloc (cbox (grpC kd d.r (W.heap.size + 1)))) := by
  have al : ∀ (x : World) (o : Obj), Below x.heap.size x (x.alloc o) := fun x o => (Below.refl _ _).alloc (Nat.le_refl _) _
  have b1 := al W (cbox d)
  have b2 := b1.trans ((al (W.alloc (cbox d)) (cbox d)).mono b1.size)
  have b3 := b2.trans ((al ((W.alloc (cbox d)).alloc (cbox d)) (cbox (grpC kd d.r (W.heap.size + 1)))).mono b2.size)
  have s1 : (W.alloc (cbox d)).heap.size = W.heap.size + 1 := by simp
  have s2 : ((W.alloc (cbox d)).alloc (cbox d)).heap.size = W.heap.size + 1 + 1 := by simp
  have hz := lt_of_block h.zero
  have hrow : OwnC (((W.alloc (cbox d)).alloc (cbox d)).alloc (cbox (grpC kd d.r (W.heap.size + 1)))) (w.heap.size + 2) (.slice (some ⟨W.heap.size + 1, 0, none⟩) 1 1) [d] := by
    have := (OwnC.one (W.alloc (cbox d)) (w.heap.size + 2) (by omega) d).up (al _ (cbox (grpC kd d.r (W.heap.size + 1))))
    rw [s1] at this
    exact this
  have hown := (ho.up b3).lower h0
  have hfine := ho.is.fine
  refine ⟨blk (.slice (some ⟨W.heap.size + 1, 0, none⟩) 1 1) ++ [S].flatten, ?_, h.up b3, ?_, by omega, ?_⟩
  · rw [List.nodup_append]
    refine ⟨by simp [blk, Value.ownBlock], by simpa using hn, fun a ha b hb e => ?_⟩
    subst e
    have h1 : a = W.heap.size + 1 := by simpa [blk, Value.ownBlock] using ha
    have h2 := (ho.ge a (by simpa using hb)).2
    omega
  · have := Box7.new ((W.alloc (cbox d)).alloc (cbox d)) (grpC kd d.r (W.heap.size + 1))
    rw [s2] at this
    exact this
  · unfold mkG
    rw [← hk, show u.r = d.r from ho.is.split.2.1]
    refine .mk (grpC kd d.r (W.heap.size + 1)) [u] [d] [S] ⟨?_, hfine.2.1, ⟨by simp, by simp⟩, by simp⟩ hrow rfl rfl fun j x y S' hx hy hS => ?_
    · rw [hk]; split <;> simp
    · cases j with
      | zero => simp at hx hy hS; subst hx; subst hy; subst hS; exact hown
      | succ j => simp at hx

theorem around_kid {t u g : T} {p pl : List Int} {ax : Int} {k : Nat} (h : Around t p ax u g pl k) (hu : atT t p = some u) : g.kids[k]? = some u := by
  rcases h with ⟨q, j, rfl, hg, -, rfl, rfl⟩ | ⟨rfl, -, rfl, -⟩
  · rw [atT_append, hg] at hu
    simp only [atT] at hu
    cases hk : kidAt g (k : Int) with
    | none => rw [hk] at hu; cases hu
    | some v =>
      rw [hk] at hu
      obtain ⟨i, hi, hv⟩ := kid_some hk
      have : i = k := by omega
      subst this
      cases hu
      exact hv
  · rfl
end Go.Proofs.Ytodcabaihhmhnaa
/- The frame of a leaf: the program's find. -/
namespace Go.Proofs.Ytodcabaihhmhnaa
open Go.RowKit Sh

abbrev startP (w : World) (c : C) : World := (w.alloc (cbox c)).alloc (fmbox noFm)
/-- What holds of find's own boxes. -/
structure FPt (w : World) (c : C) (W : World) : Prop where
  below : Below w.heap.size w W
  box : Box7 W w.heap.size c
  res : BoxF W (w.heap.size + 1) noFm
theorem FPt.up {w W W' : World} {c : C} (h : FPt w c W) (hb : Below W.heap.size W W') : FPt w c W' := ⟨h.below.trans (hb.mono h.below.size), h.box.up hb, h.res.up hb⟩
theorem FPt.start (w : World) (c : C) : FPt w c (startP w c) := by
  have h1 : Below w.heap.size w (w.alloc (cbox c)) := (Below.refl _ _).alloc (Nat.le_refl _) _
  have h2 : Below (w.alloc (cbox c)).heap.size (w.alloc (cbox c)) (startP w c) := (Below.refl _ _).alloc (Nat.le_refl _) _
  refine ⟨h1.trans (h2.mono h1.size), (Box7.new w c).up h2, ?_⟩
  have := BoxF.new (w.alloc (cbox c)) noFm
  simpa using this
theorem FPt.is {w W : World} {c : C} {t : T} (h : FPt w c W) (hi : Is w c t) : Is W c t := hi.up h.below
theorem FPt.lt {w W : World} {c : C} (h : FPt w c W) : w.heap.size + 2 ≤ W.heap.size := lt_of_block h.res

set_option maxRecDepth 100000 in
theorem results_fm {fn : Func} {p u : Tmp} (h : fn.results = #[.cell p 52, .tmp u]) (tmps : Array Value) (w : World) (g : Nat) (x : Fm) (hp : tmps.getD p undef = .pointer (some ⟨g, 0, none⟩)) (hg : BoxF w g x) :
    (results fn tmps).run Try.prog w = .ok (.tuple #[fmval x, tmps.getD u undef]) w := by
  have hg' : w.heap[g]? = some (fmbox x) := hg
  have hl := run_loadVar_row (P := Try.prog) w g 52 52 _ (0, 0) _ hg' Try.underlying52 rfl (by kernel_rfl)
  rw [results_cell_tmp h, hp]
  simp [asAddr, hl, Result.andThen]

/-- A cell in a box, all of the call's own. -/
structure Ko (w : World) (k : Nat) (d : C) (y : T) (S : List Nat) (W : World) : Prop where
  below : Below w.heap.size w W
  far : w.heap.size ≤ k
  box : Box7 W k d
  own : OwnT W w.heap.size d y S
theorem ko_put {w W W4 : World} {k : Nat} {d : C} {t : T} {S : List Nat} (h : Below w.heap.size w W) (hz : ZL w W k) (hz4 : ZL w W4 k) (ho : OwnT W W4.heap.size d t S) : Ko w k d t S (put7 W k d) :=
  ⟨below_put7 h hz.2 d, hz.2, (Box7.of_zero hz.1).put d, (ho.frame fun m hm => heap_put7 (by have := (ho.ge m hm).1; have := lt_of_block hz4.1; omega)).lower (by have := hz4.2; have := lt_of_block hz4.1; omega)⟩
theorem ko_new {w W : World} {n : Nat} {d : C} {t : T} {S : List Nat} (h : Below w.heap.size w W) (hn : w.heap.size ≤ n) (ho : OwnT W n d t S) : Ko w W.heap.size d t S (W.alloc (cbox d)) :=
  ⟨bl_al h _, h.size, Box7.new W d, (ho.up ((Below.refl _ _).alloc (Nat.le_refl _) _)).lower hn⟩
theorem PK.far {base kg L cap : Nat} {cs : List C} {l : List T} {W W' : World} (h : PK base kg L cap cs l W) (hs : W.heap.size ≤ W'.heap.size) (hk : ∀ m, base ≤ m → W'.heap[m]? = W.heap[m]?) : PK base kg L cap cs l W' :=
  ⟨h.ge, ownC_kept h.row fun g hg => by cases hg; exact hk kg h.ge, h.len, h.ll, fun j x u hx hu => fun W2 hW => h.each j x u hx hu W2 fun m hm hm2 hne => (hW m hm (Nat.lt_of_lt_of_le hm2 hs) hne).trans (hk m hm)⟩
theorem PK.lower {base base' kg L cap : Nat} {cs : List C} {l : List T} {W : World} (h : PK base kg L cap cs l W) (hb : base' ≤ base) : PK base' kg L cap cs l W :=
  ⟨Nat.le_trans hb h.ge, h.row.lower hb, h.len, h.ll, fun j x u hx hu => fun W2 hW => h.each j x u hx hu W2 fun m hm hm2 hne => hW m (Nat.le_trans hb hm) hm2 hne⟩

theorem drew_heap (W : World) (m : Nat) : W.drew.heap[m]? = W.heap[m]? := rfl
theorem drew_size (W : World) : W.drew.heap.size = W.heap.size := rfl
/-- What find answers. -/
structure FrmAt (id ax : Int) (t : T) (base : Nat) (x : Fm) (P kg n : Nat) (y : T) (p : List Int) (cs : List C) (w : World) : Prop where
  found : findT id t = some p
  fr : frN ax t p p.length = some n
  at' : atT t (p.take n) = some y
  is : frX id ax t = (y, (P : Int))
  lt : P + 1 < y.kids.length
  nl : n < p.length
  axis : x.ax = ax
  place : x.p = (P : Int)
  head : y.k = x.c.k ∧ y.r = x.c.r ∧ y.id = x.c.id
  a : x.c.a = some ⟨kg, 0, none⟩
  n' : x.c.n = y.kids.length
  fine : x.c.fine
  kids : PK base kg y.kids.length x.c.cap cs y.kids w
  path : PRow w base (.slice x.pa x.pn x.pcap) (p.take n)
  pn : x.pn = n
def FfSays (id ax : Int) (t : T) (w : World) (e : Ending) (w' : World) : Prop :=
  Below w.heap.size w w' ∧ ((fdE id ax t ≠ 0 ∧ e = .returned (.tuple #[fmval noFm, .int .i64 (fdE id ax t)])) ∨
    (fdE id ax t = 0 ∧ ∃ (x : Fm) (P kg n : Nat) (y : T) (p : List Int) (cs : List C), e = .returned (.tuple #[fmval x, .int .i64 0]) ∧ FrmAt id ax t w.heap.size x P kg n y p cs w'))
theorem ff_err {id ax n : Int} {t : T} {w w' : World} (h : fdE id ax t = n) (h0 : n ≠ 0) (hb : Below w.heap.size w w') : FfSays id ax t w (.returned (.tuple #[fmval noFm, .int .i64 n])) w' := by
  subst h; exact ⟨hb, .inl ⟨h0, rfl⟩⟩

set_option maxHeartbeats 4000000 in
set_option maxRecDepth 100000 in
theorem pfrm_any (id ax : Int) (t : T) (c : C) (w : World) (hm : sz t ≤ 990) (hi : Is w c t) : Calls Try.prog 19 #[cval c, .int .i64 id, .int .u8 ax] w (FfSays id ax t w) := by
  have L0 := Lib.hid (FPt.start w c)
  have HT := Lib.hid (tilesOne_any t c (startP w c) (L0.out.is hi) may_small (w.heap.size + 2) (by simp))
  have HI := Lib.hid hi
  have HM := Lib.hid hm
  have HSZ := Lib.hid (fun W => lsize_any c.r ax W)
  have htr := hi.split.2.1
  clear hi hm
  obtain ⟨c0, c1, c2, c3, c4, c5, c6⟩ := c7_of L0.out.box.cat
  cases ht : tileB t with
  | false =>
    rw [ht] at HT
    have HE := Lib.hid (fd_arg (id := id) (ax := ax) (t := t) (by rw [ht]; simp))
    clear ht HSZ
    go_enter Try.func19, Try.ntmps19
    go_wp2_with fail
    refine HT.out.mono ?_
    rintro e w1 ⟨rfl, hb1⟩
    have L1 := Lib.hid (L0.out.up hb1)
    clear hb1 c0 c1 c2 c3 c4 c5 c6 HT
    obtain ⟨b0, b1, b2, b3, b4, b5, b6, b7, b8, b9⟩ := L1.out.res.parts
    have f0 := L1.out.res.free 0
    have f1 := L1.out.res.free 1
    have f2 := L1.out.res.free 2
    have f3 := L1.out.res.free 3
    have f4 := L1.out.res.free 4
    have f5 := L1.out.res.free 5
    have f6 := L1.out.res.free 6
    have f7 := L1.out.res.free 7
    have f8 := L1.out.res.free 8
    have f9 := L1.out.res.free 9
    go_wp2
    (try simp only [Exit.inBlock, Exit.then])
    refine bodyPost_ret (results_fm rfl _ _ (w.heap.size + 1) noFm rfl (L1.out.res.put noFm)) rfl ?_
    exact ff_err HE.out (by decide) (below_putF L1.out.below (by omega) noFm)
  | true =>
    rw [ht] at HT
    have hszt : axB ax = true → szA c.r ax ≠ 0 := fun h => by
      have := szA_pos (well_rect (tile_top (by have := HM.out; omega) ht).1) ((axB_iff ax).1 h)
      rw [htr] at this; omega
    go_enter Try.func19, Try.ntmps19
    go_wp2_with fail
    refine HT.out.mono ?_
    rintro e w1 ⟨rfl, hb1⟩
    have L1 := Lib.hid (L0.out.up hb1)
    clear hb1 c0 c1 c2 c3 c4 c5 c6 HT
    obtain ⟨c0, c1, c2, c3, c4, c5, c6⟩ := c7_of L1.out.box.cat
    go_wp2_with fail
    refine (HSZ.out w1).mono ?_
    rintro e w2 ⟨rfl, hb2⟩
    have L2 := Lib.hid (L1.out.up hb2)
    clear hb2 c0 c1 c2 c3 c4 c5 c6 HSZ
    cases hax : axB ax with
    | false =>
      have hz : szA c.r ax = 0 := by
        have h := axB_iff ax
        unfold szA
        rw [if_neg (fun e => by rw [h.2 (.inl e)] at hax; cases hax), if_neg (fun e => by rw [h.2 (.inr e)] at hax; cases hax)]
      have hz2 : (szA c.r ax == 0) = true := by rw [hz]; rfl
      have HE := Lib.hid (fd_arg (id := id) (ax := ax) (t := t) (by rw [hax]; simp))
      clear hszt
      obtain ⟨b0, b1, b2, b3, b4, b5, b6, b7, b8, b9⟩ := L2.out.res.parts
      have f0 := L2.out.res.free 0
      have f1 := L2.out.res.free 1
      have f2 := L2.out.res.free 2
      have f3 := L2.out.res.free 3
      have f4 := L2.out.res.free 4
      have f5 := L2.out.res.free 5
      have f6 := L2.out.res.free 6
      have f7 := L2.out.res.free 7
      have f8 := L2.out.res.free 8
      have f9 := L2.out.res.free 9
      go_wp2
      (try simp only [Exit.inBlock, Exit.then])
      refine bodyPost_ret (results_fm rfl _ _ (w.heap.size + 1) noFm rfl (L2.out.res.put noFm)) rfl ?_
      exact ff_err HE.out (by decide) (below_putF L2.out.below (by omega) noFm)
    | true =>
      have hz2 : (szA c.r ax == 0) = false := by rw [beq_eq_false_iff_ne]; exact hszt hax
      have HTL := Lib.hid (show tileB t = true ∧ axB ax = true from ⟨ht, hax⟩)
      have HFI := Lib.hid (findO_any id t c w2 (by have := HM.out; omega) (L2.out.is HI.out))
      clear hszt ht
      obtain ⟨c0, c1, c2, c3, c4, c5, c6⟩ := c7_of L2.out.box.cat
      cases hf : findT id t with
      | none =>
        have HF2 : Hid (Calls Try.prog 29 #[cval c, .int .i64 id] w2 fun e w' => e = .returned (.tuple #[.slice none 0 0, .bool false]) ∧ Below w2.heap.size w2 w') := HFI.out.mono fun e w' h => by
          obtain ⟨hb, h⟩ := h
          rw [hf] at h
          exact ⟨h, hb⟩
        have HE := Lib.hid (fd_none HTL.out hf)
        clear HFI hf
        go_wp2_with fail
        refine HF2.out.mono ?_
        rintro e w3 ⟨rfl, hb3⟩
        have L3 := Lib.hid (L2.out.up hb3)
        clear hb3 c0 c1 c2 c3 c4 c5 c6 HF2
        obtain ⟨b0, b1, b2, b3, b4, b5, b6, b7, b8, b9⟩ := L3.out.res.parts
        have f0 := L3.out.res.free 0
        have f1 := L3.out.res.free 1
        have f2 := L3.out.res.free 2
        have f3 := L3.out.res.free 3
        have f4 := L3.out.res.free 4
        have f5 := L3.out.res.free 5
        have f6 := L3.out.res.free 6
        have f7 := L3.out.res.free 7
        have f8 := L3.out.res.free 8
        have f9 := L3.out.res.free 9
        go_wp2
        (try simp only [Exit.inBlock, Exit.then])
        refine bodyPost_ret (results_fm rfl _ _ (w.heap.size + 1) noFm rfl (L3.out.res.put noFm)) rfl ?_
        exact ff_err HE.out (by decide) (below_putF L3.out.below (by omega) noFm)
      | some p =>
        have HPL : Hid (p.length ≤ 1000000) := Lib.hid (by have := findT_len id p t hf; have := HM.out; omega)
        have HF2 : Hid (Calls Try.prog 29 #[cval c, .int .i64 id] w2 fun e w' => ∃ a cap, e = .returned (.tuple #[.slice a p.length cap, .bool true]) ∧ PRow w' w2.heap.size (.slice a p.length cap) p ∧ Below w2.heap.size w2 w') := HFI.out.mono fun e w' h => by
          obtain ⟨hb, h⟩ := h
          rw [hf] at h
          obtain ⟨a, cap, he, hr⟩ := h
          exact ⟨a, cap, he, hr, hb⟩
        have HF := Lib.hid hf
        obtain ⟨u, hu, -, -, -⟩ := find_there hf
        have HAT := Lib.hid hu
        clear HFI hf hu
        go_wp2_with fail
        refine HF2.out.mono ?_
        rintro e w3 ⟨pa, pcap, rfl, hr3, hb3⟩
        have L3 := Lib.hid (L2.out.up hb3)
        have R3 := Lib.hid (hr3.lower (base' := w.heap.size + 2) L2.out.lt)
        clear hb3 hr3 c0 c1 c2 c3 c4 c5 c6 HF2
        obtain ⟨c0, c1, c2, c3, c4, c5, c6⟩ := c7_of L3.out.box.cat
        have HLA := Lib.hid (last_any ax t u p c pa pcap w3 HPL.out (L3.out.is HI.out) R3.out.1 HAT.out)
        cases hr : frN ax t p p.length with
        | none =>
          rw [hr] at HLA
          have HE := Lib.hid (fd_state HTL.out HF.out hr)
          have hla : laI none = 0 := rfl
          have hls : (none : Option Nat).isSome = false := rfl
          rw [hla, hls] at HLA
          clear hr
          go_wp2_with fail
          refine HLA.out.mono ?_
          rintro e w4 ⟨rfl, hb4⟩
          have L4 := Lib.hid (L3.out.up hb4)
          clear hb4 c0 c1 c2 c3 c4 c5 c6 HLA
          obtain ⟨b0, b1, b2, b3, b4, b5, b6, b7, b8, b9⟩ := L4.out.res.parts
          have f0 := L4.out.res.free 0
          have f1 := L4.out.res.free 1
          have f2 := L4.out.res.free 2
          have f3 := L4.out.res.free 3
          have f4 := L4.out.res.free 4
          have f5 := L4.out.res.free 5
          have f6 := L4.out.res.free 6
          have f7 := L4.out.res.free 7
          have f8 := L4.out.res.free 8
          have f9 := L4.out.res.free 9
          go_wp2
          (try simp only [Exit.inBlock, Exit.then])
          refine bodyPost_ret (results_fm rfl _ _ (w.heap.size + 1) noFm rfl (L4.out.res.put noFm)) rfl ?_
          exact ff_err HE.out (by decide) (below_putF L4.out.below (by omega) noFm)
        | some n =>
          rw [hr] at HLA
          have HE := Lib.hid (fd_ok HTL.out HF.out hr)
          have hla : laI (some n) = (n : Int) := rfl
          have hls : (some n : Option Nat).isSome = true := rfl
          rw [hla, hls] at HLA
          obtain ⟨-, -, p', n', y, k, P, e1, e2, hy, hk, hn, hX, hpl, hPl, -, -, -, hsy⟩ := frame_is HM.out HE.out
          rw [HF.out] at e1
          cases e1
          rw [hr] at e2
          cases e2
          have HR9 := Lib.hid hr
          have HX := Lib.hid hX
          have HPL2 := Lib.hid hPl
          have HY := Lib.hid hy
          have HN := Lib.hid hn
          have hmin : min k ((y.kids.length : Int) - 2) = (P : Int) := by unfold plcN at hpl; split at hpl <;> omega
          have hkl : y.kids.length ≤ 990 := by have := sz_node y; have := szL_len y.kids; omega
          have hww : IntKind.i64.wrap ((y.kids.length : Int) - 2) = (y.kids.length : Int) - 2 := wrap_id (by omega)
          have hmw : IntKind.i64.wrap (P : Int) = (P : Int) := wrap_id (by omega)
          clear hr hX hpl hPl hy hsy
          go_wp2_with fail
          refine HLA.out.mono ?_
          rintro e w4 ⟨rfl, hb4⟩
          have L4 := Lib.hid (L3.out.up hb4)
          have R4 := Lib.hid (R3.out.up hb4)
          clear hb4 c0 c1 c2 c3 c4 c5 c6 HLA
          obtain ⟨g, rfl, -, hpc, hcell⟩ := R4.out.at (by omega)
          have p0 := hcell n k hk
          have HTK : Hid (PRow w4 (w.heap.size + 2) (.slice (some ⟨g, 0, none⟩) n pcap) (p.take n)) := Lib.hid (R4.out.take n (by omega))
          have hs0 : (0 : Int) ≤ (n : Int) := by omega
          have hs1 : (n : Int) ≤ (pcap : Int) := by omega
          have hs2 : (n : Int) < (p.length : Int) := by omega
          have HATC := Lib.hid (fun (W : World) (hb : Below w4.heap.size w4 W) => atO_any t y c (.slice (some ⟨g, 0, none⟩) n pcap) (p.take n) W ((L4.out.is HI.out).up hb) (HTK.out.1.up hb) (by rw [List.length_take]; have := HPL.out; omega) HY.out)
          have P0 := Lib.hid p0
          clear hcell hk hn p0 R3 R4
          have HX1 : Hid (∀ W, Below w4.heap.size w4 W → C7 w.heap.size c W) := Lib.hid fun W hb => c7_of (L4.out.box.up hb).cat
          have D0 : Hid (Below w4.heap.size w4 w4.drew) := Lib.hid (Below.refl _ _).drew
          have Dz : Hid (Below w4.heap.size w4 (w4.alloc zeroBox).drew) := Lib.hid (bl_al (Below.refl _ _) _).drew
          have Dy : Hid (Below w4.heap.size w4 (w4.drew.alloc zeroBox)) := Lib.hid (bl_al D0.out _)
          have ZZ : Hid (ZL w4 (w4.alloc zeroBox).drew w4.heap.size) := Lib.hid (zl_drew (Below.refl _ _))
          have ZY : Hid (ZL w4 (w4.drew.alloc zeroBox) w4.drew.heap.size) := Lib.hid (zl_new D0.out)
          go_wp2_with fail
          go_region_held3 (fun W => W.cell? ⟨w.heap.size, 0, none⟩ = some (.int .u8 c.k) ∧ W.cell? ⟨w.heap.size, 1, none⟩ = some (.int .i64 c.r.x) ∧ W.cell? ⟨w.heap.size, 2, none⟩ = some (.int .i64 c.r.y) ∧ W.cell? ⟨w.heap.size, 3, none⟩ = some (.int .i64 c.r.w) ∧ W.cell? ⟨w.heap.size, 4, none⟩ = some (.int .i64 c.r.h) ∧ W.cell? ⟨w.heap.size, 5, none⟩ = some (.int .i64 c.id) ∧ W.cell? ⟨w.heap.size, 6, none⟩ = some (.slice c.a c.n c.cap)) (exact HX1.out _ (by first | with_reducible exact D0.out | with_reducible exact Dz.out | with_reducible exact Dy.out | with_reducible exact L5.out | with_reducible exact bl_al L5.out _ | with_reducible exact P5.out))
            (first
              | (go_at_call 35; (with_reducible refine (HATC.out _ (by first | with_reducible exact D0.out | with_reducible exact Dz.out | with_reducible exact Dy.out)).mono ?_); rintro e w5 ⟨d5, S5, rfl, hown5, hnd5, hb5⟩; have L5 := Lib.hid (bl_up (by first | with_reducible exact D0.out | with_reducible exact Dz.out | with_reducible exact Dy.out) hb5); have O5 := Lib.hid hown5; have N5 := Lib.hid hnd5; (first | ((with_reducible have Z5 := Lib.hid (ZZ.out.up hb5)); have ZM := Lib.hid ZZ.out; have P5 := Lib.hid (below_put7 L5.out Z5.out.2 d5); obtain ⟨⟨z0, z1, z2, z3, z4, z5, z6⟩, f0, f1, f2, f3, f4, f5, f6⟩ := zero_parts Z5.out.1) | ((with_reducible have Z5 := Lib.hid (ZY.out.up hb5)); have ZM := Lib.hid ZY.out; have P5 := Lib.hid (below_put7 L5.out Z5.out.2 d5); obtain ⟨⟨z0, z1, z2, z3, z4, z5, z6⟩, f0, f1, f2, f3, f4, f5, f6⟩ := zero_parts Z5.out.1) | ((with_reducible have Z5 := Lib.hid ((zl_new L5.out))); have N6 := Lib.hid True.intro)); clear hown5 hnd5 hb5))
          all_goals (rename_i hh9; clear hh9)
          all_goals first
            | (have P0' := Lib.hid (ko_put L5.out Z5.out ZM.out O5.out); change Exit.then _ _ _ _ (put7 w5 _ d5); generalize put7 w5 _ d5 = w8 at P0' ⊢; (with_reducible have PO : Hid (Ko w4 w4.heap.size d5 y S5 w8) := P0'); clear P0'; generalize hbk : w4.heap.size = bk at PO ⊢)
            | (have PO := Lib.hid (ko_new L5.out (Nat.le_refl _) O5.out); generalize w5.alloc (cbox d5) = w8 at PO ⊢; generalize hbk : w5.heap.size = bk at PO ⊢)
          all_goals (try clear z0 z1 z2 z3 z4 z5 z6 f0 f1 f2 f3 f4 f5 f6)
          all_goals (try clear L5 O5 Z5 ZM P5)
          all_goals (try clear L5 O5 Z5 N6)
          all_goals
            clear hbk HX1 D0 Dz Dy ZZ ZY HATC hla hls
            have L8 := Lib.hid (L4.out.up PO.out.below)
            have R8 := Lib.hid (HTK.out.up PO.out.below)
            have P8 := Lib.hid ((PO.out.below.cell (lt_of_cell P0.out)).trans P0.out)
            obtain ⟨kg, cs, hda, hdn, hdh, hdf, hpk⟩ := pk_of PO.out.own N5.out (by have := HPL2.out; omega)
            have HPK := Lib.hid hpk
            have HDH := Lib.hid hdh
            have HDF := Lib.hid hdf
            have HBX := Lib.hid PO.out.box
            have HB4 : Hid (w.heap.size + 2 ≤ w4.heap.size) := Lib.hid L4.out.lt
            clear hpk hdh hdf
            obtain ⟨dk, dr, did, da, dn, dcap⟩ := d5
            simp only at hda hdn HPK HDH HDF HBX
            subst hda hdn
            have p8 := P8.out
            have q6 := (c7_of HBX.out.cat).2.2.2.2.2.2
            clear PO N5 L4
            go_wp2_with fail
            go_region
            have W9 : Hid (∀ m : Nat, w8.drew.heap[m]? = w8.heap[m]?) := Lib.hid fun m => rfl
            have L9 := Lib.hid (L8.out.up (Below.refl _ _).drew)
            have X9 := Lib.hid (box_drew HBX.out)
            clear q6 p8
            generalize w8.drew = w9 at W9 L9 X9 ⊢
            obtain ⟨q0, q1, q2, q3, q4, q5, q6⟩ := c7_of X9.out.cat
            obtain ⟨b0, b1, b2, b3, b4, b5, b6, b7, b8, b9⟩ := L9.out.res.parts
            have f0 := L9.out.res.free 0
            have f1 := L9.out.res.free 1
            have f2 := L9.out.res.free 2
            have f3 := L9.out.res.free 3
            have f4 := L9.out.res.free 4
            have f5 := L9.out.res.free 5
            have f6 := L9.out.res.free 6
            have f7 := L9.out.res.free 7
            have f8 := L9.out.res.free 8
            have f9 := L9.out.res.free 9
            go_wp2_with fail
            go_region
            clear q0 q1 q2 q3 q4 q5 q6 b0 b1 b2 b3 b4 b5 b6 b7 b8 b9 f0 f1 f2 f3 f4 f5 f6 f7 f8 f9
            have FIN : Hid (∀ W : World, W = (putF w9 (w.heap.size + 1) ⟨⟨dk, dr, did, some ⟨kg, 0, none⟩, y.kids.length, dcap⟩, ax, some ⟨g, 0, none⟩, n, pcap, P⟩).drew → BoxF W (w.heap.size + 1) ⟨⟨dk, dr, did, some ⟨kg, 0, none⟩, y.kids.length, dcap⟩, ax, some ⟨g, 0, none⟩, n, pcap, P⟩ ∧ FfSays id ax t w (.returned (.tuple #[fmval ⟨⟨dk, dr, did, some ⟨kg, 0, none⟩, y.kids.length, dcap⟩, ax, some ⟨g, 0, none⟩, n, pcap, P⟩, .int .i64 0])) W) := Lib.hid fun W hW => by
              subst hW
              have hk : ∀ m : Nat, w.heap.size + 2 ≤ m → (putF w9 (w.heap.size + 1) ⟨⟨dk, dr, did, some ⟨kg, 0, none⟩, y.kids.length, dcap⟩, ax, some ⟨g, 0, none⟩, n, pcap, P⟩).drew.heap[m]? = w8.heap[m]? := fun m hm => (drew_heap _ m).trans ((heap_putF (by omega)).trans (W9.out m))
              have hsz : w8.heap.size ≤ (putF w9 (w.heap.size + 1) ⟨⟨dk, dr, did, some ⟨kg, 0, none⟩, y.kids.length, dcap⟩, ax, some ⟨g, 0, none⟩, n, pcap, P⟩).drew.heap.size := by
                rw [drew_size, size_putF]
                exact block_size (Nat.le_refl _) fun k _ => W9.out k
              refine ⟨(L9.out.res.put _).drew, (below_putF L9.out.below (by omega) _).drew, .inr ⟨HE.out, _, P, kg, n, y, p, cs, rfl, HF.out, HR9.out, HY.out, HX.out, HPL2.out, HN.out, rfl, rfl, HDH.out, rfl, rfl, HDF.out, (HPK.out.far hsz fun m hm => hk m (by have := HB4.out; omega)).lower (by have := HB4.out; omega), (R8.out.kept fun m hm => hk m hm).lower (by omega), rfl⟩⟩
            go_wp2
            (try simp only [Exit.inBlock, Exit.then])
            refine bodyPost_ret (results_fm rfl _ _ (w.heap.size + 1) ⟨⟨dk, dr, did, some ⟨kg, 0, none⟩, y.kids.length, dcap⟩, ax, some ⟨g, 0, none⟩, n, pcap, P⟩ rfl (FIN.out _ rfl).1) rfl ?_
            exact (FIN.out _ rfl).2
end Go.Proofs.Ytodcabaihhmhnaa
