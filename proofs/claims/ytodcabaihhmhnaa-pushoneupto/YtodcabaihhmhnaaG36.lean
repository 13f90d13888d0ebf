/- Texts of this seat, 3 in one file. -/
import Derived.Test.YtodcabaihhmhnaaG35
import Derived.Test.YtodcabaihhmhnaaG34
import Derived.Test.YtodcabaihhmhnaaG18
import Derived.Test.YtodcabaihhmhnaaG30
import Derived.Deep.CutRange
/- The frame of a leaf: the document's. -/
namespace Go.Proofs.Ytodcabaihhmhnaa
open Go.RowKit

/-- The deepest cell on the way that is along the axis, among the first m. -/
def frN (ax : Int) (t : T) (p : List Int) : Nat → Option Nat
  | 0 => none
  | n + 1 => match atT t (p.take n) with
    | some x => if alB x.k ax = true then some n else frN ax t p n
    | none => frN ax t p n
theorem fr_yes {ax : Int} {t x : T} {p : List Int} {n : Nat} (h : atT t (p.take n) = some x) (ha : alB x.k ax = true) : frN ax t p (n + 1) = some n := by
  rw [frN, h]; exact if_pos ha
theorem fr_no {ax : Int} {t x : T} {p : List Int} {n : Nat} (h : atT t (p.take n) = some x) (ha : alB x.k ax = false) : frN ax t p (n + 1) = frN ax t p n := by
  rw [frN, h]; exact if_neg (by rw [ha]; decide)
/-- Which of its kids is pushed. -/
def plcN (x : T) (k : Int) : Int := if k = (x.kids.length : Int) - 1 then k - 1 else k
noncomputable def fdE (id ax : Int) (t : T) : Int := if tileB t = true ∧ axB ax = true then (match findT id t with
  | none => 6
  | some p => match frN ax t p p.length with
    | none => 10
    | some _ => 0) else 1
def FdSays (id ax : Int) (t : T) (w : World) (e : Ending) (w' : World) : Prop :=
  Below w.heap.size w w' ∧ ((fdE id ax t ≠ 0 ∧ e = .returned (.agg #[.slice none 0 0, .int .i64 0, .int .i64 (fdE id ax t)])) ∨
    (fdE id ax t = 0 ∧ ∃ (p : List Int) (n : Nat) (x : T) (k : Int) (a : Option Addr) (cap : Nat), findT id t = some p ∧ frN ax t p p.length = some n ∧ atT t (p.take n) = some x ∧ p[n]? = some k ∧ n < p.length ∧ e = .returned (.agg #[.slice a n cap, .int .i64 (plcN x k), .int .i64 0]) ∧ Path w' (.slice a n cap) (p.take n) ∧ FarP (w.heap.size + 2) (.slice a n cap)))

abbrev fO (v : Value) (k e : Int) : Obj := .cells #[v, .int .i64 k, .int .i64 e] 41
set_option maxRecDepth 100000 in
theorem results_f {fn : Func} {p : Tmp} (h : fn.results = #[.cell p 41]) (tmps : Array Value) (w : World) (g : Nat) (v : Value) (k e : Int) (hp : tmps.getD p undef = .pointer (some ⟨g, 0, none⟩)) (hg : w.heap[g]? = some (fO v k e)) :
    (results fn tmps).run Try.prog w = .ok (.agg #[v, .int .i64 k, .int .i64 e]) w :=
  results_cell_row h tmps w g 41 _ (0, 0) _ hp hg Try.underlying41 rfl (by kernel_rfl)
theorem f_parts {w : World} {s : Nat} {v : Value} {k e : Int} (h : w.heap[s]? = some (fO v k e)) : (w.cell? ⟨s, 0, none⟩ = some v ∧ w.cell? ⟨s, 1, none⟩ = some (.int .i64 k) ∧ w.cell? ⟨s, 2, none⟩ = some (.int .i64 e)) ∧ w.frozen? ⟨s, 0, none⟩ = false ∧ w.frozen? ⟨s, 1, none⟩ = false ∧ w.frozen? ⟨s, 2, none⟩ = false := by
  refine ⟨⟨?_, ?_, ?_⟩, ?_, ?_, ?_⟩ <;> simp [World.cell?, World.frozen?, h]
abbrev fput (w : World) (s : Nat) (v : Value) (k e : Int) : World := ((w.setCell ⟨s, 0, none⟩ v).setCell ⟨s, 1, none⟩ (.int .i64 k)).setCell ⟨s, 2, none⟩ (.int .i64 e)
theorem f_put {w : World} {s : Nat} {v v' : Value} {k k' e e' : Int} (h : w.heap[s]? = some (fO v' k' e')) : (fput w s v k e).heap[s]? = some (fO v k e) := by
  have h1 := set_block (i := 0) h v
  have h2 := set_block (i := 1) h1 (.int .i64 k)
  have h3 := set_block (i := 2) h2 (.int .i64 e)
  exact h3
theorem below_f {w W : World} {s : Nat} (h : Below w.heap.size w W) (hs : w.heap.size ≤ s) (v : Value) (k e : Int) : Below w.heap.size w (fput W s v k e) := ((h.setCell hs _).setCell hs _).setCell hs _
theorem other_f {W : World} {s m : Nat} {v : Value} {k e : Int} (h : m ≠ s) : (fput W s v k e).heap[m]? = W.heap[m]? := by
  unfold fput
  rw [Below.heap_setCell _ ⟨s, 2, none⟩ _ m h, Below.heap_setCell _ ⟨s, 1, none⟩ _ m h, Below.heap_setCell _ ⟨s, 0, none⟩ _ m h]

abbrev startF (w : World) (c : C) : World := (w.alloc (cbox c)).alloc (fO (.slice none 0 0) 0 0)
structure FSt (w : World) (c : C) (W : World) : Prop where
  below : Below w.heap.size w W
  box : Box7 W w.heap.size c
  res : W.heap[w.heap.size + 1]? = some (fO (.slice none 0 0) 0 0)
theorem FSt.up {w W W' : World} {c : C} (h : FSt w c W) (hb : Below W.heap.size W W') : FSt w c W' := ⟨h.below.trans (hb.mono h.below.size), h.box.up hb, (hb.block _ (lt_of_block h.res)).trans h.res⟩
theorem FSt.start (w : World) (c : C) : FSt w c (startF w c) := by
  have h1 : Below w.heap.size w (w.alloc (cbox c)) := (Below.refl _ _).alloc (Nat.le_refl _) _
  have h2 : Below (w.alloc (cbox c)).heap.size (w.alloc (cbox c)) (startF w c) := (Below.refl _ _).alloc (Nat.le_refl _) _
  refine ⟨h1.trans (h2.mono h1.size), (Box7.new w c).up h2, ?_⟩
  have := heap_alloc_new (w.alloc (cbox c)) (fO (.slice none 0 0) 0 0)
  simpa using this
theorem FSt.is {w W : World} {c : C} {t : T} (h : FSt w c W) (hi : Is w c t) : Is W c t := hi.up h.below

theorem fd_err {id ax n : Int} {t : T} {w w' : World} (h : fdE id ax t = n) (h0 : n ≠ 0) (hb : Below w.heap.size w w') : FdSays id ax t w (.returned (.agg #[.slice none 0 0, .int .i64 0, .int .i64 n])) w' := by
  subst h
  exact ⟨hb, .inl ⟨h0, rfl⟩⟩
theorem fd_arg {id ax : Int} {t : T} (h : ¬ (tileB t = true ∧ axB ax = true)) : fdE id ax t = 1 := if_neg h
theorem fd_none {id ax : Int} {t : T} (h : tileB t = true ∧ axB ax = true) (hf : findT id t = none) : fdE id ax t = 6 := by
  unfold fdE; rw [if_pos h, hf]
theorem fd_state {id ax : Int} {t : T} {p : List Int} (h : tileB t = true ∧ axB ax = true) (hf : findT id t = some p) (hr : frN ax t p p.length = none) : fdE id ax t = 10 := by
  unfold fdE; rw [if_pos h, hf]; simp only [hr]
theorem fd_ok {id ax : Int} {t : T} {p : List Int} {n : Nat} (h : tileB t = true ∧ axB ax = true) (hf : findT id t = some p) (hr : frN ax t p p.length = some n) : fdE id ax t = 0 := by
  unfold fdE; rw [if_pos h, hf]; simp only [hr]
theorem Path.cut {w : World} {a : Option Addr} {n cap : Nat} {p : List Int} (h : Path w (.slice a n cap) p) (k : Nat) (hk : k ≤ p.length) : Path w (.slice a k cap) (p.take k) := by
  obtain ⟨a', cap', he, hc⟩ := h.cap
  cases he
  obtain ⟨a', cap', he, h0, h1⟩ := h.row
  rw [ints_length] at he
  cases he
  refine ⟨⟨a, cap, by rw [ints_length, List.length_take, Nat.min_eq_left hk], fun e => ?_, fun x hx j v hv => ?_⟩, a, cap, by rw [List.length_take, Nat.min_eq_left hk], by rw [List.length_take, Nat.min_eq_left hk]; omega⟩
  · obtain ⟨h2, h3⟩ := h0 e
    have h4 : p = [] := by cases p with | nil => rfl | cons a l => simp [ints] at h2
    subst h4
    exact ⟨by simp [ints], h3⟩
  · refine h1 x hx j v ?_
    have h5 : ints (p.take k) = (ints p).take k := by unfold ints; rw [List.map_take]
    rw [h5, List.getElem?_take] at hv
    split at hv
    · exact hv
    · cases hv
theorem at_take {t u : T} {p : List Int} (h : atT t p = some u) (n : Nat) : ∃ x, atT t (p.take n) = some x := by
  cases hx : atT t (p.take n) with
  | some x => exact ⟨x, rfl⟩
  | none =>
    rw [← List.take_append_drop n p, atT_append, hx] at h
    cases h

theorem bl_al {w W : World} (h : Below w.heap.size w W) (o : Obj) : Below w.heap.size w (W.alloc o) := h.alloc h.size o
theorem bl_up {w W W' : World} (h : Below w.heap.size w W) (hb : Below W.heap.size W W') : Below w.heap.size w W' := h.trans (hb.mono h.size)
/-- A zero box, made since. -/
def ZL (w W : World) (k : Nat) : Prop := Zero7 W k ∧ w.heap.size ≤ k
theorem ZL.up {w W W' : World} {k : Nat} (h : ZL w W k) (hb : Below W.heap.size W W') : ZL w W' k := ⟨zero_up h.1 hb, h.2⟩
theorem zl_new {w W : World} (h : Below w.heap.size w W) : ZL w (W.alloc zeroBox) W.heap.size := ⟨zero_new W, h.size⟩
theorem zl_drew {w W : World} (h : Below w.heap.size w W) : ZL w (W.alloc zeroBox).drew W.heap.size := ⟨zero_new W, h.size⟩
/-- A cell in a box that was made since. -/
structure Bx (w : World) (k : Nat) (d : C) (W : World) : Prop where
  below : Below w.heap.size w W
  far : w.heap.size ≤ k
  box : Box7 W k d
theorem bx_put {w W : World} {k : Nat} {d : C} (h : Below w.heap.size w W) (hz : ZL w W k) : Bx w k d (put7 W k d) := ⟨below_put7 h hz.2 d, hz.2, (Box7.of_zero hz.1).put d⟩
theorem bx_new {w W : World} {d : C} (h : Below w.heap.size w W) : Bx w W.heap.size d (W.alloc (cbox d)) := ⟨bl_al h _, h.size, Box7.new W d⟩
end Go.Proofs.Ytodcabaihhmhnaa
/- The frame of a leaf: the document's walk. -/
namespace Go.Proofs.Ytodcabaihhmhnaa
open Go.RowKit

theorem fd_found {id ax : Int} {t y : T} {p : List Int} {m : Nat} {k z : Int} {w W : World} {a : Option Addr} {cap : Nat} (he : fdE id ax t = 0) (hf : findT id t = some p) (hr : frN ax t p p.length = some m) (hy : atT t (p.take m) = some y) (hk : p[m]? = some k) (hm : m < p.length) (hb : Below w.heap.size w W) (hp : Path W (.slice a m cap) (p.take m)) (hfar : FarP (w.heap.size + 2) (.slice a p.length cap)) (hz : plcN y k = z) : FdSays id ax t w (.returned (.agg #[.slice a m cap, .int .i64 z, .int .i64 0])) (fput W (w.heap.size + 1) (.slice a m cap) z 0) := by
  have hfar' : FarP (w.heap.size + 2) (.slice a m cap) := fun a' n' cap' e => by cases e; exact hfar _ _ _ rfl
  refine ⟨below_f hb (by omega) _ _ _, .inr ⟨he, p, m, y, k, a, cap, hf, hr, hy, hk, hm, by rw [hz], ?_, hfar'⟩⟩
  exact hp.kept hfar' fun g hg => other_f (by omega)

set_option maxHeartbeats 4000000 in
set_option maxRecDepth 100000 in
theorem rframe_any (id ax : Int) (t : T) (c : C) (w : World) (hm : sz t ≤ 990) (hi : Is w c t) : Calls Try.prog 14 #[cval c, .int .i64 id, .int .u8 ax] w (FdSays id ax t w) := by
  have L0 := Lib.hid (FSt.start w c)
  have HT := Lib.hid (rtiles8_any t c (startF w c) (L0.out.is hi) (by omega))
  have HI := Lib.hid hi
  have HM := Lib.hid hm
  clear hi hm
  obtain ⟨c0, c1, c2, c3, c4, c5, c6⟩ := c7_of L0.out.box.cat
  cases htt : tileB t with
  | false =>
    rw [htt] at HT
    have HE : Hid (fdE id ax t = 1) := Lib.hid (fd_arg fun e => by rw [htt] at e; exact absurd e.1 (by decide))
    clear htt
    go_enter Try.func14, Try.ntmps14
    go_wp2_with fail
    refine HT.out.mono ?_
    rintro e w1 ⟨rfl, hb1⟩
    have L1 := Lib.hid (L0.out.up hb1)
    clear hb1 c0 c1 c2 c3 c4 c5 c6 HT
    obtain ⟨⟨s0, s1, s2⟩, f0, f1, f2⟩ := f_parts L1.out.res
    go_wp2
    (try simp only [Exit.inBlock, Exit.then])
    refine bodyPost_ret (results_f rfl _ _ (w.heap.size + 1) (.slice none 0 0) 0 1 rfl (f_put L1.out.res)) rfl ?_
    exact fd_err HE.out (by decide) (below_f L1.out.below (by omega) _ _ _)
  | true =>
    rw [htt] at HT
    have HTT := Lib.hid htt
    by_cases hax : axB ax = true
    · have hax12 := (axB_iff ax).1 hax
      have d1 : decide (ax < 1) = false := decide_eq_false (by omega)
      have d2 : decide (2 < ax) = false := decide_eq_false (by omega)
      have HTA := Lib.hid (And.intro htt hax)
      clear htt hax
      go_enter Try.func14, Try.ntmps14
      go_wp2_with fail
      refine HT.out.mono ?_
      rintro e w1 ⟨rfl, hb1⟩
      have L1 := Lib.hid (L0.out.up hb1)
      clear hb1 c0 c1 c2 c3 c4 c5 c6 HT
      have HF := Lib.hid (rfindp_any id (sz t) t c w1 (Nat.le_refl _) (by have := HM.out; omega) (L1.out.is HI.out))
      obtain ⟨c0, c1, c2, c3, c4, c5, c6⟩ := c7_of L1.out.box.cat
      cases hf : findT id t with
      | none =>
        rw [hf] at HF
        have HE := Lib.hid (fd_none HTA.out hf)
        clear hf
        go_wp2_with fail
        refine HF.out.mono ?_
        rintro e w2 ⟨v, rfl, -, -, hb2⟩
        have L2 := Lib.hid (L1.out.up hb2)
        clear hb2 c0 c1 c2 c3 c4 c5 c6 HF
        have hss : (none : Option (List Int)).isSome = false := rfl
        obtain ⟨⟨s0, s1, s2⟩, f0, f1, f2⟩ := f_parts L2.out.res
        go_wp2
        (try simp only [Exit.inBlock, Exit.then])
        refine bodyPost_ret (results_f rfl _ _ (w.heap.size + 1) (.slice none 0 0) 0 6 rfl (f_put L2.out.res)) rfl ?_
        exact fd_err HE.out (by decide) (below_f L2.out.below (by omega) _ _ _)
      | some p =>
        rw [hf] at HF
        have HFT := Lib.hid hf
        have hpl : p.length ≤ 1000000 := by have := findT_len id p t hf; have := HM.out; omega
        obtain ⟨u', hu', -, -, -⟩ := find_there hf
        have HU := Lib.hid hu'
        clear hf hu'
        go_wp2_with fail
        refine HF.out.mono ?_
        rintro e w2 ⟨v, rfl, hp2, hfar, hb2⟩
        have L2 := Lib.hid (L1.out.up hb2)
        have P2 := Lib.hid (show Path w2 v p from hp2)
        have I2 := Lib.hid (L2.out.is HI.out)
        have HSZ1 : Hid (w.heap.size + 2 ≤ w1.heap.size) := Lib.hid (lt_of_block L1.out.res)
        have HFAR := Lib.hid (hfar.lower HSZ1.out)
        obtain ⟨a, cap, rfl, hcap⟩ := P2.out.cap
        clear hb2 hp2 hfar c0 c1 c2 c3 c4 c5 c6 HF L1
        have hss : (some p : Option (List Int)).isSome = true := rfl
        go_wp2
        go_loopg [9] (p.length + 2) (fun gg i wr => ∃ (m : Nat) (x : Int), m < gg ∧ m ≤ p.length ∧ i = .int .i64 x ∧ x = (m : Int) - 1 ∧ frN ax t p p.length = frN ax t p m ∧ Below w2.heap.size w2 wr ∧ FSt w c wr)
        case atStart => exact ⟨p.length, (p.length : Int) - 1, by omega, by omega, by first | rfl | (congr 1; exact wrap_id (by omega)) | (have e : wrap64 ((p.length : Int) - 1) = (p.length : Int) - 1 := (by rw [← wrapE]; exact wrap_id (by omega)); rw [e]), rfl, rfl, Below.refl _ _, L2.out⟩
        case round =>
          obtain ⟨m, x, hg, hm, rfl, hx, hfr, hb, hst⟩ := hrel
          have HG := Lib.hid hg
          have HFR := Lib.hid hfr
          have HB := Lib.hid hb
          have HS := Lib.hid hst
          clear hg hfr hb hst
          cases m with
          | zero =>
            have dneg : decide (0 ≤ x) = false := decide_eq_false (by omega)
            clear hx
            have HE := Lib.hid (fd_state HTA.out HFT.out HFR.out)
            obtain ⟨⟨s0, s1, s2⟩, f0, f1, f2⟩ := f_parts HS.out.res
            go_wp2
            (try simp only [Exit.inBlock, Exit.then])
            refine bodyPost_ret (results_f rfl _ _ (w.heap.size + 1) (.slice none 0 0) 0 10 rfl (f_put HS.out.res)) rfl ?_
            exact fd_err HE.out (by decide) (below_f HS.out.below (by omega) _ _ _)
          | succ m =>
            obtain rfl : x = (m : Int) := by omega
            have d0 : decide (0 ≤ (m : Int)) = true := decide_eq_true (by omega)
            have hwm : IntKind.i64.wrap ((m : Int) - 1) = (m : Int) - 1 := wrap_id (by omega)
            obtain ⟨y, hy⟩ := at_take HU.out m
            have HY := Lib.hid hy
            have HPC := Lib.hid (P2.out.cut m (by omega))
            have HAT := Lib.hid (fun (W : World) (h : Below w2.heap.size w2 W) => rat_any w2 (p.take m) t c (.slice a m cap) W I2.out h HPC.out (by rw [List.length_take]; omega))
            rw [hy] at HAT
            have hsy : (some y : Option T).isSome = true := rfl
            have hgy : (some y : Option T).getD zT = y := rfl
            simp only [hsy, hgy] at HAT
            have HXc : Hid (∀ W, Below w2.heap.size w2 W → C7 w.heap.size c W) := Lib.hid fun W h => c7_of (L2.out.up h).box.cat
            have D0 : Hid (Below w2.heap.size w2 wr.drew) := Lib.hid HB.out.drew
            have Dz : Hid (Below w2.heap.size w2 (wr.alloc zeroBox).drew) := Lib.hid (bl_al HB.out _).drew
            have Dy : Hid (Below w2.heap.size w2 (wr.drew.alloc zeroBox)) := Lib.hid (bl_al D0.out _)
            have ZZ : Hid (ZL w2 (wr.alloc zeroBox).drew wr.heap.size) := Lib.hid (zl_drew HB.out)
            have ZY : Hid (ZL w2 (wr.drew.alloc zeroBox) wr.drew.heap.size) := Lib.hid (zl_new D0.out)
            have hs1 : (m : Int) ≤ (cap : Int) := by omega
            have n1 : ¬ (cap = m) := by omega
            clear hy hx hsy hgy
            obtain ⟨c0, c1, c2, c3, c4, c5, c6⟩ := HXc.out wr HB.out
            go_upto_region 9 with fail
            clear c0 c1 c2 c3 c4 c5 c6
            go_cut [10] from 37 to 69 (fun s10 wx => ∃ bk d, s10 = .pointer (some ⟨bk, 0, none⟩) ∧ Is w2 d y ∧ Bx w2 bk d wx)
            case first =>
              go_region_held3 (fun W => W.cell? ⟨w.heap.size, 0, none⟩ = some (.int .u8 c.k) ∧ W.cell? ⟨w.heap.size, 1, none⟩ = some (.int .i64 c.r.x) ∧ W.cell? ⟨w.heap.size, 2, none⟩ = some (.int .i64 c.r.y) ∧ W.cell? ⟨w.heap.size, 3, none⟩ = some (.int .i64 c.r.w) ∧ W.cell? ⟨w.heap.size, 4, none⟩ = some (.int .i64 c.r.h) ∧ W.cell? ⟨w.heap.size, 5, none⟩ = some (.int .i64 c.id) ∧ W.cell? ⟨w.heap.size, 6, none⟩ = some (.slice c.a c.n c.cap)) (exact HXc.out _ (by first | with_reducible exact D0.out | with_reducible exact Dz.out | with_reducible exact Dy.out | with_reducible exact L4.out | with_reducible exact bl_al L4.out _ | with_reducible exact P4.out))
                (first
                  | (go_at_call 16; (with_reducible refine (HAT.out _ (by first | with_reducible exact D0.out | with_reducible exact Dz.out | with_reducible exact Dy.out)).mono ?_); rintro e w4 ⟨d, rfl, hd, hb4⟩; have I4 := Lib.hid hd; have L4 := Lib.hid (bl_up (by first | with_reducible exact D0.out | with_reducible exact Dz.out | with_reducible exact Dy.out) hb4); (first | ((with_reducible have Z4 := Lib.hid (ZZ.out.up hb4)); have P4 := Lib.hid (below_put7 L4.out Z4.out.2 d); obtain ⟨⟨z0, z1, z2, z3, z4, z5, z6⟩, f0, f1, f2, f3, f4, f5, f6⟩ := zero_parts Z4.out.1) | ((with_reducible have Z4 := Lib.hid (ZY.out.up hb4)); have P4 := Lib.hid (below_put7 L4.out Z4.out.2 d); obtain ⟨⟨z0, z1, z2, z3, z4, z5, z6⟩, f0, f1, f2, f3, f4, f5, f6⟩ := zero_parts Z4.out.1) | have N4 := Lib.hid True.intro); clear hd hb4))
              all_goals (rename_i hh9; clear hh9)
              all_goals (try clear z0 z1 z2 z3 z4 z5 z6)
              all_goals (go_wp2_with fail; go_meet; first | (have HZ := bx_put (d := d) L4.out Z4.out; exact ⟨_, d, rfl, I4.out, HZ⟩) | (have HZ := bx_new (d := d) L4.out; exact ⟨_, d, rfl, I4.out, HZ⟩))
            case rest =>
              obtain ⟨bk, d, rfl, hi4, hp4⟩ := hcut
              have I4 := Lib.hid hi4
              have P := Lib.hid hp4
              clear hi4 hp4 D0 Dz Dy ZZ ZY HAT
              have hdk : y.k = d.k := I4.out.split.1
              have hdn := I4.out.n
              have hdl := I4.out.fine.2.2.2
              have HAL := Lib.hid (ralong_any d ax wc)
              obtain ⟨q0, q1, q2, q3, q4, q5, q6⟩ := c7_of P.out.box.cat
              obtain ⟨k, hk⟩ : ∃ k, p[m]? = some k := ⟨_, List.getElem?_eq_getElem (by omega)⟩
              cases hal : alB d.k ax with
              | false =>
                rw [hal] at HAL
                have HR := Lib.hid (HFR.out.trans (fr_no HY.out (by rw [hdk]; exact hal)))
                clear hal hdk hdn hk
                go_wp2_with fail
                refine HAL.out.mono ?_
                rintro e w9 ⟨rfl, hb9⟩
                have B9 := Lib.hid (bl_up P.out.below hb9)
                clear hb9 q0 q1 q2 q3 q4 q5 q6
                go_wp2
                go_roundg (gk - 1)
                case measure => have := HG.out; omega
                case rel => exact ⟨m, (m : Int) - 1, by have := HG.out; omega, by omega, by first | rfl | (rw [hwm]) | go_num, rfl, HR.out, B9.out, L2.out.up B9.out⟩
              | true =>
                rw [hal] at HAL
                have HR := Lib.hid (HFR.out.trans (fr_yes HY.out (by rw [hdk]; exact hal)))
                have HE := Lib.hid (fd_ok HTA.out HFT.out HR.out)
                have HK := Lib.hid hk
                have hkb : 0 ≤ k ∧ k < (y.kids.length : Int) := by
                  have h1 : atT t (p.take (m + 1)) = kidAt y k := by rw [take_snoc hk, atT_append, HY.out]; simp only [atT]; cases kidAt y k <;> rfl
                  obtain ⟨z, hz⟩ := at_take HU.out (m + 1)
                  rw [hz] at h1
                  obtain ⟨j, rfl, hj⟩ := kid_some h1.symm
                  have := (List.getElem?_eq_some_iff.1 hj).1
                  omega
                have HPL : Hid (plcN y k = if k = (d.n : Int) - 1 then k - 1 else k) := Lib.hid (by unfold plcN; rw [hdn])
                rw [← hdn] at hkb
                clear hal hdk hdn hk
                go_wp2_with fail
                refine HAL.out.mono ?_
                rintro e w9 ⟨rfl, hb9⟩
                have B9 := Lib.hid (bl_up P.out.below hb9)
                have S9 := Lib.hid (L2.out.up B9.out)
                have X9 := Lib.hid (P.out.box.up hb9)
                clear hb9 q0 q1 q2 q3 q4 q5 q6
                obtain ⟨q0, q1, q2, q3, q4, q5, q6⟩ := c7_of X9.out.cat
                obtain ⟨pb, po, hpa, hpf⟩ := int_at (P2.out.up B9.out).row (by omega)
                have p0 := hpf m k HK.out
                rw [hpa] at HFAR HPC P2 ⊢
                clear hpf hpa
                obtain ⟨⟨s0, s1, s2⟩, f0, f1, f2⟩ := f_parts S9.out.res
                have hlt1 : m < p.length := by omega
                have hlti : (m : Int) < (p.length : Int) := by omega
                have hwn : IntKind.i64.wrap ((d.n : Int) - 1) = (d.n : Int) - 1 := wrap_id (by omega)
                have hwk : IntKind.i64.wrap (k - 1) = k - 1 := wrap_id (by omega)
                have HPU := Lib.hid (HPC.out.up B9.out)
                by_cases hl : k = (d.n : Int) - 1
                · have b1 : (k == (d.n : Int) - 1) = true := by simpa using hl
                  have HZ : Hid (plcN y k = k - 1) := Lib.hid (by rw [HPL.out, if_pos hl])
                  clear hl
                  go_wp2
                  (try simp only [Exit.inBlock, Exit.then])
                  refine bodyPost_ret (results_f rfl _ _ (w.heap.size + 1) (.slice (some ⟨pb, po, none⟩) m cap) (k - 1) 0 rfl (f_put S9.out.res)) rfl ?_
                  exact fd_found HE.out HFT.out HR.out HY.out HK.out hlt1 S9.out.below HPU.out HFAR.out HZ.out
                · have b1 : (k == (d.n : Int) - 1) = false := by simpa using hl
                  have HZ : Hid (plcN y k = k) := Lib.hid (by rw [HPL.out, if_neg hl])
                  clear hl
                  go_wp2
                  (try simp only [Exit.inBlock, Exit.then])
                  refine bodyPost_ret (results_f rfl _ _ (w.heap.size + 1) (.slice (some ⟨pb, po, none⟩) m cap) k 0 rfl (f_put S9.out.res)) rfl ?_
                  exact fd_found HE.out HFT.out HR.out HY.out HK.out hlt1 S9.out.below HPU.out HFAR.out HZ.out
    · have HE : Hid (fdE id ax t = 1) := Lib.hid (fd_arg fun e => hax e.2)
      have hno : ¬ (ax = 1 ∨ ax = 2) := fun h => hax ((axB_iff ax).2 h)
      clear htt hax HTT
      by_cases h1 : ax < 1
      · have d1 : decide (ax < 1) = true := decide_eq_true h1
        clear h1 hno
        go_enter Try.func14, Try.ntmps14
        go_wp2_with fail
        refine HT.out.mono ?_
        rintro e w1 ⟨rfl, hb1⟩
        have L1 := Lib.hid (L0.out.up hb1)
        clear hb1 c0 c1 c2 c3 c4 c5 c6 HT
        obtain ⟨⟨s0, s1, s2⟩, f0, f1, f2⟩ := f_parts L1.out.res
        go_wp2
        (try simp only [Exit.inBlock, Exit.then])
        refine bodyPost_ret (results_f rfl _ _ (w.heap.size + 1) (.slice none 0 0) 0 1 rfl (f_put L1.out.res)) rfl ?_
        exact fd_err HE.out (by decide) (below_f L1.out.below (by omega) _ _ _)
      · have d1 : decide (ax < 1) = false := decide_eq_false h1
        have d2 : decide (2 < ax) = true := decide_eq_true (by omega)
        clear h1 hno
        go_enter Try.func14, Try.ntmps14
        go_wp2_with fail
        refine HT.out.mono ?_
        rintro e w1 ⟨rfl, hb1⟩
        have L1 := Lib.hid (L0.out.up hb1)
        clear hb1 c0 c1 c2 c3 c4 c5 c6 HT
        obtain ⟨⟨s0, s1, s2⟩, f0, f1, f2⟩ := f_parts L1.out.res
        go_wp2
        (try simp only [Exit.inBlock, Exit.then])
        refine bodyPost_ret (results_f rfl _ _ (w.heap.size + 1) (.slice none 0 0) 0 1 rfl (f_put L1.out.res)) rfl ?_
        exact fd_err HE.out (by decide) (below_f L1.out.below (by omega) _ _ _)
end Go.Proofs.Ytodcabaihhmhnaa
/- By how much a leaf's cell can be pushed: the document's. -/
namespace Go.Proofs.Ytodcabaihhmhnaa
open Go.RowKit

/-- The frame, and which of its kids is pushed. -/
noncomputable def frX (id ax : Int) (t : T) : T × Int := match findT id t with
  | none => (zT, 0)
  | some p => match frN ax t p p.length with
    | none => (zT, 0)
    | some n => ((atT t (p.take n)).getD zT, plcN ((atT t (p.take n)).getD zT) (p.getD n 0))
theorem frx_is {id ax k : Int} {t y : T} {p : List Int} {n : Nat} (hf : findT id t = some p) (hr : frN ax t p p.length = some n) (hy : atT t (p.take n) = some y) (hk : p[n]? = some k) : frX id ax t = (y, plcN y k) := by
  unfold frX
  rw [hf]
  simp only
  rw [hr]
  simp only
  rw [hy, List.getD_eq_getElem?_getD, hk]
  rfl
theorem fd_tile {id ax : Int} {t : T} (h : fdE id ax t = 0) : tileB t = true ∧ axB ax = true := by
  by_cases h1 : tileB t = true ∧ axB ax = true
  · exact h1
  · rw [fd_arg h1] at h; cases h
/-- What those of the first n kids can give that are asked. -/
def smN (ax : Int) (s : Int → Bool) (ks : List T) : Nat → Int
  | 0 => 0
  | n + 1 => smN ax s ks n + (if s n = true then gvT ax (ks.getD n default) else 0)
theorem sm_yes {ax : Int} {s : Int → Bool} {ks : List T} {n : Nat} {u : T} (hu : ks[n]? = some u) (h : s n = true) : smN ax s ks (n + 1) = smN ax s ks n + gvT ax u := by
  rw [smN, if_pos h, List.getD_eq_getElem?_getD, hu]; rfl
theorem sm_no {ax : Int} {s : Int → Bool} {ks : List T} {n : Nat} (h : s n = false) : smN ax s ks (n + 1) = smN ax s ks n := by
  rw [smN, if_neg (by rw [h]; decide)]; omega
theorem sm_bounds {ax : Int} {s : Int → Bool} {ks : List T} (h : ∀ (j : Nat) (u : T), ks[j]? = some u → 0 ≤ gvT ax u ∧ gvT ax u ≤ 10000) : ∀ (n : Nat), n ≤ ks.length → 0 ≤ smN ax s ks n ∧ smN ax s ks n ≤ 10000 * (n : Int)
  | 0, _ => ⟨by simp [smN], by simp [smN]⟩
  | n + 1, hn => by
    have h1 := sm_bounds (s := s) h n (by omega)
    obtain ⟨u, hu⟩ : ∃ u, ks[n]? = some u := ⟨_, List.getElem?_eq_getElem (by omega)⟩
    have h2 := h n u hu
    cases hs : s (n : Int) with
    | true => rw [sm_yes hu hs]; omega
    | false => rw [sm_no hs]; omega
def askU (q : Int) (j : Int) : Bool := !(j == q)
def askD (q : Int) (j : Int) : Bool := decide (j ≤ q)
noncomputable def canU (id ax : Int) (t : T) : Int := if fdE id ax t = 0 then smN ax (askU (frX id ax t).2) (frX id ax t).1.kids (frX id ax t).1.kids.length else 0
noncomputable def canD (id ax : Int) (t : T) : Int := if fdE id ax t = 0 then smN ax (askD (frX id ax t).2) (frX id ax t).1.kids (frX id ax t).1.kids.length else 0
theorem can_err {id ax : Int} {t : T} (h : fdE id ax t ≠ 0) : canU id ax t = 0 ∧ canD id ax t = 0 := ⟨if_neg h, if_neg h⟩
theorem can_is {id ax q : Int} {t y : T} (h : fdE id ax t = 0) (hx : frX id ax t = (y, q)) : canU id ax t = smN ax (askU q) y.kids y.kids.length ∧ canD id ax t = smN ax (askD q) y.kids y.kids.length := by
  unfold canU canD
  rw [if_pos h, if_pos h, hx]
  exact ⟨rfl, rfl⟩

/-- A frame in a box, and a cell in another one. -/
structure CnSt (w : World) (g : Nat) (o : Obj) (h : Nat) (d : C) (W : World) : Prop where
  below : Below w.heap.size w W
  f : W.heap[g]? = some o
  x : Box7 W h d
theorem CnSt.up {w W W' : World} {g h : Nat} {o : Obj} {d : C} (s : CnSt w g o h d W) (hb : Below W.heap.size W W') : CnSt w g o h d W' := ⟨s.below.trans (hb.mono s.below.size), (hb.block _ (lt_of_block s.f)).trans s.f, s.x.up hb⟩

set_option maxHeartbeats 2000000 in
set_option maxRecDepth 100000 in
theorem rcan_any (id ax : Int) (t : T) (c : C) (w : World) (hm : sz t ≤ 990) (hi : Is w c t) : Calls Try.prog 10 #[cval c, .int .i64 id, .int .u8 ax] w fun e w' => e = .returned (.tuple #[.int .i64 (canU id ax t), .int .i64 (canD id ax t)]) ∧ Below w.heap.size w w' := by
  have L0 : Hid (Below w.heap.size w (w.alloc (cbox c))) := Lib.hid ((Below.refl _ _).alloc (Nat.le_refl _) _)
  have HF := Lib.hid (rframe_any id ax t c (w.alloc (cbox c)) hm (hi.up L0.out))
  have BX := Lib.hid (Box7.new w c)
  have HI := Lib.hid hi
  have HM := Lib.hid hm
  clear hi hm
  obtain ⟨c0, c1, c2, c3, c4, c5, c6⟩ := c7_of BX.out.cat
  go_enter Try.func10, Try.ntmps10
  go_wp2_with fail
  refine HF.out.mono ?_
  rintro e w2 ⟨hb2, hcase⟩
  have B2 := Lib.hid (L0.out.trans (hb2.mono L0.out.size))
  have X2 := Lib.hid (BX.out.up hb2)
  clear c0 c1 c2 c3 c4 c5 c6 HF hb2
  rcases hcase with ⟨h0, rfl⟩ | ⟨h0, p, n, y, k, a, cap, hf, hr, hy, hk, hn, rfl, hp, hfar⟩
  · have HE := Lib.hid (can_err h0)
    have b1 : (fdE id ax t == 0) = false := by simpa using h0
    have n1 : ¬ fdE id ax t = 0 := h0
    obtain ⟨⟨s0, s1, s2⟩, f0, f1, f2⟩ := f_parts (heap_alloc_new w2 (fO (.slice none 0 0) 0 (fdE id ax t)))
    have B3 : Hid (Below w.heap.size w (w2.alloc (fO (.slice none 0 0) 0 (fdE id ax t)))) := Lib.hid (bl_al B2.out _)
    clear h0
    generalize fdE id ax t = E at *
    go_upto_region 2 with (fail)
    change Code.wp _ _ _ _ (w2.alloc (fO (.slice none 0 0) 0 E))
    generalize w2.alloc (fO (.slice none 0 0) 0 E) = w3 at *
    go_wp2
    go_ret2
    exact ⟨by rw [HE.out.1, HE.out.2]; rfl, B3.out⟩
  · have HX := Lib.hid (frx_is hf hr hy hk)
    have HC := Lib.hid (can_is h0 HX.out)
    have htl := fd_tile h0
    have hty := tile_at (by have := HM.out; omega) htl.1 hy
    have HTY := Lib.hid (show tileB y = true ∧ sz y ≤ 990 from ⟨hty.1, by have := HM.out; have := hty.2; omega⟩)
    have HAX := Lib.hid ((axB_iff ax).1 htl.2)
    have hpl : p.length ≤ 1000000 := by have := findT_len id p t hf; have := HM.out; omega
    have HAT := Lib.hid (fun (W : World) (h : Below w2.heap.size w2 W) => rat_any w2 (p.take n) t c (.slice a n cap) W (HI.out.up B2.out) h hp (by rw [List.length_take]; omega))
    rw [hy] at HAT
    have hsy : (some y : Option T).isSome = true := rfl
    have hgy : (some y : Option T).getD zT = y := rfl
    simp only [hsy, hgy] at HAT
    clear hf hr hy hk hn hp hfar h0 htl hty hsy hgy hpl HX
    generalize plcN y k = q at *
    have F3 : Hid ((w2.alloc (fO (.slice a n cap) q 0)).heap[w2.heap.size]? = some (fO (.slice a n cap) q 0)) := Lib.hid (heap_alloc_new _ _)
    have B3 : Hid (Below w2.heap.size w2 (w2.alloc (fO (.slice a n cap) q 0))) := Lib.hid ((Below.refl _ _).alloc (Nat.le_refl _) _)
    have X3 : Hid (Box7 (w2.alloc (fO (.slice a n cap) q 0)) w.heap.size c) := Lib.hid (X2.out.up B3.out)
    go_upto_region 2 with (fail)
    change Code.wp _ _ _ _ (w2.alloc (fO (.slice a n cap) q 0))
    generalize w2.alloc (fO (.slice a n cap) q 0) = w3 at *
    obtain ⟨⟨s0, s1, s2⟩, f0, f1, f2⟩ := f_parts F3.out
    obtain ⟨c0, c1, c2, c3, c4, c5, c6⟩ := c7_of X3.out.cat
    have HA := Lib.hid (HAT.out w3 B3.out)
    clear HAT
    go_wp2_with fail
    refine HA.out.mono ?_
    rintro e w4 ⟨d, rfl, hd, hb4⟩
    have B4 := Lib.hid (B3.out.trans (hb4.mono B3.out.size))
    have F4 : Hid (w4.heap[w2.heap.size]? = some (fO (.slice a n cap) q 0)) := Lib.hid ((hb4.block _ (lt_of_block F3.out)).trans F3.out)
    have I4 := Lib.hid (hd.up B4.out)
    clear s0 s1 s2 f0 f1 f2 c0 c1 c2 c3 c4 c5 c6 HA hd hb4
    have S5 : Hid (CnSt w4 w2.heap.size (fO (.slice a n cap) q 0) w4.heap.size d (w4.alloc (cbox d))) := Lib.hid ⟨(Below.refl _ _).alloc (Nat.le_refl _) _, (Below.block ((Below.refl w4.heap.size w4).alloc (Nat.le_refl _) _) _ (lt_of_block F4.out)).trans F4.out, Box7.new w4 d⟩
    go_upto_region 5 with (fail)
    change Code.wp _ _ _ _ (w4.alloc (cbox d))
    generalize w4.alloc (cbox d) = w5 at *
    have B5 := Lib.hid (B4.out.trans (S5.out.below.mono B4.out.size))
    have BT := Lib.hid (B2.out.trans (B4.out.mono B2.out.size))
    have hdn := I4.out.n
    have HG := Lib.hid (fun (j : Nat) (u : T) (W : World) (hu : y.kids[j]? = some u) (hb : Below w4.heap.size w4 W) => rgives_any ax y u d j W HAX.out hu (by have := HTY.out.2; have := sz_kid hu; omega) (tile_kid (by have := HTY.out.2; omega) HTY.out.1 hu) (by have := kids_le HTY.out.2; omega) (I4.out.up hb))
    have HGB := Lib.hid (fun (j : Nat) (u : T) (hu : y.kids[j]? = some u) => gv_bounds HAX.out (t := u) (by have := HTY.out.2; have := sz_kid hu; omega) (tile_kid (by have := HTY.out.2; omega) HTY.out.1 hu))
    have hkl := kids_le HTY.out.2
    obtain ⟨ks, hks⟩ : ∃ ks, y.kids = ks := ⟨_, rfl⟩
    rw [hks] at HG HGB HC hkl hdn
    clear hks
    obtain ⟨dk, dr, did, da, dn, dcap⟩ := d
    simp only at hdn
    subst hdn
    obtain ⟨q0, q1, q2, q3, q4, q5, q6⟩ := c7_of S5.out.x.cat
    go_wp2
    go_loopg [11, 12, 31] (ks.length + 1) (fun gg s1 s2 i wr => ∃ m : Nat, gg + m = ks.length + 1 ∧ m ≤ ks.length ∧ s1 = .int .i64 (smN ax (askU q) ks m) ∧ s2 = .int .i64 (smN ax (askD q) ks m) ∧ i = .int .i64 m ∧ CnSt w4 w2.heap.size (fO (.slice a n cap) q 0) w4.heap.size ⟨dk, dr, did, da, ks.length, dcap⟩ wr)
    case atStart => exact ⟨0, by omega, by omega, rfl, rfl, rfl, S5.out⟩
    case round =>
      obtain ⟨m, hg, hmk, rfl, rfl, rfl, hs⟩ := hrel
      have HG1 := Lib.hid hg
      have HS := Lib.hid hs
      clear hg hs q0 q1 q2 q3 q4 q5 q6
      obtain ⟨q0, q1, q2, q3, q4, q5, q6⟩ := c7_of HS.out.x.cat
      obtain ⟨⟨s0, s1, s2⟩, f0, f1, f2⟩ := f_parts HS.out.f
      have hbu := sm_bounds (s := askU q) HGB.out m hmk
      have hbd := sm_bounds (s := askD q) HGB.out m hmk
      by_cases hlt : m < ks.length
      · have hlti : (m : Int) < (ks.length : Int) := by omega
        obtain ⟨u, hu⟩ : ∃ u, ks[m]? = some u := ⟨_, List.getElem?_eq_getElem hlt⟩
        have hgb := HGB.out m u hu
        have HC1 := Lib.hid (fun (W : World) (hb : Below w4.heap.size w4 W) => HG.out m u W hu hb)
        have HUy := Lib.hid (fun (h : askU q m = true) => sm_yes (ax := ax) hu h)
        have HUn := Lib.hid (fun (h : askU q m = false) => sm_no (ax := ax) (ks := ks) h)
        have HDy := Lib.hid (fun (h : askD q m = true) => sm_yes (ax := ax) hu h)
        have HDn := Lib.hid (fun (h : askD q m = false) => sm_no (ax := ax) (ks := ks) h)
        have hw1 : IntKind.i64.wrap (smN ax (askU q) ks m + gvT ax u) = smN ax (askU q) ks m + gvT ax u := wrap_id (by omega)
        have hw2 : IntKind.i64.wrap (smN ax (askD q) ks m + gvT ax u) = smN ax (askD q) ks m + gvT ax u := wrap_id (by omega)
        have hw3 : IntKind.i64.wrap ((m : Int) + 1) = (m : Int) + 1 := wrap_id (by omega)
        clear hu
        rcases Int.lt_trichotomy (m : Int) q with hc | hc | hc
        · have b1 : ((m : Int) == q) = false := by rw [beq_eq_false_iff_ne]; omega
          have b2 : ((m : Int) != q) = true := by rw [bne, b1]; rfl
          have b3 : decide ((m : Int) ≤ q) = true := decide_eq_true (by omega)
          have b4 : (m : Int) ≤ q := by omega
          have E1 := Lib.hid (HUy.out (by unfold askU; rw [b1]; rfl))
          have E2 := Lib.hid (HDy.out b3)
          clear hc
          go_wp2_with fail
          refine (HC1.out wr HS.out.below).mono ?_
          rintro e w6 ⟨rfl, hb6⟩
          have H6 := Lib.hid (HS.out.up hb6)
          clear hb6 q0 q1 q2 q3 q4 q5 q6 s0 s1 s2 f0 f1 f2
          obtain ⟨q0, q1, q2, q3, q4, q5, q6⟩ := c7_of H6.out.x.cat
          obtain ⟨⟨s0, s1, s2⟩, f0, f1, f2⟩ := f_parts H6.out.f
          go_wp2_with fail
          refine (HC1.out w6 H6.out.below).mono ?_
          rintro e w7 ⟨rfl, hb7⟩
          have H7 := Lib.hid (H6.out.up hb7)
          clear hb7
          go_wp2
          go_roundg (gk - 1)
          case measure => have := HG1.out; omega
          case rel => exact ⟨m + 1, by have := HG1.out; omega, by omega, by rw [E1.out], by rw [E2.out], by go_num, H7.out⟩
        · have b1 : ((m : Int) == q) = true := by rw [beq_iff_eq]; exact hc
          have b2 : ((m : Int) != q) = false := by rw [bne, b1]; rfl
          have b3 : decide ((m : Int) ≤ q) = true := decide_eq_true (by omega)
          have b4 : (m : Int) ≤ q := by omega
          have E1 := Lib.hid (HUn.out (by unfold askU; rw [b1]; rfl))
          have E2 := Lib.hid (HDy.out b3)
          clear hc
          go_wp2_with fail
          refine (HC1.out wr HS.out.below).mono ?_
          rintro e w6 ⟨rfl, hb6⟩
          have H6 := Lib.hid (HS.out.up hb6)
          clear hb6 q0 q1 q2 q3 q4 q5 q6 s0 s1 s2 f0 f1 f2
          obtain ⟨q0, q1, q2, q3, q4, q5, q6⟩ := c7_of H6.out.x.cat
          obtain ⟨⟨s0, s1, s2⟩, f0, f1, f2⟩ := f_parts H6.out.f
          go_wp2
          go_roundg (gk - 1)
          case measure => have := HG1.out; omega
          case rel => exact ⟨m + 1, by have := HG1.out; omega, by omega, by rw [E1.out], by rw [E2.out], by go_num, H6.out⟩
        · have b1 : ((m : Int) == q) = false := by rw [beq_eq_false_iff_ne]; omega
          have b2 : ((m : Int) != q) = true := by rw [bne, b1]; rfl
          have b3 : decide ((m : Int) ≤ q) = false := decide_eq_false (by omega)
          have b4 : ¬ (m : Int) ≤ q := by omega
          have E1 := Lib.hid (HUy.out (by unfold askU; rw [b1]; rfl))
          have E2 := Lib.hid (HDn.out b3)
          clear hc
          go_wp2_with fail
          refine (HC1.out wr HS.out.below).mono ?_
          rintro e w6 ⟨rfl, hb6⟩
          have H6 := Lib.hid (HS.out.up hb6)
          clear hb6 q0 q1 q2 q3 q4 q5 q6 s0 s1 s2 f0 f1 f2
          obtain ⟨q0, q1, q2, q3, q4, q5, q6⟩ := c7_of H6.out.x.cat
          obtain ⟨⟨s0, s1, s2⟩, f0, f1, f2⟩ := f_parts H6.out.f
          go_wp2
          go_roundg (gk - 1)
          case measure => have := HG1.out; omega
          case rel => exact ⟨m + 1, by have := HG1.out; omega, by omega, by rw [E1.out], by rw [E2.out], by go_num, H6.out⟩
      · obtain rfl : m = ks.length := by omega
        have hkl2 : ((ks.length : Int) < (ks.length : Int)) = False := by simp
        go_wp2
        go_ret2
        exact ⟨by rw [HC.out.1, HC.out.2]; rfl, BT.out.trans (HS.out.below.mono BT.out.size)⟩
end Go.Proofs.Ytodcabaihhmhnaa
