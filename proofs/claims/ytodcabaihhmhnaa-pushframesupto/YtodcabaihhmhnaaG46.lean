/- Texts of this seat, 3 in one file. -/
import Derived.Test.YtodcabaihhmhnaaG45
import Derived.Deep.Cut
/- The program's push comes to what the document's comes to. No walk. -/
namespace Go.Proofs.Ytodcabaihhmhnaa
open Go.RowKit Sh

theorem set_head {x y : Int} {X Y : T} (hk : X.k = Y.k) (hr : X.r = Y.r) (hi : X.id = Y.id) (hn : nzL X.kids = nzL Y.kids) : setT x y X = setT x y Y := by
  rw [setT_eq, setT_eq, hk, hr, hi, nz_setL hn]
/-- What was given, and what stands there, is the document's. -/
theorem psh_is {id ax b : Int} {t y : T} {p : List Int} {n P : Nat} (hm : sz t ≤ 990) (h0 : fdE id ax t = 0) (hf : findT id t = some p) (hr : frN ax t p p.length = some n) (hy : atT t (p.take n) = some y) (hX : frX id ax t = (y, (P : Int))) (hP : P + 1 < y.kids.length) :
    pshN y.r.x y.r.y ax P y.kids.length b y.kids = puN id ax b t ∧ putT (setT y.r.x y.r.y (.node y.k y.r y.id (pshL y.r.x y.r.y ax P y.kids.length b y.kids).1)) t (p.take n) = some (puT id ax b t) := by
  obtain ⟨hax, htt, p', n', y', k', P', e1, e2, e3, -, -, e4, -, hPl, hfrp, hal, hty, hsy⟩ := frame_is hm h0
  rw [hf] at e1; cases e1
  rw [hr] at e2; cases e2
  rw [hy] at e3; cases e3
  rw [hX] at e4
  have e5 : P = P' := by have := (Prod.mk.inj e4).2; omega
  subst e5
  obtain ⟨hinv, hS, hl2⟩ := pu_start hax hsy hty hal
  have hlen : y.kids.length ≤ 990 := by have := sz_node y; have := szL_len y.kids; omega
  -- the document's, for what the program asks
  have hps : ∃ X', puR id ax (decide (0 < b)) (absN b) t = (X', askA b - (pshL y.r.x y.r.y ax P y.kids.length b y.kids).2) ∧ nzL (pshL y.r.x y.r.y ax P y.kids.length b y.kids).1 = nzL X'.kids ∧ X'.k = y.k ∧ X'.r = y.r ∧ X'.id = y.id := by
    have ha0 : 0 ≤ askA b := by unfold askA; split <;> omega
    obtain ⟨X', q1, q2, q3⟩ := gv_ps (x := y.r.x) (y := y.r.y) (a := askA b) hax (up := decide (0 ≤ b)) hS hPl (ordL P y.kids.length (decide (0 ≤ b))) [] y.kids y (askA b) 20001 rfl rfl hinv ha0 (Int.le_refl _) (.inr fun j hj => by cases hj) (by have := ord_len (up := decide (0 ≤ b)) hPl; omega)
    have hd : askA b - askA b = 0 := by omega
    rw [hd] at q1
    refine ⟨X', ?_, q2, q3⟩
    unfold puR
    rw [hX]
    show psT ax P (decide (0 < b)) (absN b) 20001 y 0 = (X', askA b - (gvP y.r.x y.r.y ax (getN P (decide (0 ≤ b))) (ordL P y.kids.length (decide (0 ≤ b))) y.kids (askA b)).2)
    rw [← q1]
    rcases Int.lt_trichotomy b 0 with hb | hb | hb
    · have d1 : decide (0 < b) = false := decide_eq_false (by omega)
      have d2 : decide (0 ≤ b) = false := decide_eq_false (by omega)
      have e1 : absN b = -b := if_neg (by omega)
      have e2 : askA b = min (-b) 10000 := if_neg (by omega)
      rw [d1, d2, e1, e2]
      by_cases hfar : -b ≤ 10000
      · rw [Int.min_eq_left hfar]
      · rw [Int.min_eq_right (by omega)]
        obtain ⟨v, hv⟩ : ∃ v, y.kids[getN P false]? = some v := ⟨_, List.getElem?_eq_getElem (by show P + 1 < _; omega)⟩
        have hz := pu_size hax hinv hv
        exact ps_far hax hS (by omega) (by omega) hPl 20001 y v 0 hinv hv (by omega)
    · subst hb
      have e1 : absN 0 = 0 := rfl
      have e2 : askA 0 = 0 := rfl
      rw [e1, e2, ps_stop (.inl rfl), ps_stop (.inl rfl)]
    · have d1 : decide (0 < b) = true := decide_eq_true hb
      have d2 : decide (0 ≤ b) = true := decide_eq_true (by omega)
      have e1 : absN b = b := if_pos hb
      have e2 : askA b = b := if_pos (by omega)
      rw [d1, d2, e1, e2]
  obtain ⟨X', q1, q2, q3, q4, q5⟩ := hps
  constructor
  · unfold pshN puN puD
    rw [q1]
    show (if 0 ≤ b then askA b - (pshL y.r.x y.r.y ax P y.kids.length b y.kids).2 else _) = if 0 < b then askA b - (pshL y.r.x y.r.y ax P y.kids.length b y.kids).2 else -(askA b - (pshL y.r.x y.r.y ax P y.kids.length b y.kids).2)
    rcases Int.lt_trichotomy b 0 with hb | hb | hb
    · rw [if_neg (by omega), if_neg (by omega)]
    · subst hb
      have h1 := gvP_left (x := y.r.x) (y := y.r.y) (ax := ax) (q := getN P (decide ((0 : Int) ≤ 0))) _ (ordL P y.kids.length (decide ((0 : Int) ≤ 0))) y.kids 0 (Nat.le_refl _) (Int.le_refl _)
      have h2 : (pshL y.r.x y.r.y ax P y.kids.length 0 y.kids).2 = 0 := by
        have : pshL y.r.x y.r.y ax P y.kids.length 0 y.kids = gvP y.r.x y.r.y ax (getN P (decide ((0 : Int) ≤ 0))) (ordL P y.kids.length (decide ((0 : Int) ≤ 0))) y.kids 0 := rfl
        rw [this]; omega
      have h3 : askA 0 = 0 := rfl
      rw [h2, h3]; rfl
    · rw [if_pos (by omega), if_pos hb]
  · obtain ⟨Y, g1, -, -, g4⟩ := set_put (p.take n) t y X' (by omega) htt hy (by rw [q4]) (by rw [q4])
    have hs : setT y.r.x y.r.y (.node y.k y.r y.id (pshL y.r.x y.r.y ax P y.kids.length b y.kids).1) = setT y.r.x y.r.y X' := set_head q3.symm q4.symm q5.symm q2
    rw [hs, g4]
    unfold puT
    rw [q1, hfrp, g1]
    rfl
theorem pu_zero {id ax b : Int} {t : T} : puN id ax b t = 0 ↔ puD id ax b t = 0 := by unfold puN; split <;> omega
theorem pu_space {id ax b : Int} {t : T} (h0 : fdE id ax t = 0) (hn : puN id ax b t = 0) (hb : b ≠ 0) : puE id ax b t = 7 := by unfold puE; rw [if_pos h0, if_pos ⟨pu_zero.1 hn, hb⟩]
theorem pu_done {id ax b : Int} {t : T} (h0 : fdE id ax t = 0) (h : puN id ax b t ≠ 0 ∨ b = 0) : puE id ax b t = 0 := by
  unfold puE
  rw [if_pos h0, if_neg fun h9 => by
    rcases h with h | h
    · exact h (pu_zero.2 h9.1)
    · exact h9.2 h]
end Go.Proofs.Ytodcabaihhmhnaa
/- A leaf's cell is pushed: the program's Leaf answers what the document's does. -/
namespace Go.Proofs.Ytodcabaihhmhnaa
open Go.RowKit Sh

theorem FrmAt.path_mv {id ax : Int} {t : T} {base : Nat} {x : Fm} {P kg n : Nat} {y : T} {p : List Int} {cs : List C} {w w' : World} (h : FrmAt id ax t base x P kg n y p cs w) (m : Mv kg w w') : PRow w' base (.slice x.pa x.pn x.pcap) (p.take n) := by
  obtain ⟨a, c, he, h0, hc⟩ := h.path.1
  refine ⟨⟨a, c, he, h0, fun z hz j u hu => ?_⟩, h.path.2⟩
  subst hz
  have hu1 := hc z rfl j u hu
  obtain ⟨g, rfl, -⟩ := h.path.2.1 z _ _ he
  have hne : g ≠ kg := fun e => by
    subst e
    obtain ⟨u0, hu0⟩ : ∃ u0, (ints (p.take n))[0]? = some u0 := ⟨_, List.getElem?_eq_getElem (by have := (List.getElem?_eq_some_iff.1 hu).1; omega)⟩
    have h1 := hc _ rfl 0 u0 hu0
    obtain ⟨x0, hx0⟩ : ∃ x0, cs[0]? = some x0 := ⟨_, List.getElem?_eq_getElem (by have := h.kids.len; have := h.lt; omega)⟩
    have h2 := (h.kids.cell hx0).1
    rw [Go.WideShapes.add_plain] at h1
    simp only [Nat.zero_mul, Nat.add_zero] at h1 h2
    rw [h1] at h2
    unfold ints at hu0
    rw [List.getElem?_map] at hu0
    cases hh : (p.take n)[0]? with
    | none => rw [hh] at hu0; cases hu0
    | some m0 => rw [hh] at hu0; simp at hu0; subst hu0; simp at h2
  rw [Go.WideShapes.add_plain] at hu1 ⊢
  exact (World.cell?_of_block (a := ⟨g, 0 + j, none⟩) (m.at g (lt_of_cell hu1) hne)).trans hu1

/-- A tree in a box of its own, wherever else it stands. -/
structure Kz (w : World) (k : Nat) (z : C) (y : T) (W : World) : Prop where
  below : Below w.heap.size w W
  far : w.heap.size ≤ k
  box : Box7 W k z
  st : Stands (fun _ => True) W w.heap.size W.heap.size z y
theorem kz_put {w W W5 : World} {k : Nat} {z : C} {y : T} (h : Below w.heap.size w W) (hz : ZL w W k) (hz5 : ZL w W5 k) (hs : Stands (fun _ => True) W W5.heap.size W.heap.size z y) : Kz w k z y (put7 W k z) := by
  have h1 := lt_of_block hz5.1
  have h2 := hz5.2
  refine ⟨below_put7 h hz.2 z, hz.2, (Box7.of_zero hz.1).put z, ?_⟩
  rw [size_put7]
  exact (hs.move (w2 := put7 W k z) fun m hm _ => heap_put7 (by omega)).wide (by omega) (Nat.le_refl _)
theorem kz_new {w W : World} {n : Nat} {z : C} {y : T} (h : Below w.heap.size w W) (hn : w.heap.size ≤ n) (hs : Stands (fun _ => True) W n W.heap.size z y) : Kz w W.heap.size z y (W.alloc (cbox z)) :=
  ⟨bl_al h _, h.size, Box7.new W z, (hs.up ((Below.refl _ _).alloc (Nat.le_refl _) _) (Nat.le_refl _)).wide hn (by simp)⟩
theorem ast_mv {w W W' : World} {c : C} {kg : Nat} (h : ASt w c W) (m : Mv kg W W') (hk : w.heap.size + 2 ≤ kg) : ASt w c W' :=
  ⟨h.below.trans (m.low (by omega) h.below.size), (m.at _ (lt_of_block h.box) (by omega)).trans h.box, (m.at _ (lt_of_block h.zero) (by omega)).trans h.zero⟩

set_option maxHeartbeats 4000000 in
set_option maxRecDepth 100000 in
theorem ppush_any (id ax b : Int) (t : T) (c : C) (w : World) (hm : sz t ≤ 990) (hi : Is w c t) (hbf : fits b) : Calls Try.prog 11 #[cval c, .int .i64 id, .int .u8 ax, .int .i64 b] w (PuSays id ax b t w) := by
  have L0 := Lib.hid (ASt.start w c)
  have HF := Lib.hid (pfrm_any id ax t c (cellW w c) hm (L0.out.is hi))
  have HI := Lib.hid hi
  have HM := Lib.hid hm
  have HB := Lib.hid hbf
  clear hi hm hbf
  obtain ⟨c0, c1, c2, c3, c4, c5, c6⟩ := c7_of L0.out.box.cat
  go_enter Try.func11, Try.ntmps11
  go_wp2_with fail
  refine HF.out.mono ?_
  rintro e w2 ⟨hb2, hcase⟩
  have L2 := Lib.hid (L0.out.up hb2)
  clear c0 c1 c2 c3 c4 c5 c6 HF hb2
  rcases hcase with ⟨h0, rfl⟩ | ⟨h0, x, P, kg, n, y, p, cs, rfl, hfa⟩
  · have HE : Hid (puE id ax b t = fdE id ax t) := Lib.hid (if_neg h0)
    have H0 := Lib.hid h0
    have b1 : (fdE id ax t == 0) = false := by simpa using h0
    have b2 : (fdE id ax t != 0) = true := by simpa using h0
    clear h0
    generalize fdE id ax t = E at *
    have L3 := Lib.hid (L2.out.up ((Below.refl _ _).alloc (Nat.le_refl _) (fmbox noFm)))
    obtain ⟨⟨z0, z1, z2, z3, z4, z5, z6⟩, g0, g1, g2, g3, g4, g5, g6⟩ := zero_parts L3.out.zero
    go_wp2
    (try simp only [Exit.inBlock, Exit.then])
    refine bodyPost_ret (results_k3 rfl _ _ (w.heap.size + 1) noC rfl ((Box7.of_zero L3.out.zero).put noC)) rfl ?_
    exact pu_err HE.out H0.out (below_put7 L3.out.below (by omega) noC)
  · obtain ⟨hax, -, p1, n1, y1, k1, P1, -, -, -, -, -, e4, -, -, -, hal, hty, hsy⟩ := frame_is HM.out h0
    rw [hfa.is] at e4
    have e5 := (Prod.mk.inj e4).1
    subst e5
    obtain ⟨-, hS, -⟩ := pu_start hax hsy hty hal
    obtain ⟨hrm, hinv⟩ := frame_rm hax hsy hty hal
    have hpq := psh_is (b := b) HM.out h0 hfa.found hfa.fr hfa.at' hfa.is hfa.lt
    have hlen : y.kids.length ≤ 990 := by have := sz_node y; have := szL_len y.kids; omega
    have BA : Below w2.heap.size w2 (w2.alloc (fmbox x)) := (Below.refl _ _).alloc (Nat.le_refl _) _
    have L3 := Lib.hid (L2.out.up BA)
    have F3 := Lib.hid (BoxF.new w2 x)
    have HKB : Hid (w.heap.size + 2 ≤ kg ∧ kg < w2.heap.size) := Lib.hid (by
      have h1 := hfa.kids.ge
      have h2 := hfa.kids.lt
      rw [cellW_size] at h1
      exact ⟨h1, h2⟩)
    have HPU : Hid (Calls Try.prog 23 #[fmval x, .int .i64 b] (w2.alloc (fmbox x)) (PsSays (cellW w c).heap.size kg y.kids.length x.c.cap (puN id ax b t) (pshL y.r.x y.r.y ax P y.kids.length b y.kids).1 (w2.alloc (fmbox x)))) := Lib.hid (by
      have h := push_any x (cellW w c).heap.size kg x.c.cap P (szL y.kids) b (szA y.r ax) (szA y.r (3 - ax)) cs y.kids (w2.alloc (fmbox x)) (by rw [hfa.n']; exact hfa.kids.up BA) hfa.a rfl hfa.place (by rw [hfa.n']; exact hfa.lt) (by rw [hfa.n']; omega) hfa.fine (by rw [hfa.axis]; exact hax) (by rw [hfa.axis, hfa.n']; exact hinv) (by rw [hfa.axis, ← hfa.head.2.1]; exact hrm) hS HB.out (by have := L3.out.below.size; have := HKB.out; have := hfa.kids.ge; simp at *; omega)
      rw [hfa.axis, hfa.n', ← hfa.head.2.1, hpq.1] at h
      exact h)
    have HPT := Lib.hid hpq.2
    have H0 := Lib.hid h0
    have HFA := Lib.hid hfa
    clear hfa hpq h0 hrm hinv e4 hS BA
    obtain ⟨⟨dk, dr, did, da, dn, dcap⟩, xax, xpa, xpn, xpcap, xp⟩ := x
    have hda := HFA.out.a
    have hdn := HFA.out.n'
    simp only at hda hdn
    subst hda hdn
    go_upto_region 2 with (fail)
    change Code.wp _ _ _ _ (w2.alloc (fmbox ⟨⟨dk, dr, did, some ⟨kg, 0, none⟩, y.kids.length, dcap⟩, xax, xpa, xpn, xpcap, xp⟩))
    have M23 : Hid (Mv kg w2 (w2.alloc (fmbox ⟨⟨dk, dr, did, some ⟨kg, 0, none⟩, y.kids.length, dcap⟩, xax, xpa, xpn, xpcap, xp⟩))) := Lib.hid (Mv.of ((Below.refl _ _).alloc (Nat.le_refl _) _))
    generalize w2.alloc (fmbox ⟨⟨dk, dr, did, some ⟨kg, 0, none⟩, y.kids.length, dcap⟩, xax, xpa, xpn, xpcap, xp⟩) = w3 at L3 F3 HPU M23 ⊢
    obtain ⟨a0, a1, a2, a3, a4, a5, a6, a7, a8, a9⟩ := F3.out.parts
    go_wp2_with fail
    refine HPU.out.mono ?_
    rintro e w4 ⟨rfl, hm4, cs4, hp4⟩
    have L4 := Lib.hid (ast_mv L3.out hm4 HKB.out.1)
    have F4 := Lib.hid (F3.out.mv hm4 (by have := HKB.out; omega))
    have PT4 := Lib.hid (HFA.out.path_mv (M23.out.trans hm4))
    have hhd := HFA.out.head
    simp only at hhd
    have HDF := Lib.hid HFA.out.fine
    have IS4 : Hid (Is w4 ⟨dk, dr, did, some ⟨kg, 0, none⟩, y.kids.length, dcap⟩ (.node y.k y.r y.id (pshL y.r.x y.r.y ax P y.kids.length b y.kids).1)) := Lib.hid (by
      rw [hhd.1, hhd.2.1, hhd.2.2]
      rw [hhd.2.1] at hp4
      exact hp4.is HDF.out.1 HDF.out.2.1 HDF.out.2.2.1 (by omega))
    have HW4 : Hid (w.heap.size + 2 ≤ w4.heap.size ∧ w2.heap.size < w4.heap.size) := Lib.hid ⟨by have := lt_of_block L4.out.zero; omega, lt_of_block F4.out⟩
    have HLP : Hid (p.length ≤ 1000000) := Lib.hid (by have := findT_len id p t HFA.out.found; have := HM.out; omega)
    clear hm4 hp4 a0 a1 a2 a3 a4 a5 a6 a7 a8 a9 HPU M23 F3 L3 L2
    obtain ⟨NN, hNN⟩ : ∃ NN, puN id ax b t = NN := ⟨_, rfl⟩
    have HNN := Lib.hid hNN
    rw [hNN]
    clear hNN
    by_cases hz : b ≠ 0 ∧ NN = 0
    · obtain ⟨hz1, hz2⟩ := hz
      subst hz2
      have b4 : (b == 0) = false := by rw [beq_eq_false_iff_ne]; exact hz1
      have b5 : (b != 0) = true := by rw [bne, b4]; rfl
      have b6 : ((0 : Int) == 0) = true := rfl
      have HE := Lib.hid (pu_space H0.out HNN.out hz1)
      obtain ⟨⟨z0, z1, z2, z3, z4, z5, z6⟩, g0, g1, g2, g3, g4, g5, g6⟩ := zero_parts L4.out.zero
      go_wp2
      (try simp only [Exit.inBlock, Exit.then])
      refine bodyPost_ret (results_k3 rfl _ _ (w.heap.size + 1) noC rfl ((Box7.of_zero L4.out.zero).put noC)) rfl ?_
      exact pu_err HE.out (by decide) (below_put7 L4.out.below (by omega) noC)
    · have hor : NN ≠ 0 ∨ b = 0 := by
        by_cases h1 : b = 0
        · exact .inr h1
        · exact .inl fun h2 => hz ⟨h1, h2⟩
      have HE := Lib.hid (pu_done H0.out (by rw [HNN.out]; exact hor))
      obtain ⟨PT, hPT⟩ : ∃ PT, puT id ax b t = PT := ⟨_, rfl⟩
      have HPT2 := Lib.hid hPT
      rw [hPT] at HPT
      have hrr : y.r = dr := hhd.2.1
      have HSETA := HDF.out.2.1
      simp only at HSETA
      generalize hT9 : (T.node y.k y.r y.id (pshL y.r.x y.r.y ax P y.kids.length b y.kids).1) = T9 at IS4 HPT
      rw [hrr] at HPT
      have HSET := Lib.hid (fun (W : World) (hb : Below w4.heap.size w4 W) => set_any (sz T9) T9 _ dr.x dr.y W (Nat.le_refl _) HSETA.1 HSETA.2.1 (IS4.out.up hb))
      have HPUT : Hid (∀ (d5 : C) (W : World), Below w4.heap.size w4 W → Is W d5 (setT dr.x dr.y T9) → Calls Try.prog 24 #[cval c, cval d5, .slice xpa xpn xpcap] W fun e w' => ∃ z, e = .returned (.tuple #[cval z, .bool true]) ∧ Stands (fun _ => True) w' W.heap.size w'.heap.size z PT ∧ Below W.heap.size W w') := Lib.hid fun d5 W hb hI => by
        refine (putS_any t (setT dr.x dr.y T9) c d5 (.slice xpa xpn xpcap) (p.take n) W ((L4.out.is HI.out).up hb) hI (PT4.out.1.up hb) (by rw [List.length_take]; have := HLP.out; omega)).mono ?_
        rintro e w' ⟨z, rfl, hst, hb'⟩
        rw [HPT.out] at hst ⊢
        exact ⟨z, rfl, fun W' _ hW => hst W' hW, hb'⟩
      have HX1 : Hid (∀ W, Below w4.heap.size w4 W → C7 w.heap.size c W ∧ (W.cell? ⟨w2.heap.size, 0, none⟩ = some (.int .u8 dk) ∧ W.cell? ⟨w2.heap.size, 1, none⟩ = some (.int .i64 dr.x) ∧ W.cell? ⟨w2.heap.size, 2, none⟩ = some (.int .i64 dr.y) ∧ W.cell? ⟨w2.heap.size, 3, none⟩ = some (.int .i64 dr.w) ∧ W.cell? ⟨w2.heap.size, 4, none⟩ = some (.int .i64 dr.h) ∧ W.cell? ⟨w2.heap.size, 5, none⟩ = some (.int .i64 did) ∧ W.cell? ⟨w2.heap.size, 6, none⟩ = some (.slice (some ⟨kg, 0, none⟩) y.kids.length dcap) ∧ W.cell? ⟨w2.heap.size, 8, none⟩ = some (.slice xpa xpn xpcap))) := Lib.hid fun W hb => by
        obtain ⟨a0, a1, a2, a3, a4, a5, a6, a7, a8, a9⟩ := (F4.out.up hb).parts
        exact ⟨c7_of (L4.out.box.up hb).cat, a0, a1, a2, a3, a4, a5, a6, a8⟩
      have D0 : Hid (Below w4.heap.size w4 w4.drew) := Lib.hid (Below.refl _ _).drew
      have Dz : Hid (Below w4.heap.size w4 (w4.alloc zeroBox).drew) := Lib.hid (bl_al (Below.refl _ _) _).drew
      have Dy : Hid (Below w4.heap.size w4 (w4.drew.alloc zeroBox)) := Lib.hid (bl_al D0.out _)
      have ZZ : Hid (ZL w4 (w4.alloc zeroBox).drew w4.heap.size) := Lib.hid (zl_drew (Below.refl _ _))
      have ZY : Hid (ZL w4 (w4.drew.alloc zeroBox) w4.drew.heap.size) := Lib.hid (zl_new D0.out)
      have b0 : (b = 0 ∧ (b == 0) = true ∧ (b != 0) = false) ∨ ((b == 0) = false ∧ (b != 0) = true ∧ (NN == 0) = false) := by
        by_cases h1 : b = 0
        · exact .inl ⟨h1, by simpa using h1, by simpa using h1⟩
        · exact .inr ⟨by simpa using h1, by simpa using h1, by rw [beq_eq_false_iff_ne]; exact hor.resolve_right h1⟩
      clear hz hor hPT hrr HSETA hT9 hhd HPT IS4 PT4
      rcases b0 with ⟨e0, b4, b5⟩ | ⟨b4, b5, b6⟩
      all_goals
        go_wp2_with fail
        go_region_held3 (fun W => (W.cell? ⟨w.heap.size, 0, none⟩ = some (.int .u8 c.k) ∧ W.cell? ⟨w.heap.size, 1, none⟩ = some (.int .i64 c.r.x) ∧ W.cell? ⟨w.heap.size, 2, none⟩ = some (.int .i64 c.r.y) ∧ W.cell? ⟨w.heap.size, 3, none⟩ = some (.int .i64 c.r.w) ∧ W.cell? ⟨w.heap.size, 4, none⟩ = some (.int .i64 c.r.h) ∧ W.cell? ⟨w.heap.size, 5, none⟩ = some (.int .i64 c.id) ∧ W.cell? ⟨w.heap.size, 6, none⟩ = some (.slice c.a c.n c.cap)) ∧ (W.cell? ⟨w2.heap.size, 0, none⟩ = some (.int .u8 dk) ∧ W.cell? ⟨w2.heap.size, 1, none⟩ = some (.int .i64 dr.x) ∧ W.cell? ⟨w2.heap.size, 2, none⟩ = some (.int .i64 dr.y) ∧ W.cell? ⟨w2.heap.size, 3, none⟩ = some (.int .i64 dr.w) ∧ W.cell? ⟨w2.heap.size, 4, none⟩ = some (.int .i64 dr.h) ∧ W.cell? ⟨w2.heap.size, 5, none⟩ = some (.int .i64 did) ∧ W.cell? ⟨w2.heap.size, 6, none⟩ = some (.slice (some ⟨kg, 0, none⟩) y.kids.length dcap) ∧ W.cell? ⟨w2.heap.size, 8, none⟩ = some (.slice xpa xpn xpcap))) (exact HX1.out _ (by first | with_reducible exact D0.out | with_reducible exact Dz.out | with_reducible exact Dy.out | with_reducible exact L5.out | with_reducible exact bl_al L5.out _ | with_reducible exact L6.out | with_reducible exact bl_al L6.out _ | with_reducible exact P6.out))
          (first
            | (go_at_call 25; (with_reducible refine (HSET.out _ (by first | with_reducible exact D0.out | with_reducible exact Dz.out | with_reducible exact Dy.out)).mono ?_); rintro e w5 ⟨d5, S5, rfl, hown5, -, hb5⟩; have L5 := Lib.hid (bl_up (by first | with_reducible exact D0.out | with_reducible exact Dz.out | with_reducible exact Dy.out) hb5); have I5 := Lib.hid hown5.is; (first | with_reducible have Z5 := Lib.hid (ZZ.out.up hb5) | with_reducible have Z5 := Lib.hid (ZY.out.up hb5) | have N5 := Lib.hid True.intro); clear hown5 hb5)
            | (go_at_call 24; (with_reducible refine (HPUT.out d5 _ (by first | with_reducible exact L5.out | with_reducible exact bl_al L5.out _) (by first | with_reducible exact I5.out | with_reducible exact is_al I5.out _)).mono ?_); rintro e w6 ⟨z9, rfl, hst6, hb6⟩; have L6 := Lib.hid (bl_up (by first | with_reducible exact L5.out | with_reducible exact bl_al L5.out _) hb6); have ST6 := Lib.hid hst6; (first | ((with_reducible have Z6 := Lib.hid (Z5.out.up hb6)); have ZM := Lib.hid Z5.out; have P6 := Lib.hid (below_put7 L6.out Z6.out.2 z9); obtain ⟨⟨z0, z1, z2, z3, z4, z5, z6⟩, f0, f1, f2, f3, f4, f5, f6⟩ := zero_parts Z6.out.1) | ((with_reducible have Z6 := Lib.hid ((zl_new L5.out).up hb6)); have ZM := Lib.hid (zl_new L5.out); have P6 := Lib.hid (below_put7 L6.out Z6.out.2 z9); obtain ⟨⟨z0, z1, z2, z3, z4, z5, z6⟩, f0, f1, f2, f3, f4, f5, f6⟩ := zero_parts Z6.out.1) | (have HL5 := Lib.hid L5.out.size; have N6 := Lib.hid True.intro)); clear hst6 hb6))
      all_goals (rename_i hh9; clear hh9)
      all_goals first
        | (have K0 := Lib.hid (kz_put L6.out Z6.out ZM.out ST6.out); change Exit.then _ _ _ _ (put7 w6 _ z9); generalize put7 w6 _ z9 = w8 at K0 ⊢; (first | ((with_reducible have K : Hid (Kz w4 w4.heap.size z9 PT w8) := K0); clear K0; generalize w4.heap.size = bk at K ⊢) | ((with_reducible have K : Hid (Kz w4 w5.heap.size z9 PT w8) := K0); clear K0; generalize w5.heap.size = bk at K ⊢)))
        | (have K := Lib.hid (kz_new L6.out HL5.out ST6.out); generalize w6.alloc (cbox z9) = w8 at K ⊢; generalize w6.heap.size = bk at K ⊢)
      all_goals (try clear z0 z1 z2 z3 z4 z5 z6 f0 f1 f2 f3 f4 f5 f6)
      all_goals
        have L8 := Lib.hid (L4.out.up K.out.below)
        have FIN : Hid (PuSays id ax b t w (.returned (.tuple #[cval z9, .int .i64 NN, .int .i64 0])) (put7 w8 (w.heap.size + 1) z9)) := Lib.hid (pu_ok HE.out HNN.out HPT2.out (by
          rw [size_put7]
          exact (K.out.st.move (w2 := put7 w8 (w.heap.size + 1) z9) fun m hm _ => heap_put7 (by have := HW4.out; omega)).wide (by have := HW4.out; omega) (Nat.le_refl _)) (below_put7 L8.out.below (by omega) z9))
        obtain ⟨q0, q1, q2, q3, q4, q5, q6⟩ := c7_of K.out.box.cat
        obtain ⟨⟨z0, z1, z2, z3, z4, z5, z6⟩, g0, g1, g2, g3, g4, g5, g6⟩ := zero_parts L8.out.zero
        go_wp2
        (try simp only [Exit.inBlock, Exit.then])
        refine bodyPost_ret (results_k3 rfl _ _ (w.heap.size + 1) z9 rfl ((Box7.of_zero L8.out.zero).put z9)) rfl ?_
        exact FIN.out
end Go.Proofs.Ytodcabaihhmhnaa
/- The document's example, on which the laws look. -/
namespace Go.Proofs.Ytodcabaihhmhnaa
open Go.RowKit Sh

abbrev rA : R := ⟨0, 0, 40, 24⟩
abbrev rB : R := ⟨41, 0, 39, 24⟩
abbrev rC : R := ⟨0, 0, 80, 24⟩
abbrev aT : T := .node 1 rA 1 []
abbrev bT : T := .node 1 rB 2 []
abbrev cT : T := .node 2 rC 0 [aT, bT]
abbrev xT : T := .node 2 rC 0 [.node 1 ⟨0, 0, 45, 24⟩ 1 [], .node 1 ⟨46, 0, 34, 24⟩ 2 []]
abbrev aC : C := ⟨1, rA, 1, none, 0, 0⟩
abbrev bC : C := ⟨1, rB, 2, none, 0, 0⟩
abbrev cC (g : Nat) : C := ⟨2, rC, 0, some ⟨g, 0, none⟩, 2, 2⟩
abbrev pairBox (c d : C) : Obj := .cells #[.int .u8 c.k, .int .i64 c.r.x, .int .i64 c.r.y, .int .i64 c.r.w, .int .i64 c.r.h, .int .i64 c.id, .slice c.a c.n c.cap, .int .u8 d.k, .int .i64 d.r.x, .int .i64 d.r.y, .int .i64 d.r.w, .int .i64 d.r.h, .int .i64 d.id, .slice d.a d.n d.cap] 26

theorem fit_a : fitB aT = true := (fitB_iff _).2 (.inl rfl)
theorem fit_b : fitB bT = true := (fitB_iff _).2 (.inl rfl)
theorem fit_c : fitB cT = true := by
  refine (fitB_iff _).2 (.inr ⟨⟨by decide, .inl ⟨by decide, ⟨fun k m hk hm => ?_, by decide⟩⟩⟩, by decide⟩)
  have hk2 : k < 2 := hk
  match k, hk2 with
  | 0, _ =>
    have : some 40 = some m := hm
    cases this
    decide
  | 1, _ =>
    have : some 39 = some m := hm
    cases this
    decide
theorem pre_c : preT cT = [cT, aT, bT] := by simp [preT, preL]
theorem tile_c : tileB cT = true := by
  unfold tileB; rw [pre_c, show mayT cT = true by decide]; simp [fit_a, fit_b, fit_c]
theorem fitsN (n : Int) (h : -1000 ≤ n ∧ n ≤ 1000) : fits n := ⟨by omega, by omega⟩
theorem a_is (w : World) : Is w aC aT := .mk aC [] [] (.inl ⟨_, _, rfl, rfl⟩) rfl ⟨⟨by decide, by decide⟩, ⟨fitsN _ (by decide), fitsN _ (by decide), fitsN _ (by decide), fitsN _ (by decide)⟩, fitsN _ (by decide), by decide⟩ (fun j x t hx => by simp at hx)
theorem b_is (w : World) : Is w bC bT := .mk bC [] [] (.inl ⟨_, _, rfl, rfl⟩) rfl ⟨⟨by decide, by decide⟩, ⟨fitsN _ (by decide), fitsN _ (by decide), fitsN _ (by decide), fitsN _ (by decide)⟩, fitsN _ (by decide), by decide⟩ (fun j x t hx => by simp at hx)
theorem pair_row (w : World) (c d : C) : CRow (w.alloc (pairBox c d)) (.slice (some ⟨w.heap.size, 0, none⟩) 2 2) [c, d] := by
  refine .inr ⟨w.heap.size, 0, 2, rfl, fun j x hx => ?_⟩
  match j with
  | 0 => simp at hx; subst hx; refine ⟨?_, ?_, ?_, ?_, ?_, ?_, ?_⟩ <;> simp
  | 1 => simp at hx; subst hx; refine ⟨?_, ?_, ?_, ?_, ?_, ?_, ?_⟩ <;> simp
  | j + 2 => simp at hx
theorem pair_trow {w : World} {c d : C} {t u : T} (hc : Is w c t) (hd : Is w d u) : TRow (w.alloc (pairBox c d)) (.slice (some ⟨w.heap.size, 0, none⟩) 2 2) [t, u] := by
  have al : Below w.heap.size w (w.alloc (pairBox c d)) := (Below.refl _ _).alloc (Nat.le_refl _) _
  refine ⟨[c, d], pair_row w c d, rfl, fun j x y hx hy => ?_⟩
  match j with
  | 0 => simp at hx hy; subst hx; subst hy; exact hc.up al
  | 1 => simp at hx hy; subst hx; subst hy; exact hd.up al
  | j + 2 => simp at hx
theorem c_is (w : World) : Is (w.alloc (pairBox aC bC)) (cC w.heap.size) cT := by
  obtain ⟨cs, h1, h2, h3⟩ := pair_trow (a_is w) (b_is w)
  exact .mk (cC w.heap.size) [aT, bT] cs h1 h2 ⟨⟨by simp, by simp⟩, ⟨fitsN _ (by simp), fitsN _ (by simp), fitsN _ (by simp), fitsN _ (by simp)⟩, fitsN _ (by simp), by simp⟩ h3
abbrev awW (w : World) : World := (((w.alloc (cbox aC)).alloc (cbox bC)).alloc (pairBox aC bC)).alloc (cbox (cC (w.heap.size + 2)))
structure AwSt (w W : World) : Prop where
  below : Below w.heap.size w W
  c : CAt W (w.heap.size + 3) 0 (cC (w.heap.size + 2))
  is : Is W (cC (w.heap.size + 2)) cT
theorem awSt (w : World) : AwSt w (awW w) := by
  have al : ∀ (x : World) (o : Obj), Below x.heap.size x (x.alloc o) := fun x o => (Below.refl _ _).alloc (Nat.le_refl _) _
  have e2 : ((w.alloc (cbox aC)).alloc (cbox bC)).heap.size = w.heap.size + 2 := by simp
  have e3 : (((w.alloc (cbox aC)).alloc (cbox bC)).alloc (pairBox aC bC)).heap.size = w.heap.size + 3 := by simp
  have hi := c_is ((w.alloc (cbox aC)).alloc (cbox bC))
  rw [e2] at hi
  have hc := cbox_new (((w.alloc (cbox aC)).alloc (cbox bC)).alloc (pairBox aC bC)) (cC (w.heap.size + 2))
  rw [e3] at hc
  exact ⟨((((Below.refl _ _).alloc (Nat.le_refl _) _).alloc (by simp) _).alloc (by simp; omega) _).alloc (by simp; omega) _, hc, hi.up (al _ _)⟩

/-- The second one is pushed by 5. -/
theorem w_found : findT 2 cT = some [1] := by decide
theorem w_fr : frN 1 cT [1] 1 = some 0 := by decide
theorem w_fd : fdE 2 1 cT = 0 := fd_ok ⟨tile_c, rfl⟩ w_found w_fr
theorem w_frx : frX 2 1 cT = (cT, ((0 : Nat) : Int)) := frx_is (k := 1) w_found w_fr rfl rfl
theorem gv_b : gvT 1 bT = 38 := by unfold gvT; rw [ls_eq]; rfl
theorem rs_leaf (b i : Int) (r : R) : rsT 0 0 1 b (.node 1 r i []) = .node 1 ⟨0, 0, r.w + b, r.h⟩ i [] := by
  unfold rsT; rw [adjT_eq, setT_eq]; rfl
theorem w_psh : pshL 0 0 1 0 2 5 [aT, bT] = ([.node 1 ⟨0, 0, 45, 24⟩ 1 [], .node 1 ⟨0, 0, 34, 24⟩ 2 []], 0) := by
  have e : pshL 0 0 1 0 2 5 [aT, bT] = gvP 0 0 1 0 [1] [aT, bT] 5 := rfl
  have hg : gmN 1 5 1 [aT, bT] = 5 := by
    have h1 : gmN 1 5 1 [aT, bT] = min (gvT 1 bT) 5 := rfl
    rw [h1, gv_b]; rfl
  rw [e, gvP_yes hg (by decide), gvP]
  have h1 : rsL 0 0 1 (-5) 1 [aT, bT] = [aT, rsT 0 0 1 (-5) bT] := rfl
  have h2 : rsL 0 0 1 5 0 [aT, rsT 0 0 1 (-5) bT] = [rsT 0 0 1 5 aT, rsT 0 0 1 (-5) bT] := rfl
  rw [h1, h2, rs_leaf, rs_leaf]
  rfl
theorem w_push : puE 2 1 5 cT = 0 ∧ puN 2 1 5 cT = 5 ∧ puT 2 1 5 cT = xT := by
  obtain ⟨h1, h2⟩ := psh_is (b := 5) (n := 0) (P := 0) (by decide) w_fd w_found w_fr (y := cT) rfl w_frx (by decide)
  have h3 : pshN 0 0 1 0 2 5 [aT, bT] = 5 := by unfold pshN; rw [w_psh]; rfl
  have h4 : puN 2 1 5 cT = 5 := h1.symm.trans h3
  refine ⟨pu_done w_fd (.inl (by rw [h4]; decide)), h4, ?_⟩
  have h5 : putT (setT 0 0 (.node 2 rC 0 (pshL 0 0 1 0 2 5 [aT, bT]).1)) cT [] = some (puT 2 1 5 cT) := h2
  rw [w_psh] at h5
  exact (Option.some.inj h5).symm

theorem callW (d : C) (w : World) (hi : Is w d cT) : Calls Try.prog 11 #[cval d, .int .i64 2, .int .u8 1, .int .i64 5] w fun e w' => ∃ x, e = .returned (.tuple #[cval x, .int .i64 5, .int .i64 0]) ∧ Is w' x xT ∧ Below w.heap.size w w' := by
  refine (ppush_any 2 1 5 cT d w (by decide) hi (fitsN _ (by decide))).mono ?_
  rintro e w' ⟨hb, hor⟩
  rw [w_push.1] at hor
  rcases hor with ⟨h0, -⟩ | ⟨-, x, he, hst⟩
  · exact absurd rfl h0
  · rw [w_push.2.1] at he
    rw [w_push.2.2] at hst
    exact ⟨x, he, hst.is trivial, hb⟩

set_option maxRecDepth 100000 in
set_option maxHeartbeats 1600000 in
theorem awake14_any (w : World) : Calls Try.prog 8 #[] w fun e w' => e = .returned (.bool true) ∧ Below w.heap.size w w' := by
  have S0 := Lib.hid (awSt w)
  go_enter Try.func8, Try.ntmps8
  go_upto_region 4 with (fail)
  change Code.wp _ _ _ _ (awW w)
  generalize awW w = W at S0 ⊢
  obtain ⟨c0, c1, c2, c3, c4, c5, c6⟩ := S0.out.c
  simp only [Nat.zero_add] at c1 c2 c3 c4 c5 c6
  go_wp2_with fail
  refine (callW _ W S0.out.is).mono ?_
  rintro e w2 ⟨x, rfl, hx, hb2⟩
  have A2 : Below w2.heap.size w2 (w2.alloc (cbox x)) := (Below.refl _ _).alloc (Nat.le_refl _) _
  have B2 := Lib.hid (bl_up (bl_up S0.out.below hb2) A2)
  have X2 := Lib.hid (hx.up A2)
  have Y2 := Lib.hid (Box7.new w2 x)
  clear hb2 hx A2 c0 c1 c2 c3 c4 c5 c6
  have hn := X2.out.n
  obtain ⟨gb, go, hga, hgf⟩ := X2.out.row.place (by show 0 < 2; omega)
  obtain ⟨k0, hk0, hi0⟩ := hgf 0 _ rfl
  obtain ⟨k1, hk1, hi1⟩ := hgf 1 _ rfl
  have r0 : k0.r.w = 45 := by have := hi0.split.2.1; rw [← this]; rfl
  have r1 : k1.r.w = 34 := by have := hi1.split.2.1; rw [← this]; rfl
  have x0 := hk0.2.2.2.1
  have x1 := hk1.2.2.2.1
  rw [r0] at x0
  rw [r1] at x1
  simp only [Nat.zero_mul, Nat.one_mul, Nat.add_zero] at x0 x1
  obtain ⟨xk, xr, xid, xa, xn, xcap⟩ := x
  simp only at hn hga
  subst hga hn
  clear hk0 hk1 hi0 hi1 hgf r0 r1
  have b1 : ((0 : Int) == 0) = true := rfl
  have b2 : ((5 : Int) == 5) = true := rfl
  have b3 : ((45 : Int) == 45) = true := rfl
  have b4 : ((34 : Int) == 34) = true := rfl
  have q6 := (c7_of Y2.out.cat).2.2.2.2.2.2
  go_wp2
  go_ret
  exact ⟨rfl, B2.out⟩
end Go.Proofs.Ytodcabaihhmhnaa
