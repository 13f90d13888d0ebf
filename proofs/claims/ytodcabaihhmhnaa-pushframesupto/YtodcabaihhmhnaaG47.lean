/- Texts of this seat, 3 in one file. -/
import Derived.Test.YtodcabaihhmhnaaG46
import Derived.Test.YtodcabaihhmhnaaG45
/- A law over one tree: its box. What push answers, in one form. No walk. -/
namespace Go.Proofs.Ytodcabaihhmhnaa
open Go.RowKit Sh

structure QSt (w : World) (c : C) (W : World) : Prop where
  below : Below w.heap.size w W
  cat : CAt W w.heap.size 0 c
theorem QSt.up {w : World} {c : C} {W W' : World} (h : QSt w c W) (hb : Below W.heap.size W W') : QSt w c W' := ⟨h.below.trans (hb.mono h.below.size), h.cat.up hb⟩
theorem QSt.c7 {w : World} {c : C} {W : World} (h : QSt w c W) : C7 w.heap.size c W := c7_of h.cat
theorem QSt.new (w : World) (c : C) : QSt w c (w.alloc (cbox c)) := ⟨(Below.refl _ _).alloc (Nat.le_refl _) _, cbox_new w c⟩

noncomputable def puM (id ax b : Int) (t : T) : Int := if puE id ax b t = 0 then puN id ax b t else 0
noncomputable def puU (id ax b : Int) (t : T) : T := if puE id ax b t = 0 then puT id ax b t else noT
/-- What push answers, errors too. -/
theorem pu_all {id ax b : Int} {t : T} {w : World} {e : Ending} {w' : World} (h : PuSays id ax b t w e w') : ∃ d, e = .returned (.tuple #[cval d, .int .i64 (puM id ax b t), .int .i64 (puE id ax b t)]) ∧ Is w' d (puU id ax b t) ∧ Below w.heap.size w w' := by
  obtain ⟨hb, h⟩ := h
  unfold puM puU
  rcases h with ⟨h0, rfl⟩ | ⟨h0, d, rfl, hs⟩
  · rw [if_neg h0, if_neg h0]; exact ⟨noC, rfl, no_is _, hb⟩
  · rw [if_pos h0, if_pos h0, h0]; exact ⟨d, rfl, hs.is trivial, hb⟩
end Go.Proofs.Ytodcabaihhmhnaa
/- By how much a cell can be pushed: the program's gives, and its Can. -/
namespace Go.Proofs.Ytodcabaihhmhnaa
open Go.RowKit Sh

noncomputable def sumG (ax : Int) (ks : List T) (l : List Nat) : Int := (l.map fun k => gvT ax (ks.getD k default)).sum
theorem sumG_append {ax : Int} {ks : List T} (a b : List Nat) : sumG ax ks (a ++ b) = sumG ax ks a + sumG ax ks b := by unfold sumG; rw [List.map_append, List.sum_append]
theorem sumG_cons {ax : Int} {ks : List T} (k : Nat) (b : List Nat) : sumG ax ks (k :: b) = gvT ax (ks.getD k default) + sumG ax ks b := by unfold sumG; rw [List.map_cons, List.sum_cons]
theorem sumG_step {ax : Int} {ks : List T} {l : List Nat} {j k : Nat} (h : l[j]? = some k) : sumG ax ks (l.take (j + 1)) = sumG ax ks (l.take j) + gvT ax (ks.getD k default) := by
  rw [take_snoc h, sumG_append, sumG_cons]; unfold sumG; simp
theorem sumG_bounds {ax : Int} {ks : List T} : ∀ {l : List Nat}, (∀ k ∈ l, 0 ≤ gvT ax (ks.getD k default) ∧ gvT ax (ks.getD k default) ≤ 10000) → 0 ≤ sumG ax ks l ∧ sumG ax ks l ≤ 10000 * (l.length : Int)
  | [], _ => by unfold sumG; simp
  | k :: l, h => by
    have h1 := h k (List.mem_cons_self ..)
    have h2 := sumG_bounds (l := l) fun j hj => h j (List.mem_cons_of_mem _ hj)
    rw [sumG_cons, List.length_cons]
    omega
theorem sm_dn {ax : Int} {ks : List T} {P : Nat} {s : Int → Bool} (hs : ∀ n : Nat, n < P → s n = true) : ∀ {n : Nat}, n ≤ P → n ≤ ks.length → smN ax s ks n = sumG ax ks (dnL n)
  | 0, _, _ => rfl
  | n + 1, h, hl => by
    obtain ⟨u, hu⟩ : ∃ u, ks[n]? = some u := ⟨_, List.getElem?_eq_getElem (by omega)⟩
    rw [sm_yes hu (hs n (by omega)), sm_dn hs (by omega) (by omega), dnL, sumG_cons, getD_at hu]; omega
theorem sm_stay {ax : Int} {ks : List T} {P : Nat} {s : Int → Bool} (hs : ∀ n : Nat, P ≤ n → s n = false) : ∀ m : Nat, smN ax s ks (P + m) = smN ax s ks P
  | 0 => rfl
  | m + 1 => by rw [show P + (m + 1) = (P + m) + 1 by omega, sm_no (hs (P + m) (by omega)), sm_stay hs m]
theorem sm_go {ax : Int} {ks : List T} {P : Nat} {s : Int → Bool} (hs : ∀ n : Nat, P ≤ n → s n = true) : ∀ m : Nat, P + m ≤ ks.length → smN ax s ks (P + m) = smN ax s ks P + sumG ax ks (List.range' P m)
  | 0, _ => by unfold sumG; simp
  | m + 1, h => by
    obtain ⟨u, hu⟩ : ∃ u, ks[P + m]? = some u := ⟨_, List.getElem?_eq_getElem (by omega)⟩
    rw [show P + (m + 1) = (P + m) + 1 by omega, sm_yes hu (hs _ (by omega)), sm_go hs m (by omega), List.range'_1_concat, sumG_append, sumG_cons, getD_at hu]
    unfold sumG; simp; omega
theorem can_sum {id ax : Int} {t y : T} {P : Nat} (h : fdE id ax t = 0) (hx : frX id ax t = (y, (P : Int))) (hP : P + 1 < y.kids.length) : canU id ax t = sumG ax y.kids (ordL P y.kids.length true) ∧ canD id ax t = sumG ax y.kids (ordL P y.kids.length false) := by
  obtain ⟨h1, h2⟩ := can_is h hx
  constructor
  · have a1 : ∀ n : Nat, n < P → askU P n = true := fun n hn => by
      unfold askU
      have : ((n : Int) == (P : Int)) = false := by rw [beq_eq_false_iff_ne]; omega
      rw [this]; rfl
    have a2 : askU P P = false := by unfold askU; simp
    have a3 : ∀ n : Nat, P + 1 ≤ n → askU P n = true := fun n hn => by
      unfold askU
      have : ((n : Int) == (P : Int)) = false := by rw [beq_eq_false_iff_ne]; omega
      rw [this]; rfl
    have e : ordL P y.kids.length true = List.range' (P + 1) (y.kids.length - (P + 1)) ++ dnL P := if_pos rfl
    have g := sm_go (ax := ax) (ks := y.kids) a3 (y.kids.length - (P + 1)) (by omega)
    rw [show P + 1 + (y.kids.length - (P + 1)) = y.kids.length by omega, sm_no a2, sm_dn a1 (Nat.le_refl _) (by omega)] at g
    rw [h1, e, sumG_append, g]; omega
  · have a1 : ∀ n : Nat, n < P + 1 → askD P n = true := fun n hn => by unfold askD; exact decide_eq_true (by omega)
    have a3 : ∀ n : Nat, P + 1 ≤ n → askD P n = false := fun n hn => by unfold askD; exact decide_eq_false (by omega)
    have e : ordL P y.kids.length false = dnL (P + 1) := if_neg (by decide)
    have g := sm_stay (ax := ax) (ks := y.kids) a3 (y.kids.length - (P + 1))
    rw [show P + 1 + (y.kids.length - (P + 1)) = y.kids.length by omega, sm_dn a1 (Nat.le_refl _) (by omega)] at g
    rw [h2, e, g]

set_option maxHeartbeats 2000000 in
set_option maxRecDepth 100000 in
theorem gives_any (x : Fm) (base kg cap : Nat) (gl : List Nat) (ga : Option Addr) (gcap : Nat) (cs : List C) (l : List T) (w : World) (hk : PK base kg x.c.n cap cs l w) (hxa : x.c.a = some ⟨kg, 0, none⟩) (hax : x.ax = 1 ∨ x.ax = 2) (hL : x.c.n ≤ 1000)
    (ht : ∀ (j : Nat) (u : T), l[j]? = some u → tileB u = true ∧ sz u ≤ 990) (hgl : ∀ k ∈ gl, k < x.c.n) (hgn : gl.length ≤ 1000) (hrow : Row w (.slice ga gl.length gcap) (ints (natL gl))) :
    Calls Try.prog 21 #[fmval x, .slice ga gl.length gcap] w fun e w' => e = .returned (.int .i64 (sumG x.ax l gl)) ∧ Below w.heap.size w w' := by
  obtain ⟨⟨fk, fr, fid, fa, fn, fcap⟩, ax, pa, pn, pcap, p⟩ := x
  simp only at hxa hk hax hL hgl
  subst hxa
  have B1 : Below w.heap.size w (w.alloc (fmbox ⟨⟨fk, fr, fid, some ⟨kg, 0, none⟩, fn, fcap⟩, ax, pa, pn, pcap, p⟩)) := (Below.refl _ _).alloc (Nat.le_refl _) _
  have P1 := Lib.hid (hk.up B1)
  have F1 := Lib.hid (BoxF.new w ⟨⟨fk, fr, fid, some ⟨kg, 0, none⟩, fn, fcap⟩, ax, pa, pn, pcap, p⟩)
  have BB := Lib.hid B1
  have HAX := Lib.hid hax
  have HGL := Lib.hid hgl
  have HTS := Lib.hid ht
  have HR := Lib.hid (hrow.up B1)
  clear hk hax hgl B1 hrow ht
  go_enter Try.func21, Try.ntmps21
  go_upto_region 1 with (fail)
  change Code.wp _ _ _ _ (w.alloc (fmbox ⟨⟨fk, fr, fid, some ⟨kg, 0, none⟩, fn, fcap⟩, ax, pa, pn, pcap, p⟩))
  generalize w.alloc (fmbox ⟨⟨fk, fr, fid, some ⟨kg, 0, none⟩, fn, fcap⟩, ax, pa, pn, pcap, p⟩) = w2 at P1 F1 BB HR ⊢
  go_wp2
  go_loopg [5, 10] (gl.length + 1) (fun g s i wr => ∃ j : Nat, g + j = gl.length + 1 ∧ j ≤ gl.length ∧ i = .int .i64 j ∧ s = .int .i64 (sumG ax l (gl.take j)) ∧ Below w2.heap.size w2 wr)
  case atStart => exact ⟨0, by omega, by omega, rfl, rfl, Below.refl _ _⟩
  case round =>
    obtain ⟨j, hg, hj, rfl, rfl, hb⟩ := hrel
    have HG := Lib.hid hg
    have HB := Lib.hid hb
    clear hg hb
    by_cases hlt : j < gl.length
    · have hlti : (j : Int) < (gl.length : Int) := by omega
      obtain ⟨k, hk⟩ : ∃ k, gl[j]? = some k := ⟨_, List.getElem?_eq_getElem hlt⟩
      obtain ⟨gb, go, rfl, hf⟩ := int_at HR.out (by rw [natL_len]; omega)
      have hc := hf j (k : Int) (by unfold natL; rw [List.getElem?_map, hk]; rfl)
      have p0 := (HB.out.cell (lt_of_cell hc)).trans hc
      have hkq := HGL.out k (List.mem_of_getElem? hk)
      have hll := P1.out.ll
      have hcl := P1.out.len
      obtain ⟨u, hu⟩ : ∃ u, l[k]? = some u := ⟨_, List.getElem?_eq_getElem (by omega)⟩
      obtain ⟨uc, huc⟩ : ∃ y, cs[k]? = some y := ⟨_, List.getElem?_eq_getElem (by omega)⟩
      have hki : (k : Int) < (fn : Int) := by omega
      have hki0 : (0 : Int) ≤ (k : Int) := by omega
      have hus := HTS.out k u hu
      have hub := gv_bounds HAX.out (by omega) hus.1
      have hst := sumG_step (ax := ax) (ks := l) hk
      rw [getD_at hu] at hst
      have hbd := sumG_bounds (ax := ax) (ks := l) (l := gl.take j) fun k' hk' => by
        have h1 := HGL.out k' (List.mem_of_mem_take hk')
        obtain ⟨u', hu'⟩ : ∃ u, l[k']? = some u := ⟨_, List.getElem?_eq_getElem (by omega)⟩
        rw [getD_at hu']
        have h2 := HTS.out k' u' hu'
        exact gv_bounds HAX.out (by omega) h2.1
      have hln : (gl.take j).length ≤ 1000 := by rw [List.length_take]; omega
      have HST := Lib.hid hst
      have HGI := Lib.hid (fun (W : World) (h : Below wr.heap.size wr W) => giv_any u uc ax W ((((P1.out.up HB.out).each k uc u huc hu).is).up h) (fun _ => by omega))
      rw [gi_yes hus.1 ((axB_iff ax).2 HAX.out)] at HGI
      have HX : Hid (∀ W, Below wr.heap.size wr W → (W.cell? ⟨w.heap.size, 6, none⟩ = some (.slice (some ⟨kg, 0, none⟩) fn fcap) ∧ W.cell? ⟨w.heap.size, 7, none⟩ = some (.int .u8 ax)) ∧ W.cell? ⟨kg, k * 7, none⟩ = some (.int .u8 uc.k) ∧ W.cell? ⟨kg, k * 7 + 1, none⟩ = some (.int .i64 uc.r.x) ∧ W.cell? ⟨kg, k * 7 + 2, none⟩ = some (.int .i64 uc.r.y) ∧ W.cell? ⟨kg, k * 7 + 3, none⟩ = some (.int .i64 uc.r.w) ∧ W.cell? ⟨kg, k * 7 + 4, none⟩ = some (.int .i64 uc.r.h) ∧ W.cell? ⟨kg, k * 7 + 5, none⟩ = some (.int .i64 uc.id) ∧ W.cell? ⟨kg, k * 7 + 6, none⟩ = some (.slice uc.a uc.n uc.cap)) := Lib.hid fun W hb => by
        obtain ⟨-, -, -, -, -, -, a6, a7, -, -⟩ := ((F1.out.up HB.out).up hb).parts
        obtain ⟨q0, q1, q2, q3, q4, q5, q6⟩ := ((P1.out.up HB.out).up hb).cell huc
        exact ⟨⟨a6, a7⟩, q0, q1, q2, q3, q4, q5, q6⟩
      have D0 : Hid (Below wr.heap.size wr wr.drew) := Lib.hid (Below.refl _ _).drew
      generalize sumG ax l (gl.take j) = s at hbd HST
      have hww : IntKind.i64.wrap (s + gvT ax u) = s + gvT ax u := wrap_id (by omega)
      clear hf hc hk hu huc hus hst
      go_wp2_with fail
      go_region_held3 (fun W => (W.cell? ⟨w.heap.size, 6, none⟩ = some (.slice (some ⟨kg, 0, none⟩) fn fcap) ∧ W.cell? ⟨w.heap.size, 7, none⟩ = some (.int .u8 ax)) ∧ W.cell? ⟨kg, k * 7, none⟩ = some (.int .u8 uc.k) ∧ W.cell? ⟨kg, k * 7 + 1, none⟩ = some (.int .i64 uc.r.x) ∧ W.cell? ⟨kg, k * 7 + 2, none⟩ = some (.int .i64 uc.r.y) ∧ W.cell? ⟨kg, k * 7 + 3, none⟩ = some (.int .i64 uc.r.w) ∧ W.cell? ⟨kg, k * 7 + 4, none⟩ = some (.int .i64 uc.r.h) ∧ W.cell? ⟨kg, k * 7 + 5, none⟩ = some (.int .i64 uc.id) ∧ W.cell? ⟨kg, k * 7 + 6, none⟩ = some (.slice uc.a uc.n uc.cap)) (exact HX.out _ (by first | with_reducible exact D0.out | with_reducible exact L4.out))
        (first
          | (go_at_call 38; (with_reducible refine (HGI.out _ D0.out).mono ?_); rintro e w4 ⟨rfl, hb4⟩; have L4 := Lib.hid (bl_up D0.out hb4); clear hb4))
      rename_i hh9
      clear hh9
      have B4 := Lib.hid (HB.out.trans (L4.out.mono HB.out.size))
      clear HX D0 HGI
      go_wp2
      go_roundg (gk - 1)
      case measure => have := HG.out; omega
      case rel => exact ⟨j + 1, by have := HG.out; omega, by omega, by go_num, by rw [HST.out], B4.out⟩
    · obtain rfl : j = gl.length := by omega
      have hjl : ((gl.length : Int) < (gl.length : Int)) = False := by simp
      have HE : Hid (sumG ax l (gl.take gl.length) = sumG ax l gl) := Lib.hid (by rw [List.take_length])
      go_wp2
      go_ret
      exact ⟨by rw [← HE.out]; rfl, BB.out.trans (HB.out.mono BB.out.size)⟩
end Go.Proofs.Ytodcabaihhmhnaa
/- By how much a leaf's cell can be pushed: the program's Can. -/
namespace Go.Proofs.Ytodcabaihhmhnaa
open Go.RowKit Sh

set_option maxHeartbeats 2000000 in
set_option maxRecDepth 100000 in
theorem ppcan_any (id ax : Int) (t : T) (c : C) (w : World) (hm : sz t ≤ 990) (hi : Is w c t) : Calls Try.prog 9 #[cval c, .int .i64 id, .int .u8 ax] w fun e w' => e = .returned (.tuple #[.int .i64 (canU id ax t), .int .i64 (canD id ax t)]) ∧ Below w.heap.size w w' := by
  have B0 : Hid (Below w.heap.size w (w.alloc (cbox c))) := Lib.hid ((Below.refl _ _).alloc (Nat.le_refl _) _)
  have X0 := Lib.hid (Box7.new w c)
  have HF := Lib.hid (pfrm_any id ax t c (w.alloc (cbox c)) hm (hi.up B0.out))
  have HM := Lib.hid hm
  clear hi hm
  obtain ⟨c0, c1, c2, c3, c4, c5, c6⟩ := c7_of X0.out.cat
  go_enter Try.func9, Try.ntmps9
  go_wp2_with fail
  refine HF.out.mono ?_
  rintro e w2 ⟨hb2, hcase⟩
  have B2 := Lib.hid (bl_up B0.out hb2)
  clear c0 c1 c2 c3 c4 c5 c6 HF hb2
  rcases hcase with ⟨h0, rfl⟩ | ⟨h0, x, P, kg, n, y, p, cs, rfl, hfa⟩
  · have HC := Lib.hid (can_err h0)
    have b1 : (fdE id ax t == 0) = false := by simpa using h0
    have b2 : (fdE id ax t != 0) = true := by simpa using h0
    clear h0
    generalize fdE id ax t = E at *
    have B3 := Lib.hid (bl_al B2.out (fmbox noFm))
    go_wp2
    go_ret2
    exact ⟨by rw [HC.out.1, HC.out.2]; rfl, B3.out⟩
  · obtain ⟨hax, -, p1, n1, y1, k1, P1, -, -, -, -, -, e4, -, -, -, hal, hty, hsy⟩ := frame_is HM.out h0
    rw [hfa.is] at e4
    have e5 := (Prod.mk.inj e4).1
    subst e5
    have hcs := can_sum h0 hfa.is hfa.lt
    have hlen : y.kids.length ≤ 990 := by have := sz_node y; have := szL_len y.kids; omega
    have BA : Below w2.heap.size w2 (w2.alloc (fmbox x)) := (Below.refl _ _).alloc (Nat.le_refl _) _
    have B3 := Lib.hid (bl_up B2.out BA)
    have F3 := Lib.hid (BoxF.new w2 x)
    have HGV : Hid (Calls Try.prog 20 #[fmval x] (w2.alloc (fmbox x)) (GvSays P y.kids.length (w2.alloc (fmbox x)))) := Lib.hid (by
      have h := givers_any x P (w2.alloc (fmbox x)) hfa.place (by rw [hfa.n']; exact hfa.lt) (by rw [hfa.n']; omega)
      rw [hfa.n'] at h
      exact h)
    have HGI := Lib.hid (fun (up : Bool) (ga : Option Addr) (gcap : Nat) (W : World) (h1 : Below (w2.alloc (fmbox x)).heap.size (w2.alloc (fmbox x)) W) (h2 : Row W (.slice ga (ordL P y.kids.length up).length gcap) (ints (natL (ordL P y.kids.length up)))) =>
      gives_any x _ kg x.c.cap (ordL P y.kids.length up) ga gcap cs y.kids W (by rw [hfa.n']; exact (hfa.kids.up BA).up h1) hfa.a (by rw [hfa.axis]; exact hax) (by rw [hfa.n']; omega) (fun j u hu => ⟨tile_kid (by omega) hty hu, by have := sz_kid hu; omega⟩) (fun k hk => by rw [hfa.n']; exact (ord_lt hfa.lt hk).1) (by have := ord_len (up := up) hfa.lt; omega) h2)
    rw [hfa.axis] at HGI
    have b1 : ((0 : Int) == 0) = true := rfl
    have HCS := Lib.hid hcs
    clear hfa hcs h0 e4 BA hty hal
    obtain ⟨⟨dk, dr, did, da, dn, dcap⟩, xax, xpa, xpn, xpcap, xp⟩ := x
    go_upto_region 2 with (fail)
    change Code.wp _ _ _ _ (w2.alloc (fmbox ⟨⟨dk, dr, did, da, dn, dcap⟩, xax, xpa, xpn, xpcap, xp⟩))
    generalize w2.alloc (fmbox ⟨⟨dk, dr, did, da, dn, dcap⟩, xax, xpa, xpn, xpcap, xp⟩) = w3 at B3 F3 HGV HGI ⊢
    obtain ⟨a0, a1, a2, a3, a4, a5, a6, a7, a8, a9⟩ := F3.out.parts
    go_wp2_with fail
    refine HGV.out.mono ?_
    rintro e w4 ⟨hb4, g1, c1, g2, c2, rfl, hr1, hr2, -, -⟩
    have B4 := Lib.hid (bl_up B3.out hb4)
    have HG1 := Lib.hid (fun (W : World) (h : Below w4.heap.size w4 W) => HGI.out true g1 c1 W (hb4.trans (h.mono hb4.size)) (hr1.up h))
    have HG2 := Lib.hid (fun (W : World) (h : Below w4.heap.size w4 W) => HGI.out false g2 c2 W (hb4.trans (h.mono hb4.size)) (hr2.up h))
    rw [← HCS.out.1] at HG1
    rw [← HCS.out.2] at HG2
    have HX : Hid (∀ W, Below w4.heap.size w4 W → F10 w2.heap.size ⟨⟨dk, dr, did, da, dn, dcap⟩, xax, xpa, xpn, xpcap, xp⟩ W) := Lib.hid fun W h => ((F3.out.up hb4).up h).parts
    have D0 : Hid (Below w4.heap.size w4 w4.drew) := Lib.hid (Below.refl _ _).drew
    clear hb4 hr1 hr2 HGI HGV a0 a1 a2 a3 a4 a5 a6 a7 a8 a9 HCS
    go_wp2_with fail
    go_region_held3 (fun W => W.cell? ⟨w2.heap.size, 0, none⟩ = some (.int .u8 dk) ∧ W.cell? ⟨w2.heap.size, 1, none⟩ = some (.int .i64 dr.x) ∧ W.cell? ⟨w2.heap.size, 2, none⟩ = some (.int .i64 dr.y) ∧ W.cell? ⟨w2.heap.size, 3, none⟩ = some (.int .i64 dr.w) ∧ W.cell? ⟨w2.heap.size, 4, none⟩ = some (.int .i64 dr.h) ∧ W.cell? ⟨w2.heap.size, 5, none⟩ = some (.int .i64 did) ∧ W.cell? ⟨w2.heap.size, 6, none⟩ = some (.slice da dn dcap) ∧ W.cell? ⟨w2.heap.size, 7, none⟩ = some (.int .u8 xax) ∧ W.cell? ⟨w2.heap.size, 8, none⟩ = some (.slice xpa xpn xpcap) ∧ W.cell? ⟨w2.heap.size, 9, none⟩ = some (.int .i64 xp)) (exact HX.out _ (by first | with_reducible exact D0.out | with_reducible exact L5.out | with_reducible exact L6.out))
      (first
        | (go_at_call 21; (with_reducible refine (HG1.out _ (by first | with_reducible exact D0.out | with_reducible exact L6.out)).mono ?_); rintro e w5 ⟨rfl, hb5⟩; have L5 := Lib.hid (bl_up (by first | with_reducible exact D0.out | with_reducible exact L6.out) hb5); clear hb5)
        | (go_at_call 21; (with_reducible refine (HG2.out _ (by first | with_reducible exact D0.out | with_reducible exact L5.out)).mono ?_); rintro e w6 ⟨rfl, hb6⟩; have L6 := Lib.hid (bl_up (by first | with_reducible exact D0.out | with_reducible exact L5.out) hb6); clear hb6))
    all_goals (rename_i hh9; clear hh9)
    all_goals
      go_wp2
      go_ret2
      first
      | exact ⟨rfl, bl_up B4.out L6.out⟩
      | exact ⟨rfl, bl_up B4.out L5.out⟩
end Go.Proofs.Ytodcabaihhmhnaa
