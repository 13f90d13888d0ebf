/- Texts of this seat, 3 in one file. -/
import Derived.Test.YtodcabaihhmhnaaG31
import Derived.Test.YtodcabaihhmhnaaG29
/- The tree in which a kid stands at a path: the program's answer, and what it stands on. -/
namespace Go.Proofs.Ytodcabaihhmhnaa
open Go.RowKit

/-- It stands as long as the blocks that the call made do. -/
def PutStands (r : Option T) (w : World) (e : Ending) (w' : World) : Prop := ∃ z, e = .returned (.tuple #[cval z, .bool r.isSome]) ∧ (∀ W' : World, (∀ m, w.heap.size ≤ m → m < w'.heap.size → W'.heap[m]? = w'.heap[m]?) → Is W' z (r.getD zT)) ∧ Below w.heap.size w w'
theorem puts_none {r : Option T} {w w' : World} {e : Ending} (h : r = none) (he : e = .returned (.tuple #[cval zC, .bool false])) (hb : Below w.heap.size w w') : PutStands r w e w' := by
  subst h; exact ⟨zC, he, fun W' _ => zero_is W', hb⟩
theorem puts_some {r : Option T} {u : T} {w w' : World} {e : Ending} {z : C} (h : r = some u) (he : e = .returned (.tuple #[cval z, .bool true])) (hi : ∀ W' : World, (∀ m, w.heap.size ≤ m → m < w'.heap.size → W'.heap[m]? = w'.heap[m]?) → Is W' z u) (hb : Below w.heap.size w w') : PutStands r w e w' := by
  subst h; exact ⟨z, he, hi, hb⟩
/-- What is there behind the last stores, wherever the call's blocks stand. -/
theorem put_endS {W w4 : World} {base B : Nat} {t u kt : T} {p : List Int} {b o : Nat} {kd : C} {S4 : List Nat} (hp : Place W base B t p b o u) (hb : Below W.heap.size W w4) (hk : OwnT w4 W.heap.size kd kt S4) (hbase : base ≤ W.heap.size) (hB : base ≤ B) (hBW : B < W.heap.size) :
    ∃ z t', putT kt t p = some t' ∧ CAt (putO w4 b o kd) B 0 z ∧ ∀ W' : World, (∀ m, base ≤ m → m < w4.heap.size → W'.heap[m]? = (putO w4 b o kd).heap[m]?) → Is W' z t' := by
  obtain ⟨x, S, cur, h⟩ := hp
  have hbW : b < W.heap.size := lt_of_block h.blk
  have hsz := hb.size
  have hblk4 : w4.heap[b]? = some (.cells cur 26 (0, 0)) := (hb.block b hbW).trans h.blk
  have key : ∀ w' : World, (∀ k, base ≤ k → k < w4.heap.size → k ≠ b → w'.heap[k]? = w4.heap[k]?) → w'.heap[b]? = some (.cells (setO cur o kd) 26 (0, 0)) → ∃ z t', putT kt t p = some t' ∧ CAt w' B 0 z ∧ Is w' z t' := fun w' hs hbl => by
    have hkd : OwnT w' W.heap.size kd kt S4 := hk.frame fun m hm => hs m (by have := (hk.ge m hm).1; omega) (hk.ge m hm).2 (by have := (hk.ge m hm).1; omega)
    obtain ⟨cs, Ss, row, -⟩ := hkd.cases'
    obtain ⟨z, t', h1, h2, h3, -⟩ := h.ctx w' kd kt (fun m hm0 hm _ hmb => (hs m hm0 (by omega) hmb).trans (hb.block m hm)) hbl hkd.is ⟨cs, row.lower hbase⟩
    exact ⟨z, t', h1, h2, h3⟩
  obtain ⟨z, t', h1, h2, -⟩ := key (putO w4 b o kd) (fun m _ _ hmb => putO_other hmb) (putO_block hblk4 kd)
  refine ⟨z, t', h1, h2, fun W' hW => ?_⟩
  obtain ⟨z', t'', g1, g2, g3⟩ := key W' (fun m hm0 hm hmb => (hW m hm0 hm).trans (putO_other hmb)) ((hW b h.ge (by omega)).trans (putO_block hblk4 kd))
  have hz : z' = z := by
    have hh : ∀ i, W'.cell? ⟨B, i, none⟩ = (putO w4 b o kd).cell? ⟨B, i, none⟩ := fun i => World.cell?_of_block (a := ⟨B, i, none⟩) (hW B hB (by omega))
    obtain ⟨q0, q1, q2, q3, q4, q5, q6⟩ := h2
    exact cat_inj g2 ⟨(hh _).trans q0, (hh _).trans q1, (hh _).trans q2, (hh _).trans q3, (hh _).trans q4, (hh _).trans q5, (hh _).trans q6⟩
  subst hz
  rw [h1] at g1
  cases g1
  exact g3

set_option maxRecDepth 100000 in
set_option maxHeartbeats 4000000 in
theorem putS_any (t kt : T) (c k : C) (v : Value) (p : List Int) (w : World) (hi : Is w c t) (hk : Is w k kt) (hr : Row w v (ints p)) (hl : p.length ≤ 1000000) : Calls Try.prog 24 #[cval c, cval k, v] w (PutStands (putT kt t p) w) := by
  have B1 : Hid (Below w.heap.size w (putW w c k)) := (((Below.refl _ _).alloc (Nat.le_refl _) _).alloc (by simp) _).alloc (by simp; omega) _
  have al : ∀ (x : World) (o : Obj), Below x.heap.size x (x.alloc o) := fun x o => (Below.refl _ _).alloc (Nat.le_refl _) _
  have C1 : Hid (Box7 (putW w c k) w.heap.size c) := Lib.hid (((Box7.new w c).up (al _ _)).up (al _ _))
  have K1 : Hid (Box7 (putW w c k) (w.heap.size + 1) k) := Lib.hid (by
    have := (Box7.new (w.alloc (cbox c)) k).up (al _ zeroBox)
    simpa using this)
  have Z1 : Hid (Zero7 (putW w c k) (w.heap.size + 2)) := Lib.hid (by
    have := zero_new ((w.alloc (cbox c)).alloc (cbox k))
    simpa using this)
  clear al
  have HC := Lib.hid (follow_any w t c v p (putW w c k) B1.out hi hr hl)
  have HI := Lib.hid hi
  have HKT := Lib.hid hk
  have HR := Lib.hid hr
  obtain ⟨a, cap, rfl⟩ := row_shape hr
  clear hi hr hk
  cases hat : atT t p with
  | none =>
    have hpn : Hid (putT kt t p = none) := Lib.hid (by
      have := put_at (kid := kt) (p := p) (t := t)
      rw [hat] at this
      cases h : putT kt t p with
      | none => rfl
      | some x => rw [h] at this; cases this)
    have HC2 : Hid (Calls Try.prog 41 #[cval c, .slice a p.length cap] (putW w c k) fun e w' => ∃ y : C, e = .returned (.tuple #[cval y, .bool false]) ∧ Below (putW w c k).heap.size (putW w c k) w') := HC.out.mono fun e w' h => by
      unfold FollowSays at h; rw [hat] at h
      obtain ⟨hb, y, h1⟩ := h
      exact ⟨y, h1, hb⟩
    clear HC hat
    go_enter Try.func24, Try.ntmps24
    go_wp2_with fail
    refine HC2.out.mono ?_
    rintro e w2 ⟨y, rfl, hb2⟩
    have HB2 := Lib.hid (B1.out.trans (hb2.mono B1.out.size))
    have HZ2 := Lib.hid (zero_up Z1.out hb2)
    have hlt := lt_of_block HZ2.out
    have hne : w.heap.size + 2 ≠ w2.heap.size := by omega
    obtain ⟨⟨z0, z1, z2, z3, z4, z5, z6⟩, f0, f1, f2, f3, f4, f5, f6⟩ := zero_parts HZ2.out
    clear hb2
    go_wp2
    (try simp only [Exit.inBlock, Exit.then])
    have HA : Below (put7 w2 (w.heap.size + 2) zC).heap.size (put7 w2 (w.heap.size + 2) zC) ((put7 w2 (w.heap.size + 2) zC).alloc (cbox y)) := (Below.refl _ _).alloc (Nat.le_refl _) _
    refine bodyPost_ret (results_cell2 rfl _ ((put7 w2 (w.heap.size + 2) zC).alloc (cbox y)) (w.heap.size + 2) zC rfl (((Box7.of_zero HZ2.out).put zC).up HA)) rfl ?_
    refine puts_none hpn.out rfl ?_
    have hbp := below_put7 HB2.out (show w.heap.size ≤ w.heap.size + 2 by omega) zC
    exact hbp.trans (HA.mono hbp.size)
  | some uu =>
    have HC2 : Hid (Calls Try.prog 41 #[cval c, .slice a p.length cap] (putW w c k) fun e w' => ∃ y : C, e = .returned (.tuple #[cval y, .bool true]) ∧ Below (putW w c k).heap.size (putW w c k) w') := HC.out.mono fun e w' h => by
      unfold FollowSays at h; rw [hat] at h
      obtain ⟨hb, y, h1, -⟩ := h
      exact ⟨y, h1, hb⟩
    have HAT := Lib.hid hat
    clear HC hat
    go_enter Try.func24, Try.ntmps24
    go_wp2_with fail
    refine HC2.out.mono ?_
    rintro e w2 ⟨y, rfl, hb2⟩
    have A2 : Hid (Below w2.heap.size w2 (w2.alloc (cbox y))) := (Below.refl _ _).alloc (Nat.le_refl _) _
    have hb2a := hb2.trans (A2.out.mono hb2.size)
    have HB2 := Lib.hid (B1.out.trans (hb2a.mono B1.out.size))
    have C2 := Lib.hid (C1.out.up hb2)
    have K2 := Lib.hid (K1.out.up hb2a)
    have Z2 := Lib.hid (zero_up Z1.out hb2a)
    obtain ⟨c0, c1, c2, c3, c4, c5, c6⟩ := C2.out.cat
    simp only [Nat.zero_add] at c1 c2 c3 c4 c5 c6
    have hlt2 : w.heap.size < w2.heap.size := lt_of_block C2.out
    have HZL : Hid (w.heap.size + 3 ≤ w2.heap.size) := Lib.hid (by have := hb2.size; simpa using this)
    have hne2 : w.heap.size ≠ w2.heap.size := by omega
    have HF := Lib.hid (fresh_any (sz t) t c (w2.alloc (cbox y)) (Nat.le_refl _) (HI.out.up HB2.out))
    clear hb2 hb2a
    go_wp2_with fail
    refine HF.out.mono ?_
    rintro e w3 ⟨d, S3, rfl, hown, hnd, hb3⟩
    have A3 : Hid (Below w3.heap.size w3 (w3.alloc (cbox d))) := (Below.refl _ _).alloc (Nat.le_refl _) _
    have hb3a := hb3.trans (A3.out.mono hb3.size)
    have HB3 := Lib.hid (HB2.out.trans (hb3a.mono HB2.out.size))
    have K3 := Lib.hid (K2.out.up hb3a)
    have Z3 := Lib.hid (zero_up Z2.out hb3a)
    have hsz3 : (w2.alloc (cbox y)).heap.size ≤ w3.heap.size := hb3.size
    have HPL := Lib.hid (place_top (Box7.new w3 d) (hown.up A3.out) hnd (fun hm => by have := (hown.ge _ hm).2; omega) hsz3)
    have HS3 : Hid (w2.heap.size + 1 ≤ w3.heap.size) := Lib.hid (by simpa using hsz3)
    clear hown hnd hb3 hb3a hsz3 c0 c1 c2 c3 c4 c5 c6
    go_wp2
    go_loopg [11, 27] (p.length + 1) (fun g pl i wr => ∃ (n b o : Nat) (u : T), g + n = p.length + 1 ∧ n ≤ p.length ∧ i = .int .i64 n ∧ pl = .pointer (some ⟨b, o, none⟩) ∧ Place (w3.alloc (cbox d)) (w2.alloc (cbox y)).heap.size w3.heap.size t (p.take n) b o u ∧ wr = w3.alloc (cbox d))
    case atStart => exact ⟨0, w3.heap.size, 0, t, by omega, by omega, rfl, rfl, by simpa using HPL.out, rfl⟩
    case round =>
      obtain ⟨n, b, o, u, hg, hn, rfl, rfl, hpl, hwr⟩ := hrel
      rw [hwr]
      clear hwr
      have HG := Lib.hid hg
      have HP := Lib.hid hpl
      clear hg hpl
      by_cases hlt : n < p.length
      · have hlti : (n : Int) < (p.length : Int) := by omega
        obtain ⟨m, hm⟩ : ∃ m, p[n]? = some m := ⟨_, List.getElem?_eq_getElem hlt⟩
        obtain ⟨pb, po, rfl, hf⟩ := int_at HR.out (by omega)
        have p0 := (HB3.out.cell (lt_of_cell (hf n m hm))).trans (hf n m hm)
        clear hf
        obtain ⟨u2, hu2⟩ : ∃ u2, kidAt u m = some u2 := by
          obtain ⟨x', S', cur', hpp⟩ := HP.out
          cases hkk : kidAt u m with
          | some u2 => exact ⟨u2, rfl⟩
          | none =>
            have h1 := atT_stop ((atT_step hpp.path hm).trans hkk)
            rw [HAT.out] at h1; cases h1
        obtain ⟨j, rfl, hj⟩ := kid_some hu2
        obtain ⟨x, g, hcx, hxa, hxn, hpl2⟩ := place_step HP.out hj
        have hjl := (List.getElem?_eq_some_iff.1 hj).1
        have hjli : (j : Int) < (u.kids.length : Int) := by omega
        have x6 := hcx.2.2.2.2.2.2
        rw [hxa, hxn] at x6
        have HP2 := Lib.hid hpl2
        have HTK := Lib.hid (take_snoc hm)
        clear hcx hxa hxn hpl2 hm hu2 hj
        go_wp2
        go_roundg (gk - 1)
        case measure => have := HG.out; omega
        case rel => exact ⟨n + 1, g, j * 7, u2, by have := HG.out; omega, by omega, by go_num, by first | rfl | simp, by rw [HTK.out]; exact HP2.out, rfl⟩
      · obtain rfl : n = p.length := by omega
        have hkl : ((p.length : Int) < (p.length : Int)) = False := by simp
        have HPE : Hid (Place (w3.alloc (cbox d)) (w2.alloc (cbox y)).heap.size w3.heap.size t p b o u) := Lib.hid (by have := HP.out; rw [List.take_length] at this; exact this)
        obtain ⟨q0, q1, q2, q3, q4, q5, q6⟩ := K3.out.cat
        simp only [Nat.zero_add] at q1 q2 q3 q4 q5 q6
        have HF4 := Lib.hid (fresh_any (sz kt) kt k (w3.alloc (cbox d)) (Nat.le_refl _) (HKT.out.up HB3.out))
        go_wp2_with fail
        refine HF4.out.mono ?_
        rintro e w4 ⟨kd, S4, rfl, hown4, -, hb4⟩
        have hend := put_endS HPE.out hb4 hown4 (by have := HS3.out; simp; omega) (by have := HS3.out; simp; omega) (by simp)
        obtain ⟨z, t', hp1, hp2, hp3⟩ := hend
        have HP1 := Lib.hid hp1
        have HP2 := Lib.hid hp2
        have HP3 := Lib.hid hp3
        have HSZ4 : Hid ((putO w4 b o kd).heap.size = w4.heap.size) := Lib.hid (size_putO w4 b o kd)
        have HB4 := Lib.hid (HB3.out.trans (hb4.mono HB3.out.size))
        have Z4 := Lib.hid (zero_up Z3.out hb4)
        obtain ⟨x, S, cur, hpa⟩ := HPE.out
        have hbge : (w2.alloc (cbox y)).heap.size ≤ b := hpa.ge
        have hbW := lt_of_block hpa.blk
        obtain ⟨x0, x1, x2, x3, x4, x5, x6⟩ := hpa.cat.up hb4
        have hbk4 : w4.heap[b]? = some (.cells cur 26 (0, 0)) := (hb4.block b hbW).trans hpa.blk
        have f0 := free_of_block hbk4 o
        have f1 := free_of_block hbk4 (o + 1)
        have f2 := free_of_block hbk4 (o + 2)
        have f3 := free_of_block hbk4 (o + 3)
        have f4 := free_of_block hbk4 (o + 4)
        have f5 := free_of_block hbk4 (o + 5)
        have f6 := free_of_block hbk4 (o + 6)
        have HBG : Hid (w.heap.size + 3 ≤ b) := Lib.hid (by have := HZL.out; simp at hbge; omega)
        have ZO : Hid (Zero7 (putO w4 b o kd) (w.heap.size + 2)) := Lib.hid ((putO_other (by have := HBG.out; omega)).trans Z4.out)
        have BO : Hid (Below w.heap.size w (putO w4 b o kd)) := Lib.hid (below_putO HB4.out (by have := HBG.out; omega) o kd)
        clear hp1 hp2 hp3 hown4 hb4 hpa hbge hbk4 q0 q1 q2 q3 q4 q5 q6
        go_upto_region 12 with (fail)
        change Code.wp _ _ _ _ (putO w4 b o kd)
        generalize putO w4 b o kd = w5 at HP2 HP3 HSZ4 ZO BO ⊢
        clear x0 x1 x2 x3 x4 x5 x6 f0 f1 f2 f3 f4 f5 f6
        obtain ⟨c0, c1, c2, c3, c4, c5, c6⟩ := HP2.out
        simp only [Nat.zero_add] at c1 c2 c3 c4 c5 c6
        obtain ⟨⟨z0, z1, z2, z3, z4, z5, z6⟩, f0, f1, f2, f3, f4, f5, f6⟩ := zero_parts ZO.out
        go_wp2
        (try simp only [Exit.inBlock, Exit.then])
        refine bodyPost_ret (results_cell2 rfl _ (put7 w5 (w.heap.size + 2) z) (w.heap.size + 2) z rfl ((Box7.of_zero ZO.out).put z)) rfl ?_
        refine puts_some HP1.out rfl (fun W' hW => HP3.out W' fun m hm hm4 => ?_) (below_put7 BO.out (by omega) z)
        have h5 := HSZ4.out
        have h6 := HZL.out
        simp at hm
        rw [hW m (by omega) (by rw [size_put7]; omega), heap_put7 (by omega)]
end Go.Proofs.Ytodcabaihhmhnaa
/- What a kid can give; the kid that gives: the document's. -/
namespace Go.Proofs.Ytodcabaihhmhnaa
open Go.RowKit

set_option maxHeartbeats 1000000 in
set_option maxRecDepth 100000 in
theorem rgives_any (ax : Int) (t u : T) (c : C) (k : Nat) (w : World) (hax : ax = 1 ∨ ax = 2) (hu : t.kids[k]? = some u) (hs : sz u ≤ 20000) (ht : tileB u = true) (hn9 : t.kids.length ≤ 1000000) (hi : Is w c t) :
    Calls Try.prog 22 #[cval c, .int .i64 k, .int .u8 ax] w fun e w' => e = .returned (.int .i64 (gvT ax u)) ∧ Below w.heap.size w w' := by
  have hgb := gv_bounds hax hs ht
  have hsp := szA_pos (well_rect (tile_top hs ht).1) hax
  have B1 : Hid (Below w.heap.size w (w.alloc (cbox c))) := Lib.hid ((Below.refl _ _).alloc (Nat.le_refl _) _)
  have BX : Hid (Box7 (w.alloc (cbox c)) w.heap.size c) := Lib.hid (Box7.new w c)
  have HR := Lib.hid hi.row
  have hn := hi.n
  obtain ⟨ck, cr, cid, ca, cn, ccap⟩ := c
  simp only at hn
  subst hn
  have hlt : k < t.kids.length := (List.getElem?_eq_some_iff.1 hu).1
  obtain ⟨b, o, rfl, hf⟩ := HR.out.place (by omega)
  obtain ⟨z, hz, hiz⟩ := hf k u hu
  have D0 : Hid (Below w.heap.size w (w.alloc (cbox ⟨ck, cr, cid, some ⟨b, o, none⟩, t.kids.length, ccap⟩)).drew) := Lib.hid B1.out.drew
  have X0 : Hid ((w.alloc (cbox ⟨ck, cr, cid, some ⟨b, o, none⟩, t.kids.length, ccap⟩)).drew.cell? ⟨w.heap.size, 6, none⟩ = some (.slice (some ⟨b, o, none⟩) t.kids.length ccap) ∧ CellsT (w.alloc (cbox ⟨ck, cr, cid, some ⟨b, o, none⟩, t.kids.length, ccap⟩)).drew b (o + k * 7) z) := Lib.hid ⟨(c7_of (BX.out.up (Below.refl (w.alloc (cbox ⟨ck, cr, cid, some ⟨b, o, none⟩, t.kids.length, ccap⟩)).heap.size _).drew).cat).2.2.2.2.2.2, hz.up D0.out⟩
  have hur : u.r = z.r := hiz.split.2.1
  have HSZ := Lib.hid (fun W => rsize_any z.r ax W)
  have HOF := Lib.hid (fun (W : World) (hb : Below w.heap.size w W) => rof_any ax (sz u) u z W (Nat.le_refl _) (by omega) (hiz.up hb))
  have hgv : gvT ax u = szA z.r ax - lsT ax u := by unfold gvT; rw [hur]
  rw [hgv] at hgb ⊢
  rw [hur] at hsp
  have hws : IntKind.i64.wrap (szA z.r ax - lsT ax u) = szA z.r ax - lsT ax u := wrap_id (by omega)
  generalize lsT ax u = m at HOF hws
  clear hi hu hs ht hn9 hf hz hiz hur hgv hgb hsp hax BX
  go_enter Try.func22, Try.ntmps22
  go_wp2_with fail
  go_region_held3 (fun W => W.cell? ⟨w.heap.size, 6, none⟩ = some (.slice (some ⟨b, o, none⟩) t.kids.length ccap) ∧ W.cell? ⟨b, o + k * 7, none⟩ = some (.int .u8 z.k) ∧ W.cell? ⟨b, o + k * 7 + 1, none⟩ = some (.int .i64 z.r.x) ∧ W.cell? ⟨b, o + k * 7 + 2, none⟩ = some (.int .i64 z.r.y) ∧ W.cell? ⟨b, o + k * 7 + 3, none⟩ = some (.int .i64 z.r.w) ∧ W.cell? ⟨b, o + k * 7 + 4, none⟩ = some (.int .i64 z.r.h) ∧ W.cell? ⟨b, o + k * 7 + 5, none⟩ = some (.int .i64 z.id) ∧ W.cell? ⟨b, o + k * 7 + 6, none⟩ = some (.slice z.a z.n z.cap)) (first | exact X0.out | exact X1.out | exact X2.out)
    (first
      | (go_at_call 17; (with_reducible refine (HSZ.out _).mono ?_); rintro e w4 ⟨rfl, hb4⟩; have D4 := Lib.hid (D0.out.trans (hb4.mono D0.out.size)); have X1 := Lib.hid (adjx_up X0.out hb4); clear hb4)
      | (go_at_call 39; (with_reducible refine (HOF.out _ D4.out).mono ?_); rintro e w5 ⟨rfl, hb5⟩; have D5 := Lib.hid (D4.out.trans (hb5.mono D4.out.size)); have X2 := Lib.hid (adjx_up X1.out hb5); clear hb5))
  go_wp2
  go_ret
  exact ⟨by first | rfl | (rw [hws]), D5.out⟩
end Go.Proofs.Ytodcabaihhmhnaa
/- The kid that gives: the document's. -/
namespace Go.Proofs.Ytodcabaihhmhnaa
open Go.RowKit

/-- The first one from here on that can give, counted from m; the last one among the first n; -1. -/
def fwN (ax : Int) : List T → Nat → Int
  | [], _ => -1
  | t :: l, m => if 0 < gvT ax t then (m : Int) else fwN ax l (m + 1)
def bwN (ax : Int) (ks : List T) : Nat → Int
  | 0 => -1
  | n + 1 => if 0 < gvT ax (ks.getD n default) then (n : Int) else bwN ax ks n
def gvrN (ax : Int) (ks : List T) (p : Nat) (up : Bool) : Int := if up = true then (if 0 ≤ fwN ax (ks.drop (p + 1)) (p + 1) then fwN ax (ks.drop (p + 1)) (p + 1) else bwN ax ks p) else bwN ax ks (p + 1)
theorem fw_end {ax : Int} {ks : List T} {k : Nat} (h : ks.length ≤ k) : fwN ax (ks.drop k) k = -1 := by rw [List.drop_eq_nil_iff.2 h]; rfl
theorem drop_at2 {ks : List T} {k : Nat} {u : T} (h : ks[k]? = some u) : ks.drop k = u :: ks.drop (k + 1) := by
  obtain ⟨hk, rfl⟩ := List.getElem?_eq_some_iff.1 h
  exact List.drop_eq_getElem_cons hk
theorem fw_yes {ax : Int} {ks : List T} {k : Nat} {u : T} (h : ks[k]? = some u) (hg : 0 < gvT ax u) : fwN ax (ks.drop k) k = k := by rw [drop_at2 h, fwN, if_pos hg]
theorem fw_no {ax : Int} {ks : List T} {k : Nat} {u : T} (h : ks[k]? = some u) (hg : ¬ 0 < gvT ax u) : fwN ax (ks.drop k) k = fwN ax (ks.drop (k + 1)) (k + 1) := by rw [drop_at2 h, fwN, if_neg hg]
theorem bw_yes {ax : Int} {ks : List T} {k : Nat} {u : T} (h : ks[k]? = some u) (hg : 0 < gvT ax u) : bwN ax ks (k + 1) = k := by
  rw [bwN, List.getD_eq_getElem?_getD, h]; exact if_pos hg
theorem bw_no {ax : Int} {ks : List T} {k : Nat} {u : T} (h : ks[k]? = some u) (hg : ¬ 0 < gvT ax u) : bwN ax ks (k + 1) = bwN ax ks k := by
  rw [bwN, List.getD_eq_getElem?_getD, h]; exact if_neg hg

end Go.Proofs.Ytodcabaihhmhnaa
