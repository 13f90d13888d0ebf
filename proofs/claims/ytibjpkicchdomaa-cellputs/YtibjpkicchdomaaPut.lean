/- The tree in which a kid stands at a path: the program's answer. -/
import Derived.Test.YtibjpkicchdomaaPutB
import Derived.Test.YtibjpkicchdomaaRAt
import Derived.Deep.Cut
namespace Go.Proofs.Ytibjpkicchdomaa
open Go.RowKit

def PutSays (r : Option T) (w : World) (e : Ending) (w' : World) : Prop := ∃ z, e = .returned (.tuple #[cval z, .bool r.isSome]) ∧ Is w' z (r.getD zT) ∧ HasRow w' w.heap.size z ∧ Below w.heap.size w w'
theorem put_none {r : Option T} {w w' : World} {e : Ending} (h : r = none) (he : e = .returned (.tuple #[cval zC, .bool false])) (hb : Below w.heap.size w w') : PutSays r w e w' := by
  subst h; exact ⟨zC, he, zero_is w', ⟨[], OwnC.nil _ _⟩, hb⟩
theorem put_some {r : Option T} {u : T} {w w' : World} {e : Ending} {z : C} (h : r = some u) (he : e = .returned (.tuple #[cval z, .bool true])) (hi : Is w' z u) (hr : HasRow w' w.heap.size z) (hb : Below w.heap.size w w') : PutSays r w e w' := by
  subst h; exact ⟨z, he, hi, hr, hb⟩
abbrev putW (w : World) (c k : C) : World := ((w.alloc (cbox c)).alloc (cbox k)).alloc zeroBox

theorem below_putO {B : Nat} {w w' : World} (h : Below B w w') {b : Nat} (hb : B ≤ b) (o : Nat) (c : C) : Below B w (putO w' b o c) := ((((((h.setCell hb _).setCell hb _).setCell hb _).setCell hb _).setCell hb _).setCell hb _).setCell hb _
theorem size_putO (w : World) (b o : Nat) (c : C) : (putO w b o c).heap.size = w.heap.size := by simp [World.setCell]

theorem free_of_block {w : World} {b : Nat} {cs : Array Value} {t : TypeId} (h : w.heap[b]? = some (.cells cs t (0, 0))) (o : Nat) : w.frozen? ⟨b, o, none⟩ = false := by simp [World.frozen?, h]

/-- What is there behind the last stores. -/
theorem put_end {W w4 : World} {base B rb : Nat} {t u kt : T} {p : List Int} {b o : Nat} {kd : C} {S4 : List Nat} (hp : Place W base B t p b o u) (hb : Below W.heap.size W w4) (hk : OwnT w4 W.heap.size kd kt S4) (hbase : base ≤ W.heap.size) (hB : base ≤ B) (hr : rb < base) :
    ∃ z t', putT kt t p = some t' ∧ CAt (putO w4 b o kd) B 0 z ∧ Is (put7 (putO w4 b o kd) rb z) z t' ∧ HasRow (put7 (putO w4 b o kd) rb z) base z := by
  obtain ⟨x, S, cur, h⟩ := hp
  have hbW : b < W.heap.size := lt_of_block h.blk
  have hblk4 : w4.heap[b]? = some (.cells cur 26 (0, 0)) := (hb.block b hbW).trans h.blk
  have key : ∀ w' : World, (∀ k, base ≤ k → k ≠ b → w'.heap[k]? = w4.heap[k]?) → w'.heap[b]? = some (.cells (setO cur o kd) 26 (0, 0)) → ∃ z t', putT kt t p = some t' ∧ CAt w' B 0 z ∧ Is w' z t' ∧ HasRow w' base z := fun w' hs hbl => by
    have hkd : OwnT w' W.heap.size kd kt S4 := hk.frame fun m hm => hs m (by have := (hk.ge m hm).1; omega) (by have := (hk.ge m hm).1; omega)
    obtain ⟨cs, Ss, row, -⟩ := hkd.cases'
    exact h.ctx w' kd kt (fun m hm0 hm _ hmb => (hs m hm0 hmb).trans (hb.block m hm)) hbl hkd.is ⟨cs, row.lower hbase⟩
  obtain ⟨z, t', h1, h2, -, -⟩ := key (putO w4 b o kd) (fun m _ hmb => putO_other hmb) (putO_block hblk4 kd)
  obtain ⟨z', t'', g1, g2, g3, g4⟩ := key (put7 (putO w4 b o kd) rb z) (fun m hm0 hmb => by rw [heap_put7 (by omega), putO_other hmb]) (by rw [heap_put7 (by have := h.ge; omega)]; exact putO_block hblk4 kd)
  have hz : z' = z := by
    have h2' : CAt (put7 (putO w4 b o kd) rb z) B 0 z := by
      obtain ⟨q0, q1, q2, q3, q4, q5, q6⟩ := h2
      have hh : ∀ i, (put7 (putO w4 b o kd) rb z).cell? ⟨B, i, none⟩ = (putO w4 b o kd).cell? ⟨B, i, none⟩ := fun i => World.cell?_of_block (a := ⟨B, i, none⟩) (heap_put7 (show B ≠ rb by omega))
      exact ⟨(hh _).trans q0, (hh _).trans q1, (hh _).trans q2, (hh _).trans q3, (hh _).trans q4, (hh _).trans q5, (hh _).trans q6⟩
    exact cat_inj g2 h2'
  subst hz
  rw [h1] at g1
  cases g1
  exact ⟨z', t', h1, h2, g3, g4⟩

set_option maxRecDepth 100000 in
set_option maxHeartbeats 4000000 in
theorem put_any (t kt : T) (c k : C) (v : Value) (p : List Int) (w : World) (hi : Is w c t) (hk : Is w k kt) (hr : Row w v (ints p)) (hl : p.length ≤ 1000000) : Calls Try.prog 10 #[cval c, cval k, v] w (PutSays (putT kt t p) w) := by
  have B1 : Hid (Below w.heap.size w (putW w c k)) := (((Below.refl _ _).alloc (Nat.le_refl _) _).alloc (by simp) _).alloc (by simp; omega) _
  have al : ∀ (x : World) (o : Obj), Below x.heap.size x (x.alloc o) := fun x o => (Below.refl _ _).alloc (Nat.le_refl _) _
  have C1 : Hid (Box7 (putW w c k) w.heap.size c) := Lib.hid (((Box7.new w c).up (al _ _)).up (al _ _))
  have K1 : Hid (Box7 (putW w c k) (w.heap.size + 1) k) := Lib.hid (by
    have := (Box7.new (w.alloc (cbox c)) k).up (al _ zeroBox)
    simpa using this)
  have Z1 : Hid (Zero7 (putW w c k) (w.heap.size + 2)) := Lib.hid (by
    have := zero_new ((w.alloc (cbox c)).alloc (cbox k))
    simpa using this)
  clear al
  have HC := Lib.hid (follow_any w t c v p (putW w c k) B1.out hi hr hl)
  have HI := Lib.hid hi
  have HKT := Lib.hid hk
  have HR := Lib.hid hr
  obtain ⟨a, cap, rfl⟩ := row_shape hr
  clear hi hr hk
  cases hat : atT t p with
  | none =>
    have hpn : Hid (putT kt t p = none) := Lib.hid (by
      have := put_at (kid := kt) (p := p) (t := t)
      rw [hat] at this
      cases h : putT kt t p with
      | none => rfl
      | some x => rw [h] at this; cases this)
    have HC2 : Hid (Calls Try.prog 32 #[cval c, .slice a p.length cap] (putW w c k) fun e w' => ∃ y : C, e = .returned (.tuple #[cval y, .bool false]) ∧ Below (putW w c k).heap.size (putW w c k) w') := HC.out.mono fun e w' h => by
      unfold FollowSays at h; rw [hat] at h
      obtain ⟨hb, y, h1⟩ := h
      exact ⟨y, h1, hb⟩
    clear HC hat
    go_enter Try.func10, Try.ntmps10
    go_wp2_with fail
    refine HC2.out.mono ?_
    rintro e w2 ⟨y, rfl, hb2⟩
    have HB2 := Lib.hid (B1.out.trans (hb2.mono B1.out.size))
    have HZ2 := Lib.hid (zero_up Z1.out hb2)
    have hlt := lt_of_block HZ2.out
    have hne : w.heap.size + 2 ≠ w2.heap.size := by omega
    obtain ⟨⟨z0, z1, z2, z3, z4, z5, z6⟩, f0, f1, f2, f3, f4, f5, f6⟩ := zero_parts HZ2.out
    clear hb2
    go_wp2
    (try simp only [Exit.inBlock, Exit.then])
    have HA : Below (put7 w2 (w.heap.size + 2) zC).heap.size (put7 w2 (w.heap.size + 2) zC) ((put7 w2 (w.heap.size + 2) zC).alloc (cbox y)) := (Below.refl _ _).alloc (Nat.le_refl _) _
    refine bodyPost_ret (results_cell2 rfl _ ((put7 w2 (w.heap.size + 2) zC).alloc (cbox y)) (w.heap.size + 2) zC rfl (((Box7.of_zero HZ2.out).put zC).up HA)) rfl ?_
    refine put_none hpn.out rfl ?_
    have hbp := below_put7 HB2.out (show w.heap.size ≤ w.heap.size + 2 by omega) zC
    exact hbp.trans (HA.mono hbp.size)
  | some uu =>
    have HC2 : Hid (Calls Try.prog 32 #[cval c, .slice a p.length cap] (putW w c k) fun e w' => ∃ y : C, e = .returned (.tuple #[cval y, .bool true]) ∧ Below (putW w c k).heap.size (putW w c k) w') := HC.out.mono fun e w' h => by
      unfold FollowSays at h; rw [hat] at h
      obtain ⟨hb, y, h1, -⟩ := h
      exact ⟨y, h1, hb⟩
    have HAT := Lib.hid hat
    clear HC hat
    go_enter Try.func10, Try.ntmps10
    go_wp2_with fail
    refine HC2.out.mono ?_
    rintro e w2 ⟨y, rfl, hb2⟩
    have A2 : Hid (Below w2.heap.size w2 (w2.alloc (cbox y))) := (Below.refl _ _).alloc (Nat.le_refl _) _
    have hb2a := hb2.trans (A2.out.mono hb2.size)
    have HB2 := Lib.hid (B1.out.trans (hb2a.mono B1.out.size))
    have C2 := Lib.hid (C1.out.up hb2)
    have K2 := Lib.hid (K1.out.up hb2a)
    have Z2 := Lib.hid (zero_up Z1.out hb2a)
    obtain ⟨c0, c1, c2, c3, c4, c5, c6⟩ := C2.out.cat
    simp only [Nat.zero_add] at c1 c2 c3 c4 c5 c6
    have hlt2 : w.heap.size < w2.heap.size := lt_of_block C2.out
    have HZL : Hid (w.heap.size + 3 ≤ w2.heap.size) := Lib.hid (by have := hb2.size; simpa using this)
    have hne2 : w.heap.size ≠ w2.heap.size := by omega
    have HF := Lib.hid (fresh_any (sz t) t c (w2.alloc (cbox y)) (Nat.le_refl _) (HI.out.up HB2.out))
    clear hb2 hb2a
    go_wp2_with fail
    refine HF.out.mono ?_
    rintro e w3 ⟨d, S3, rfl, hown, hnd, hb3⟩
    have A3 : Hid (Below w3.heap.size w3 (w3.alloc (cbox d))) := (Below.refl _ _).alloc (Nat.le_refl _) _
    have hb3a := hb3.trans (A3.out.mono hb3.size)
    have HB3 := Lib.hid (HB2.out.trans (hb3a.mono HB2.out.size))
    have K3 := Lib.hid (K2.out.up hb3a)
    have Z3 := Lib.hid (zero_up Z2.out hb3a)
    have hsz3 : (w2.alloc (cbox y)).heap.size ≤ w3.heap.size := hb3.size
    have HPL := Lib.hid (place_top (Box7.new w3 d) (hown.up A3.out) hnd (fun hm => by have := (hown.ge _ hm).2; omega) hsz3)
    have HS3 : Hid (w2.heap.size + 1 ≤ w3.heap.size) := Lib.hid (by simpa using hsz3)
    clear hown hnd hb3 hb3a hsz3 c0 c1 c2 c3 c4 c5 c6
    go_wp2
    go_loopg [11, 27] (p.length + 1) (fun g pl i wr => ∃ (n b o : Nat) (u : T), g + n = p.length + 1 ∧ n ≤ p.length ∧ i = .int .i64 n ∧ pl = .pointer (some ⟨b, o, none⟩) ∧ Place (w3.alloc (cbox d)) (w2.alloc (cbox y)).heap.size w3.heap.size t (p.take n) b o u ∧ wr = w3.alloc (cbox d))
    case atStart => exact ⟨0, w3.heap.size, 0, t, by omega, by omega, rfl, rfl, by simpa using HPL.out, rfl⟩
    case round =>
      obtain ⟨n, b, o, u, hg, hn, rfl, rfl, hpl, hwr⟩ := hrel
      rw [hwr]
      clear hwr
      have HG := Lib.hid hg
      have HP := Lib.hid hpl
      clear hg hpl
      by_cases hlt : n < p.length
      · have hlti : (n : Int) < (p.length : Int) := by omega
        obtain ⟨m, hm⟩ : ∃ m, p[n]? = some m := ⟨_, List.getElem?_eq_getElem hlt⟩
        obtain ⟨pb, po, rfl, hf⟩ := int_at HR.out (by omega)
        have p0 := (HB3.out.cell (lt_of_cell (hf n m hm))).trans (hf n m hm)
        clear hf
        obtain ⟨u2, hu2⟩ : ∃ u2, kidAt u m = some u2 := by
          obtain ⟨x', S', cur', hpp⟩ := HP.out
          cases hkk : kidAt u m with
          | some u2 => exact ⟨u2, rfl⟩
          | none =>
            have h1 := atT_stop ((atT_step hpp.path hm).trans hkk)
            rw [HAT.out] at h1; cases h1
        obtain ⟨j, rfl, hj⟩ := kid_some hu2
        obtain ⟨x, g, hcx, hxa, hxn, hpl2⟩ := place_step HP.out hj
        have hjl := (List.getElem?_eq_some_iff.1 hj).1
        have hjli : (j : Int) < (u.kids.length : Int) := by omega
        have x6 := hcx.2.2.2.2.2.2
        rw [hxa, hxn] at x6
        have HP2 := Lib.hid hpl2
        have HTK := Lib.hid (take_snoc hm)
        clear hcx hxa hxn hpl2 hm hu2 hj
        go_wp2
        go_roundg (gk - 1)
        case measure => have := HG.out; omega
        case rel => exact ⟨n + 1, g, j * 7, u2, by have := HG.out; omega, by omega, by go_num, by first | rfl | simp, by rw [HTK.out]; exact HP2.out, rfl⟩
      · obtain rfl : n = p.length := by omega
        have hkl : ((p.length : Int) < (p.length : Int)) = False := by simp
        have HPE : Hid (Place (w3.alloc (cbox d)) (w2.alloc (cbox y)).heap.size w3.heap.size t p b o u) := Lib.hid (by have := HP.out; rw [List.take_length] at this; exact this)
        obtain ⟨q0, q1, q2, q3, q4, q5, q6⟩ := K3.out.cat
        simp only [Nat.zero_add] at q1 q2 q3 q4 q5 q6
        have HF4 := Lib.hid (fresh_any (sz kt) kt k (w3.alloc (cbox d)) (Nat.le_refl _) (HKT.out.up HB3.out))
        go_wp2_with fail
        refine HF4.out.mono ?_
        rintro e w4 ⟨kd, S4, rfl, hown4, -, hb4⟩
        have hend := put_end (rb := w.heap.size + 2) HPE.out hb4 hown4 (by have := HS3.out; simp; omega) (by have := HS3.out; simp; omega) (by have := HZL.out; simp; omega)
        obtain ⟨z, t', hp1, hp2, hp3, hp4⟩ := hend
        have HP1 := Lib.hid hp1
        have HP2 := Lib.hid hp2
        have HP3 := Lib.hid hp3
        have HP4 := Lib.hid hp4
        have HB4 := Lib.hid (HB3.out.trans (hb4.mono HB3.out.size))
        have Z4 := Lib.hid (zero_up Z3.out hb4)
        obtain ⟨x, S, cur, hpa⟩ := HPE.out
        have hbge : (w2.alloc (cbox y)).heap.size ≤ b := hpa.ge
        have hbW := lt_of_block hpa.blk
        obtain ⟨x0, x1, x2, x3, x4, x5, x6⟩ := hpa.cat.up hb4
        have hbk4 : w4.heap[b]? = some (.cells cur 26 (0, 0)) := (hb4.block b hbW).trans hpa.blk
        have f0 := free_of_block hbk4 o
        have f1 := free_of_block hbk4 (o + 1)
        have f2 := free_of_block hbk4 (o + 2)
        have f3 := free_of_block hbk4 (o + 3)
        have f4 := free_of_block hbk4 (o + 4)
        have f5 := free_of_block hbk4 (o + 5)
        have f6 := free_of_block hbk4 (o + 6)
        have HBG : Hid (w.heap.size + 3 ≤ b) := Lib.hid (by have := HZL.out; simp at hbge; omega)
        have ZO : Hid (Zero7 (putO w4 b o kd) (w.heap.size + 2)) := Lib.hid ((putO_other (by have := HBG.out; omega)).trans Z4.out)
        have BO : Hid (Below w.heap.size w (putO w4 b o kd)) := Lib.hid (below_putO HB4.out (by have := HBG.out; omega) o kd)
        clear hp1 hp2 hp3 hp4 hown4 hb4 hpa hbge hbk4 q0 q1 q2 q3 q4 q5 q6
        go_upto_region 12 with (fail)
        change Code.wp _ _ _ _ (putO w4 b o kd)
        generalize putO w4 b o kd = w5 at HP2 HP3 HP4 ZO BO ⊢
        clear x0 x1 x2 x3 x4 x5 x6 f0 f1 f2 f3 f4 f5 f6
        obtain ⟨c0, c1, c2, c3, c4, c5, c6⟩ := HP2.out
        simp only [Nat.zero_add] at c1 c2 c3 c4 c5 c6
        obtain ⟨⟨z0, z1, z2, z3, z4, z5, z6⟩, f0, f1, f2, f3, f4, f5, f6⟩ := zero_parts ZO.out
        go_wp2
        (try simp only [Exit.inBlock, Exit.then])
        refine bodyPost_ret (results_cell2 rfl _ (put7 w5 (w.heap.size + 2) z) (w.heap.size + 2) z rfl ((Box7.of_zero ZO.out).put z)) rfl ?_
        obtain ⟨cs, hcs⟩ := HP4.out
        exact put_some HP1.out rfl HP3.out ⟨cs, hcs.lower (by have := HZL.out; simp; omega)⟩ (below_put7 BO.out (by omega) z)
end Go.Proofs.Ytibjpkicchdomaa
