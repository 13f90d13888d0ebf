/- Texts of this seat, 3 in one file. -/
import Derived.Test.YtcdiogifgemjbaaGreatG31
import Derived.Deep.Cut
import Derived.Test.YtcdiogifgemjbaaGreatG40
import Derived.Test.YtcdiogifgemjbaaGreatG18
import Derived.Test.YtcdiogifgemjbaaGreatG35
/- The tree in which a kid stands at a path: the program's answer. -/
namespace Go.Proofs.YtcdiogifgemjbaaGreat
open Go.RowKit

def PutSays (r : Option T) (w : World) (e : Ending) (w' : World) : Prop := ∃ z, e = .returned (.tuple #[cval z, .bool r.isSome]) ∧ Is w' z (r.getD zT) ∧ HasRow w' w.heap.size z ∧ Below w.heap.size w w'
theorem put_none {r : Option T} {w w' : World} {e : Ending} (h : r = none) (he : e = .returned (.tuple #[cval zC, .bool false])) (hb : Below w.heap.size w w') : PutSays r w e w' := by
  subst h; exact ⟨zC, he, zero_is w', ⟨[], OwnC.nil _ _⟩, hb⟩
theorem put_some {r : Option T} {u : T} {w w' : World} {e : Ending} {z : C} (h : r = some u) (he : e = .returned (.tuple #[cval z, .bool true])) (hi : Is w' z u) (hr : HasRow w' w.heap.size z) (hb : Below w.heap.size w w') : PutSays r w e w' := by
  subst h; exact ⟨z, he, hi, hr, hb⟩
abbrev putW (w : World) (c k : C) : World := ((w.alloc (cbox c)).alloc (cbox k)).alloc zeroBox

theorem below_putO {B : Nat} {w w' : World} (h : Below B w w') {b : Nat} (hb : B ≤ b) (o : Nat) (c : C) : Below B w (putO w' b o c) := ((((((h.setCell hb _).setCell hb _).setCell hb _).setCell hb _).setCell hb _).setCell hb _).setCell hb _
theorem size_putO (w : World) (b o : Nat) (c : C) : (putO w b o c).heap.size = w.heap.size := by simp [World.setCell]

theorem free_of_block {w : World} {b : Nat} {cs : Array Value} {t : TypeId} (h : w.heap[b]? = some (.cells cs t (0, 0))) (o : Nat) : w.frozen? ⟨b, o, none⟩ = false := by simp [World.frozen?, h]

/-- What is there behind the last stores. -/
theorem put_end {W w4 : World} {base B rb : Nat} {t u kt : T} {p : List Int} {b o : Nat} {kd : C} {S4 : List Nat} (hp : Place W base B t p b o u) (hb : Below W.heap.size W w4) (hk : OwnT w4 W.heap.size kd kt S4) (hbase : base ≤ W.heap.size) (hB : base ≤ B) (hr : rb < base) :
    ∃ z t', putT kt t p = some t' ∧ CAt (putO w4 b o kd) B 0 z ∧ Is (put7 (putO w4 b o kd) rb z) z t' ∧ HasRow (put7 (putO w4 b o kd) rb z) base z := by
  obtain ⟨x, S, cur, h⟩ := hp
  have hbW : b < W.heap.size := lt_of_block h.blk
  have hblk4 : w4.heap[b]? = some (.cells cur 26 (0, 0)) := (hb.block b hbW).trans h.blk
  have key : ∀ w' : World, (∀ k, base ≤ k → k ≠ b → w'.heap[k]? = w4.heap[k]?) → w'.heap[b]? = some (.cells (setO cur o kd) 26 (0, 0)) → ∃ z t', putT kt t p = some t' ∧ CAt w' B 0 z ∧ Is w' z t' ∧ HasRow w' base z := fun w' hs hbl => by
    have hkd : OwnT w' W.heap.size kd kt S4 := hk.frame fun m hm => hs m (by have := (hk.ge m hm).1; omega) (by have := (hk.ge m hm).1; omega)
    obtain ⟨cs, Ss, row, -⟩ := hkd.cases'
    exact h.ctx w' kd kt (fun m hm0 hm _ hmb => (hs m hm0 hmb).trans (hb.block m hm)) hbl hkd.is ⟨cs, row.lower hbase⟩
  obtain ⟨z, t', h1, h2, -, -⟩ := key (putO w4 b o kd) (fun m _ hmb => putO_other hmb) (putO_block hblk4 kd)
  obtain ⟨z', t'', g1, g2, g3, g4⟩ := key (put7 (putO w4 b o kd) rb z) (fun m hm0 hmb => by rw [heap_put7 (by omega), putO_other hmb]) (by rw [heap_put7 (by have := h.ge; omega)]; exact putO_block hblk4 kd)
  have hz : z' = z := by
    have h2' : CAt (put7 (putO w4 b o kd) rb z) B 0 z := by
      obtain ⟨q0, q1, q2, q3, q4, q5, q6⟩ := h2
      have hh : ∀ i, (put7 (putO w4 b o kd) rb z).cell? ⟨B, i, none⟩ = (putO w4 b o kd).cell? ⟨B, i, none⟩ := fun i => World.cell?_of_block (a := ⟨B, i, none⟩) (heap_put7 (show B ≠ rb by omega))
      exact ⟨(hh _).trans q0, (hh _).trans q1, (hh _).trans q2, (hh _).trans q3, (hh _).trans q4, (hh _).trans q5, (hh _).trans q6⟩
    exact cat_inj g2 h2'
  subst hz
  rw [h1] at g1
  cases g1
  exact ⟨z', t', h1, h2, g3, g4⟩

set_option maxRecDepth 100000 in
set_option maxHeartbeats 4000000 in
theorem put_any (t kt : T) (c k : C) (v : Value) (p : List Int) (w : World) (hi : Is w c t) (hk : Is w k kt) (hr : Row w v (ints p)) (hl : p.length ≤ 1000000) : Calls Tryz.prog 19 #[cval c, cval k, v] w (PutSays (putT kt t p) w) := by
  have B1 : Hid (Below w.heap.size w (putW w c k)) := (((Below.refl _ _).alloc (Nat.le_refl _) _).alloc (by simp) _).alloc (by simp; omega) _
  have al : ∀ (x : World) (o : Obj), Below x.heap.size x (x.alloc o) := fun x o => (Below.refl _ _).alloc (Nat.le_refl _) _
  have C1 : Hid (Box7 (putW w c k) w.heap.size c) := Lib.hid (((Box7.new w c).up (al _ _)).up (al _ _))
  have K1 : Hid (Box7 (putW w c k) (w.heap.size + 1) k) := Lib.hid (by
    have := (Box7.new (w.alloc (cbox c)) k).up (al _ zeroBox)
    simpa using this)
  have Z1 : Hid (Zero7 (putW w c k) (w.heap.size + 2)) := Lib.hid (by
    have := zero_new ((w.alloc (cbox c)).alloc (cbox k))
    simpa using this)
  clear al
  have HC := Lib.hid (follow_any w t c v p (putW w c k) B1.out hi hr hl)
  have HI := Lib.hid hi
  have HKT := Lib.hid hk
  have HR := Lib.hid hr
  obtain ⟨a, cap, rfl⟩ := row_shape hr
  clear hi hr hk
  cases hat : atT t p with
  | none =>
    have hpn : Hid (putT kt t p = none) := Lib.hid (by
      have := put_at (kid := kt) (p := p) (t := t)
      rw [hat] at this
      cases h : putT kt t p with
      | none => rfl
      | some x => rw [h] at this; cases this)
    have HC2 : Hid (Calls Tryz.prog 31 #[cval c, .slice a p.length cap] (putW w c k) fun e w' => ∃ y : C, e = .returned (.tuple #[cval y, .bool false]) ∧ Below (putW w c k).heap.size (putW w c k) w') := HC.out.mono fun e w' h => by
      unfold FollowSays at h; rw [hat] at h
      obtain ⟨hb, y, h1⟩ := h
      exact ⟨y, h1, hb⟩
    clear HC hat
    go_enter Tryz.func19, Tryz.ntmps19
    go_wp2_with fail
    refine HC2.out.mono ?_
    rintro e w2 ⟨y, rfl, hb2⟩
    have HB2 := Lib.hid (B1.out.trans (hb2.mono B1.out.size))
    have HZ2 := Lib.hid (zero_up Z1.out hb2)
    have hlt := lt_of_block HZ2.out
    have hne : w.heap.size + 2 ≠ w2.heap.size := by omega
    obtain ⟨⟨z0, z1, z2, z3, z4, z5, z6⟩, f0, f1, f2, f3, f4, f5, f6⟩ := zero_parts HZ2.out
    clear hb2
    go_wp2
    (try simp only [Exit.inBlock, Exit.then])
    have HA : Below (put7 w2 (w.heap.size + 2) zC).heap.size (put7 w2 (w.heap.size + 2) zC) ((put7 w2 (w.heap.size + 2) zC).alloc (cbox y)) := (Below.refl _ _).alloc (Nat.le_refl _) _
    refine bodyPost_ret (results_cell2 rfl _ ((put7 w2 (w.heap.size + 2) zC).alloc (cbox y)) (w.heap.size + 2) zC rfl (((Box7.of_zero HZ2.out).put zC).up HA)) rfl ?_
    refine put_none hpn.out rfl ?_
    have hbp := below_put7 HB2.out (show w.heap.size ≤ w.heap.size + 2 by omega) zC
    exact hbp.trans (HA.mono hbp.size)
  | some uu =>
    have HC2 : Hid (Calls Tryz.prog 31 #[cval c, .slice a p.length cap] (putW w c k) fun e w' => ∃ y : C, e = .returned (.tuple #[cval y, .bool true]) ∧ Below (putW w c k).heap.size (putW w c k) w') := HC.out.mono fun e w' h => by
      unfold FollowSays at h; rw [hat] at h
      obtain ⟨hb, y, h1, -⟩ := h
      exact ⟨y, h1, hb⟩
    have HAT := Lib.hid hat
    clear HC hat
    go_enter Tryz.func19, Tryz.ntmps19
    go_wp2_with fail
    refine HC2.out.mono ?_
    rintro e w2 ⟨y, rfl, hb2⟩
    have A2 : Hid (Below w2.heap.size w2 (w2.alloc (cbox y))) := (Below.refl _ _).alloc (Nat.le_refl _) _
    have hb2a := hb2.trans (A2.out.mono hb2.size)
    have HB2 := Lib.hid (B1.out.trans (hb2a.mono B1.out.size))
    have C2 := Lib.hid (C1.out.up hb2)
    have K2 := Lib.hid (K1.out.up hb2a)
    have Z2 := Lib.hid (zero_up Z1.out hb2a)
    obtain ⟨c0, c1, c2, c3, c4, c5, c6⟩ := C2.out.cat
    simp only [Nat.zero_add] at c1 c2 c3 c4 c5 c6
    have hlt2 : w.heap.size < w2.heap.size := lt_of_block C2.out
    have HZL : Hid (w.heap.size + 3 ≤ w2.heap.size) := Lib.hid (by have := hb2.size; simpa using this)
    have hne2 : w.heap.size ≠ w2.heap.size := by omega
    have HF := Lib.hid (fresh_any (sz t) t c (w2.alloc (cbox y)) (Nat.le_refl _) (HI.out.up HB2.out))
    clear hb2 hb2a
    go_wp2_with fail
    refine HF.out.mono ?_
    rintro e w3 ⟨d, S3, rfl, hown, hnd, hb3⟩
    have A3 : Hid (Below w3.heap.size w3 (w3.alloc (cbox d))) := (Below.refl _ _).alloc (Nat.le_refl _) _
    have hb3a := hb3.trans (A3.out.mono hb3.size)
    have HB3 := Lib.hid (HB2.out.trans (hb3a.mono HB2.out.size))
    have K3 := Lib.hid (K2.out.up hb3a)
    have Z3 := Lib.hid (zero_up Z2.out hb3a)
    have hsz3 : (w2.alloc (cbox y)).heap.size ≤ w3.heap.size := hb3.size
    have HPL := Lib.hid (place_top (Box7.new w3 d) (hown.up A3.out) hnd (fun hm => by have := (hown.ge _ hm).2; omega) hsz3)
    have HS3 : Hid (w2.heap.size + 1 ≤ w3.heap.size) := Lib.hid (by simpa using hsz3)
    clear hown hnd hb3 hb3a hsz3 c0 c1 c2 c3 c4 c5 c6
    go_wp2
    go_loopg [11, 27] (p.length + 1) (fun g pl i wr => ∃ (n b o : Nat) (u : T), g + n = p.length + 1 ∧ n ≤ p.length ∧ i = .int .i64 n ∧ pl = .pointer (some ⟨b, o, none⟩) ∧ Place (w3.alloc (cbox d)) (w2.alloc (cbox y)).heap.size w3.heap.size t (p.take n) b o u ∧ wr = w3.alloc (cbox d))
    case atStart => exact ⟨0, w3.heap.size, 0, t, by omega, by omega, rfl, rfl, by simpa using HPL.out, rfl⟩
    case round =>
      obtain ⟨n, b, o, u, hg, hn, rfl, rfl, hpl, hwr⟩ := hrel
      rw [hwr]
      clear hwr
      have HG := Lib.hid hg
      have HP := Lib.hid hpl
      clear hg hpl
      by_cases hlt : n < p.length
      · have hlti : (n : Int) < (p.length : Int) := by omega
        obtain ⟨m, hm⟩ : ∃ m, p[n]? = some m := ⟨_, List.getElem?_eq_getElem hlt⟩
        obtain ⟨pb, po, rfl, hf⟩ := int_at HR.out (by omega)
        have p0 := (HB3.out.cell (lt_of_cell (hf n m hm))).trans (hf n m hm)
        clear hf
        obtain ⟨u2, hu2⟩ : ∃ u2, kidAt u m = some u2 := by
          obtain ⟨x', S', cur', hpp⟩ := HP.out
          cases hkk : kidAt u m with
          | some u2 => exact ⟨u2, rfl⟩
          | none =>
            have h1 := atT_stop ((atT_step hpp.path hm).trans hkk)
            rw [HAT.out] at h1; cases h1
        obtain ⟨j, rfl, hj⟩ := kid_some hu2
        obtain ⟨x, g, hcx, hxa, hxn, hpl2⟩ := place_step HP.out hj
        have hjl := (List.getElem?_eq_some_iff.1 hj).1
        have hjli : (j : Int) < (u.kids.length : Int) := by omega
        have x6 := hcx.2.2.2.2.2.2
        rw [hxa, hxn] at x6
        have HP2 := Lib.hid hpl2
        have HTK := Lib.hid (take_snoc hm)
        clear hcx hxa hxn hpl2 hm hu2 hj
        go_wp2
        go_roundg (gk - 1)
        case measure => have := HG.out; omega
        case rel => exact ⟨n + 1, g, j * 7, u2, by have := HG.out; omega, by omega, by go_num, by first | rfl | simp, by rw [HTK.out]; exact HP2.out, rfl⟩
      · obtain rfl : n = p.length := by omega
        have hkl : ((p.length : Int) < (p.length : Int)) = False := by simp
        have HPE : Hid (Place (w3.alloc (cbox d)) (w2.alloc (cbox y)).heap.size w3.heap.size t p b o u) := Lib.hid (by have := HP.out; rw [List.take_length] at this; exact this)
        obtain ⟨q0, q1, q2, q3, q4, q5, q6⟩ := K3.out.cat
        simp only [Nat.zero_add] at q1 q2 q3 q4 q5 q6
        have HF4 := Lib.hid (fresh_any (sz kt) kt k (w3.alloc (cbox d)) (Nat.le_refl _) (HKT.out.up HB3.out))
        go_wp2_with fail
        refine HF4.out.mono ?_
        rintro e w4 ⟨kd, S4, rfl, hown4, -, hb4⟩
        have hend := put_end (rb := w.heap.size + 2) HPE.out hb4 hown4 (by have := HS3.out; simp; omega) (by have := HS3.out; simp; omega) (by have := HZL.out; simp; omega)
        obtain ⟨z, t', hp1, hp2, hp3, hp4⟩ := hend
        have HP1 := Lib.hid hp1
        have HP2 := Lib.hid hp2
        have HP3 := Lib.hid hp3
        have HP4 := Lib.hid hp4
        have HB4 := Lib.hid (HB3.out.trans (hb4.mono HB3.out.size))
        have Z4 := Lib.hid (zero_up Z3.out hb4)
        obtain ⟨x, S, cur, hpa⟩ := HPE.out
        have hbge : (w2.alloc (cbox y)).heap.size ≤ b := hpa.ge
        have hbW := lt_of_block hpa.blk
        obtain ⟨x0, x1, x2, x3, x4, x5, x6⟩ := hpa.cat.up hb4
        have hbk4 : w4.heap[b]? = some (.cells cur 26 (0, 0)) := (hb4.block b hbW).trans hpa.blk
        have f0 := free_of_block hbk4 o
        have f1 := free_of_block hbk4 (o + 1)
        have f2 := free_of_block hbk4 (o + 2)
        have f3 := free_of_block hbk4 (o + 3)
        have f4 := free_of_block hbk4 (o + 4)
        have f5 := free_of_block hbk4 (o + 5)
        have f6 := free_of_block hbk4 (o + 6)
        have HBG : Hid (w.heap.size + 3 ≤ b) := Lib.hid (by have := HZL.out; simp at hbge; omega)
        have ZO : Hid (Zero7 (putO w4 b o kd) (w.heap.size + 2)) := Lib.hid ((putO_other (by have := HBG.out; omega)).trans Z4.out)
        have BO : Hid (Below w.heap.size w (putO w4 b o kd)) := Lib.hid (below_putO HB4.out (by have := HBG.out; omega) o kd)
        clear hp1 hp2 hp3 hp4 hown4 hb4 hpa hbge hbk4 q0 q1 q2 q3 q4 q5 q6
        go_upto_region 12 with (fail)
        change Code.wp _ _ _ _ (putO w4 b o kd)
        generalize putO w4 b o kd = w5 at HP2 HP3 HP4 ZO BO ⊢
        clear x0 x1 x2 x3 x4 x5 x6 f0 f1 f2 f3 f4 f5 f6
        obtain ⟨c0, c1, c2, c3, c4, c5, c6⟩ := HP2.out
        simp only [Nat.zero_add] at c1 c2 c3 c4 c5 c6
        obtain ⟨⟨z0, z1, z2, z3, z4, z5, z6⟩, f0, f1, f2, f3, f4, f5, f6⟩ := zero_parts ZO.out
        go_wp2
        (try simp only [Exit.inBlock, Exit.then])
        refine bodyPost_ret (results_cell2 rfl _ (put7 w5 (w.heap.size + 2) z) (w.heap.size + 2) z rfl ((Box7.of_zero ZO.out).put z)) rfl ?_
        obtain ⟨cs, hcs⟩ := HP4.out
        exact put_some HP1.out rfl HP3.out ⟨cs, hcs.lower (by have := HZL.out; simp; omega)⟩ (below_put7 BO.out (by omega) z)
end Go.Proofs.YtcdiogifgemjbaaGreat
/- The tree in which a kid stands at a path: the program's answer, and what it stands on. -/
namespace Go.Proofs.YtcdiogifgemjbaaGreat
open Go.RowKit

/-- It stands as long as the blocks that the call made do. -/
def PutStands (r : Option T) (w : World) (e : Ending) (w' : World) : Prop := ∃ z, e = .returned (.tuple #[cval z, .bool r.isSome]) ∧ (∀ W' : World, (∀ m, w.heap.size ≤ m → m < w'.heap.size → W'.heap[m]? = w'.heap[m]?) → Is W' z (r.getD zT)) ∧ Below w.heap.size w w'
theorem puts_none {r : Option T} {w w' : World} {e : Ending} (h : r = none) (he : e = .returned (.tuple #[cval zC, .bool false])) (hb : Below w.heap.size w w') : PutStands r w e w' := by
  subst h; exact ⟨zC, he, fun W' _ => zero_is W', hb⟩
theorem puts_some {r : Option T} {u : T} {w w' : World} {e : Ending} {z : C} (h : r = some u) (he : e = .returned (.tuple #[cval z, .bool true])) (hi : ∀ W' : World, (∀ m, w.heap.size ≤ m → m < w'.heap.size → W'.heap[m]? = w'.heap[m]?) → Is W' z u) (hb : Below w.heap.size w w') : PutStands r w e w' := by
  subst h; exact ⟨z, he, hi, hb⟩
/-- What is there behind the last stores, wherever the call's blocks stand. -/
theorem put_endS {W w4 : World} {base B : Nat} {t u kt : T} {p : List Int} {b o : Nat} {kd : C} {S4 : List Nat} (hp : Place W base B t p b o u) (hb : Below W.heap.size W w4) (hk : OwnT w4 W.heap.size kd kt S4) (hbase : base ≤ W.heap.size) (hB : base ≤ B) (hBW : B < W.heap.size) :
    ∃ z t', putT kt t p = some t' ∧ CAt (putO w4 b o kd) B 0 z ∧ ∀ W' : World, (∀ m, base ≤ m → m < w4.heap.size → W'.heap[m]? = (putO w4 b o kd).heap[m]?) → Is W' z t' := by
  obtain ⟨x, S, cur, h⟩ := hp
  have hbW : b < W.heap.size := lt_of_block h.blk
  have hsz := hb.size
  have hblk4 : w4.heap[b]? = some (.cells cur 26 (0, 0)) := (hb.block b hbW).trans h.blk
  have key : ∀ w' : World, (∀ k, base ≤ k → k < w4.heap.size → k ≠ b → w'.heap[k]? = w4.heap[k]?) → w'.heap[b]? = some (.cells (setO cur o kd) 26 (0, 0)) → ∃ z t', putT kt t p = some t' ∧ CAt w' B 0 z ∧ Is w' z t' := fun w' hs hbl => by
    have hkd : OwnT w' W.heap.size kd kt S4 := hk.frame fun m hm => hs m (by have := (hk.ge m hm).1; omega) (hk.ge m hm).2 (by have := (hk.ge m hm).1; omega)
    obtain ⟨cs, Ss, row, -⟩ := hkd.cases'
    obtain ⟨z, t', h1, h2, h3, -⟩ := h.ctx w' kd kt (fun m hm0 hm _ hmb => (hs m hm0 (by omega) hmb).trans (hb.block m hm)) hbl hkd.is ⟨cs, row.lower hbase⟩
    exact ⟨z, t', h1, h2, h3⟩
  obtain ⟨z, t', h1, h2, -⟩ := key (putO w4 b o kd) (fun m _ _ hmb => putO_other hmb) (putO_block hblk4 kd)
  refine ⟨z, t', h1, h2, fun W' hW => ?_⟩
  obtain ⟨z', t'', g1, g2, g3⟩ := key W' (fun m hm0 hm hmb => (hW m hm0 hm).trans (putO_other hmb)) ((hW b h.ge (by omega)).trans (putO_block hblk4 kd))
  have hz : z' = z := by
    have hh : ∀ i, W'.cell? ⟨B, i, none⟩ = (putO w4 b o kd).cell? ⟨B, i, none⟩ := fun i => World.cell?_of_block (a := ⟨B, i, none⟩) (hW B hB (by omega))
    obtain ⟨q0, q1, q2, q3, q4, q5, q6⟩ := h2
    exact cat_inj g2 ⟨(hh _).trans q0, (hh _).trans q1, (hh _).trans q2, (hh _).trans q3, (hh _).trans q4, (hh _).trans q5, (hh _).trans q6⟩
  subst hz
  rw [h1] at g1
  cases g1
  exact g3

set_option maxRecDepth 100000 in
set_option maxHeartbeats 4000000 in
theorem putS_any (t kt : T) (c k : C) (v : Value) (p : List Int) (w : World) (hi : Is w c t) (hk : Is w k kt) (hr : Row w v (ints p)) (hl : p.length ≤ 1000000) : Calls Tryz.prog 19 #[cval c, cval k, v] w (PutStands (putT kt t p) w) := by
  have B1 : Hid (Below w.heap.size w (putW w c k)) := (((Below.refl _ _).alloc (Nat.le_refl _) _).alloc (by simp) _).alloc (by simp; omega) _
  have al : ∀ (x : World) (o : Obj), Below x.heap.size x (x.alloc o) := fun x o => (Below.refl _ _).alloc (Nat.le_refl _) _
  have C1 : Hid (Box7 (putW w c k) w.heap.size c) := Lib.hid (((Box7.new w c).up (al _ _)).up (al _ _))
  have K1 : Hid (Box7 (putW w c k) (w.heap.size + 1) k) := Lib.hid (by
    have := (Box7.new (w.alloc (cbox c)) k).up (al _ zeroBox)
    simpa using this)
  have Z1 : Hid (Zero7 (putW w c k) (w.heap.size + 2)) := Lib.hid (by
    have := zero_new ((w.alloc (cbox c)).alloc (cbox k))
    simpa using this)
  clear al
  have HC := Lib.hid (follow_any w t c v p (putW w c k) B1.out hi hr hl)
  have HI := Lib.hid hi
  have HKT := Lib.hid hk
  have HR := Lib.hid hr
  obtain ⟨a, cap, rfl⟩ := row_shape hr
  clear hi hr hk
  cases hat : atT t p with
  | none =>
    have hpn : Hid (putT kt t p = none) := Lib.hid (by
      have := put_at (kid := kt) (p := p) (t := t)
      rw [hat] at this
      cases h : putT kt t p with
      | none => rfl
      | some x => rw [h] at this; cases this)
    have HC2 : Hid (Calls Tryz.prog 31 #[cval c, .slice a p.length cap] (putW w c k) fun e w' => ∃ y : C, e = .returned (.tuple #[cval y, .bool false]) ∧ Below (putW w c k).heap.size (putW w c k) w') := HC.out.mono fun e w' h => by
      unfold FollowSays at h; rw [hat] at h
      obtain ⟨hb, y, h1⟩ := h
      exact ⟨y, h1, hb⟩
    clear HC hat
    go_enter Tryz.func19, Tryz.ntmps19
    go_wp2_with fail
    refine HC2.out.mono ?_
    rintro e w2 ⟨y, rfl, hb2⟩
    have HB2 := Lib.hid (B1.out.trans (hb2.mono B1.out.size))
    have HZ2 := Lib.hid (zero_up Z1.out hb2)
    have hlt := lt_of_block HZ2.out
    have hne : w.heap.size + 2 ≠ w2.heap.size := by omega
    obtain ⟨⟨z0, z1, z2, z3, z4, z5, z6⟩, f0, f1, f2, f3, f4, f5, f6⟩ := zero_parts HZ2.out
    clear hb2
    go_wp2
    (try simp only [Exit.inBlock, Exit.then])
    have HA : Below (put7 w2 (w.heap.size + 2) zC).heap.size (put7 w2 (w.heap.size + 2) zC) ((put7 w2 (w.heap.size + 2) zC).alloc (cbox y)) := (Below.refl _ _).alloc (Nat.le_refl _) _
    refine bodyPost_ret (results_cell2 rfl _ ((put7 w2 (w.heap.size + 2) zC).alloc (cbox y)) (w.heap.size + 2) zC rfl (((Box7.of_zero HZ2.out).put zC).up HA)) rfl ?_
    refine puts_none hpn.out rfl ?_
    have hbp := below_put7 HB2.out (show w.heap.size ≤ w.heap.size + 2 by omega) zC
    exact hbp.trans (HA.mono hbp.size)
  | some uu =>
    have HC2 : Hid (Calls Tryz.prog 31 #[cval c, .slice a p.length cap] (putW w c k) fun e w' => ∃ y : C, e = .returned (.tuple #[cval y, .bool true]) ∧ Below (putW w c k).heap.size (putW w c k) w') := HC.out.mono fun e w' h => by
      unfold FollowSays at h; rw [hat] at h
      obtain ⟨hb, y, h1, -⟩ := h
      exact ⟨y, h1, hb⟩
    have HAT := Lib.hid hat
    clear HC hat
    go_enter Tryz.func19, Tryz.ntmps19
    go_wp2_with fail
    refine HC2.out.mono ?_
    rintro e w2 ⟨y, rfl, hb2⟩
    have A2 : Hid (Below w2.heap.size w2 (w2.alloc (cbox y))) := (Below.refl _ _).alloc (Nat.le_refl _) _
    have hb2a := hb2.trans (A2.out.mono hb2.size)
    have HB2 := Lib.hid (B1.out.trans (hb2a.mono B1.out.size))
    have C2 := Lib.hid (C1.out.up hb2)
    have K2 := Lib.hid (K1.out.up hb2a)
    have Z2 := Lib.hid (zero_up Z1.out hb2a)
    obtain ⟨c0, c1, c2, c3, c4, c5, c6⟩ := C2.out.cat
    simp only [Nat.zero_add] at c1 c2 c3 c4 c5 c6
    have hlt2 : w.heap.size < w2.heap.size := lt_of_block C2.out
    have HZL : Hid (w.heap.size + 3 ≤ w2.heap.size) := Lib.hid (by have := hb2.size; simpa using this)
    have hne2 : w.heap.size ≠ w2.heap.size := by omega
    have HF := Lib.hid (fresh_any (sz t) t c (w2.alloc (cbox y)) (Nat.le_refl _) (HI.out.up HB2.out))
    clear hb2 hb2a
    go_wp2_with fail
    refine HF.out.mono ?_
    rintro e w3 ⟨d, S3, rfl, hown, hnd, hb3⟩
    have A3 : Hid (Below w3.heap.size w3 (w3.alloc (cbox d))) := (Below.refl _ _).alloc (Nat.le_refl _) _
    have hb3a := hb3.trans (A3.out.mono hb3.size)
    have HB3 := Lib.hid (HB2.out.trans (hb3a.mono HB2.out.size))
    have K3 := Lib.hid (K2.out.up hb3a)
    have Z3 := Lib.hid (zero_up Z2.out hb3a)
    have hsz3 : (w2.alloc (cbox y)).heap.size ≤ w3.heap.size := hb3.size
    have HPL := Lib.hid (place_top (Box7.new w3 d) (hown.up A3.out) hnd (fun hm => by have := (hown.ge _ hm).2; omega) hsz3)
    have HS3 : Hid (w2.heap.size + 1 ≤ w3.heap.size) := Lib.hid (by simpa using hsz3)
    clear hown hnd hb3 hb3a hsz3 c0 c1 c2 c3 c4 c5 c6
    go_wp2
    go_loopg [11, 27] (p.length + 1) (fun g pl i wr => ∃ (n b o : Nat) (u : T), g + n = p.length + 1 ∧ n ≤ p.length ∧ i = .int .i64 n ∧ pl = .pointer (some ⟨b, o, none⟩) ∧ Place (w3.alloc (cbox d)) (w2.alloc (cbox y)).heap.size w3.heap.size t (p.take n) b o u ∧ wr = w3.alloc (cbox d))
    case atStart => exact ⟨0, w3.heap.size, 0, t, by omega, by omega, rfl, rfl, by simpa using HPL.out, rfl⟩
    case round =>
      obtain ⟨n, b, o, u, hg, hn, rfl, rfl, hpl, hwr⟩ := hrel
      rw [hwr]
      clear hwr
      have HG := Lib.hid hg
      have HP := Lib.hid hpl
      clear hg hpl
      by_cases hlt : n < p.length
      · have hlti : (n : Int) < (p.length : Int) := by omega
        obtain ⟨m, hm⟩ : ∃ m, p[n]? = some m := ⟨_, List.getElem?_eq_getElem hlt⟩
        obtain ⟨pb, po, rfl, hf⟩ := int_at HR.out (by omega)
        have p0 := (HB3.out.cell (lt_of_cell (hf n m hm))).trans (hf n m hm)
        clear hf
        obtain ⟨u2, hu2⟩ : ∃ u2, kidAt u m = some u2 := by
          obtain ⟨x', S', cur', hpp⟩ := HP.out
          cases hkk : kidAt u m with
          | some u2 => exact ⟨u2, rfl⟩
          | none =>
            have h1 := atT_stop ((atT_step hpp.path hm).trans hkk)
            rw [HAT.out] at h1; cases h1
        obtain ⟨j, rfl, hj⟩ := kid_some hu2
        obtain ⟨x, g, hcx, hxa, hxn, hpl2⟩ := place_step HP.out hj
        have hjl := (List.getElem?_eq_some_iff.1 hj).1
        have hjli : (j : Int) < (u.kids.length : Int) := by omega
        have x6 := hcx.2.2.2.2.2.2
        rw [hxa, hxn] at x6
        have HP2 := Lib.hid hpl2
        have HTK := Lib.hid (take_snoc hm)
        clear hcx hxa hxn hpl2 hm hu2 hj
        go_wp2
        go_roundg (gk - 1)
        case measure => have := HG.out; omega
        case rel => exact ⟨n + 1, g, j * 7, u2, by have := HG.out; omega, by omega, by go_num, by first | rfl | simp, by rw [HTK.out]; exact HP2.out, rfl⟩
      · obtain rfl : n = p.length := by omega
        have hkl : ((p.length : Int) < (p.length : Int)) = False := by simp
        have HPE : Hid (Place (w3.alloc (cbox d)) (w2.alloc (cbox y)).heap.size w3.heap.size t p b o u) := Lib.hid (by have := HP.out; rw [List.take_length] at this; exact this)
        obtain ⟨q0, q1, q2, q3, q4, q5, q6⟩ := K3.out.cat
        simp only [Nat.zero_add] at q1 q2 q3 q4 q5 q6
        have HF4 := Lib.hid (fresh_any (sz kt) kt k (w3.alloc (cbox d)) (Nat.le_refl _) (HKT.out.up HB3.out))
        go_wp2_with fail
        refine HF4.out.mono ?_
        rintro e w4 ⟨kd, S4, rfl, hown4, -, hb4⟩
        have hend := put_endS HPE.out hb4 hown4 (by have := HS3.out; simp; omega) (by have := HS3.out; simp; omega) (by simp)
        obtain ⟨z, t', hp1, hp2, hp3⟩ := hend
        have HP1 := Lib.hid hp1
        have HP2 := Lib.hid hp2
        have HP3 := Lib.hid hp3
        have HSZ4 : Hid ((putO w4 b o kd).heap.size = w4.heap.size) := Lib.hid (size_putO w4 b o kd)
        have HB4 := Lib.hid (HB3.out.trans (hb4.mono HB3.out.size))
        have Z4 := Lib.hid (zero_up Z3.out hb4)
        obtain ⟨x, S, cur, hpa⟩ := HPE.out
        have hbge : (w2.alloc (cbox y)).heap.size ≤ b := hpa.ge
        have hbW := lt_of_block hpa.blk
        obtain ⟨x0, x1, x2, x3, x4, x5, x6⟩ := hpa.cat.up hb4
        have hbk4 : w4.heap[b]? = some (.cells cur 26 (0, 0)) := (hb4.block b hbW).trans hpa.blk
        have f0 := free_of_block hbk4 o
        have f1 := free_of_block hbk4 (o + 1)
        have f2 := free_of_block hbk4 (o + 2)
        have f3 := free_of_block hbk4 (o + 3)
        have f4 := free_of_block hbk4 (o + 4)
        have f5 := free_of_block hbk4 (o + 5)
        have f6 := free_of_block hbk4 (o + 6)
        have HBG : Hid (w.heap.size + 3 ≤ b) := Lib.hid (by have := HZL.out; simp at hbge; omega)
        have ZO : Hid (Zero7 (putO w4 b o kd) (w.heap.size + 2)) := Lib.hid ((putO_other (by have := HBG.out; omega)).trans Z4.out)
        have BO : Hid (Below w.heap.size w (putO w4 b o kd)) := Lib.hid (below_putO HB4.out (by have := HBG.out; omega) o kd)
        clear hp1 hp2 hp3 hown4 hb4 hpa hbge hbk4 q0 q1 q2 q3 q4 q5 q6
        go_upto_region 12 with (fail)
        change Code.wp _ _ _ _ (putO w4 b o kd)
        generalize putO w4 b o kd = w5 at HP2 HP3 HSZ4 ZO BO ⊢
        clear x0 x1 x2 x3 x4 x5 x6 f0 f1 f2 f3 f4 f5 f6
        obtain ⟨c0, c1, c2, c3, c4, c5, c6⟩ := HP2.out
        simp only [Nat.zero_add] at c1 c2 c3 c4 c5 c6
        obtain ⟨⟨z0, z1, z2, z3, z4, z5, z6⟩, f0, f1, f2, f3, f4, f5, f6⟩ := zero_parts ZO.out
        go_wp2
        (try simp only [Exit.inBlock, Exit.then])
        refine bodyPost_ret (results_cell2 rfl _ (put7 w5 (w.heap.size + 2) z) (w.heap.size + 2) z rfl ((Box7.of_zero ZO.out).put z)) rfl ?_
        refine puts_some HP1.out rfl (fun W' hW => HP3.out W' fun m hm hm4 => ?_) (below_put7 BO.out (by omega) z)
        have h5 := HSZ4.out
        have h6 := HZL.out
        simp at hm
        rw [hW m (by omega) (by rw [size_put7]; omega), heap_put7 (by omega)]
end Go.Proofs.YtcdiogifgemjbaaGreat
/- The cell at a path is spread: the program's answer. -/
namespace Go.Proofs.YtcdiogifgemjbaaGreat
open Go.RowKit

theorem bl_al {w W : World} (h : Below w.heap.size w W) (o : Obj) : Below w.heap.size w (W.alloc o) := h.alloc h.size o
theorem bl_up {w W W' : World} (h : Below w.heap.size w W) (hb : Below W.heap.size W W') : Below w.heap.size w W' := h.trans (hb.mono h.size)
theorem is_al {W : World} {c : C} {t : T} (h : Is W c t) (o : Obj) : Is (W.alloc o) c t := h.up ((Below.refl _ _).alloc (Nat.le_refl _) o)
/-- A zero box, made since. -/
def ZL (w W : World) (k : Nat) : Prop := Zero7 W k ∧ w.heap.size ≤ k
theorem ZL.up {w W W' : World} {k : Nat} (h : ZL w W k) (hb : Below W.heap.size W W') : ZL w W' k := ⟨zero_up h.1 hb, h.2⟩
theorem zl_new {w W : World} (h : Below w.heap.size w W) : ZL w (W.alloc zeroBox) W.heap.size := ⟨zero_new W, h.size⟩
theorem zl_drew {w W : World} (h : Below w.heap.size w W) : ZL w (W.alloc zeroBox).drew W.heap.size := ⟨zero_new W, h.size⟩
/-- A tree of the call's own, in a box of its own. -/
structure Kz (w : World) (k : Nat) (z : C) (y : T) (W : World) : Prop where
  below : Below w.heap.size w W
  far : w.heap.size ≤ k
  box : Box7 W k z
  st : Stands (fun _ => True) W w.heap.size W.heap.size z y
theorem kz_put {w W W5 : World} {k : Nat} {z : C} {y : T} (h : Below w.heap.size w W) (hz : ZL w W k) (hz5 : ZL w W5 k) (hs : Stands (fun _ => True) W W5.heap.size W.heap.size z y) : Kz w k z y (put7 W k z) := by
  have h1 := lt_of_block hz5.1
  have h2 := hz5.2
  refine ⟨below_put7 h hz.2 z, hz.2, (Box7.of_zero hz.1).put z, ?_⟩
  rw [size_put7]
  exact (hs.move (w2 := put7 W k z) fun m hm _ => heap_put7 (by omega)).wide (by omega) (Nat.le_refl _)
theorem kz_new {w W : World} {n : Nat} {z : C} {y : T} (h : Below w.heap.size w W) (hn : w.heap.size ≤ n) (hs : Stands (fun _ => True) W n W.heap.size z y) : Kz w W.heap.size z y (W.alloc (cbox z)) :=
  ⟨bl_al h _, h.size, Box7.new W z, (hs.up ((Below.refl _ _).alloc (Nat.le_refl _) _) (Nat.le_refl _)).wide hn (by simp)⟩
theorem sv_seven {u : T} (hk : u.k ≠ 1) (h : svE u ≠ 0) : svE u = 7 := by
  by_cases ho : okEv (szA u.r (u.k - 1)) u.kids.length
  · by_cases hb : svB u
    · exact svE_bad hk ho hb
    · exact absurd (svE_ok hk ho hb) h
  · exact svE_none hk ho
theorem spw_good {t : T} {w : World} {e : Ending} {w' : World} (h : SpwSays t w e w') (h0 : svE t = 0) : ∃ d, e = .returned (.tuple #[cval d, .bool true]) ∧ Stands (fun _ => True) w' w.heap.size w'.heap.size d (svP t) ∧ Below w.heap.size w w' := by
  obtain ⟨d, h1 | h1, hb⟩ := h
  · exact ⟨d, h1.2.1, h1.2.2, hb⟩
  · exact absurd h0 h1.1
theorem spw_bad {t : T} {w : World} {e : Ending} {w' : World} (h : SpwSays t w e w') (h0 : svE t ≠ 0) : e = .returned (.tuple #[cval zC, .bool false]) ∧ Below w.heap.size w w' := by
  obtain ⟨d, h1 | h1, hb⟩ := h
  · exact absurd h1.1 h0
  · exact ⟨h1.2.2, hb⟩

set_option maxHeartbeats 8000000 in
set_option maxRecDepth 100000 in
theorem patS_any (t : T) (c : C) (v : Value) (p : List Int) (w : World) (hm : sz t ≤ 990) (hi : Is w c t) (hp : Path w v p) (hl : p.length ≤ 1000) : Calls Tryz.prog 7 #[cval c, v] w (AtSays (atE t p) (atS t p) w) := by
  obtain ⟨va, vcap, rfl, -⟩ := hp.cap
  have L0 := Lib.hid (ASt.start w c)
  have HT := Lib.hid (tilesOne_any t c (cellW w c) (L0.out.is hi) (fun _ => by omega) (w.heap.size + 2) (by simp))
  have HI := Lib.hid hi
  have HM := Lib.hid hm
  have HP := Lib.hid hp.row
  have HL := Lib.hid hl
  obtain ⟨c0, c1, c2, c3, c4, c5, c6⟩ := c7_of L0.out.box.cat
  clear hi hm hp hl
  cases ht : tileB t with
  | false =>
    rw [ht] at HT
    have HE : Hid (atE t p = 1) := Lib.hid (by unfold atE; rw [if_neg (by rw [ht]; decide)])
    clear ht
    go_enter Tryz.func7, Tryz.ntmps7
    go_wp2_with fail
    refine HT.out.mono ?_
    rintro e w1 ⟨rfl, hb1⟩
    have L1 := Lib.hid (L0.out.up hb1)
    clear hb1 c0 c1 c2 c3 c4 c5 c6 HT L0
    obtain ⟨⟨z0, z1, z2, z3, z4, z5, z6⟩, f0, f1, f2, f3, f4, f5, f6⟩ := zero_parts L1.out.zero
    go_wp2
    (try simp only [Exit.inBlock, Exit.then])
    refine bodyPost_ret (results_c2 rfl _ _ (w.heap.size + 1) zC rfl ((Box7.of_zero L1.out.zero).put zC)) rfl ?_
    rw [HE.out]
    exact at_err (by decide) (below_put7 L1.out.below (by omega) zC)
  | true =>
    rw [ht] at HT
    have HTT := Lib.hid ht
    clear ht
    go_enter Tryz.func7, Tryz.ntmps7
    go_wp2_with fail
    refine HT.out.mono ?_
    rintro e w1 ⟨rfl, hb1⟩
    have L1 := Lib.hid (L0.out.up hb1)
    clear hb1 c0 c1 c2 c3 c4 c5 c6 HT L0
    have HAT := Lib.hid (at_any t c _ p w1 (L1.out.is HI.out) (HP.out.up L1.out.below) (by have := HL.out; omega))
    obtain ⟨c0, c1, c2, c3, c4, c5, c6⟩ := c7_of L1.out.box.cat
    cases hu : atT t p with
    | none =>
      rw [hu] at HAT
      have HE : Hid (atE t p = 6) := Lib.hid (by unfold atE; rw [if_pos HTT.out, hu, if_neg (by decide)])
      clear hu
      go_wp2_with fail
      refine HAT.out.mono ?_
      rintro e w2 ⟨d, rfl, -, hb2⟩
      have AL : Below w2.heap.size w2 (w2.alloc (cbox d)) := (Below.refl _ _).alloc (Nat.le_refl _) _
      have L2 := Lib.hid ((L1.out.up hb2).up AL)
      clear hb2 AL c0 c1 c2 c3 c4 c5 c6 HAT
      go_upto_region 5 with fail
      change Code.wp _ _ _ _ (w2.alloc (cbox d))
      generalize w2.alloc (cbox d) = W2 at L2 ⊢
      obtain ⟨⟨z0, z1, z2, z3, z4, z5, z6⟩, f0, f1, f2, f3, f4, f5, f6⟩ := zero_parts L2.out.zero
      go_wp2
      (try simp only [Exit.inBlock, Exit.then])
      refine bodyPost_ret (results_c2 rfl _ _ (w.heap.size + 1) zC rfl ((Box7.of_zero L2.out.zero).put zC)) rfl ?_
      rw [HE.out]
      exact at_err (by decide) (below_put7 L2.out.below (by omega) zC)
    | some u =>
      rw [hu] at HAT
      have hua := tile_at (by have := HM.out; omega) HTT.out hu
      have HE : Hid (atE t p = svE u) := Lib.hid (by unfold atE; rw [if_pos HTT.out, hu]; rfl)
      have HPT : Hid (putT (setT u.r.x u.r.y (svP u)) t p = some (atS t p)) := Lib.hid (at_put (by have := HM.out; omega) HTT.out hu)
      have HUA : Hid (tileB u = true ∧ sz u ≤ 990) := Lib.hid ⟨hua.1, by have := hua.2; have := HM.out; omega⟩
      clear hu hua
      go_wp2_with fail
      refine HAT.out.mono ?_
      rintro e w2 ⟨d, rfl, hd, hb2⟩
      have AL : Below w2.heap.size w2 (w2.alloc (cbox d)) := (Below.refl _ _).alloc (Nat.le_refl _) _
      have L2 := Lib.hid ((L1.out.up hb2).up AL)
      have X2 := Lib.hid (Box7.new w2 d)
      have I2 := Lib.hid ((show Is w2 d u from hd).up AL)
      have HB2 : Hid (w.heap.size + 1 < w2.heap.size) := Lib.hid (by have := lt_of_block L1.out.zero; have := hb2.size; omega)
      clear hb2 AL hd c0 c1 c2 c3 c4 c5 c6 HAT
      go_upto_region 6 with fail
      change Code.wp _ _ _ _ (w2.alloc (cbox d))
      generalize w2.alloc (cbox d) = W2 at L2 X2 I2 ⊢
      generalize w2.heap.size = bx at X2 HB2 ⊢
      obtain ⟨q0, q1, q2, q3, q4, q5, q6⟩ := c7_of X2.out.cat
      by_cases hk1 : u.k = 1
      · have d1 : (d.k == 1) = true := by rw [← I2.out.split.1, hk1]; rfl
        have HE1 : Hid (atE t p = 10) := Lib.hid (HE.out.trans (svE_leaf hk1))
        clear hk1
        obtain ⟨⟨z0, z1, z2, z3, z4, z5, z6⟩, f0, f1, f2, f3, f4, f5, f6⟩ := zero_parts L2.out.zero
        go_wp2
        (try simp only [Exit.inBlock, Exit.then])
        refine bodyPost_ret (results_c2 rfl _ _ (w.heap.size + 1) zC rfl ((Box7.of_zero L2.out.zero).put zC)) rfl ?_
        rw [HE1.out]
        exact at_err (by decide) (below_put7 L2.out.below (by omega) zC)
      have d1 : (d.k == 1) = false := by rw [beq_eq_false_iff_ne, ← I2.out.split.1]; exact hk1
      have HLO := Lib.hid (fun (W : World) (hb : Below W2.heap.size W2 W) => lowest_any (sz u) u d W (Nat.le_refl _) HUA.out.2 (ok_may (tile_may HUA.out.1)) (I2.out.up hb))
      have HSP := Lib.hid (fun (l : C) (W : World) (hb : Below W2.heap.size W2 W) (hl : Is W l (loT u)) => spread_any u d l W HUA.out.2 HUA.out.1 (I2.out.up hb) hl)
      have HX1 : Hid (∀ W, Below W2.heap.size W2 W → C7 bx d W) := Lib.hid fun W hb => c7_of (X2.out.up hb).cat
      have D0 : Hid (Below W2.heap.size W2 W2.drew) := Lib.hid (Below.refl _ _).drew
      have Dz : Hid (Below W2.heap.size W2 (W2.alloc zeroBox).drew) := Lib.hid (bl_al (Below.refl _ _) _).drew
      have Dy : Hid (Below W2.heap.size W2 (W2.drew.alloc zeroBox)) := Lib.hid (bl_al D0.out _)
      have ZZ : Hid (ZL W2 (W2.alloc zeroBox).drew W2.heap.size) := Lib.hid (zl_drew (Below.refl _ _))
      have ZY : Hid (ZL W2 (W2.drew.alloc zeroBox) W2.drew.heap.size) := Lib.hid (zl_new D0.out)
      by_cases h0 : svE u = 0
      case' neg =>
        have HE7 : Hid (atE t p = 7) := Lib.hid (HE.out.trans (sv_seven hk1 h0))
        have HSB : Hid (∀ (l : C) (W : World), Below W2.heap.size W2 W → Is W l (loT u) → Calls Tryz.prog 17 #[cval d, cval l] W fun e w' => e = .returned (.tuple #[cval zC, .bool false]) ∧ Below W.heap.size W w') := Lib.hid fun l W hb hl => (HSP.out l W hb hl).mono fun e w' h => spw_bad h h0
        clear hk1 h0 HSP
        go_wp2_with fail
        go_region_held3 (fun W => W.cell? ⟨bx, 0, none⟩ = some (.int .u8 d.k) ∧ W.cell? ⟨bx, 1, none⟩ = some (.int .i64 d.r.x) ∧ W.cell? ⟨bx, 2, none⟩ = some (.int .i64 d.r.y) ∧ W.cell? ⟨bx, 3, none⟩ = some (.int .i64 d.r.w) ∧ W.cell? ⟨bx, 4, none⟩ = some (.int .i64 d.r.h) ∧ W.cell? ⟨bx, 5, none⟩ = some (.int .i64 d.id) ∧ W.cell? ⟨bx, 6, none⟩ = some (.slice d.a d.n d.cap)) (exact HX1.out _ (by first | with_reducible exact D0.out | with_reducible exact Dz.out | with_reducible exact Dy.out | with_reducible exact L5.out | with_reducible exact bl_al L5.out _ | with_reducible exact L6.out | with_reducible exact bl_al L6.out _ | with_reducible exact P6.out))
          (first
            | (go_at_call 18; (with_reducible refine (HLO.out _ (by first | with_reducible exact D0.out | with_reducible exact Dz.out | with_reducible exact Dy.out)).mono ?_); rintro e w5 ⟨l5, rfl, hst5, hb5⟩; have L5 := Lib.hid (bl_up (by first | with_reducible exact D0.out | with_reducible exact Dz.out | with_reducible exact Dy.out) hb5); have I5 := Lib.hid (hst5.is trivial); (first | with_reducible have Z5 := Lib.hid (ZZ.out.up hb5) | with_reducible have Z5 := Lib.hid (ZY.out.up hb5) | have N5 := Lib.hid True.intro); clear hst5 hb5)
            | (go_at_call 17; (with_reducible refine (HSB.out l5 _ (by first | with_reducible exact L5.out | with_reducible exact bl_al L5.out _) (by first | with_reducible exact I5.out | with_reducible exact is_al I5.out _)).mono ?_); rintro e w6 ⟨rfl, hb6⟩; have L6 := Lib.hid (bl_up (by first | with_reducible exact L5.out | with_reducible exact bl_al L5.out _) hb6); (first | ((with_reducible have Z6 := Lib.hid (Z5.out.up hb6)); have ZM := Lib.hid Z5.out; have P6 := Lib.hid (below_put7 L6.out Z6.out.2 zC); obtain ⟨⟨z0, z1, z2, z3, z4, z5, z6⟩, f0, f1, f2, f3, f4, f5, f6⟩ := zero_parts Z6.out.1) | ((with_reducible have Z6 := Lib.hid ((zl_new L5.out).up hb6)); have ZM := Lib.hid (zl_new L5.out); have P6 := Lib.hid (below_put7 L6.out Z6.out.2 zC); obtain ⟨⟨z0, z1, z2, z3, z4, z5, z6⟩, f0, f1, f2, f3, f4, f5, f6⟩ := zero_parts Z6.out.1) | (have HL5 := Lib.hid L5.out.size; have N6 := Lib.hid True.intro)); clear hb6))
        all_goals (rename_i hh9; clear hh9)
        all_goals first
          | (have B8 := Lib.hid P6.out; change Exit.then _ _ _ _ (put7 w6 _ zC); generalize put7 w6 _ zC = w8 at B8 ⊢)
          | (have B8 := Lib.hid (bl_al L6.out (cbox zC)); generalize w6.alloc (cbox zC) = w8 at B8 ⊢)
        all_goals (try clear z0 z1 z2 z3 z4 z5 z6 f0 f1 f2 f3 f4 f5 f6)
        all_goals
          have L8 := Lib.hid (L2.out.up B8.out)
          obtain ⟨⟨z0, z1, z2, z3, z4, z5, z6⟩, f0, f1, f2, f3, f4, f5, f6⟩ := zero_parts L8.out.zero
          go_wp2
          (try simp only [Exit.inBlock, Exit.then])
          refine bodyPost_ret (results_c2 rfl _ _ (w.heap.size + 1) zC rfl ((Box7.of_zero L8.out.zero).put zC)) rfl ?_
          rw [HE7.out]
          exact at_err (by decide) (below_put7 L8.out.below (by omega) zC)
      have HE0 : Hid (atE t p = 0) := Lib.hid (HE.out.trans h0)
      have HSY : Hid (∀ (l : C) (W : World), Below W2.heap.size W2 W → Is W l (loT u) → Calls Tryz.prog 17 #[cval d, cval l] W fun e w' => ∃ x, e = .returned (.tuple #[cval x, .bool true]) ∧ Stands (fun _ => True) w' W.heap.size w'.heap.size x (svP u) ∧ Below W.heap.size W w') := Lib.hid fun l W hb hl => (HSP.out l W hb hl).mono fun e w' h => spw_good h h0
      clear hk1 h0 HSP
      go_wp2_with fail
      go_region_held3 (fun W => W.cell? ⟨bx, 0, none⟩ = some (.int .u8 d.k) ∧ W.cell? ⟨bx, 1, none⟩ = some (.int .i64 d.r.x) ∧ W.cell? ⟨bx, 2, none⟩ = some (.int .i64 d.r.y) ∧ W.cell? ⟨bx, 3, none⟩ = some (.int .i64 d.r.w) ∧ W.cell? ⟨bx, 4, none⟩ = some (.int .i64 d.r.h) ∧ W.cell? ⟨bx, 5, none⟩ = some (.int .i64 d.id) ∧ W.cell? ⟨bx, 6, none⟩ = some (.slice d.a d.n d.cap)) (exact HX1.out _ (by first | with_reducible exact D0.out | with_reducible exact Dz.out | with_reducible exact Dy.out | with_reducible exact L5.out | with_reducible exact bl_al L5.out _ | with_reducible exact L6.out | with_reducible exact bl_al L6.out _ | with_reducible exact P6.out))
        (first
          | (go_at_call 18; (with_reducible refine (HLO.out _ (by first | with_reducible exact D0.out | with_reducible exact Dz.out | with_reducible exact Dy.out)).mono ?_); rintro e w5 ⟨l5, rfl, hst5, hb5⟩; have L5 := Lib.hid (bl_up (by first | with_reducible exact D0.out | with_reducible exact Dz.out | with_reducible exact Dy.out) hb5); have I5 := Lib.hid (hst5.is trivial); (first | with_reducible have Z5 := Lib.hid (ZZ.out.up hb5) | with_reducible have Z5 := Lib.hid (ZY.out.up hb5) | have N5 := Lib.hid True.intro); clear hst5 hb5)
          | (go_at_call 17; (with_reducible refine (HSY.out l5 _ (by first | with_reducible exact L5.out | with_reducible exact bl_al L5.out _) (by first | with_reducible exact I5.out | with_reducible exact is_al I5.out _)).mono ?_); rintro e w6 ⟨x6, rfl, hst6, hb6⟩; have L6 := Lib.hid (bl_up (by first | with_reducible exact L5.out | with_reducible exact bl_al L5.out _) hb6); have ST6 := Lib.hid hst6; (first | ((with_reducible have Z6 := Lib.hid (Z5.out.up hb6)); have ZM := Lib.hid Z5.out; have P6 := Lib.hid (below_put7 L6.out Z6.out.2 x6); obtain ⟨⟨z0, z1, z2, z3, z4, z5, z6⟩, f0, f1, f2, f3, f4, f5, f6⟩ := zero_parts Z6.out.1) | ((with_reducible have Z6 := Lib.hid ((zl_new L5.out).up hb6)); have ZM := Lib.hid (zl_new L5.out); have P6 := Lib.hid (below_put7 L6.out Z6.out.2 x6); obtain ⟨⟨z0, z1, z2, z3, z4, z5, z6⟩, f0, f1, f2, f3, f4, f5, f6⟩ := zero_parts Z6.out.1) | (have HL5 := Lib.hid L5.out.size; have N6 := Lib.hid True.intro)); clear hst6 hb6))
      all_goals (rename_i hh9; clear hh9)
      all_goals first
        | (have K0 := Lib.hid (kz_put L6.out Z6.out ZM.out ST6.out); change Exit.then _ _ _ _ (put7 w6 _ x6); generalize put7 w6 _ x6 = w8 at K0 ⊢; (first | ((with_reducible have K : Hid (Kz W2 W2.heap.size x6 (svP u) w8) := K0); clear K0; generalize W2.heap.size = bk at K ⊢) | ((with_reducible have K : Hid (Kz W2 w5.heap.size x6 (svP u) w8) := K0); clear K0; generalize w5.heap.size = bk at K ⊢)))
        | (have K := Lib.hid (kz_new L6.out HL5.out ST6.out); generalize w6.alloc (cbox x6) = w8 at K ⊢; generalize w6.heap.size = bk at K ⊢)
      all_goals (try clear z0 z1 z2 z3 z4 z5 z6 f0 f1 f2 f3 f4 f5 f6)
      all_goals
        have L8 := Lib.hid (L2.out.up K.out.below)
        have I8 := Lib.hid (K.out.st.is trivial)
        have hx8 := kid_cell I8.out
        have hxr : u.r = x6.r := hx8.2.2.2.2.1
        have HSET := Lib.hid (fun (W : World) (hb : Below w8.heap.size w8 W) => set_any (sz (svP u)) (svP u) x6 x6.r.x x6.r.y W (Nat.le_refl _) hx8.2.1.1 hx8.2.1.2.1 (I8.out.up hb))
        have HPUT : Hid (∀ (d5 : C) (W : World), Below w8.heap.size w8 W → Is W d5 (setT x6.r.x x6.r.y (svP u)) → Calls Tryz.prog 19 #[cval c, cval d5, .slice va p.length vcap] W fun e w' => ∃ z, e = .returned (.tuple #[cval z, .bool true]) ∧ Stands (fun _ => True) w' W.heap.size w'.heap.size z (atS t p) ∧ Below W.heap.size W w') := Lib.hid fun d5 W hb hI => by
          refine (putS_any t (setT x6.r.x x6.r.y (svP u)) c d5 (.slice va p.length vcap) p W ((L8.out.is HI.out).up hb) hI (HP.out.up (L8.out.below.trans (hb.mono L8.out.below.size))) (by have := HL.out; omega)).mono ?_
          rintro e w' ⟨z, rfl, hst, hb'⟩
          rw [← hxr, HPT.out] at hst ⊢
          exact ⟨z, rfl, fun W' _ hW => hst W' hW, hb'⟩
        have HX2 : Hid (∀ W, Below w8.heap.size w8 W → C7 w.heap.size c W ∧ C7 bk x6 W) := Lib.hid fun W hb => ⟨c7_of (L8.out.box.up hb).cat, c7_of (K.out.box.up hb).cat⟩
        have E0 : Hid (Below w8.heap.size w8 w8.drew) := Lib.hid (Below.refl _ _).drew
        have Ez : Hid (Below w8.heap.size w8 (w8.alloc zeroBox).drew) := Lib.hid (bl_al (Below.refl _ _) _).drew
        have Ey : Hid (Below w8.heap.size w8 (w8.drew.alloc zeroBox)) := Lib.hid (bl_al E0.out _)
        have YZ : Hid (ZL w8 (w8.alloc zeroBox).drew w8.heap.size) := Lib.hid (zl_drew (Below.refl _ _))
        have YY : Hid (ZL w8 (w8.drew.alloc zeroBox) w8.drew.heap.size) := Lib.hid (zl_new E0.out)
        have HW8 : Hid (w.heap.size + 1 < w8.heap.size) := Lib.hid (lt_of_block L8.out.zero)
        clear hx8 hxr
        go_wp2_with fail
        go_region_held3 (fun W => (W.cell? ⟨w.heap.size, 0, none⟩ = some (.int .u8 c.k) ∧ W.cell? ⟨w.heap.size, 1, none⟩ = some (.int .i64 c.r.x) ∧ W.cell? ⟨w.heap.size, 2, none⟩ = some (.int .i64 c.r.y) ∧ W.cell? ⟨w.heap.size, 3, none⟩ = some (.int .i64 c.r.w) ∧ W.cell? ⟨w.heap.size, 4, none⟩ = some (.int .i64 c.r.h) ∧ W.cell? ⟨w.heap.size, 5, none⟩ = some (.int .i64 c.id) ∧ W.cell? ⟨w.heap.size, 6, none⟩ = some (.slice c.a c.n c.cap)) ∧ (W.cell? ⟨bk, 0, none⟩ = some (.int .u8 x6.k) ∧ W.cell? ⟨bk, 1, none⟩ = some (.int .i64 x6.r.x) ∧ W.cell? ⟨bk, 2, none⟩ = some (.int .i64 x6.r.y) ∧ W.cell? ⟨bk, 3, none⟩ = some (.int .i64 x6.r.w) ∧ W.cell? ⟨bk, 4, none⟩ = some (.int .i64 x6.r.h) ∧ W.cell? ⟨bk, 5, none⟩ = some (.int .i64 x6.id) ∧ W.cell? ⟨bk, 6, none⟩ = some (.slice x6.a x6.n x6.cap))) (exact HX2.out _ (by first | with_reducible exact E0.out | with_reducible exact Ez.out | with_reducible exact Ey.out | with_reducible exact M5.out | with_reducible exact bl_al M5.out _ | with_reducible exact M6.out | with_reducible exact bl_al M6.out _ | with_reducible exact Q6.out))
          (first
            | (go_at_call 20; (with_reducible refine (HSET.out _ (by first | with_reducible exact E0.out | with_reducible exact Ez.out | with_reducible exact Ey.out)).mono ?_); rintro e w9 ⟨d5, S5, rfl, hown5, -, hb5⟩; have M5 := Lib.hid (bl_up (by first | with_reducible exact E0.out | with_reducible exact Ez.out | with_reducible exact Ey.out) hb5); have J5 := Lib.hid hown5.is; (first | with_reducible have Y5 := Lib.hid (YZ.out.up hb5) | with_reducible have Y5 := Lib.hid (YY.out.up hb5) | have N5 := Lib.hid True.intro); clear hown5 hb5)
            | (go_at_call 19; (with_reducible refine (HPUT.out d5 _ (by first | with_reducible exact M5.out | with_reducible exact bl_al M5.out _) (by first | with_reducible exact J5.out | with_reducible exact is_al J5.out _)).mono ?_); rintro e w10 ⟨z9, rfl, hst6, hb6⟩; have M6 := Lib.hid (bl_up (by first | with_reducible exact M5.out | with_reducible exact bl_al M5.out _) hb6); have RT6 := Lib.hid hst6; (first | ((with_reducible have Y6 := Lib.hid (Y5.out.up hb6)); have YM := Lib.hid Y5.out; have Q6 := Lib.hid (below_put7 M6.out Y6.out.2 z9); obtain ⟨⟨z0, z1, z2, z3, z4, z5, z6⟩, f0, f1, f2, f3, f4, f5, f6⟩ := zero_parts Y6.out.1) | ((with_reducible have Y6 := Lib.hid ((zl_new M5.out).up hb6)); have YM := Lib.hid (zl_new M5.out); have Q6 := Lib.hid (below_put7 M6.out Y6.out.2 z9); obtain ⟨⟨z0, z1, z2, z3, z4, z5, z6⟩, f0, f1, f2, f3, f4, f5, f6⟩ := zero_parts Y6.out.1) | (have HM5 := Lib.hid M5.out.size; have N6 := Lib.hid True.intro)); clear hst6 hb6))
        all_goals (rename_i hh9; clear hh9)
        all_goals first
          | (have K1 := Lib.hid (kz_put M6.out Y6.out YM.out RT6.out); change Exit.then _ _ _ _ (put7 w10 _ z9); generalize put7 w10 _ z9 = w12 at K1 ⊢; (first | ((with_reducible have K2 : Hid (Kz w8 w8.heap.size z9 (atS t p) w12) := K1); clear K1; generalize w8.heap.size = bl at K2 HW8 ⊢) | ((with_reducible have K2 : Hid (Kz w8 w9.heap.size z9 (atS t p) w12) := K1); clear K1; generalize w9.heap.size = bl at K2 ⊢)))
          | (have K2 := Lib.hid (kz_new M6.out HM5.out RT6.out); generalize w10.alloc (cbox z9) = w12 at K2 ⊢; generalize w10.heap.size = bl at K2 ⊢)
        all_goals (try clear z0 z1 z2 z3 z4 z5 z6 f0 f1 f2 f3 f4 f5 f6)
        all_goals
          have L12 := Lib.hid (L8.out.up K2.out.below)
          have FIN : Hid (AtSays (atE t p) (atS t p) w (.returned (.tuple #[cval z9, .int .i64 0])) (put7 w12 (w.heap.size + 1) z9)) := Lib.hid (at_ok HE0.out (by
            rw [size_put7]
            exact (K2.out.st.move (w2 := put7 w12 (w.heap.size + 1) z9) fun m hm _ => heap_put7 (by have := lt_of_block L8.out.zero; omega)).wide (by have := lt_of_block L8.out.zero; omega) (Nat.le_refl _)) (below_put7 L12.out.below (by omega) z9))
          obtain ⟨q0, q1, q2, q3, q4, q5, q6⟩ := c7_of K2.out.box.cat
          obtain ⟨⟨z0, z1, z2, z3, z4, z5, z6⟩, g0, g1, g2, g3, g4, g5, g6⟩ := zero_parts L12.out.zero
          go_wp2
          (try simp only [Exit.inBlock, Exit.then])
          refine bodyPost_ret (results_c2 rfl _ _ (w.heap.size + 1) z9 rfl ((Box7.of_zero L12.out.zero).put z9)) rfl ?_
          exact FIN.out
theorem pat_any : SpAtK := fun t c v p w hm hi hp hl => (patS_any t c v p w hm hi hp hl).mono fun _ _ h => at_all h
end Go.Proofs.YtcdiogifgemjbaaGreat
