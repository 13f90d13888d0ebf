/- Texts of this seat, 3 in one file. -/
import Derived.Test.YtbbjnimadnbmnaaGreatG42
import Derived.Test.YtbbjnimadnbmnaaGreatG39
import Derived.Test.YtbbjnimadnbmnaaGreatG31
import Derived.Test.YtbbjnimadnbmnaaGreatG29
import Derived.Test.YtbbjnimadnbmnaaGreatG30
/- One cell gives way to two: slices.Replace. -/
namespace Go.Proofs.YtbbjnimadnbmnaaGreat
open Go.RowKit

theorem replace_any (xs ps : List C) (n k base g cap pg : Nat) (w : World) (hown : OwnC w base (.slice (some ⟨g, 0, none⟩) n cap) xs) (hp : OwnC w 0 (.slice (some ⟨pg, 0, none⟩) 2 2) ps) (hne : g ≠ pg) (hk : k < n) (hn : n ≤ 100000) :
    Calls Tryz.prog 51 #[.slice (some ⟨g, 0, none⟩) n cap, .int .i64 (k : Int), .int .i64 ((k : Int) + 1), .slice (some ⟨pg, 0, none⟩) 2 2] w fun e w' => ∃ g' cap', e = .returned (.slice (some ⟨g', 0, none⟩) (n + 1) cap') ∧ OwnC w' base (.slice (some ⟨g', 0, none⟩) (n + 1) cap') (xs.take k ++ ps ++ xs.drop (k + 1)) ∧ w.grownBy w' (some g) ∧ (g' = g ∨ g' = w.heap.size) := by
  rcases Nat.lt_or_ge (k + 1) n with h | h
  · rcases Nat.lt_or_ge cap (n + 1) with hc | hc
    · refine (repl_grow xs ps n k base g cap pg w hown hp h hc hn).mono ?_
      rintro e w' ⟨cap', he, ho, hb⟩
      exact ⟨_, _, he, ho, Below.gb hb _, .inr rfl⟩
    · refine (repl_room xs ps n k base g cap pg w hown hp hne h hc hn).mono ?_
      rintro e w' ⟨he, ho, hg⟩
      exact ⟨_, _, he, ho, hg, .inl rfl⟩
  · obtain rfl : n = k + 1 := by omega
    have hl := hown.row.len
    have hd : xs.drop (k + 1) = [] := List.drop_eq_nil_of_le (by omega)
    refine (repl_end xs ps k base g cap _ _ w hown hp.row hp.row.len.symm (by omega)).mono ?_
    rintro e w' ⟨g', cap', he, ho, hg, hw⟩
    exact ⟨g', cap', he, by rw [hd, List.append_nil]; exact ho, hg, hw⟩
end Go.Proofs.YtbbjnimadnbmnaaGreat
/- The tree in which a kid stands at a path: the program's answer, and what it stands on. -/
namespace Go.Proofs.YtbbjnimadnbmnaaGreat
open Go.RowKit

/-- It stands as long as the blocks that the call made do. -/
def PutStands (r : Option T) (w : World) (e : Ending) (w' : World) : Prop := ∃ z, e = .returned (.tuple #[cval z, .bool r.isSome]) ∧ (∀ W' : World, (∀ m, w.heap.size ≤ m → m < w'.heap.size → W'.heap[m]? = w'.heap[m]?) → Is W' z (r.getD zT)) ∧ Below w.heap.size w w'
theorem puts_none {r : Option T} {w w' : World} {e : Ending} (h : r = none) (he : e = .returned (.tuple #[cval zC, .bool false])) (hb : Below w.heap.size w w') : PutStands r w e w' := by
  subst h; exact ⟨zC, he, fun W' _ => zero_is W', hb⟩
theorem puts_some {r : Option T} {u : T} {w w' : World} {e : Ending} {z : C} (h : r = some u) (he : e = .returned (.tuple #[cval z, .bool true])) (hi : ∀ W' : World, (∀ m, w.heap.size ≤ m → m < w'.heap.size → W'.heap[m]? = w'.heap[m]?) → Is W' z u) (hb : Below w.heap.size w w') : PutStands r w e w' := by
  subst h; exact ⟨z, he, hi, hb⟩
/-- What is there behind the last stores, wherever the call's blocks stand. -/
theorem put_endS {W w4 : World} {base B : Nat} {t u kt : T} {p : List Int} {b o : Nat} {kd : C} {S4 : List Nat} (hp : Place W base B t p b o u) (hb : Below W.heap.size W w4) (hk : OwnT w4 W.heap.size kd kt S4) (hbase : base ≤ W.heap.size) (hB : base ≤ B) (hBW : B < W.heap.size) :
    ∃ z t', putT kt t p = some t' ∧ CAt (putO w4 b o kd) B 0 z ∧ ∀ W' : World, (∀ m, base ≤ m → m < w4.heap.size → W'.heap[m]? = (putO w4 b o kd).heap[m]?) → Is W' z t' := by
  obtain ⟨x, S, cur, h⟩ := hp
  have hbW : b < W.heap.size := lt_of_block h.blk
  have hsz := hb.size
  have hblk4 : w4.heap[b]? = some (.cells cur 26 (0, 0)) := (hb.block b hbW).trans h.blk
  have key : ∀ w' : World, (∀ k, base ≤ k → k < w4.heap.size → k ≠ b → w'.heap[k]? = w4.heap[k]?) → w'.heap[b]? = some (.cells (setO cur o kd) 26 (0, 0)) → ∃ z t', putT kt t p = some t' ∧ CAt w' B 0 z ∧ Is w' z t' := fun w' hs hbl => by
    have hkd : OwnT w' W.heap.size kd kt S4 := hk.frame fun m hm => hs m (by have := (hk.ge m hm).1; omega) (hk.ge m hm).2 (by have := (hk.ge m hm).1; omega)
    obtain ⟨cs, Ss, row, -⟩ := hkd.cases'
    obtain ⟨z, t', h1, h2, h3, -⟩ := h.ctx w' kd kt (fun m hm0 hm _ hmb => (hs m hm0 (by omega) hmb).trans (hb.block m hm)) hbl hkd.is ⟨cs, row.lower hbase⟩
    exact ⟨z, t', h1, h2, h3⟩
  obtain ⟨z, t', h1, h2, -⟩ := key (putO w4 b o kd) (fun m _ _ hmb => putO_other hmb) (putO_block hblk4 kd)
  refine ⟨z, t', h1, h2, fun W' hW => ?_⟩
  obtain ⟨z', t'', g1, g2, g3⟩ := key W' (fun m hm0 hm hmb => (hW m hm0 hm).trans (putO_other hmb)) ((hW b h.ge (by omega)).trans (putO_block hblk4 kd))
  have hz : z' = z := by
    have hh : ∀ i, W'.cell? ⟨B, i, none⟩ = (putO w4 b o kd).cell? ⟨B, i, none⟩ := fun i => World.cell?_of_block (a := ⟨B, i, none⟩) (hW B hB (by omega))
    obtain ⟨q0, q1, q2, q3, q4, q5, q6⟩ := h2
    exact cat_inj g2 ⟨(hh _).trans q0, (hh _).trans q1, (hh _).trans q2, (hh _).trans q3, (hh _).trans q4, (hh _).trans q5, (hh _).trans q6⟩
  subst hz
  rw [h1] at g1
  cases g1
  exact g3

set_option maxRecDepth 100000 in
set_option maxHeartbeats 4000000 in
theorem putS_any (t kt : T) (c k : C) (v : Value) (p : List Int) (w : World) (hi : Is w c t) (hk : Is w k kt) (hr : Row w v (ints p)) (hl : p.length ≤ 1000000) : Calls Tryz.prog 52 #[cval c, cval k, v] w (PutStands (putT kt t p) w) := by
  have B1 : Hid (Below w.heap.size w (putW w c k)) := (((Below.refl _ _).alloc (Nat.le_refl _) _).alloc (by simp) _).alloc (by simp; omega) _
  have al : ∀ (x : World) (o : Obj), Below x.heap.size x (x.alloc o) := fun x o => (Below.refl _ _).alloc (Nat.le_refl _) _
  have C1 : Hid (Box7 (putW w c k) w.heap.size c) := Lib.hid (((Box7.new w c).up (al _ _)).up (al _ _))
  have K1 : Hid (Box7 (putW w c k) (w.heap.size + 1) k) := Lib.hid (by
    have := (Box7.new (w.alloc (cbox c)) k).up (al _ zeroBox)
    simpa using this)
  have Z1 : Hid (Zero7 (putW w c k) (w.heap.size + 2)) := Lib.hid (by
    have := zero_new ((w.alloc (cbox c)).alloc (cbox k))
    simpa using this)
  clear al
  have HC := Lib.hid (follow_any w t c v p (putW w c k) B1.out hi hr hl)
  have HI := Lib.hid hi
  have HKT := Lib.hid hk
  have HR := Lib.hid hr
  obtain ⟨a, cap, rfl⟩ := row_shape hr
  clear hi hr hk
  cases hat : atT t p with
  | none =>
    have hpn : Hid (putT kt t p = none) := Lib.hid (by
      have := put_at (kid := kt) (p := p) (t := t)
      rw [hat] at this
      cases h : putT kt t p with
      | none => rfl
      | some x => rw [h] at this; cases this)
    have HC2 : Hid (Calls Tryz.prog 55 #[cval c, .slice a p.length cap] (putW w c k) fun e w' => ∃ y : C, e = .returned (.tuple #[cval y, .bool false]) ∧ Below (putW w c k).heap.size (putW w c k) w') := HC.out.mono fun e w' h => by
      unfold FollowSays at h; rw [hat] at h
      obtain ⟨hb, y, h1⟩ := h
      exact ⟨y, h1, hb⟩
    clear HC hat
    go_enter Tryz.func52, Tryz.ntmps52
    go_wp2_with fail
    refine HC2.out.mono ?_
    rintro e w2 ⟨y, rfl, hb2⟩
    have HB2 := Lib.hid (B1.out.trans (hb2.mono B1.out.size))
    have HZ2 := Lib.hid (zero_up Z1.out hb2)
    have hlt := lt_of_block HZ2.out
    have hne : w.heap.size + 2 ≠ w2.heap.size := by omega
    obtain ⟨⟨z0, z1, z2, z3, z4, z5, z6⟩, f0, f1, f2, f3, f4, f5, f6⟩ := zero_parts HZ2.out
    clear hb2
    go_wp2
    (try simp only [Exit.inBlock, Exit.then])
    have HA : Below (put7 w2 (w.heap.size + 2) zC).heap.size (put7 w2 (w.heap.size + 2) zC) ((put7 w2 (w.heap.size + 2) zC).alloc (cbox y)) := (Below.refl _ _).alloc (Nat.le_refl _) _
    refine bodyPost_ret (results_cell2 rfl _ ((put7 w2 (w.heap.size + 2) zC).alloc (cbox y)) (w.heap.size + 2) zC rfl (((Box7.of_zero HZ2.out).put zC).up HA)) rfl ?_
    refine puts_none hpn.out rfl ?_
    have hbp := below_put7 HB2.out (show w.heap.size ≤ w.heap.size + 2 by omega) zC
    exact hbp.trans (HA.mono hbp.size)
  | some uu =>
    have HC2 : Hid (Calls Tryz.prog 55 #[cval c, .slice a p.length cap] (putW w c k) fun e w' => ∃ y : C, e = .returned (.tuple #[cval y, .bool true]) ∧ Below (putW w c k).heap.size (putW w c k) w') := HC.out.mono fun e w' h => by
      unfold FollowSays at h; rw [hat] at h
      obtain ⟨hb, y, h1, -⟩ := h
      exact ⟨y, h1, hb⟩
    have HAT := Lib.hid hat
    clear HC hat
    go_enter Tryz.func52, Tryz.ntmps52
    go_wp2_with fail
    refine HC2.out.mono ?_
    rintro e w2 ⟨y, rfl, hb2⟩
    have A2 : Hid (Below w2.heap.size w2 (w2.alloc (cbox y))) := (Below.refl _ _).alloc (Nat.le_refl _) _
    have hb2a := hb2.trans (A2.out.mono hb2.size)
    have HB2 := Lib.hid (B1.out.trans (hb2a.mono B1.out.size))
    have C2 := Lib.hid (C1.out.up hb2)
    have K2 := Lib.hid (K1.out.up hb2a)
    have Z2 := Lib.hid (zero_up Z1.out hb2a)
    obtain ⟨c0, c1, c2, c3, c4, c5, c6⟩ := C2.out.cat
    simp only [Nat.zero_add] at c1 c2 c3 c4 c5 c6
    have hlt2 : w.heap.size < w2.heap.size := lt_of_block C2.out
    have HZL : Hid (w.heap.size + 3 ≤ w2.heap.size) := Lib.hid (by have := hb2.size; simpa using this)
    have hne2 : w.heap.size ≠ w2.heap.size := by omega
    have HF := Lib.hid (fresh_any (sz t) t c (w2.alloc (cbox y)) (Nat.le_refl _) (HI.out.up HB2.out))
    clear hb2 hb2a
    go_wp2_with fail
    refine HF.out.mono ?_
    rintro e w3 ⟨d, S3, rfl, hown, hnd, hb3⟩
    have A3 : Hid (Below w3.heap.size w3 (w3.alloc (cbox d))) := (Below.refl _ _).alloc (Nat.le_refl _) _
    have hb3a := hb3.trans (A3.out.mono hb3.size)
    have HB3 := Lib.hid (HB2.out.trans (hb3a.mono HB2.out.size))
    have K3 := Lib.hid (K2.out.up hb3a)
    have Z3 := Lib.hid (zero_up Z2.out hb3a)
    have hsz3 : (w2.alloc (cbox y)).heap.size ≤ w3.heap.size := hb3.size
    have HPL := Lib.hid (place_top (Box7.new w3 d) (hown.up A3.out) hnd (fun hm => by have := (hown.ge _ hm).2; omega) hsz3)
    have HS3 : Hid (w2.heap.size + 1 ≤ w3.heap.size) := Lib.hid (by simpa using hsz3)
    clear hown hnd hb3 hb3a hsz3 c0 c1 c2 c3 c4 c5 c6
    go_wp2
    go_loopg [11, 27] (p.length + 1) (fun g pl i wr => ∃ (n b o : Nat) (u : T), g + n = p.length + 1 ∧ n ≤ p.length ∧ i = .int .i64 n ∧ pl = .pointer (some ⟨b, o, none⟩) ∧ Place (w3.alloc (cbox d)) (w2.alloc (cbox y)).heap.size w3.heap.size t (p.take n) b o u ∧ wr = w3.alloc (cbox d))
    case atStart => exact ⟨0, w3.heap.size, 0, t, by omega, by omega, rfl, rfl, by simpa using HPL.out, rfl⟩
    case round =>
      obtain ⟨n, b, o, u, hg, hn, rfl, rfl, hpl, hwr⟩ := hrel
      rw [hwr]
      clear hwr
      have HG := Lib.hid hg
      have HP := Lib.hid hpl
      clear hg hpl
      by_cases hlt : n < p.length
      · have hlti : (n : Int) < (p.length : Int) := by omega
        obtain ⟨m, hm⟩ : ∃ m, p[n]? = some m := ⟨_, List.getElem?_eq_getElem hlt⟩
        obtain ⟨pb, po, rfl, hf⟩ := int_at HR.out (by omega)
        have p0 := (HB3.out.cell (lt_of_cell (hf n m hm))).trans (hf n m hm)
        clear hf
        obtain ⟨u2, hu2⟩ : ∃ u2, kidAt u m = some u2 := by
          obtain ⟨x', S', cur', hpp⟩ := HP.out
          cases hkk : kidAt u m with
          | some u2 => exact ⟨u2, rfl⟩
          | none =>
            have h1 := atT_stop ((atT_step hpp.path hm).trans hkk)
            rw [HAT.out] at h1; cases h1
        obtain ⟨j, rfl, hj⟩ := kid_some hu2
        obtain ⟨x, g, hcx, hxa, hxn, hpl2⟩ := place_step HP.out hj
        have hjl := (List.getElem?_eq_some_iff.1 hj).1
        have hjli : (j : Int) < (u.kids.length : Int) := by omega
        have x6 := hcx.2.2.2.2.2.2
        rw [hxa, hxn] at x6
        have HP2 := Lib.hid hpl2
        have HTK := Lib.hid (take_snoc hm)
        clear hcx hxa hxn hpl2 hm hu2 hj
        go_wp2
        go_roundg (gk - 1)
        case measure => have := HG.out; omega
        case rel => exact ⟨n + 1, g, j * 7, u2, by have := HG.out; omega, by omega, by go_num, by first | rfl | simp, by rw [HTK.out]; exact HP2.out, rfl⟩
      · obtain rfl : n = p.length := by omega
        have hkl : ((p.length : Int) < (p.length : Int)) = False := by simp
        have HPE : Hid (Place (w3.alloc (cbox d)) (w2.alloc (cbox y)).heap.size w3.heap.size t p b o u) := Lib.hid (by have := HP.out; rw [List.take_length] at this; exact this)
        obtain ⟨q0, q1, q2, q3, q4, q5, q6⟩ := K3.out.cat
        simp only [Nat.zero_add] at q1 q2 q3 q4 q5 q6
        have HF4 := Lib.hid (fresh_any (sz kt) kt k (w3.alloc (cbox d)) (Nat.le_refl _) (HKT.out.up HB3.out))
        go_wp2_with fail
        refine HF4.out.mono ?_
        rintro e w4 ⟨kd, S4, rfl, hown4, -, hb4⟩
        have hend := put_endS HPE.out hb4 hown4 (by have := HS3.out; simp; omega) (by have := HS3.out; simp; omega) (by simp)
        obtain ⟨z, t', hp1, hp2, hp3⟩ := hend
        have HP1 := Lib.hid hp1
        have HP2 := Lib.hid hp2
        have HP3 := Lib.hid hp3
        have HSZ4 : Hid ((putO w4 b o kd).heap.size = w4.heap.size) := Lib.hid (size_putO w4 b o kd)
        have HB4 := Lib.hid (HB3.out.trans (hb4.mono HB3.out.size))
        have Z4 := Lib.hid (zero_up Z3.out hb4)
        obtain ⟨x, S, cur, hpa⟩ := HPE.out
        have hbge : (w2.alloc (cbox y)).heap.size ≤ b := hpa.ge
        have hbW := lt_of_block hpa.blk
        obtain ⟨x0, x1, x2, x3, x4, x5, x6⟩ := hpa.cat.up hb4
        have hbk4 : w4.heap[b]? = some (.cells cur 26 (0, 0)) := (hb4.block b hbW).trans hpa.blk
        have f0 := free_of_block hbk4 o
        have f1 := free_of_block hbk4 (o + 1)
        have f2 := free_of_block hbk4 (o + 2)
        have f3 := free_of_block hbk4 (o + 3)
        have f4 := free_of_block hbk4 (o + 4)
        have f5 := free_of_block hbk4 (o + 5)
        have f6 := free_of_block hbk4 (o + 6)
        have HBG : Hid (w.heap.size + 3 ≤ b) := Lib.hid (by have := HZL.out; simp at hbge; omega)
        have ZO : Hid (Zero7 (putO w4 b o kd) (w.heap.size + 2)) := Lib.hid ((putO_other (by have := HBG.out; omega)).trans Z4.out)
        have BO : Hid (Below w.heap.size w (putO w4 b o kd)) := Lib.hid (below_putO HB4.out (by have := HBG.out; omega) o kd)
        clear hp1 hp2 hp3 hown4 hb4 hpa hbge hbk4 q0 q1 q2 q3 q4 q5 q6
        go_upto_region 12 with (fail)
        change Code.wp _ _ _ _ (putO w4 b o kd)
        generalize putO w4 b o kd = w5 at HP2 HP3 HSZ4 ZO BO ⊢
        clear x0 x1 x2 x3 x4 x5 x6 f0 f1 f2 f3 f4 f5 f6
        obtain ⟨c0, c1, c2, c3, c4, c5, c6⟩ := HP2.out
        simp only [Nat.zero_add] at c1 c2 c3 c4 c5 c6
        obtain ⟨⟨z0, z1, z2, z3, z4, z5, z6⟩, f0, f1, f2, f3, f4, f5, f6⟩ := zero_parts ZO.out
        go_wp2
        (try simp only [Exit.inBlock, Exit.then])
        refine bodyPost_ret (results_cell2 rfl _ (put7 w5 (w.heap.size + 2) z) (w.heap.size + 2) z rfl ((Box7.of_zero ZO.out).put z)) rfl ?_
        refine puts_some HP1.out rfl (fun W' hW => HP3.out W' fun m hm hm4 => ?_) (below_put7 BO.out (by omega) z)
        have h5 := HSZ4.out
        have h6 := HZL.out
        simp at hm
        rw [hW m (by omega) (by rw [size_put7]; omega), heap_put7 (by omega)]
end Go.Proofs.YtbbjnimadnbmnaaGreat
/- The tree in which two stand where a leaf stood: the program's replaced. -/
namespace Go.Proofs.YtbbjnimadnbmnaaGreat
open Go.RowKit

theorem ASt.grown {w W W' : World} {c : C} {g : Nat} (h : ASt w c W) (hg : W.grownBy W' (some g)) (hb : w.heap.size + 2 ≤ g) : ASt w c W' := by
  have hs := h.below.size
  have hz := lt_of_block h.zero
  refine ⟨h.below.grown hg h.below.size (fun k hk => by cases hk; omega), (hg.block _ (by omega) (fun e => by cases e; omega)).trans h.box, (hg.block _ hz (fun e => by cases e; omega)).trans h.zero⟩

/-- The group, its kids turned. -/
structure Rp (w : World) (c : C) (b : Nat) (d : C) (t2 : T) (W : World) : Prop where
  st : ASt w c W
  box : Box7 W b d
  far : w.heap.size + 1 < b
  is : Is W d t2
theorem Rp.up {w W W' : World} {c d : C} {b : Nat} {t2 : T} (h : Rp w c b d t2 W) (hb : Below W.heap.size W W') : Rp w c b d t2 W' := ⟨h.st.up hb, h.box.up hb, h.far, h.is.up hb⟩
theorem Rp.c14 {w W : World} {c d : C} {b : Nat} {t2 : T} (h : Rp w c b d t2 W) : C14 w.heap.size c b d W := ⟨c7_of h.st.box.cat, c7_of h.box.cat⟩
theorem tops_take {w : World} {cs : List C} {l : List T} (h : Tops w cs l) (k : Nat) : Tops w (cs.take k) (l.take k) := by
  refine ⟨by rw [List.length_take, List.length_take, h.1], fun j x u hx hu => ?_⟩
  rw [List.getElem?_take] at hx hu
  split at hx
  · rename_i hj; rw [if_pos hj] at hu; exact h.2 j x u hx hu
  · cases hx
theorem tops_drop {w : World} {cs : List C} {l : List T} (h : Tops w cs l) (k : Nat) : Tops w (cs.drop k) (l.drop k) := by
  refine ⟨by rw [List.length_drop, List.length_drop, h.1], fun j x u hx hu => ?_⟩
  rw [List.getElem?_drop] at hx hu
  exact h.2 _ x u hx hu
theorem rp_made {w w2 w4 : World} {c d : C} {B : Nat} {g : T} {S : List Nat} {cs ps : List C} {Ss : List (List Nat)} {gb g' cap' k : Nat} {ls : List T} (L : ASt w c w2) (hB : w.heap.size + 2 ≤ B) (hfine : d.fine) (e1 : g.k = d.k) (e2 : g.r = d.r) (e3 : g.id = d.id) (hda : d.a = some ⟨gb, 0, none⟩)
    (row : OwnC w2 B (.slice d.a d.n d.cap) cs) (len : cs.length = g.kids.length) (slen : Ss.length = g.kids.length) (hS : S = blk (.slice d.a d.n d.cap) ++ Ss.flatten) (hnd : S.Nodup)
    (each : ∀ (j : Nat) (x : C) (u : T) (S' : List Nat), cs[j]? = some x → g.kids[j]? = some u → Ss[j]? = some S' → OwnT w2 B x u S') (hk : k < d.n) (hdn : d.n ≤ 100000) (htops : ∀ W, Tops W ps ls)
    (hrow4 : OwnC w4 B (.slice (some ⟨g', 0, none⟩) (d.n + 1) cap') (cs.take k ++ ps ++ cs.drop (k + 1))) (hgr : (w2.alloc (cbox d)).grownBy w4 (some gb)) (hg' : g' = gb ∨ g' = (w2.alloc (cbox d)).heap.size) :
    Rp w c w2.heap.size ⟨d.k, d.r, d.id, some ⟨g', 0, none⟩, d.n + 1, cap'⟩ (swapK g k ls) (w4.setCell ⟨w2.heap.size, 6, none⟩ (.slice (some ⟨g', 0, none⟩) (d.n + 1) cap')) := by
  have hgb : B ≤ gb ∧ gb < w2.heap.size := own_block row (by rw [hda]; rfl)
  have hal : Below w2.heap.size w2 (w2.alloc (cbox d)) := (Below.refl _ _).alloc (Nat.le_refl _) _
  have hsz : (w2.alloc (cbox d)).heap.size = w2.heap.size + 1 := by simp
  have hbx : Box7 w4 w2.heap.size d := (hgr.block _ (by omega) (fun e => by cases e; omega)).trans (Box7.new w2 d)
  have hbx2 := hbx.kids (some ⟨g', 0, none⟩) (d.n + 1) cap'
  have L4 : ASt w c w4 := (L.up hal).grown hgr (by omega)
  have hz := lt_of_block L.zero
  have hsame : ∀ m, m ≠ w2.heap.size → (w4.setCell ⟨w2.heap.size, 6, none⟩ (.slice (some ⟨g', 0, none⟩) (d.n + 1) cap')).heap[m]? = w4.heap[m]? := fun m hm => Below.heap_setCell w4 ⟨w2.heap.size, 6, none⟩ _ m hm
  have hne : g' ≠ w2.heap.size := by omega
  have hrow5 := ownC_kept (w' := w4.setCell ⟨w2.heap.size, 6, none⟩ (.slice (some ⟨g', 0, none⟩) (d.n + 1) cap')) hrow4 (fun m hm => hsame m (fun e => by cases hm; exact hne e))
  have htop : Tops (w4.setCell ⟨w2.heap.size, 6, none⟩ (.slice (some ⟨g', 0, none⟩) (d.n + 1) cap')) cs g.kids := by
    refine ⟨len, fun j x u hx hu => ?_⟩
    have hj : j < Ss.length := by rw [slen]; exact (List.getElem?_eq_some_iff.1 hu).1
    have hSj := List.getElem?_eq_getElem hj
    have ho := each j x u _ hx hu hSj
    refine (ho.frame fun m hm => ?_).is
    have hm1 := (ho.ge m hm).2
    have hmg : m ≠ gb := fun e => by
      subst hS
      rw [List.nodup_append] at hnd
      exact hnd.2.2 gb (by rw [hda]; simp [blk, Value.ownBlock]) m (mem_flat.2 ⟨j, _, hSj, hm⟩) e.symm
    rw [hsame m (by omega), hgr.block m (by omega) (fun e => by cases e; exact hmg rfl)]
    exact hal.block m hm1
  have hall := (tops_take htop k).append (htops (w4.setCell ⟨w2.heap.size, 6, none⟩ (.slice (some ⟨g', 0, none⟩) (d.n + 1) cap'))) |>.append (tops_drop htop (k + 1))
  refine ⟨⟨L4.below.setCell (by show w.heap.size ≤ w2.heap.size; omega) _, (hsame _ (by omega)).trans L4.box, (hsame _ (by omega)).trans L4.zero⟩, hbx2, by omega, ?_⟩
  unfold swapK
  rw [e1, e2, e3]
  exact .mk ⟨d.k, d.r, d.id, some ⟨g', 0, none⟩, d.n + 1, cap'⟩ _ _ hrow5.row hall.1 ⟨hfine.1, hfine.2.1, hfine.2.2.1, by simp only; omega⟩ hall.2

/-- The whole tree, in a box of one's own. -/
structure Rw (w : World) (c : C) (b : Nat) (z : C) (tt : T) (W : World) : Prop where
  st : ASt w c W
  box : Box7 W b z
  far : w.heap.size + 1 < b
  is : ∀ W' : World, (∀ m, w.heap.size + 2 ≤ m → m < W.heap.size → W'.heap[m]? = W.heap[m]?) → Is W' z tt
theorem rw_new {w W : World} {B : Nat} {c z : C} {tt : T} (h : ASt w c W) (h0 : w.heap.size + 2 ≤ B) (hs : ∀ W' : World, (∀ m, B ≤ m → m < W.heap.size → W'.heap[m]? = W.heap[m]?) → Is W' z tt) : Rw w c W.heap.size z tt (W.alloc (cbox z)) := by
  have hb : Below W.heap.size W (W.alloc (cbox z)) := (Below.refl _ _).alloc (Nat.le_refl _) _
  have hsz : (W.alloc (cbox z)).heap.size = W.heap.size + 1 := by simp
  refine ⟨h.up hb, Box7.new W z, lt_of_block h.zero, fun W' hW => hs W' fun m h1 h2 => ?_⟩
  exact (hW m (by omega) (by omega)).trans (hb.block m h2)
theorem rw_put {w W : World} {B b : Nat} {c z : C} {tt : T} (h : ASt w c W) (hz : Zero7 W b) (hb : w.heap.size + 1 < b) (h0 : b < B) (hs : ∀ W' : World, (∀ m, B ≤ m → m < W.heap.size → W'.heap[m]? = W.heap[m]?) → Is W' z tt) : Rw w c b z tt (put7 W b z) := by
  have he : ∀ k, k ≠ b → (put7 W b z).heap[k]? = W.heap[k]? := fun k hk => heap_put7 hk
  refine ⟨⟨below_put7 h.below (by omega) z, (he _ (by omega)).trans h.box, (he _ (by omega)).trans h.zero⟩, (Box7.of_zero hz).put z, hb, fun W' hW => hs W' fun m h1 h2 => ?_⟩
  exact (hW m (by omega) (by rw [size_put7]; exact h2)).trans (he m (by omega))

def RpSays (t : T) (p : List Int) (ax : Int) (u : T) (ls : List T) (w : World) (e : Ending) (w' : World) : Prop := ∃ (z : C) (g : T) (pl : List Int) (k : Nat), e = .returned (cval z) ∧ Around t p ax u g pl k ∧ (∀ W' : World, (∀ m, w.heap.size ≤ m → m < w'.heap.size → W'.heap[m]? = w'.heap[m]?) → Is W' z ((putT (setT g.r.x g.r.y (swapK g k ls)) t pl).getD zT)) ∧ Below w.heap.size w w'
end Go.Proofs.YtbbjnimadnbmnaaGreat
