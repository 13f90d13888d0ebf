/- Texts of this seat, 3 in one file. -/
import Derived.Deep.RegionHeld3
import Derived.StillTail
import Derived.Test.YtbbjnimadnbmnaaGreatG09
import Derived.Deep.Cut
import Derived.Test.YtbbjnimadnbmnaaGreatG33
import Derived.Test.YtbbjnimadnbmnaaGreatG35
import Derived.Test.YtbbjnimadnbmnaaGreatG38
/- A statement that draws its order, whose store is among its last: what is held of the world is held till the store. -/
namespace Go.Proofs.YtbbjnimadnbmnaaGreat
open Go

section
variable {P : Program} {ops : Array Oper} {Q : Exit → Act → World → Prop} {md : Region.Mode} {S : World → Prop}

/-- Whichever comes up: till operation n has come, S is held. -/
def anyB (P : Program) (md : Region.Mode) (ops : Array Oper) (Q : Exit → Act → World → Prop) (S : World → Prop) (n : Nat) : Nat → Array Bool → Act → World → Prop
  | 0, l, a, w => Region.ready md ops l = [] ∧ Q .normal a w
  | k + 1, l, a, w => (Region.ready md ops l = [] → Q .normal a w) ∧ ∀ i ∈ Region.ready md ops l, wpOp P ops Q i (fun a' w' => ((l.setIfInBounds i true).getD n true = false → S w') ∧ anyB P md ops Q S n k (l.setIfInBounds i true) a' w') a w
theorem any_of_B {n : Nat} : ∀ (k : Nat) (l : Array Bool) (a : Act) (w : World), anyB P md ops Q S n k l a w → wpAny P md ops Q k l a w
  | 0, _, _, _, h => h
  | k + 1, _, _, _, h => ⟨h.1, fun i hi => wpOp_mono (fun a' w' h' => any_of_B k _ a' w' h'.2) (h.2 i hi)⟩
theorem ready_un {l : Array Bool} {i j : Nat} {o : Oper} (hi : i ∈ Region.ready md ops l) (ho : ops[j]? = some o) (hw : ∃ e ∈ o.after, Region.binds md e = true ∧ e.on = i) : j ∉ Region.ready md ops l := fun hj => by
  obtain ⟨e, he, hb, rfl⟩ := hw
  obtain ⟨h1, -⟩ := mem_ready.1 hi
  obtain ⟨-, o', ho', h2⟩ := mem_ready.1 hj
  rw [ho] at ho'
  cases ho'
  have h3 := h2 e he hb
  rcases Nat.lt_or_ge e.on l.size with hl | hl
  · simp [hl] at h1 h3; rw [h1] at h3; cases h3
  · simp [Array.getElem?_eq_none hl] at h3
/-- One is taken first: it yields its value wherever S holds, and the store waits for it (c); or it yields it everywhere. -/
theorem anyB_first (c : Bool) {n i : Nat} {o : Oper} {v : Value} (hi : ops[i]? = some o) (hsel : Region.noSelect ops = true) (hin : i ≠ n) (hn : c = true → Region.waitsFor md ops n i = true) (hQ : ∀ c a w, Q (.panic c) (a.put o.dst v) w → Q (.panic c) a w) :
    ∀ (k : Nat) (l : Array Bool) (a : Act) (w : World), (∀ j oj, ops[j]? = some oj → j ≠ i → l.getD j true = false → (∀ e ∈ oj.after, Region.binds md e = true → e.on ≠ i) → o.apart ops oj = true) → i ∈ Region.ready md ops l → (c = true → l.getD n true = false) →
      YieldsIf P ops (fun W => c = true → S W) o v a → (l.getD n true = false → S w) → anyB P md ops Q S n k (l.setIfInBounds i true) (a.put o.dst v) w → anyB P md ops Q S n (k + 1) l a w := by
  intro k
  induction k with
  | zero =>
    intro l a w hfree hrd hc hy hS h
    refine ⟨fun h0 => (by rw [h0] at hrd; cases hrd), fun j hj => ?_⟩
    by_cases hji : j = i
    · subst hji
      exact hy.wpOp hi (fun hcc => hS (hc hcc)) ⟨fun hl => hS (by rw [getD_set_ne true hin] at hl; exact hl), h⟩
    · have := ready_mono hj hji
      rw [h.1] at this
      cases this
  | succ k ih =>
    intro l a w hfree hrd hc hy hS h
    refine ⟨fun h0 => (by rw [h0] at hrd; cases hrd), fun j hj => ?_⟩
    by_cases hji : j = i
    · subst hji
      exact hy.wpOp hi (fun hcc => hS (hc hcc)) ⟨fun hl => hS (by rw [getD_set_ne true hin] at hl; exact hl), h⟩
    · have h1 := h.2 j (ready_mono hj hji)
      obtain ⟨hjun, oj, hoj, hall⟩ := mem_ready.1 hj
      have hnot : ∀ e ∈ oj.after, Region.binds md e = true → e.on ≠ i := fun e he hb heq => ready_un hrd hoj ⟨e, he, hb, heq⟩ hj
      have h2 := wpOp_putIf hoj (hfree j oj hoj hji hjun hnot) (fun cs b => Region.noSelect_spec hsel i o cs b hi) (fun cs b => Region.noSelect_spec hsel j oj cs b hoj) hQ hy h1
      refine wpOp_mono (fun a' w' h3 => ?_) h2
      have hS' : (l.setIfInBounds j true).getD n true = false → S w' := fun hl => h3.2.1 (by
        rw [Array.setIfInBounds_comm _ _ (Ne.symm hji), getD_set_ne true hin]
        exact hl)
      refine ⟨hS', ih (l.setIfInBounds j true) a' w' (fun m om hom hmi hun hno => ?_) (ready_mono hrd (Ne.symm hji)) (fun hcc => ?_) h3.1 hS' ?_⟩
      · refine hfree m om hom hmi ?_ hno
        by_cases hjm : j = m
        · subst hjm; exact hjun
        · rw [getD_set_ne true hjm] at hun; exact hun
      · obtain ⟨on, hon, en, hen, hbn, hei⟩ := Region.waitsFor_spec (hn hcc)
        have hjn : j ≠ n := fun e => ready_un hrd hon ⟨en, hen, hbn, hei⟩ (e ▸ hj)
        rw [getD_set_ne true hjn]
        exact hc hcc
      · rw [Array.setIfInBounds_comm _ _ hji]
        exact h3.2.2
/-- A read, ahead of the store. -/
theorem anyB_take {n i : Nat} {o : Oper} {v : Value} {l : Array Bool} {a : Act} {w : World} {k : Nat} (hi : ops[i]? = some o) (hsel : Region.noSelect ops = true) (hf : Region.free md ops l i = true) (hr : (Region.ready md ops l).contains i = true) (hn : (Region.waitsFor md ops n i && !l.getD n true && i != n) = true)
    (hQ : ∀ c a w, Q (.panic c) (a.put o.dst v) w → Q (.panic c) a w) (hy : YieldsIf P ops S o v a) (hS : S w) (h : anyB P md ops Q S n k (l.setIfInBounds i true) (a.put o.dst v) w) : anyB P md ops Q S n (k + 1) l a w := by
  simp only [Bool.and_eq_true, Bool.not_eq_true', bne_iff_ne, ne_eq] at hn
  exact anyB_first true hi hsel hn.2 (fun _ => hn.1.1) hQ k l a w (Region.free_spec hi hf) (by simpa using hr) (fun _ => hn.1.2) (hy.imp (fun ⟨h1, h2⟩ => ⟨h1, fun W hW => h2 W (hW rfl)⟩) id) (fun _ => hS) h
/-- What reads no memory. -/
theorem anyB_takeW {n i : Nat} {o : Oper} {v : Value} {l : Array Bool} {a : Act} {w : World} {k : Nat} (hi : ops[i]? = some o) (hsel : Region.noSelect ops = true) (hf : Region.free md ops l i = true) (hr : (Region.ready md ops l).contains i = true) (hn : (i != n) = true)
    (hQ : ∀ c a w, Q (.panic c) (a.put o.dst v) w → Q (.panic c) a w) (hy : YieldsIf P ops (fun _ => True) o v a) (hS : S w) (h : anyB P md ops Q S n k (l.setIfInBounds i true) (a.put o.dst v) w) : anyB P md ops Q S n (k + 1) l a w := by
  rw [bne_iff_ne] at hn
  exact anyB_first false hi hsel hn (fun h => by cases h) hQ k l a w (Region.free_spec hi hf) (by simpa using hr) (fun h => by cases h) (hy.imp (fun ⟨h1, h2⟩ => ⟨h1, fun W _ => h2 W trivial⟩) id) (fun _ => hS) h
/-- One alone comes up. -/
theorem anyB_one {n i k : Nat} {o : Oper} {l : Array Bool} {a : Act} {w : World} (hr : Region.ready md ops l = [i]) (ho : ops[i]? = some o)
    (h : ∀ K' : Act → World → Prop, Shut (∀ a w, ((l.setIfInBounds i true).getD n true = false → S w) → (((l.setIfInBounds i true).getD n true = false → S w) → anyB P md ops Q S n k (l.setIfInBounds i true) a w) → K' a w) → if Region.wanted o (yielded ops a.tmps) = true then Oper.wp P o a w K' Q else K' (a.put o.dst undef) w) : anyB P md ops Q S n (k + 1) l a w := by
  refine ⟨fun h0 => (by rw [hr] at h0; cases h0), fun j hj => ?_⟩
  rw [hr, List.mem_singleton] at hj
  subst hj
  exact wpOp_step ho fun K' hK => h K' fun a w hS hW => hK a w ⟨hS, hW hS⟩
theorem anyB_done {n : Nat} {l : Array Bool} {a : Act} {w : World} (hr : Region.ready md ops l = []) (h : Q .normal a w) : ∀ k, anyB P md ops Q S n k l a w
  | 0 => ⟨hr, h⟩
  | _ + 1 => ⟨fun _ => h, by rw [hr]; simp⟩
theorem wp_region_B {id n : Nat} {a : Act} {w : World} (hm : P.follows .mixedOrders = true) (hS : S w.drew) (h : S w.drew → anyB P .any ops Q S n ops.size (Array.replicate ops.size false) a w.drew) : (Code.region id ops true).wp P Q a w :=
  wp_region_any hm (any_of_B _ _ _ _ (h hS))
end
end Go.Proofs.YtbbjnimadnbmnaaGreat
/- The tree in which a kid stands at a path: the program's answer. -/
namespace Go.Proofs.YtbbjnimadnbmnaaGreat
open Go.RowKit

def PutSays (r : Option T) (w : World) (e : Ending) (w' : World) : Prop := ∃ z, e = .returned (.tuple #[cval z, .bool r.isSome]) ∧ Is w' z (r.getD zT) ∧ HasRow w' w.heap.size z ∧ Below w.heap.size w w'
theorem put_none {r : Option T} {w w' : World} {e : Ending} (h : r = none) (he : e = .returned (.tuple #[cval zC, .bool false])) (hb : Below w.heap.size w w') : PutSays r w e w' := by
  subst h; exact ⟨zC, he, zero_is w', ⟨[], OwnC.nil _ _⟩, hb⟩
theorem put_some {r : Option T} {u : T} {w w' : World} {e : Ending} {z : C} (h : r = some u) (he : e = .returned (.tuple #[cval z, .bool true])) (hi : Is w' z u) (hr : HasRow w' w.heap.size z) (hb : Below w.heap.size w w') : PutSays r w e w' := by
  subst h; exact ⟨z, he, hi, hr, hb⟩
abbrev putW (w : World) (c k : C) : World := ((w.alloc (cbox c)).alloc (cbox k)).alloc zeroBox

theorem below_putO {B : Nat} {w w' : World} (h : Below B w w') {b : Nat} (hb : B ≤ b) (o : Nat) (c : C) : Below B w (putO w' b o c) := ((((((h.setCell hb _).setCell hb _).setCell hb _).setCell hb _).setCell hb _).setCell hb _).setCell hb _
theorem size_putO (w : World) (b o : Nat) (c : C) : (putO w b o c).heap.size = w.heap.size := by simp [World.setCell]

theorem free_of_block {w : World} {b : Nat} {cs : Array Value} {t : TypeId} (h : w.heap[b]? = some (.cells cs t (0, 0))) (o : Nat) : w.frozen? ⟨b, o, none⟩ = false := by simp [World.frozen?, h]

/-- What is there behind the last stores. -/
theorem put_end {W w4 : World} {base B rb : Nat} {t u kt : T} {p : List Int} {b o : Nat} {kd : C} {S4 : List Nat} (hp : Place W base B t p b o u) (hb : Below W.heap.size W w4) (hk : OwnT w4 W.heap.size kd kt S4) (hbase : base ≤ W.heap.size) (hB : base ≤ B) (hr : rb < base) :
    ∃ z t', putT kt t p = some t' ∧ CAt (putO w4 b o kd) B 0 z ∧ Is (put7 (putO w4 b o kd) rb z) z t' ∧ HasRow (put7 (putO w4 b o kd) rb z) base z := by
  obtain ⟨x, S, cur, h⟩ := hp
  have hbW : b < W.heap.size := lt_of_block h.blk
  have hblk4 : w4.heap[b]? = some (.cells cur 26 (0, 0)) := (hb.block b hbW).trans h.blk
  have key : ∀ w' : World, (∀ k, base ≤ k → k ≠ b → w'.heap[k]? = w4.heap[k]?) → w'.heap[b]? = some (.cells (setO cur o kd) 26 (0, 0)) → ∃ z t', putT kt t p = some t' ∧ CAt w' B 0 z ∧ Is w' z t' ∧ HasRow w' base z := fun w' hs hbl => by
    have hkd : OwnT w' W.heap.size kd kt S4 := hk.frame fun m hm => hs m (by have := (hk.ge m hm).1; omega) (by have := (hk.ge m hm).1; omega)
    obtain ⟨cs, Ss, row, -⟩ := hkd.cases'
    exact h.ctx w' kd kt (fun m hm0 hm _ hmb => (hs m hm0 hmb).trans (hb.block m hm)) hbl hkd.is ⟨cs, row.lower hbase⟩
  obtain ⟨z, t', h1, h2, -, -⟩ := key (putO w4 b o kd) (fun m _ hmb => putO_other hmb) (putO_block hblk4 kd)
  obtain ⟨z', t'', g1, g2, g3, g4⟩ := key (put7 (putO w4 b o kd) rb z) (fun m hm0 hmb => by rw [heap_put7 (by omega), putO_other hmb]) (by rw [heap_put7 (by have := h.ge; omega)]; exact putO_block hblk4 kd)
  have hz : z' = z := by
    have h2' : CAt (put7 (putO w4 b o kd) rb z) B 0 z := by
      obtain ⟨q0, q1, q2, q3, q4, q5, q6⟩ := h2
      have hh : ∀ i, (put7 (putO w4 b o kd) rb z).cell? ⟨B, i, none⟩ = (putO w4 b o kd).cell? ⟨B, i, none⟩ := fun i => World.cell?_of_block (a := ⟨B, i, none⟩) (heap_put7 (show B ≠ rb by omega))
      exact ⟨(hh _).trans q0, (hh _).trans q1, (hh _).trans q2, (hh _).trans q3, (hh _).trans q4, (hh _).trans q5, (hh _).trans q6⟩
    exact cat_inj g2 h2'
  subst hz
  rw [h1] at g1
  cases g1
  exact ⟨z', t', h1, h2, g3, g4⟩

set_option maxRecDepth 100000 in
set_option maxHeartbeats 4000000 in
theorem put_any (t kt : T) (c k : C) (v : Value) (p : List Int) (w : World) (hi : Is w c t) (hk : Is w k kt) (hr : Row w v (ints p)) (hl : p.length ≤ 1000000) : Calls Tryz.prog 52 #[cval c, cval k, v] w (PutSays (putT kt t p) w) := by
  have B1 : Hid (Below w.heap.size w (putW w c k)) := (((Below.refl _ _).alloc (Nat.le_refl _) _).alloc (by simp) _).alloc (by simp; omega) _
  have al : ∀ (x : World) (o : Obj), Below x.heap.size x (x.alloc o) := fun x o => (Below.refl _ _).alloc (Nat.le_refl _) _
  have C1 : Hid (Box7 (putW w c k) w.heap.size c) := Lib.hid (((Box7.new w c).up (al _ _)).up (al _ _))
  have K1 : Hid (Box7 (putW w c k) (w.heap.size + 1) k) := Lib.hid (by
    have := (Box7.new (w.alloc (cbox c)) k).up (al _ zeroBox)
    simpa using this)
  have Z1 : Hid (Zero7 (putW w c k) (w.heap.size + 2)) := Lib.hid (by
    have := zero_new ((w.alloc (cbox c)).alloc (cbox k))
    simpa using this)
  clear al
  have HC := Lib.hid (follow_any w t c v p (putW w c k) B1.out hi hr hl)
  have HI := Lib.hid hi
  have HKT := Lib.hid hk
  have HR := Lib.hid hr
  obtain ⟨a, cap, rfl⟩ := row_shape hr
  clear hi hr hk
  cases hat : atT t p with
  | none =>
    have hpn : Hid (putT kt t p = none) := Lib.hid (by
      have := put_at (kid := kt) (p := p) (t := t)
      rw [hat] at this
      cases h : putT kt t p with
      | none => rfl
      | some x => rw [h] at this; cases this)
    have HC2 : Hid (Calls Tryz.prog 55 #[cval c, .slice a p.length cap] (putW w c k) fun e w' => ∃ y : C, e = .returned (.tuple #[cval y, .bool false]) ∧ Below (putW w c k).heap.size (putW w c k) w') := HC.out.mono fun e w' h => by
      unfold FollowSays at h; rw [hat] at h
      obtain ⟨hb, y, h1⟩ := h
      exact ⟨y, h1, hb⟩
    clear HC hat
    go_enter Tryz.func52, Tryz.ntmps52
    go_wp2_with fail
    refine HC2.out.mono ?_
    rintro e w2 ⟨y, rfl, hb2⟩
    have HB2 := Lib.hid (B1.out.trans (hb2.mono B1.out.size))
    have HZ2 := Lib.hid (zero_up Z1.out hb2)
    have hlt := lt_of_block HZ2.out
    have hne : w.heap.size + 2 ≠ w2.heap.size := by omega
    obtain ⟨⟨z0, z1, z2, z3, z4, z5, z6⟩, f0, f1, f2, f3, f4, f5, f6⟩ := zero_parts HZ2.out
    clear hb2
    go_wp2
    (try simp only [Exit.inBlock, Exit.then])
    have HA : Below (put7 w2 (w.heap.size + 2) zC).heap.size (put7 w2 (w.heap.size + 2) zC) ((put7 w2 (w.heap.size + 2) zC).alloc (cbox y)) := (Below.refl _ _).alloc (Nat.le_refl _) _
    refine bodyPost_ret (results_cell2 rfl _ ((put7 w2 (w.heap.size + 2) zC).alloc (cbox y)) (w.heap.size + 2) zC rfl (((Box7.of_zero HZ2.out).put zC).up HA)) rfl ?_
    refine put_none hpn.out rfl ?_
    have hbp := below_put7 HB2.out (show w.heap.size ≤ w.heap.size + 2 by omega) zC
    exact hbp.trans (HA.mono hbp.size)
  | some uu =>
    have HC2 : Hid (Calls Tryz.prog 55 #[cval c, .slice a p.length cap] (putW w c k) fun e w' => ∃ y : C, e = .returned (.tuple #[cval y, .bool true]) ∧ Below (putW w c k).heap.size (putW w c k) w') := HC.out.mono fun e w' h => by
      unfold FollowSays at h; rw [hat] at h
      obtain ⟨hb, y, h1, -⟩ := h
      exact ⟨y, h1, hb⟩
    have HAT := Lib.hid hat
    clear HC hat
    go_enter Tryz.func52, Tryz.ntmps52
    go_wp2_with fail
    refine HC2.out.mono ?_
    rintro e w2 ⟨y, rfl, hb2⟩
    have A2 : Hid (Below w2.heap.size w2 (w2.alloc (cbox y))) := (Below.refl _ _).alloc (Nat.le_refl _) _
    have hb2a := hb2.trans (A2.out.mono hb2.size)
    have HB2 := Lib.hid (B1.out.trans (hb2a.mono B1.out.size))
    have C2 := Lib.hid (C1.out.up hb2)
    have K2 := Lib.hid (K1.out.up hb2a)
    have Z2 := Lib.hid (zero_up Z1.out hb2a)
    obtain ⟨c0, c1, c2, c3, c4, c5, c6⟩ := C2.out.cat
    simp only [Nat.zero_add] at c1 c2 c3 c4 c5 c6
    have hlt2 : w.heap.size < w2.heap.size := lt_of_block C2.out
    have HZL : Hid (w.heap.size + 3 ≤ w2.heap.size) := Lib.hid (by have := hb2.size; simpa using this)
    have hne2 : w.heap.size ≠ w2.heap.size := by omega
    have HF := Lib.hid (fresh_any (sz t) t c (w2.alloc (cbox y)) (Nat.le_refl _) (HI.out.up HB2.out))
    clear hb2 hb2a
    go_wp2_with fail
    refine HF.out.mono ?_
    rintro e w3 ⟨d, S3, rfl, hown, hnd, hb3⟩
    have A3 : Hid (Below w3.heap.size w3 (w3.alloc (cbox d))) := (Below.refl _ _).alloc (Nat.le_refl _) _
    have hb3a := hb3.trans (A3.out.mono hb3.size)
    have HB3 := Lib.hid (HB2.out.trans (hb3a.mono HB2.out.size))
    have K3 := Lib.hid (K2.out.up hb3a)
    have Z3 := Lib.hid (zero_up Z2.out hb3a)
    have hsz3 : (w2.alloc (cbox y)).heap.size ≤ w3.heap.size := hb3.size
    have HPL := Lib.hid (place_top (Box7.new w3 d) (hown.up A3.out) hnd (fun hm => by have := (hown.ge _ hm).2; omega) hsz3)
    have HS3 : Hid (w2.heap.size + 1 ≤ w3.heap.size) := Lib.hid (by simpa using hsz3)
    clear hown hnd hb3 hb3a hsz3 c0 c1 c2 c3 c4 c5 c6
    go_wp2
    go_loopg [11, 27] (p.length + 1) (fun g pl i wr => ∃ (n b o : Nat) (u : T), g + n = p.length + 1 ∧ n ≤ p.length ∧ i = .int .i64 n ∧ pl = .pointer (some ⟨b, o, none⟩) ∧ Place (w3.alloc (cbox d)) (w2.alloc (cbox y)).heap.size w3.heap.size t (p.take n) b o u ∧ wr = w3.alloc (cbox d))
    case atStart => exact ⟨0, w3.heap.size, 0, t, by omega, by omega, rfl, rfl, by simpa using HPL.out, rfl⟩
    case round =>
      obtain ⟨n, b, o, u, hg, hn, rfl, rfl, hpl, hwr⟩ := hrel
      rw [hwr]
      clear hwr
      have HG := Lib.hid hg
      have HP := Lib.hid hpl
      clear hg hpl
      by_cases hlt : n < p.length
      · have hlti : (n : Int) < (p.length : Int) := by omega
        obtain ⟨m, hm⟩ : ∃ m, p[n]? = some m := ⟨_, List.getElem?_eq_getElem hlt⟩
        obtain ⟨pb, po, rfl, hf⟩ := int_at HR.out (by omega)
        have p0 := (HB3.out.cell (lt_of_cell (hf n m hm))).trans (hf n m hm)
        clear hf
        obtain ⟨u2, hu2⟩ : ∃ u2, kidAt u m = some u2 := by
          obtain ⟨x', S', cur', hpp⟩ := HP.out
          cases hkk : kidAt u m with
          | some u2 => exact ⟨u2, rfl⟩
          | none =>
            have h1 := atT_stop ((atT_step hpp.path hm).trans hkk)
            rw [HAT.out] at h1; cases h1
        obtain ⟨j, rfl, hj⟩ := kid_some hu2
        obtain ⟨x, g, hcx, hxa, hxn, hpl2⟩ := place_step HP.out hj
        have hjl := (List.getElem?_eq_some_iff.1 hj).1
        have hjli : (j : Int) < (u.kids.length : Int) := by omega
        have x6 := hcx.2.2.2.2.2.2
        rw [hxa, hxn] at x6
        have HP2 := Lib.hid hpl2
        have HTK := Lib.hid (take_snoc hm)
        clear hcx hxa hxn hpl2 hm hu2 hj
        go_wp2
        go_roundg (gk - 1)
        case measure => have := HG.out; omega
        case rel => exact ⟨n + 1, g, j * 7, u2, by have := HG.out; omega, by omega, by go_num, by first | rfl | simp, by rw [HTK.out]; exact HP2.out, rfl⟩
      · obtain rfl : n = p.length := by omega
        have hkl : ((p.length : Int) < (p.length : Int)) = False := by simp
        have HPE : Hid (Place (w3.alloc (cbox d)) (w2.alloc (cbox y)).heap.size w3.heap.size t p b o u) := Lib.hid (by have := HP.out; rw [List.take_length] at this; exact this)
        obtain ⟨q0, q1, q2, q3, q4, q5, q6⟩ := K3.out.cat
        simp only [Nat.zero_add] at q1 q2 q3 q4 q5 q6
        have HF4 := Lib.hid (fresh_any (sz kt) kt k (w3.alloc (cbox d)) (Nat.le_refl _) (HKT.out.up HB3.out))
        go_wp2_with fail
        refine HF4.out.mono ?_
        rintro e w4 ⟨kd, S4, rfl, hown4, -, hb4⟩
        have hend := put_end (rb := w.heap.size + 2) HPE.out hb4 hown4 (by have := HS3.out; simp; omega) (by have := HS3.out; simp; omega) (by have := HZL.out; simp; omega)
        obtain ⟨z, t', hp1, hp2, hp3, hp4⟩ := hend
        have HP1 := Lib.hid hp1
        have HP2 := Lib.hid hp2
        have HP3 := Lib.hid hp3
        have HP4 := Lib.hid hp4
        have HB4 := Lib.hid (HB3.out.trans (hb4.mono HB3.out.size))
        have Z4 := Lib.hid (zero_up Z3.out hb4)
        obtain ⟨x, S, cur, hpa⟩ := HPE.out
        have hbge : (w2.alloc (cbox y)).heap.size ≤ b := hpa.ge
        have hbW := lt_of_block hpa.blk
        obtain ⟨x0, x1, x2, x3, x4, x5, x6⟩ := hpa.cat.up hb4
        have hbk4 : w4.heap[b]? = some (.cells cur 26 (0, 0)) := (hb4.block b hbW).trans hpa.blk
        have f0 := free_of_block hbk4 o
        have f1 := free_of_block hbk4 (o + 1)
        have f2 := free_of_block hbk4 (o + 2)
        have f3 := free_of_block hbk4 (o + 3)
        have f4 := free_of_block hbk4 (o + 4)
        have f5 := free_of_block hbk4 (o + 5)
        have f6 := free_of_block hbk4 (o + 6)
        have HBG : Hid (w.heap.size + 3 ≤ b) := Lib.hid (by have := HZL.out; simp at hbge; omega)
        have ZO : Hid (Zero7 (putO w4 b o kd) (w.heap.size + 2)) := Lib.hid ((putO_other (by have := HBG.out; omega)).trans Z4.out)
        have BO : Hid (Below w.heap.size w (putO w4 b o kd)) := Lib.hid (below_putO HB4.out (by have := HBG.out; omega) o kd)
        clear hp1 hp2 hp3 hp4 hown4 hb4 hpa hbge hbk4 q0 q1 q2 q3 q4 q5 q6
        go_upto_region 12 with (fail)
        change Code.wp _ _ _ _ (putO w4 b o kd)
        generalize putO w4 b o kd = w5 at HP2 HP3 HP4 ZO BO ⊢
        clear x0 x1 x2 x3 x4 x5 x6 f0 f1 f2 f3 f4 f5 f6
        obtain ⟨c0, c1, c2, c3, c4, c5, c6⟩ := HP2.out
        simp only [Nat.zero_add] at c1 c2 c3 c4 c5 c6
        obtain ⟨⟨z0, z1, z2, z3, z4, z5, z6⟩, f0, f1, f2, f3, f4, f5, f6⟩ := zero_parts ZO.out
        go_wp2
        (try simp only [Exit.inBlock, Exit.then])
        refine bodyPost_ret (results_cell2 rfl _ (put7 w5 (w.heap.size + 2) z) (w.heap.size + 2) z rfl ((Box7.of_zero ZO.out).put z)) rfl ?_
        obtain ⟨cs, hcs⟩ := HP4.out
        exact put_some HP1.out rfl HP3.out ⟨cs, hcs.lower (by have := HZL.out; simp; omega)⟩ (below_put7 BO.out (by omega) z)
end Go.Proofs.YtbbjnimadnbmnaaGreat
/- The leaf leaves: the program's, in memory of its own. -/
namespace Go.Proofs.YtbbjnimadnbmnaaGreat
open Go.RowKit

/-- What it leaves there. -/
def LvSays (base b o : Nat) (cur : Array Value) (S : List Nat) (t' : T) (w : World) (e : Ending) (w' : World) : Prop :=
  e = .returned (.tuple #[]) ∧ Below base w w' ∧ (∀ k, k < w.heap.size → k ∉ S → k ≠ b → w'.heap[k]? = w.heap[k]?) ∧ ∃ y, w'.heap[b]? = some (.cells (setO cur o y) 26 (0, 0)) ∧ Stands (fun _ => True) w' base w'.heap.size y t'

theorem bl_al {w W : World} (h : Below w.heap.size w W) (o : Obj) : Below w.heap.size w (W.alloc o) := h.alloc h.size o
theorem bl_up {w W W' : World} (h : Below w.heap.size w W) (hb : Below W.heap.size W W') : Below w.heap.size w W' := h.trans (hb.mono h.size)
/-- A zero box, made since. -/
def ZL (w W : World) (k : Nat) : Prop := Zero7 W k ∧ w.heap.size ≤ k
theorem ZL.up {w W W' : World} {k : Nat} (h : ZL w W k) (hb : Below W.heap.size W W') : ZL w W' k := ⟨zero_up h.1 hb, h.2⟩
theorem zl_new {w W : World} (h : Below w.heap.size w W) : ZL w (W.alloc zeroBox) W.heap.size := ⟨zero_new W, h.size⟩
theorem zl_drew {w W : World} (h : Below w.heap.size w W) : ZL w (W.alloc zeroBox).drew W.heap.size := ⟨zero_new W, h.size⟩
/-- A tree in a box that was made since. -/
structure Gr (w : World) (k : Nat) (d : C) (t : T) (W : World) : Prop where
  below : Below w.heap.size w W
  far : w.heap.size ≤ k
  box : Box7 W k d
  is : Is W d t
theorem gr_put {w W W4 : World} {k : Nat} {d : C} {t : T} {S : List Nat} (h : Below w.heap.size w W) (hz : ZL w W k) (hz4 : ZL w W4 k) (ho : OwnT W W4.heap.size d t S) : Gr w k d t (put7 W k d) :=
  ⟨below_put7 h hz.2 d, hz.2, (Box7.of_zero hz.1).put d, (ho.frame fun m hm => heap_put7 (by have := (ho.ge m hm).1; have := lt_of_block hz4.1; omega)).is⟩
theorem gr_new {w W : World} {n : Nat} {d : C} {t : T} {S : List Nat} (h : Below w.heap.size w W) (ho : OwnT W n d t S) : Gr w W.heap.size d t (W.alloc (cbox d)) :=
  ⟨bl_al h _, h.size, Box7.new W d, ho.is.up ((Below.refl _ _).alloc (Nat.le_refl _) _)⟩

/-- What is read in the statement that adjusts; in the one that replaces. -/
def S4 (s b o bk kg j n cap : Nat) (d v : C) (W : World) : Prop :=
  (W.cell? ⟨s, 0, none⟩ = some (.pointer (some ⟨b, o, none⟩)) ∧ W.cell? ⟨s, 1, none⟩ = some (.int .i64 (j : Int)) ∧ W.cell? ⟨b, o + 6, none⟩ = some (.slice (some ⟨kg, 0, none⟩) n cap)) ∧
  (W.cell? ⟨kg, j * 7 + 1, none⟩ = some (.int .i64 v.r.x) ∧ W.cell? ⟨kg, j * 7 + 2, none⟩ = some (.int .i64 v.r.y) ∧ W.cell? ⟨kg, j * 7 + 3, none⟩ = some (.int .i64 v.r.w) ∧ W.cell? ⟨kg, j * 7 + 4, none⟩ = some (.int .i64 v.r.h)) ∧ C7 bk d W
def SR5 (s b o bk kg j n cap : Nat) (d : C) (W : World) : Prop :=
  (W.cell? ⟨s, 0, none⟩ = some (.pointer (some ⟨b, o, none⟩)) ∧ W.cell? ⟨s, 1, none⟩ = some (.int .i64 (j : Int)) ∧ W.cell? ⟨b, o + 6, none⟩ = some (.slice (some ⟨kg, 0, none⟩) n cap)) ∧ C7 bk d W
theorem SR5.kept {s b o bk kg j n cap : Nat} {d : C} {W W' : World} (h : SR5 s b o bk kg j n cap d W) (hs : W'.heap[s]? = W.heap[s]?) (hb : W'.heap[b]? = W.heap[b]?) (hk : W'.heap[bk]? = W.heap[bk]?) : SR5 s b o bk kg j n cap d W' := by
  obtain ⟨⟨a0, a1, a2⟩, q0, q1, q2, q3, q4, q5, q6⟩ := h
  have c : ∀ (m i : Nat), W'.heap[m]? = W.heap[m]? → W'.cell? ⟨m, i, none⟩ = W.cell? ⟨m, i, none⟩ := fun m i e => World.cell?_of_block (a := ⟨m, i, none⟩) e
  exact ⟨⟨(c _ _ hs).trans a0, (c _ _ hs).trans a1, (c _ _ hb).trans a2⟩, (c _ _ hk).trans q0, (c _ _ hk).trans q1, (c _ _ hk).trans q2, (c _ _ hk).trans q3, (c _ _ hk).trans q4, (c _ _ hk).trans q5, (c _ _ hk).trans q6⟩

theorem set6_setO {w : World} {b o : Nat} {cur : Array Value} {ty : TypeId} {fr : Nat × Nat} {x : C} (h : w.heap[b]? = some (.cells cur ty fr)) (hc : CAt w b o x) (a : Option Addr) (n cap : Nat) : cur.setIfInBounds (o + 6) (.slice a n cap) = setO cur o ⟨x.k, x.r, x.id, a, n, cap⟩ := by
  refine Array.ext_getElem? fun i => ?_
  have hsz := cat_size h hc
  rw [setO_get cur o _ i hsz, Array.getElem?_setIfInBounds]
  by_cases hi : o ≤ i ∧ i < o + 7
  · rw [if_pos hi]
    obtain ⟨m, rfl⟩ : ∃ m, i = o + m := ⟨i - o, by omega⟩
    have hm : m < 7 := by omega
    rw [show o + m - o = m by omega]
    have hg := cat_get h hc m hm
    by_cases h6 : m = 6
    · subst h6
      rw [if_pos rfl, if_pos (by omega)]; rfl
    · rw [if_neg (by omega), hg]
      match m, hm, h6 with
      | 0, _, _ => rfl
      | 1, _, _ => rfl
      | 2, _, _ => rfl
      | 3, _, _ => rfl
      | 4, _, _ => rfl
      | 5, _, _ => rfl
      | 6, _, h => exact absurd rfl h
  · rw [if_neg hi, if_neg (by omega)]
theorem setO_setO (cur : Array Value) (o : Nat) (y d : C) (h : o + 7 ≤ cur.size) : setO (setO cur o y) o d = setO cur o d := by
  refine Array.ext_getElem? fun i => ?_
  rw [setO_get _ o d i (by rw [setO_size]; exact h), setO_get cur o d i h]
  split
  · rfl
  · rename_i hi
    rw [setO_get cur o y i h, if_neg hi]
theorem rel_cut {R : C → T → Prop} {cs : List C} {l : List T} {f : Nat} {x : C} {t : T} (hl : cs.length = l.length) (hf : f ≤ l.length) (h : ∀ (i : Nat) (a : C) (c : T), cs[i]? = some a → l[i]? = some c → R a c) (hx : R x t) :
    ∀ (i : Nat) (a : C) (c : T), (cs.take f ++ [x] ++ cs.drop (f + 2))[i]? = some a → (l.take f ++ [t] ++ l.drop (f + 2))[i]? = some c → R a c := by
  intro i a c ha hc
  have h1 : (cs.take f).length = f := by rw [List.length_take]; omega
  have h2 : (l.take f).length = f := by rw [List.length_take]; omega
  rw [List.append_assoc] at ha hc
  rcases Nat.lt_or_ge i f with hi | hi
  · rw [List.getElem?_append_left (by omega), List.getElem?_take, if_pos hi] at ha hc
    exact h i a c ha hc
  · rw [List.getElem?_append_right (by omega), h1] at ha
    rw [List.getElem?_append_right (by omega), h2] at hc
    cases hm : i - f with
    | zero =>
      rw [hm] at ha hc
      simp at ha hc
      subst ha; subst hc
      exact hx
    | succ m =>
      rw [hm] at ha hc
      simp only [List.cons_append, List.nil_append, List.getElem?_cons_succ, List.getElem?_drop] at ha hc
      exact h _ a c ha hc

/-- What is left there: the kids' row written over, their cell's too. -/
structure Left (w : World) (base b o kg xcap : Nat) (x : C) (cs : List C) (cur : Array Value) (f : Nat) (d : C) (t : T) (W : World) : Prop where
  low : Below base w W
  same : ∀ k, k < w.heap.size → k ≠ kg → k ≠ b → W.heap[k]? = w.heap[k]?
  row : OwnC W base (.slice (some ⟨kg, 0, none⟩) (cs.length - 1) xcap) (cs.take f ++ [d] ++ cs.drop (f + 2))
  grown : Stands (fun _ => True) W w.heap.size W.heap.size d t
theorem left_more {w W : World} {base b o kg xcap j : Nat} {xk : Int} {xr : R} {xid : Int} {cs : List C} {Ss : List (List Nat)} {cur : Array Value} {d : C} {g : T} (hcs : cs.length = g.kids.length) (hSs : Ss.length = g.kids.length) (e1 : g.k = xk) (e2 : g.r = xr) (e3 : g.id = xid)
    (each : ∀ (j : Nat) (x : C) (u : T) (S' : List Nat), cs[j]? = some x → g.kids[j]? = some u → Ss[j]? = some S' → OwnT w base x u S') (hfine : (⟨xk, xr, xid, some ⟨kg, 0, none⟩, g.kids.length, xcap⟩ : C).fine)
    (hnd : (blk (.slice (some ⟨kg, 0, none⟩) g.kids.length xcap) ++ Ss.flatten).Nodup) (hout : b ∉ blk (.slice (some ⟨kg, 0, none⟩) g.kids.length xcap) ++ Ss.flatten) (h2 : j - 1 + 1 < g.kids.length) (hn : g.kids.length ≠ 2) (hkb : base ≤ kg) (hkl : kg < w.heap.size)
    (h : Left w base b o kg xcap ⟨xk, xr, xid, some ⟨kg, 0, none⟩, g.kids.length, xcap⟩ cs cur (j - 1) d (grownT g j) W) : Stands (fun _ => True) W base W.heap.size ⟨xk, xr, xid, some ⟨kg, 0, none⟩, g.kids.length - 1, xcap⟩ (goneT g j) := by
  intro W' _ hW
  have hws := h.low.size
  unfold goneT
  rw [if_neg hn, e1, e2, e3]
  have hkg : kg ∉ Ss.flatten := fun hm => (List.nodup_append.1 hnd).2.2 kg (by simp [blk, Value.ownBlock]) kg hm rfl
  have hb : b ∉ Ss.flatten := fun hm => hout (List.mem_append_right _ hm)
  have hrow := (ownC_kept (w' := W') h.row (fun g' hg' => by cases hg'; exact hW kg hkb (by omega))).row
  have hlen := hrow.len
  rw [hcs] at hrow
  refine .mk ⟨xk, xr, xid, some ⟨kg, 0, none⟩, g.kids.length - 1, xcap⟩ _ _ hrow ?_ ⟨hfine.1, hfine.2.1, hfine.2.2.1, by have := hfine.2.2.2; simp only at this ⊢; omega⟩ (rel_cut hcs (by omega) (fun i a c ha hc => ?_) (h.grown W' trivial fun k hk hk2 => hW k (by omega) hk2))
  · simp only [List.length_append, List.length_take, List.length_drop, hcs]; rfl
  · have hil : i < Ss.length := by rw [hSs]; exact (List.getElem?_eq_some_iff.1 hc).1
    have hS := List.getElem?_eq_getElem hil
    have ho := each i a c _ ha hc hS
    exact (ho.frame fun k hk => (hW k (ho.ge k hk).1 (by have := (ho.ge k hk).2; omega)).trans (h.same k (ho.ge k hk).2 (fun e => hkg (mem_flat.2 ⟨i, _, hS, e ▸ hk⟩)) (fun e => hb (mem_flat.2 ⟨i, _, hS, e ▸ hk⟩)))).is

set_option maxHeartbeats 4000000 in
set_option maxRecDepth 100000 in
theorem leave_any (w : World) (base b o j : Nat) (x : C) (g v : T) (S : List Nat) (cur : Array Value) (hcat : CAt w b o x) (hown : OwnT w base x g S) (hnd : S.Nodup) (hout : b ∉ S) (hge : base ≤ b) (hblk : w.heap[b]? = some (.cells cur 26 (0, 0))) (hm : sz g ≤ 990) (ht : tileB g = true) (hv : g.kids[j]? = some v) :
    Calls Tryz.prog 33 #[spotV b o (j : Int)] w (LvSays base b o cur S (goneT g j) w) := by
  have hk1 : g.k ≠ 1 := fun e => by rw [leaf_none (by omega) ht e] at hv; simp at hv
  obtain ⟨a, c', u, hpair⟩ := pair_of hv (kids_two (by omega) ht hk1)
  have hgrows := grows_of (by omega) ht hpair
  obtain ⟨cs, Ss, row, len, slen, fine, e1, e2, e3, rfl, each⟩ := hown.cases'
  have hlen : g.kids.length ≤ 990 := by have := sz_node g; have := szL_len g.kids; omega
  have hxn := hown.is.n
  have h2 := (List.getElem?_eq_some_iff.1 hpair.second).1
  obtain ⟨kg, kcap, hval, hkb, hkl⟩ := row.form (by omega)
  have hxa : x.a = some ⟨kg, 0, none⟩ := by injection hval
  clear hval
  obtain ⟨xk, xr, xid, xa, xn, xcap⟩ := x
  simp only at hxn hxa e1 e2 e3
  subst hxn hxa
  have hjl := (List.getElem?_eq_some_iff.1 hv).1
  have hul := (List.getElem?_eq_some_iff.1 hpair.grows).1
  have hat : ∀ (i : Nat) (y : C), cs[i]? = some y → CAt w kg (i * 7) y := fun i y hy => cat_of_flat (row.cells (g := kg) rfl) i y hy
  obtain ⟨ac, hac⟩ : ∃ y, cs[j - 1]? = some y := ⟨_, List.getElem?_eq_getElem (by omega)⟩
  obtain ⟨uc, huc⟩ : ∃ y, cs[nbN j]? = some y := ⟨_, List.getElem?_eq_getElem (by omega)⟩
  obtain ⟨vc, hvc⟩ : ∃ y, cs[j]? = some y := ⟨_, List.getElem?_eq_getElem (by omega)⟩
  have hisa := (each _ _ _ _ hac hpair.first (List.getElem?_eq_getElem (by omega))).is
  have hisu := (each _ _ _ _ huc hpair.grows (List.getElem?_eq_getElem (by omega))).is
  have hisv := (each _ _ _ _ hvc hv (List.getElem?_eq_getElem (by omega))).is
  have hmin : min (j : Int) (nbN j : Int) = ((j - 1 : Nat) : Int) := by unfold nbN; split <;> omega
  have HNB := Lib.hid (fun W => nb_any b o j W (by omega))
  have B0 : Hid (Below w.heap.size w (w.alloc (spotO (.pointer (some ⟨b, o, none⟩)) (j : Int))).drew) := Lib.hid ((Below.refl _ _).alloc (Nat.le_refl _) _).drew
  have S0 : Hid ((w.alloc (spotO (.pointer (some ⟨b, o, none⟩)) (j : Int))).drew.heap[w.heap.size]? = some (spotO (.pointer (some ⟨b, o, none⟩)) (j : Int))) := Lib.hid (heap_alloc_new w _)
  have Y0 := Lib.hid (spot_parts S0.out).1
  have hf1 : j - 1 < g.kids.length := by omega
  have HCAT := Lib.hid hcat
  have HACAT := Lib.hid (hat _ _ hac)
  generalize hjf : j - 1 = f at *
  generalize hjh : nbN j = h at *
  clear hcat
  have hfi : (f : Int) < (g.kids.length : Int) := by omega
  go_enter Tryz.func33, Tryz.ntmps33
  go_wp2_with fail
  go_region_held3 (fun W => W.cell? ⟨w.heap.size, 0, none⟩ = some (.pointer (some ⟨b, o, none⟩)) ∧ W.cell? ⟨w.heap.size, 1, none⟩ = some (.int .i64 (j : Int))) (first | with_reducible exact Y0.out | with_reducible exact Y1.out)
    (first | (go_at_call 22; (with_reducible refine (HNB.out _).mono ?_); rintro e w1 ⟨rfl, hb1⟩; have B1 := Lib.hid (B0.out.trans (hb1.mono B0.out.size)); have S1 := Lib.hid ((hb1.block _ (lt_of_block S0.out)).trans S0.out); have Y1 := Lib.hid (spot_parts S1.out).1; clear hb1))
  rename_i hhl
  clear hhl Y0 S0 B0
  obtain ⟨s0, s1⟩ := Y1.out
  obtain ⟨a0, a1, a2, a3, a4, a5, a6⟩ := HACAT.out.up B1.out
  have x6 := (HCAT.out.up B1.out).2.2.2.2.2.2
  go_wp2_with fail
  have hw2s : w.heap.size < w1.heap.size := lt_of_block S1.out
  have AW : Below w1.heap.size w1 (w1.alloc (cbox ac)) := (Below.refl _ _).alloc (Nat.le_refl _) _
  have BW := Lib.hid (bl_up B1.out AW)
  have SW := Lib.hid ((AW.block _ (lt_of_block S1.out)).trans S1.out)
  have FW := Lib.hid (Box7.new w1 ac)
  have HLT : Hid (w1.heap.size < (w1.alloc (cbox ac)).heap.size) := Lib.hid (by simp)
  clear a0 a1 a2 a3 a4 a5 a6 x6 s0 s1 Y1 AW
  change Code.wp _ _ _ _ (w1.alloc (cbox ac))
  generalize w1.alloc (cbox ac) = w2 at BW SW FW HLT ⊢
  clear B1 S1 hw2s
  have HBB := Lib.hid HLT.out
  generalize w1.heap.size = bb at FW HLT HBB ⊢
  clear w1 HLT
  have HUC := Lib.hid ((hat _ _ huc).up BW.out)
  have HVC := Lib.hid ((hat _ _ hvc).up BW.out)
  have HXC := Lib.hid (HCAT.out.up BW.out)
  have HSET := Lib.hid (fun (W : World) (hb : Below w2.heap.size w2 W) => set_any (sz u) u uc ac.r.x ac.r.y W (Nat.le_refl _) hisa.fine.2.1.1 hisa.fine.2.1.2.1 ((hisu.up BW.out).up hb))
  have har : a.r = ac.r := hisa.split.2.1
  have hvr : v.r = vc.r := hisv.split.2.1
  have hk23 : g.k = 2 ∨ g.k = 3 := by rcases well_kind (tile_top (show sz g ≤ 20000 by omega) ht).1 with h | h | h <;> omega
  have hvb := may_rect (well_rect (tile_top (by have := sz_kid hv; omega) (tile_kid (show sz g ≤ 20000 by omega) ht hv)).1)
  rw [hvr] at hvb
  have hgt : grownT g j = adjO (g.k - 1) (szA vc.r (g.k - 1) + 1) (setT ac.r.x ac.r.y u) := by
    unfold grownT
    rw [getD_of hv, getD_of hpair.first, getD_of hpair.grows, hvr, har]
  have haj := hgrows.here
  rw [hvr, har] at haj
  have hax : (if xk = 3 then (2 : Int) else 1) = g.k - 1 := by rw [← e1]; rcases hk23 with h | h <;> rw [h] <;> rfl
  have hzb : 0 ≤ szA vc.r (g.k - 1) ∧ szA vc.r (g.k - 1) ≤ 10000 := by unfold szA; split <;> omega
  have hadj : ∀ (d : C) (W : World), Is W d (setT ac.r.x ac.r.y u) → Calls Tryz.prog 49 #[cval d, .int .u8 (g.k - 1), .int .i64 (szA vc.r (g.k - 1) + 1)] W fun e w' => ∃ d', e = .returned (.tuple #[cval d', .int .i64 0]) ∧ Stands (fun _ => True) w' W.heap.size w'.heap.size d' (grownT g j) ∧ Below W.heap.size W w' := fun d W hI => by
    refine (adjust_any (setT ac.r.x ac.r.y u) d (g.k - 1) (szA vc.r (g.k - 1) + 1) W (by rw [setT_sz]; have := sz_kid hpair.grows; omega) hI (by unfold fits; omega)).mono ?_
    rintro e w' ⟨d', he, hst, hb⟩
    rw [haj] at he hst
    rw [if_pos rfl] at hst
    refine ⟨d', he, ?_, hb⟩
    rw [hgt]
    unfold adjO
    rw [if_pos haj]
    exact hst
  have HADJ := Lib.hid hadj
  have HAXI := Lib.hid (fun (W : World) (hb : Below w2.heap.size w2 W) => axis_any b o (j : Int) _ W (HXC.out.up hb))
  simp only [hax] at HAXI
  have HSZ := Lib.hid (fun W => lsize_any vc.r (g.k - 1) W)
  have hwz : IntKind.i64.wrap (szA vc.r (g.k - 1) + 1) = szA vc.r (g.k - 1) + 1 := wrap_id (by omega)
  clear hadj haj hgt hax hvb har hk23
  generalize g.k - 1 = ax at HADJ HAXI HSZ hwz hzb
  generalize szA vc.r ax = z at HADJ HSZ hwz hzb
  have HWZ := Lib.hid hwz
  clear hwz hzb
  have HX3 : Hid (∀ W, Below w2.heap.size w2 W → (W.cell? ⟨w.heap.size, 0, none⟩ = some (.pointer (some ⟨b, o, none⟩)) ∧ W.cell? ⟨w.heap.size, 1, none⟩ = some (.int .i64 (j : Int)) ∧ W.cell? ⟨b, o + 6, none⟩ = some (.slice (some ⟨kg, 0, none⟩) g.kids.length xcap) ∧ W.cell? ⟨bb, 1, none⟩ = some (.int .i64 ac.r.x) ∧ W.cell? ⟨bb, 2, none⟩ = some (.int .i64 ac.r.y)) ∧ CellsT W kg (h * 7) uc) := Lib.hid fun W hb => by
    obtain ⟨⟨s0, s1⟩, -, -⟩ := spot_parts ((hb.block _ (lt_of_block SW.out)).trans SW.out)
    have x6 := (HXC.out.up hb).2.2.2.2.2.2
    obtain ⟨-, b1, b2, -⟩ := c7_of (FW.out.up hb).cat
    exact ⟨⟨s0, s1, x6, b1, b2⟩, HUC.out.up hb⟩
  have D0 : Hid (Below w2.heap.size w2 w2.drew) := Lib.hid (Below.refl _ _).drew
  have Dz : Hid (Below w2.heap.size w2 (w2.alloc zeroBox).drew) := Lib.hid (bl_al (Below.refl _ _) _).drew
  have Dy : Hid (Below w2.heap.size w2 (w2.drew.alloc zeroBox)) := Lib.hid (bl_al D0.out _)
  have ZZ : Hid (ZL w2 (w2.alloc zeroBox).drew w2.heap.size) := Lib.hid (zl_drew (Below.refl _ _))
  have ZY : Hid (ZL w2 (w2.drew.alloc zeroBox) w2.drew.heap.size) := Lib.hid (zl_new D0.out)
  have HHI := Lib.hid (show (h : Int) < (g.kids.length : Int) by omega)
  go_region_held3 (fun W => (W.cell? ⟨w.heap.size, 0, none⟩ = some (.pointer (some ⟨b, o, none⟩)) ∧ W.cell? ⟨w.heap.size, 1, none⟩ = some (.int .i64 (j : Int)) ∧ W.cell? ⟨b, o + 6, none⟩ = some (.slice (some ⟨kg, 0, none⟩) g.kids.length xcap) ∧ W.cell? ⟨bb, 1, none⟩ = some (.int .i64 ac.r.x) ∧ W.cell? ⟨bb, 2, none⟩ = some (.int .i64 ac.r.y)) ∧ W.cell? ⟨kg, h * 7, none⟩ = some (.int .u8 uc.k) ∧ W.cell? ⟨kg, h * 7 + 1, none⟩ = some (.int .i64 uc.r.x) ∧ W.cell? ⟨kg, h * 7 + 2, none⟩ = some (.int .i64 uc.r.y) ∧ W.cell? ⟨kg, h * 7 + 3, none⟩ = some (.int .i64 uc.r.w) ∧ W.cell? ⟨kg, h * 7 + 4, none⟩ = some (.int .i64 uc.r.h) ∧ W.cell? ⟨kg, h * 7 + 5, none⟩ = some (.int .i64 uc.id) ∧ W.cell? ⟨kg, h * 7 + 6, none⟩ = some (.slice uc.a uc.n uc.cap)) (exact HX3.out _ (by first | with_reducible exact D0.out | with_reducible exact Dz.out | with_reducible exact Dy.out | with_reducible exact L4.out | with_reducible exact bl_al L4.out _ | with_reducible exact L5.out | with_reducible exact bl_al L5.out _ | with_reducible exact P5.out))
    (first
      | (go_at_call 22; (with_reducible refine (HNB.out _).mono ?_); rintro e w4 ⟨rfl, hb4⟩; have L4 := Lib.hid (bl_up (by first | with_reducible exact D0.out | with_reducible exact Dz.out | with_reducible exact Dy.out) hb4); (first | with_reducible have Z4 := Lib.hid (ZZ.out.up hb4) | with_reducible have Z4 := Lib.hid (ZY.out.up hb4) | have N4 := Lib.hid True.intro); clear hb4)
      | (go_at_call 53; (with_reducible refine (HSET.out _ (by first | with_reducible exact L4.out | with_reducible exact bl_al L4.out _)).mono ?_); rintro e w5 ⟨d5, S5, rfl, hown5, -, hb5⟩; have L5 := Lib.hid (bl_up (by first | with_reducible exact L4.out | with_reducible exact bl_al L4.out _) hb5); have O5 := Lib.hid hown5; (first | ((with_reducible have Z5 := Lib.hid (Z4.out.up hb5)); have ZM := Lib.hid Z4.out; have P5 := Lib.hid (below_put7 L5.out Z5.out.2 d5); obtain ⟨⟨z0, z1, z2, z3, z4, z5, z6⟩, f0, f1, f2, f3, f4, f5, f6⟩ := zero_parts Z5.out.1) | ((with_reducible have Z5 := Lib.hid ((zl_new L4.out).up hb5)); have ZM := Lib.hid (zl_new L4.out); have P5 := Lib.hid (below_put7 L5.out Z5.out.2 d5); obtain ⟨⟨z0, z1, z2, z3, z4, z5, z6⟩, f0, f1, f2, f3, f4, f5, f6⟩ := zero_parts Z5.out.1) | have N5 := Lib.hid True.intro); clear hown5 hb5))
  all_goals (rename_i hh9; clear hh9)
  all_goals first
    | (have P0 := Lib.hid (gr_put L5.out Z5.out ZM.out O5.out); change Exit.then _ _ _ _ (put7 w5 _ d5); generalize put7 w5 _ d5 = w8 at P0 ⊢; (first | ((with_reducible have P : Hid (Gr w2 w4.heap.size d5 (setT ac.r.x ac.r.y u) w8) := P0); clear P0; generalize w4.heap.size = bk at P ⊢) | ((with_reducible have P : Hid (Gr w2 w2.heap.size d5 (setT ac.r.x ac.r.y u) w8) := P0); clear P0; generalize w2.heap.size = bk at P ⊢)))
    | (have P := Lib.hid (gr_new L5.out O5.out); generalize w5.alloc (cbox d5) = w8 at P ⊢; generalize w5.heap.size = bk at P ⊢)
  all_goals (try clear z0 z1 z2 z3 z4 z5 z6 f0 f1 f2 f3 f4 f5 f6)
  all_goals (try clear L4 Z4)
  all_goals (try clear L5 O5 Z5 ZM P5)
  all_goals (try clear N4)
  all_goals (try clear N5)
  all_goals
    clear HX3 HSET D0 Dz Dy ZZ ZY HUC
    have HX4 : Hid (∀ W, Below w8.heap.size w8 W → S4 w.heap.size b o bk kg j g.kids.length xcap d5 vc W) := Lib.hid fun W hb => by
      have hb2 := bl_up P.out.below hb
      obtain ⟨⟨s0, s1⟩, -, -⟩ := spot_parts ((hb2.block _ (lt_of_block SW.out)).trans SW.out)
      have x6 := (HXC.out.up hb2).2.2.2.2.2.2
      obtain ⟨-, v1, v2, v3, v4, -⟩ := HVC.out.up hb2
      exact ⟨⟨s0, s1, x6⟩, ⟨v1, v2, v3, v4⟩, c7_of (P.out.box.up hb).cat⟩
    have D8 : Hid (Below w8.heap.size w8 w8.drew) := Lib.hid (Below.refl _ _).drew
    have Z8 : Hid (Box7 w8.drew bk d5) := Lib.hid (P.out.box.up D8.out)
    go_wp2_with fail
    refine wp_region_noPanic ?_
    refine wp_region_B (n := 21) (S := S4 w.heap.size b o bk kg j g.kids.length xcap d5 vc) (by kernel_rfl) (HX4.out _ D8.out) (fun hHeld => ?_)
    generalize w8.drew = wd at D8 Z8 hHeld ⊢
    refine anyB_take (i := 0) (v := cval d5) rfl (by kernel_rfl) (by kernel_rfl) (by kernel_rfl) (by kernel_rfl) (fun _ _ _ h => h) (Or.inl ⟨by rfl, ?_⟩) (by assumption) ?_
    · (intro W hSw; obtain ⟨⟨s0, s1, x6⟩, ⟨v1, v2, v3, v4⟩, q0, q1, q2, q3, q4, q5, q6⟩ := hSw; go_simp)
    change anyB _ _ _ _ _ _ _ _ (Act.put _ (some 35) _) _
    (try simp only [Act.put, List.setIfInBounds_toArray, List.set_cons_zero, List.set_cons_succ])
    refine anyB_take (i := 1) (v := spotV b o (j : Int)) rfl (by kernel_rfl) (by kernel_rfl) (by kernel_rfl) (by kernel_rfl) (fun _ _ _ h => h) (Or.inl ⟨by rfl, ?_⟩) (by assumption) ?_
    · (intro W hSw; obtain ⟨⟨s0, s1, x6⟩, ⟨v1, v2, v3, v4⟩, q0, q1, q2, q3, q4, q5, q6⟩ := hSw; go_simp)
    change anyB _ _ _ _ _ _ _ _ (Act.put _ (some 36) _) _
    (try simp only [Act.put, List.setIfInBounds_toArray, List.set_cons_zero, List.set_cons_succ])
    refine anyB_take (i := 3) (v := .pointer (some ⟨w.heap.size, 0, none⟩)) rfl (by kernel_rfl) (by kernel_rfl) (by kernel_rfl) (by kernel_rfl) (fun _ _ _ h => h) (Or.inl ⟨by rfl, ?_⟩) (by assumption) ?_
    · (intro W hSw; obtain ⟨⟨s0, s1, x6⟩, ⟨v1, v2, v3, v4⟩, q0, q1, q2, q3, q4, q5, q6⟩ := hSw; go_simp)
    change anyB _ _ _ _ _ _ _ _ (Act.put _ (some 38) _) _
    (try simp only [Act.put, List.setIfInBounds_toArray, List.set_cons_zero, List.set_cons_succ])
    refine anyB_take (i := 4) (v := .pointer (some ⟨b, o, none⟩)) rfl (by kernel_rfl) (by kernel_rfl) (by kernel_rfl) (by kernel_rfl) (fun _ _ _ h => h) (Or.inl ⟨by rfl, ?_⟩) (by assumption) ?_
    · (intro W hSw; obtain ⟨⟨s0, s1, x6⟩, ⟨v1, v2, v3, v4⟩, q0, q1, q2, q3, q4, q5, q6⟩ := hSw; go_simp)
    change anyB _ _ _ _ _ _ _ _ (Act.put _ (some 39) _) _
    (try simp only [Act.put, List.setIfInBounds_toArray, List.set_cons_zero, List.set_cons_succ])
    refine anyB_take (i := 5) (v := .pointer (some ⟨b, o, none⟩)) rfl (by kernel_rfl) (by kernel_rfl) (by kernel_rfl) (by kernel_rfl) (fun _ _ _ h => h) (Or.inl ⟨by rfl, ?_⟩) (by assumption) ?_
    · (intro W hSw; obtain ⟨⟨s0, s1, x6⟩, ⟨v1, v2, v3, v4⟩, q0, q1, q2, q3, q4, q5, q6⟩ := hSw; go_simp)
    change anyB _ _ _ _ _ _ _ _ (Act.put _ (some 40) _) _
    (try simp only [Act.put, List.setIfInBounds_toArray, List.set_cons_zero, List.set_cons_succ])
    refine anyB_take (i := 6) (v := .pointer (some ⟨b, o + 6, none⟩)) rfl (by kernel_rfl) (by kernel_rfl) (by kernel_rfl) (by kernel_rfl) (fun _ _ _ h => h) (Or.inl ⟨by rfl, ?_⟩) (by assumption) ?_
    · (intro W hSw; obtain ⟨⟨s0, s1, x6⟩, ⟨v1, v2, v3, v4⟩, q0, q1, q2, q3, q4, q5, q6⟩ := hSw; go_simp)
    change anyB _ _ _ _ _ _ _ _ (Act.put _ (some 41) _) _
    (try simp only [Act.put, List.setIfInBounds_toArray, List.set_cons_zero, List.set_cons_succ])
    refine anyB_take (i := 7) (v := .slice (some ⟨kg, 0, none⟩) g.kids.length xcap) rfl (by kernel_rfl) (by kernel_rfl) (by kernel_rfl) (by kernel_rfl) (fun _ _ _ h => h) (Or.inl ⟨by rfl, ?_⟩) (by assumption) ?_
    · (intro W hSw; obtain ⟨⟨s0, s1, x6⟩, ⟨v1, v2, v3, v4⟩, q0, q1, q2, q3, q4, q5, q6⟩ := hSw; go_simp)
    change anyB _ _ _ _ _ _ _ _ (Act.put _ (some 42) _) _
    (try simp only [Act.put, List.setIfInBounds_toArray, List.set_cons_zero, List.set_cons_succ])
    refine anyB_take (i := 8) (v := .pointer (some ⟨w.heap.size, 1, none⟩)) rfl (by kernel_rfl) (by kernel_rfl) (by kernel_rfl) (by kernel_rfl) (fun _ _ _ h => h) (Or.inl ⟨by rfl, ?_⟩) (by assumption) ?_
    · (intro W hSw; obtain ⟨⟨s0, s1, x6⟩, ⟨v1, v2, v3, v4⟩, q0, q1, q2, q3, q4, q5, q6⟩ := hSw; go_simp)
    change anyB _ _ _ _ _ _ _ _ (Act.put _ (some 43) _) _
    (try simp only [Act.put, List.setIfInBounds_toArray, List.set_cons_zero, List.set_cons_succ])
    refine anyB_take (i := 9) (v := .int .i64 (j : Int)) rfl (by kernel_rfl) (by kernel_rfl) (by kernel_rfl) (by kernel_rfl) (fun _ _ _ h => h) (Or.inl ⟨by rfl, ?_⟩) (by assumption) ?_
    · (intro W hSw; obtain ⟨⟨s0, s1, x6⟩, ⟨v1, v2, v3, v4⟩, q0, q1, q2, q3, q4, q5, q6⟩ := hSw; go_simp)
    change anyB _ _ _ _ _ _ _ _ (Act.put _ (some 44) _) _
    (try simp only [Act.put, List.setIfInBounds_toArray, List.set_cons_zero, List.set_cons_succ])
    refine anyB_take (i := 10) (v := .pointer (some ⟨kg, j * 7, none⟩)) rfl (by kernel_rfl) (by kernel_rfl) (by kernel_rfl) (by kernel_rfl) (fun _ _ _ h => h) (Or.inl ⟨by rfl, ?_⟩) (by assumption) ?_
    · (intro W hSw; obtain ⟨⟨s0, s1, x6⟩, ⟨v1, v2, v3, v4⟩, q0, q1, q2, q3, q4, q5, q6⟩ := hSw; go_simp)
    change anyB _ _ _ _ _ _ _ _ (Act.put _ (some 45) _) _
    (try simp only [Act.put, List.setIfInBounds_toArray, List.set_cons_zero, List.set_cons_succ])
    refine anyB_take (i := 11) (v := .pointer (some ⟨kg, j * 7 + 1, none⟩)) rfl (by kernel_rfl) (by kernel_rfl) (by kernel_rfl) (by kernel_rfl) (fun _ _ _ h => h) (Or.inl ⟨by rfl, ?_⟩) (by assumption) ?_
    · (intro W hSw; obtain ⟨⟨s0, s1, x6⟩, ⟨v1, v2, v3, v4⟩, q0, q1, q2, q3, q4, q5, q6⟩ := hSw; go_simp)
    change anyB _ _ _ _ _ _ _ _ (Act.put _ (some 46) _) _
    (try simp only [Act.put, List.setIfInBounds_toArray, List.set_cons_zero, List.set_cons_succ])
    refine anyB_take (i := 12) (v := val vc.r) rfl (by kernel_rfl) (by kernel_rfl) (by kernel_rfl) (by kernel_rfl) (fun _ _ _ h => h) (Or.inl ⟨by rfl, ?_⟩) (by assumption) ?_
    · (intro W hSw; obtain ⟨⟨s0, s1, x6⟩, ⟨v1, v2, v3, v4⟩, q0, q1, q2, q3, q4, q5, q6⟩ := hSw; go_simp)
    change anyB _ _ _ _ _ _ _ _ (Act.put _ (some 47) _) _
    (try simp only [Act.put, List.setIfInBounds_toArray, List.set_cons_zero, List.set_cons_succ])
    refine anyB_take (i := 13) (v := spotV b o (j : Int)) rfl (by kernel_rfl) (by kernel_rfl) (by kernel_rfl) (by kernel_rfl) (fun _ _ _ h => h) (Or.inl ⟨by rfl, ?_⟩) (by assumption) ?_
    · (intro W hSw; obtain ⟨⟨s0, s1, x6⟩, ⟨v1, v2, v3, v4⟩, q0, q1, q2, q3, q4, q5, q6⟩ := hSw; go_simp)
    change anyB _ _ _ _ _ _ _ _ (Act.put _ (some 48) _) _
    (try simp only [Act.put, List.setIfInBounds_toArray, List.set_cons_zero, List.set_cons_succ])
    refine anyB_one (i := 2) (by kernel_rfl) rfl (fun K hK => ?_)
    go_simp
    refine (HAXI.out wd (bl_up P.out.below D8.out)).mono ?_
    rintro e wA ⟨rfl, hbA⟩
    have LA := Lib.hid (bl_up D8.out hbA)
    have ZA := Lib.hid (Z8.out.up hbA)
    clear hbA hHeld
    go_wp2_with fail
    refine hK.out _ _ (fun _ => HX4.out _ LA.out) (fun hHeld => ?_)
    clear hK K
    have hHeld := hHeld (by kernel_rfl)
    (try simp only [Act.put, List.setIfInBounds_toArray, List.set_cons_zero, List.set_cons_succ])
    refine anyB_one (i := 14) (by kernel_rfl) rfl (fun K hK => ?_)
    go_simp
    refine (HAXI.out wA (bl_up P.out.below LA.out)).mono ?_
    rintro e wB ⟨rfl, hbB⟩
    have LB := Lib.hid (bl_up LA.out hbB)
    have ZB' := Lib.hid (ZA.out.up hbB)
    clear hbB hHeld
    go_wp2_with fail
    refine hK.out _ _ (fun _ => HX4.out _ LB.out) (fun hHeld => ?_)
    clear hK K
    have hHeld := hHeld (by kernel_rfl)
    (try simp only [Act.put, List.setIfInBounds_toArray, List.set_cons_zero, List.set_cons_succ])
    refine anyB_one (i := 15) (by kernel_rfl) rfl (fun K hK => ?_)
    go_simp
    refine (HSZ.out wB).mono ?_
    rintro e wC ⟨rfl, hbC⟩
    have LC := Lib.hid (bl_up LB.out hbC)
    have ZC := Lib.hid (ZB'.out.up hbC)
    clear hbC hHeld
    go_wp2_with fail
    refine hK.out _ _ (fun _ => HX4.out _ LC.out) (fun hHeld => ?_)
    clear hK K
    have hHeld := hHeld (by kernel_rfl)
    (try simp only [Act.put, List.setIfInBounds_toArray, List.set_cons_zero, List.set_cons_succ])
    have hwz := HWZ.out
    refine anyB_take (i := 16) (v := .int .i64 (z + 1)) rfl (by kernel_rfl) (by kernel_rfl) (by kernel_rfl) (by kernel_rfl) (fun _ _ _ h => h) (Or.inl ⟨by rfl, ?_⟩) (by assumption) ?_
    · (intro W hSw; obtain ⟨⟨s0, s1, x6⟩, ⟨v1, v2, v3, v4⟩, q0, q1, q2, q3, q4, q5, q6⟩ := hSw; go_simp)
    change anyB _ _ _ _ _ _ _ _ (Act.put _ (some 51) _) _
    (try simp only [Act.put, List.setIfInBounds_toArray, List.set_cons_zero, List.set_cons_succ])
    clear hwz
    refine anyB_one (i := 17) (by kernel_rfl) rfl (fun K hK => ?_)
    go_simp
    refine (HADJ.out d5 wC (P.out.is.up LC.out)).mono ?_
    rintro e w9 ⟨d9, rfl, hst9, hb9⟩
    have L9 := Lib.hid (bl_up LC.out hb9)
    have Z9 := Lib.hid (ZC.out.up hb9)
    have ST9 := Lib.hid hst9
    have SZ9 := Lib.hid hb9.size
    clear hb9 hst9 hHeld
    go_wp2_with fail
    refine hK.out _ _ (fun _ => HX4.out _ L9.out) (fun hHeld => ?_)
    clear hK K
    have hHeld := hHeld (by kernel_rfl)
    (try simp only [Act.put, List.setIfInBounds_toArray, List.set_cons_zero, List.set_cons_succ])
    refine anyB_take (i := 18) (v := .tuple #[cval d9, .int .i64 0]) rfl (by kernel_rfl) (by kernel_rfl) (by kernel_rfl) (by kernel_rfl) (fun _ _ _ h => h) (Or.inl ⟨by rfl, ?_⟩) (by assumption) ?_
    · (intro W hSw; obtain ⟨⟨s0, s1, x6⟩, ⟨v1, v2, v3, v4⟩, q0, q1, q2, q3, q4, q5, q6⟩ := hSw; go_simp)
    change anyB _ _ _ _ _ _ _ _ (Act.put _ (some 34) _) _
    (try simp only [Act.put, List.setIfInBounds_toArray, List.set_cons_zero, List.set_cons_succ])
    refine anyB_take (i := 19) (v := cval d9) rfl (by kernel_rfl) (by kernel_rfl) (by kernel_rfl) (by kernel_rfl) (fun _ _ _ h => h) (Or.inl ⟨by rfl, ?_⟩) (by assumption) ?_
    · (intro W hSw; obtain ⟨⟨s0, s1, x6⟩, ⟨v1, v2, v3, v4⟩, q0, q1, q2, q3, q4, q5, q6⟩ := hSw; go_simp)
    change anyB _ _ _ _ _ _ _ _ (Act.put _ (some 53) _) _
    (try simp only [Act.put, List.setIfInBounds_toArray, List.set_cons_zero, List.set_cons_succ])
    refine anyB_takeW (i := 20) (v := .int .i64 0) rfl (by kernel_rfl) (by kernel_rfl) (by kernel_rfl) (by kernel_rfl) (fun _ _ _ h => h) (Or.inl ⟨by rfl, ?_⟩) (by assumption) ?_
    · (intro W _; go_simp)
    change anyB _ _ _ _ _ _ _ _ (Act.put _ (some 54) _) _
    (try simp only [Act.put, List.setIfInBounds_toArray, List.set_cons_zero, List.set_cons_succ])
    clear hHeld
    obtain ⟨q0, q1, q2, q3, q4, q5, q6⟩ := c7_of Z9.out.cat
    have f0 := Z9.out.free 0
    have f1 := Z9.out.free 1
    have f2 := Z9.out.free 2
    have f3 := Z9.out.free 3
    have f4 := Z9.out.free 4
    have f5 := Z9.out.free 5
    have f6 := Z9.out.free 6
    refine anyB_one (i := 21) (by kernel_rfl) rfl (fun K hK => ?_)
    go_simp
    refine hK.out _ _ (fun h => absurd h (by decide)) (fun _ => ?_)
    clear hK K
    refine anyB_done (by kernel_rfl) ?_ _
    refine NoPanic.normal ?_
    (try simp only [Act.put, List.setIfInBounds_toArray, List.set_cons_zero, List.set_cons_succ])
    clear q0 q1 q2 q3 q4 q5 q6 f0 f1 f2 f3 f4 f5 f6
    have hbk8 : bk < w8.heap.size := lt_of_block P.out.box
    have B10 := Lib.hid (below_put7 (bl_up P.out.below L9.out) P.out.far d9)
    have X10 := Lib.hid (Z9.out.put d9)
    have ST10 : Hid (Stands (fun _ => True) (put7 w9 bk d9) wC.heap.size (put7 w9 bk d9).heap.size d9 (grownT g j)) := Lib.hid (by
      rw [size_put7]
      exact ST9.out.move fun k hk _ => heap_put7 (by have := LC.out.size; omega))
    have LO : Hid (w.heap.size ≤ wC.heap.size) := Lib.hid (Nat.le_trans BW.out.size (bl_up P.out.below LC.out).size)
    clear ST9 Z9 hbk8
    change Exit.then _ _ _ _ (put7 w9 bk d9)
    generalize put7 w9 bk d9 = w10 at B10 X10 ST10 ⊢
    have BX0 : Hid (SR5 w.heap.size b o bk kg j g.kids.length xcap d9 w10) := Lib.hid (by
      obtain ⟨⟨s0, s1⟩, -, -⟩ := spot_parts ((B10.out.block _ (lt_of_block SW.out)).trans SW.out)
      exact ⟨⟨s0, s1, (HXC.out.up B10.out).2.2.2.2.2.2⟩, c7_of X10.out.cat⟩)
    have NE : Hid (w.heap.size ≠ kg ∧ b ≠ kg ∧ bk ≠ kg ∧ bk ≠ b ∧ bk ≠ w.heap.size ∧ b ≠ w.heap.size) := Lib.hid (by
      have h1 := P.out.far
      have h2 := BW.out.size
      have h3 := lt_of_block hblk
      have h4 : b ≠ kg := fun e => hout (List.mem_append_left _ (by rw [e]; simp [blk, Value.ownBlock]))
      have h5 := lt_of_block SW.out
      refine ⟨by omega, h4, by omega, by omega, by omega, by omega⟩)
    have LT10 : Hid (w.heap.size < w10.heap.size ∧ b < w10.heap.size ∧ bk < w10.heap.size ∧ kg < w10.heap.size) := Lib.hid (by
      have h1 := B10.out.size
      have h2 := BW.out.size
      have h3 := lt_of_block hblk
      have h5 := lt_of_block SW.out
      have h6 := lt_of_block X10.out
      omega)
    have BA10 : Hid (Below w.heap.size w w10) := Lib.hid (bl_up BW.out B10.out)
    have LESS := Lib.hid (less_any cs d9 g.kids.length f base kg xcap w10.heap.size (w10.drew.alloc (cbox d9)) ((row.up BA10.out.drew).up ((Below.refl _ _).alloc (Nat.le_refl _) _)) (show OwnC (w10.drew.alloc (cbox d9)) 0 (.slice (some ⟨w10.heap.size, 0, none⟩) 1 1) [d9] from OwnC.one w10.drew 0 (Nat.zero_le _) d9) (by have := LT10.out.2.2.2; show kg ≠ w10.heap.size; omega) (by omega) (by omega))
    have hwf2 : IntKind.i64.wrap ((f : Int) + 2) = (f : Int) + 2 := wrap_id (by omega)
    go_wp2_with fail
    refine wp_region_noPanic ?_
    refine wp_region_B (n := 15) (S := SR5 w.heap.size b o bk kg j g.kids.length xcap d9) (by kernel_rfl) (BX0.out.kept rfl rfl rfl) (fun hHeld => ?_)
    refine anyB_take (i := 0) (v := .pointer (some ⟨w.heap.size, 0, none⟩)) rfl (by kernel_rfl) (by kernel_rfl) (by kernel_rfl) (by kernel_rfl) (fun _ _ _ h => h) (Or.inl ⟨by rfl, ?_⟩) (by assumption) ?_
    · (intro W hSw; obtain ⟨⟨s0, s1, x6⟩, q0, q1, q2, q3, q4, q5, q6⟩ := hSw; go_simp)
    change anyB _ _ _ _ _ _ _ _ (Act.put _ (some 55) _) _
    (try simp only [Act.put, List.setIfInBounds_toArray, List.set_cons_zero, List.set_cons_succ])
    refine anyB_take (i := 1) (v := .pointer (some ⟨b, o, none⟩)) rfl (by kernel_rfl) (by kernel_rfl) (by kernel_rfl) (by kernel_rfl) (fun _ _ _ h => h) (Or.inl ⟨by rfl, ?_⟩) (by assumption) ?_
    · (intro W hSw; obtain ⟨⟨s0, s1, x6⟩, q0, q1, q2, q3, q4, q5, q6⟩ := hSw; go_simp)
    change anyB _ _ _ _ _ _ _ _ (Act.put _ (some 56) _) _
    (try simp only [Act.put, List.setIfInBounds_toArray, List.set_cons_zero, List.set_cons_succ])
    refine anyB_take (i := 2) (v := .pointer (some ⟨w.heap.size, 0, none⟩)) rfl (by kernel_rfl) (by kernel_rfl) (by kernel_rfl) (by kernel_rfl) (fun _ _ _ h => h) (Or.inl ⟨by rfl, ?_⟩) (by assumption) ?_
    · (intro W hSw; obtain ⟨⟨s0, s1, x6⟩, q0, q1, q2, q3, q4, q5, q6⟩ := hSw; go_simp)
    change anyB _ _ _ _ _ _ _ _ (Act.put _ (some 57) _) _
    (try simp only [Act.put, List.setIfInBounds_toArray, List.set_cons_zero, List.set_cons_succ])
    refine anyB_take (i := 3) (v := .pointer (some ⟨b, o, none⟩)) rfl (by kernel_rfl) (by kernel_rfl) (by kernel_rfl) (by kernel_rfl) (fun _ _ _ h => h) (Or.inl ⟨by rfl, ?_⟩) (by assumption) ?_
    · (intro W hSw; obtain ⟨⟨s0, s1, x6⟩, q0, q1, q2, q3, q4, q5, q6⟩ := hSw; go_simp)
    change anyB _ _ _ _ _ _ _ _ (Act.put _ (some 58) _) _
    (try simp only [Act.put, List.setIfInBounds_toArray, List.set_cons_zero, List.set_cons_succ])
    refine anyB_take (i := 4) (v := .pointer (some ⟨b, o, none⟩)) rfl (by kernel_rfl) (by kernel_rfl) (by kernel_rfl) (by kernel_rfl) (fun _ _ _ h => h) (Or.inl ⟨by rfl, ?_⟩) (by assumption) ?_
    · (intro W hSw; obtain ⟨⟨s0, s1, x6⟩, q0, q1, q2, q3, q4, q5, q6⟩ := hSw; go_simp)
    change anyB _ _ _ _ _ _ _ _ (Act.put _ (some 59) _) _
    (try simp only [Act.put, List.setIfInBounds_toArray, List.set_cons_zero, List.set_cons_succ])
    refine anyB_take (i := 5) (v := .pointer (some ⟨b, o + 6, none⟩)) rfl (by kernel_rfl) (by kernel_rfl) (by kernel_rfl) (by kernel_rfl) (fun _ _ _ h => h) (Or.inl ⟨by rfl, ?_⟩) (by assumption) ?_
    · (intro W hSw; obtain ⟨⟨s0, s1, x6⟩, q0, q1, q2, q3, q4, q5, q6⟩ := hSw; go_simp)
    change anyB _ _ _ _ _ _ _ _ (Act.put _ (some 60) _) _
    (try simp only [Act.put, List.setIfInBounds_toArray, List.set_cons_zero, List.set_cons_succ])
    refine anyB_take (i := 6) (v := .slice (some ⟨kg, 0, none⟩) g.kids.length xcap) rfl (by kernel_rfl) (by kernel_rfl) (by kernel_rfl) (by kernel_rfl) (fun _ _ _ h => h) (Or.inl ⟨by rfl, ?_⟩) (by assumption) ?_
    · (intro W hSw; obtain ⟨⟨s0, s1, x6⟩, q0, q1, q2, q3, q4, q5, q6⟩ := hSw; go_simp)
    change anyB _ _ _ _ _ _ _ _ (Act.put _ (some 61) _) _
    (try simp only [Act.put, List.setIfInBounds_toArray, List.set_cons_zero, List.set_cons_succ])
    refine anyB_take (i := 7) (v := .int .i64 (f : Int)) rfl (by kernel_rfl) (by kernel_rfl) (by kernel_rfl) (by kernel_rfl) (fun _ _ _ h => h) (Or.inl ⟨by rfl, ?_⟩) (by assumption) ?_
    · (intro W hSw; obtain ⟨⟨s0, s1, x6⟩, q0, q1, q2, q3, q4, q5, q6⟩ := hSw; go_simp)
    change anyB _ _ _ _ _ _ _ _ (Act.put _ (some 62) _) _
    (try simp only [Act.put, List.setIfInBounds_toArray, List.set_cons_zero, List.set_cons_succ])
    refine anyB_take (i := 8) (v := .int .i64 (f : Int)) rfl (by kernel_rfl) (by kernel_rfl) (by kernel_rfl) (by kernel_rfl) (fun _ _ _ h => h) (Or.inl ⟨by rfl, ?_⟩) (by assumption) ?_
    · (intro W hSw; obtain ⟨⟨s0, s1, x6⟩, q0, q1, q2, q3, q4, q5, q6⟩ := hSw; go_simp)
    change anyB _ _ _ _ _ _ _ _ (Act.put _ (some 63) _) _
    (try simp only [Act.put, List.setIfInBounds_toArray, List.set_cons_zero, List.set_cons_succ])
    refine anyB_take (i := 9) (v := .int .i64 ((f : Int) + 2)) rfl (by kernel_rfl) (by kernel_rfl) (by kernel_rfl) (by kernel_rfl) (fun _ _ _ h => h) (Or.inl ⟨by rfl, ?_⟩) (by assumption) ?_
    · (intro W hSw; obtain ⟨⟨s0, s1, x6⟩, q0, q1, q2, q3, q4, q5, q6⟩ := hSw; go_simp)
    change anyB _ _ _ _ _ _ _ _ (Act.put _ (some 64) _) _
    (try simp only [Act.put, List.setIfInBounds_toArray, List.set_cons_zero, List.set_cons_succ])
    refine anyB_take (i := 10) (v := cval d9) rfl (by kernel_rfl) (by kernel_rfl) (by kernel_rfl) (by kernel_rfl) (fun _ _ _ h => h) (Or.inl ⟨by rfl, ?_⟩) (by assumption) ?_
    · (intro W hSw; obtain ⟨⟨s0, s1, x6⟩, q0, q1, q2, q3, q4, q5, q6⟩ := hSw; go_simp)
    change anyB _ _ _ _ _ _ _ _ (Act.put _ (some 65) _) _
    (try simp only [Act.put, List.setIfInBounds_toArray, List.set_cons_zero, List.set_cons_succ])
    have AL10 : Hid (∀ k, k < w10.heap.size → (w10.drew.alloc (cbox d9)).heap[k]? = w10.heap[k]?) := Lib.hid fun k hk => heap_alloc_old w10.drew (cbox d9) hk
    have HA9 := Lib.hid (hHeld.kept (AL10.out _ LT10.out.1) (AL10.out _ LT10.out.2.1) (AL10.out _ LT10.out.2.2.1))
    clear hHeld
    refine anyB_one (i := 11) (by kernel_rfl) rfl (fun K hK => ?_)
    go_simp
    refine hK.out _ _ (fun _ => HA9.out) (fun hHeld => ?_)
    clear hK K hHeld
    (try simp only [Act.put, List.setIfInBounds_toArray, List.set_cons_zero, List.set_cons_succ])
    refine anyB_one (i := 12) (by kernel_rfl) rfl (fun K hK => ?_)
    go_simp
    refine LESS.out.mono ?_
    rintro e w11 ⟨rfl, hown11, hgr11⟩
    have GR11 : Hid (∀ k, k < w10.heap.size → k ≠ kg → w11.heap[k]? = w10.heap[k]?) := Lib.hid fun k hk hkk => (hgr11.block k (by simp; omega) (fun e => hkk (Option.some.inj e))).trans (AL10.out k hk)
    have HA11 : Hid (SR5 w.heap.size b o bk kg j g.kids.length xcap d9 w11) := Lib.hid (BX0.out.kept (GR11.out _ LT10.out.1 NE.out.1) (GR11.out _ LT10.out.2.1 NE.out.2.1) (GR11.out _ LT10.out.2.2.1 NE.out.2.2.1))
    have OW11 := Lib.hid hown11
    have LB11 : Hid (Below base w w11) := Lib.hid ((((BA10.out.mono (by omega)).drew).alloc (by have := LT10.out.2.2.2; show base ≤ w10.heap.size; omega) (cbox d9)).grown hgr11 (by have := LT10.out.2.2.2; simp; omega) (fun k hk => by cases hk; exact hkb))
    have BL11 : Hid (w11.heap[b]? = some (.cells cur 26 (0, 0))) := Lib.hid ((GR11.out _ LT10.out.2.1 NE.out.2.1).trans ((BA10.out.block b (lt_of_block hblk)).trans hblk))
    have SZ11 : Hid (w10.heap.size ≤ w11.heap.size) := Lib.hid (by have := hgr11.size; simp at this; omega)
    clear hown11 hgr11 HA9
    go_wp2_with fail
    refine hK.out _ _ (fun _ => HA11.out) (fun _ => ?_)
    clear hK K
    have hHeld := HA11.out
    (try simp only [Act.put, List.setIfInBounds_toArray, List.set_cons_zero, List.set_cons_succ])
    refine anyB_takeW (i := 13) (v := .pointer (some ⟨b, o, none⟩)) rfl (by kernel_rfl) (by kernel_rfl) (by kernel_rfl) (by kernel_rfl) (fun _ _ _ h => h) (Or.inl ⟨by rfl, ?_⟩) (by assumption) ?_
    · (intro W _; go_simp)
    change anyB _ _ _ _ _ _ _ _ (Act.put _ (some 68) _) _
    (try simp only [Act.put, List.setIfInBounds_toArray, List.set_cons_zero, List.set_cons_succ])
    refine anyB_take (i := 14) (v := .pointer (some ⟨b, o + 6, none⟩)) rfl (by kernel_rfl) (by kernel_rfl) (by kernel_rfl) (by kernel_rfl) (fun _ _ _ h => h) (Or.inl ⟨by rfl, ?_⟩) (by assumption) ?_
    · (intro W hSw; obtain ⟨⟨s0, s1, x6⟩, q0, q1, q2, q3, q4, q5, q6⟩ := hSw; go_simp)
    change anyB _ _ _ _ _ _ _ _ (Act.put _ (some 69) _) _
    (try simp only [Act.put, List.setIfInBounds_toArray, List.set_cons_zero, List.set_cons_succ])
    have x6 := hHeld.1.2.2
    have f6 := free_of_block BL11.out (o + 6)
    clear hHeld
    refine anyB_one (i := 15) (by kernel_rfl) rfl (fun K hK => ?_)
    go_simp
    refine hK.out _ _ (fun h => absurd h (by decide)) (fun _ => ?_)
    clear hK K
    refine anyB_done (by kernel_rfl) ?_ _
    refine NoPanic.normal ?_
    (try simp only [Act.put, List.setIfInBounds_toArray, List.set_cons_zero, List.set_cons_succ])
    clear x6 f6
    have BL12 : Hid ((w11.setCell ⟨b, o + 6, none⟩ (.slice (some ⟨kg, 0, none⟩) (g.kids.length - 1) xcap)).heap[b]? = some (.cells (setO cur o ⟨xk, xr, xid, some ⟨kg, 0, none⟩, g.kids.length - 1, xcap⟩) 26 (0, 0))) := Lib.hid (by
      rw [← set6_setO hblk HCAT.out (some ⟨kg, 0, none⟩) (g.kids.length - 1) xcap]
      exact set_block (i := o + 6) BL11.out _)
    have OT12 : Hid (∀ k, k ≠ b → (w11.setCell ⟨b, o + 6, none⟩ (.slice (some ⟨kg, 0, none⟩) (g.kids.length - 1) xcap)).heap[k]? = w11.heap[k]?) := Lib.hid fun k hk => Below.heap_setCell w11 ⟨b, o + 6, none⟩ _ k hk
    have LB12 : Hid (Below base w (w11.setCell ⟨b, o + 6, none⟩ (.slice (some ⟨kg, 0, none⟩) (g.kids.length - 1) xcap))) := Lib.hid (LB11.out.setCell hge _)
    have SZ12 : Hid ((w11.setCell ⟨b, o + 6, none⟩ (.slice (some ⟨kg, 0, none⟩) (g.kids.length - 1) xcap)).heap.size = w11.heap.size) := Lib.hid (by simp [World.setCell])
    change Exit.then _ _ _ _ (w11.setCell ⟨b, o + 6, none⟩ (.slice (some ⟨kg, 0, none⟩) (g.kids.length - 1) xcap))
    generalize w11.setCell ⟨b, o + 6, none⟩ (.slice (some ⟨kg, 0, none⟩) (g.kids.length - 1) xcap) = w12 at BL12 OT12 LB12 SZ12 ⊢
    have LF : Hid (Left w base b o kg xcap ⟨xk, xr, xid, some ⟨kg, 0, none⟩, g.kids.length, xcap⟩ cs cur f d9 (grownT g j) w12) := Lib.hid ⟨LB12.out, fun k hk hkg hkb' => (OT12.out k hkb').trans ((GR11.out k (by have := BA10.out.size; omega) hkg).trans (BA10.out.block k hk)), by rw [len]; exact ownC_kept OW11.out (fun g' hg' => by cases hg'; exact OT12.out _ (Ne.symm NE.out.2.1)), by
      have h1 := lt_of_block hblk
      have h2 := LO.out
      have h3 := SZ11.out
      have h4 := SZ12.out
      exact (ST10.out.move (w2 := w12) fun k hk hk2 => (OT12.out k (by omega)).trans (GR11.out k hk2 (by omega))).wide h2 (by omega)⟩
    have SP12 : Hid (w12.heap[w.heap.size]? = some (spotO (.pointer (some ⟨b, o, none⟩)) (j : Int))) := Lib.hid ((OT12.out _ (Ne.symm NE.out.2.2.2.2.2)).trans ((GR11.out _ LT10.out.1 NE.out.1).trans ((B10.out.block _ (lt_of_block SW.out)).trans SW.out)))
    have XB12 : Hid (Box7 w12 bk d9) := Lib.hid ((OT12.out _ NE.out.2.2.2.1).trans ((GR11.out _ LT10.out.2.2.1 NE.out.2.2.1).trans X10.out))
    clear GR11 AL10 OT12 HA11 BX0 LESS ST10 B10 X10 OW11 LB11 BL11
    obtain ⟨⟨s0, s1⟩, -, -⟩ := spot_parts SP12.out
    have hcsz := cat_size hblk HCAT.out
    obtain ⟨x0, x1, x2, x3, x4, x5, x6⟩ := cat_of_block BL12.out hcsz
    obtain ⟨q0, q1, q2, q3, q4, q5, q6⟩ := c7_of XB12.out.cat
    have hSE : Hid (∀ k, k ∉ blk (.slice (some ⟨kg, 0, none⟩) g.kids.length xcap) ++ Ss.flatten → k ≠ kg) := Lib.hid fun k hk e => hk (List.mem_append_left _ (by rw [e]; simp [blk, Value.ownBlock]))
    have HBW : Hid (b < w.heap.size) := Lib.hid (lt_of_block hblk)
    by_cases hn2 : g.kids.length = 2
    · have hd : (((g.kids.length - 1 : Nat) : Int) == 1) = true := by rw [hn2]; rfl
      have HG : Hid (goneT g j = grownT g j) := Lib.hid (by unfold goneT; rw [if_pos hn2])
      have f0 := free_of_block BL12.out o
      have f1 := free_of_block BL12.out (o + 1)
      have f2 := free_of_block BL12.out (o + 2)
      have f3 := free_of_block BL12.out (o + 3)
      have f4 := free_of_block BL12.out (o + 4)
      have f5 := free_of_block BL12.out (o + 5)
      have f6 := free_of_block BL12.out (o + 6)
      clear hn2 hm hlen len slen each row fine hown hnd hout hjl hat
      go_wp2
      go_end0
      refine ⟨rfl, below_putO LF.out.low hge o d9, fun k hk hkS hkb' => (putO_other hkb').trans (LF.out.same k hk (hSE.out k hkS) hkb'), d9, ?_, ?_⟩
      · have := putO_block BL12.out d9 (o := o)
        rw [setO_setO _ _ _ _ hcsz] at this
        exact this
      · rw [HG.out]
        intro W' _ hW
        refine LF.out.grown W' trivial fun k hk hk2 => (hW k (by omega) (by rw [size_putO]; exact hk2)).trans (putO_other (by have := HBW.out; omega))
    · have hd : (((g.kids.length - 1 : Nat) : Int) == 1) = false := by rw [beq_eq_false_iff_ne]; omega
      have HI12 := Lib.hid (left_more (cur := cur) (g := g) (j := j) len slen e1 e2 e3 each fine hnd hout (by omega) hn2 hkb hkl (by rw [hjf]; exact LF.out))
      clear hn2 hm hlen len slen each row fine hown hnd hout hjl hat
      go_wp2
      go_end0
      exact ⟨rfl, LF.out.low, fun k hk hkS hkb' => LF.out.same k hk (hSE.out k hkS) hkb', _, BL12.out, HI12.out⟩
end Go.Proofs.YtbbjnimadnbmnaaGreat
