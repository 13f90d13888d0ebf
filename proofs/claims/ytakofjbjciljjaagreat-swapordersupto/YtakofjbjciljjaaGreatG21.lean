/- Texts of this seat, 3 in one file. -/
import Derived.Test.YtakofjbjciljjaaGreatG04
import Derived.Test.YtakofjbjciljjaaGreatG09
import Derived.Maps.OwnOps
import Derived.Maps.Views
/- The cells of a tree, each ahead of its kids, asked by a closure up to the first that is so: which one it is. -/
namespace Go.Proofs.YtakofjbjciljjaaGreat
open Go.RowKit

mutual
def firstT {σ : Type} (f : σ → T → Bool × σ) (s : σ) : T → (Nat × Bool) × σ
  | .node k r i l => if (f s (.node k r i l)).1 = true then ((0, true), (f s (.node k r i l)).2) else firstL f (f s (.node k r i l)).2 1 l
def firstL {σ : Type} (f : σ → T → Bool × σ) (s : σ) (n : Nat) : List T → (Nat × Bool) × σ
  | [] => ((n, false), s)
  | t :: l => if (firstT f s t).1.2 = true then ((n + (firstT f s t).1.1, true), (firstT f s t).2) else firstL f (firstT f s t).2 (n + (firstT f s t).1.1) l
end
theorem firstT_eq {σ : Type} (f : σ → T → Bool × σ) (s : σ) (t : T) : firstT f s t = if (f s t).1 = true then ((0, true), (f s t).2) else firstL f (f s t).2 1 t.kids := by
  cases t; rw [firstT]; rfl
theorem firstL_append {σ : Type} (f : σ → T → Bool × σ) (a b : List T) : ∀ (s : σ) (n : Nat), firstL f s n (a ++ b) = if (firstL f s n a).1.2 = true then firstL f s n a else firstL f (firstL f s n a).2 (firstL f s n a).1.1 b := by
  induction a with
  | nil => intro s n; simp [firstL]
  | cons t a ih =>
    intro s n
    rw [List.cons_append, firstL, firstL]
    by_cases h : (firstT f s t).1.2 = true
    · rw [if_pos h, if_pos h]; simp
    · rw [if_neg h, if_neg h]; exact ih _ _
theorem firstL_one {σ : Type} (f : σ → T → Bool × σ) (s : σ) (n : Nat) (t : T) : firstL f s n [t] = ((n + (firstT f s t).1.1, (firstT f s t).1.2), (firstT f s t).2) := by
  rw [firstL]
  by_cases h : (firstT f s t).1.2 = true
  · rw [if_pos h, h]
  · rw [if_neg h, firstL]
    have : (firstT f s t).1.2 = false := by simpa using h
    rw [this]
theorem firstL_step {σ : Type} (f : σ → T → Bool × σ) {l : List T} {k : Nat} {u : T} {s s1 : σ} {n m : Nat} (hu : l[k]? = some u) (h : firstL f s n (l.take k) = ((m, false), s1)) : firstL f s n (l.take (k + 1)) = ((m + (firstT f s1 u).1.1, (firstT f s1 u).1.2), (firstT f s1 u).2) := by
  rw [List.take_add_one, hu, Option.toList_some, firstL_append, h]
  simp only [Bool.false_eq_true, if_false]
  exact firstL_one f s1 m u
theorem firstL_stop {σ : Type} (f : σ → T → Bool × σ) {l : List T} {k : Nat} {s : σ} {n : Nat} (h : (firstL f s n (l.take k)).1.2 = true) : firstL f s n l = firstL f s n (l.take k) := by
  conv => lhs; rw [← List.take_append_drop k l]
  rw [firstL_append, if_pos h]
mutual
theorem firstT_le {σ : Type} (f : σ → T → Bool × σ) (s : σ) : ∀ t, (firstT f s t).1.1 ≤ sz t
  | .node k r i l => by
    have h := firstL_le f (f s (.node k r i l)).2 1 l
    rw [firstT, sz]
    split
    · exact Nat.zero_le _
    · exact h
theorem firstL_le {σ : Type} (f : σ → T → Bool × σ) (s : σ) (n : Nat) : ∀ l, (firstL f s n l).1.1 ≤ n + szL l
  | [] => by rw [firstL]; simp [szL]
  | t :: l => by
    have h1 := firstT_le f s t
    have h2 := firstL_le f (firstT f s t).2 (n + (firstT f s t).1.1) l
    rw [firstL, szL]
    split
    · simp only; omega
    · omega
end
mutual
theorem rem_firstT {σ : Type} (f : σ → T → Bool × σ) (rem : σ → Nat) (hrem : ∀ s t, rem s ≤ rem (f s t).2 + 1) (s : σ) : ∀ t, rem s ≤ rem (firstT f s t).2 + sz t
  | .node k r i l => by
    have h1 := hrem s (.node k r i l)
    have h2 := rem_firstL f rem hrem (f s (.node k r i l)).2 1 l
    rw [firstT, sz]
    split
    · simp only; omega
    · omega
theorem rem_firstL {σ : Type} (f : σ → T → Bool × σ) (rem : σ → Nat) (hrem : ∀ s t, rem s ≤ rem (f s t).2 + 1) (s : σ) (n : Nat) : ∀ l, rem s ≤ rem (firstL f s n l).2 + szL l
  | [] => by rw [firstL]; exact Nat.le_add_right _ _
  | t :: l => by
    have h1 := rem_firstT f rem hrem s t
    have h2 := rem_firstL f rem hrem (firstT f s t).2 (n + (firstT f s t).1.1) l
    rw [firstL, szL]
    split
    · simp only; omega
    · omega
end

/-- What a closure says of a cell, and what it keeps then. -/
def JudgeF {σ : Type} (rem : σ → Nat) (w0 : World) (own : σ → Option Obj → Nat → Prop) (I : σ → World → Prop) (F : Nat) (lb : Array Value) (f : σ → T → Bool × σ) (t : T) : Prop :=
  ∀ (s : σ) (c : C) (W : World), sz t ≤ rem s → Is w0 c t → I s W → Calls Tryz.prog F (#[cval c] ++ lb) W fun e w' => e = .returned (.bool (f s t).1) ∧ I (f s t).2 w' ∧ Fr own s W (f s t).2 w'
structure MachF {σ : Type} (w0 : World) (own : σ → Option Obj → Nat → Prop) (I : σ → World → Prop) : Prop where
  new : ∀ s W cs, I s W → ¬ own s (some (.cells cs 26 (0, 0))) W.heap.size
  below : ∀ s W, I s W → Below w0.heap.size w0 W
  up : ∀ s W W', I s W → Below W.heap.size W W' → I s W'

set_option maxRecDepth 100000 in
set_option maxHeartbeats 1600000 in
theorem first_any {σ : Type} {w0 : World} {own : σ → Option Obj → Nat → Prop} {I : σ → World → Prop} (hM : MachF w0 own I) (F : Nat) (hE : Enters F) (lb : Array Value) (f : σ → T → Bool × σ) (rem : σ → Nat) (hrem : ∀ s t, rem s ≤ rem (f s t).2 + 1) (hJ : ∀ t, JudgeF rem w0 own I F lb f t) (N : Nat) :
    ∀ (t : T) (c : C) (s : σ) (W : World), sz t ≤ N → sz t ≤ 1000000 → sz t ≤ rem s → Is w0 c t → I s W →
      Calls Tryz.prog 54 #[cval c, .func (.func F) #[] lb] W fun e w' => e = .returned (.tuple #[.int .i64 ((firstT f s t).1.1 : Nat), .bool (firstT f s t).1.2]) ∧ I (firstT f s t).2 w' ∧ Fr own s W (firstT f s t).2 w' := by
  have hent : ∀ (args : Array Value) (w : World), (callFunc F args).run Tryz.prog w = .ok (.enter F args) w := hE
  have HM := Lib.hid hM
  have HJ := Lib.hid hJ
  have HREM := Lib.hid hrem
  clear hM hJ hrem hE
  induction N with
  | zero => intro t c s W h; have := sz_pos t; omega
  | succ N ih =>
    intro t c s W hN hmil hsz hi hI
    have HIH := Lib.hid ih
    clear ih
    have HA : Hid (Below W.heap.size W (W.alloc (cbox c))) := (Below.refl _ _).alloc (Nat.le_refl _) _
    have HK := Lib.hid (HJ.out t s c (W.alloc (cbox c)) hsz hi (HM.out.up _ _ _ hI HA.out))
    have HNW : Hid (¬ own s (W.alloc (cbox c)).heap[W.heap.size]? W.heap.size) := Lib.hid (by rw [heap_alloc_new]; exact HM.out.new s W _ hI)
    have HROW := Lib.hid hi.row
    have hcn := hi.n
    have HLEN := Lib.hid hi.len
    have HSZ : Hid (szL t.kids ≤ rem (f s t).2) := Lib.hid (by have := HREM.out s t; have := sz_node t; omega)
    have HND := Lib.hid (sz_node t)
    have HMIL := Lib.hid hmil
    have HNN := Lib.hid hN
    clear hi hI hsz hN hmil
    rw [firstT_eq]
    generalize f s t = res at HK HSZ ⊢
    obtain ⟨rb, rs⟩ := res
    obtain ⟨ck, cr, cid, ca, cn, ccap⟩ := c
    simp only at hcn
    subst hcn
    cases rb
    · simp only [Bool.false_eq_true, if_false]
      go_enter Tryz.func54, Tryz.ntmps54
      go_wp2_with fail
      refine HK.out.mono ?_
      rintro e w2 ⟨rfl, hi2, hfr2⟩
      have HI2 := Lib.hid hi2
      have HF2 := Lib.hid ((Fr.of HA.out).trans hfr2)
      obtain ⟨-, -, -, -, -, -, q6⟩ := (cbox_new W _).fr hfr2 HNW.out
      clear hi2 hfr2
      go_wp2
      go_loopg [6, 17] (t.kids.length + 1) (fun g n i wr => ∃ (k m : Nat) (s1 : σ), g + k = t.kids.length + 1 ∧ k ≤ t.kids.length ∧ n = .int .i64 m ∧ i = .int .i64 k ∧ firstL f rs 1 (t.kids.take k) = ((m, false), s1) ∧ I s1 wr ∧ Fr own s W s1 wr)
      case atStart => exact ⟨0, 1, rs, by omega, by omega, rfl, rfl, by simp [firstL], HI2.out, HF2.out⟩
      case round =>
        obtain ⟨k, m, s1, hg, hk, rfl, rfl, hfd, hi1, hfr⟩ := hrel
        have HG := Lib.hid hg
        have HFD := Lib.hid hfd
        have HI1 := Lib.hid hi1
        have HFR := Lib.hid hfr
        clear hg hfd hi1 hfr
        have hln := HLEN.out
        by_cases hlt : k < t.kids.length
        · obtain ⟨b, o, hca, hf⟩ := HROW.out.place (by omega)
          subst hca
          obtain ⟨u, hu⟩ : ∃ u, t.kids[k]? = some u := ⟨_, List.getElem?_eq_getElem hlt⟩
          obtain ⟨x, hx, hxi⟩ := hf k u hu
          obtain ⟨c0, c1, c2, c3, c4, c5, c6⟩ := hx.up (HM.out.below _ _ HI1.out)
          clear hf hx
          have HB : Hid (Below wr.heap.size wr (wr.alloc (cbox x))) := (Below.refl _ _).alloc (Nat.le_refl _) _
          have hszu : sz u ≤ rem s1 := by
            have h1 := rem_firstL f rem HREM.out rs 1 (t.kids.take k)
            rw [HFD.out] at h1
            have h2 := szL_take_succ hu
            have h3 := szL_take_le t.kids (k + 1)
            have := HSZ.out
            simp only at h1 this
            omega
          have hszk := sz_kid hu
          have HKR := Lib.hid (HIH.out u x s1 (wr.alloc (cbox x)) (by have := HNN.out; omega) (by have := HMIL.out; omega) hszu hxi (HM.out.up _ _ _ HI1.out HB.out))
          have HST := Lib.hid (firstL_step f hu HFD.out)
          have hle : m + (firstT f s1 u).1.1 ≤ 1000000 := by
            have h1 := firstL_le f rs 1 (t.kids.take (k + 1))
            rw [HST.out] at h1
            have h3 := szL_take_le t.kids (k + 1)
            have := HND.out
            have := HMIL.out
            simp only at h1
            omega
          clear hu hxi hszu hszk
          generalize firstT f s1 u = res2 at HKR HST hle
          obtain ⟨⟨n2, b2⟩, s2⟩ := res2
          simp only at hle
          go_wp2_with fail
          refine HKR.out.mono ?_
          rintro e w3 ⟨rfl, hi3, hfr3⟩
          have HI3 := Lib.hid hi3
          have HF3 := Lib.hid ((HFR.out.trans (Fr.of HB.out)).trans hfr3)
          clear hi3 hfr3
          cases b2
          · go_wp2
            go_roundg (gk - 1)
            case measure => have := HG.out; omega
            case rel => exact ⟨k + 1, m + n2, s2, by have := HG.out; omega, by omega, by go_num, by go_num, HST.out, HI3.out, HF3.out⟩
          · go_wp2
            go_ret2
            have hs := firstL_stop f (l := t.kids) (k := k + 1) (s := rs) (n := 1) (by rw [HST.out])
            rw [hs, HST.out]
            exact ⟨by go_num, HI3.out, HF3.out⟩
        · obtain rfl : k = t.kids.length := by omega
          have hkl : ((t.kids.length : Int) < (t.kids.length : Int)) = False := by simp
          go_wp2
          go_ret2
          have := HFD.out
          rw [List.take_length] at this
          rw [this]
          exact ⟨rfl, HI1.out, HFR.out⟩
    · go_enter Tryz.func54, Tryz.ntmps54
      go_wp2_with fail
      refine HK.out.mono ?_
      rintro e w2 ⟨rfl, hi2, hfr2⟩
      have HI2 := Lib.hid hi2
      have HF2 := Lib.hid ((Fr.of HA.out).trans hfr2)
      clear hi2 hfr2
      go_wp2
      go_ret2
      exact ⟨rfl, HI2.out, HF2.out⟩
end Go.Proofs.YtakofjbjciljjaaGreat
/- Numbers that were met, in a map; what may$1 says of a cell. -/
namespace Go.Proofs.YtakofjbjciljjaaGreat
open Go.RowKit
open Go.Maps

theorem wf_fits {n : Int} (h : fits n) : (Lit.int .i64 n).wf = true := by
  unfold fits at h
  simp [Lit.wf, IntKind.min, IntKind.max, IntKind.signed, IntKind.bits]; omega

/-- The numbers that were met. -/
def MetAt (w : World) (b : Nat) (ms : List Int) : Prop :=
  ∃ D : DataW Unit, w.ownsMap Tryz.prog 3 (plainElem Tryz.prog 4) b ms.length D ∧ IsMap D ∧ ∀ n, fits n → D.atKey (.int .i64 n) (.lit (.bool false)) = .lit (.bool (decide (n ∈ ms)))

theorem MetAt.lt {w : World} {b : Nat} {ms : List Int} (h : MetAt w b ms) : b < w.heap.size := by
  obtain ⟨D, h1, -⟩ := h; exact h1.lt
theorem MetAt.kept {w w' : World} {b : Nat} {ms : List Int} (h : MetAt w b ms) (hh : w'.heap[b]? = w.heap[b]?) : MetAt w' b ms := by
  obtain ⟨D, ⟨es, clock, hb, r⟩, h2, h3⟩ := h
  exact ⟨D, ⟨es, clock, hh.trans hb, r⟩, h2, h3⟩
theorem MetAt.up {w w' : World} {b : Nat} {ms : List Int} (h : MetAt w b ms) (hb : Below w.heap.size w w') : MetAt w' b ms := h.kept (hb.block b h.lt)

theorem plainElem_bool_inv {H : Type} {e : TypeId} (he : Tryz.prog.underlying e = some .bool) {v : Value} {z : DataW H × List MemPlace} (h : plainElem Tryz.prog e v = some z) : ∃ a, v = .bool a ∧ z = (.lit (.bool a), []) := by
  unfold plainElem at h
  rw [he] at h
  cases v <;> simp at h
  exact ⟨_, rfl, h.symm⟩

set_option maxRecDepth 100000 in
theorem MetAt.look {w : World} {b : Nat} {ms : List Int} (h : MetAt w b ms) {n : Int} (hn : fits n) : (Instr.lookup 114 (.map (some b)) (.int .i64 n) false).run Tryz.prog w = .ok (.bool (decide (n ∈ ms))) w := by
  obtain ⟨D, h1, -, h3⟩ := h
  obtain ⟨v, ps, hrun, hv⟩ := h1.lookup (t := 114) (e := 4) (int_keyed Tryz.underlying3) Tryz.underlying114 (z := .bool false) (by kernel_rfl) (plainElem_bool Tryz.underlying4 false) (keyOf_int_mk Tryz.underlying3 (wf_fits hn))
  obtain ⟨a, rfl, ha⟩ := plainElem_bool_inv Tryz.underlying4 hv
  simp only [Prod.mk.injEq] at ha
  rw [h3 n hn] at ha
  have : decide (n ∈ ms) = a := by have := ha.1; injection this with this; injection this
  rw [this]; exact hrun

theorem MetAt.put {w' : World} {b : Nat} {ms : List Int} {D : DataW Unit} (h2 : IsMap D) (h3 : ∀ n, fits n → D.atKey (.int .i64 n) (.lit (.bool false)) = .lit (.bool (decide (n ∈ ms)))) {n : Int} (hn : fits n)
    (h : w'.ownsMap Tryz.prog 3 (plainElem Tryz.prog 4) b (ms.length + 1) (D.put (.int .i64 n) (.lit (.bool true)))) : MetAt w' b (n :: ms) := by
  refine ⟨_, h, ?_, fun m hm => ?_⟩
  · obtain ⟨es, rfl⟩ := h2; exact ⟨_, rfl⟩
  · by_cases e : m = n
    · subst e
      rw [atKey_put_same h2 (by trivial)]
      simp
    · rw [atKey_put_other (by intro h; injection h with _ h; exact e h), h3 m hm]
      simp [e]

theorem MetAt.new (w : World) : MetAt (w.alloc (.map #[] 0)) w.heap.size [] :=
  ⟨.map [], World.ownsMap_made w _ _ _, ⟨_, rfl⟩, fun n _ => by simp [DataW.atKey]⟩

/-- How many cells were met, and which numbers. -/
def mayStep (s : Nat × List Int) (t : T) : Bool × (Nat × List Int) :=
  if 20000 < s.1 + 1 ∨ wellT t = false then (true, (s.1 + 1, s.2)) else if t.k ≠ 1 then (false, (s.1 + 1, s.2)) else (decide (t.id ∈ s.2), (s.1 + 1, t.id :: s.2))

def mayOwn (B1 Bm : Nat) (_ : Nat × List Int) (_ : Option Obj) (k : Nat) : Prop := k = B1 ∨ k = Bm
structure mayI (w0 : World) (B1 B2 Bm Br : Nat) (c0 : C) (s : Nat × List Int) (W : World) : Prop where
  below : Below w0.heap.size w0 W
  cells : Box1 W B1 (.int .i64 (s.1 : Int)) 3
  met : Box1 W B2 (.map (some Bm)) 114
  map : MetAt W Bm s.2
  row : CAt W Br 0 c0
  len : s.2.length ≤ s.1
  few : s.1 ≤ 20000

theorem mayM (w0 : World) (B1 B2 Bm Br : Nat) (c0 : C) : Mach w0 (mayOwn B1 Bm) (mayI w0 B1 B2 Bm Br c0) := by
  refine ⟨fun s W _ _ h _ hk => ?_, fun s W h => h.below, fun s W W' h hb => ⟨h.below.trans (hb.mono h.below.size), h.cells.up hb, h.met.up hb, h.map.up hb, h.row.up hb, h.len, h.few⟩⟩
  rcases hk with hk | hk
  · have := lt_of_block h.cells; omega
  · have := h.map.lt; omega

theorem heap_set {w : World} {b : Nat} {v : Value} {k : Nat} (h : k ≠ b) : (w.setCell ⟨b, 0, none⟩ v).heap[k]? = w.heap[k]? := Below.heap_setCell w ⟨b, 0, none⟩ v k h

theorem fr_more {σ : Type} {own : σ → Option Obj → Nat → Prop} {s s1 s2 : σ} {W w1 w2 : World} (h : Fr own s W s1 w1) (h2 : Below w1.heap.size w1 w2) (hs : ∀ k, own s2 w2.heap[k]? k → own s W.heap[k]? k ∨ W.heap.size ≤ k) : Fr own s W s2 w2 := by
  have := h.trans (Fr.of (own := own) h2)
  exact ⟨this.os, this.tape, this.output, this.size, this.block, hs⟩

theorem mayI_set {w0 : World} {B1 B2 Bm Br : Nat} {c0 : C} {n : Nat} {ms : List Int} {W : World} (h : mayI w0 B1 B2 Bm Br c0 (n, ms) W) (h12 : B1 ≠ B2) (h1m : B1 ≠ Bm) (h1r : B1 ≠ Br) (hb1 : w0.heap.size ≤ B1) (hn : n + 1 ≤ 20000) :
    mayI w0 B1 B2 Bm Br c0 (n + 1, ms) (W.setCell ⟨B1, 0, none⟩ (.int .i64 ((n : Int) + 1))) := by
  have hr : ∀ o v, W.cell? ⟨Br, o, none⟩ = some v → (W.setCell ⟨B1, 0, none⟩ (.int .i64 ((n : Int) + 1))).cell? ⟨Br, o, none⟩ = some v := fun o v hv => (World.cell?_of_block (a := ⟨Br, o, none⟩) (heap_set (Ne.symm h1r))).trans hv
  obtain ⟨r1, r2, r3, r4, r5, r6, r7⟩ := h.row
  exact ⟨h.below.setCell hb1 _, one_setCell h.cells, (heap_set (Ne.symm h12)).trans h.met, h.map.kept (heap_set (Ne.symm h1m)), ⟨hr _ _ r1, hr _ _ r2, hr _ _ r3, hr _ _ r4, hr _ _ r5, hr _ _ r6, hr _ _ r7⟩, Nat.le_succ_of_le h.len, hn⟩

theorem fr_map {σ : Type} {own : σ → Option Obj → Nat → Prop} {s s1 s2 : σ} {W w1 w2 : World} {b : Nat} (h : Fr own s W s1 w1) (h2 : w1.grownBy w2 (some b)) (hb : ∀ o, own s o b) (hs : ∀ k, own s2 w2.heap[k]? k → own s W.heap[k]? k ∨ W.heap.size ≤ k) : Fr own s W s2 w2 :=
  ⟨h2.os.trans h.os, h2.tape.trans h.tape, h2.output.trans h.output, Nat.le_trans h.size h2.size, fun k hk hn => (h2.block k (Nat.lt_of_lt_of_le hk h.size) (fun e => hn (by cases e; exact hb _))).trans (h.block k hk hn), hs⟩

set_option maxRecDepth 100000 in
theorem may1_says (w0 : World) (B1 B2 Bm Br : Nat) (c0 : C) (h12 : B1 ≠ B2) (h1m : B1 ≠ Bm) (h2m : B2 ≠ Bm) (h1r : B1 ≠ Br) (hmr : Bm ≠ Br) (hb1 : w0.heap.size ≤ B1) (hbm : w0.heap.size ≤ Bm) (M : Nat) (t : T) :
    Judge2 (fun _ => M) w0 (mayOwn B1 Bm) (mayI w0 B1 B2 Bm Br c0) 91 #[.pointer (some ⟨B1, 0, none⟩), .pointer (some ⟨B2, 0, none⟩)] mayStep t := by
  rintro ⟨n, ms⟩ c W _ hi hI
  show Calls Tryz.prog 91 #[cval c, .pointer (some ⟨B1, 0, none⟩), .pointer (some ⟨B2, 0, none⟩)] W _
  have hfine := hi.fine
  have hwell := well_is hi
  have htk := hi.split.1
  have hti := hi.split.2.2.1
  clear hi
  have hfew : n ≤ 20000 := hI.few
  have HLN := Lib.hid hI.len
  have HS : Hid (Fr (mayOwn B1 Bm) (n, ms) W (n, ms) (W.setCell ⟨B1, 0, none⟩ (.int .i64 ((n : Int) + 1)))) := fr_set (Fr.of (Below.refl _ _)) _ _ (fun _ => .inl rfl) (fun k hk => .inl hk)
  have hlt1 : B1 < W.heap.size := lt_of_block hI.cells
  have hne1 : B1 ≠ W.heap.size := by omega
  have q0 := cell_of_one hI.cells
  have q1 := free_of_one hI.cells
  by_cases hn : n = 20000
  · subst hn
    have hst : Hid (mayStep (20000, ms) t = (true, (20001, ms))) := Lib.hid (by simp [mayStep])
    have q0' : W.cell? ⟨B1, 0, none⟩ = some (.int .i64 20000) := q0
    rw [hst.out]
    clear hI hwell htk hti q0 hfine hfew
    go_enter Tryz.func91, Tryz.ntmps91
    go_wp2
    go_ret
    first
    | exact ⟨rfl, (fun h => by cases h), fr_more HS.out ((Below.refl _ _).alloc (Nat.le_refl _) _) (fun k hk => .inl hk)⟩
    | exact ⟨rfl, fr_more HS.out ((Below.refl _ _).alloc (Nat.le_refl _) _) (fun k hk => .inl hk)⟩
  · have HI1 := Lib.hid ((mayM w0 B1 B2 Bm Br c0).up _ _ _ (mayI_set hI h12 h1m h1r hb1 (by omega)) ((Below.refl _ _).alloc (Nat.le_refl _) (cbox c)))
    have hn' : n < 20000 := by omega
    have d20 : decide (20000 < (n : Int) + 1) = false := decide_eq_false (by omega)
    have HW := Lib.hid (well_any c ((W.setCell ⟨B1, 0, none⟩ (.int .i64 ((n : Int) + 1))).alloc (cbox c)) hfine)
    have hsz : (W.setCell ⟨B1, 0, none⟩ (.int .i64 ((n : Int) + 1))).heap.size = W.heap.size := by simp [World.setCell]
    have HSZ := Lib.hid hsz
    clear hsz
    have HF := Lib.hid hfine
    clear hfine hI hn
    cases hw : wellC c with
    | false =>
      have hst : Hid (mayStep (n, ms) t = (true, (n + 1, ms))) := Lib.hid (by rw [mayStep, if_pos (.inr (by rw [← hwell, hw]))])
      rw [hst.out]
      rw [hw] at HW
      clear hwell hw htk hti hst
      go_enter Tryz.func91, Tryz.ntmps91
      go_wp2_with fail
      refine HW.out.mono ?_
      rintro e w2 ⟨rfl, hb⟩
      have HB := Lib.hid hb
      clear hb
      go_wp2
      go_ret
      first
      | exact ⟨rfl, (fun h => by cases h), fr_more HS.out (below_one HB.out) (fun k hk => .inl hk)⟩
      | exact ⟨rfl, fr_more HS.out (below_one HB.out) (fun k hk => .inl hk)⟩
    | true =>
      rw [hw] at HW
      obtain ⟨ck, cr, cid, ca, cn, ccap⟩ := c
      simp only at htk hti
      by_cases hk1 : ck = 1
      · have hst : Hid (mayStep (n, ms) t = (decide (cid ∈ ms), (n + 1, cid :: ms))) := Lib.hid (by
          rw [mayStep, if_neg (by rw [← hwell, hw]; simp; omega), if_neg (by rw [htk, hk1]; simp), hti])
        obtain ⟨again, hag⟩ : ∃ b, decide (cid ∈ ms) = b := ⟨_, rfl⟩
        rw [hst.out, hag]
        have HAG := Lib.hid hag
        clear hwell hw htk hti hst hag
        subst hk1
        have hfit : fits cid := HF.out.2.2.1
        have hwf := wf_fits hfit
        go_enter Tryz.func91, Tryz.ntmps91
        go_wp2_with fail
        refine HW.out.mono ?_
        rintro e w2 ⟨rfl, hb⟩
        have HB := Lib.hid hb
        clear hb
        have HI2 := Lib.hid ((mayM w0 B1 B2 Bm Br c0).up _ _ _ HI1.out HB.out)
        have hbx : CAt w2 W.heap.size 0 ⟨1, cr, cid, ca, cn, ccap⟩ := by rw [← HSZ.out]; exact box_at HB.out
        obtain ⟨p0, p1, p2, p3, p4, p5, p6⟩ := hbx
        have pm := cell_of_one HI2.out.met
        have hlook := HI2.out.map.look hfit
        have hmap := HI2.out.map
        simp only [HAG.out] at hlook
        simp only at hmap
        obtain ⟨D, hown, hism, hat⟩ := hmap
        have HO := Lib.hid hown
        have HIM := Lib.hid hism
        have HAT := Lib.hid hat
        clear hown hism hat
        have hlen : ms.length < maxLen := by have := HI2.out.len; have := HI2.out.few; simp only at *; unfold maxLen; omega
        go_wp2_with (at_mapUpdate; refine wpList_mapUpdate_own _ rfl _ _ _ 114 rfl 3 4 (int_keyed Tryz.underlying3) Tryz.underlying114 _ Bm ms.length D rfl HO.out hlen _ _ (.int .i64 cid) rfl rfl (keyOf_int_mk Tryz.underlying3 hwf) (.lit (.bool true)) [] (plainElem_bool Tryz.underlying4 true) ?_; intro w3 hown3 hgrow3)
        have HO3 := Lib.hid hown3
        have HG3 := Lib.hid hgrow3
        clear hown3 hgrow3
        go_wp2
        go_ret
        refine ⟨by first | rfl | (rw [HAG.out]; rfl), fun _ => ?_, fr_map (fr_more (s1 := (n, ms)) (s2 := (n, ms)) HS.out (below_one HB.out) (fun k hk => .inl hk)) HG3.out (fun _ => .inr rfl) (fun k hk => .inl hk)⟩
        have J := HI2.out
        have hr : ∀ o v, w2.cell? ⟨Br, o, none⟩ = some v → w3.cell? ⟨Br, o, none⟩ = some v := fun o v hv => HG3.out.cell hv (fun e => hmr (by cases e; rfl))
        obtain ⟨r1, r2, r3, r4, r5, r6, r7⟩ := J.row
        refine ⟨J.below.trans ⟨HG3.out.os, HG3.out.tape, HG3.out.output, HG3.out.size, fun k hk => HG3.out.block k (Nat.lt_of_lt_of_le hk J.below.size) (fun e => by cases e; omega)⟩, ?_, ?_, MetAt.put HIM.out HAT.out hfit HO3.out, ⟨hr _ _ r1, hr _ _ r2, hr _ _ r3, hr _ _ r4, hr _ _ r5, hr _ _ r6, hr _ _ r7⟩, ?_, J.few⟩
        · exact (HG3.out.block B1 (lt_of_block J.cells) (fun e => h1m (by cases e; rfl))).trans J.cells
        · exact (HG3.out.block B2 (lt_of_block J.met) (fun e => h2m (by cases e; rfl))).trans J.met
        · have := HLN.out; simp only [List.length_cons] at *; omega
      · have hst : Hid (mayStep (n, ms) t = (false, (n + 1, ms))) := Lib.hid (by
          rw [mayStep, if_neg (by rw [← hwell, hw]; simp; omega), if_pos (by rw [htk]; exact hk1)])
        rw [hst.out]
        clear hwell hw htk hti hst
        have e1 : (ck == 1) = false := by rw [beq_eq_false_iff_ne]; exact hk1
        have e2 : (ck != 1) = true := by simpa using hk1
        go_enter Tryz.func91, Tryz.ntmps91
        go_wp2_with fail
        refine HW.out.mono ?_
        rintro e w2 ⟨rfl, hb⟩
        have HB := Lib.hid hb
        clear hb
        have HI2 := Lib.hid ((mayM w0 B1 B2 Bm Br c0).up _ _ _ HI1.out HB.out)
        have hbx : CAt w2 W.heap.size 0 ⟨ck, cr, cid, ca, cn, ccap⟩ := by rw [← HSZ.out]; exact box_at HB.out
        obtain ⟨p0, p1, p2, p3, p4, p5, p6⟩ := hbx
        go_wp2
        go_ret
        first
        | exact ⟨rfl, fun _ => HI2.out, fr_more HS.out (below_one HB.out) (fun k hk => .inl hk)⟩
        | exact ⟨rfl, HI2.out, fr_more HS.out (below_one HB.out) (fun k hk => .inl hk)⟩
end Go.Proofs.YtakofjbjciljjaaGreat
/- May trees be? -/
namespace Go.Proofs.YtakofjbjciljjaaGreat
open Go.RowKit

def mayT (t : T) : Bool := !(goT mayStep (0, []) t).1
theorem mayT_go (t : T) : (goL mayStep (0, []) [t]).1 = (goT mayStep (0, []) t).1 := by
  rw [goL]
  by_cases h : (goT mayStep (0, []) t).1 = true
  · rw [if_pos h]
  · rw [if_neg h, goL]; simpa using h

theorem enters44 : Enters 91 := enters_of Tryz.func91 (by kernel_rfl) rfl

theorem deep_all {P : T → Prop} (h : ∀ t, P t) : ∀ (N : Nat) (t : T), sz t ≤ N → Deep P t := by
  intro N
  induction N with
  | zero => intro t h; have := sz_pos t; omega
  | succ N ih =>
    intro t hs
    refine .mk t (h t) fun u hu => ih u ?_
    obtain ⟨j, hj, rfl⟩ := List.getElem_of_mem hu
    have := sz_kid (List.getElem?_eq_getElem hj)
    omega

abbrev mayW (w : World) (c : C) : World := ((((w.alloc (cbox c)).alloc (.cells #[.int .i64 0] 3)).alloc (.map #[] 0)).alloc (.cells #[.map (some (w.heap.size + 2))] 114)).alloc (cbox c)

theorem mayI_new (w : World) (c : C) : mayI w (w.heap.size + 1) (w.heap.size + 3) (w.heap.size + 2) (w.heap.size + 4) c (0, []) (mayW w c) := by
  have al : ∀ (x : World) (o : Obj), Below x.heap.size x (x.alloc o) := fun x o => (Below.refl _ _).alloc (Nat.le_refl _) _
  let w1 := w.alloc (cbox c)
  let w2 := w1.alloc (.cells #[.int .i64 0] 3)
  let w3 := w2.alloc (.map #[] 0)
  let w4 := w3.alloc (.cells #[.map (some (w.heap.size + 2))] 114)
  let w5 := w4.alloc (cbox c)
  have s1 : w1.heap.size = w.heap.size + 1 := by simp [w1]
  have s2 : w2.heap.size = w.heap.size + 2 := by simp [w2, w1]
  have s3 : w3.heap.size = w.heap.size + 3 := by simp [w3, w2, w1]
  have s4 : w4.heap.size = w.heap.size + 4 := by simp [w4, w3, w2, w1]
  have b1 : Below w.heap.size w w1 := al w _
  have b2 : Below w1.heap.size w1 w2 := al w1 _
  have b3 : Below w2.heap.size w2 w3 := al w2 _
  have b4 : Below w3.heap.size w3 w4 := al w3 _
  have b5 : Below w4.heap.size w4 w5 := al w4 _
  refine ⟨(((b1.trans (b2.mono (by omega))).trans (b3.mono (by omega))).trans (b4.mono (by omega))).trans (b5.mono (by omega)), ?_, ?_, ?_, ?_, Nat.le_refl _, by simp⟩
  · rw [← s1]; exact (((Box1.new w1 _ _).up b3).up b4).up b5
  · rw [← s3]; exact (Box1.new w3 _ _).up b5
  · rw [← s2]; exact ((MetAt.new w2).up b4).up b5
  · rw [← s4]; exact cbox_new w4 c

set_option maxRecDepth 100000 in
theorem mayOne_any (t : T) (c : C) (w : World) (hi : Is w c t) : Calls Tryz.prog 77 #[cval c] w fun e w' => e = .returned (.bool (mayT t)) ∧ Below w.heap.size w w' := by
  have hM := mayM w (w.heap.size + 1) (w.heap.size + 3) (w.heap.size + 2) (w.heap.size + 4) c
  have hJ : ∀ u, Judge2 (fun _ => szL [t]) w (mayOwn (w.heap.size + 1) (w.heap.size + 2)) (mayI w (w.heap.size + 1) (w.heap.size + 3) (w.heap.size + 2) (w.heap.size + 4) c) 91 #[.pointer (some ⟨w.heap.size + 1, 0, none⟩), .pointer (some ⟨w.heap.size + 3, 0, none⟩)] mayStep u :=
    may1_says w _ _ _ _ c (by omega) (by omega) (by omega) (by omega) (by omega) (by omega) (by omega) _
  have hrow : RowIn w (mayI w (w.heap.size + 1) (w.heap.size + 3) (w.heap.size + 2) (w.heap.size + 4) c) (.slice (some ⟨w.heap.size + 4, 0, none⟩) 1 1) [t] := by
    refine ⟨⟨[c], fun s W h => .inr ⟨_, 0, 1, rfl, fun j x hx => ?_⟩, rfl, fun j x u hx hu => ?_⟩, by simp⟩
    · cases j with
      | zero => simp at hx; subst hx; simpa using h.row
      | succ j => simp at hx
    · cases j with
      | zero => simp at hx hu; subst hx; subst hu; exact hi
      | succ j => simp at hx
  have H := Lib.hid (noneIn_any hM 91 enters44 _ mayStep (fun _ => szL [t]) (fun _ _ => by omega) (szL [t]) [t] (Nat.le_refl _) (fun u _ => deep_all hJ _ u (Nat.le_refl _)) (0, []) (mayW w c) _ (Nat.le_refl _) hrow (mayI_new w c))
  rw [mayT_go] at H
  have hown : Hid (∀ k, k < w.heap.size → ¬ mayOwn (w.heap.size + 1) (w.heap.size + 2) (0, []) (mayW w c).heap[k]? k) := fun k hk ho => by rcases ho with h | h <;> omega
  have H2 : Hid (Calls Tryz.prog 57 #[.slice (some ⟨w.heap.size + 4, 0, none⟩) 1 1, .func (.func 91) #[] #[.pointer (some ⟨w.heap.size + 1, 0, none⟩), .pointer (some ⟨w.heap.size + 3, 0, none⟩)]] (mayW w c) fun e w' => e = .returned (.bool (mayT t)) ∧ Below w.heap.size w w') :=
    H.out.mono fun e w' ⟨h1, _, h3⟩ => ⟨h1, ((mayI_new w c).below.trans (h3.below (mayI_new w c).below.size hown.out))⟩
  clear H hrow hJ hM hi hown
  have hmm := @run_makeMap Tryz.prog
  go_enter Tryz.func77, Tryz.ntmps77
  go_wp2_with fail
  refine H2.out.mono ?_
  rintro e w2 ⟨rfl, hb⟩
  have HB := Lib.hid hb
  clear hb
  go_wp2
  go_ret
  exact ⟨rfl, HB.out⟩

theorem mayOne1_any (t : T) (c : C) (w : World) (hi : Is w c t) : Calls Tryz.prog 76 #[cval c] w fun e w' => e = .returned (.bool (!mayT t)) ∧ Below w.heap.size w w' := by
  have HA : Hid (Below w.heap.size w (w.alloc (cbox c))) := (Below.refl _ _).alloc (Nat.le_refl _) _
  have H := Lib.hid (mayOne_any t c (w.alloc (cbox c)) (hi.up HA.out))
  clear hi
  generalize mayT t = b at H ⊢
  go_enter Tryz.func76, Tryz.ntmps76
  go_wp2_with fail
  refine H.out.mono ?_
  rintro e w2 ⟨rfl, hb⟩
  have HB := Lib.hid hb
  clear hb
  go_wp2
  go_ret
  exact ⟨rfl, below_one HB.out⟩

theorem enters32 : Enters 76 := enters_of Tryz.func76 (by kernel_rfl) rfl

theorem fold_all (p : T → Bool) (l : List T) : (!(foldB (fun (_ : Unit) t => (!p t, ())) l ()).1) = l.all p := by
  induction l with
  | nil => rfl
  | cons t l ih =>
    rw [foldB, List.all_cons]
    cases h : p t
    · simp [h]
    · simp only [Bool.not_true, Bool.false_eq_true, if_false, Bool.true_and]; exact ih

set_option maxRecDepth 100000 in
theorem mayAll_any (v : Value) (l : List T) (w : World) (hr : TRow w v l) (hl : l.length ≤ 1954687338211) :
    Calls Tryz.prog 52 #[v] w fun e w' => e = .returned (.bool (l.all mayT)) ∧ Below w.heap.size w w' := by
  have hM : Mach w (fun (_ : Unit) (_ : Option Obj) (_ : Nat) => False) (fun _ W => Below w.heap.size w W) := ⟨fun _ _ _ _ _ _ h => h.elim, fun _ _ h => h, fun _ _ _ h hb => h.trans (hb.mono h.size)⟩
  have H := Lib.hid (none_any hM 76 enters32 #[] (fun _ t => (!mayT t, ())) l (fun _ => szL l) (fun t _ s c W _ hi hI => (mayOne1_any t c W (hi.up hI)).mono fun e w' ⟨h1, h2⟩ => ⟨h1, fun _ => hI.trans (h2.mono hI.size), Fr.of h2⟩) v (RowIn.of hM hr hl) () w (Below.refl _ _) (fun k s1 t ht _ => szL_mem ht))
  obtain ⟨a, cap, rfl⟩ := hr.shape
  clear hr hM
  rw [fold_all] at H
  generalize l.all mayT = b at H ⊢
  go_enter Tryz.func52, Tryz.ntmps52
  go_wp2_with fail
  refine H.out.mono ?_
  rintro e w2 ⟨rfl, -, hb⟩
  have HB := Lib.hid (hb.below (Nat.le_refl _) (fun _ _ h => h))
  clear hb
  go_wp2
  go_ret
  exact ⟨rfl, HB.out⟩
end Go.Proofs.YtakofjbjciljjaaGreat
