/- Texts of this seat, 3 in one file. -/
import Derived.Test.YtcdiogifgemjbaaGreatG13
import Derived.Test.YtcdiogifgemjbaaGreatG06
import Derived.OneCell
import Derived.Test.YtcdiogifgemjbaaGreatG08
import Derived.Maps.OwnOps
import Derived.Maps.Views
/- May a cell be, whatever the others are? -/
namespace Go.Proofs.YtcdiogifgemjbaaGreat
open Go.RowKit

def wellB (k : Int) (r : R) (id : Int) (n : Nat) : Bool := mayB r && ((decide (k = 1) && (decide (0 ≤ id ∧ id ≤ 2147483647) && decide (n = 0))) || ((decide (k = 2) || decide (k = 3)) && (decide (id = 0) && decide (2 ≤ n))))
def wellC (c : C) : Bool := wellB c.k c.r c.id c.n
def wellT (t : T) : Bool := wellB t.k t.r t.id t.kids.length
theorem well_is {w : World} {c : C} {t : T} (h : Is w c t) : wellC c = wellT t := by
  obtain ⟨h1, h2, h3, -, cs, -, -, h4, -⟩ := h.split
  rw [wellC, wellT, h1, h2, h3, h4]

set_option maxRecDepth 100000 in
theorem well_any (c : C) (w : World) (hf : c.fine) : Calls Tryz.prog 79 #[cval c] w fun e w' => e = .returned (.bool (wellC c)) ∧ Below w.heap.size w w' := by
  obtain ⟨ck, cr, cid, ca, cn, ccap⟩ := c
  have HA : Hid (Below w.heap.size w (w.alloc (cbox ⟨ck, cr, cid, ca, cn, ccap⟩))) := (Below.refl _ _).alloc (Nat.le_refl _) _
  have H := Lib.hid (may_one cr (w.alloc (cbox ⟨ck, cr, cid, ca, cn, ccap⟩)) hf.2.1 (w.heap.size + 1) (by simp))
  have hk := hf.1
  have hn := hf.2.2.2
  simp only at hk hn
  clear hf
  show Calls Tryz.prog 79 _ w fun e w' => e = .returned (.bool (wellB ck cr cid cn)) ∧ Below w.heap.size w w'
  cases hm : mayB cr with
  | false =>
    rw [hm] at H
    have hv := Lib.hid (show wellB ck cr cid cn = false by rw [wellB, hm]; rfl)
    clear hm
    go_enter Tryz.func79, Tryz.ntmps79
    go_wp2_with fail
    refine H.out.mono ?_
    rintro e w2 ⟨rfl, hb⟩
    have HB := Lib.hid hb
    clear hb
    go_wp2
    go_ret
    exact ⟨by rw [hv.out]; rfl, below_one HB.out⟩
  | true =>
    rw [hm] at H
    by_cases k1 : ck = 1
    · subst k1
      by_cases h0 : 0 ≤ cid
      · by_cases h1 : cid ≤ 2147483647
        · by_cases h2 : cn = 0
          · subst h2
            have d0 : decide (0 ≤ cid) = true := decide_eq_true h0
            have d1 : decide (cid ≤ 2147483647) = true := decide_eq_true h1
            have hv := Lib.hid (show wellB 1 cr cid 0 = true by rw [wellB, hm]; simp <;> omega)
            clear hm
            go_enter Tryz.func79, Tryz.ntmps79
            go_wp2_with fail
            refine H.out.mono ?_
            rintro e w2 ⟨rfl, hb⟩
            have HB := Lib.hid hb
            clear hb
            obtain ⟨q0, q1, q2, q3, q4, q5, q6⟩ := box_at HB.out
            go_wp2
            go_ret
            exact ⟨by rw [hv.out]; rfl, below_one HB.out⟩
          · have d2 : ((cn : Int) == 0) = false := by rw [beq_eq_false_iff_ne]; omega
            have d0 : decide (0 ≤ cid) = true := decide_eq_true h0
            have d1 : decide (cid ≤ 2147483647) = true := decide_eq_true h1
            have hv := Lib.hid (show wellB 1 cr cid cn = false by rw [wellB, hm]; simp <;> omega)
            clear hm
            go_enter Tryz.func79, Tryz.ntmps79
            go_wp2_with fail
            refine H.out.mono ?_
            rintro e w2 ⟨rfl, hb⟩
            have HB := Lib.hid hb
            clear hb
            obtain ⟨q0, q1, q2, q3, q4, q5, q6⟩ := box_at HB.out
            go_wp2
            go_ret
            exact ⟨by rw [hv.out]; rfl, below_one HB.out⟩
        · have d1 : decide (cid ≤ 2147483647) = false := decide_eq_false h1
          have d0 : decide (0 ≤ cid) = true := decide_eq_true h0
          have hv := Lib.hid (show wellB 1 cr cid cn = false by rw [wellB, hm]; simp <;> omega)
          clear hm
          go_enter Tryz.func79, Tryz.ntmps79
          go_wp2_with fail
          refine H.out.mono ?_
          rintro e w2 ⟨rfl, hb⟩
          have HB := Lib.hid hb
          clear hb
          obtain ⟨q0, q1, q2, q3, q4, q5, q6⟩ := box_at HB.out
          go_wp2
          go_ret
          exact ⟨by rw [hv.out]; rfl, below_one HB.out⟩
      · have d0 : decide (0 ≤ cid) = false := decide_eq_false h0
        have hv := Lib.hid (show wellB 1 cr cid cn = false by rw [wellB, hm]; simp <;> omega)
        clear hm
        go_enter Tryz.func79, Tryz.ntmps79
        go_wp2_with fail
        refine H.out.mono ?_
        rintro e w2 ⟨rfl, hb⟩
        have HB := Lib.hid hb
        clear hb
        obtain ⟨q0, q1, q2, q3, q4, q5, q6⟩ := box_at HB.out
        go_wp2
        go_ret
        exact ⟨by rw [hv.out]; rfl, below_one HB.out⟩
    by_cases k2 : ck = 2
    · subst k2
      by_cases h0 : cid = 0
      · subst h0
        by_cases h1 : 2 ≤ cn
        · have d1 : decide (2 ≤ (cn : Int)) = true := decide_eq_true (by omega)
          have d2 : decide (2 ≤ cn) = true := decide_eq_true h1
          have hv := Lib.hid (show wellB 2 cr 0 cn = true by rw [wellB, hm]; simp <;> omega)
          clear hm
          go_enter Tryz.func79, Tryz.ntmps79
          go_wp2_with fail
          refine H.out.mono ?_
          rintro e w2 ⟨rfl, hb⟩
          have HB := Lib.hid hb
          clear hb
          obtain ⟨q0, q1, q2, q3, q4, q5, q6⟩ := box_at HB.out
          go_wp2
          go_ret
          exact ⟨by rw [hv.out]; rfl, below_one HB.out⟩
        · have d1 : decide (2 ≤ (cn : Int)) = false := decide_eq_false (by omega)
          have d2 : decide (2 ≤ cn) = false := decide_eq_false h1
          have hv := Lib.hid (show wellB 2 cr 0 cn = false by rw [wellB, hm]; simp <;> omega)
          clear hm
          go_enter Tryz.func79, Tryz.ntmps79
          go_wp2_with fail
          refine H.out.mono ?_
          rintro e w2 ⟨rfl, hb⟩
          have HB := Lib.hid hb
          clear hb
          obtain ⟨q0, q1, q2, q3, q4, q5, q6⟩ := box_at HB.out
          go_wp2
          go_ret
          exact ⟨by rw [hv.out]; rfl, below_one HB.out⟩
      · have d0 : (cid == 0) = false := by rw [beq_eq_false_iff_ne]; omega
        have hv := Lib.hid (show wellB 2 cr cid cn = false by rw [wellB, hm]; simp <;> omega)
        clear hm
        go_enter Tryz.func79, Tryz.ntmps79
        go_wp2_with fail
        refine H.out.mono ?_
        rintro e w2 ⟨rfl, hb⟩
        have HB := Lib.hid hb
        clear hb
        obtain ⟨q0, q1, q2, q3, q4, q5, q6⟩ := box_at HB.out
        go_wp2
        go_ret
        exact ⟨by rw [hv.out]; rfl, below_one HB.out⟩
    by_cases k3 : ck = 3
    · subst k3
      by_cases h0 : cid = 0
      · subst h0
        by_cases h1 : 2 ≤ cn
        · have d1 : decide (2 ≤ (cn : Int)) = true := decide_eq_true (by omega)
          have d2 : decide (2 ≤ cn) = true := decide_eq_true h1
          have hv := Lib.hid (show wellB 3 cr 0 cn = true by rw [wellB, hm]; simp <;> omega)
          clear hm
          go_enter Tryz.func79, Tryz.ntmps79
          go_wp2_with fail
          refine H.out.mono ?_
          rintro e w2 ⟨rfl, hb⟩
          have HB := Lib.hid hb
          clear hb
          obtain ⟨q0, q1, q2, q3, q4, q5, q6⟩ := box_at HB.out
          go_wp2
          go_ret
          exact ⟨by rw [hv.out]; rfl, below_one HB.out⟩
        · have d1 : decide (2 ≤ (cn : Int)) = false := decide_eq_false (by omega)
          have d2 : decide (2 ≤ cn) = false := decide_eq_false h1
          have hv := Lib.hid (show wellB 3 cr 0 cn = false by rw [wellB, hm]; simp <;> omega)
          clear hm
          go_enter Tryz.func79, Tryz.ntmps79
          go_wp2_with fail
          refine H.out.mono ?_
          rintro e w2 ⟨rfl, hb⟩
          have HB := Lib.hid hb
          clear hb
          obtain ⟨q0, q1, q2, q3, q4, q5, q6⟩ := box_at HB.out
          go_wp2
          go_ret
          exact ⟨by rw [hv.out]; rfl, below_one HB.out⟩
      · have d0 : (cid == 0) = false := by rw [beq_eq_false_iff_ne]; omega
        have hv := Lib.hid (show wellB 3 cr cid cn = false by rw [wellB, hm]; simp <;> omega)
        clear hm
        go_enter Tryz.func79, Tryz.ntmps79
        go_wp2_with fail
        refine H.out.mono ?_
        rintro e w2 ⟨rfl, hb⟩
        have HB := Lib.hid hb
        clear hb
        obtain ⟨q0, q1, q2, q3, q4, q5, q6⟩ := box_at HB.out
        go_wp2
        go_ret
        exact ⟨by rw [hv.out]; rfl, below_one HB.out⟩
    have e1 : (ck == 1) = false := by rw [beq_eq_false_iff_ne]; omega
    have e2 : (ck == 2) = false := by rw [beq_eq_false_iff_ne]; omega
    have e3 : (ck == 3) = false := by rw [beq_eq_false_iff_ne]; omega
    have hv := Lib.hid (show wellB ck cr cid cn = false by rw [wellB, hm]; simp <;> omega)
    clear hm
    go_enter Tryz.func79, Tryz.ntmps79
    go_wp2_with fail
    refine H.out.mono ?_
    rintro e w2 ⟨rfl, hb⟩
    have HB := Lib.hid hb
    clear hb
    obtain ⟨q0, q1, q2, q3, q4, q5, q6⟩ := box_at HB.out
    go_wp2
    go_ret
    exact ⟨by rw [hv.out]; rfl, below_one HB.out⟩
end Go.Proofs.YtcdiogifgemjbaaGreat
/- Numbers that were met, in a map; what may$1 says of a cell. -/
namespace Go.Proofs.YtcdiogifgemjbaaGreat
open Go.RowKit
open Go.Maps

theorem wf_fits {n : Int} (h : fits n) : (Lit.int .i64 n).wf = true := by
  unfold fits at h
  simp [Lit.wf, IntKind.min, IntKind.max, IntKind.signed, IntKind.bits]; omega

/-- The numbers that were met. -/
def MetAt (w : World) (b : Nat) (ms : List Int) : Prop :=
  ∃ D : DataW Unit, w.ownsMap Tryz.prog 3 (plainElem Tryz.prog 4) b ms.length D ∧ IsMap D ∧ ∀ n, fits n → D.atKey (.int .i64 n) (.lit (.bool false)) = .lit (.bool (decide (n ∈ ms)))

theorem MetAt.lt {w : World} {b : Nat} {ms : List Int} (h : MetAt w b ms) : b < w.heap.size := by
  obtain ⟨D, h1, -⟩ := h; exact h1.lt
theorem MetAt.kept {w w' : World} {b : Nat} {ms : List Int} (h : MetAt w b ms) (hh : w'.heap[b]? = w.heap[b]?) : MetAt w' b ms := by
  obtain ⟨D, ⟨es, clock, hb, r⟩, h2, h3⟩ := h
  exact ⟨D, ⟨es, clock, hh.trans hb, r⟩, h2, h3⟩
theorem MetAt.up {w w' : World} {b : Nat} {ms : List Int} (h : MetAt w b ms) (hb : Below w.heap.size w w') : MetAt w' b ms := h.kept (hb.block b h.lt)

theorem plainElem_bool_inv {H : Type} {e : TypeId} (he : Tryz.prog.underlying e = some .bool) {v : Value} {z : DataW H × List MemPlace} (h : plainElem Tryz.prog e v = some z) : ∃ a, v = .bool a ∧ z = (.lit (.bool a), []) := by
  unfold plainElem at h
  rw [he] at h
  cases v <;> simp at h
  exact ⟨_, rfl, h.symm⟩

set_option maxRecDepth 100000 in
theorem MetAt.look {w : World} {b : Nat} {ms : List Int} (h : MetAt w b ms) {n : Int} (hn : fits n) : (Instr.lookup 101 (.map (some b)) (.int .i64 n) false).run Tryz.prog w = .ok (.bool (decide (n ∈ ms))) w := by
  obtain ⟨D, h1, -, h3⟩ := h
  obtain ⟨v, ps, hrun, hv⟩ := h1.lookup (t := 101) (e := 4) (int_keyed Tryz.underlying3) Tryz.underlying101 (z := .bool false) (by kernel_rfl) (plainElem_bool Tryz.underlying4 false) (keyOf_int_mk Tryz.underlying3 (wf_fits hn))
  obtain ⟨a, rfl, ha⟩ := plainElem_bool_inv Tryz.underlying4 hv
  simp only [Prod.mk.injEq] at ha
  rw [h3 n hn] at ha
  have : decide (n ∈ ms) = a := by have := ha.1; injection this with this; injection this
  rw [this]; exact hrun

theorem MetAt.put {w' : World} {b : Nat} {ms : List Int} {D : DataW Unit} (h2 : IsMap D) (h3 : ∀ n, fits n → D.atKey (.int .i64 n) (.lit (.bool false)) = .lit (.bool (decide (n ∈ ms)))) {n : Int} (hn : fits n)
    (h : w'.ownsMap Tryz.prog 3 (plainElem Tryz.prog 4) b (ms.length + 1) (D.put (.int .i64 n) (.lit (.bool true)))) : MetAt w' b (n :: ms) := by
  refine ⟨_, h, ?_, fun m hm => ?_⟩
  · obtain ⟨es, rfl⟩ := h2; exact ⟨_, rfl⟩
  · by_cases e : m = n
    · subst e
      rw [atKey_put_same h2 (by trivial)]
      simp
    · rw [atKey_put_other (by intro h; injection h with _ h; exact e h), h3 m hm]
      simp [e]

theorem MetAt.new (w : World) : MetAt (w.alloc (.map #[] 0)) w.heap.size [] :=
  ⟨.map [], World.ownsMap_made w _ _ _, ⟨_, rfl⟩, fun n _ => by simp [DataW.atKey]⟩

/-- How many cells were met, and which numbers. -/
def mayStep (s : Nat × List Int) (t : T) : Bool × (Nat × List Int) :=
  if 20000 < s.1 + 1 ∨ wellT t = false then (true, (s.1 + 1, s.2)) else if t.k ≠ 1 then (false, (s.1 + 1, s.2)) else (decide (t.id ∈ s.2), (s.1 + 1, t.id :: s.2))

def mayOwn (B1 Bm : Nat) (_ : Nat × List Int) (_ : Option Obj) (k : Nat) : Prop := k = B1 ∨ k = Bm
structure mayI (w0 : World) (B1 B2 Bm Br : Nat) (c0 : C) (s : Nat × List Int) (W : World) : Prop where
  below : Below w0.heap.size w0 W
  cells : Box1 W B1 (.int .i64 (s.1 : Int)) 3
  met : Box1 W B2 (.map (some Bm)) 101
  map : MetAt W Bm s.2
  row : CAt W Br 0 c0
  len : s.2.length ≤ s.1
  few : s.1 ≤ 20000

theorem mayM (w0 : World) (B1 B2 Bm Br : Nat) (c0 : C) : Mach w0 (mayOwn B1 Bm) (mayI w0 B1 B2 Bm Br c0) := by
  refine ⟨fun s W _ _ h _ hk => ?_, fun s W h => h.below, fun s W W' h hb => ⟨h.below.trans (hb.mono h.below.size), h.cells.up hb, h.met.up hb, h.map.up hb, h.row.up hb, h.len, h.few⟩⟩
  rcases hk with hk | hk
  · have := lt_of_block h.cells; omega
  · have := h.map.lt; omega

theorem heap_set {w : World} {b : Nat} {v : Value} {k : Nat} (h : k ≠ b) : (w.setCell ⟨b, 0, none⟩ v).heap[k]? = w.heap[k]? := Below.heap_setCell w ⟨b, 0, none⟩ v k h

theorem fr_more {σ : Type} {own : σ → Option Obj → Nat → Prop} {s s1 s2 : σ} {W w1 w2 : World} (h : Fr own s W s1 w1) (h2 : Below w1.heap.size w1 w2) (hs : ∀ k, own s2 w2.heap[k]? k → own s W.heap[k]? k ∨ W.heap.size ≤ k) : Fr own s W s2 w2 := by
  have := h.trans (Fr.of (own := own) h2)
  exact ⟨this.os, this.tape, this.output, this.size, this.block, hs⟩

theorem mayI_set {w0 : World} {B1 B2 Bm Br : Nat} {c0 : C} {n : Nat} {ms : List Int} {W : World} (h : mayI w0 B1 B2 Bm Br c0 (n, ms) W) (h12 : B1 ≠ B2) (h1m : B1 ≠ Bm) (h1r : B1 ≠ Br) (hb1 : w0.heap.size ≤ B1) (hn : n + 1 ≤ 20000) :
    mayI w0 B1 B2 Bm Br c0 (n + 1, ms) (W.setCell ⟨B1, 0, none⟩ (.int .i64 ((n : Int) + 1))) := by
  have hr : ∀ o v, W.cell? ⟨Br, o, none⟩ = some v → (W.setCell ⟨B1, 0, none⟩ (.int .i64 ((n : Int) + 1))).cell? ⟨Br, o, none⟩ = some v := fun o v hv => (World.cell?_of_block (a := ⟨Br, o, none⟩) (heap_set (Ne.symm h1r))).trans hv
  obtain ⟨r1, r2, r3, r4, r5, r6, r7⟩ := h.row
  exact ⟨h.below.setCell hb1 _, one_setCell h.cells, (heap_set (Ne.symm h12)).trans h.met, h.map.kept (heap_set (Ne.symm h1m)), ⟨hr _ _ r1, hr _ _ r2, hr _ _ r3, hr _ _ r4, hr _ _ r5, hr _ _ r6, hr _ _ r7⟩, Nat.le_succ_of_le h.len, hn⟩

theorem fr_map {σ : Type} {own : σ → Option Obj → Nat → Prop} {s s1 s2 : σ} {W w1 w2 : World} {b : Nat} (h : Fr own s W s1 w1) (h2 : w1.grownBy w2 (some b)) (hb : ∀ o, own s o b) (hs : ∀ k, own s2 w2.heap[k]? k → own s W.heap[k]? k ∨ W.heap.size ≤ k) : Fr own s W s2 w2 :=
  ⟨h2.os.trans h.os, h2.tape.trans h.tape, h2.output.trans h.output, Nat.le_trans h.size h2.size, fun k hk hn => (h2.block k (Nat.lt_of_lt_of_le hk h.size) (fun e => hn (by cases e; exact hb _))).trans (h.block k hk hn), hs⟩

set_option maxRecDepth 100000 in
theorem may1_says (w0 : World) (B1 B2 Bm Br : Nat) (c0 : C) (h12 : B1 ≠ B2) (h1m : B1 ≠ Bm) (h2m : B2 ≠ Bm) (h1r : B1 ≠ Br) (hmr : Bm ≠ Br) (hb1 : w0.heap.size ≤ B1) (hbm : w0.heap.size ≤ Bm) (M : Nat) (t : T) :
    Judge2 (fun _ => M) w0 (mayOwn B1 Bm) (mayI w0 B1 B2 Bm Br c0) 78 #[.pointer (some ⟨B1, 0, none⟩), .pointer (some ⟨B2, 0, none⟩)] mayStep t := by
  rintro ⟨n, ms⟩ c W _ hi hI
  show Calls Tryz.prog 78 #[cval c, .pointer (some ⟨B1, 0, none⟩), .pointer (some ⟨B2, 0, none⟩)] W _
  have hfine := hi.fine
  have hwell := well_is hi
  have htk := hi.split.1
  have hti := hi.split.2.2.1
  clear hi
  have hfew : n ≤ 20000 := hI.few
  have HLN := Lib.hid hI.len
  have HS : Hid (Fr (mayOwn B1 Bm) (n, ms) W (n, ms) (W.setCell ⟨B1, 0, none⟩ (.int .i64 ((n : Int) + 1)))) := fr_set (Fr.of (Below.refl _ _)) _ _ (fun _ => .inl rfl) (fun k hk => .inl hk)
  have hlt1 : B1 < W.heap.size := lt_of_block hI.cells
  have hne1 : B1 ≠ W.heap.size := by omega
  have q0 := cell_of_one hI.cells
  have q1 := free_of_one hI.cells
  by_cases hn : n = 20000
  · subst hn
    have hst : Hid (mayStep (20000, ms) t = (true, (20001, ms))) := Lib.hid (by simp [mayStep])
    have q0' : W.cell? ⟨B1, 0, none⟩ = some (.int .i64 20000) := q0
    rw [hst.out]
    clear hI hwell htk hti q0 hfine hfew
    go_enter Tryz.func78, Tryz.ntmps78
    go_wp2
    go_ret
    first
    | exact ⟨rfl, (fun h => by cases h), fr_more HS.out ((Below.refl _ _).alloc (Nat.le_refl _) _) (fun k hk => .inl hk)⟩
    | exact ⟨rfl, fr_more HS.out ((Below.refl _ _).alloc (Nat.le_refl _) _) (fun k hk => .inl hk)⟩
  · have HI1 := Lib.hid ((mayM w0 B1 B2 Bm Br c0).up _ _ _ (mayI_set hI h12 h1m h1r hb1 (by omega)) ((Below.refl _ _).alloc (Nat.le_refl _) (cbox c)))
    have hn' : n < 20000 := by omega
    have d20 : decide (20000 < (n : Int) + 1) = false := decide_eq_false (by omega)
    have HW := Lib.hid (well_any c ((W.setCell ⟨B1, 0, none⟩ (.int .i64 ((n : Int) + 1))).alloc (cbox c)) hfine)
    have hsz : (W.setCell ⟨B1, 0, none⟩ (.int .i64 ((n : Int) + 1))).heap.size = W.heap.size := by simp [World.setCell]
    have HSZ := Lib.hid hsz
    clear hsz
    have HF := Lib.hid hfine
    clear hfine hI hn
    cases hw : wellC c with
    | false =>
      have hst : Hid (mayStep (n, ms) t = (true, (n + 1, ms))) := Lib.hid (by rw [mayStep, if_pos (.inr (by rw [← hwell, hw]))])
      rw [hst.out]
      rw [hw] at HW
      clear hwell hw htk hti hst
      go_enter Tryz.func78, Tryz.ntmps78
      go_wp2_with fail
      refine HW.out.mono ?_
      rintro e w2 ⟨rfl, hb⟩
      have HB := Lib.hid hb
      clear hb
      go_wp2
      go_ret
      first
      | exact ⟨rfl, (fun h => by cases h), fr_more HS.out (below_one HB.out) (fun k hk => .inl hk)⟩
      | exact ⟨rfl, fr_more HS.out (below_one HB.out) (fun k hk => .inl hk)⟩
    | true =>
      rw [hw] at HW
      obtain ⟨ck, cr, cid, ca, cn, ccap⟩ := c
      simp only at htk hti
      by_cases hk1 : ck = 1
      · have hst : Hid (mayStep (n, ms) t = (decide (cid ∈ ms), (n + 1, cid :: ms))) := Lib.hid (by
          rw [mayStep, if_neg (by rw [← hwell, hw]; simp; omega), if_neg (by rw [htk, hk1]; simp), hti])
        obtain ⟨again, hag⟩ : ∃ b, decide (cid ∈ ms) = b := ⟨_, rfl⟩
        rw [hst.out, hag]
        have HAG := Lib.hid hag
        clear hwell hw htk hti hst hag
        subst hk1
        have hfit : fits cid := HF.out.2.2.1
        have hwf := wf_fits hfit
        go_enter Tryz.func78, Tryz.ntmps78
        go_wp2_with fail
        refine HW.out.mono ?_
        rintro e w2 ⟨rfl, hb⟩
        have HB := Lib.hid hb
        clear hb
        have HI2 := Lib.hid ((mayM w0 B1 B2 Bm Br c0).up _ _ _ HI1.out HB.out)
        have hbx : CAt w2 W.heap.size 0 ⟨1, cr, cid, ca, cn, ccap⟩ := by rw [← HSZ.out]; exact box_at HB.out
        obtain ⟨p0, p1, p2, p3, p4, p5, p6⟩ := hbx
        have pm := cell_of_one HI2.out.met
        have hlook := HI2.out.map.look hfit
        have hmap := HI2.out.map
        simp only [HAG.out] at hlook
        simp only at hmap
        obtain ⟨D, hown, hism, hat⟩ := hmap
        have HO := Lib.hid hown
        have HIM := Lib.hid hism
        have HAT := Lib.hid hat
        clear hown hism hat
        have hlen : ms.length < maxLen := by have := HI2.out.len; have := HI2.out.few; simp only at *; unfold maxLen; omega
        go_wp2_with (at_mapUpdate; refine wpList_mapUpdate_own _ rfl _ _ _ 101 rfl 3 4 (int_keyed Tryz.underlying3) Tryz.underlying101 _ Bm ms.length D rfl HO.out hlen _ _ (.int .i64 cid) rfl rfl (keyOf_int_mk Tryz.underlying3 hwf) (.lit (.bool true)) [] (plainElem_bool Tryz.underlying4 true) ?_; intro w3 hown3 hgrow3)
        have HO3 := Lib.hid hown3
        have HG3 := Lib.hid hgrow3
        clear hown3 hgrow3
        go_wp2
        go_ret
        refine ⟨by first | rfl | (rw [HAG.out]; rfl), fun _ => ?_, fr_map (fr_more (s1 := (n, ms)) (s2 := (n, ms)) HS.out (below_one HB.out) (fun k hk => .inl hk)) HG3.out (fun _ => .inr rfl) (fun k hk => .inl hk)⟩
        have J := HI2.out
        have hr : ∀ o v, w2.cell? ⟨Br, o, none⟩ = some v → w3.cell? ⟨Br, o, none⟩ = some v := fun o v hv => HG3.out.cell hv (fun e => hmr (by cases e; rfl))
        obtain ⟨r1, r2, r3, r4, r5, r6, r7⟩ := J.row
        refine ⟨J.below.trans ⟨HG3.out.os, HG3.out.tape, HG3.out.output, HG3.out.size, fun k hk => HG3.out.block k (Nat.lt_of_lt_of_le hk J.below.size) (fun e => by cases e; omega)⟩, ?_, ?_, MetAt.put HIM.out HAT.out hfit HO3.out, ⟨hr _ _ r1, hr _ _ r2, hr _ _ r3, hr _ _ r4, hr _ _ r5, hr _ _ r6, hr _ _ r7⟩, ?_, J.few⟩
        · exact (HG3.out.block B1 (lt_of_block J.cells) (fun e => h1m (by cases e; rfl))).trans J.cells
        · exact (HG3.out.block B2 (lt_of_block J.met) (fun e => h2m (by cases e; rfl))).trans J.met
        · have := HLN.out; simp only [List.length_cons] at *; omega
      · have hst : Hid (mayStep (n, ms) t = (false, (n + 1, ms))) := Lib.hid (by
          rw [mayStep, if_neg (by rw [← hwell, hw]; simp; omega), if_pos (by rw [htk]; exact hk1)])
        rw [hst.out]
        clear hwell hw htk hti hst
        have e1 : (ck == 1) = false := by rw [beq_eq_false_iff_ne]; exact hk1
        have e2 : (ck != 1) = true := by simpa using hk1
        go_enter Tryz.func78, Tryz.ntmps78
        go_wp2_with fail
        refine HW.out.mono ?_
        rintro e w2 ⟨rfl, hb⟩
        have HB := Lib.hid hb
        clear hb
        have HI2 := Lib.hid ((mayM w0 B1 B2 Bm Br c0).up _ _ _ HI1.out HB.out)
        have hbx : CAt w2 W.heap.size 0 ⟨ck, cr, cid, ca, cn, ccap⟩ := by rw [← HSZ.out]; exact box_at HB.out
        obtain ⟨p0, p1, p2, p3, p4, p5, p6⟩ := hbx
        go_wp2
        go_ret
        first
        | exact ⟨rfl, fun _ => HI2.out, fr_more HS.out (below_one HB.out) (fun k hk => .inl hk)⟩
        | exact ⟨rfl, HI2.out, fr_more HS.out (below_one HB.out) (fun k hk => .inl hk)⟩
end Go.Proofs.YtcdiogifgemjbaaGreat
/- May trees be? -/
namespace Go.Proofs.YtcdiogifgemjbaaGreat
open Go.RowKit

def mayT (t : T) : Bool := !(goT mayStep (0, []) t).1
theorem mayT_go (t : T) : (goL mayStep (0, []) [t]).1 = (goT mayStep (0, []) t).1 := by
  rw [goL]
  by_cases h : (goT mayStep (0, []) t).1 = true
  · rw [if_pos h]
  · rw [if_neg h, goL]; simpa using h

theorem enters44 : Enters 78 := enters_of Tryz.func78 (by kernel_rfl) rfl

theorem deep_all {P : T → Prop} (h : ∀ t, P t) : ∀ (N : Nat) (t : T), sz t ≤ N → Deep P t := by
  intro N
  induction N with
  | zero => intro t h; have := sz_pos t; omega
  | succ N ih =>
    intro t hs
    refine .mk t (h t) fun u hu => ih u ?_
    obtain ⟨j, hj, rfl⟩ := List.getElem_of_mem hu
    have := sz_kid (List.getElem?_eq_getElem hj)
    omega

abbrev mayW (w : World) (c : C) : World := ((((w.alloc (cbox c)).alloc (.cells #[.int .i64 0] 3)).alloc (.map #[] 0)).alloc (.cells #[.map (some (w.heap.size + 2))] 101)).alloc (cbox c)

theorem mayI_new (w : World) (c : C) : mayI w (w.heap.size + 1) (w.heap.size + 3) (w.heap.size + 2) (w.heap.size + 4) c (0, []) (mayW w c) := by
  have al : ∀ (x : World) (o : Obj), Below x.heap.size x (x.alloc o) := fun x o => (Below.refl _ _).alloc (Nat.le_refl _) _
  let w1 := w.alloc (cbox c)
  let w2 := w1.alloc (.cells #[.int .i64 0] 3)
  let w3 := w2.alloc (.map #[] 0)
  let w4 := w3.alloc (.cells #[.map (some (w.heap.size + 2))] 101)
  let w5 := w4.alloc (cbox c)
  have s1 : w1.heap.size = w.heap.size + 1 := by simp [w1]
  have s2 : w2.heap.size = w.heap.size + 2 := by simp [w2, w1]
  have s3 : w3.heap.size = w.heap.size + 3 := by simp [w3, w2, w1]
  have s4 : w4.heap.size = w.heap.size + 4 := by simp [w4, w3, w2, w1]
  have b1 : Below w.heap.size w w1 := al w _
  have b2 : Below w1.heap.size w1 w2 := al w1 _
  have b3 : Below w2.heap.size w2 w3 := al w2 _
  have b4 : Below w3.heap.size w3 w4 := al w3 _
  have b5 : Below w4.heap.size w4 w5 := al w4 _
  refine ⟨(((b1.trans (b2.mono (by omega))).trans (b3.mono (by omega))).trans (b4.mono (by omega))).trans (b5.mono (by omega)), ?_, ?_, ?_, ?_, Nat.le_refl _, by simp⟩
  · rw [← s1]; exact (((Box1.new w1 _ _).up b3).up b4).up b5
  · rw [← s3]; exact (Box1.new w3 _ _).up b5
  · rw [← s2]; exact ((MetAt.new w2).up b4).up b5
  · rw [← s4]; exact cbox_new w4 c

set_option maxRecDepth 100000 in
theorem mayOne_any (t : T) (c : C) (w : World) (hi : Is w c t) : Calls Tryz.prog 62 #[cval c] w fun e w' => e = .returned (.bool (mayT t)) ∧ Below w.heap.size w w' := by
  have hM := mayM w (w.heap.size + 1) (w.heap.size + 3) (w.heap.size + 2) (w.heap.size + 4) c
  have hJ : ∀ u, Judge2 (fun _ => szL [t]) w (mayOwn (w.heap.size + 1) (w.heap.size + 2)) (mayI w (w.heap.size + 1) (w.heap.size + 3) (w.heap.size + 2) (w.heap.size + 4) c) 78 #[.pointer (some ⟨w.heap.size + 1, 0, none⟩), .pointer (some ⟨w.heap.size + 3, 0, none⟩)] mayStep u :=
    may1_says w _ _ _ _ c (by omega) (by omega) (by omega) (by omega) (by omega) (by omega) (by omega) _
  have hrow : RowIn w (mayI w (w.heap.size + 1) (w.heap.size + 3) (w.heap.size + 2) (w.heap.size + 4) c) (.slice (some ⟨w.heap.size + 4, 0, none⟩) 1 1) [t] := by
    refine ⟨⟨[c], fun s W h => .inr ⟨_, 0, 1, rfl, fun j x hx => ?_⟩, rfl, fun j x u hx hu => ?_⟩, by simp⟩
    · cases j with
      | zero => simp at hx; subst hx; simpa using h.row
      | succ j => simp at hx
    · cases j with
      | zero => simp at hx hu; subst hx; subst hu; exact hi
      | succ j => simp at hx
  have H := Lib.hid (noneIn_any hM 78 enters44 _ mayStep (fun _ => szL [t]) (fun _ _ => by omega) (szL [t]) [t] (Nat.le_refl _) (fun u _ => deep_all hJ _ u (Nat.le_refl _)) (0, []) (mayW w c) _ (Nat.le_refl _) hrow (mayI_new w c))
  rw [mayT_go] at H
  have hown : Hid (∀ k, k < w.heap.size → ¬ mayOwn (w.heap.size + 1) (w.heap.size + 2) (0, []) (mayW w c).heap[k]? k) := fun k hk ho => by rcases ho with h | h <;> omega
  have H2 : Hid (Calls Tryz.prog 77 #[.slice (some ⟨w.heap.size + 4, 0, none⟩) 1 1, .func (.func 78) #[] #[.pointer (some ⟨w.heap.size + 1, 0, none⟩), .pointer (some ⟨w.heap.size + 3, 0, none⟩)]] (mayW w c) fun e w' => e = .returned (.bool (mayT t)) ∧ Below w.heap.size w w') :=
    H.out.mono fun e w' ⟨h1, _, h3⟩ => ⟨h1, ((mayI_new w c).below.trans (h3.below (mayI_new w c).below.size hown.out))⟩
  clear H hrow hJ hM hi hown
  have hmm := @run_makeMap Tryz.prog
  go_enter Tryz.func62, Tryz.ntmps62
  go_wp2_with fail
  refine H2.out.mono ?_
  rintro e w2 ⟨rfl, hb⟩
  have HB := Lib.hid hb
  clear hb
  go_wp2
  go_ret
  exact ⟨rfl, HB.out⟩

theorem mayOne1_any (t : T) (c : C) (w : World) (hi : Is w c t) : Calls Tryz.prog 61 #[cval c] w fun e w' => e = .returned (.bool (!mayT t)) ∧ Below w.heap.size w w' := by
  have HA : Hid (Below w.heap.size w (w.alloc (cbox c))) := (Below.refl _ _).alloc (Nat.le_refl _) _
  have H := Lib.hid (mayOne_any t c (w.alloc (cbox c)) (hi.up HA.out))
  clear hi
  generalize mayT t = b at H ⊢
  go_enter Tryz.func61, Tryz.ntmps61
  go_wp2_with fail
  refine H.out.mono ?_
  rintro e w2 ⟨rfl, hb⟩
  have HB := Lib.hid hb
  clear hb
  go_wp2
  go_ret
  exact ⟨rfl, below_one HB.out⟩

theorem enters32 : Enters 61 := enters_of Tryz.func61 (by kernel_rfl) rfl

theorem fold_all (p : T → Bool) (l : List T) : (!(foldB (fun (_ : Unit) t => (!p t, ())) l ()).1) = l.all p := by
  induction l with
  | nil => rfl
  | cons t l ih =>
    rw [foldB, List.all_cons]
    cases h : p t
    · simp [h]
    · simp only [Bool.not_true, Bool.false_eq_true, if_false, Bool.true_and]; exact ih

set_option maxRecDepth 100000 in
theorem mayAll_any (v : Value) (l : List T) (w : World) (hr : TRow w v l) (hl : l.length ≤ 1954687338211) :
    Calls Tryz.prog 43 #[v] w fun e w' => e = .returned (.bool (l.all mayT)) ∧ Below w.heap.size w w' := by
  have hM : Mach w (fun (_ : Unit) (_ : Option Obj) (_ : Nat) => False) (fun _ W => Below w.heap.size w W) := ⟨fun _ _ _ _ _ _ h => h.elim, fun _ _ h => h, fun _ _ _ h hb => h.trans (hb.mono h.size)⟩
  have H := Lib.hid (none_any hM 61 enters32 #[] (fun _ t => (!mayT t, ())) l (fun _ => szL l) (fun t _ s c W _ hi hI => (mayOne1_any t c W (hi.up hI)).mono fun e w' ⟨h1, h2⟩ => ⟨h1, fun _ => hI.trans (h2.mono hI.size), Fr.of h2⟩) v (RowIn.of hM hr hl) () w (Below.refl _ _) (fun k s1 t ht _ => szL_mem ht))
  obtain ⟨a, cap, rfl⟩ := hr.shape
  clear hr hM
  rw [fold_all] at H
  generalize l.all mayT = b at H ⊢
  go_enter Tryz.func43, Tryz.ntmps43
  go_wp2_with fail
  refine H.out.mono ?_
  rintro e w2 ⟨rfl, -, hb⟩
  have HB := Lib.hid (hb.below (Nat.le_refl _) (fun _ _ h => h))
  clear hb
  go_wp2
  go_ret
  exact ⟨rfl, HB.out⟩
end Go.Proofs.YtcdiogifgemjbaaGreat
