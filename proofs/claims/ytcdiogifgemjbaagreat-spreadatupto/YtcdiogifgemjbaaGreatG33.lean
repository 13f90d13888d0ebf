/- Texts of this seat, 3 in one file. -/
import Derived.Test.YtcdiogifgemjbaaGreatG31
import Derived.Test.YtcdiogifgemjbaaGreatG32
import Derived.Test.YtcdiogifgemjbaaGreatG18
import Derived.Test.YtcdiogifgemjbaaGreatG05
/- The cell at a path is spread: the document's walk. -/
namespace Go.Proofs.YtcdiogifgemjbaaGreat
open Go.RowKit

/-- What is answered: by its number, and the tree. -/
def AtSays (n : Int) (u : T) (w : World) (e : Ending) (w' : World) : Prop :=
  ∃ d, e = .returned (.tuple #[cval d, .int .i64 n]) ∧ Stands (fun _ => True) w' w.heap.size w'.heap.size d (if n = 0 then u else zT) ∧ Below w.heap.size w w'
theorem at_err {n : Int} {u : T} {w w' : World} (h : n ≠ 0) (hb : Below w.heap.size w w') : AtSays n u w (.returned (.tuple #[cval zC, .int .i64 n])) w' :=
  ⟨zC, rfl, fun W' _ _ => by rw [if_neg h]; exact zero_is W', hb⟩
theorem at_ok {n : Int} {u : T} {w w' : World} {d : C} (h : n = 0) (hi : Stands (fun _ => True) w' w.heap.size w'.heap.size d u) (hb : Below w.heap.size w w') : AtSays n u w (.returned (.tuple #[cval d, .int .i64 0])) w' :=
  ⟨d, by rw [h], by rw [if_pos h]; exact hi, hb⟩
theorem at_all {n : Int} {u : T} {w : World} {e : Ending} {w' : World} (h : AtSays n u w e w') : ∃ d, e = .returned (.tuple #[cval d, .int .i64 n]) ∧ Is w' d (if n = 0 then u else zT) ∧ Below w.heap.size w w' := by
  obtain ⟨d, he, hi, hb⟩ := h
  exact ⟨d, he, hi.is trivial, hb⟩

/-- The tree's box, the answer's, and one of none. -/
structure NSt (w : World) (c : C) (W : World) : Prop where
  st : ASt w c W
  non : Box7 W (w.heap.size + 2) zC
theorem NSt.up {w W W' : World} {c : C} (h : NSt w c W) (hb : Below W.heap.size W W') : NSt w c W' := ⟨h.st.up hb, h.non.up hb⟩
theorem NSt.is {w W : World} {c : C} {t : T} (h : NSt w c W) (hi : Is w c t) : Is W c t := h.st.is hi
theorem NSt.lt {w W : World} {c : C} (h : NSt w c W) : w.heap.size + 2 < W.heap.size := lt_of_block h.non
abbrev nsW (w : World) (c : C) : World := (cellW w c).alloc (cbox zC)
theorem NSt.start (w : World) (c : C) : NSt w c (nsW w c) := by
  have hb : Below (cellW w c).heap.size (cellW w c) (nsW w c) := (Below.refl _ _).alloc (Nat.le_refl _) _
  refine ⟨(ASt.start w c).up hb, ?_⟩
  have h := Box7.new (cellW w c) zC
  rw [cellW_size] at h
  exact h
theorem NSt.err {w W : World} {c : C} (h : NSt w c W) : Below w.heap.size w (put7 W (w.heap.size + 1) zC) := below_put7 h.st.below (by omega) _

theorem put_is {t u k : T} {p : List Int} (h : atT t p = some u) : ∃ t', putT k t p = some t' := by
  have := @put_at k p t
  rw [h] at this
  exact Option.isSome_iff_exists.1 this

theorem kid_cell {w : World} {c : C} {t : T} (h : Is w c t) : (0 ≤ c.k ∧ c.k ≤ 255) ∧ c.r.fits ∧ fits c.id ∧ t.k = c.k ∧ t.r = c.r ∧ t.id = c.id := ⟨h.fine.1, h.fine.2.1, h.fine.2.2.1, h.split.1, h.split.2.1, h.split.2.2.1⟩

/-- A cell's row is another one. -/
theorem box_row {w : World} {b : Nat} {c : C} (a : Option Addr) (n cap : Nat) (h : Box7 w b c) : Box7 (w.setCell ⟨b, 6, none⟩ (.slice a n cap)) b ⟨c.k, c.r, c.id, a, n, cap⟩ := by
  have h' : w.heap[b]? = some (cbox c) := h
  obtain ⟨hlt, hk⟩ := Array.getElem?_eq_some_iff.1 h'
  show (w.heap.modify b _)[b]? = _
  rw [Array.getElem?_eq_getElem (by rw [Array.size_modify]; exact hlt), Array.getElem_modify_self, hk]
  rfl
theorem row_other {w : World} {b k : Nat} (v : Value) (h : k ≠ b) : (w.setCell ⟨b, 6, none⟩ v).heap[k]? = w.heap[k]? := Below.heap_setCell w ⟨b, 6, none⟩ v k h
theorem row_size (w : World) (b : Nat) (v : Value) : (w.setCell ⟨b, 6, none⟩ v).heap.size = w.heap.size := by simp [World.setCell]
theorem NSt.row {w W : World} {c : C} {b : Nat} (h : NSt w c W) (v : Value) (hb : w.heap.size + 2 < b) : NSt w c (W.setCell ⟨b, 6, none⟩ v) :=
  ⟨⟨h.st.below.setCell (p := ⟨b, 6, none⟩) (by show w.heap.size ≤ b; omega) v, (row_other v (by omega)).trans h.st.box, (row_other v (by omega)).trans h.st.zero⟩, (row_other v (by omega)).trans h.non⟩

set_option maxHeartbeats 8000000 in
set_option maxRecDepth 100000 in
theorem ratS_any (t : T) (c : C) (v : Value) (p : List Int) (w : World) (hm : sz t ≤ 990) (hi : Is w c t) (hp : Path w v p) (hl : p.length ≤ 1000000) :
    Calls Tryz.prog 8 #[cval c, v] w (AtSays (atE t p) (atS t p) w) := by
  obtain ⟨va, vcap, rfl, -⟩ := hp.cap
  have L0 := Lib.hid (NSt.start w c)
  have HI := Lib.hid hi
  have HM := Lib.hid hm
  have HP := Lib.hid hp
  have HL := Lib.hid hl
  have HT := Lib.hid (rtiles8_any t c (nsW w c) (L0.out.is hi) (by omega))
  have HFC := Lib.hid hi.fine
  have HSPL := Lib.hid hi.split
  clear hi hm hp hl
  go_enter Tryz.func8, Tryz.ntmps8
  go_upto_region 2 with fail
  change Code.wp _ _ _ _ (nsW w c)
  generalize nsW w c = W0 at L0 HT ⊢
  obtain ⟨c0, c1, c2, c3, c4, c5, c6⟩ := c7_of L0.out.st.box.cat
  go_wp2_with fail
  refine HT.out.mono ?_
  rintro e w1 ⟨rfl, hb1⟩
  have L1 := Lib.hid (L0.out.up hb1)
  clear hb1 c0 c1 c2 c3 c4 c5 c6 HT L0
  cases ht : tileB t with
  | false =>
    have HE : Hid (atE t p = 1) := Lib.hid (by unfold atE; rw [if_neg (by rw [ht]; decide)])
    clear ht
    obtain ⟨q0, q1, q2, q3, q4, q5, q6⟩ := c7_of L1.out.non.cat
    obtain ⟨⟨z0, z1, z2, z3, z4, z5, z6⟩, f0, f1, f2, f3, f4, f5, f6⟩ := zero_parts L1.out.st.zero
    go_wp2
    (try simp only [Exit.inBlock, Exit.then])
    refine bodyPost_ret (results_c2 rfl _ _ (w.heap.size + 1) zC rfl ((Box7.of_zero L1.out.st.zero).put zC)) rfl ?_
    rw [HE.out]
    exact at_err (by decide) L1.out.err
  | true =>
    have HTT := Lib.hid ht
    have HAT := Lib.hid (rat_any w p t c _ w1 HI.out L1.out.st.below HP.out HL.out)
    clear ht
    obtain ⟨c0, c1, c2, c3, c4, c5, c6⟩ := c7_of L1.out.st.box.cat
    cases hu : atT t p with
    | none =>
      rw [hu] at HAT
      have HE : Hid (atE t p = 6) := Lib.hid (by unfold atE; rw [if_pos HTT.out, hu, if_neg (by decide)])
      clear hu
      go_wp2_with fail
      refine HAT.out.mono ?_
      rintro e w2 ⟨d, rfl, -, hb2⟩
      have AL : Below w2.heap.size w2 (w2.alloc (cbox d)) := (Below.refl _ _).alloc (Nat.le_refl _) _
      have L2 := Lib.hid ((L1.out.up hb2).up AL)
      clear hb2 AL c0 c1 c2 c3 c4 c5 c6 HAT
      go_upto_region 5 with fail
      change Code.wp _ _ _ _ (w2.alloc (cbox d))
      generalize w2.alloc (cbox d) = W2 at L2 ⊢
      obtain ⟨q0, q1, q2, q3, q4, q5, q6⟩ := c7_of L2.out.non.cat
      obtain ⟨⟨z0, z1, z2, z3, z4, z5, z6⟩, f0, f1, f2, f3, f4, f5, f6⟩ := zero_parts L2.out.st.zero
      go_wp2
      (try simp only [Exit.inBlock, Exit.then])
      refine bodyPost_ret (results_c2 rfl _ _ (w.heap.size + 1) zC rfl ((Box7.of_zero L2.out.st.zero).put zC)) rfl ?_
      rw [HE.out]
      exact at_err (by decide) L2.out.err
    | some u =>
      rw [hu] at HAT
      have HU := Lib.hid hu
      have hua := tile_at (by have := HM.out; omega) HTT.out hu
      have HE : Hid (atE t p = svE u) := Lib.hid (by unfold atE; rw [if_pos HTT.out, hu]; rfl)
      obtain ⟨t', hpt⟩ := put_is (k := svN u) hu
      have HS : Hid (atS t p = setT t.r.x t.r.y t') := Lib.hid (by unfold atS; rw [hu]; simp only [Option.getD_some]; rw [hpt]; rfl)
      have HPT := Lib.hid hpt
      have HUA := Lib.hid hua
      clear hu hpt hua
      go_wp2_with fail
      refine HAT.out.mono ?_
      rintro e w2 ⟨d, rfl, hd, hb2⟩
      have AL : Below w2.heap.size w2 (w2.alloc (cbox d)) := (Below.refl _ _).alloc (Nat.le_refl _) _
      have L2 := Lib.hid ((L1.out.up hb2).up AL)
      have X2 := Lib.hid (Box7.new w2 d)
      have I2 := Lib.hid ((show Is w d u from hd).up L2.out.st.below)
      have HB2 : Hid (w.heap.size + 2 < w2.heap.size) := Lib.hid (by have := L1.out.lt; have := hb2.size; omega)
      clear hb2 AL hd c0 c1 c2 c3 c4 c5 c6 HAT
      go_upto_region 5 with fail
      change Code.wp _ _ _ _ (w2.alloc (cbox d))
      generalize w2.alloc (cbox d) = W2 at L2 X2 I2 ⊢
      generalize w2.heap.size = bx at X2 HB2 ⊢
      have HK := Lib.hid (rkids_any u d W2 (by have := HM.out; have := HUA.out.2; omega) HUA.out.1 I2.out)
      obtain ⟨q0, q1, q2, q3, q4, q5, q6⟩ := c7_of X2.out.cat
      go_wp2_with fail
      refine HK.out.mono ?_
      rintro e w3 ⟨v3, cs3, rfl, hg3, hb3⟩
      have L3 := Lib.hid (L2.out.up hb3)
      have X3 := Lib.hid (X2.out.up hb3)
      have HG3 := Lib.hid hg3
      have HB3 := Lib.hid hb3
      clear hg3 hb3 q0 q1 q2 q3 q4 q5 q6 HK
      by_cases h0 : svE u = 0
      · have HE0 := Lib.hid h0
        rw [if_pos h0] at HG3
        rw [h0]
        clear h0
        obtain ⟨a3, cap3, rfl⟩ := HG3.out.row.row.shape
        have g6 := X3.out.free 6
        obtain ⟨q0, q1, q2, q3, q4, q5, q6⟩ := c7_of X3.out.cat
        obtain ⟨hk1, hk2, hk3, hk4, hk5, hk6⟩ := kid_cell I2.out
        have hkl : cs3.length = u.kids.length := by rw [HG3.out.len, svL_len]
        have ST3 : Hid (Stands (fun _ => True) w3 W2.heap.size w3.heap.size ⟨d.k, d.r, d.id, a3, cs3.length, cap3⟩ (svN u)) := Lib.hid (by
          have := HG3.out.tree (k := d.k) (r := d.r) (id := d.id) hk1 hk2 hk3 (by rw [svL_len]; have := szL_len u.kids; have := sz_node u; have := HUA.out.2; have := HM.out; omega)
          unfold svN
          rw [hk4, hk5, hk6]
          exact this)
        have HKI := Lib.hid (⟨hk1, hk2, hk3, hk4, hk5, hk6⟩ : (0 ≤ d.k ∧ d.k ≤ 255) ∧ d.r.fits ∧ fits d.id ∧ u.k = d.k ∧ u.r = d.r ∧ u.id = d.id)
        have HBX2 : Hid (bx < W2.heap.size) := Lib.hid (lt_of_block X2.out)
        clear hk1 hk2 hk3 hk4 hk5 hk6 hkl
        go_upto_region 11 with fail
        change Code.wp _ _ _ _ (w3.setCell ⟨bx, 6, none⟩ (.slice a3 cs3.length cap3))
        have X4 := Lib.hid (box_row a3 cs3.length cap3 X3.out)
        have L4 := Lib.hid (L3.out.row (.slice a3 cs3.length cap3) HB2.out)
        have ST4 := Lib.hid (ST3.out.move (w2 := w3.setCell ⟨bx, 6, none⟩ (.slice a3 cs3.length cap3)) fun k hk _ => row_other _ (by have := HBX2.out; omega))
        have HSZ : Hid (w3.heap.size = (w3.setCell ⟨bx, 6, none⟩ (.slice a3 cs3.length cap3)).heap.size) := Lib.hid (row_size _ _ _).symm
        clear L3 X3 ST3 HG3 HB3 g6 q0 q1 q2 q3 q4 q5 q6
        generalize w3.setCell ⟨bx, 6, none⟩ (.slice a3 cs3.length cap3) = W4 at X4 L4 ST4 HSZ ⊢
        have I4 := Lib.hid (ST4.out.is trivial)
        have HPU := Lib.hid (rput_any W4 (svN u) _ I4.out p t c _ W4 (L4.out.is HI.out) (Below.refl _ _) (HP.out.up L4.out.st.below) HL.out)
        rw [HPT.out] at HPU
        obtain ⟨q0, q1, q2, q3, q4, q5, q6⟩ := c7_of X4.out.cat
        obtain ⟨c0, c1, c2, c3, c4, c5, c6⟩ := c7_of L4.out.st.box.cat
        go_wp2_with fail
        refine HPU.out.mono ?_
        rintro e w5 ⟨d5, rfl, hd5, hb5⟩
        have AL5 : Below w5.heap.size w5 (w5.alloc (cbox d5)) := (Below.refl _ _).alloc (Nat.le_refl _) _
        have L5 := Lib.hid ((L4.out.up hb5).up AL5)
        have I5 := Lib.hid ((show Is w5 d5 t' from hd5.is hb5).up AL5)
        have X5 := Lib.hid (Box7.new w5 d5)
        clear hb5 AL5 hd5 q0 q1 q2 q3 q4 q5 q6 c0 c1 c2 c3 c4 c5 c6 HPU
        go_upto_region 12 with fail
        change Code.wp _ _ _ _ (w5.alloc (cbox d5))
        generalize w5.alloc (cbox d5) = W6 at L5 I5 X5 ⊢
        generalize w5.heap.size = by5 at X5 ⊢
        have HST := Lib.hid (rset_any (sz t') t' d5 c.r.x c.r.y W6 (Nat.le_refl _) HFC.out.2.1.1 HFC.out.2.1.2.1 I5.out)
        obtain ⟨q0, q1, q2, q3, q4, q5, q6⟩ := c7_of X5.out.cat
        obtain ⟨c0, c1, c2, c3, c4, c5, c6⟩ := c7_of L5.out.st.box.cat
        go_wp2_with fail
        refine HST.out.mono ?_
        rintro e w7 ⟨d7, S7, rfl, hown7, -, hb7⟩
        have L7 := Lib.hid (L5.out.up hb7)
        have O7 := Lib.hid hown7
        have HLT : Hid (w.heap.size + 1 < W6.heap.size) := Lib.hid (by have := L5.out.lt; omega)
        clear hown7 hb7 q0 q1 q2 q3 q4 q5 q6 c0 c1 c2 c3 c4 c5 c6 HST
        obtain ⟨⟨z0, z1, z2, z3, z4, z5, z6⟩, f0, f1, f2, f3, f4, f5, f6⟩ := zero_parts L7.out.st.zero
        go_wp2
        (try simp only [Exit.inBlock, Exit.then])
        refine bodyPost_ret (results_c2 rfl _ _ (w.heap.size + 1) d7 rfl ((Box7.of_zero L7.out.st.zero).put d7)) rfl ?_
        rw [HE.out, HE0.out, HS.out, HSPL.out.2.1]
        exact at_ok rfl (stands_put L7.out.st O7.out rfl HLT.out) (below_put7 L7.out.st.below (by omega) d7)
      · have HE0 := Lib.hid h0
        obtain ⟨n, hn⟩ : ∃ n, n = svE u := ⟨_, rfl⟩
        rw [← hn] at HE0 HE ⊢
        clear hn h0
        have d1 : (n != 0) = true := by simpa using HE0.out
        obtain ⟨q0, q1, q2, q3, q4, q5, q6⟩ := c7_of L3.out.non.cat
        obtain ⟨⟨z0, z1, z2, z3, z4, z5, z6⟩, f0, f1, f2, f3, f4, f5, f6⟩ := zero_parts L3.out.st.zero
        go_wp2
        (try simp only [Exit.inBlock, Exit.then])
        refine bodyPost_ret (results_c2 rfl _ _ (w.heap.size + 1) zC rfl ((Box7.of_zero L3.out.st.zero).put zC)) rfl ?_
        rw [HE.out]
        exact at_err HE0.out L3.out.err
end Go.Proofs.YtcdiogifgemjbaaGreat
/- The path to the first leaf with a number, and that it can be cut: the document's answer. -/
namespace Go.Proofs.YtcdiogifgemjbaaGreat
open Go.RowKit

theorem ownI_one (w : World) (base : Nat) (hb : base ≤ w.heap.size) (m : Int) : OwnI (w.alloc (.cells #[.int .i64 m] 3)) base (.slice (some ⟨w.heap.size, 0, none⟩) 1 1) [m] :=
  ⟨by simp [ints], .inr ⟨w.heap.size, 1, _, rfl, hb, heap_alloc_new w _, by simp, by unfold maxLen; omega, rfl, rfl⟩⟩
theorem path_of_own {w : World} {base : Nat} {v : Value} {p : List Int} (h : w.ownsRow base 3 1 v p.length (ints p)) : Path w v p := by
  refine ⟨Row.of_owns h, ?_⟩
  rcases h.2 with ⟨rfl, h0⟩ | ⟨g, cap, cur, rfl, -, -, hn, -⟩
  · exact ⟨none, 0, by rw [h0], by omega⟩
  · exact ⟨_, cap, rfl, hn⟩
def FarP (base : Nat) (v : Value) : Prop := ∀ a n cap, v = .slice (some a) n cap → base ≤ a.block
theorem FarP.lower {base base' : Nat} {v : Value} (h : FarP base v) (hb : base' ≤ base) : FarP base' v := fun a n cap e => Nat.le_trans hb (h a n cap e)
theorem far_own {w : World} {base : Nat} {v : Value} {n : Nat} {xs : List Value} (h : w.ownsRow base 3 1 v n xs) : FarP base v := fun a m cap e => by
  rcases h.2 with ⟨rfl, -⟩ | ⟨g, cap', cur, rfl, hg, -⟩
  · cases e
  · cases e; exact hg
theorem Path.kept {w w' : World} {base : Nat} {v : Value} {p : List Int} (h : Path w v p) (hf : FarP base v) (hk : ∀ g, base ≤ g → w'.heap[g]? = w.heap[g]?) : Path w' v p := by
  refine ⟨?_, h.cap⟩
  obtain ⟨a, n, rfl, h0, h1⟩ := h.row
  refine ⟨a, n, rfl, h0, fun x hx j u hu => ?_⟩
  subst hx
  have h2 := h1 x rfl j u hu
  exact (World.cell?_of_block (a := x.add j) (by
    have h3 : (x.add j).block = x.block := by unfold Addr.add; split <;> rfl
    rw [h3]
    exact hk _ (hf _ _ _ rfl))).trans h2
def FpSays (r : Option (List Int)) (w : World) (e : Ending) (w' : World) : Prop := ∃ v, e = .returned (.tuple #[v, .bool r.isSome]) ∧ Path w' v (r.getD []) ∧ FarP w.heap.size v ∧ Below w.heap.size w w'
theorem fp_none {r : Option (List Int)} {w w' : World} {e : Ending} {a : Option Addr} (h : r = none) (he : e = .returned (.tuple #[.slice a 0 0, .bool false])) (hr : Row w' (.slice a 0 0) []) (hf : FarP w.heap.size (.slice a 0 0)) (hb : Below w.heap.size w w') : FpSays r w e w' := by
  subst h; exact ⟨_, he, ⟨hr, a, 0, rfl, Nat.le_refl _⟩, hf, hb⟩
theorem fp_some {r : Option (List Int)} {p : List Int} {w w' : World} {e : Ending} {v : Value} (h : r = some p) (he : e = .returned (.tuple #[v, .bool true])) (hr : Path w' v p) (hf : FarP w.heap.size v) (hb : Below w.heap.size w w') : FpSays r w e w' := by
  subst h; exact ⟨v, he, hr, hf, hb⟩

set_option maxRecDepth 100000 in
theorem rfindp_any (id : Int) (N : Nat) : ∀ (t : T) (c : C) (w : World), sz t ≤ N → sz t ≤ 1000000 → Is w c t → Calls Tryz.prog 27 #[cval c, .int .i64 id] w (FpSays (findT id t) w) := by
  induction N with
  | zero => intro t c w h; have := sz_pos t; omega
  | succ N ih =>
    intro t c w hs hm hi
    have HR := Lib.hid hi.row
    have hn := hi.n
    have hfn := hi.fine.2.2.2
    have htk := hi.split.1
    have hti := hi.split.2.2.1
    obtain ⟨ck, cr, cid, ca, cn, ccap⟩ := c
    simp only at hn hfn htk hti
    subst hn
    clear hi
    have HS := Lib.hid hs
    have HM := Lib.hid hm
    have HIH := Lib.hid ih
    clear hs hm ih
    by_cases hk : ck = 1 ∧ cid = id
    · obtain ⟨rfl, rfl⟩ := hk
      have hv := Lib.hid (show findT cid t = some [] by rw [findT_eq, if_pos ⟨htk, hti⟩])
      clear htk hti
      go_enter Tryz.func27, Tryz.ntmps27
      go_wp2
      go_ret2
      refine fp_some (v := .slice (some ⟨w.heap.size + 1, 0, none⟩) 0 0) hv.out rfl ⟨?_, _, 0, rfl, Nat.le_refl _⟩ (fun a n cap e => by cases e; show w.heap.size ≤ w.heap.size + 1; omega) (((Below.refl _ _).alloc (Nat.le_refl _) _).alloc (by simp) _)
      exact ⟨some ⟨w.heap.size + 1, 0, none⟩, 0, rfl, (fun h => by cases h), fun x hx j u hu => by simp [ints] at hu⟩
    · have hv : Hid (findT id t = findL id 0 t.kids) := Lib.hid (by rw [findT_eq, if_neg (by rw [htk, hti]; exact hk)])
      have hcase : ((ck == 1) = false) ∨ ((ck == 1) = true ∧ (cid == id) = false) := by
        by_cases h1 : ck = 1
        · refine .inr ⟨by simpa using h1, ?_⟩
          rw [beq_eq_false_iff_ne]; exact fun h2 => hk ⟨h1, h2⟩
        · refine .inl ?_
          rw [beq_eq_false_iff_ne]; exact h1
      clear hk htk hti
      rcases hcase with e1 | ⟨e1, e2⟩
      all_goals
        go_enter Tryz.func27, Tryz.ntmps27
        go_wp2
        go_loopg [22] (t.kids.length + 1) (fun g i wr => ∃ k : Nat, g + k = t.kids.length + 1 ∧ k ≤ t.kids.length ∧ i = .int .i64 k ∧ (∀ (j : Nat) (u : T), j < k → t.kids[j]? = some u → findT id u = none) ∧ Below (w.alloc (cbox ⟨ck, cr, cid, ca, t.kids.length, ccap⟩)).heap.size (w.alloc (cbox ⟨ck, cr, cid, ca, t.kids.length, ccap⟩)) wr)
        case atStart => exact ⟨0, by omega, by omega, rfl, fun j u hj => by omega, Below.refl _ _⟩
        case round =>
          obtain ⟨k, hg, hk, rfl, hno, hb⟩ := hrel
          have HG := Lib.hid hg
          have HNO := Lib.hid hno
          have HBX := Lib.hid hb
          have HB := Lib.hid (below_one hb)
          clear hg hno hb
          by_cases hlt : k < t.kids.length
          · have hlti : (k : Int) < (t.kids.length : Int) := by omega
            obtain ⟨b, o, rfl, hf⟩ := HR.out.place (by omega)
            obtain ⟨u, hu⟩ : ∃ u, t.kids[k]? = some u := ⟨_, List.getElem?_eq_getElem hlt⟩
            obtain ⟨x, hx, hix⟩ := hf k u hu
            clear hf
            obtain ⟨c0, c1, c2, c3, c4, c5, c6⟩ := hx.up HB.out
            have q6 := (box_at HBX.out).2.2.2.2.2.2
            have HK := Lib.hid (HIH.out u x wr (by have := HS.out; have := sz_kid hu; omega) (by have := HM.out; have := sz_kid hu; omega) (hix.up HB.out))
            have HU := Lib.hid hu
            clear hix hu hx
            cases hfu : findT id u with
            | none =>
              rw [hfu] at HK
              have HFU := Lib.hid hfu
              clear hfu
              go_wp2_with fail
              refine HK.out.mono ?_
              rintro e w2 ⟨v2, rfl, -, -, hb2⟩
              have HB2 := Lib.hid hb2
              clear hb2
              go_wp2
              go_roundg (gk - 1)
              case measure => have := HG.out; omega
              case rel =>
                refine ⟨k + 1, by have := HG.out; omega, by omega, by go_num, fun j y hj hy => ?_, HBX.out.trans (HB2.out.mono HBX.out.size)⟩
                rcases Nat.lt_or_ge j k with h | h
                · exact HNO.out j y h hy
                · obtain rfl : j = k := by omega
                  rw [HU.out] at hy
                  cases hy
                  exact HFU.out
            | some p =>
              rw [hfu] at HK
              have hres := Lib.hid (hv.out.trans (findL_some (j := 0) HNO.out HU.out hfu))
              have hpl : Hid (p.length < 1000000) := by have := findT_len id p u hfu; have := HM.out; have := sz_kid HU.out; show p.length < 1000000; omega
              rw [Nat.zero_add] at hres
              clear hfu
              go_wp2_with fail
              refine HK.out.mono ?_
              rintro e w2 ⟨v2, rfl, hr2, -, hb2⟩
              have HR2 := Lib.hid (show Row w2 v2 (ints p) from hr2.row)
              have HB2 := Lib.hid (HB.out.trans (hb2.mono HB.out.size))
              obtain ⟨a2, cap2, rfl⟩ := row_shape HR2.out
              clear hr2 hb2 c0 c1 c2 c3 c4 c5 c6 q6
              have HLN : Hid ((ints [(k : Int)]).length + (ints p).length ≤ 1000000) := Lib.hid (by rw [ints_length, ints_length]; have := hpl.out; simp; omega)
              have HO := Lib.hid (ownI_one w2 w2.heap.size (Nat.le_refl _) (k : Int))
              go_wp2_with (at_builtin; refine wpList_append_row2 rfl _ _ 27 rfl w2.heap.size 3 (.int .i64 0) 8 Tryz.underlying27 infoI rfl (.slice (some ⟨w2.heap.size, 0, none⟩) 1 1) _ (ints [(k : Int)]) (ints p) rfl HO.out rfl (HR2.out.up ((Below.refl _ _).alloc (Nat.le_refl _) _)) (ints_one _) HLN.out (by decide) w2 ((Below.refl _ _).alloc (Nat.le_refl _) _) (Nat.le_refl _) ?_; intro v4 w4 hown4 hb4 hgr4)
              have HR4 := Lib.hid (path_of_own (p := (k : Int) :: p) (by simpa [ints, Nat.add_comm] using hown4))
              have HFAR := Lib.hid ((far_own hown4).lower HB2.out.size)
              have HB4 := Lib.hid (HB2.out.trans (hb4.mono HB2.out.size))
              clear hown4 hb4 hgr4
              go_wp2
              go_ret2
              exact fp_some hres.out rfl HR4.out HFAR.out HB4.out
          · obtain rfl : k = t.kids.length := by omega
            have hkl : ((t.kids.length : Int) < (t.kids.length : Int)) = False := by simp
            have hres := Lib.hid (hv.out.trans (findL_none 0 (fun k u hu => HNO.out k u (by
              rcases Nat.lt_or_ge k t.kids.length with h | h
              · exact h
              · rw [List.getElem?_eq_none h] at hu; cases hu) hu)))
            go_wp2
            go_ret2
            refine fp_none (a := some ⟨wr.heap.size, 0, none⟩) hres.out rfl ?_ (fun a n cap e => by cases e; exact HB.out.size) (HB.out.alloc HB.out.size _)
            exact ⟨some ⟨wr.heap.size, 0, none⟩, 0, rfl, (fun h => by cases h), fun x hx j u hu => by simp at hu⟩
end Go.Proofs.YtcdiogifgemjbaaGreat
/- The cell around a leaf is spread: the document's walk. -/
namespace Go.Proofs.YtcdiogifgemjbaaGreat
open Go.RowKit

theorem path_cut {w : World} {a : Option Addr} {n cap : Nat} {p : List Int} (h : Path w (.slice a n cap) p) (k : Nat) (hk : k ≤ p.length) : Path w (.slice a k cap) (p.take k) := by
  obtain ⟨a', cap', he, hc⟩ := h.cap
  cases he
  obtain ⟨a', cap', he, h0, h1⟩ := h.row
  rw [ints_length] at he
  cases he
  refine ⟨⟨a, cap, by rw [ints_length, List.length_take, Nat.min_eq_left hk], fun e => ?_, fun x hx j v hv => ?_⟩, a, cap, by rw [List.length_take, Nat.min_eq_left hk], by rw [List.length_take, Nat.min_eq_left hk]; omega⟩
  · obtain ⟨h2, h3⟩ := h0 e
    have h4 : p = [] := by cases p with | nil => rfl | cons a l => simp [ints] at h2
    subst h4
    exact ⟨by simp [ints], h3⟩
  · refine h1 x hx j v ?_
    have h5 : ints (p.take k) = (ints p).take k := by unfold ints; rw [List.map_take]
    rw [h5, List.getElem?_take] at hv
    split at hv
    · exact hv
    · cases hv
theorem ar_none {t : T} {id : Int} (ht : tileB t = true) (h : findT id t = none) : arE t id = 6 := by
  unfold arE; rw [if_pos ht, h]
theorem ar_top {t : T} {id : Int} (ht : tileB t = true) (h : findT id t = some []) : arE t id = 10 := by
  unfold arE; rw [if_pos ht, h]; rfl
theorem ar_at {t : T} {id : Int} {p : List Int} (ht : tileB t = true) (h : findT id t = some p) (hp : p ≠ []) : arE t id = atE t (p.take (p.length - 1)) ∧ arS t id = atS t (p.take (p.length - 1)) := by
  refine ⟨?_, ?_⟩
  · unfold arE; rw [if_pos ht, h]; exact if_neg hp
  · unfold arS; rw [h]; rfl
theorem st_put {W5 : World} {d : C} {u : T} {lo b base : Nat} (h : Stands (fun _ => True) W5 lo W5.heap.size d u) (hb : b < lo) (hl : base ≤ lo) : Stands (fun _ => True) (put7 W5 b d) base (put7 W5 b d).heap.size d u := by
  rw [size_put7]
  exact (h.move (w2 := put7 W5 b d) fun k hk _ => heap_put7 (by omega)).wide hl (Nat.le_refl _)

set_option maxHeartbeats 8000000 in
set_option maxRecDepth 100000 in
theorem rarS_any (t : T) (c : C) (id : Int) (w : World) (hm : sz t ≤ 990) (hi : Is w c t) :
    Calls Tryz.prog 10 #[cval c, .int .i64 id] w (AtSays (arE t id) (arS t id) w) := by
  have L0 := Lib.hid (ASt.start w c)
  have HI := Lib.hid hi
  have HM := Lib.hid hm
  have HT := Lib.hid (rtiles8_any t c (cellW w c) (L0.out.is hi) (by omega))
  clear hi hm
  go_enter Tryz.func10, Tryz.ntmps10
  go_upto_region 1 with fail
  change Code.wp _ _ _ _ (cellW w c)
  generalize cellW w c = W0 at L0 HT ⊢
  obtain ⟨c0, c1, c2, c3, c4, c5, c6⟩ := c7_of L0.out.box.cat
  go_wp2_with fail
  refine HT.out.mono ?_
  rintro e w1 ⟨rfl, hb1⟩
  have L1 := Lib.hid (L0.out.up hb1)
  clear hb1 c0 c1 c2 c3 c4 c5 c6 HT L0
  cases ht : tileB t with
  | false =>
    have HE : Hid (arE t id = 1) := Lib.hid (by unfold arE; rw [if_neg (by rw [ht]; decide)])
    clear ht
    obtain ⟨⟨z0, z1, z2, z3, z4, z5, z6⟩, f0, f1, f2, f3, f4, f5, f6⟩ := zero_parts L1.out.zero
    go_wp2
    (try simp only [Exit.inBlock, Exit.then])
    refine bodyPost_ret (results_c2 rfl _ _ (w.heap.size + 1) zC rfl ((Box7.of_zero L1.out.zero).put zC)) rfl ?_
    rw [HE.out]
    exact at_err (by decide) (below_put7 L1.out.below (by omega) zC)
  | true =>
    have HTT := Lib.hid ht
    have HFD := Lib.hid (rfindp_any id (sz t) t c w1 (Nat.le_refl _) (by have := HM.out; omega) (L1.out.is HI.out))
    clear ht
    obtain ⟨c0, c1, c2, c3, c4, c5, c6⟩ := c7_of L1.out.box.cat
    cases hf : findT id t with
    | none =>
      rw [hf] at HFD
      have HE := Lib.hid (ar_none HTT.out hf)
      clear hf
      go_wp2_with fail
      refine HFD.out.mono ?_
      rintro e w2 ⟨v2, rfl, -, -, hb2⟩
      have L2 := Lib.hid (L1.out.up hb2)
      clear hb2 c0 c1 c2 c3 c4 c5 c6 HFD
      obtain ⟨⟨z0, z1, z2, z3, z4, z5, z6⟩, f0, f1, f2, f3, f4, f5, f6⟩ := zero_parts L2.out.zero
      go_wp2
      (try simp only [Exit.inBlock, Exit.then])
      refine bodyPost_ret (results_c2 rfl _ _ (w.heap.size + 1) zC rfl ((Box7.of_zero L2.out.zero).put zC)) rfl ?_
      rw [HE.out]
      exact at_err (by decide) (below_put7 L2.out.below (by omega) zC)
    | some p =>
      rw [hf] at HFD
      have HFT := Lib.hid hf
      have HPL : Hid (p.length ≤ 990) := Lib.hid (by have := findT_len id p t hf; have := HM.out; omega)
      clear hf
      go_wp2_with fail
      refine HFD.out.mono ?_
      rintro e w2 ⟨v2, rfl, hp2, -, hb2⟩
      have L2 := Lib.hid (L1.out.up hb2)
      have hp2' : Path w2 v2 p := hp2
      have HP2 := Lib.hid hp2'
      obtain ⟨a2, cap2, rfl, hcap⟩ := hp2'.cap
      clear hb2 hp2 hp2' c0 c1 c2 c3 c4 c5 c6 HFD
      by_cases hne : p = []
      · subst hne
        have HE := Lib.hid (ar_top HTT.out HFT.out)
        clear hcap
        obtain ⟨⟨z0, z1, z2, z3, z4, z5, z6⟩, f0, f1, f2, f3, f4, f5, f6⟩ := zero_parts L2.out.zero
        go_wp2
        (try simp only [Exit.inBlock, Exit.then])
        refine bodyPost_ret (results_c2 rfl _ _ (w.heap.size + 1) zC rfl ((Box7.of_zero L2.out.zero).put zC)) rfl ?_
        rw [HE.out]
        exact at_err (by decide) (below_put7 L2.out.below (by omega) zC)
      · have HEA := Lib.hid (ar_at HTT.out HFT.out hne)
        have hpos : 0 < p.length := by cases p with | nil => exact absurd rfl hne | cons => simp
        obtain ⟨n, hn⟩ : ∃ n, p.length = n := ⟨_, rfl⟩
        obtain ⟨m, hmm⟩ : ∃ m, n - 1 = m := ⟨_, rfl⟩
        have HQ : Hid (∀ W, ASt w c W → Below w2.heap.size w2 W → Calls Tryz.prog 8 #[cval c, .slice a2 m cap2] W fun e w' => ∃ d, e = .returned (.tuple #[cval d, .int .i64 (arE t id)]) ∧ Stands (fun _ => True) w' W.heap.size w'.heap.size d (if arE t id = 0 then arS t id else zT) ∧ Below W.heap.size W w') := Lib.hid fun W L hb => by
          rw [HEA.out.1, HEA.out.2]
          refine ratS_any t c _ _ W HM.out (L.is HI.out) ?_ (by rw [List.length_take]; have := HPL.out; omega)
          have := path_cut (HP2.out.up hb) (p.length - 1) (by omega)
          rw [hn, hmm] at this ⊢
          exact this
        have hp9 := HPL.out
        rw [hn] at hpos hcap hp9 ⊢
        have d0 : ((n : Int) == 0) = false := by rw [beq_eq_false_iff_ne]; omega
        have d0' : (n == 0) = false := by rw [beq_eq_false_iff_ne]; omega
        have d1 : ((n : Int) = 0) = False := by simp; omega
        have d2 : (n = 0) = False := by simp; omega
        have hws : IntKind.i64.wrap ((n : Int) - 1) = (m : Int) := by rw [wrap_id (by omega)]; omega
        have hws' : wrap64 ((n : Int) - 1) = (m : Int) := by rw [← wrapE]; exact hws
        have hmc : (m : Int) ≤ (cap2 : Int) := by omega
        have hmc' : m ≤ cap2 := by omega
        have hm0 : decide ((m : Int) < 0) = false := decide_eq_false (by omega)
        have D2 : Hid (ASt w c w2.drew) := Lib.hid (L2.out.up (Below.refl _ _).drew)
        have BD2 : Hid (Below w2.heap.size w2 w2.drew) := Lib.hid (Below.refl _ _).drew
        have X2 := Lib.hid (c7_of D2.out.box.cat)
        obtain ⟨c0, c1, c2, c3, c4, c5, c6⟩ := c7_of L2.out.box.cat
        clear hn hmm hpos hcap hp9 hne
        go_wp2_with fail
        go_region_held3 (fun W => W.cell? ⟨w.heap.size, 0, none⟩ = some (.int .u8 c.k) ∧ W.cell? ⟨w.heap.size, 1, none⟩ = some (.int .i64 c.r.x) ∧ W.cell? ⟨w.heap.size, 2, none⟩ = some (.int .i64 c.r.y) ∧ W.cell? ⟨w.heap.size, 3, none⟩ = some (.int .i64 c.r.w) ∧ W.cell? ⟨w.heap.size, 4, none⟩ = some (.int .i64 c.r.h) ∧ W.cell? ⟨w.heap.size, 5, none⟩ = some (.int .i64 c.id) ∧ W.cell? ⟨w.heap.size, 6, none⟩ = some (.slice c.a c.n c.cap)) (first | with_reducible exact X2.out | with_reducible exact X5.out | with_reducible exact X6.out)
          (first
            | (go_at_call 8; (with_reducible refine (HQ.out w2.drew D2.out BD2.out).mono ?_); rintro e w5 ⟨d5, rfl, hst5, hb5⟩; have L5 := Lib.hid (D2.out.up hb5); have X5 := Lib.hid (c7_of L5.out.box.cat); have S5 := Lib.hid hst5; have X6 := Lib.hid (c7_put7 (k := w.heap.size + 1) (x := d5) X5.out (by omega)); obtain ⟨⟨z0, z1, z2, z3, z4, z5, z6⟩, f0, f1, f2, f3, f4, f5, f6⟩ := zero_parts L5.out.zero; clear hst5 hb5))
        rename_i hh9
        clear hh9
        go_wp2
        (try simp only [Exit.inBlock, Exit.then])
        refine bodyPost_ret (results_c2 rfl _ _ (w.heap.size + 1) d5 rfl ((Box7.of_zero L5.out.zero).put d5)) rfl ?_
        exact ⟨d5, rfl, st_put S5.out (lt_of_block D2.out.zero) (by have := lt_of_block D2.out.zero; omega), below_put7 L5.out.below (by omega) d5⟩
end Go.Proofs.YtcdiogifgemjbaaGreat
