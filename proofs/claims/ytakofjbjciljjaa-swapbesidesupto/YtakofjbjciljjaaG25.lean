/- Texts of this seat, 3 in one file. -/
import Derived.Test.YtakofjbjciljjaaG24
/- Numbers handed to leaves: the document's In, Name. -/
namespace Go.Proofs.Ytakofjbjciljjaa
open Go.RowKit

set_option maxRecDepth 100000 in
theorem rhasI_same (v : Value) (l : List Int) (id : Int) (w : World) (hr : Row w v (ints l)) (hl : l.length ≤ 1000000) :
    Calls Try.prog 19 #[v, .int .i64 id] w fun e w' => e = .returned (.bool (decide (id ∈ l))) ∧ w = w' := by
  obtain ⟨a, cap, rfl⟩ := row_shape hr
  have HR := Lib.hid hr
  clear hr
  go_enter Try.func19, Try.ntmps19
  go_wp2
  go_loopg [8] (l.length + 1) (fun g i wr => ∃ k : Nat, g + k = l.length + 1 ∧ k ≤ l.length ∧ i = .int .i64 k ∧ (∀ (j : Nat) (q : Int), j < k → l[j]? = some q → q ≠ id) ∧ w = wr)
  case atStart => exact ⟨0, by omega, by omega, rfl, fun j q hj => by omega, rfl⟩
  case round =>
    obtain ⟨k, hg, hk, rfl, hno, rfl⟩ := hrel
    have HG := Lib.hid hg
    have HNO := Lib.hid hno
    clear hg hno
    by_cases hlt : k < l.length
    · obtain ⟨b, o, rfl, hf⟩ := int_at HR.out (by omega)
      obtain ⟨p, hp⟩ : ∃ p, l[k]? = some p := ⟨_, List.getElem?_eq_getElem hlt⟩
      have c0 := hf k p hp
      clear hf
      have HP := Lib.hid hp
      clear hp
      by_cases he : p = id
      · have d1 : (p == id) = true := by simpa using he
        have HV : Hid (decide (id ∈ l) = true) := Lib.hid (decide_eq_true (by rw [← he]; exact List.mem_of_getElem? HP.out))
        clear he
        go_wp2
        go_ret
        exact ⟨by rw [HV.out]; rfl, rfl⟩
      · have d1 : (p == id) = false := by simpa using he
        have HE := Lib.hid he
        clear he
        go_wp2
        go_roundg (gk - 1)
        case measure => have := HG.out; omega
        case rel =>
          refine ⟨k + 1, by have := HG.out; omega, by omega, by go_num, fun j q hj hq => ?_, rfl⟩
          rcases Nat.lt_or_ge j k with h | h
          · exact HNO.out j q h hq
          · obtain rfl : j = k := by omega
            rw [HP.out] at hq; cases hq; exact HE.out
    · obtain rfl : k = l.length := by omega
      have hkl : ((l.length : Int) < (l.length : Int)) = False := by simp
      have HV : Hid (decide (id ∈ l) = false) := Lib.hid (decide_eq_false (fun hm => by
        obtain ⟨j, hj, he⟩ := List.getElem_of_mem hm
        exact HNO.out j _ hj (List.getElem?_eq_getElem hj) he))
      go_wp2
      go_ret
      exact ⟨by rw [HV.out]; rfl, rfl⟩

theorem rhasI_any (v : Value) (l : List Int) (id : Int) (w : World) (hr : Row w v (ints l)) (hl : l.length ≤ 1000000) :
    Calls Try.prog 19 #[v, .int .i64 id] w fun e w' => e = .returned (.bool (decide (id ∈ l))) ∧ Below w.heap.size w w' :=
  (rhasI_same v l id w hr hl).mono fun _ _ ⟨he, hw⟩ => ⟨he, hw ▸ Below.refl _ _⟩
theorem quiet_same {P : Program} {f : FuncId} {args : Array Value} {w : World} {n : Nat} {v : Value}
    (h : Calls P f args (w.drewN n) fun e w' => e = .returned v ∧ w.drewN n = w') : Calls P f args (w.drewN n) fun e w'' => e = .returned v ∧ ∃ m, w'' = w.drewN m :=
  h.mono fun _ _ ⟨he, hm⟩ => ⟨he, n, hm.symm⟩
theorem below_drewN (w : World) (n : Nat) : Below w.heap.size w (w.drewN n) := ⟨rfl, rfl, rfl, Nat.le_refl _, fun _ _ => rfl⟩

/-- A tree's box and the answer's. -/
structure SSt (w : World) (c : C) (W : World) : Prop where
  below : Below w.heap.size w W
  box : Box7 W w.heap.size c
  zero : Zero7 W (w.heap.size + 1)
  size : w.heap.size + 2 ≤ W.heap.size
theorem SSt.up {w W W' : World} {c : C} (h : SSt w c W) (hb : Below W.heap.size W W') : SSt w c W' := ⟨h.below.trans (hb.mono h.below.size), h.box.up hb, zero_up h.zero hb, Nat.le_trans h.size hb.size⟩
theorem SSt.start (w : World) (c : C) : SSt w c (freshW w c) := by
  have h1 : Below w.heap.size w (w.alloc (cbox c)) := (Below.refl _ _).alloc (Nat.le_refl _) _
  have h2 : Below (w.alloc (cbox c)).heap.size (w.alloc (cbox c)) (freshW w c) := (Below.refl _ _).alloc (Nat.le_refl _) _
  refine ⟨h1.trans (h2.mono h1.size), (Box7.new w c).up h2, ?_, by simp⟩
  have h3 := zero_new (w.alloc (cbox c))
  have h4 : (w.alloc (cbox c)).heap.size = w.heap.size + 1 := by simp
  rw [h4] at h3
  exact h3
theorem SSt.is {w W : World} {c : C} {t : T} (h : SSt w c W) (hi : Is w c t) : Is W c t := hi.up h.below
theorem SSt.err {w W : World} {c : C} (h : SSt w c W) : Below w.heap.size w (put7 W (w.heap.size + 1) zC) := below_put7 h.below (by omega) _

/-- It stands as long as what the call made does. -/
def Fas (B : Nat) (w : World) (d : C) (u : T) : Prop := ∀ W', (∀ k, B ≤ k → W'.heap[k]? = w.heap[k]?) → Is W' d u
theorem Fas.of {B base : Nat} {w : World} {d : C} {u : T} {S : List Nat} (h : OwnT w base d u S) (hb : B ≤ base) : Fas B w d u := fun W' hW => (h.frame fun k hk => hW k (by have := (h.ge k hk).1; omega)).is
theorem Fas.put {B : Nat} {w : World} {d x : C} {u : T} {b : Nat} (h : Fas B w d u) (hb : b < B) : Fas b (put7 w b x) d u := fun W' hW => h W' fun k hk => (hW k (by omega)).trans (heap_put7 (by omega))
theorem Fas.low {B B' : Nat} {w : World} {d : C} {u : T} (h : Fas B w d u) (hb : B' ≤ B) : Fas B' w d u := fun W' hW => h W' fun k hk => hW k (by omega)
/-- More is made: what a block of the call's own holds may be written, as long as it is below. -/
theorem Fas.up {B : Nat} {w w' : World} {d : C} {u : T} (h : Fas B w d u) (hb : Below w.heap.size w w') (hi : Is w d u) : Is w' d u := hi.up hb

def NmSays (u : T) (w : World) (e : Ending) (w' : World) : Prop := ∃ d, e = .returned (cval d) ∧ Fas w.heap.size w' d u ∧ Below w.heap.size w w'
theorem lv_sz (t : T) : lvT t ≤ sz t := by rw [← panes_lv]; exact panes_len t
abbrev C7 (b : Nat) (c : C) (W : World) : Prop := W.cell? ⟨b, 0, none⟩ = some (.int .u8 c.k) ∧ W.cell? ⟨b, 1, none⟩ = some (.int .i64 c.r.x) ∧ W.cell? ⟨b, 2, none⟩ = some (.int .i64 c.r.y) ∧ W.cell? ⟨b, 3, none⟩ = some (.int .i64 c.r.w) ∧ W.cell? ⟨b, 4, none⟩ = some (.int .i64 c.r.h) ∧ W.cell? ⟨b, 5, none⟩ = some (.int .i64 c.id) ∧ W.cell? ⟨b, 6, none⟩ = some (.slice c.a c.n c.cap)
theorem c7_of {W : World} {b : Nat} {c : C} (h : CAt W b 0 c) : C7 b c W := by
  obtain ⟨c0, c1, c2, c3, c4, c5, c6⟩ := h
  simp only [Nat.zero_add] at c1 c2 c3 c4 c5 c6
  exact ⟨c0, c1, c2, c3, c4, c5, c6⟩
set_option maxRecDepth 100000 in
theorem results_c2 {fn : Func} {p u : Tmp} (h : fn.results = #[.cell p 26, .tmp u]) (tmps : Array Value) (w : World) (g : Nat) (c : C) (hp : tmps.getD p undef = .pointer (some ⟨g, 0, none⟩)) (hg : Box7 w g c) :
    (results fn tmps).run Try.prog w = .ok (.tuple #[cval c, tmps.getD u undef]) w := by
  have hg' : w.heap[g]? = some (cbox c) := hg
  have hl := run_loadVar_row (P := Try.prog) w g 26 26 _ (0, 0) _ hg' Try.underlying26 rfl (by kernel_rfl)
  rw [results_cell_tmp h, hp]
  simp [asAddr, hl, Result.andThen]

set_option maxRecDepth 100000 in
theorem rnameS_any (t : T) (c : C) (v : Value) (ms : List Int) (w : World) (hs : sz t ≤ 900000) (hi : Is w c t) (hp : Cutt w v ms) (hml : lvT t ≤ ms.length) (hfit : ∀ m ∈ ms, fits m) :
    Calls Try.prog 25 #[cval c, v] w (NmSays (nmT ms t) w) := by
  have L0 := Lib.hid (SSt.start w c)
  have HN := Lib.hid (rname_any (sz t) t c v ms (freshW w c) (Nat.le_refl _) (by have := lv_sz t; omega) (L0.out.is hi) (hp.up L0.out.below) hml hfit)
  clear hi hp hml hfit hs
  obtain ⟨c0, c1, c2, c3, c4, c5, c6⟩ := c7_of L0.out.box.cat
  go_enter Try.func25, Try.ntmps25
  go_wp2_with fail
  refine HN.out.mono ?_
  rintro e w1 ⟨d, S, rfl, hd, -, hb1⟩
  have A2 : Hid (Below w1.heap.size w1 (w1.alloc (cbox d))) := (Below.refl _ _).alloc (Nat.le_refl _) _
  have L2 := Lib.hid ((L0.out.up hb1).up A2.out)
  have F2 := Lib.hid (Fas.of (hd.up A2.out) (Nat.le_refl _))
  have D2 := Lib.hid (Box7.new w1 d)
  clear hd c0 c1 c2 c3 c4 c5 c6 HN
  go_upto_region 2 with fail
  change Code.wp _ _ _ _ (w1.alloc (cbox d))
  have HSZ : Hid (w.heap.size + 2 ≤ w1.heap.size) := Lib.hid (by have := hb1.size; simp at this; omega)
  generalize w1.alloc (cbox d) = W at A2 L2 F2 D2 ⊢
  generalize w1.heap.size = b at D2 HSZ ⊢
  have n1 : b ≠ w.heap.size + 1 := by have := HSZ.out; omega
  obtain ⟨c0, c1, c2, c3, c4, c5, c6⟩ := c7_of D2.out.cat
  obtain ⟨⟨z0, z1, z2, z3, z4, z5, z6⟩, f0, f1, f2, f3, f4, f5, f6⟩ := zero_parts L2.out.zero
  go_wp2
  (try simp only [Exit.inBlock, Exit.then])
  refine bodyPost_ret (results_cell1 rfl _ _ (w.heap.size + 1) d rfl ((Box7.of_zero L2.out.zero).put d)) rfl ?_
  exact ⟨d, rfl, (F2.out.put (b := w.heap.size + 1) (by simp)).low (by omega), below_put7 L2.out.below (by omega) d⟩
end Go.Proofs.Ytakofjbjciljjaa
/- Two leaves change places: the document's answer. -/
namespace Go.Proofs.Ytakofjbjciljjaa
open Go.RowKit

theorem OwnI.cutt {w : World} {base : Nat} {v : Value} {l : List Int} (h : OwnI w base v l) : Cutt w v l := ⟨h.row, by
  rcases h.2 with ⟨h1, h2⟩ | ⟨g, cap, cur, h1, -, -, h2, -⟩
  · exact ⟨none, 0, by rw [h1, h2], by omega⟩
  · exact ⟨_, cap, h1, h2⟩⟩
theorem sst_ok {w W W2 : World} {c d : C} {n : Int} {u : T} (hn : n = 0) (h : SSt w c W) (hf : Fas W.heap.size W2 d u) (hb : Below W.heap.size W W2) :
    SwSays n u .i64 w (.returned (.tuple #[cval d, .int .i64 0])) (put7 W2 (w.heap.size + 1) d) :=
  sw_ok hn ((hf.put (b := w.heap.size + 1) (by have := h.size; omega)).low (by omega)) (below_put7 (h.up hb).below (by omega) d)
theorem tw_no {t : T} {a b : Int} (ht : tileB t = true) (h : ¬ (a ∈ idsT t ∧ b ∈ idsT t)) : twE t a b = 6 := by
  unfold twE; rw [if_pos ht, if_neg h]
theorem tw_yes {t : T} {a b : Int} (ht : tileB t = true) (h : a ∈ idsT t ∧ b ∈ idsT t) : twE t a b = 0 := by
  unfold twE; rw [if_pos ht, if_pos h]
theorem tw_bad {t : T} {a b : Int} (ht : tileB t = false) : twE t a b = 1 := by
  unfold twE; rw [if_neg (by rw [ht]; decide)]
theorem twL_step {a b : Int} {l : List Int} {k : Nat} {p : Int} (h : l[k]? = some p) : twL a b (l.take (k + 1)) = twL a b (l.take k) ++ [tw1 a b p] := by
  unfold twL
  rw [List.take_add_one, h]; simp
theorem twL_fit {a b : Int} {l : List Int} (ha : fits a) (hb : fits b) (h : ∀ m ∈ l, fits m) : ∀ m ∈ twL a b l, fits m := by
  intro m hm
  unfold twL at hm
  obtain ⟨x, hx, rfl⟩ := List.mem_map.1 hm
  unfold tw1
  split
  · exact hb
  · split
    · exact ha
    · exact h x hx

set_option maxHeartbeats 4000000 in
set_option maxRecDepth 100000 in
theorem rtwo_no (t : T) (c : C) (a b : Int) (w : World) (hm : sz t ≤ 20000) (hi : Is w c t) (hn : ¬ (tileB t = true ∧ a ∈ idsT t ∧ b ∈ idsT t)) :
    Calls Try.prog 10 #[cval c, .int .i64 a, .int .i64 b] w (SwSays (twE t a b) (twT t a b) .i64 w) := by
  have L0 := Lib.hid (SSt.start w c)
  have HT := Lib.hid (rtiles8_any t c (freshW w c) (L0.out.is hi) hm)
  have HI := Lib.hid hi
  have HM := Lib.hid hm
  have HN := Lib.hid hn
  clear hi hm hn
  obtain ⟨c0, c1, c2, c3, c4, c5, c6⟩ := c7_of L0.out.box.cat
  go_enter Try.func10, Try.ntmps10
  go_wp2_with fail
  refine HT.out.mono ?_
  rintro e w1 ⟨rfl, hb1⟩
  have L1 := Lib.hid (L0.out.up hb1)
  clear hb1 c0 c1 c2 c3 c4 c5 c6 HT
  cases ht : tileB t with
  | false =>
    have HE := Lib.hid (tw_bad (a := a) (b := b) ht)
    clear ht
    obtain ⟨⟨z0, z1, z2, z3, z4, z5, z6⟩, f0, f1, f2, f3, f4, f5, f6⟩ := zero_parts L1.out.zero
    go_wp2
    (try simp only [Exit.inBlock, Exit.then])
    refine bodyPost_ret (results_c2 rfl _ _ (w.heap.size + 1) zC rfl ((Box7.of_zero L1.out.zero).put zC)) rfl ?_
    rw [HE.out]
    exact sw_err (by decide) L1.out.err
  | true =>
    have HTL := Lib.hid ht
    have HE := Lib.hid (tw_no ht fun h => HN.out ⟨ht, h⟩)
    have HIDS := Lib.hid (rids_any t c w1 (by have := HM.out; omega) (L1.out.is HI.out))
    clear ht
    obtain ⟨c0, c1, c2, c3, c4, c5, c6⟩ := c7_of L1.out.box.cat
    go_wp2_with fail
    refine HIDS.out.mono ?_
    rintro e w2 ⟨v2, rfl, ho2, hb2⟩
    have L2 := Lib.hid (L1.out.up hb2)
    have R2 := Lib.hid ho2.row
    obtain ⟨a2, cap2, rfl⟩ := row_shape ho2.row
    clear ho2 hb2 c0 c1 c2 c3 c4 c5 c6 HIDS
    have HL : Hid ((idsT t).length ≤ 20000) := Lib.hid (by rw [ids_len]; have := lv_sz t; have := HM.out; omega)
    have HA := Lib.hid (rhasI_any _ (idsT t) a w2 R2.out (by have := HL.out; omega))
    cases hda : decide (a ∈ idsT t) with
    | false =>
      rw [hda] at HA
      clear hda
      go_wp2_with fail
      refine HA.out.mono ?_
      rintro e w3 ⟨rfl, hb3⟩
      have L3 := Lib.hid (L2.out.up hb3)
      clear hb3
      obtain ⟨⟨z0, z1, z2, z3, z4, z5, z6⟩, f0, f1, f2, f3, f4, f5, f6⟩ := zero_parts L3.out.zero
      go_wp2
      (try simp only [Exit.inBlock, Exit.then])
      refine bodyPost_ret (results_c2 rfl _ _ (w.heap.size + 1) zC rfl ((Box7.of_zero L3.out.zero).put zC)) rfl ?_
      rw [HE.out]
      exact sw_err (by decide) L3.out.err
    | true =>
      rw [hda] at HA
      have hdb : decide (b ∈ idsT t) = false := decide_eq_false fun h => HN.out ⟨HTL.out, of_decide_eq_true hda, h⟩
      clear hda
      go_wp2_with fail
      refine HA.out.mono ?_
      rintro e w3 ⟨rfl, hb3⟩
      have L3 := Lib.hid (L2.out.up hb3)
      have HB := Lib.hid (rhasI_any _ (idsT t) b w3 (R2.out.up hb3) (by have := HL.out; omega))
      rw [hdb] at HB
      clear hb3 hdb
      go_wp2_with fail
      refine HB.out.mono ?_
      rintro e w4 ⟨rfl, hb4⟩
      have L4 := Lib.hid (L3.out.up hb4)
      clear hb4
      obtain ⟨⟨z0, z1, z2, z3, z4, z5, z6⟩, f0, f1, f2, f3, f4, f5, f6⟩ := zero_parts L4.out.zero
      go_wp2
      (try simp only [Exit.inBlock, Exit.then])
      refine bodyPost_ret (results_c2 rfl _ _ (w.heap.size + 1) zC rfl ((Box7.of_zero L4.out.zero).put zC)) rfl ?_
      rw [HE.out]
      exact sw_err (by decide) L4.out.err

set_option maxHeartbeats 4000000 in
set_option maxRecDepth 100000 in
theorem rtwo_yes (t : T) (c : C) (a b : Int) (w : World) (hm : sz t ≤ 20000) (hi : Is w c t) (hfa : fits a) (hfb : fits b) (ht : tileB t = true) (ha : a ∈ idsT t) (hb : b ∈ idsT t) :
    Calls Try.prog 10 #[cval c, .int .i64 a, .int .i64 b] w (SwSays (twE t a b) (twT t a b) .i64 w) := by
  have L0 := Lib.hid (SSt.start w c)
  have HT := Lib.hid (rtiles8_any t c (freshW w c) (L0.out.is hi) hm)
  have HI := Lib.hid hi
  have HM := Lib.hid hm
  have HE := Lib.hid (tw_yes ht ⟨ha, hb⟩)
  have HF := Lib.hid (twL_fit hfa hfb hi.ids)
  have hda : decide (a ∈ idsT t) = true := decide_eq_true ha
  have hdb : decide (b ∈ idsT t) = true := decide_eq_true hb
  rw [ht] at HT
  clear hi hm ha hb ht hfa hfb
  obtain ⟨c0, c1, c2, c3, c4, c5, c6⟩ := c7_of L0.out.box.cat
  go_enter Try.func10, Try.ntmps10
  go_wp2_with fail
  refine HT.out.mono ?_
  rintro e w1 ⟨rfl, hb1⟩
  have L1 := Lib.hid (L0.out.up hb1)
  clear hb1 c0 c1 c2 c3 c4 c5 c6 HT
  have HIDS := Lib.hid (rids_any t c w1 (by have := HM.out; omega) (L1.out.is HI.out))
  obtain ⟨c0, c1, c2, c3, c4, c5, c6⟩ := c7_of L1.out.box.cat
  go_wp2_with fail
  refine HIDS.out.mono ?_
  rintro e w2 ⟨v2, rfl, ho2, hb2⟩
  have L2 := Lib.hid (L1.out.up hb2)
  have R2 := Lib.hid ho2.row
  obtain ⟨a2, cap2, rfl⟩ := row_shape ho2.row
  clear ho2 hb2 c0 c1 c2 c3 c4 c5 c6 HIDS
  have HL : Hid ((idsT t).length ≤ 20000) := Lib.hid (by rw [ids_len]; have := lv_sz t; have := HM.out; omega)
  have HA := Lib.hid (rhasI_any _ (idsT t) a w2 R2.out (by have := HL.out; omega))
  rw [hda] at HA
  go_wp2_with fail
  refine HA.out.mono ?_
  rintro e w3 ⟨rfl, hb3⟩
  have L3 := Lib.hid (L2.out.up hb3)
  have R3 := Lib.hid (R2.out.up hb3)
  have HB := Lib.hid (rhasI_any _ (idsT t) b w3 R3.out (by have := HL.out; omega))
  rw [hdb] at HB
  clear hb3 hdb hda HA R2
  go_wp2_with fail
  refine HB.out.mono ?_
  rintro e w4 ⟨rfl, hb4⟩
  have L4 := Lib.hid (L3.out.up hb4)
  have R4 := Lib.hid (R3.out.up hb4)
  have HO4 := Lib.hid (OwnI.empty w4 w4.heap.size (Nat.le_refl _))
  have HB4 : Hid (Below w4.heap.size w4 (w4.alloc (.cells #[] 3))) := Lib.hid ((Below.refl _ _).alloc (Nat.le_refl _) _)
  have HPT : Hid (twT t a b = nmT (twL a b (idsT t)) t) := Lib.hid rfl
  have HLV : Hid ((twL a b (idsT t)).length = lvT t) := Lib.hid (tw_lv t a b)
  clear hb4 R3 HB
  generalize hids : idsT t = l at R4 HL HPT HLV HF ⊢
  clear hids
  go_wp2
  go_loopg [9, 31] (l.length + 1) (fun g v i wr => ∃ (k : Nat), g + k = l.length + 1 ∧ k ≤ l.length ∧ i = .int .i64 k ∧ OwnI wr w4.heap.size v (twL a b (l.take k)) ∧ Below w4.heap.size w4 wr)
  case atStart => exact ⟨0, by omega, by omega, rfl, by simpa [twL] using HO4.out, HB4.out⟩
  case round =>
    obtain ⟨k, hg, hk, rfl, hown, hbr⟩ := hrel
    have HG := Lib.hid hg
    have HO := Lib.hid hown
    have HBR := Lib.hid hbr
    clear hg hown hbr
    by_cases hlt : k < l.length
    · obtain ⟨bi, oi, rfl, hf⟩ := int_at R4.out (by omega)
      obtain ⟨p, hp⟩ : ∃ p, l[k]? = some p := ⟨_, List.getElem?_eq_getElem hlt⟩
      have e0 := (HBR.out.cell (lt_of_cell (hf k p hp))).trans (hf k p hp)
      have HST := Lib.hid (twL_step (a := a) (b := b) hp)
      have HCL : Hid ((twL a b (l.take k)).length + [tw1 a b p].length ≤ 1954687338211) := Lib.hid (by
        rw [twL_len]; have h3 : (l.take k).length ≤ k := List.length_take_le _ _; have := HL.out; simp; omega)
      have A1 : Hid (OwnI (wr.alloc (.cells #[.int .i64 (tw1 a b p)] 3)) w4.heap.size u9 (twL a b (l.take k))) := Lib.hid (HO.out.up ((Below.refl _ _).alloc (Nat.le_refl _) _))
      have A2 : Hid (Below w4.heap.size w4 (wr.alloc (.cells #[.int .i64 (tw1 a b p)] 3))) := Lib.hid (HBR.out.alloc (by have := HBR.out.size; omega) _)
      have A3 : Hid (Row (wr.alloc (.cells #[.int .i64 (tw1 a b p)] 3)) (.slice (some ⟨wr.heap.size, 0, none⟩) 1 1) (ints [tw1 a b p])) := Lib.hid (row_one wr (.int .i64 (tw1 a b p)) 3)
      have hcase : ((p == a) = true ∧ tw1 a b p = b) ∨ ((p == a) = false ∧ (p == b) = true ∧ tw1 a b p = a) ∨ ((p == a) = false ∧ (p == b) = false ∧ tw1 a b p = p) := by
        unfold tw1
        by_cases h1 : p = a
        · exact .inl ⟨by simpa using h1, if_pos h1⟩
        · by_cases h2 : p = b
          · exact .inr (.inl ⟨by simpa using h1, by simpa using h2, by rw [if_neg h1, if_pos h2]⟩)
          · exact .inr (.inr ⟨by simpa using h1, by simpa using h2, by rw [if_neg h1, if_neg h2]⟩)
      clear hf hp
      rcases hcase with ⟨d1, hv⟩ | ⟨d1, d2, hv⟩ | ⟨d1, d2, hv⟩
      all_goals
        rw [hv] at HST HCL A1 A2 A3
        clear hv
        go_wp2_with (at_builtin; refine wpList_append_ints rfl _ _ rfl w4.heap.size u9 _ (twL a b (l.take k)) [_] rfl A1.out rfl A3.out (by simp) HCL.out w4 A2.out (Nat.le_refl _) ?_; intro g cap3 w5 hown5 hb5 hgr5 hpl5)
        have HO5 := Lib.hid hown5
        have HB5 := Lib.hid hb5
        clear hown5 hb5 hgr5 hpl5
        go_wp2
        go_roundg (gk - 1)
        case measure => have := HG.out; omega
        case rel =>
          have h9 := HL.out
          refine ⟨k + 1, by have := HG.out; omega, by omega, by have e : wrap64 ((k : Int) + 1) = ((k + 1 : Nat) : Int) := (by rw [← wrapE, wrap_id (by omega)]; omega); first | exact congrArg _ e | (rw [e]) | (simp only [IntKind.wrap_i64, e]), ?_, HB5.out⟩
          rw [HST.out]
          simpa using HO5.out
    · obtain rfl : k = l.length := by omega
      have hkl : ((l.length : Int) < (l.length : Int)) = False := by simp
      have L5 := Lib.hid (L4.out.up HBR.out)
      have HO6 : Hid (OwnI wr w4.heap.size u9 (twL a b l)) := Lib.hid (by simpa [List.take_of_length_le] using HO.out)
      have HN := Lib.hid (rnameS_any t c u9 (twL a b l) wr (by have := HM.out; omega) (L5.out.is HI.out) HO6.out.cutt (by have := HLV.out; omega) HF.out)
      obtain ⟨c0, c1, c2, c3, c4, c5, c6⟩ := c7_of L5.out.box.cat
      go_wp2_with fail
      refine HN.out.mono ?_
      rintro e w6 ⟨d, rfl, hd, hb6⟩
      have F6 := Lib.hid hd
      have B6 := Lib.hid hb6
      have L6 := Lib.hid (L5.out.up hb6)
      clear hd hb6 c0 c1 c2 c3 c4 c5 c6 HN
      obtain ⟨⟨z0, z1, z2, z3, z4, z5, z6⟩, f0, f1, f2, f3, f4, f5, f6⟩ := zero_parts L6.out.zero
      go_wp2
      (try simp only [Exit.inBlock, Exit.then])
      refine bodyPost_ret (results_c2 rfl _ _ (w.heap.size + 1) d rfl ((Box7.of_zero L6.out.zero).put d)) rfl ?_
      rw [HE.out, HPT.out]
      exact sst_ok rfl L5.out F6.out B6.out
theorem rtwo_any (t : T) (c : C) (a b : Int) (w : World) (hm : sz t ≤ 20000) (hi : Is w c t) (hfa : fits a) (hfb : fits b) :
    Calls Try.prog 10 #[cval c, .int .i64 a, .int .i64 b] w (SwSays (twE t a b) (twT t a b) .i64 w) := by
  by_cases h : tileB t = true ∧ a ∈ idsT t ∧ b ∈ idsT t
  · exact rtwo_yes t c a b w hm hi hfa hfb h.1 h.2.1 h.2.2
  · exact rtwo_no t c a b w hm hi h
end Go.Proofs.Ytakofjbjciljjaa
/- All leaves go round: the document's answer. -/
namespace Go.Proofs.Ytakofjbjciljjaa
open Go.RowKit

theorem rd_step {n : Nat} (hn : 0 < n) (by_ : Int) (k : Nat) : ((k : Int) - by_.tmod (n : Int)).tmod (n : Int) = (rdAt n by_ k : Int) ∨ ((k : Int) - by_.tmod (n : Int)).tmod (n : Int) < 0 ∧ -(n : Int) < ((k : Int) - by_.tmod (n : Int)).tmod (n : Int) ∧ ((k : Int) - by_.tmod (n : Int)).tmod (n : Int) + n = (rdAt n by_ k : Int) := by
  obtain ⟨h1, h2, h3⟩ := tmod_round hn ((k : Int) - by_.tmod (n : Int))
  have h4 := h3 0
  rw [Int.zero_add, Int.zero_add] at h4
  have h5 : ((k : Int) - by_.tmod (n : Int)) % (n : Int) = ((k : Int) - by_) % (n : Int) := by
    have g := Int.mul_tdiv_add_tmod by_ n
    rw [show (k : Int) - by_.tmod (n : Int) = (k : Int) - by_ + (n : Int) * by_.tdiv (n : Int) by omega, Int.add_mul_emod_self_left]
  rw [h5] at h4
  have h6 := rdAt_is hn by_ k
  rw [← h6] at h4
  generalize ((k : Int) - by_.tmod (n : Int)).tmod (n : Int) = s at h1 h2 h4 ⊢
  have h7 := rdAt_lt hn by_ k
  by_cases hs : s < 0
  · rw [Int.emod_eq_of_lt (by omega) (by omega)] at h4
    exact .inr ⟨hs, h1, h4⟩
  · rw [Int.add_emod_right, Int.emod_eq_of_lt (by omega) (by omega)] at h4
    exact .inl h4
theorem rdL_step {by_ : Int} {l : List Int} {k : Nat} {p : Int} (hk : k < l.length) (h : l[rdAt l.length by_ k]? = some p) : (rdL by_ l).take (k + 1) = (rdL by_ l).take k ++ [p] := by
  rw [List.take_add_one, rdL_get hk, h]; rfl
theorem rd_bad {t : T} (ht : tileB t = false) : rdE t = 1 := if_neg (by rw [ht]; decide)

set_option maxHeartbeats 4000000 in
set_option maxRecDepth 100000 in
theorem rround_any (t : T) (c : C) (by_ : Int) (w : World) (hm : sz t ≤ 20000) (hi : Is w c t) :
    Calls Try.prog 13 #[cval c, .int .i64 by_] w (SwSays (rdE t) (rdT t by_) .i64 w) := by
  have L0 := Lib.hid (SSt.start w c)
  have HT := Lib.hid (rtiles8_any t c (freshW w c) (L0.out.is hi) hm)
  have HI := Lib.hid hi
  have HM := Lib.hid hm
  have HF : Hid (∀ m ∈ rdL by_ (idsT t), fits m) := Lib.hid fun m hm => hi.ids m (rdL_mem m hm)
  clear hi hm
  obtain ⟨c0, c1, c2, c3, c4, c5, c6⟩ := c7_of L0.out.box.cat
  go_enter Try.func13, Try.ntmps13
  go_wp2_with fail
  refine HT.out.mono ?_
  rintro e w1 ⟨rfl, hb1⟩
  have L1 := Lib.hid (L0.out.up hb1)
  clear hb1 c0 c1 c2 c3 c4 c5 c6 HT
  cases ht : tileB t with
  | false =>
    have HE := Lib.hid (rd_bad ht)
    clear ht
    obtain ⟨⟨z0, z1, z2, z3, z4, z5, z6⟩, f0, f1, f2, f3, f4, f5, f6⟩ := zero_parts L1.out.zero
    go_wp2
    (try simp only [Exit.inBlock, Exit.then])
    refine bodyPost_ret (results_c2 rfl _ _ (w.heap.size + 1) zC rfl ((Box7.of_zero L1.out.zero).put zC)) rfl ?_
    rw [HE.out]
    exact sw_err (by decide) L1.out.err
  | true =>
    have HE : Hid (rdE t = 0) := Lib.hid (if_pos ht)
    have HIDS := Lib.hid (rids_any t c w1 (by have := HM.out; omega) (L1.out.is HI.out))
    clear ht
    obtain ⟨c0, c1, c2, c3, c4, c5, c6⟩ := c7_of L1.out.box.cat
    go_wp2_with fail
    refine HIDS.out.mono ?_
    rintro e w4 ⟨v4, rfl, ho4, hb4⟩
    have L4 := Lib.hid (L1.out.up hb4)
    have R4 := Lib.hid ho4.row
    obtain ⟨a4, cap4, rfl⟩ := row_shape ho4.row
    clear ho4 hb4 c0 c1 c2 c3 c4 c5 c6 HIDS
    have HL : Hid ((idsT t).length ≤ 20000) := Lib.hid (by rw [ids_len]; have := lv_sz t; have := HM.out; omega)
    have HO4 := Lib.hid (OwnI.empty w4 w4.heap.size (Nat.le_refl _))
    have HB4 : Hid (Below w4.heap.size w4 (w4.alloc (.cells #[] 3))) := Lib.hid ((Below.refl _ _).alloc (Nat.le_refl _) _)
    have HPT : Hid (rdT t by_ = nmT (rdL by_ (idsT t)) t) := Lib.hid rfl
    have HLV : Hid ((rdL by_ (idsT t)).length = lvT t) := Lib.hid (rd_lv t by_)
    generalize hids : idsT t = l at R4 HL HPT HLV HF ⊢
    clear hids
    go_wp2
    go_loopg [7, 19] (l.length + 1) (fun g v i wr => ∃ (k : Nat), g + k = l.length + 1 ∧ k ≤ l.length ∧ i = .int .i64 k ∧ OwnI wr w4.heap.size v ((rdL by_ l).take k) ∧ Below w4.heap.size w4 wr)
    case atStart => exact ⟨0, by omega, by omega, rfl, by simpa using HO4.out, HB4.out⟩
    case round =>
      obtain ⟨k, hg, hk, rfl, hown, hbr⟩ := hrel
      have HG := Lib.hid hg
      have HO := Lib.hid hown
      have HBR := Lib.hid hbr
      clear hg hown hbr
      by_cases hlt : k < l.length
      · obtain ⟨bi, oi, rfl, hf⟩ := int_at R4.out (by omega)
        have hq := rdAt_lt (show 0 < l.length by omega) by_ k
        obtain ⟨r1, r2, -⟩ := tmod_round (show 0 < l.length by omega) by_
        have hrd := rd_step (show 0 < l.length by omega) by_ k
        obtain ⟨p, hp⟩ : ∃ p, l[rdAt l.length by_ k]? = some p := ⟨_, List.getElem?_eq_getElem hq⟩
        generalize hq' : rdAt l.length by_ k = q at hp hq hrd
        have e0 := (HBR.out.cell (lt_of_cell (hf q p hp))).trans (hf q p hp)
        have HST := Lib.hid (rdL_step hlt (by rw [hq']; exact hp))
        clear hq'
        have HCL : Hid (((rdL by_ l).take k).length + [p].length ≤ 1954687338211) := Lib.hid (by
          have h3 : ((rdL by_ l).take k).length ≤ k := List.length_take_le _ _; have := HL.out; simp; omega)
        have A1 : Hid (OwnI (wr.alloc (.cells #[.int .i64 p] 3)) w4.heap.size u7 ((rdL by_ l).take k)) := Lib.hid (HO.out.up ((Below.refl _ _).alloc (Nat.le_refl _) _))
        have A2 : Hid (Below w4.heap.size w4 (wr.alloc (.cells #[.int .i64 p] 3))) := Lib.hid (HBR.out.alloc (by have := HBR.out.size; omega) _)
        have A3 : Hid (Row (wr.alloc (.cells #[.int .i64 p] 3)) (.slice (some ⟨wr.heap.size, 0, none⟩) 1 1) (ints [p])) := Lib.hid (row_one wr (.int .i64 p) 3)
        obtain ⟨r, hr⟩ : ∃ r, by_.tmod (l.length : Int) = r := ⟨_, rfl⟩
        rw [hr] at r1 r2 hrd
        have hll := HL.out
        have s0 : ((l.length : Int) == 0) = false := by rw [beq_eq_false_iff_ne]; omega
        have s0' : (l.length == 0) = false := by rw [beq_eq_false_iff_ne]; omega
        have s1 : wrap64 ((k : Int) - r) = (k : Int) - r := by rw [← wrapE]; exact wrap_id (by omega)
        obtain ⟨s, hs⟩ : ∃ s, ((k : Int) - r).tmod (l.length : Int) = s := ⟨_, rfl⟩
        rw [hs] at hrd
        have hqi : (q : Int) < (l.length : Int) := by omega
        have dq : decide ((q : Int) < 0) = false := decide_eq_false (by omega)
        have e9 : wrap64 ((k : Int) + 1) = ((k + 1 : Nat) : Int) := by rw [← wrapE, wrap_id (by omega)]; omega
        clear hf hp
        rcases hrd with rfl | ⟨h1, h2, h3⟩
        · go_wp2_with (at_builtin; refine wpList_append_ints rfl _ _ rfl w4.heap.size u7 _ ((rdL by_ l).take k) [p] rfl A1.out rfl A3.out (by simp) HCL.out w4 A2.out (Nat.le_refl _) ?_; intro g cap3 w5 hown5 hb5 hgr5 hpl5)
          have HO5 := Lib.hid hown5
          have HB5 := Lib.hid hb5
          clear hown5 hb5 hgr5 hpl5
          go_wp2
          go_roundg (gk - 1)
          case measure => have := HG.out; omega
          case rel =>
            refine ⟨k + 1, by have := HG.out; omega, by omega, by first | rfl | exact congrArg _ e9 | (rw [e9]) | (congr 1; omega) | (simp only [IntKind.wrap_i64, e9]), ?_, HB5.out⟩
            rw [HST.out]
            simpa using HO5.out
        · have d1 : decide (s < 0) = true := decide_eq_true h1
          have s2 : wrap64 (s + (l.length : Int)) = (q : Int) := by rw [← wrapE, wrap_id (by omega)]; exact h3
          go_wp2_with (at_builtin; refine wpList_append_ints rfl _ _ rfl w4.heap.size u7 _ ((rdL by_ l).take k) [p] rfl A1.out rfl A3.out (by simp) HCL.out w4 A2.out (Nat.le_refl _) ?_; intro g cap3 w5 hown5 hb5 hgr5 hpl5)
          have HO5 := Lib.hid hown5
          have HB5 := Lib.hid hb5
          clear hown5 hb5 hgr5 hpl5
          go_wp2
          go_roundg (gk - 1)
          case measure => have := HG.out; omega
          case rel =>
            refine ⟨k + 1, by have := HG.out; omega, by omega, by first | rfl | exact congrArg _ e9 | (rw [e9]) | (congr 1; omega) | (simp only [IntKind.wrap_i64, e9]), ?_, HB5.out⟩
            rw [HST.out]
            simpa using HO5.out
      · obtain rfl : k = l.length := by omega
        have hkl : ((l.length : Int) < (l.length : Int)) = False := by simp
        have L5 := Lib.hid (L4.out.up HBR.out)
        have HO6 : Hid (OwnI wr w4.heap.size u7 (rdL by_ l)) := Lib.hid (by simpa [List.take_of_length_le, rdL_len] using HO.out)
        have HN := Lib.hid (rnameS_any t c u7 (rdL by_ l) wr (by have := HM.out; omega) (L5.out.is HI.out) HO6.out.cutt (by have := HLV.out; omega) HF.out)
        obtain ⟨c0, c1, c2, c3, c4, c5, c6⟩ := c7_of L5.out.box.cat
        go_wp2_with fail
        refine HN.out.mono ?_
        rintro e w6 ⟨d, rfl, hd, hb6⟩
        have F6 := Lib.hid hd
        have B6 := Lib.hid hb6
        have L6 := Lib.hid (L5.out.up hb6)
        clear hd hb6 c0 c1 c2 c3 c4 c5 c6 HN
        obtain ⟨⟨z0, z1, z2, z3, z4, z5, z6⟩, f0, f1, f2, f3, f4, f5, f6⟩ := zero_parts L6.out.zero
        go_wp2
        (try simp only [Exit.inBlock, Exit.then])
        refine bodyPost_ret (results_c2 rfl _ _ (w.heap.size + 1) d rfl ((Box7.of_zero L6.out.zero).put d)) rfl ?_
        rw [HE.out, HPT.out]
        exact sst_ok rfl L5.out F6.out B6.out
end Go.Proofs.Ytakofjbjciljjaa
