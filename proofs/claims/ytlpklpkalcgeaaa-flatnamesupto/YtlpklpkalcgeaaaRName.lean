/- The tree in which the leaves have other numbers: the document's walk. -/
import Derived.Test.YtlpklpkalcgeaaaFNameA
import Derived.Deep.RegionHeld3
import Derived.Deep.Cut
import Derived.Deep.Strs
namespace Go.Proofs.Ytlpklpkalcgeaaa
open Go.RowKit

/-- Numbers that can be cut: as many as there is room for. -/
structure Cutt (w : World) (v : Value) (p : List Int) : Prop where
  row : Row w v (ints p)
  cap : ∃ a cap, v = .slice a p.length cap ∧ p.length ≤ cap
theorem Cutt.up {w w' : World} {v : Value} {p : List Int} (h : Cutt w v p) (hb : Below w.heap.size w w') : Cutt w' v p := ⟨h.row.up hb, h.cap⟩
theorem Cutt.drop {w : World} {a : Option Addr} {cap q : Nat} {p : List Int} (h : Cutt w (.slice a p.length cap) p) (hq : q ≤ p.length) (A : Option Addr) (hA : (if cap = q then a else Option.map (fun x => x.add q) a) = A) : Cutt w (.slice A (p.length - q) (cap - q)) (p.drop q) := by
  obtain ⟨⟨a1, cap1, he, h0, hc⟩, a2, cap2, he2, hl⟩ := h
  cases he2
  rw [ints_length] at he
  cases he
  have hlen : (ints (p.drop q)).length = p.length - q := by rw [ints_length, List.length_drop]
  refine ⟨⟨A, cap - q, by rw [hlen], fun hn => ?_, fun x hx j u hu => ?_⟩, A, cap - q, by rw [List.length_drop], by rw [List.length_drop]; omega⟩
  · subst hn
    have ha : a = none := by
      split at hA
      · exact hA
      · simpa using hA
    have := h0 ha
    have hp : p = [] := by have := this.1; simpa [ints] using this
    subst hp
    simp [ints, this.2]
  · subst hx
    have hu' : (ints p)[q + j]? = some u := by
      rw [ints, List.getElem?_map, List.getElem?_drop] at hu
      rw [ints, List.getElem?_map]; exact hu
    split at hA
    · rename_i hcq
      have : q + j < p.length := by have := lt_of_get hu'; rw [ints_length] at this; exact this
      omega
    · cases a with
      | none => simp at hA
      | some ad =>
        simp at hA
        subst hA
        have := hc ad rfl (q + j) u hu'
        rw [Go.Deep.add_add]; exact this

abbrev Oct (n : Nat) (s : Value) (bb oo : Nat) (y : C) (W : World) : Prop := W.cell? ⟨n, 6, none⟩ = some s ∧ W.cell? ⟨bb, oo, none⟩ = some (.int .u8 y.k) ∧ W.cell? ⟨bb, oo + 1, none⟩ = some (.int .i64 y.r.x) ∧ W.cell? ⟨bb, oo + 2, none⟩ = some (.int .i64 y.r.y) ∧ W.cell? ⟨bb, oo + 3, none⟩ = some (.int .i64 y.r.w) ∧ W.cell? ⟨bb, oo + 4, none⟩ = some (.int .i64 y.r.h) ∧ W.cell? ⟨bb, oo + 5, none⟩ = some (.int .i64 y.id) ∧ W.cell? ⟨bb, oo + 6, none⟩ = some (.slice y.a y.n y.cap)
theorem oct_agree {n : Nat} {s : Value} {bb oo : Nat} {y : C} {W W' : World} (h : Oct n s bb oo y W) (hk : ∀ b, b = n ∨ b = bb → W'.heap[b]? = W.heap[b]?) : Oct n s bb oo y W' := by
  obtain ⟨h0, h1, h2, h3, h4, h5, h6, h7⟩ := h
  have e : ∀ (b o : Nat), (b = n ∨ b = bb) → W'.cell? ⟨b, o, none⟩ = W.cell? ⟨b, o, none⟩ := fun b o hb => World.cell?_of_block (a := ⟨b, o, none⟩) (hk b hb)
  exact ⟨(e _ _ (by simp)).trans h0, (e _ _ (by simp)).trans h1, (e _ _ (by simp)).trans h2, (e _ _ (by simp)).trans h3, (e _ _ (by simp)).trans h4, (e _ _ (by simp)).trans h5, (e _ _ (by simp)).trans h6, (e _ _ (by simp)).trans h7⟩
theorem oct_up {n : Nat} {s : Value} {bb oo : Nat} {y : C} {W W' : World} (h : Oct n s bb oo y W) (hb : Below W.heap.size W W') : Oct n s bb oo y W' := oct_agree h fun b hh => hb.block b (by
  have a0 := lt_of_cell h.1
  have a1 := lt_of_cell h.2.1
  simp only at a0 a1
  omega)
theorem oct_alloc {n : Nat} {s : Value} {bb oo : Nat} {y : C} {W : World} {o : Obj} (h : Oct n s bb oo y W) : Oct n s bb oo y (W.alloc o) := oct_up h ((Below.refl _ _).alloc (Nat.le_refl _) _)
theorem oct_put {n : Nat} {s : Value} {bb oo : Nat} {y d : C} {W : World} {b : Nat} (h : Oct n s bb oo y W) (h1 : n ≠ b) (h2 : bb ≠ b) : Oct n s bb oo y (put7 W b d) := oct_agree h fun i hi => heap_put7 (by omega)

/-- What is there behind the inner call. -/
structure Aft (wr W : World) (d : C) (bk : Nat) (u : T) (S : List Nat) : Prop where
  below : Below wr.heap.size wr W
  box : Box7 W bk d
  own : OwnT W wr.heap.size d u S
  nodup : S.Nodup
theorem aft_one {wr w3 w5 : World} {d : C} {u : T} {S : List Nat} (h3 : Below wr.heap.size wr w3) (h5 : Below w3.heap.size w3 w5) (hd : OwnT w5 w3.heap.size d u S) (hn : S.Nodup) : Aft wr (w5.alloc (cbox d)) d w5.heap.size u S := by
  have ha : Below w5.heap.size w5 (w5.alloc (cbox d)) := (Below.refl _ _).alloc (Nat.le_refl _) _
  have h6 := h5.trans (ha.mono h5.size)
  exact ⟨h3.trans (h6.mono h3.size), Box7.new w5 d, (hd.up ha).lower h3.size, hn⟩
theorem aft_two {wr w3 w5 : World} {d : C} {u : T} {S : List Nat} (h3 : Below wr.heap.size wr w3) (hs : w3.heap.size = wr.heap.size + 1) (hz : Zero7 w3 wr.heap.size) (h5 : Below w3.heap.size w3 w5) (hd : OwnT w5 w3.heap.size d u S) (hn : S.Nodup) : Aft wr (put7 w5 wr.heap.size d) d wr.heap.size u S :=
  ⟨below_put7 (h3.trans (h5.mono h3.size)) (Nat.le_refl _) d, (Box7.of_zero (zero_up hz h5)).put d, (hd.frame fun k hk => heap_put7 (by have := (hd.ge k hk).1; omega)).lower (by omega), hn⟩

theorem Forest.empty (w : World) (base : Nat) (hb : base ≤ w.heap.size) : Forest (w.alloc (.cells #[] 26)) base (.slice (some ⟨w.heap.size, 0, none⟩) 0 0) [] [] [] := ⟨OwnC.empty w base hb, rfl, rfl, fun j x t S hx => by simp at hx, List.nodup_nil, fun g hg => by simp⟩

def RNameSays (ms : List Int) (t : T) (w : World) (e : Ending) (w' : World) : Prop := ∃ d S, e = .returned (.tuple #[cval d, .int .i64 ((lvT t : Nat) : Int)]) ∧ OwnT w' w.heap.size d (nmT ms t) S ∧ S.Nodup ∧ Below w.heap.size w w'

set_option maxRecDepth 100000 in
set_option maxHeartbeats 4000000 in
theorem rname_any (N : Nat) : ∀ (t : T) (c : C) (v : Value) (ms : List Int) (w : World), sz t ≤ N → lvT t ≤ 900000 → Is w c t → Cutt w v ms → lvT t ≤ ms.length → (∀ m ∈ ms, fits m) → Calls Try.prog 18 #[cval c, v] w (RNameSays ms t w) := by
  induction N with
  | zero => intro t c v ms w h; have := sz_pos t; omega
  | succ N ih =>
    intro t c v ms w hs hlv hi hp hml hfit
    obtain ⟨a, cap, rfl, hcap⟩ := hp.cap
    have HFINE := Lib.hid hi.fine
    have HR := Lib.hid hi.row
    have HSP := Lib.hid hi.split
    have HP := Lib.hid hp
    have HFT := Lib.hid hfit
    have hn := hi.n
    have hfn := hi.len
    have htk := hi.split.1
    obtain ⟨ck, cr, cid, ca, cn, ccap⟩ := c
    simp only at hn htk
    subst hn
    clear hi hp hfit
    have HS := Lib.hid hs
    have HIH := Lib.hid ih
    clear hs ih
    have BX : Hid (Box7 (freshW w ⟨ck, cr, cid, ca, t.kids.length, ccap⟩) w.heap.size ⟨ck, cr, cid, ca, t.kids.length, ccap⟩) := Lib.hid ((Box7.new w _).up ((Below.refl _ _).alloc (Nat.le_refl _) _))
    have ZX : Hid (Zero7 (freshW w ⟨ck, cr, cid, ca, t.kids.length, ccap⟩) (w.heap.size + 1)) := Lib.hid (by
      have := zero_new (w.alloc (cbox ⟨ck, cr, cid, ca, t.kids.length, ccap⟩))
      simpa using this)
    have BW : Hid (Below w.heap.size w (freshW w ⟨ck, cr, cid, ca, t.kids.length, ccap⟩)) := ((Below.refl _ _).alloc (Nat.le_refl _) _).alloc (by simp) _
    have SW : Hid ((freshW w ⟨ck, cr, cid, ca, t.kids.length, ccap⟩).heap.size = w.heap.size + 2) := Lib.hid (by simp)
    cases hk1 : (ck == 1) with
    | false =>
      have hk : ck ≠ 1 := by simpa using hk1
      have hlve : lvT t = 0 + lvL t.kids := by rw [lvT_eq, htk, if_neg hk]
      have HNM : Hid (nmT ms t = .node ck cr cid (nmL (ms.drop 0) t.kids)) := Lib.hid (by
        obtain ⟨e1, e2, e3, -⟩ := HSP.out
        rw [nmT_eq, e1, e2, e3, if_neg hk, if_neg hk])
      have hmfit : fits cid := HFINE.out.2.2.1
      go_enter Try.func18, Try.ntmps18
      go_upto_region 5 with fail
      have BX1 := BX
      have ZX1 := ZX
      have BW1 := BW
      have SW1 := SW
      change Code.wp _ _ _ _ (freshW w ⟨ck, cr, cid, ca, t.kids.length, ccap⟩)
      clear BX ZX BW SW
      generalize freshW w ⟨ck, cr, cid, ca, t.kids.length, ccap⟩ = W1 at BX1 ZX1 BW1 SW1 ⊢
      have A2 : Hid (Below W1.heap.size W1 (W1.alloc (.cells #[] 26))) := Lib.hid ((Below.refl _ _).alloc (Nat.le_refl _) _)
      have FE := Lib.hid (Forest.empty W1 (w.heap.size + 2) (by have := SW1.out; omega))
      have BX2 := Lib.hid (BX1.out.up A2.out)
      have ZX2 := Lib.hid (zero_up ZX1.out A2.out)
      have BW2 := Lib.hid (BW1.out.trans (A2.out.mono BW1.out.size))
      have SW2 : Hid ((W1.alloc (.cells #[] 26)).heap.size = w.heap.size + 3) := Lib.hid (by have h := SW1.out; simp [h])
      have hsw := SW1.out
      have q6 := BX2.out.cat.2.2.2.2.2.2
      simp only [Nat.zero_add] at q6
      go_upto_region 6 with fail
      change Code.wp _ _ _ _ (W1.alloc (.cells #[] 26))
      rw [hsw] at FE
      clear hsw
      generalize W1.alloc (.cells #[] 26) = W2 at FE BX2 ZX2 BW2 SW2 q6 ⊢
      clear A2 BX1 ZX1 BW1 SW1
      go_wp2
      go_loopg [6, 7, 22] (t.kids.length + 1) (fun g nq v i wr => ∃ (k q : Nat) (cs : List C) (Ss : List (List Nat)), g + k = t.kids.length + 1 ∧ k ≤ t.kids.length ∧ i = .int .i64 k ∧ q = 0 + lvL (t.kids.take k) ∧ nq = .int .i64 (q : Int) ∧ Forest wr (w.heap.size + 2) v cs (nmL (ms.drop 0) (t.kids.take k)) Ss ∧ Below (w.heap.size + 2) W2 wr)
      case atStart => exact ⟨0, 0, [], [], by omega, by omega, rfl, by simp [lvL], rfl, by simpa [nmL] using FE.out, Below.refl _ _⟩
      case round =>
        obtain ⟨k, q, cs, Ss, hg, hk, rfl, hq, rfl, hfo, hb⟩ := hrel
        have HG := Lib.hid hg
        have HF := Lib.hid hfo
        have HB := Lib.hid hb
        have HQ := Lib.hid hq
        clear hg hfo hb hq q6
        have BXr : Hid (Box7 wr w.heap.size ⟨ck, cr, cid, ca, t.kids.length, ccap⟩) := Lib.hid ((HB.out.block _ (by omega)).trans BX2.out)
        have ZXr : Hid (Zero7 wr (w.heap.size + 1)) := Lib.hid ((HB.out.block _ (by omega)).trans ZX2.out)
        have HBW : Hid (Below w.heap.size w wr) := Lib.hid (BW2.out.trans (HB.out.mono (by omega)))
        have SWr : Hid (w.heap.size + 3 ≤ wr.heap.size) := Lib.hid (by have := HB.out.size; have := SW2.out; omega)
        have q6 := BXr.out.cat.2.2.2.2.2.2
        simp only [Nat.zero_add] at q6
        by_cases hlt : k < t.kids.length
        · have hlti : (k : Int) < (t.kids.length : Int) := by omega
          obtain ⟨bb, o, rfl, hf⟩ := HR.out.place (by omega)
          obtain ⟨u, hu⟩ : ∃ u, t.kids[k]? = some u := ⟨_, List.getElem?_eq_getElem hlt⟩
          obtain ⟨y, hy, hiy⟩ := hf k u hu
          clear hf
          have hbl : bb < w.heap.size := hy.lt
          have hlu := lvL_at hu
          have hql : q ≤ ms.length := by have := HQ.out; omega
          have X3 : Hid (Oct w.heap.size (.slice (some ⟨bb, o, none⟩) t.kids.length ccap) bb (o + k * 7) y wr.drew) := Lib.hid (by
            obtain ⟨e0, e1, e2, e3, e4, e5, e6⟩ := hy.up HBW.out
            exact ⟨q6, e0, e1, e2, e3, e4, e5, e6⟩)
          have HIY := Lib.hid (hiy.up HBW.out)
          have HST := Lib.hid (nmL_step (ms := ms.drop 0) hu)
          have HLS := Lib.hid (lvL_step hu)
          have HSU := Lib.hid (show sz u ≤ N by have := HS.out; have := sz_kid hu; omega)
          have hlu2 : lvT u ≤ 900000 := by omega
          have HLU := Lib.hid (show lvT u ≤ (ms.drop q).length by rw [List.length_drop]; have := HQ.out; omega)
          have HDD : Hid ((ms.drop 0).drop (lvL (t.kids.take k)) = ms.drop q) := Lib.hid (by rw [List.drop_drop, HQ.out])
          clear hy hiy hu
          obtain ⟨A, hA⟩ : ∃ A : Option Addr, (if cap = q then a else Option.map (fun x => x.add q) a) = A := ⟨_, rfl⟩
          have HCU := Lib.hid ((HP.out.up HBW.out).drop hql A hA)
          have HK := Lib.hid (fun W (hW : Below wr.heap.size wr W) => HIH.out u y (.slice A (ms.length - q) (cap - q)) (ms.drop q) W HSU.out hlu2 (HIY.out.up hW) (HCU.out.up hW) HLU.out (fun m hm => HFT.out m (List.mem_of_mem_drop hm)))
          have l1 : (0 : Int) ≤ (q : Int) := by omega
          have l2 : (q : Int) ≤ (ms.length : Int) := by omega
          have l3 : q ≤ ms.length := hql
          have BD : Hid (Below wr.heap.size wr wr.drew) := Lib.hid (Below.refl _ wr).drew
          have BZ : Hid (Below wr.heap.size wr (wr.alloc zeroBox).drew) := Lib.hid ((Below.refl _ wr).alloc (Nat.le_refl _) _).drew
          have XZ : Hid (Oct w.heap.size (.slice (some ⟨bb, o, none⟩) t.kids.length ccap) bb (o + k * 7) y (wr.alloc zeroBox).drew) := Lib.hid (oct_up (W := wr) X3.out BZ.out)
          have KZ : Hid (Zero7 (wr.alloc zeroBox).drew wr.heap.size) := Lib.hid (show Zero7 (wr.alloc zeroBox) wr.heap.size from zero_new wr)
          have hsZ : Hid ((wr.alloc zeroBox).drew.heap.size = wr.heap.size + 1) := Lib.hid (show (wr.alloc zeroBox).heap.size = wr.heap.size + 1 by simp)
          have n1 : w.heap.size ≠ wr.heap.size := by have := SWr.out; omega
          have n2 : bb ≠ wr.heap.size := by have := SWr.out; omega
          clear q6
          go_wp2
          go_region_held3 (fun W => W.cell? ⟨w.heap.size, 6, none⟩ = some (.slice (some ⟨bb, o, none⟩) t.kids.length ccap) ∧ W.cell? ⟨bb, o + k * 7, none⟩ = some (.int .u8 y.k) ∧ W.cell? ⟨bb, o + k * 7 + 1, none⟩ = some (.int .i64 y.r.x) ∧ W.cell? ⟨bb, o + k * 7 + 2, none⟩ = some (.int .i64 y.r.y) ∧ W.cell? ⟨bb, o + k * 7 + 3, none⟩ = some (.int .i64 y.r.w) ∧ W.cell? ⟨bb, o + k * 7 + 4, none⟩ = some (.int .i64 y.r.h) ∧ W.cell? ⟨bb, o + k * 7 + 5, none⟩ = some (.int .i64 y.id) ∧ W.cell? ⟨bb, o + k * 7 + 6, none⟩ = some (.slice y.a y.n y.cap)) (first | with_reducible exact X3.out | with_reducible exact XZ.out | with_reducible exact X5.out | with_reducible exact oct_alloc X5.out | with_reducible exact oct_put X5.out n1 n2)
            (first
              | (go_at_call 18; (with_reducible refine (HK.out wr.drew BD.out).mono ?_); rintro e w5 ⟨d, S5, rfl, hd5, hn5, hb5⟩; have P5 := Lib.hid (aft_one BD.out hb5 hd5 hn5); have X5 := Lib.hid (oct_up X3.out hb5); have NO := Lib.hid True.intro; clear hd5 hn5 hb5)
              | (go_at_call 18; (with_reducible refine (HK.out (wr.alloc zeroBox).drew BZ.out).mono ?_); rintro e w5 ⟨d, S5, rfl, hd5, hn5, hb5⟩; have P5 := Lib.hid (aft_two BZ.out hsZ.out KZ.out hb5 hd5 hn5); have X5 := Lib.hid (oct_up XZ.out hb5); have Z5 := Lib.hid (zero_up KZ.out hb5); obtain ⟨⟨z0, z1, z2, z3, z4, z5, z6⟩, f0, f1, f2, f3, f4, f5, f6⟩ := zero_parts Z5.out; clear hd5 hn5 hb5))
          all_goals first
            | (have Z5' := Z5; change Exit.then _ _ _ _ (put7 w5 wr.heap.size d); clear z0 z1 z2 z3 z4 z5 z6 f0 f1 f2 f3 f4 f5 f6 Z5 Z5' X5 X3 XZ KZ; generalize put7 w5 wr.heap.size d = W6 at P5 ⊢)
            | (have NO' := NO; change Exit.then _ _ _ _ (w5.alloc (cbox d)); clear X5 X3 XZ KZ; generalize w5.alloc (cbox d) = W6 at P5 ⊢; generalize w5.heap.size = bk at P5 ⊢)
          all_goals
            obtain ⟨d0, d1, d2, d3, d4, d5, d6⟩ := P5.out.box.cat
            simp only [Nat.zero_add] at d1 d2 d3 d4 d5 d6
            have AB : Hid (Below wr.heap.size wr (W6.alloc (cbox d))) := Lib.hid (P5.out.below.alloc P5.out.below.size _)
            have HLN : Hid (cs.length + [d].length ≤ 1954687338211) := Lib.hid (by have := HF.out.len; rw [nmL_length, List.length_take] at this; simp; omega)
            have FO := Lib.hid (HF.out.row.up AB.out)
            have BB : Hid (Below (w.heap.size + 2) W2 (W6.alloc (cbox d))) := Lib.hid (HB.out.trans (AB.out.mono (by have := SWr.out; omega)))
            have s1 : IntKind.i64.wrap ((q : Int) + ((lvT u : Nat) : Int)) = (q : Int) + ((lvT u : Nat) : Int) := wrap_id (by have := HQ.out; omega)
            go_wp2_with (at_builtin; refine wpList_append_cells rfl _ _ rfl (w.heap.size + 2) u7 _ cs [d] rfl FO.out rfl (OwnC.one W6 0 (Nat.zero_le _) d).row (by simp) HLN.out W2 BB.out (by have := SW2.out; omega) ?_; intro g cap3 w8 hown8 hb8 hgr8 hpl8)
            have HF8 := Lib.hid (HF.out.add P5.out.below P5.out.own P5.out.nodup (Nat.le_refl _) (by have := SWr.out; omega) hown8 hgr8 hpl8)
            have B8 := Lib.hid hb8
            clear hown8 hb8 hgr8 hpl8
            go_wp2
            go_roundg (gk - 1)
            case measure => have := HG.out; omega
            case rel =>
              refine ⟨k + 1, q + lvT u, cs ++ [d], Ss ++ [S5], by have := HG.out; omega, by omega, by go_num, by rw [HLS.out, HQ.out]; omega, by go_num, ?_, B8.out⟩
              rw [HST.out, HDD.out]
              simpa using HF8.out
        · obtain rfl : k = t.kids.length := by omega
          have hkl : ((t.kids.length : Int) < (t.kids.length : Int)) = False := by simp
          have HFA : Hid (Forest wr (w.heap.size + 2) u7 cs (nmL (ms.drop 0) t.kids) Ss) := Lib.hid (by have := HF.out; rw [List.take_length] at this; exact this)
          have HQT : Hid (q = lvT t) := Lib.hid (by have := HQ.out; rw [List.take_length] at this; omega)
          obtain ⟨a', cap', rfl⟩ := HF.out.row.row.shape
          obtain ⟨c0, c1, c2, c3, c4, c5, c6⟩ := BXr.out.cat
          simp only [Nat.zero_add] at c1 c2 c3 c4 c5 c6
          have g6 := BXr.out.free 6
          obtain ⟨⟨z0, z1, z2, z3, z4, z5, z6⟩, f0, f1, f2, f3, f4, f5, f6⟩ := zero_parts ZXr.out
          clear q6
          go_wp2
          (try simp only [Exit.inBlock, Exit.then])
          have hset : (wr.setCell ⟨w.heap.size, 6, none⟩ (.slice a' cs.length cap')).heap[w.heap.size + 1]? = wr.heap[w.heap.size + 1]? := Below.heap_setCell wr ⟨w.heap.size, 6, none⟩ _ _ (by simp)
          have hz2 : Box7 (wr.setCell ⟨w.heap.size, 6, none⟩ (.slice a' cs.length cap')) (w.heap.size + 1) ⟨0, ⟨0, 0, 0, 0⟩, 0, none, 0, 0⟩ := hset.trans ZXr.out
          refine bodyPost_ret (results_cell2 rfl _ _ (w.heap.size + 1) ⟨ck, cr, cid, a', cs.length, cap'⟩ rfl (hz2.put ⟨ck, cr, cid, a', cs.length, cap'⟩)) rfl ?_
          have hend := fresh_end (k := ck) (r := cr) (id := cid) HBW.out (by have := SWr.out; omega) HFA.out HFINE.out.1 HFINE.out.2.1 hmfit (by rw [nmL_length]; exact hfn)
          refine ⟨⟨ck, cr, cid, a', cs.length, cap'⟩, blk (.slice a' cs.length cap') ++ Ss.flatten, by rw [← HQT.out]; rfl, ?_, hend.2.1, hend.2.2⟩
          rw [HNM.out]
          exact hend.1
    | true =>
      have hk : ck = 1 := by simpa using hk1
      subst hk
      have hlve : lvT t = 1 + lvL t.kids := by rw [lvT_eq, htk, if_pos rfl]
      have HNM : Hid (nmT ms t = .node 1 cr (ms.headD 0) (nmL (ms.drop 1) t.kids)) := Lib.hid (by
        obtain ⟨e1, e2, e3, -⟩ := HSP.out
        rw [nmT_eq, e1, e2, if_pos rfl, if_pos rfl])
      obtain ⟨m, ms', hms⟩ : ∃ m ms', ms = m :: ms' := by
        cases ms with
        | nil => simp at hml; omega
        | cons m ms' => exact ⟨m, ms', rfl⟩
      have hm0 : ms[0]? = some m := by rw [hms]; rfl
      have hmd : ms.headD 0 = m := by rw [hms]; rfl
      rw [hmd] at HNM
      have hmfit : fits m := HFT.out m (by rw [hms]; simp)
      obtain ⟨pb, po, rfl, hpf⟩ := int_at HP.out.row (by omega)
      have p0 := hpf 0 m hm0
      rw [Nat.add_zero] at p0
      have hpl : pb < w.heap.size := lt_of_cell p0
      have hpne : pb ≠ w.heap.size := by omega
      have hpne2 : pb ≠ w.heap.size + 1 := by omega
      have p0' := (BW.out.cell hpl).trans p0
      have hmlp : (0 : Int) < (ms.length : Int) := by omega
      clear hpf hk1 hms hm0 hmd
      go_enter Try.func18, Try.ntmps18
      go_upto_region 5 with fail
      have BX1 : Hid (Box7 (freshW w ⟨1, cr, m, ca, t.kids.length, ccap⟩) w.heap.size ⟨1, cr, m, ca, t.kids.length, ccap⟩) := Lib.hid ((Box7.new w _).up ((Below.refl _ _).alloc (Nat.le_refl _) _))
      have ZX1 : Hid (Zero7 (freshW w ⟨1, cr, m, ca, t.kids.length, ccap⟩) (w.heap.size + 1)) := Lib.hid (by
        have := zero_new (w.alloc (cbox ⟨1, cr, m, ca, t.kids.length, ccap⟩))
        simpa using this)
      have BW1 : Hid (Below w.heap.size w (freshW w ⟨1, cr, m, ca, t.kids.length, ccap⟩)) := ((Below.refl _ _).alloc (Nat.le_refl _) _).alloc (by simp) _
      have SW1 : Hid ((freshW w ⟨1, cr, m, ca, t.kids.length, ccap⟩).heap.size = w.heap.size + 2) := Lib.hid (by simp)
      change Code.wp _ _ _ _ (freshW w ⟨1, cr, m, ca, t.kids.length, ccap⟩)
      generalize freshW w ⟨1, cr, m, ca, t.kids.length, ccap⟩ = W1 at BX1 ZX1 BW1 SW1 ⊢
      clear BX ZX BW SW p0 p0'
      generalize hea : (some (⟨pb, po, none⟩ : Addr)) = a at HP ⊢
      clear hea
      have A2 : Hid (Below W1.heap.size W1 (W1.alloc (.cells #[] 26))) := Lib.hid ((Below.refl _ _).alloc (Nat.le_refl _) _)
      have FE := Lib.hid (Forest.empty W1 (w.heap.size + 2) (by have := SW1.out; omega))
      have BX2 := Lib.hid (BX1.out.up A2.out)
      have ZX2 := Lib.hid (zero_up ZX1.out A2.out)
      have BW2 := Lib.hid (BW1.out.trans (A2.out.mono BW1.out.size))
      have SW2 : Hid ((W1.alloc (.cells #[] 26)).heap.size = w.heap.size + 3) := Lib.hid (by have h := SW1.out; simp [h])
      have hsw := SW1.out
      have q6 := BX2.out.cat.2.2.2.2.2.2
      simp only [Nat.zero_add] at q6
      go_upto_region 6 with fail
      change Code.wp _ _ _ _ (W1.alloc (.cells #[] 26))
      rw [hsw] at FE
      clear hsw
      generalize W1.alloc (.cells #[] 26) = W2 at FE BX2 ZX2 BW2 SW2 q6 ⊢
      clear A2 BX1 ZX1 BW1 SW1
      go_wp2
      go_loopg [6, 7, 22] (t.kids.length + 1) (fun g nq v i wr => ∃ (k q : Nat) (cs : List C) (Ss : List (List Nat)), g + k = t.kids.length + 1 ∧ k ≤ t.kids.length ∧ i = .int .i64 k ∧ q = 1 + lvL (t.kids.take k) ∧ nq = .int .i64 (q : Int) ∧ Forest wr (w.heap.size + 2) v cs (nmL (ms.drop 1) (t.kids.take k)) Ss ∧ Below (w.heap.size + 2) W2 wr)
      case atStart => exact ⟨0, 1, [], [], by omega, by omega, rfl, by simp [lvL], rfl, by simpa [nmL] using FE.out, Below.refl _ _⟩
      case round =>
        obtain ⟨k, q, cs, Ss, hg, hk, rfl, hq, rfl, hfo, hb⟩ := hrel
        have HG := Lib.hid hg
        have HF := Lib.hid hfo
        have HB := Lib.hid hb
        have HQ := Lib.hid hq
        clear hg hfo hb hq q6
        have BXr : Hid (Box7 wr w.heap.size ⟨1, cr, m, ca, t.kids.length, ccap⟩) := Lib.hid ((HB.out.block _ (by omega)).trans BX2.out)
        have ZXr : Hid (Zero7 wr (w.heap.size + 1)) := Lib.hid ((HB.out.block _ (by omega)).trans ZX2.out)
        have HBW : Hid (Below w.heap.size w wr) := Lib.hid (BW2.out.trans (HB.out.mono (by omega)))
        have SWr : Hid (w.heap.size + 3 ≤ wr.heap.size) := Lib.hid (by have := HB.out.size; have := SW2.out; omega)
        have q6 := BXr.out.cat.2.2.2.2.2.2
        simp only [Nat.zero_add] at q6
        by_cases hlt : k < t.kids.length
        · have hlti : (k : Int) < (t.kids.length : Int) := by omega
          obtain ⟨bb, o, rfl, hf⟩ := HR.out.place (by omega)
          obtain ⟨u, hu⟩ : ∃ u, t.kids[k]? = some u := ⟨_, List.getElem?_eq_getElem hlt⟩
          obtain ⟨y, hy, hiy⟩ := hf k u hu
          clear hf
          have hbl : bb < w.heap.size := hy.lt
          have hlu := lvL_at hu
          have hql : q ≤ ms.length := by have := HQ.out; omega
          have X3 : Hid (Oct w.heap.size (.slice (some ⟨bb, o, none⟩) t.kids.length ccap) bb (o + k * 7) y wr.drew) := Lib.hid (by
            obtain ⟨e0, e1, e2, e3, e4, e5, e6⟩ := hy.up HBW.out
            exact ⟨q6, e0, e1, e2, e3, e4, e5, e6⟩)
          have HIY := Lib.hid (hiy.up HBW.out)
          have HST := Lib.hid (nmL_step (ms := ms.drop 1) hu)
          have HLS := Lib.hid (lvL_step hu)
          have HSU := Lib.hid (show sz u ≤ N by have := HS.out; have := sz_kid hu; omega)
          have hlu2 : lvT u ≤ 900000 := by omega
          have HLU := Lib.hid (show lvT u ≤ (ms.drop q).length by rw [List.length_drop]; have := HQ.out; omega)
          have HDD : Hid ((ms.drop 1).drop (lvL (t.kids.take k)) = ms.drop q) := Lib.hid (by rw [List.drop_drop, HQ.out])
          clear hy hiy hu
          obtain ⟨A, hA⟩ : ∃ A : Option Addr, (if cap = q then a else Option.map (fun x => x.add q) a) = A := ⟨_, rfl⟩
          have HCU := Lib.hid ((HP.out.up HBW.out).drop hql A hA)
          have HK := Lib.hid (fun W (hW : Below wr.heap.size wr W) => HIH.out u y (.slice A (ms.length - q) (cap - q)) (ms.drop q) W HSU.out hlu2 (HIY.out.up hW) (HCU.out.up hW) HLU.out (fun m hm => HFT.out m (List.mem_of_mem_drop hm)))
          have l1 : (0 : Int) ≤ (q : Int) := by omega
          have l2 : (q : Int) ≤ (ms.length : Int) := by omega
          have l3 : q ≤ ms.length := hql
          have BD : Hid (Below wr.heap.size wr wr.drew) := Lib.hid (Below.refl _ wr).drew
          have BZ : Hid (Below wr.heap.size wr (wr.alloc zeroBox).drew) := Lib.hid ((Below.refl _ wr).alloc (Nat.le_refl _) _).drew
          have XZ : Hid (Oct w.heap.size (.slice (some ⟨bb, o, none⟩) t.kids.length ccap) bb (o + k * 7) y (wr.alloc zeroBox).drew) := Lib.hid (oct_up (W := wr) X3.out BZ.out)
          have KZ : Hid (Zero7 (wr.alloc zeroBox).drew wr.heap.size) := Lib.hid (show Zero7 (wr.alloc zeroBox) wr.heap.size from zero_new wr)
          have hsZ : Hid ((wr.alloc zeroBox).drew.heap.size = wr.heap.size + 1) := Lib.hid (show (wr.alloc zeroBox).heap.size = wr.heap.size + 1 by simp)
          have n1 : w.heap.size ≠ wr.heap.size := by have := SWr.out; omega
          have n2 : bb ≠ wr.heap.size := by have := SWr.out; omega
          clear q6
          go_wp2
          go_region_held3 (fun W => W.cell? ⟨w.heap.size, 6, none⟩ = some (.slice (some ⟨bb, o, none⟩) t.kids.length ccap) ∧ W.cell? ⟨bb, o + k * 7, none⟩ = some (.int .u8 y.k) ∧ W.cell? ⟨bb, o + k * 7 + 1, none⟩ = some (.int .i64 y.r.x) ∧ W.cell? ⟨bb, o + k * 7 + 2, none⟩ = some (.int .i64 y.r.y) ∧ W.cell? ⟨bb, o + k * 7 + 3, none⟩ = some (.int .i64 y.r.w) ∧ W.cell? ⟨bb, o + k * 7 + 4, none⟩ = some (.int .i64 y.r.h) ∧ W.cell? ⟨bb, o + k * 7 + 5, none⟩ = some (.int .i64 y.id) ∧ W.cell? ⟨bb, o + k * 7 + 6, none⟩ = some (.slice y.a y.n y.cap)) (first | with_reducible exact X3.out | with_reducible exact XZ.out | with_reducible exact X5.out | with_reducible exact oct_alloc X5.out | with_reducible exact oct_put X5.out n1 n2)
            (first
              | (go_at_call 18; (with_reducible refine (HK.out wr.drew BD.out).mono ?_); rintro e w5 ⟨d, S5, rfl, hd5, hn5, hb5⟩; have P5 := Lib.hid (aft_one BD.out hb5 hd5 hn5); have X5 := Lib.hid (oct_up X3.out hb5); have NO := Lib.hid True.intro; clear hd5 hn5 hb5)
              | (go_at_call 18; (with_reducible refine (HK.out (wr.alloc zeroBox).drew BZ.out).mono ?_); rintro e w5 ⟨d, S5, rfl, hd5, hn5, hb5⟩; have P5 := Lib.hid (aft_two BZ.out hsZ.out KZ.out hb5 hd5 hn5); have X5 := Lib.hid (oct_up XZ.out hb5); have Z5 := Lib.hid (zero_up KZ.out hb5); obtain ⟨⟨z0, z1, z2, z3, z4, z5, z6⟩, f0, f1, f2, f3, f4, f5, f6⟩ := zero_parts Z5.out; clear hd5 hn5 hb5))
          all_goals first
            | (have Z5' := Z5; change Exit.then _ _ _ _ (put7 w5 wr.heap.size d); clear z0 z1 z2 z3 z4 z5 z6 f0 f1 f2 f3 f4 f5 f6 Z5 Z5' X5 X3 XZ KZ; generalize put7 w5 wr.heap.size d = W6 at P5 ⊢)
            | (have NO' := NO; change Exit.then _ _ _ _ (w5.alloc (cbox d)); clear X5 X3 XZ KZ; generalize w5.alloc (cbox d) = W6 at P5 ⊢; generalize w5.heap.size = bk at P5 ⊢)
          all_goals
            obtain ⟨d0, d1, d2, d3, d4, d5, d6⟩ := P5.out.box.cat
            simp only [Nat.zero_add] at d1 d2 d3 d4 d5 d6
            have AB : Hid (Below wr.heap.size wr (W6.alloc (cbox d))) := Lib.hid (P5.out.below.alloc P5.out.below.size _)
            have HLN : Hid (cs.length + [d].length ≤ 1954687338211) := Lib.hid (by have := HF.out.len; rw [nmL_length, List.length_take] at this; simp; omega)
            have FO := Lib.hid (HF.out.row.up AB.out)
            have BB : Hid (Below (w.heap.size + 2) W2 (W6.alloc (cbox d))) := Lib.hid (HB.out.trans (AB.out.mono (by have := SWr.out; omega)))
            have s1 : IntKind.i64.wrap ((q : Int) + ((lvT u : Nat) : Int)) = (q : Int) + ((lvT u : Nat) : Int) := wrap_id (by have := HQ.out; omega)
            go_wp2_with (at_builtin; refine wpList_append_cells rfl _ _ rfl (w.heap.size + 2) u7 _ cs [d] rfl FO.out rfl (OwnC.one W6 0 (Nat.zero_le _) d).row (by simp) HLN.out W2 BB.out (by have := SW2.out; omega) ?_; intro g cap3 w8 hown8 hb8 hgr8 hpl8)
            have HF8 := Lib.hid (HF.out.add P5.out.below P5.out.own P5.out.nodup (Nat.le_refl _) (by have := SWr.out; omega) hown8 hgr8 hpl8)
            have B8 := Lib.hid hb8
            clear hown8 hb8 hgr8 hpl8
            go_wp2
            go_roundg (gk - 1)
            case measure => have := HG.out; omega
            case rel =>
              refine ⟨k + 1, q + lvT u, cs ++ [d], Ss ++ [S5], by have := HG.out; omega, by omega, by go_num, by rw [HLS.out, HQ.out]; omega, by go_num, ?_, B8.out⟩
              rw [HST.out, HDD.out]
              simpa using HF8.out
        · obtain rfl : k = t.kids.length := by omega
          have hkl : ((t.kids.length : Int) < (t.kids.length : Int)) = False := by simp
          have HFA : Hid (Forest wr (w.heap.size + 2) u7 cs (nmL (ms.drop 1) t.kids) Ss) := Lib.hid (by have := HF.out; rw [List.take_length] at this; exact this)
          have HQT : Hid (q = lvT t) := Lib.hid (by have := HQ.out; rw [List.take_length] at this; omega)
          obtain ⟨a', cap', rfl⟩ := HF.out.row.row.shape
          obtain ⟨c0, c1, c2, c3, c4, c5, c6⟩ := BXr.out.cat
          simp only [Nat.zero_add] at c1 c2 c3 c4 c5 c6
          have g6 := BXr.out.free 6
          obtain ⟨⟨z0, z1, z2, z3, z4, z5, z6⟩, f0, f1, f2, f3, f4, f5, f6⟩ := zero_parts ZXr.out
          clear q6
          go_wp2
          (try simp only [Exit.inBlock, Exit.then])
          have hset : (wr.setCell ⟨w.heap.size, 6, none⟩ (.slice a' cs.length cap')).heap[w.heap.size + 1]? = wr.heap[w.heap.size + 1]? := Below.heap_setCell wr ⟨w.heap.size, 6, none⟩ _ _ (by simp)
          have hz2 : Box7 (wr.setCell ⟨w.heap.size, 6, none⟩ (.slice a' cs.length cap')) (w.heap.size + 1) ⟨0, ⟨0, 0, 0, 0⟩, 0, none, 0, 0⟩ := hset.trans ZXr.out
          refine bodyPost_ret (results_cell2 rfl _ _ (w.heap.size + 1) ⟨1, cr, m, a', cs.length, cap'⟩ rfl (hz2.put ⟨1, cr, m, a', cs.length, cap'⟩)) rfl ?_
          have hend := fresh_end (k := 1) (r := cr) (id := m) HBW.out (by have := SWr.out; omega) HFA.out HFINE.out.1 HFINE.out.2.1 hmfit (by rw [nmL_length]; exact hfn)
          refine ⟨⟨1, cr, m, a', cs.length, cap'⟩, blk (.slice a' cs.length cap') ++ Ss.flatten, by rw [← HQT.out]; rfl, ?_, hend.2.1, hend.2.2⟩
          rw [HNM.out]
          exact hend.1
end Go.Proofs.Ytlpklpkalcgeaaa
