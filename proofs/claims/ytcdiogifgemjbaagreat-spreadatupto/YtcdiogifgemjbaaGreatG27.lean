/- Texts of this seat, 3 in one file. -/
import Derived.Test.YtcdiogifgemjbaaGreatG26
import Derived.Test.YtcdiogifgemjbaaGreatG22
/- A tree in which a leaf is two: the document's answer. -/
namespace Go.Proofs.YtcdiogifgemjbaaGreat
open Go.RowKit

abbrev cellW (w : World) (c : C) : World := (w.alloc (cbox c)).alloc zeroBox
theorem cellW_below (w : World) (c : C) : Below w.heap.size w (cellW w c) := ((Below.refl _ _).alloc (Nat.le_refl _) _).alloc (by simp) _
theorem cellW_box (w : World) (c : C) : Box7 (cellW w c) w.heap.size c := (Box7.new w c).up ((Below.refl _ _).alloc (Nat.le_refl _) _)
theorem cellW_zero (w : World) (c : C) : Zero7 (cellW w c) (w.heap.size + 1) := by
  have := zero_new (w.alloc (cbox c))
  simpa using this
theorem cellW_size (w : World) (c : C) : (cellW w c).heap.size = w.heap.size + 2 := by simp

/-- A tree that stands on elder memory and what the call made. -/
def GrSays (E : World → Prop) (t : T) (w : World) (e : Ending) (w' : World) : Prop := ∃ d, e = .returned (cval d) ∧ Stands E w' w.heap.size w'.heap.size d t ∧ Below w.heap.size w w'
theorem gr_of {E : World → Prop} {w w' : World} {t t' : T} {d : C} (he : t' = t) (h : ∀ W, E W → Is W d t) (hb : Below w.heap.size w w') : GrSays E t' w (.returned (cval d)) w' := by
  subst he
  exact ⟨d, rfl, fun W' h0 _ => h W' h0, hb⟩
abbrev endW (w wr : World) (d : C) : World := put7 (wr.setCell ⟨w.heap.size, 6, none⟩ (.slice d.a d.n d.cap)) (w.heap.size + 1) d
theorem endW_other {w wr : World} {d : C} {k : Nat} (h1 : k ≠ w.heap.size) (h2 : k ≠ w.heap.size + 1) : (endW w wr d).heap[k]? = wr.heap[k]? := by
  rw [heap_put7 h2, Below.heap_setCell wr ⟨w.heap.size, 6, none⟩ _ k h1]
theorem endW_size (w wr : World) (d : C) : (endW w wr d).heap.size = wr.heap.size := by rw [size_put7]; simp [World.setCell]
theorem gr_end {E : World → Prop} {w wr : World} {k : Int} {r : R} {id : Int} {a : Option Addr} {cap : Nat} {cs : List C} {l : List T} {t' : T} (he : t' = .node k r id l) (hb : Below w.heap.size w wr) (h : Grove E wr (w.heap.size + 2) (.slice a cs.length cap) cs l) (hk : 0 ≤ k ∧ k ≤ 255) (hr : r.fits) (hi : fits id) (hl : l.length ≤ 1954687338211) :
    GrSays E t' w (.returned (cval ⟨k, r, id, a, cs.length, cap⟩)) (endW w wr ⟨k, r, id, a, cs.length, cap⟩) := by
  subst he
  refine ⟨_, rfl, ?_, below_put7 (hb.setCell (Nat.le_refl _) _) (by omega) _⟩
  have hst := h.tree (k := k) (r := r) (id := id) hk hr hi hl
  exact (hst.move (w2 := endW w wr ⟨k, r, id, a, cs.length, cap⟩) fun j hj _ => endW_other (by omega) (by omega)).wide (by omega) (by rw [endW_size]; exact Nat.le_refl _)

end Go.Proofs.YtcdiogifgemjbaaGreat
/- The document's rounds, one asking at a time. No walk. -/
namespace Go.Proofs.YtcdiogifgemjbaaGreat
open Go.RowKit Sh

theorem at_round {n r k : Nat} (hk : k < n) : (n * r + k) % n = k := (div_mod_of (n := n) (m := n * r + k) (q := r) (s := k) rfl hk).2
theorem natI_set (l : List Nat) (k a : Nat) : (natI l).set k (a : Int) = natI (l.set k a) := by simp [natI, List.map_set]
theorem negI_set (l : List Nat) (k a : Nat) : (negI l).set k (-(a : Int)) = negI (l.set k a) := by simp [negI, List.map_set]
/-- One that is asked to give more. -/
theorem give_step {n r k m : Nat} (hk : k < n) (hm : m = n * r + k) : ∃ a : Nat, (natI (out none n m))[k]? = some (a : Int) ∧ a ≤ m ∧ (natI (out none n m)).set k ((a : Int) + 1) = natI (out none n (m + 1)) := by
  refine ⟨vis n m k, natI_get (out_at none hk), ?_, ?_⟩
  · unfold vis
    have h1 : m / n = r := (div_mod_of (n := n) (m := m) (q := r) (s := k) hm hk).1
    have h2 : m % n = k := (div_mod_of (n := n) (m := m) (q := r) (s := k) hm hk).2
    rw [h1, h2, if_neg (by omega), hm]
    have : r ≤ n * r := Nat.le_mul_of_pos_left r (by omega)
    omega
  · rw [show (vis n m k : Int) + 1 = ((vis n m k + 1 : Nat) : Int) by omega, natI_set, out_set none (by omega), hm, at_round hk]
    rfl
/-- One that is asked to take: it can, or it gave all. -/
theorem take_step {l : List Nat} {r k m g : Nat} (hk : k < l.length) (hm : m = l.length * r + k) (hg : l[k]? = some g) : ∃ a : Nat, (negI (out (some l) l.length m))[k]? = some (-(a : Int)) ∧ a ≤ g ∧
    ((a < g ∧ (negI (out (some l) l.length m)).set k (-(a : Int) - 1) = negI (out (some l) l.length (m + 1)) ∧ (out (some l) l.length (m + 1)).sum = (out (some l) l.length m).sum + 1) ∨ (a = g ∧ out (some l) l.length (m + 1) = out (some l) l.length m)) := by
  have hgd : l.getD k 0 = g := by rw [List.getD_eq_getElem?_getD, hg]; rfl
  have hs := out_sum (some l) (m := m) (n := l.length) (by omega)
  have hset := out_set (some l) (m := m) (n := l.length) (by omega)
  have hat : m % l.length = k := by rw [hm]; exact at_round hk
  rw [hat] at hs hset
  have hc : ∀ v, cap (some l) k v = min g v := fun v => by unfold cap; simp only; rw [hgd]
  rw [hc, hc] at hs
  rw [hc] at hset
  refine ⟨min g (vis l.length m k), ?_, by omega, ?_⟩
  · have := out_at (some l) (n := l.length) (m := m) hk
    rw [hc] at this
    exact negI_get this
  · by_cases h : vis l.length m k < g
    · refine .inl ⟨by omega, ?_, by omega⟩
      rw [show -((min g (vis l.length m k) : Nat) : Int) - 1 = -((min g (vis l.length m k + 1) : Nat) : Int) by omega, negI_set, ← hset]
    · refine .inr ⟨by omega, ?_⟩
      rw [hset]
      refine List.ext_getElem? fun i => ?_
      rw [List.getElem?_set]
      split
      · rename_i hi
        subst hi
        rw [if_pos (by rw [out_len]; omega), out_at (some l) hk, hc]
        congr 1; omega
      · rfl
theorem sum_mono (g : Option (List Nat)) {n m m' : Nat} (h : m ≤ m') : (out g n m).sum ≤ (out g n m').sum := by
  unfold out
  exact sum_le fun i hi => out_mono g h (List.mem_range.1 hi)
theorem natI_zero (n : Nat) : natI (out none n 0) = List.replicate n 0 := by
  refine List.ext_getElem? fun i => ?_
  by_cases hi : i < n
  · rw [natI_get (out_at none hi), vis_zero]; simp [hi, cap]
  · rw [List.getElem?_eq_none (by rw [natI_length, out_len]; omega), List.getElem?_eq_none (by simp; omega)]
theorem negI_zero (l : List Nat) (n : Nat) : negI (out (some l) n 0) = List.replicate n 0 := by
  refine List.ext_getElem? fun i => ?_
  by_cases hi : i < n
  · rw [negI_get (out_at (some l) hi), vis_zero]; simp [hi, cap]
  · rw [List.getElem?_eq_none (by rw [negI_length, out_len]; omega), List.getElem?_eq_none (by simp; omega)]
end Go.Proofs.YtcdiogifgemjbaaGreat
/- Shares, the document's walk: round by round. -/
namespace Go.Proofs.YtcdiogifgemjbaaGreat
open Go.RowKit Sh

set_option maxRecDepth 100000 in
theorem rshares_any (b : Int) (v : Value) (gs : List Int) (w : World) (hv : Row w v (ints gs)) (hb : fits b) (hl : gs.length ≤ 1000) :
    Calls Tryz.prog 76 #[.int .i64 b, v] w (ShSays b gs w) := by
  obtain ⟨hb1, hb2⟩ := hb
  obtain ⟨a, cap, rfl⟩ := row_shape hv
  have HV := Lib.hid hv
  clear hv
  obtain ⟨n, hn⟩ : ∃ n, gs.length = n := ⟨_, rfl⟩
  rw [hn] at HV hl ⊢
  have hmk := made_ints n (by omega)
  have HN0 := Lib.hid (show IBlk (w.alloc (.cells (ints (List.replicate n 0)).toArray 3)) w.heap.size (List.replicate n 0) from heap_alloc_new w _)
  have HB0 : Hid (Below w.heap.size w (w.alloc (.cells (ints (List.replicate n 0)).toArray 3))) := Lib.hid ((Below.refl _ _).alloc (Nat.le_refl _) _)
  have HLEN := Lib.hid hn
  by_cases h0 : n = 0
  · have HN : Hid (¬ okS b gs) := Lib.hid fun h => h.1 (List.length_eq_zero_iff.1 (by omega))
    subst h0
    clear hn
    have hmk0 : ∀ w, (Instr.makeSlice 27 (.int .i64 0) (.int .i64 0)).run Tryz.prog w = .ok (.slice (some ⟨w.heap.size, 0, none⟩) 0 0) (w.alloc (.cells (ints (List.replicate 0 0)).toArray 3)) := fun w => made_ints 0 (by omega) w
    clear hmk
    go_enter Tryz.func76, Tryz.ntmps76
    go_wp2
    go_ret2
    exact ⟨HB0.out, .inr ⟨HN.out, _, rfl, HN0.out.row 0 0 rfl⟩⟩
  clear hn
  have d0 : ((n : Int) == 0) = false := by rw [beq_eq_false_iff_ne]; omega
  go_enter Tryz.func76, Tryz.ntmps76
  go_wp2
  clear hmk
  generalize w.alloc (.cells (ints (List.replicate n 0)).toArray 3) = W0 at HN0 HB0 ⊢
  go_loopg [21] (n + 1) (fun g i wr => ∃ k : Nat, g + k = n + 1 ∧ k ≤ n ∧ i = .int .i64 k ∧ (∀ (j : Nat) (x : Int), j < k → gs[j]? = some x → badB x = false) ∧ wr = W0)
  case atStart => exact ⟨0, by omega, by omega, rfl, fun j x hj => by omega, rfl⟩
  case round =>
    obtain ⟨k, hgk, hk, rfl, hno, rfl⟩ := hrel
    have HG := Lib.hid hgk
    have HNO := Lib.hid hno
    clear hgk hno
    by_cases hlt : k < n
    · have hlti : (k : Int) < (n : Int) := by omega
      obtain ⟨x, hx⟩ : ∃ x, gs[k]? = some x := ⟨_, List.getElem?_eq_getElem (by have := HLEN.out; omega)⟩
      obtain ⟨pb, po, rfl, hf⟩ := int_at HV.out (by have := HLEN.out; omega)
      have c0 := (HB0.out.cell (lt_of_cell (hf k x hx))).trans (hf k x hx)
      have HX := Lib.hid hx
      clear hf hx
      by_cases hbad : badB x = true
      · have HNS : Hid (¬ okS b gs) := Lib.hid fun h => by
          have := h.2.1 x (List.mem_of_getElem? HX.out)
          unfold badB at hbad; simp at hbad; omega
        have HB1 : Hid (Below w.heap.size w (wr.alloc (.cells #[] 3))) := Lib.hid (HB0.out.alloc HB0.out.size _)
        have hcase : decide (x < 0) = true ∨ (decide (x < 0) = false ∧ decide (2147483647 < x) = true) := by
          unfold badB at hbad
          cases h : decide (x < 0) with
          | true => exact .inl rfl
          | false => rw [h] at hbad; exact .inr ⟨rfl, by simpa using hbad⟩
        clear hbad
        rcases hcase with d1 | ⟨d1, d2⟩
        all_goals
          go_wp2
          go_ret2
          exact ⟨HB1.out, .inr ⟨HNS.out, _, rfl, ⟨_, 0, rfl, fun h => (by cases h), fun y hy j u hu => by simp [ints] at hu⟩⟩⟩
      · have HBX := Lib.hid (show badB x = false by simpa using hbad)
        have d1 : decide (x < 0) = false := by rw [decide_eq_false_iff_not]; intro h; exact hbad (by unfold badB; rw [decide_eq_true h]; rfl)
        have d2 : decide (2147483647 < x) = false := by rw [decide_eq_false_iff_not]; intro h; exact hbad (by unfold badB; rw [decide_eq_true h]; simp)
        clear hbad
        go_wp2
        go_roundg (gk - 1)
        case measure => have := HG.out; omega
        case rel =>
          refine ⟨k + 1, by have := HG.out; omega, by omega, by go_num, fun j y hj hy => ?_, rfl⟩
          rcases Nat.lt_or_ge j k with h | h
          · exact HNO.out j y h hy
          · obtain rfl : j = k := by omega
            rw [HX.out] at hy; cases hy; exact HBX.out
    · obtain rfl : k = n := by omega
      have hkl : ((k : Int) < (k : Int)) = False := by simp
      have HGD : Hid (goodI gs) := Lib.hid fun g hg => by
        obtain ⟨j, hj, rfl⟩ := List.getElem_of_mem hg
        have := HNO.out j _ (by have := HLEN.out; omega) (List.getElem?_eq_getElem hj)
        unfold badB at this; simp at this; omega
      have HB1 : Hid (Below w.heap.size w (wr.alloc (.cells #[] 3))) := Lib.hid (HB0.out.alloc HB0.out.size _)
      by_cases h1 : 2147483647 < b
      · have d1 : decide (2147483647 < b) = true := decide_eq_true h1
        have HN : Hid (¬ okS b gs) := Lib.hid fun h => by have := h.2.2.2.1; omega
        go_wp2
        go_ret2
        exact ⟨HB1.out, .inr ⟨HN.out, _, rfl, ⟨_, 0, rfl, fun h => (by cases h), fun y hy j u hu => by simp [ints] at hu⟩⟩⟩
      have d1 : decide (2147483647 < b) = false := decide_eq_false h1
      by_cases h2 : b < -2147483647
      · have d2 : decide (b < -2147483647) = true := decide_eq_true h2
        have HN : Hid (¬ okS b gs) := Lib.hid fun h => by have := h.2.2.1; omega
        go_wp2
        go_ret2
        exact ⟨HB1.out, .inr ⟨HN.out, _, rfl, ⟨_, 0, rfl, fun h => (by cases h), fun y hy j u hu => by simp [ints] at hu⟩⟩⟩
      have d2 : decide (b < -2147483647) = false := decide_eq_false h2
      clear HB1 hkl hk HG HNO
      obtain ⟨n, rfl⟩ : ∃ n, n = k := ⟨_, rfl⟩
      obtain ⟨W0, rfl⟩ : ∃ W0, W0 = wr := ⟨_, rfl⟩
      by_cases hneg : b < 0
      · obtain ⟨need, hneed⟩ : ∃ need : Nat, b = -(need : Int) := ⟨(-b).toNat, by omega⟩
        obtain ⟨l, hl'⟩ : ∃ l, gs.map Int.toNat = l := ⟨_, rfl⟩
        have HLL := Lib.hid (show l.length = n by rw [← hl', List.length_map]; exact HLEN.out)
        have HGS := Lib.hid (show gs = natI l by rw [← hl']; exact natI_of HGD.out)
        have HGN := Lib.hid (show goodN l by rw [← hl']; exact goodN_of HGD.out)
        have HML := Lib.hid hl'
        clear hl'
        subst hneed
        have hnp : 0 < need := by omega
        clear hneg
        have HOK : Hid (∀ q : Nat, (out (some l) n q).sum = need → ∀ W, Below w.heap.size w W → IBlk W w.heap.size (negI (out (some l) n q)) → ShSays (-(need : Int)) gs w (.returned (.tuple #[.slice (some ⟨w.heap.size, 0, none⟩) n n, .bool true])) W) := Lib.hid fun q hq W hW hI => by
          have hnt : (-(-(need : Int))).toNat = need := by omega
          have hle := take_le l q
          rw [HLL.out, hq] at hle
          refine ⟨hW, .inl ⟨⟨fun h => h0 (by have := HLEN.out; rw [h] at this; exact this.symm), HGD.out, by omega, by omega, fun _ => by rw [hnt, HML.out]; exact hle⟩, _, negI (out (some l) n q), rfl, .inr ⟨by omega, q, by rw [HML.out, HLEN.out], by rw [HML.out, HLEN.out, hnt]; exact hq⟩, hI.row _ _ (by rw [negI_length, out_len])⟩⟩
        have HBAD : Hid (∀ (r : Nat) (W : World) (v : Value), (out (some l) n (n * r)).sum = (out (some l) n (n * (r + 1))).sum → (out (some l) n (n * r)).sum < need → Below w.heap.size w W → Row W v (ints []) → ShSays (-(need : Int)) gs w (.returned (.tuple #[v, .bool false])) W) := Lib.hid fun r W v h1 h2 hW hR => by
          have hnt : (-(-(need : Int))).toNat = need := by omega
          have hs := take_stuck l r
          rw [HLL.out] at hs
          have := hs h1
          exact ⟨hW, .inr ⟨fun hok => by have := hok.2.2.2.2 (by omega); rw [hnt, HML.out] at this; omega, v, rfl, hR⟩⟩
        have HTS : Hid (∀ (r k m g : Nat), k < n → m = n * r + k → l[k]? = some g → ∃ a : Nat, (negI (out (some l) n m))[k]? = some (-(a : Int)) ∧ a ≤ g ∧ ((a < g ∧ (negI (out (some l) n m)).set k (-(a : Int) - 1) = negI (out (some l) n (m + 1)) ∧ (out (some l) n (m + 1)).sum = (out (some l) n m).sum + 1) ∨ (a = g ∧ out (some l) n (m + 1) = out (some l) n m))) := Lib.hid fun r k m g hk hm hg => by
          have := take_step (l := l) (r := r) (k := k) (m := m) (g := g) (by rw [HLL.out]; exact hk) (by rw [HLL.out]; exact hm) hg
          rw [HLL.out] at this
          exact this
        go_wp2
        go_loopg [7] (need + 1) (fun g vl wr => ∃ (q lv r : Nat), lv < g ∧ vl = .int .i64 (-(lv : Int)) ∧ need = (out (some l) n q).sum + lv ∧ (lv = 0 ∨ q = n * r) ∧ IBlk wr w.heap.size (negI (out (some l) n q)) ∧ Below w.heap.size w wr)
        case atStart => exact ⟨0, need, 0, by omega, rfl, by rw [out_zero_sum]; omega, .inr (by simp), by rw [negI_zero]; exact HN0.out, HB0.out⟩
        case round =>
          obtain ⟨q, lv, r, hg1, rfl, hql, hst, hblk, hb⟩ := hrel
          obtain ⟨G1, rfl⟩ : ∃ G1, G1 = gk := ⟨_, rfl⟩
          have HG1 := Lib.hid hg1
          have HQL := Lib.hid hql
          have HST := Lib.hid hst
          have HK := Lib.hid hblk
          have HB := Lib.hid hb
          have hlvb : lv ≤ 2147483647 := by omega
          clear hg1 hql hst hblk hb
          by_cases hlv : lv = 0
          · subst hlv
            go_wp2
            go_ret2
            exact HOK.out q (by have := HQL.out; omega) _ HB.out HK.out
          · have hne : ((-(lv : Int)) != 0) = true := by simp; omega
            have HQR := Lib.hid (show q = n * r from HST.out.resolve_left hlv)
            obtain ⟨wv, hwv⟩ : ∃ wv : Int, wv = -(lv : Int) := ⟨_, rfl⟩
            rw [← hwv] at hne ⊢
            have HWV := Lib.hid hwv
            clear hwv
            go_wp2
            go_loopg [7, 50] (n + 1) (fun g vl i wr => ∃ (q2 lv2 k : Nat), g + k = n + 1 ∧ k ≤ n ∧ i = .int .i64 k ∧ vl = .int .i64 (-(lv2 : Int)) ∧ need = (out (some l) n q2).sum + lv2 ∧ (lv2 = 0 ∨ q2 = n * r + k) ∧ q ≤ q2 ∧ IBlk wr w.heap.size (negI (out (some l) n q2)) ∧ Below w.heap.size w wr)
            case atStart => exact ⟨q, lv, 0, by omega, by omega, rfl, by rw [HWV.out], HQL.out, .inr (by have := HQR.out; omega), Nat.le_refl _, HK.out, HB.out⟩
            case round =>
              obtain ⟨q2, lv2, k, hgk, hk, rfl, rfl, hql, hst, hgt, hblk, hb⟩ := hrel
              have HG := Lib.hid hgk
              have HQL2 := Lib.hid hql
              have HST2 := Lib.hid hst
              have HGT := Lib.hid hgt
              have HK2 := Lib.hid hblk
              have HB2 := Lib.hid hb
              have hlvb2 : lv2 ≤ 2147483647 := by omega
              clear hgk hql hst hgt hblk hb
              by_cases hlt : k < n
              · have hlti : (k : Int) < (n : Int) := by omega
                by_cases hz : lv2 = 0
                · subst hz
                  go_wp2
                  go_quiet (fail)
                  go_wp2
                  go_roundg (gk - 1)
                  case measure => have := HG.out; omega
                  case rel => exact ⟨q2, 0, k + 1, by have := HG.out; omega, by omega, by go_num, rfl, HQL2.out, .inl rfl, HGT.out, HK2.out, ⟨HB2.out.os, HB2.out.tape, HB2.out.output, HB2.out.size, HB2.out.block⟩⟩
                · have HQ2 := Lib.hid (show q2 = n * r + k from HST2.out.resolve_left hz)
                  obtain ⟨g, hg⟩ : ∃ g, l[k]? = some g := ⟨_, List.getElem?_eq_getElem (by rw [HLL.out]; exact hlt)⟩
                  obtain ⟨v0, hv0, hvle, hcase⟩ := HTS.out r k q2 g hlt HQ2.out hg
                  have hgb := HGN.out g (List.mem_of_getElem? hg)
                  have c0 := HK2.out.cell hv0
                  have f0 := HK2.out.free k
                  obtain ⟨pb, po, rfl, hf⟩ := int_at HV.out (by have := HLEN.out; omega)
                  have e0 := (HB2.out.cell (lt_of_cell (hf k g (by rw [HGS.out]; exact natI_get hg)))).trans (hf k g (by rw [HGS.out]; exact natI_get hg))
                  obtain ⟨xl, hxl⟩ : ∃ xl : Int, xl = -(lv2 : Int) := ⟨_, rfl⟩
                  obtain ⟨xo, hxo⟩ : ∃ xo : Int, xo = -(v0 : Int) := ⟨_, rfl⟩
                  rw [← hxl]
                  rw [← hxo] at c0 hcase
                  have dp : decide ((0 : Int) < xl) = false := decide_eq_false (by omega)
                  have dn : decide (xl < 0) = true := decide_eq_true (by omega)
                  have hxlb : -2147483647 ≤ xl ∧ xl < 0 := by omega
                  have hxob : -2147483647 ≤ xo ∧ xo ≤ 0 := by omega
                  have HXL := Lib.hid hxl
                  have HXO := Lib.hid hxo
                  have HC0 := Lib.hid hv0
                  rw [← HXO.out] at HC0
                  clear hf hg hv0 hz
                  rcases hcase with ⟨hlt2, hset, hsum⟩ | ⟨rfl, hsame⟩
                  · have dg : decide ((0 : Int) < (g : Int) + xo) = true := decide_eq_true (by omega)
                    have HSM := Lib.hid hsum
                    have HSE := Lib.hid hset
                    clear hset hsum hxl hxo
                    go_wp2
                    go_quiet (fail)
                    have KD := Lib.hid (show IBlk (wr.drewN nq) w.heap.size (negI (out (some l) n q2)) from HK2.out)
                    have BD := Lib.hid (show Below w.heap.size w (wr.drewN nq) from ⟨HB2.out.os, HB2.out.tape, HB2.out.output, HB2.out.size, HB2.out.block⟩)
                    generalize wr.drewN nq = wd at KD BD ⊢
                    clear c0 f0 e0
                    have c1 := KD.out.cell HC0.out
                    have f1 := KD.out.free k
                    have HK3 := Lib.hid (KD.out.set k (xo - 1))
                    rw [HSE.out] at HK3
                    have HB3 := Lib.hid (show Below w.heap.size w (wd.setCell ⟨w.heap.size, k, none⟩ (.int .i64 (xo - 1))) from BD.out.setCell (Nat.le_refl _) _)
                    go_wp2
                    go_roundg (gk - 1)
                    case measure => have := HG.out; omega
                    case rel => exact ⟨q2 + 1, lv2 - 1, k + 1, by have := HG.out; omega, by omega, by go_num, by congr 1; have := HXL.out; omega, by have := HQL2.out; have := HSM.out; have := HXL.out; omega, .inr (by have := HQ2.out; omega), by have := HGT.out; omega, HK3.out, HB3.out⟩
                  · have dg : decide ((0 : Int) < (v0 : Int) + xo) = false := decide_eq_false (by omega)
                    have HSM := Lib.hid hsame
                    clear hsame hxl hxo
                    go_wp2
                    go_quiet (fail)
                    have KD := Lib.hid (show IBlk (wr.drewN nq) w.heap.size (negI (out (some l) n q2)) from HK2.out)
                    have BD := Lib.hid (show Below w.heap.size w (wr.drewN nq) from ⟨HB2.out.os, HB2.out.tape, HB2.out.output, HB2.out.size, HB2.out.block⟩)
                    generalize wr.drewN nq = wd at KD BD ⊢
                    clear c0 f0 e0
                    go_wp2
                    go_roundg (gk - 1)
                    case measure => have := HG.out; omega
                    case rel => exact ⟨q2 + 1, lv2, k + 1, by have := HG.out; omega, by omega, by go_num, by rw [HXL.out], by rw [HSM.out]; exact HQL2.out, .inr (by have := HQ2.out; omega), by have := HGT.out; omega, by rw [HSM.out]; exact KD.out, BD.out⟩
              · obtain rfl : k = n := by omega
                have hkl : ((k : Int) < (k : Int)) = False := by simp
                have HMO := Lib.hid (sum_mono (some l) (n := k) HGT.out)
                obtain ⟨xl, hxl⟩ : ∃ xl : Int, xl = -(lv2 : Int) := ⟨_, rfl⟩
                rw [← hxl]
                by_cases heq : lv2 = lv
                · have dn : (xl == wv) = true := by rw [beq_iff_eq, hxl, HWV.out, heq]
                  have HXW := Lib.hid (show xl = wv by rw [hxl, HWV.out, heq])
                  have HB3 := Lib.hid (show Below w.heap.size w (wr.alloc (.cells #[] 3)) from HB2.out.alloc HB2.out.size _)
                  have HSR := Lib.hid (show (out (some l) k (k * r)).sum = (out (some l) k (k * (r + 1))).sum by
                    have h1 := HQR.out
                    have h2 := HST2.out.resolve_left (by omega)
                    rw [← h1, Nat.mul_add, Nat.mul_one, ← h2]
                    have := HQL.out; have := HQL2.out; omega)
                  have HLT := Lib.hid (show (out (some l) k (k * r)).sum < need by rw [← HQR.out]; have := HQL.out; omega)
                  clear hxl heq
                  go_wp2
                  go_ret2
                  exact HBAD.out r _ _ HSR.out HLT.out HB3.out ⟨_, 0, rfl, fun h => (by cases h), fun y hy j u hu => by simp [ints] at hu⟩
                · have dn : (xl == wv) = false := by rw [beq_eq_false_iff_ne, hxl, HWV.out]; omega
                  have HXL := Lib.hid hxl
                  have hlt2 : lv2 < lv := by have := HMO.out; have := HQL.out; have := HQL2.out; omega
                  have HFI := Lib.hid (show lv2 = 0 ∨ q2 = k * (r + 1) by have := HST2.out; rw [Nat.mul_add]; omega)
                  clear hxl heq
                  go_wp2
                  go_roundg (G1 - 1)
                  case measure => have := HG1.out; omega
                  case rel => exact ⟨q2, lv2, r + 1, by have := HG1.out; omega, by rw [HXL.out], HQL2.out, HFI.out, HK2.out, HB2.out⟩
      · obtain ⟨m, rfl⟩ : ∃ m : Nat, b = (m : Int) := ⟨b.toNat, by omega⟩
        go_wp2
        obtain ⟨B, hB⟩ : ∃ B, B = m := ⟨_, rfl⟩
        have HBM := Lib.hid hB
        have hBb : B ≤ 2147483647 := by omega
        clear hB
        go_loopg [7] (m + 1) (fun g vl wr => ∃ (q lv r : Nat), lv < g ∧ vl = .int .i64 lv ∧ B = q + lv ∧ (lv = 0 ∨ q = n * r) ∧ IBlk wr w.heap.size (natI (out none n q)) ∧ Below w.heap.size w wr)
        case atStart => exact ⟨0, m, 0, by omega, rfl, by have := HBM.out; omega, .inr (by simp), by rw [natI_zero]; exact HN0.out, HB0.out⟩
        case round =>
          obtain ⟨q, lv, r, hg1, rfl, hql, hst, hblk, hb⟩ := hrel
          obtain ⟨G1, rfl⟩ : ∃ G1, G1 = gk := ⟨_, rfl⟩
          have HG1 := Lib.hid hg1
          have HQL := Lib.hid hql
          have HST := Lib.hid hst
          have HK := Lib.hid hblk
          have HB := Lib.hid hb
          have hlvb : lv ≤ 2147483647 := by omega
          clear hg1 hql hst hblk hb
          by_cases hlv : lv = 0
          · subst hlv
            go_wp2
            go_ret2
            have hqm : q = m := by have := HQL.out; have := HBM.out; omega
            subst hqm
            refine ⟨HB.out, .inl ⟨⟨fun h => h0 (by have := HLEN.out; rw [h] at this; exact this.symm), HGD.out, by omega, by omega, fun h => by omega⟩, _, natI (out none n q), rfl, .inl ⟨by omega, by rw [HLEN.out]; simp⟩, HK.out.row _ _ (by rw [natI_length, out_len])⟩⟩
          · have hne : ((lv : Int) != 0) = true := by simp; omega
            have HQR := Lib.hid (show q = n * r from HST.out.resolve_left hlv)
            go_wp2
            go_loopg [7, 50] (n + 1) (fun g vl i wr => ∃ (q2 lv2 k : Nat), g + k = n + 1 ∧ k ≤ n ∧ i = .int .i64 k ∧ vl = .int .i64 lv2 ∧ B = q2 + lv2 ∧ (lv2 = 0 ∨ q2 = n * r + k) ∧ (0 < k → q < q2) ∧ IBlk wr w.heap.size (natI (out none n q2)) ∧ Below w.heap.size w wr)
            case atStart => exact ⟨q, lv, 0, by omega, by omega, rfl, rfl, HQL.out, .inr (by have := HQR.out; omega), fun h => by omega, HK.out, HB.out⟩
            case round =>
              obtain ⟨q2, lv2, k, hgk, hk, rfl, rfl, hql, hst, hgt, hblk, hb⟩ := hrel
              have HG := Lib.hid hgk
              have HQL2 := Lib.hid hql
              have HST2 := Lib.hid hst
              have HGT := Lib.hid hgt
              have HK2 := Lib.hid hblk
              have HB2 := Lib.hid hb
              have hlvb2 : lv2 ≤ 2147483647 := by omega
              clear hgk hql hst hgt hblk hb
              by_cases hlt : k < n
              · have hlti : (k : Int) < (n : Int) := by omega
                by_cases hz : lv2 = 0
                · subst hz
                  go_wp2
                  go_quiet (fail)
                  go_wp2
                  go_roundg (gk - 1)
                  case measure => have := HG.out; omega
                  case rel => exact ⟨q2, 0, k + 1, by have := HG.out; omega, by omega, by go_num, rfl, HQL2.out, .inl rfl, fun _ => by have := HQL2.out; have := HQL.out; omega, HK2.out, ⟨HB2.out.os, HB2.out.tape, HB2.out.output, HB2.out.size, HB2.out.block⟩⟩
                · have hpos : 0 < lv2 := by omega
                  have HQ2 := Lib.hid (show q2 = n * r + k from HST2.out.resolve_left hz)
                  obtain ⟨v0, hv0, hvle, hset⟩ := give_step (n := n) (r := r) (k := k) (m := q2) hlt HQ2.out
                  have c0 := HK2.out.cell hv0
                  have f0 := HK2.out.free k
                  have HK3 := Lib.hid (HK2.out.set k ((v0 : Int) + 1))
                  rw [hset] at HK3
                  have HB3 := Lib.hid (show Below w.heap.size w (wr.setCell ⟨w.heap.size, k, none⟩ (.int .i64 ((v0 : Int) + 1))) from HB2.out.setCell (Nat.le_refl _) _)
                  have hv0b : v0 ≤ 2147483647 := by have := HQL2.out; omega
                  clear hv0 hset hz
                  go_wp2
                  have dn : decide ((lv2 : Int) - 1 < 0) = false := decide_eq_false (by omega)
                  generalize wr.setCell ⟨w.heap.size, k, none⟩ (.int .i64 ((v0 : Int) + 1)) = w3 at HK3 HB3 ⊢
                  go_quiet (fail)
                  go_wp2
                  go_roundg (gk - 1)
                  case measure => have := HG.out; omega
                  case rel => exact ⟨q2 + 1, lv2 - 1, k + 1, by have := HG.out; omega, by omega, by go_num, by congr 1; omega, by have := HQL2.out; omega, .inr (by have := HQ2.out; omega), fun _ => by have := HQ2.out; have := HQR.out; omega, HK3.out, ⟨HB3.out.os, HB3.out.tape, HB3.out.output, HB3.out.size, HB3.out.block⟩⟩
              · obtain rfl : k = n := by omega
                have hkl : ((k : Int) < (k : Int)) = False := by simp
                have hlt2 : lv2 < lv := by have := HGT.out (by omega); have := HQL.out; have := HQL2.out; omega
                have dn : ((lv2 : Int) == (lv : Int)) = false := by rw [beq_eq_false_iff_ne]; omega
                have dn2 : (lv2 == lv) = false := by rw [beq_eq_false_iff_ne]; omega
                have HFI := Lib.hid (show lv2 = 0 ∨ q2 = k * (r + 1) by have := HST2.out; rw [Nat.mul_add]; omega)
                go_wp2
                go_roundg (G1 - 1)
                case measure => have := HG1.out; omega
                case rel => exact ⟨q2, lv2, r + 1, by have := HG1.out; omega, rfl, HQL2.out, HFI.out, HK2.out, HB2.out⟩
end Go.Proofs.YtcdiogifgemjbaaGreat
