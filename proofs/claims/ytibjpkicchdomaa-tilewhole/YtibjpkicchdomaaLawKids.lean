/- The law TileKids. -/
import Derived.Test.YtibjpkicchdomaaAwake6
namespace Go.Proofs.Ytibjpkicchdomaa
open Go.RowKit

theorem mayStep_small {s : Nat × List Int} {t : T} (h : (mayStep s t).1 = false) : (mayStep s t).2.1 = s.1 + 1 ∧ s.1 + 1 ≤ 20000 := by
  unfold mayStep at h ⊢
  split at h
  · cases h
  · rename_i hn
    rw [if_neg hn]
    constructor
    · split <;> rfl
    · omega
mutual
theorem go_small (s : Nat × List Int) : ∀ t, (goT mayStep s t).1 = false → (goT mayStep s t).2.1 = s.1 + sz t ∧ s.1 + sz t ≤ 20000
  | .node k r i l => by
    intro h
    rw [goT] at h ⊢
    rw [sz]
    by_cases hf : (mayStep s (.node k r i l)).1 = true
    · rw [if_pos hf, hf] at h; cases h
    · rw [if_neg hf] at h ⊢
      obtain ⟨h1, h2⟩ := mayStep_small (s := s) (t := .node k r i l) (by simpa using hf)
      have h3 := goL_small (mayStep s (.node k r i l)).2 l h (by omega)
      omega
theorem goL_small (s : Nat × List Int) : ∀ l, (goL mayStep s l).1 = false → s.1 ≤ 20000 → (goL mayStep s l).2.1 = s.1 + szL l ∧ s.1 + szL l ≤ 20000
  | [] => by
    intro _ hs
    rw [goL, szL]
    exact ⟨rfl, hs⟩
  | t :: l => by
    intro h hs
    rw [goL] at h ⊢
    rw [szL]
    by_cases hf : (goT mayStep s t).1 = true
    · rw [if_pos hf, hf] at h; cases h
    · rw [if_neg hf] at h ⊢
      have h1 := go_small s t (by simpa using hf)
      have h3 := goL_small (goT mayStep s t).2 l h (by omega)
      omega
end
theorem may_small {t : T} (h : mayT t = true) : sz t ≤ 20000 := by
  unfold mayT at h
  have := go_small (0, []) t (by simpa using h)
  simp only at this
  omega
theorem tile_may {t : T} (h : tileB t = true) : mayT t = true := by
  unfold tileB at h
  rw [Bool.and_eq_true] at h
  exact h.1
theorem pre_cut {l : List T} {k : Nat} {u : T} (h : l[k]? = some u) : preL l = preL (l.take k) ++ preT u ++ preL (l.drop (k + 1)) := by
  conv => lhs; rw [← List.take_append_drop (k + 1) l]
  rw [preL_append, preL_step h]
theorem pre_sub {t u : T} {k : Nat} (h : t.kids[k]? = some u) : List.Sublist (preT u) (preT t) := by
  rw [preT_eq t, pre_cut h]
  refine List.Sublist.cons _ ?_
  rw [List.append_assoc]
  exact (List.sublist_append_left _ _).trans (List.sublist_append_right _ _)
theorem tile_kid {t u : T} {k : Nat} (hs : sz t ≤ 999) (ht : tileB t = true) (h : t.kids[k]? = some u) : tileB u = true := by
  have hu : sz u < sz t := sz_kid h
  have hsub := pre_sub h
  unfold tileB at ht ⊢
  rw [may_is (by omega)] at ht ⊢
  unfold rmayT at ht ⊢
  simp only [Bool.and_eq_true, decide_eq_true_eq] at ht ⊢
  obtain ⟨⟨h1, h2⟩, h3⟩ := ht
  refine ⟨⟨?_, ?_⟩, ?_⟩
  · rw [List.all_eq_true] at h1 ⊢
    exact fun x hx => h1 x (hsub.mem hx)
  · exact ((hsub.filter leafB).map T.id).nodup h2
  · rw [List.all_eq_true] at h3 ⊢
    exact fun x hx => h3 x (hsub.mem hx)
theorem tile_top {t : T} (hs : sz t ≤ 999) (ht : tileB t = true) : wellT t = true ∧ fitB t = true := by
  unfold tileB at ht
  rw [may_is (by omega)] at ht
  unfold rmayT at ht
  simp only [Bool.and_eq_true] at ht
  have hm : t ∈ preT t := by rw [preT_eq]; exact List.mem_cons_self ..
  exact ⟨List.all_eq_true.1 ht.1.1 t hm, List.all_eq_true.1 ht.2 t hm⟩
theorem lines_count {t : T} (hs : sz t ≤ 999) (ht : tileB t = true) : (linesT t).length = t.kids.length - 1 := by
  obtain ⟨hw, -⟩ := tile_top hs ht
  unfold wellT wellB at hw
  simp only [Bool.and_eq_true, Bool.or_eq_true, decide_eq_true_eq] at hw
  unfold linesT
  by_cases h1 : t.k = 1
  · rw [if_pos h1]
    have : t.kids.length = 0 := by omega
    simp [this]
  · rw [if_neg h1]
    simp only [cutLines]
    split <;> rw [linesL_length, sizes_len]
def kidLines (l : List T) : Nat := (l.map fun u => (allLines (preT u)).length).sum
theorem allLines_pre (l : List T) : (allLines (preL l)).length = kidLines l := by
  induction l with
  | nil => simp [preL, allLines, kidLines]
  | cons t l ih =>
    unfold allLines kidLines at *
    rw [preL, List.flatMap_append, List.length_append, ih, List.map_cons, List.sum_cons]
    rfl
theorem kidLines_step {l : List T} {k : Nat} {u : T} (h : l[k]? = some u) : kidLines (l.take (k + 1)) = kidLines (l.take k) + (allLines (preT u)).length := by
  unfold kidLines; rw [List.take_add_one, h]; simp
theorem lines_all {t : T} (hs : sz t ≤ 999) (ht : tileB t = true) : (allLines (preT t)).length = (t.kids.length - 1) + kidLines t.kids := by
  rw [preT_eq, ← allLines_pre]
  unfold allLines
  rw [List.flatMap_cons, List.length_append, lines_count hs ht]
theorem lines_le {t : T} (hs : sz t ≤ 999) : (allLines (preT t)).length ≤ 998001 := by
  have h1 := allLines_len (l := preT t) (n := 999) (fun u hu => Nat.le_trans (pre_kids t u hu) hs)
  rw [preT_len] at h1
  have := Nat.mul_le_mul_right 999 hs
  omega

set_option maxRecDepth 100000 in
set_option maxHeartbeats 4000000 in
theorem tileKids_any (t : T) (c : C) (w : World) (hi : Is w c t) : Calls Try.prog 7 #[cval c] w fun e w' => e = .returned (.bool true) ∧ Below w.heap.size w w' := by
  have HA : Hid (Below w.heap.size w (w.alloc (cbox c))) := (Below.refl _ _).alloc (Nat.le_refl _) _
  have HC := Lib.hid (cbox_new w c)
  have HG := Lib.hid (great_any t c (w.alloc (cbox c)) (hi.up HA.out))
  have HI := Lib.hid hi
  have hcn := hi.n
  clear hi
  obtain ⟨ck, cr, cid, ca, cn, ccap⟩ := c
  simp only at hcn
  subst hcn
  go_enter Try.func7, Try.ntmps7
  go_wp2_with fail
  refine HG.out.mono ?_
  rintro e w1 ⟨g, rfl, hg, hb1⟩
  have B1 := Lib.hid (HA.out.trans (hb1.mono HA.out.size))
  have C1 := Lib.hid (HC.out.up hb1)
  have HF := Lib.hid hg
  clear hb1 hg
  cases g with
  | true =>
    go_wp2_with fail
    refine (awake6_any w1).mono ?_
    rintro e w2 ⟨rfl, hb2⟩
    have B2 := Lib.hid (B1.out.trans (hb2.mono B1.out.size))
    clear hb2
    go_wp2
    go_ret
    exact ⟨rfl, B2.out⟩
  | false =>
    have HSZ0 : Hid (mayT t = true → sz t ≤ 200) := Lib.hid fun hm => HF.out rfl (by have := may_small hm; omega)
    obtain ⟨c0, c1, c2, c3, c4, c5, c6⟩ := C1.out
    simp only [Nat.zero_add] at c1 c2 c3 c4 c5 c6
    have HT := Lib.hid (tilesOne_any t _ w1 (HI.out.up B1.out) (fun hm => Nat.le_trans (HSZ0.out hm) (by decide)) w1.heap.size rfl)
    cases ht : tileB t with
    | false =>
      rw [ht] at HT
      clear ht
      go_wp2_with fail
      refine HT.out.mono ?_
      rintro e w2 ⟨rfl, hb2⟩
      have B2 := Lib.hid (B1.out.trans (hb2.mono B1.out.size))
      clear hb2 c0 c1 c2 c3 c4 c5 c6
      go_wp2_with fail
      refine (awake6_any w2).mono ?_
      rintro e w3 ⟨rfl, hb3⟩
      have B3 := Lib.hid (B2.out.trans (hb3.mono B2.out.size))
      clear hb3
      go_wp2
      go_ret
      exact ⟨rfl, B3.out⟩
    | true =>
      rw [ht] at HT
      have HTT := Lib.hid ht
      have HSZ := Lib.hid (HSZ0.out (tile_may ht))
      clear ht
      go_wp2_with fail
      refine HT.out.mono ?_
      rintro e w2 ⟨rfl, hb2⟩
      have B2 := Lib.hid (B1.out.trans (hb2.mono B1.out.size))
      have C2 := Lib.hid (C1.out.up hb2)
      clear hb2 c0 c1 c2 c3 c4 c5 c6
      obtain ⟨-, -, -, -, -, -, c6⟩ := C2.out
      simp only [Nat.zero_add] at c6
      have hkl : t.kids.length ≤ 200 := kids_le HSZ.out
      have HKL := Lib.hid hkl
      have HLE : Hid ((t.kids.length - 1) + kidLines t.kids ≤ 998001) := Lib.hid (by rw [← lines_all (Nat.le_trans HSZ.out (by decide)) HTT.out]; exact lines_le (Nat.le_trans HSZ.out (by decide)))
      go_wp2
      go_loopg [3, 4] (t.kids.length + 1) (fun g n i wr => ∃ k : Nat, g + k = t.kids.length + 1 ∧ k ≤ t.kids.length ∧ i = .int .i64 k ∧ n = .int .i64 (((t.kids.length - 1) + kidLines (t.kids.take k) : Nat) : Int) ∧ Below w2.heap.size w2 wr)
      case atStart =>
        refine ⟨0, by omega, by omega, rfl, ?_, Below.refl _ _⟩
        simp only [List.take_zero, kidLines, List.map_nil, List.sum_nil, Nat.add_zero]
        first
        | go_num
        | (congr 1; omega)
        | (congr 1; split <;> omega)
      case round =>
        obtain ⟨k, hg, hk, rfl, rfl, hb⟩ := hrel
        have HGK := Lib.hid hg
        have HB := Lib.hid hb
        clear hg hb c6
        obtain ⟨c0, c1, c2, c3, c4, c5, c6⟩ := C2.out.up HB.out
        simp only [Nat.zero_add] at c1 c2 c3 c4 c5 c6
        have HBW := Lib.hid (B2.out.trans (HB.out.mono B2.out.size))
        by_cases hlt : k < t.kids.length
        · have hlti : (k : Int) < (t.kids.length : Int) := by omega
          obtain ⟨b, o, hca, hf⟩ := HI.out.row.place (by omega)
          simp only at hca
          subst hca
          obtain ⟨u, hu⟩ : ∃ u, t.kids[k]? = some u := ⟨_, List.getElem?_eq_getElem hlt⟩
          obtain ⟨x, hx, hix⟩ := hf k u hu
          have hszu : sz u ≤ 999 := by have := sz_kid hu; have := HSZ.out; omega
          have HTL := Lib.hid (tilesOne_any u x wr (hix.up HBW.out) (fun _ => hszu) wr.heap.size rfl)
          have htu := tile_kid (Nat.le_trans HSZ.out (by decide)) HTT.out hu
          rw [htu] at HTL
          have HLI := Lib.hid (fun W (h : Below w.heap.size w W) => lines_any u x W (hix.up h) hszu)
          rw [htu] at HLI
          have HST := Lib.hid (kidLines_step hu)
          have hle : (t.kids.length - 1) + (kidLines (t.kids.take k) + (allLines (preT u)).length) ≤ 998001 := by
            have h1 : kidLines (t.kids.take (k + 1)) ≤ kidLines t.kids := by
              rw [← allLines_pre, ← allLines_pre, ← List.take_append_drop (k + 1) t.kids, List.take_left' (by rw [List.length_take]; omega)]
              unfold allLines
              rw [preL_append, List.flatMap_append, List.length_append]
              exact Nat.le_add_right _ _
            rw [HST.out] at h1
            have := HLE.out
            omega
          have HX := Lib.hid hx
          obtain ⟨x0, x1, x2, x3, x4, x5, x6⟩ := hx.up HBW.out
          clear hf hu hx hix htu
          go_wp2_with fail
          refine HTL.out.mono ?_
          rintro e w4 ⟨rfl, hb4⟩
          have B4 := Lib.hid (HBW.out.trans (hb4.mono HBW.out.size))
          have B24 := Lib.hid (HB.out.trans (hb4.mono HB.out.size))
          clear hb4 c0 c1 c2 c3 c4 c5 c6 x0 x1 x2 x3 x4 x5 x6
          obtain ⟨-, -, -, -, -, -, c6⟩ := C2.out.up B24.out
          simp only [Nat.zero_add] at c6
          obtain ⟨x0, x1, x2, x3, x4, x5, x6⟩ := HX.out.up B4.out
          have HL4 := Lib.hid (HLI.out w4 B4.out)
          have hli : linesIf u true = allLines (preT u) := rfl
          rw [hli] at HL4
          generalize kidLines (t.kids.take k) = m at HST hle ⊢
          generalize allLines (preT u) = ll at HST hle HL4
          go_wp2_with fail
          refine HL4.out.mono ?_
          rintro e w5 ⟨v5, rfl, hr5, hb5⟩
          have B25 := Lib.hid (B24.out.trans (hb5.mono B24.out.size))
          obtain ⟨a5, cap5, rfl⟩ := hr5.shape
          clear hb5 hr5 c6 x0 x1 x2 x3 x4 x5 x6
          go_wp2
          go_roundg (gk - 1)
          case measure => have := HGK.out; omega
          case rel => exact ⟨k + 1, by have := HGK.out; omega, by omega, by go_num, by rw [HST.out]; go_num, B25.out⟩
        · obtain rfl : k = t.kids.length := by omega
          have hkl' : ((t.kids.length : Int) < (t.kids.length : Int)) = False := by simp
          have HLI := Lib.hid (lines_any t _ wr (HI.out.up HBW.out) (Nat.le_trans HSZ.out (by decide)))
          rw [HTT.out] at HLI
          have hli : linesIf t true = allLines (preT t) := rfl
          rw [hli] at HLI
          have HAL := Lib.hid (lines_all (Nat.le_trans HSZ.out (by decide)) HTT.out)
          have htk : t.kids.take t.kids.length = t.kids := List.take_length
          rw [htk]
          rw [← HAL.out]
          generalize allLines (preT t) = ll at HLI ⊢
          have hbb : ((ll.length : Int) == (ll.length : Int)) = true := by simp
          clear htk
          go_wp2_with fail
          refine HLI.out.mono ?_
          rintro e w5 ⟨v5, rfl, hr5, hb5⟩
          have B5 := Lib.hid (HBW.out.trans (hb5.mono HBW.out.size))
          obtain ⟨a5, cap5, rfl⟩ := hr5.shape
          clear hb5 hr5 c0 c1 c2 c3 c4 c5 c6
          go_wp2_with fail
          refine (awake6_any w5).mono ?_
          rintro e w6 ⟨rfl, hb6⟩
          have B6 := Lib.hid (B5.out.trans (hb6.mono B5.out.size))
          clear hb6
          go_wp2
          go_ret
          exact ⟨rfl, B6.out⟩

theorem tileKids_wf (v : Value) (t : T) (c : C) (w : World) (e : v = cval c) (hi : Is w c t) : Calls Try.prog 7 #[v] w fun e w' => e = .returned (.bool true) ∧ Below w.heap.size w w' := by
  subst e
  exact tileKids_any t c w hi
end Go.Proofs.Ytibjpkicchdomaa
