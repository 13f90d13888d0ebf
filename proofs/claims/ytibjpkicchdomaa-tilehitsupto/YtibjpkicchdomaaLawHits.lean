/- The law TileHits. -/
import Derived.Test.YtibjpkicchdomaaWholeM
namespace Go.Proofs.Ytibjpkicchdomaa
open Go.RowKit

theorem bne_self6 (b : Bool) : (b != b) = false := by cases b <;> rfl
def lineHas (x y : Int) (l : List R) : Bool := l.any fun q => hasB q x y
theorem line_step {x y : Int} {l : List R} {k : Nat} {q : R} (h : l[k]? = some q) : lineHas x y (l.take (k + 1)) = (lineHas x y (l.take k) || hasB q x y) := by
  unfold lineHas; rw [List.take_add_one, h, List.any_append]; simp
theorem leaf_any6 (x y : Int) (l : List T) : l.any (qh x y) = (leafR l).any fun q => hasB q x y := by
  induction l with
  | nil => rfl
  | cons t l ih =>
    rw [List.any_cons, ih]
    unfold qh leafR
    by_cases h : t.k = 1
    · have hl : leafB t = true := by simp [leafB, h]
      simp [List.filter_cons, hl, h]
    · have hl : leafB t = false := by simp [leafB, h]
      simp [List.filter_cons, hl, h]
theorem any_cnt (x y : Int) (l : List R) : (l.any fun q => hasB q x y) = decide (0 < cnt x y l) := by
  unfold cnt
  rw [Bool.eq_iff_iff, List.any_eq_true, decide_eq_true_eq, List.countP_pos_iff]
theorem hits_once {t : T} {x y : Int} (hs : sz t ≤ 999) (ht : tileB t = true) (hh : hasB t.r x y = true) : ((hitR x y t true).isSome != lineHas x y (linesIf t true)) = true := by
  have h := (whole_tile hs ht).once x y
  have e1 : (hitR x y t true).isSome = decide (0 < cnt x y (leafR (preT t))) := by
    show (hitT x y t).isSome = _
    unfold hitT
    rw [← find_any, leaf_any6, any_cnt]
  have e2 : lineHas x y (linesIf t true) = decide (0 < cnt x y (allLines (preT t))) := any_cnt x y (allLines (preT t))
  rw [e1, e2]
  unfold has1 at h
  rw [if_pos hh] at h
  unfold cnt at *
  rw [List.countP_append] at h
  generalize List.countP (fun q => hasB q x y) (leafR (preT t)) = a at *
  generalize List.countP (fun q => hasB q x y) (allLines (preT t)) = b at *
  by_cases ha : 0 < a
  · have hb : ¬ 0 < b := by omega
    rw [decide_eq_true ha, decide_eq_false hb]; rfl
  · have hb : 0 < b := by omega
    rw [decide_eq_false ha, decide_eq_true hb]; rfl
theorem linesIf_fits {t : T} {b : Bool} (hs : sz t ≤ 999) (hb : b = tileB t) : ∀ q ∈ linesIf t b, q.fits := by
  intro q hq
  unfold linesIf at hq
  split at hq
  · rename_i h
    exact whole_fits (whole_tile hs (hb ▸ h)) q (List.mem_append_right _ hq)
  · cases hq
theorem linesIf_len {t : T} {b : Bool} (hs : sz t ≤ 999) : (linesIf t b).length ≤ 998001 := by
  unfold linesIf; split
  · exact lines_le hs
  · simp

set_option maxRecDepth 100000 in
set_option maxHeartbeats 4000000 in
theorem tileHits_any (t : T) (c : C) (x y : Int) (w : World) (hi : Is w c t) (hs : sz t ≤ 1099511627776) : Calls Try.prog 6 #[cval c, .int .i64 x, .int .i64 y] w fun e w' => e = .returned (.bool true) ∧ Below w.heap.size w w' := by
  have HA : Hid (Below w.heap.size w (w.alloc (cbox c))) := (Below.refl _ _).alloc (Nat.le_refl _) _
  have HC := Lib.hid (cbox_new w c)
  have HG := Lib.hid (great_any t c (w.alloc (cbox c)) (hi.up HA.out))
  have HI := Lib.hid hi
  have HS := Lib.hid hs
  clear hi hs
  go_enter Try.func6, Try.ntmps6
  go_wp2_with fail
  refine HG.out.mono ?_
  rintro e w1 ⟨g, rfl, hg, hb1⟩
  have B1 := Lib.hid (HA.out.trans (hb1.mono HA.out.size))
  have C1 := Lib.hid (HC.out.up hb1)
  have HF := Lib.hid hg
  clear hb1 hg
  cases g with
  | true =>
    go_wp2_with fail
    refine (awake6_any w1).mono ?_
    rintro e w2 ⟨rfl, hb2⟩
    have B2 := Lib.hid (B1.out.trans (hb2.mono B1.out.size))
    clear hb2
    go_wp2
    go_ret
    exact ⟨rfl, B2.out⟩
  | false =>
    have HSZ : Hid (sz t ≤ 999) := Lib.hid (Nat.le_trans (HF.out rfl HS.out) (by decide))
    have HH := Lib.hid (hit_any x y t c w1 (HI.out.up B1.out) HSZ.out)
    have HRH := Lib.hid (fun W (h : Below w.heap.size w W) => rhit_any x y t c W (HI.out.up h) HSZ.out)
    have HLI := Lib.hid (fun W (h : Below w.heap.size w W) => lines_any t c W (HI.out.up h) HSZ.out)
    have HRT := Lib.hid (fun W (h : Below w.heap.size w W) => rtiles_any t c W (HI.out.up h) HSZ.out)
    have HON : Hid (tileB t = true → hasB t.r x y = true → ((hitR x y t true).isSome != lineHas x y (linesIf t true)) = true) := Lib.hid fun h1 h2 => hits_once HSZ.out h1 h2
    have HLF : Hid (∀ q ∈ linesIf t (tileB t), q.fits) := Lib.hid (linesIf_fits HSZ.out rfl)
    have HLL : Hid ((linesIf t (tileB t)).length ≤ 998001) := Lib.hid (linesIf_len HSZ.out)
    have HCR : Hid (t.r = c.r) := Lib.hid HI.out.split.2.1
    have HRF := Lib.hid HI.out.fine.2.1
    generalize tileB t = tb at HH HRH HLI HRT HON HLF HLL
    obtain ⟨c0, c1, c2, c3, c4, c5, c6⟩ := C1.out
    simp only [Nat.zero_add] at c1 c2 c3 c4 c5 c6
    have HON2 : Hid (tb = true → hasB c.r x y = true → ((hitR x y t tb).isSome != lineHas x y (linesIf t tb)) = true) := Lib.hid fun h1 h2 => by subst h1; exact HON.out rfl (by rw [HCR.out]; exact h2)
    clear HON
    generalize hitR x y t tb = hr at HH HRH HON2
    generalize linesIf t tb = ll at HLI HLF HLL HON2
    go_wp2_with fail
    refine HH.out.mono ?_
    rintro e w2 ⟨rfl, hb2⟩
    have B2 := Lib.hid (B1.out.trans (hb2.mono B1.out.size))
    have C2 := Lib.hid (C1.out.up hb2)
    clear hb2 c0 c1 c2 c3 c4 c5 c6
    obtain ⟨c0, c1, c2, c3, c4, c5, c6⟩ := C2.out
    simp only [Nat.zero_add] at c1 c2 c3 c4 c5 c6
    go_wp2_with fail
    refine (HRH.out w2 B2.out).mono ?_
    rintro e w3 ⟨rfl, hb3⟩
    have B3 := Lib.hid (B2.out.trans (hb3.mono B2.out.size))
    have C3 := Lib.hid (C2.out.up hb3)
    clear hb3 c0 c1 c2 c3 c4 c5 c6
    obtain ⟨c0, c1, c2, c3, c4, c5, c6⟩ := C3.out
    simp only [Nat.zero_add] at c1 c2 c3 c4 c5 c6
    have hn1 : ((hr.map T.id).getD 0 != (hr.map T.id).getD 0) = false := by simp
    have hn2 := bne_self6 hr.isSome
    go_wp2_with fail
    refine (HLI.out w3 B3.out).mono ?_
    rintro e w4 ⟨v4, rfl, hr4, hb4⟩
    have B4 := Lib.hid (B3.out.trans (hb4.mono B3.out.size))
    have C4 := Lib.hid (C3.out.up hb4)
    have HR4 := Lib.hid hr4
    obtain ⟨a4, cap4, rfl⟩ := hr4.shape
    clear hb4 hr4 c0 c1 c2 c3 c4 c5 c6
    have hll := HLL.out
    go_wp2
    go_loopg [11, 13] (ll.length + 1) (fun g n i wr => ∃ (k : Nat) (b : Bool), g + k = ll.length + 1 ∧ k ≤ ll.length ∧ i = .int .i64 k ∧ n = .bool b ∧ b = lineHas x y (ll.take k) ∧ Below w4.heap.size w4 wr)
    case atStart => exact ⟨0, false, by omega, by omega, rfl, rfl, by simp [lineHas], Below.refl _ _⟩
    case round =>
      obtain ⟨k, lb, hg, hk, rfl, rfl, hlb, hb⟩ := hrel
      have HGK := Lib.hid hg
      have HLB := Lib.hid hlb
      have HB := Lib.hid hb
      clear hg hb hlb
      have BW := Lib.hid (B4.out.trans (HB.out.mono B4.out.size))
      by_cases hlt : k < ll.length
      · have hlti : (k : Int) < (ll.length : Int) := by omega
        obtain ⟨b, o, ha, hf⟩ := HR4.out.place (by omega)
        subst ha
        obtain ⟨q, hq⟩ : ∃ q, ll[k]? = some q := ⟨_, List.getElem?_eq_getElem hlt⟩
        have HST := Lib.hid (line_step (x := x) (y := y) hq)
        cases lb with
        | true =>
          clear hf hq
          go_wp2
          go_roundg (gk - 1)
          case measure => have := HGK.out; omega
          case rel => exact ⟨k + 1, true, by have := HGK.out; omega, by omega, by go_num, rfl, by rw [HST.out, ← HLB.out]; rfl, HB.out⟩
        | false =>
          obtain ⟨e0, e1, e2, e3⟩ := (hf k q hq).up HB.out
          have HK := Lib.hid (rhas_any q x y wr (HLF.out q (List.mem_of_getElem? hq)))
          clear hf hq
          generalize hasB q x y = mb at HK HST
          go_wp2_with fail
          refine HK.out.mono ?_
          rintro e w5 ⟨rfl, hb5⟩
          have HB5 := Lib.hid (HB.out.trans (hb5.mono HB.out.size))
          clear hb5
          go_wp2
          go_roundg (gk - 1)
          case measure => have := HGK.out; omega
          case rel => exact ⟨k + 1, mb, by have := HGK.out; omega, by omega, by go_num, by first | rfl | simp, by rw [HST.out, ← HLB.out]; simp, HB5.out⟩
      · obtain rfl : k = ll.length := by omega
        have hkl : ((ll.length : Int) < (ll.length : Int)) = False := by simp
        have HLB2 : Hid (lineHas x y ll = lb) := Lib.hid (by have := HLB.out; rw [List.take_length] at this; exact this.symm)
        rw [HLB2.out] at HON2
        have HR5 := Lib.hid (HRT.out wr BW.out)
        obtain ⟨c0, c1, c2, c3, c4, c5, c6⟩ := C4.out.up HB.out
        have C5 := Lib.hid (C4.out.up HB.out)
        simp only [Nat.zero_add] at c1 c2 c3 c4 c5 c6
        cases tb with
        | false =>
          go_wp2_with fail
          refine HR5.out.mono ?_
          rintro e w6 ⟨rfl, hb6⟩
          have B6 := Lib.hid (BW.out.trans (hb6.mono BW.out.size))
          clear hb6 c0 c1 c2 c3 c4 c5 c6
          go_wp2_with fail
          refine (awake6_any w6).mono ?_
          rintro e w7 ⟨rfl, hb7⟩
          have B7 := Lib.hid (B6.out.trans (hb7.mono B6.out.size))
          clear hb7
          go_wp2
          go_ret
          exact ⟨rfl, B7.out⟩
        | true =>
          have HON3 := Lib.hid (HON2.out rfl)
          go_wp2_with fail
          refine HR5.out.mono ?_
          rintro e w6 ⟨rfl, hb6⟩
          have B6 := Lib.hid (BW.out.trans (hb6.mono BW.out.size))
          have C6 := Lib.hid (C5.out.up hb6)
          clear hb6 c0 c1 c2 c3 c4 c5 c6
          obtain ⟨c0, c1, c2, c3, c4, c5, c6⟩ := C6.out
          simp only [Nat.zero_add] at c1 c2 c3 c4 c5 c6
          have HHC := Lib.hid (rhas_any c.r x y w6 HRF.out)
          cases hh : hasB c.r x y with
          | false =>
            rw [hh] at HHC
            clear hh
            go_wp2_with fail
            refine HHC.out.mono ?_
            rintro e w7 ⟨rfl, hb7⟩
            have B7 := Lib.hid (B6.out.trans (hb7.mono B6.out.size))
            clear hb7 c0 c1 c2 c3 c4 c5 c6
            go_wp2_with fail
            refine (awake6_any w7).mono ?_
            rintro e w8 ⟨rfl, hb8⟩
            have B8 := Lib.hid (B7.out.trans (hb8.mono B7.out.size))
            clear hb8
            go_wp2
            go_ret
            exact ⟨rfl, B8.out⟩
          | true =>
            rw [hh] at HHC
            have hne := HON3.out hh
            clear hh
            have hlb : lb = !hr.isSome := by
              cases h1 : hr.isSome <;> cases lb <;> rw [h1] at hne <;> first | rfl | cases hne
            clear hne
            go_wp2_with fail
            refine HHC.out.mono ?_
            rintro e w7 ⟨rfl, hb7⟩
            have B7 := Lib.hid (B6.out.trans (hb7.mono B6.out.size))
            clear hb7 c0 c1 c2 c3 c4 c5 c6
            rcases hr with _ | z
            all_goals
              simp only [Option.isSome_none, Option.isSome_some, Bool.not_false, Bool.not_true] at hlb
              subst hlb
              go_wp2_with fail
              refine (awake6_any w7).mono ?_
              rintro e w8 ⟨rfl, hb8⟩
              have B8 := Lib.hid (B7.out.trans (hb8.mono B7.out.size))
              clear hb8
              go_wp2
              go_ret
              exact ⟨rfl, B8.out⟩

theorem tileHits_wf (v : Value) (t : T) (c : C) (x y : Int) (w : World) (e : v = cval c) (hi : Is w c t) (hs : sz t ≤ 1048576) : Calls Try.prog 6 #[v, .int .i64 x, .int .i64 y] w fun e w' => e = .returned (.bool true) ∧ Below w.heap.size w w' := by
  subst e
  exact tileHits_any t c x y w hi (by omega)
end Go.Proofs.Ytibjpkicchdomaa
