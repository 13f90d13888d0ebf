/- The law FlatNexts. -/
import Derived.Test.YtlpklpkalcgeaaaRNext
import Derived.Test.YtlpklpkalcgeaaaAwake7
import Derived.Test.YtlpklpkalcgeaaaRMay
namespace Go.Proofs.Ytlpklpkalcgeaaa
open Go.RowKit

theorem panes_ids (t : T) : (panesT t).map Pn.id = ((preT t).filter leafB).map T.id := by
  unfold panesT; rw [List.map_map]; rfl
theorem may_nodup {t : T} (h : rmayT t = true) : ((panesT t).map Pn.id).Nodup := by
  rw [panes_ids]
  unfold rmayT at h
  rw [Bool.and_eq_true] at h
  exact of_decide_eq_true h.2
theorem idx_nodup {l : List Pn} {j : Nat} {q : Pn} (h : (l.map Pn.id).Nodup) (hq : l[j]? = some q) : idxP l q.id = some j := by
  refine idx_some (fun k p hk hp e => ?_) hq rfl
  unfold List.Nodup at h
  rw [List.pairwise_iff_getElem] at h
  obtain ⟨hj, rfl⟩ := List.getElem?_eq_some_iff.1 hq
  obtain ⟨hk', rfl⟩ := List.getElem?_eq_some_iff.1 hp
  have := h k j (by simpa using hk') (by simpa using hj) hk
  simp at this
  exact this e
theorem round_back {n i j : Nat} {x : Int} (hi : i < n) (h : ((i : Int) + x) % (n : Int) = j) : ((j : Int) + -x) % (n : Int) = i := by
  have h1 := Int.mul_ediv_add_emod ((i : Int) + x) n
  rw [h] at h1
  have h2 : (j : Int) + -x = (i : Int) + n * (-(((i : Int) + x) / n)) := by rw [Int.mul_neg]; omega
  rw [h2, Int.add_mul_emod_self_left, Int.emod_eq_of_lt (by omega) (by omega)]
theorem next_back {l : List Pn} {id x : Int} (hn : (l.map Pn.id).Nodup) (h : (nextP l id x).2 = true) : nextP l (nextP l id x).1 (-x) = (id, true) := by
  cases hix : idxP l id with
  | none => rw [nextP_none hix] at h; cases h
  | some i =>
    obtain ⟨p, hp, hpi, -⟩ := idx_at hix
    have hil := lt_of_get hp
    obtain ⟨j, hj, hjl⟩ := round_at (show 0 < l.length by omega) ((i : Int) + x)
    obtain ⟨q, hq⟩ := get_of rfl hjl
    rw [nextP_some hix hj hq]
    simp only
    rw [nextP_some (idx_nodup hn hq) (round_back hil hj) hp, hpi]

set_option maxRecDepth 100000 in
set_option maxHeartbeats 4000000 in
theorem flatNexts_any (t : T) (c : C) (id by_ : Int) (w : World) (hi : Is w c t) (hs : sz t ≤ 1099511627776) : Calls Try.prog 5 #[cval c, .int .i64 id, .int .i64 by_] w fun e w' => e = .returned (.bool true) ∧ Below w.heap.size w w' := by
  have A1 : Hid (Below w.heap.size w (w.alloc (cbox c))) := (Below.refl _ _).alloc (Nat.le_refl _) _
  have HI := Lib.hid hi
  have X1 := Lib.hid (cbox_new w c)
  have HGR := Lib.hid (great_any t c _ (hi.up A1.out))
  have HS := Lib.hid hs
  clear hi hs
  go_enter Try.func5, Try.ntmps5
  go_wp2_with fail
  refine HGR.out.mono ?_
  rintro e w1 ⟨g, rfl, hg, hb1⟩
  have B1 := Lib.hid (A1.out.trans (hb1.mono A1.out.size))
  have C1 := Lib.hid (X1.out.up hb1)
  have HF := Lib.hid hg
  clear hb1 hg
  cases g with
  | true =>
    go_wp2_with fail
    refine (awake_any w1).mono ?_
    rintro e w2 ⟨rfl, hb2⟩
    have B2 := Lib.hid (B1.out.trans (hb2.mono B1.out.size))
    clear hb2
    go_wp2
    go_ret
    exact ⟨rfl, B2.out⟩
  | false =>
    have hsz : sz t ≤ 200 := HF.out rfl HS.out
    have HSZ := Lib.hid hsz
    clear hsz
    have HX := Lib.hid (fun W x b (h : Below w.heap.size w W) => next_any t c x b W (by have := HSZ.out; omega) (HI.out.up h))
    have HY := Lib.hid (fun W x b (h : Below w.heap.size w W) => rnext_any t c x b W (by have := HSZ.out; omega) (HI.out.up h))
    have HM := Lib.hid (fun W (h : Below w.heap.size w W) => rmayOne_any t c W (by have := HSZ.out; omega) (HI.out.up h))
    have HBK : Hid (rmayT t = true → (nextP (panesT t) id by_).2 = true → nextP (panesT t) (nextP (panesT t) id by_).1 (-by_) = (id, true)) := Lib.hid (fun h h2 => next_back (may_nodup h) h2)
    generalize panesT t = l at HX HY HBK
    generalize rmayT t = mt at HM HBK
    obtain ⟨c0, c1, c2, c3, c4, c5, c6⟩ := C1.out
    simp only [Nat.zero_add] at c1 c2 c3 c4 c5 c6
    go_wp2_with fail
    refine (HX.out w1 id by_ B1.out).mono ?_
    rintro e w2 ⟨rfl, hb2⟩
    have B2 := Lib.hid (B1.out.trans (hb2.mono B1.out.size))
    have C2 := Lib.hid (C1.out.up hb2)
    clear hb2 c0 c1 c2 c3 c4 c5 c6
    obtain ⟨c0, c1, c2, c3, c4, c5, c6⟩ := C2.out
    simp only [Nat.zero_add] at c1 c2 c3 c4 c5 c6
    go_wp2_with fail
    refine (HY.out w2 id by_ B2.out).mono ?_
    rintro e w3 ⟨rfl, hb3⟩
    have B3 := Lib.hid (B2.out.trans (hb3.mono B2.out.size))
    have C3 := Lib.hid (C2.out.up hb3)
    clear hb3 c0 c1 c2 c3 c4 c5 c6
    obtain ⟨c0, c1, c2, c3, c4, c5, c6⟩ := C3.out
    simp only [Nat.zero_add] at c1 c2 c3 c4 c5 c6
    have HX2 := Lib.hid (fun W x b h => HX.out W x b h)
    clear HX HY
    generalize nextP l id by_ = res at HBK ⊢
    obtain ⟨x, ok⟩ := res
    simp only at HBK ⊢
    have dx : (x != x) = false := by simp
    have dok : (ok != ok) = false := by simp
    cases ok with
    | false =>
      go_wp2_with fail
      refine (awake_any w3).mono ?_
      rintro e w4 ⟨rfl, hb4⟩
      have B4 := Lib.hid (B3.out.trans (hb4.mono B3.out.size))
      clear hb4
      go_wp2
      go_ret
      exact ⟨rfl, B4.out⟩
    | true =>
      by_cases h1 : by_ < -1099511627776
      · have d1 : decide (by_ < -1099511627776) = true := decide_eq_true h1
        go_wp2_with fail
        refine (awake_any w3).mono ?_
        rintro e w4 ⟨rfl, hb4⟩
        have B4 := Lib.hid (B3.out.trans (hb4.mono B3.out.size))
        clear hb4
        go_wp2
        go_ret
        exact ⟨rfl, B4.out⟩
      have d1 : decide (by_ < -1099511627776) = false := decide_eq_false h1
      by_cases h2 : 1099511627776 < by_
      · have d2 : decide (1099511627776 < by_) = true := decide_eq_true h2
        go_wp2_with fail
        refine (awake_any w3).mono ?_
        rintro e w4 ⟨rfl, hb4⟩
        have B4 := Lib.hid (B3.out.trans (hb4.mono B3.out.size))
        clear hb4
        go_wp2
        go_ret
        exact ⟨rfl, B4.out⟩
      have d2 : decide (1099511627776 < by_) = false := decide_eq_false h2
      go_wp2_with fail
      refine (HM.out w3 B3.out).mono ?_
      rintro e w4 ⟨rfl, hb4⟩
      have B4 := Lib.hid (B3.out.trans (hb4.mono B3.out.size))
      have C4 := Lib.hid (C3.out.up hb4)
      clear hb4 c0 c1 c2 c3 c4 c5 c6
      cases mt with
      | false =>
        go_wp2_with fail
        refine (awake_any w4).mono ?_
        rintro e w5 ⟨rfl, hb5⟩
        have B5 := Lib.hid (B4.out.trans (hb5.mono B4.out.size))
        clear hb5
        go_wp2
        go_ret
        exact ⟨rfl, B5.out⟩
      | true =>
        have HBK2 := Lib.hid (HBK.out (by trivial) (by trivial))
        have sn : IntKind.i64.wrap (-by_) = -by_ := wrap_id (by omega)
        obtain ⟨c0, c1, c2, c3, c4, c5, c6⟩ := C4.out
        simp only [Nat.zero_add] at c1 c2 c3 c4 c5 c6
        have HXX := Lib.hid (HX2.out w4 x (-by_) B4.out)
        rw [HBK2.out] at HXX
        go_wp2_with fail
        refine HXX.out.mono ?_
        rintro e w5 ⟨rfl, hb5⟩
        have B5 := Lib.hid (B4.out.trans (hb5.mono B4.out.size))
        clear hb5
        have did : (id == id) = true := by simp
        go_wp2_with fail
        refine (awake_any w5).mono ?_
        rintro e w6 ⟨rfl, hb6⟩
        have B6 := Lib.hid (B5.out.trans (hb6.mono B5.out.size))
        clear hb6
        go_wp2
        go_ret
        exact ⟨rfl, B6.out⟩

theorem flatNexts_wf (t : T) (c : C) (id by_ : Int) (v : Value) (w : World) (hv : v = cval c) (hi : Is w c t) (hs : sz t ≤ 1048576) : Calls Try.prog 5 #[v, .int .i64 id, .int .i64 by_] w fun e w' => e = .returned (.bool true) ∧ Below w.heap.size w w' := by
  subst hv
  exact flatNexts_any t c id by_ w hi (by omega)
end Go.Proofs.Ytlpklpkalcgeaaa
