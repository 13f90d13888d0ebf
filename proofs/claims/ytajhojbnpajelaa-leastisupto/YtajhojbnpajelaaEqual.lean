/- Are the rectangles of cells these? -/
import Derived.Test.YtajhojbnpajelaaREq
import Derived.Test.YtajhojbnpajelaaCnt
import Derived.Test.YtajhojbnpajelaaNoneIn
namespace Go.Proofs.Ytajhojbnpajelaa
open Go.RowKit

theorem enters65 : Enters 58 := enters_of Try.func58 (by kernel_rfl) rfl
set_option maxRecDepth 100000 in
theorem btw1_any (c : C) (q : R) (w : World) : Calls Try.prog 58 #[cval c, val q] w fun e w' => e = .returned (.bool (decide (c.r = q))) ∧ Below w.heap.size w w' := by
  have hg := eq_guard
  have hE : ∀ w, (Op.equalIn 10000 23 (.agg #[.int .i64 c.r.x, .int .i64 c.r.y, .int .i64 c.r.w, .int .i64 c.r.h]) (.agg #[.int .i64 q.x, .int .i64 q.y, .int .i64 q.w, .int .i64 q.h])).run Try.prog w = .ok (decide (c.r = q)) w := eq_run c.r q
  have HB : Hid (Below w.heap.size w ((w.alloc (cbox c)).alloc (box q))) := ((Below.refl _ _).alloc (Nat.le_refl _) _).alloc (by simp) _
  generalize decide (c.r = q) = bb at hE ⊢
  go_enter Try.func58, Try.ntmps58
  go_wp2
  go_ret
  exact ⟨rfl, HB.out⟩

theorem eqR_len {l : List T} {m : List R} (h : l.length ≠ m.length) : decide (l.map T.r = m) = false := by
  apply decide_eq_false; intro e; rw [← e] at h; simp at h
theorem eqR_no {l : List T} {m : List R} {k : Nat} {t : T} {q : R} (ht : l[k]? = some t) (hq : m[k]? = some q) (h : t.r ≠ q) : decide (l.map T.r = m) = false := by
  apply decide_eq_false; intro e; rw [← e] at hq; simp [ht] at hq; exact h hq
theorem eqR_yes {l : List T} {m : List R} (hl : l.length = m.length) (h : ∀ (k : Nat) (t : T) (q : R), l[k]? = some t → m[k]? = some q → t.r = q) : decide (l.map T.r = m) = true := by
  apply decide_eq_true
  apply List.ext_getElem?
  intro k
  rcases Nat.lt_or_ge k l.length with hk | hk
  · have h1 := List.getElem?_eq_getElem hk
    have h2 := List.getElem?_eq_getElem (show k < m.length by omega)
    rw [List.getElem?_map, h1, h2]
    simp [h k _ _ h1 h2]
  · rw [List.getElem?_eq_none (by simpa using hk), List.getElem?_eq_none (by omega)]

set_option maxRecDepth 100000 in
set_option maxHeartbeats 800000 in
theorem equalR_any (l : List T) (m : List R) (v v' : Value) (w : World) (h1 : TRow w v l) (h2 : RRow w v' m) (hl : l.length ≤ 1954687338211) :
    Calls Try.prog 57 #[v, v', .func (.func 58) #[] #[]] w fun e w' => e = .returned (.bool (decide (l.map T.r = m))) ∧ Below w.heap.size w w' := by
  have hent : ∀ (args : Array Value) (w : World), (callFunc 58 args).run Try.prog w = .ok (.enter 58 args) w := enters65
  obtain ⟨a1, cap1, rfl⟩ := h1.shape
  obtain ⟨a2, cap2, rfl⟩ := h2.shape
  have H1 := Lib.hid h1
  have H2 := Lib.hid h2
  clear h1 h2
  by_cases hlen : l.length = m.length
  · have d0 : ((l.length : Int) != (m.length : Int)) = false := by simp; omega
    have HLEN := Lib.hid hlen
    rw [← hlen] at d0
    have hgo : Value.slice a2 m.length cap2 = .slice a2 l.length cap2 := by rw [hlen]
    rw [hgo]
    clear hlen hgo
    go_enter Try.func57, Try.ntmps57
    go_wp2
    go_loopg [17] (l.length + 1) (fun g i wr => ∃ k : Nat, g + k = l.length + 1 ∧ k ≤ l.length ∧ i = .int .i64 k ∧ (∀ (j : Nat) (t : T) (q : R), j < k → l[j]? = some t → m[j]? = some q → t.r = q) ∧ Below w.heap.size w wr)
    case atStart => exact ⟨0, by omega, by omega, rfl, fun j t u hj => by omega, Below.refl _ _⟩
    case round =>
      obtain ⟨k, hg, hk, rfl, hsame, hb⟩ := hrel
      have HG := Lib.hid hg
      have HSM := Lib.hid hsame
      have HB := Lib.hid hb
      clear hg hsame hb
      by_cases hlt : k < l.length
      · obtain ⟨t, ht⟩ : ∃ t, l[k]? = some t := ⟨_, List.getElem?_eq_getElem hlt⟩
        obtain ⟨q, hq⟩ : ∃ q, m[k]? = some q := ⟨_, List.getElem?_eq_getElem (by have := HLEN.out; omega)⟩
        obtain ⟨b1, o1, rfl, hf1⟩ := H1.out.place (by omega)
        obtain ⟨b2, o2, rfl, hf2⟩ := H2.out.place (by have := HLEN.out; omega)
        obtain ⟨x, hx, hix⟩ := hf1 k t ht
        have hy := hf2 k q hq
        have hxr : t.r = x.r := hix.split.2.1
        clear hf1 hf2
        obtain ⟨c0, c1, c2, c3, c4, c5, c6⟩ := hx.up HB.out
        obtain ⟨e0, e1, e2, e3⟩ := hy.up HB.out
        have hlb : b2 < wr.heap.size := lt_of_cell e0
        have hne : b2 ≠ wr.heap.size := by omega
        have HC := Lib.hid (btw1_any x q ((wr.alloc (cbox x)).alloc (box q)))
        have HT := Lib.hid ht
        have HU := Lib.hid hq
        have HXR := Lib.hid hxr
        clear ht hq hx hy hix hxr
        by_cases hst : x.r = q
        · rw [decide_eq_true hst] at HC
          have HST := Lib.hid hst
          clear hst
          go_wp2_with fail
          refine HC.out.mono ?_
          rintro e w2 ⟨rfl, hb2⟩
          have HB2 := Lib.hid hb2
          clear hb2
          go_wp2
          go_roundg (gk - 1)
          case measure => have := HG.out; omega
          case rel =>
            refine ⟨k + 1, by have := HG.out; omega, by omega, by go_num, fun j a b hj ha hb => ?_, HB.out.trans ((below_one (below_one HB2.out)).mono HB.out.size)⟩
            rcases Nat.lt_or_ge j k with h | h
            · exact HSM.out j a b h ha hb
            · obtain rfl : j = k := by omega
              rw [HT.out] at ha; rw [HU.out] at hb
              cases ha; cases hb
              rw [HXR.out]; exact HST.out
        · rw [decide_eq_false hst] at HC
          have HST := Lib.hid (eqR_no HT.out HU.out (by rw [HXR.out]; exact hst))
          clear hst
          go_wp2_with fail
          refine HC.out.mono ?_
          rintro e w2 ⟨rfl, hb2⟩
          have HB2 := Lib.hid hb2
          clear hb2
          go_wp2
          go_ret
          exact ⟨by rw [HST.out]; rfl, HB.out.trans ((below_one (below_one HB2.out)).mono HB.out.size)⟩
      · obtain rfl : k = l.length := by omega
        have hkl : ((l.length : Int) < (l.length : Int)) = False := by simp
        have HST := Lib.hid (eqR_yes HLEN.out (fun k t u ht hu => HSM.out k t u (by
          rcases Nat.lt_or_ge k l.length with h | h
          · exact h
          · rw [List.getElem?_eq_none h] at ht; cases ht) ht hu))
        go_wp2
        go_ret
        exact ⟨by rw [HST.out]; rfl, HB.out⟩
  · have d0 : ((l.length : Int) != (m.length : Int)) = true := by simp; omega
    have d1 : (l.length == m.length) = false := by simpa using hlen
    have HV := Lib.hid (eqR_len hlen)
    go_enter Try.func57, Try.ntmps57
    go_wp2
    go_ret
    exact ⟨by rw [HV.out]; rfl, Below.refl _ _⟩
end Go.Proofs.Ytajhojbnpajelaa
