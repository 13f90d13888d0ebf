/- The document's own answers of many rectangles: may all be, are they apart, how many cells. -/
import Derived.Test.YtibjpkicchdomaaWholeM
import Derived.BigQuiet
import Derived.Deep.QuietTactic
import Derived.StillTailTactics
namespace Go.Proofs.Ytibjpkicchdomaa
open Go.RowKit

def apartP (a b : R) : Prop := a.x + a.w ≤ b.x ∨ b.x + b.w ≤ a.x ∨ a.y + a.h ≤ b.y ∨ b.y + b.h ≤ a.y
instance (a b : R) : Decidable (apartP a b) := by unfold apartP; infer_instance
theorem apartP.symm {a b : R} (h : apartP a b) : apartP b a := by unfold apartP at *; omega
def apartB (l : List R) : Bool := mays l && decide (l.Pairwise apartP)
theorem takeR_succ {l : List R} {k : Nat} {r : R} (h : l[k]? = some r) : l.take (k + 1) = l.take k ++ [r] := by rw [List.take_add_one, h]; rfl

def wr64 (n : Int) : Int := IntKind.i64.wrap n
/-- As the document's own answer reckons it. -/
def rapB (q r : R) : Bool := decide (wr64 (q.x + q.w) ≤ r.x) || decide (wr64 (r.x + r.w) ≤ q.x) || decide (wr64 (q.y + q.h) ≤ r.y) || decide (wr64 (r.y + r.h) ≤ q.y)

set_option maxRecDepth 100000 in
set_option maxHeartbeats 1600000 in
theorem rapart_any (q r : R) (w : World) :
    Calls Try.prog 43 #[val q, val r] w fun e w' => e = .returned (.bool (rapB q r)) ∧ Below w.heap.size w w' := by
  have B1 : Hid (Below w.heap.size w ((w.alloc (box q)).alloc (box r))) := ((Below.refl _ _).alloc (Nat.le_refl _) _).alloc (by simp) _
  have s1 : ∃ n, wr64 (q.x + q.w) = n := ⟨_, rfl⟩
  obtain ⟨n1, s1⟩ := s1
  have s2 : ∃ n, wr64 (r.x + r.w) = n := ⟨_, rfl⟩
  obtain ⟨n2, s2⟩ := s2
  have s3 : ∃ n, wr64 (q.y + q.h) = n := ⟨_, rfl⟩
  obtain ⟨n3, s3⟩ := s3
  have s4 : ∃ n, wr64 (r.y + r.h) = n := ⟨_, rfl⟩
  obtain ⟨n4, s4⟩ := s4
  have hv : Hid (rapB q r = (decide (n1 ≤ r.x) || decide (n2 ≤ q.x) || decide (n3 ≤ r.y) || decide (n4 ≤ q.y))) := (by rw [rapB, s1, s2, s3, s4] : rapB q r = _)
  have t1 : IntKind.i64.wrap (q.x + q.w) = n1 := s1
  have t2 : IntKind.i64.wrap (r.x + r.w) = n2 := s2
  have t3 : IntKind.i64.wrap (q.y + q.h) = n3 := s3
  have t4 : IntKind.i64.wrap (r.y + r.h) = n4 := s4
  clear s1 s2 s3 s4
  rcases bool_cases (decide (n1 ≤ r.x)) with d1 | d1 <;> rcases bool_cases (decide (n2 ≤ q.x)) with d2 | d2 <;> rcases bool_cases (decide (n3 ≤ r.y)) with d3 | d3 <;> rcases bool_cases (decide (n4 ≤ q.y)) with d4 | d4
  all_goals
    rw [d1, d2, d3, d4] at hv
    go_enter Try.func43, Try.ntmps43
    go_wp2
    go_ret
    exact ⟨by rw [hv.out]; rfl, B1.out⟩

theorem mays_take {l : List R} {k : Nat} {r : R} (h : l[k]? = some r) : mays (l.take (k + 1)) = (mays (l.take k) && mayB r) := by
  unfold mays; rw [takeR_succ h, List.all_append]; simp

theorem mays_no {l : List R} {r : R} (h : r ∈ l) (hr : mayB r = false) : mays l = false := by
  cases e : mays l with
  | false => rfl
  | true => rw [List.all_eq_true.1 e r h] at hr; cases hr

set_option maxRecDepth 100000 in
theorem rallR_any (v : Value) (l : List R) (w : World) (hr : RRow w v l) (hlen : l.length ≤ 100000) (hf : fitsAll l) :
    Calls Try.prog 44 #[v] w fun e w' => e = .returned (.bool (mays l)) ∧ Below w.heap.size w w' := by
  obtain ⟨a, cap, rfl⟩ := hr.shape
  have HR := Lib.hid hr
  have HF := Lib.hid hf
  clear hr hf
  go_enter Try.func44, Try.ntmps44
  go_wp2
  go_loopg [6] (l.length + 1) (fun g i wr => ∃ k : Nat, g + k = l.length + 1 ∧ k ≤ l.length ∧ i = .int .i64 k ∧ Below w.heap.size w wr ∧ mays (l.take k) = true)
  case atStart => exact ⟨0, by omega, by omega, rfl, Below.refl _ _, rfl⟩
  case round =>
    obtain ⟨k, hg, hk, rfl, hb, hm⟩ := hrel
    have HB : Hid (Below w.heap.size w wr ∧ mays (l.take k) = true ∧ gk + k = l.length + 1) := ⟨hb, hm, hg⟩
    clear hb hm hg
    by_cases hlt : k < l.length
    · obtain ⟨r, hfk⟩ : ∃ r, l[k]? = some r := ⟨_, List.getElem?_eq_getElem hlt⟩
      obtain ⟨b, o, rfl, hat⟩ := HR.out.place (by omega)
      obtain ⟨c0, c1, c2, c3⟩ := (hat k r hfk).up HB.out.1
      have HK := Lib.hid hfk
      clear hat hfk
      have HC := Lib.hid (rmay_any r wr (HF.out r (List.mem_of_getElem? HK.out)))
      rcases bool_cases (mayB r) with hm | hm
      · rw [hm] at HC
        go_wp2_with fail
        refine HC.out.mono ?_
        rintro e w2 ⟨rfl, hb2⟩
        have B2 := Lib.hid (HB.out.1.trans (hb2.mono HB.out.1.size))
        clear hb2
        go_wp2
        go_roundg (gk - 1)
        case measure => have := HB.out.2.2; omega
        case rel =>
          refine ⟨k + 1, ?_, by omega, by go_num, B2.out, ?_⟩
          · have := HB.out.2.2; omega
          · rw [mays_take HK.out, HB.out.2.1, hm]; rfl
      · rw [hm] at HC
        go_wp2_with fail
        refine HC.out.mono ?_
        rintro e w2 ⟨rfl, hb2⟩
        have B2 := Lib.hid (HB.out.1.trans (hb2.mono HB.out.1.size))
        clear hb2
        go_wp2
        go_ret
        exact ⟨by rw [mays_no (List.mem_of_getElem? HK.out) hm]; rfl, B2.out⟩
    · obtain rfl : k = l.length := by omega
      have hkl : ((l.length : Int) < (l.length : Int)) = False := by simp
      go_wp2
      go_ret
      have := HB.out.2.1
      rw [List.take_length] at this
      exact ⟨by rw [this]; rfl, HB.out.1⟩

theorem rap_may {a b : R} (ha : mayB a = true) (hb : mayB b = true) : rapB a b = decide (apartP a b) := by
  have h1 := (mayB_iff a).1 ha
  have h2 := (mayB_iff b).1 hb
  unfold rapB wr64
  rw [wrap_id (n := a.x + a.w) (by omega), wrap_id (n := b.x + b.w) (by omega), wrap_id (n := a.y + a.h) (by omega), wrap_id (n := b.y + b.h) (by omega)]
  rw [Bool.eq_iff_iff]
  simp only [Bool.or_eq_true, decide_eq_true_eq, or_assoc]
  exact Iff.rfl

theorem apart_no {l : List R} {i k : Nat} {a b : R} (hki : k < i) (hi : l[i]? = some a) (hk : l[k]? = some b) (h : rapB a b = false) : apartB l = false := by
  rcases bool_cases (mays l) with hm | hm
  · have ha := List.all_eq_true.1 hm a (List.mem_of_getElem? hi)
    have hb := List.all_eq_true.1 hm b (List.mem_of_getElem? hk)
    rw [rap_may ha hb] at h
    rw [apartB, hm, Bool.true_and]
    apply decide_eq_false
    intro hp
    rw [List.pairwise_iff_getElem] at hp
    obtain ⟨h1, h2⟩ := List.getElem?_eq_some_iff.1 hi
    obtain ⟨h3, h4⟩ := List.getElem?_eq_some_iff.1 hk
    have := (hp k i h3 h1 hki).symm
    rw [h2, h4] at this
    exact of_decide_eq_false h this
  · rw [apartB, hm]; rfl

theorem apart_yes {l : List R} (h : ∀ (i k : Nat) (a b : R), k < i → l[i]? = some a → l[k]? = some b → rapB a b = true) : apartB l = mays l := by
  rcases bool_cases (mays l) with hm | hm
  · rw [apartB, hm, Bool.true_and]
    apply decide_eq_true
    rw [List.pairwise_iff_getElem]
    intro i j hi hj hij
    have ha := List.all_eq_true.1 hm l[j] (List.getElem_mem hj)
    have hb := List.all_eq_true.1 hm l[i] (List.getElem_mem hi)
    have := h j i _ _ hij (List.getElem?_eq_getElem hj) (List.getElem?_eq_getElem hi)
    rw [rap_may ha hb] at this
    exact (of_decide_eq_true this).symm
  · rw [apartB, hm]; rfl

set_option maxRecDepth 100000 in
set_option maxHeartbeats 1600000 in
theorem raparts_any (v : Value) (l : List R) (w : World) (hr : RRow w v l) (hlen : l.length ≤ 100000) (hf : fitsAll l) :
    Calls Try.prog 21 #[v] w fun e w' => e = .returned (.bool (apartB l)) ∧ Below w.heap.size w w' := by
  obtain ⟨a, cap, rfl⟩ := hr.shape
  have HR := Lib.hid hr
  have HF := Lib.hid hf
  clear hr hf
  go_enter Try.func21, Try.ntmps21
  go_wp2
  go_loopg [7] (l.length + 1) (fun g i wr => ∃ n : Nat, g + n = l.length + 1 ∧ n ≤ l.length ∧ i = .int .i64 n ∧ Below w.heap.size w wr ∧ ∀ (i k : Nat) (a b : R), i < n → k < i → l[i]? = some a → l[k]? = some b → rapB a b = true)
  case atStart => exact ⟨0, by omega, by omega, rfl, Below.refl _ _, fun i k a b h => by omega⟩
  case round =>
    obtain ⟨n, hg, hn, rfl, hb, hm⟩ := hrel
    obtain rfl : gk = l.length + 1 - n := by omega
    have HB : Hid (Below w.heap.size w wr ∧ ∀ (i k : Nat) (a b : R), i < n → k < i → l[i]? = some a → l[k]? = some b → rapB a b = true) := ⟨hb, hm⟩
    clear hb hm hg
    by_cases hlt : n < l.length
    · obtain ⟨q, hfq⟩ : ∃ q, l[n]? = some q := ⟨_, List.getElem?_eq_getElem hlt⟩
      obtain ⟨b, o, rfl, hat⟩ := HR.out.place (by omega)
      have HT := Lib.hid hat
      have HQ := Lib.hid hfq
      clear hat hfq
      go_wp2
      go_loopg [4] (n + 1) (fun g i wr' => ∃ k : Nat, g + k = n + 1 ∧ k ≤ n ∧ i = .int .i64 k ∧ Below w.heap.size w wr' ∧ ∀ (k' : Nat) (b : R), k' < k → l[k']? = some b → rapB q b = true)
      case atStart => exact ⟨0, by omega, by omega, rfl, HB.out.1, fun i b h => by omega⟩
      case round =>
        obtain ⟨k, hg2, hk, rfl, hb2, hm2⟩ := hrel
        have HB2 : Hid (Below w.heap.size w wr ∧ gk + k = n + 1 ∧ ∀ (k' : Nat) (b : R), k' < k → l[k']? = some b → rapB q b = true) := ⟨hb2, hg2, hm2⟩
        clear hb2 hg2 hm2
        by_cases hkn : k < n
        · obtain ⟨r, hfr⟩ : ∃ r, l[k]? = some r := ⟨_, List.getElem?_eq_getElem (by omega)⟩
          obtain ⟨c0, c1, c2, c3⟩ := (HT.out k r hfr).up HB2.out.1
          obtain ⟨e0, e1, e2, e3⟩ := (HT.out n q HQ.out).up HB2.out.1
          have HK := Lib.hid hfr
          clear hfr
          have d1 : (k : Int) < (l.length : Int) := by omega
          have d2 : (n : Int) < (l.length : Int) := by omega
          have BD := Lib.hid HB2.out.1.drew
          rcases bool_cases (rapB q r) with hq | hq
          · go_wp2
            go_still_tail 8, (by kernel_rfl)
            change wpList _ _ _ _ _ wr.drew
            generalize wr.drew = w2 at BD ⊢
            clear c0 c1 c2 c3 e0 e1 e2 e3
            go_wp2_with fail
            refine (rapart_any q r w2).mono ?_
            rw [hq]
            rintro e w3 ⟨rfl, hb3⟩
            have B3 := Lib.hid (BD.out.trans (hb3.mono BD.out.size))
            clear hb3
            go_wp2
            go_roundg (gk - 1)
            case measure => have := HB2.out.2.1; omega
            case rel =>
              refine ⟨k + 1, ?_, by omega, by go_num, B3.out, fun k' b' h1 h2 => ?_⟩
              · have := HB2.out.2.1; omega
              · rcases Nat.lt_or_ge k' k with h | h
                · exact HB2.out.2.2 k' b' h h2
                · obtain rfl : k' = k := by omega
                  have := HK.out.symm.trans h2
                  obtain rfl := Option.some.inj this
                  exact hq
          · go_wp2
            go_still_tail 8, (by kernel_rfl)
            change wpList _ _ _ _ _ wr.drew
            generalize wr.drew = w2 at BD ⊢
            clear c0 c1 c2 c3 e0 e1 e2 e3
            go_wp2_with fail
            refine (rapart_any q r w2).mono ?_
            rw [hq]
            rintro e w3 ⟨rfl, hb3⟩
            have B3 := Lib.hid (BD.out.trans (hb3.mono BD.out.size))
            clear hb3
            go_wp2
            go_ret
            exact ⟨by rw [apart_no hkn HQ.out HK.out hq]; rfl, B3.out⟩
        · obtain rfl : k = n := by omega
          have hkl : ((k : Int) < (k : Int)) = False := by simp
          go_wp2
          go_roundg (l.length - k)
          case measure => omega
          case rel =>
            refine ⟨k + 1, by omega, by omega, by go_num, HB2.out.1, fun i k' a' b' h1 h2 h3 h4 => ?_⟩
            rcases Nat.lt_or_ge i k with h | h
            · exact HB.out.2 i k' a' b' h h2 h3 h4
            · obtain rfl : i = k := by omega
              have := HQ.out.symm.trans h3
              obtain rfl := Option.some.inj this
              exact HB2.out.2.2 k' b' h2 h4
    · obtain rfl : n = l.length := by omega
      have hkl : ((l.length : Int) < (l.length : Int)) = False := by simp
      have HA := Lib.hid (rallR_any _ l wr (HR.out.up HB.out.1) hlen HF.out)
      go_wp2_with fail
      refine HA.out.mono ?_
      rintro e w3 ⟨rfl, hb3⟩
      have B3 := Lib.hid (HB.out.1.trans (hb3.mono HB.out.1.size))
      clear hb3
      go_wp2
      go_ret
      refine ⟨?_, B3.out⟩
      rw [apart_yes fun i k a b h1 h2 h3 => HB.out.2 i k a b (List.getElem?_eq_some_iff.1 h2).1 h1 h2 h3]
      rfl

def oneR (r : R) : Int := if mayB r = true then r.w * r.h else 0
theorem oneR_yes {r : R} (h : mayB r = true) : oneR r = r.w * r.h := if_pos h
theorem oneR_no {r : R} (h : mayB r = false) : oneR r = 0 := if_neg (by simp [h])
theorem oneR_bound (r : R) : 0 ≤ oneR r ∧ oneR r ≤ 100000000 := by
  rcases bool_cases (mayB r) with h | h
  · have hb := (mayB_iff r).1 h
    rw [oneR_yes h]
    refine ⟨Int.mul_nonneg (by omega) (by omega), ?_⟩
    have := Int.mul_le_mul (show r.w ≤ 10000 by omega) (show r.h ≤ 10000 by omega) (by omega) (by omega)
    exact this
  · rw [oneR_no h]; omega
def areaL (l : List R) : Int := l.foldl (fun n r => n + oneR r) 0
theorem area_succ {l : List R} {k : Nat} {r : R} (h : l[k]? = some r) : areaL (l.take (k + 1)) = areaL (l.take k) + oneR r := by
  unfold areaL; rw [takeR_succ h, List.foldl_append]; rfl
theorem area_bound (l : List R) : ∀ k, k ≤ l.length → 0 ≤ areaL (l.take k) ∧ areaL (l.take k) ≤ k * 100000000 := by
  intro k
  induction k with
  | zero => intro _; simp [areaL]
  | succ k ih =>
    intro hk
    obtain ⟨r, hr⟩ : ∃ r, l[k]? = some r := ⟨_, List.getElem?_eq_getElem (by omega)⟩
    have := ih (by omega)
    have := oneR_bound r
    rw [area_succ hr]
    omega

set_option maxRecDepth 100000 in
set_option maxHeartbeats 1600000 in
theorem rarea_any (v : Value) (l : List R) (w : World) (hr : RRow w v l) (hlen : l.length ≤ 2000) (hf : fitsAll l) :
    Calls Try.prog 22 #[v] w fun e w' => e = .returned (.int .i64 (areaL l)) ∧ Below w.heap.size w w' := by
  obtain ⟨a, cap, rfl⟩ := hr.shape
  have HR := Lib.hid hr
  have HF := Lib.hid hf
  clear hr hf
  go_enter Try.func22, Try.ntmps22
  go_wp2
  go_loopg [3, 7] (l.length + 1) (fun g s i wr => ∃ k : Nat, g + k = l.length + 1 ∧ k ≤ l.length ∧ i = .int .i64 k ∧ Below w.heap.size w wr ∧ s = .int .i64 (areaL (l.take k)))
  case atStart => exact ⟨0, by omega, by omega, rfl, Below.refl _ _, rfl⟩
  case round =>
    obtain ⟨k, hg, hk, rfl, hb, rfl⟩ := hrel
    have HB : Hid (Below w.heap.size w wr ∧ gk + k = l.length + 1) := ⟨hb, hg⟩
    clear hb hg
    by_cases hlt : k < l.length
    · obtain ⟨r, hfk⟩ : ∃ r, l[k]? = some r := ⟨_, List.getElem?_eq_getElem hlt⟩
      obtain ⟨b, o, rfl, hat⟩ := HR.out.place (by omega)
      have HT := Lib.hid ((hat k r hfk).up HB.out.1)
      obtain ⟨c0, c1, c2, c3⟩ := HT.out
      have HK := Lib.hid hfk
      clear hat hfk
      have HC := Lib.hid (rmay_any r wr (HF.out r (List.mem_of_getElem? HK.out)))
      have hab := area_bound l k (by omega)
      have hob := oneR_bound r
      have HS := Lib.hid (area_succ HK.out)
      have d1 : (k : Int) < (l.length : Int) := by omega
      generalize areaL (l.take k) = n at HS hab ⊢
      rcases bool_cases (mayB r) with hm | hm
      · rw [hm] at HC
        have ho := oneR_yes hm
        have sp : IntKind.i64.wrap (r.w * r.h) = oneR r := by rw [← ho]; exact wrap_id (by omega)
        generalize oneR r = p at sp HS hob
        have sn : IntKind.i64.wrap (n + p) = n + p := wrap_id (by omega)
        clear ho hab hob
        go_wp2_with fail
        refine HC.out.mono ?_
        rintro e w2 ⟨rfl, hb2⟩
        have B2 : Hid (Below w.heap.size w w2) := HB.out.1.trans (hb2.mono HB.out.1.size)
        clear c0 c1 c2 c3
        obtain ⟨c0, c1, c2, c3⟩ := HT.out.up hb2
        clear hb2
        go_wp2
        go_quiet (fail)
        have B3 := Lib.hid B2.out
        go_wp2
        go_roundg (gk - 1)
        case measure => have := HB.out.2; omega
        case rel =>
          refine ⟨k + 1, ?_, by omega, by go_num, ⟨B2.out.os, B2.out.tape, B2.out.output, B2.out.size, B2.out.block⟩, ?_⟩
          · have := HB.out.2; omega
          · rw [HS.out]
      · rw [hm] at HC
        have hz := Lib.hid (oneR_no hm)
        clear hab hob
        go_wp2_with fail
        refine HC.out.mono ?_
        rintro e w2 ⟨rfl, hb2⟩
        have B2 : Hid (Below w.heap.size w w2) := HB.out.1.trans (hb2.mono HB.out.1.size)
        clear hb2
        go_wp2
        go_roundg (gk - 1)
        case measure => have := HB.out.2; omega
        case rel =>
          refine ⟨k + 1, ?_, by omega, by go_num, B2.out, ?_⟩
          · have := HB.out.2; omega
          · rw [HS.out, hz.out, Int.add_zero]
    · obtain rfl : k = l.length := by omega
      have hkl : ((l.length : Int) < (l.length : Int)) = False := by simp
      rw [List.take_length]
      go_wp2
      go_ret
      exact ⟨rfl, HB.out.1⟩
end Go.Proofs.Ytibjpkicchdomaa
