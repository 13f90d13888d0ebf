/- How many cells rectangles have, together. -/
import Derived.Test.YtdhibidjghpngaaRAll
namespace Go.Proofs.Ytdhibidjghpngaa
open Go.RowKit

def one (r : R) : Int := if mayB r = true then r.w * r.h else 0
theorem one_yes {r : R} (h : mayB r = true) : one r = r.w * r.h := if_pos h
theorem one_no {r : R} (h : mayB r = false) : one r = 0 := if_neg (by simp [h])
theorem one_bound (r : R) : 0 ≤ one r ∧ one r ≤ 100000000 := by
  rcases bool_cases (mayB r) with h | h
  · have hb := (mayB_iff r).1 h
    rw [one_yes h]
    refine ⟨Int.mul_nonneg (by omega) (by omega), ?_⟩
    have := Int.mul_le_mul (show r.w ≤ 10000 by omega) (show r.h ≤ 10000 by omega) (by omega) (by omega)
    exact this
  · rw [one_no h]; omega
def areaL (l : List R) : Int := l.foldl (fun n r => n + one r) 0
theorem area_succ {l : List R} {k : Nat} {r : R} (h : l[k]? = some r) : areaL (l.take (k + 1)) = areaL (l.take k) + one r := by
  unfold areaL; rw [take_succ h, List.foldl_append]; rfl
theorem area_bound (l : List R) : ∀ k, k ≤ l.length → 0 ≤ areaL (l.take k) ∧ areaL (l.take k) ≤ k * 100000000 := by
  intro k
  induction k with
  | zero => intro _; simp [areaL]
  | succ k ih =>
    intro hk
    obtain ⟨r, hr⟩ : ∃ r, l[k]? = some r := ⟨_, List.getElem?_eq_getElem (by omega)⟩
    have := ih (by omega)
    have := one_bound r
    rw [area_succ hr]
    omega

set_option maxRecDepth 100000 in
set_option maxHeartbeats 1600000 in
theorem area_any (v : Value) (l : List R) (w : World) (hr : RRow w v l) (hlen : l.length ≤ 40) (hf : fitsAll l) :
    Calls Try.prog 12 #[v] w fun e w' => e = .returned (.int .i64 (areaL l)) ∧ Below w.heap.size w w' := by
  obtain ⟨a, cap, rfl⟩ := hr.shape
  have HR := Lib.hid hr
  have HF := Lib.hid hf
  clear hr hf
  go_enter Try.func12, Try.ntmps12
  go_wp2
  go_loopg [3, 8] (l.length + 1) (fun g s i wr => ∃ k : Nat, g + k = l.length + 1 ∧ k ≤ l.length ∧ i = .int .i64 k ∧ Below w.heap.size w wr ∧ s = .int .i64 (areaL (l.take k)))
  case atStart => exact ⟨0, by omega, by omega, rfl, Below.refl _ _, rfl⟩
  case round =>
    obtain ⟨k, hg, hk, rfl, hb, rfl⟩ := hrel
    have HB : Hid (Below w.heap.size w wr ∧ gk + k = l.length + 1) := ⟨hb, hg⟩
    clear hb hg
    by_cases hlt : k < l.length
    · obtain ⟨r, hfk⟩ : ∃ r, l[k]? = some r := ⟨_, List.getElem?_eq_getElem hlt⟩
      obtain ⟨b, o, rfl, hat⟩ := HR.out.place (by omega)
      obtain ⟨c0, c1, c2, c3⟩ := (hat k r hfk).up HB.out.1
      have HK := Lib.hid hfk
      clear hat hfk
      have B1 : Hid (Below wr.heap.size wr (wr.alloc (box r))) := (Below.refl _ _).alloc (Nat.le_refl _) _
      have HA : Hid (RAt (wr.alloc (box r)) wr.heap.size 0 r) := rat_new wr r
      have HC := Lib.hid (may_one r (wr.alloc (box r)) (HF.out r (List.mem_of_getElem? HK.out)) (wr.heap.size + 1) (by simp))
      have hab := area_bound l k (by omega)
      have hob := one_bound r
      have HS := Lib.hid (area_succ HK.out)
      generalize areaL (l.take k) = n at HS hab ⊢
      rcases bool_cases (mayB r) with hm | hm
      · rw [hm] at HC
        have ho := one_yes hm
        have sp : IntKind.i64.wrap (r.w * r.h) = one r := by rw [← ho]; exact wrap_id (by omega)
        have HS' := Lib.hid HS.out
        generalize one r = p at sp HS HS' hob
        have sn : IntKind.i64.wrap (n + p) = n + p := wrap_id (by omega)
        clear ho hab hob
        go_wp2_with fail
        refine HC.out.mono ?_
        rintro e w2 ⟨rfl, hb2⟩
        have B2 : Hid (Below w.heap.size w w2) := HB.out.1.trans ((B1.out.trans (hb2.mono B1.out.size)).mono HB.out.1.size)
        clear c0 c1 c2 c3
        obtain ⟨c0, c1, c2, c3⟩ := HA.out.up hb2
        clear hb2
        go_wp2
        go_roundg (gk - 1)
        case measure => have := HB.out.2; omega
        case rel =>
          refine ⟨k + 1, ?_, by omega, by go_num, B2.out, ?_⟩
          · have := HB.out.2; omega
          · rw [HS.out]
      · rw [hm] at HC
        have hz := Lib.hid (one_no hm)
        clear hab hob
        go_wp2_with fail
        refine HC.out.mono ?_
        rintro e w2 ⟨rfl, hb2⟩
        have B2 : Hid (Below w.heap.size w w2) := HB.out.1.trans ((B1.out.trans (hb2.mono B1.out.size)).mono HB.out.1.size)
        clear hb2
        go_wp2
        go_roundg (gk - 1)
        case measure => have := HB.out.2; omega
        case rel =>
          refine ⟨k + 1, ?_, by omega, by go_num, B2.out, ?_⟩
          · have := HB.out.2; omega
          · rw [HS.out, hz.out, Int.add_zero]
    · obtain rfl : k = l.length := by omega
      have hkl : ((l.length : Int) < (l.length : Int)) = False := by simp
      rw [List.take_length]
      go_wp2
      go_ret
      exact ⟨rfl, HB.out.1⟩

set_option maxRecDepth 100000 in
set_option maxHeartbeats 1600000 in
theorem rarea_any (v : Value) (l : List R) (w : World) (hr : RRow w v l) (hlen : l.length ≤ 40) (hf : fitsAll l) :
    Calls Try.prog 13 #[v] w fun e w' => e = .returned (.int .i64 (areaL l)) ∧ Below w.heap.size w w' := by
  obtain ⟨a, cap, rfl⟩ := hr.shape
  have HR := Lib.hid hr
  have HF := Lib.hid hf
  clear hr hf
  go_enter Try.func13, Try.ntmps13
  go_wp2
  go_loopg [3, 7] (l.length + 1) (fun g s i wr => ∃ k : Nat, g + k = l.length + 1 ∧ k ≤ l.length ∧ i = .int .i64 k ∧ Below w.heap.size w wr ∧ s = .int .i64 (areaL (l.take k)))
  case atStart => exact ⟨0, by omega, by omega, rfl, Below.refl _ _, rfl⟩
  case round =>
    obtain ⟨k, hg, hk, rfl, hb, rfl⟩ := hrel
    have HB : Hid (Below w.heap.size w wr ∧ gk + k = l.length + 1) := ⟨hb, hg⟩
    clear hb hg
    by_cases hlt : k < l.length
    · obtain ⟨r, hfk⟩ : ∃ r, l[k]? = some r := ⟨_, List.getElem?_eq_getElem hlt⟩
      obtain ⟨b, o, rfl, hat⟩ := HR.out.place (by omega)
      have HT := Lib.hid ((hat k r hfk).up HB.out.1)
      obtain ⟨c0, c1, c2, c3⟩ := HT.out
      have HK := Lib.hid hfk
      clear hat hfk
      have HC := Lib.hid (rmay_any r wr (HF.out r (List.mem_of_getElem? HK.out)))
      have hab := area_bound l k (by omega)
      have hob := one_bound r
      have HS := Lib.hid (area_succ HK.out)
      have d1 : (k : Int) < (l.length : Int) := by omega
      generalize areaL (l.take k) = n at HS hab ⊢
      rcases bool_cases (mayB r) with hm | hm
      · rw [hm] at HC
        have ho := one_yes hm
        have sp : IntKind.i64.wrap (r.w * r.h) = one r := by rw [← ho]; exact wrap_id (by omega)
        generalize one r = p at sp HS hob
        have sn : IntKind.i64.wrap (n + p) = n + p := wrap_id (by omega)
        clear ho hab hob
        go_wp2_with fail
        refine HC.out.mono ?_
        rintro e w2 ⟨rfl, hb2⟩
        have B2 : Hid (Below w.heap.size w w2) := HB.out.1.trans (hb2.mono HB.out.1.size)
        clear c0 c1 c2 c3
        obtain ⟨c0, c1, c2, c3⟩ := HT.out.up hb2
        clear hb2
        go_wp2
        go_quiet (fail)
        have B3 := Lib.hid B2.out
        go_wp2
        go_roundg (gk - 1)
        case measure => have := HB.out.2; omega
        case rel =>
          refine ⟨k + 1, ?_, by omega, by go_num, ⟨B2.out.os, B2.out.tape, B2.out.output, B2.out.size, B2.out.block⟩, ?_⟩
          · have := HB.out.2; omega
          · rw [HS.out]
      · rw [hm] at HC
        have hz := Lib.hid (one_no hm)
        clear hab hob
        go_wp2_with fail
        refine HC.out.mono ?_
        rintro e w2 ⟨rfl, hb2⟩
        have B2 : Hid (Below w.heap.size w w2) := HB.out.1.trans (hb2.mono HB.out.1.size)
        clear hb2
        go_wp2
        go_roundg (gk - 1)
        case measure => have := HB.out.2; omega
        case rel =>
          refine ⟨k + 1, ?_, by omega, by go_num, B2.out, ?_⟩
          · have := HB.out.2; omega
          · rw [HS.out, hz.out, Int.add_zero]
    · obtain rfl : k = l.length := by omega
      have hkl : ((l.length : Int) < (l.length : Int)) = False := by simp
      rw [List.take_length]
      go_wp2
      go_ret
      exact ⟨rfl, HB.out.1⟩
end Go.Proofs.Ytdhibidjghpngaa
