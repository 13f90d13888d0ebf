/- Texts of this seat, 3 in one file. -/
import Derived.Test.YthnoogmjlkgnbaaDoorG02
import Derived.Test.YthnoogmjlkgnbaaDoorG22
import Derived.Laws.StructEq
/- Is one of some trees great, or are there too many of them? -/
namespace Go.Proofs.YthnoogmjlkgnbaaDoor
open Go.RowKit

def GreatAllSays (l : List T) (w : World) (e : Ending) (w' : World) : Prop := ∃ g : Bool, e = .returned (.bool g) ∧ (g = false → szL l ≤ 1099511627776 → l.length ≤ 20 ∧ ∀ t ∈ l, sz t ≤ 200) ∧ Below w.heap.size w w'

set_option maxRecDepth 100000 in
theorem greatAll_any (v : Value) (l : List T) (w : World) (hr : TRow w v l) : Calls Tryd.prog 16 #[v] w (GreatAllSays l w) := by
  obtain ⟨a, cap, rfl⟩ := hr.shape
  have HR := Lib.hid hr
  clear hr
  by_cases h20 : 20 < l.length
  · have d : decide (20 < (l.length : Int)) = true := decide_eq_true (by omega)
    go_enter Tryd.func16, Tryd.ntmps16
    go_wp2
    go_ret
    exact ⟨true, rfl, (fun h => by cases h), Below.refl _ _⟩
  · have d : decide (20 < (l.length : Int)) = false := decide_eq_false (by omega)
    go_enter Tryd.func16, Tryd.ntmps16
    go_wp2
    go_loopg [9] (l.length + 1) (fun g i wr => ∃ k : Nat, g + k = l.length + 1 ∧ k ≤ l.length ∧ i = .int .i64 k ∧ (∀ j t, j < k → l[j]? = some t → sz t ≤ 1099511627776 → sz t ≤ 200) ∧ Below w.heap.size w wr)
    case atStart => exact ⟨0, by omega, by omega, rfl, fun j t hj => by omega, Below.refl _ _⟩
    case round =>
      obtain ⟨k, hg, hk, rfl, hm, hb⟩ := hrel
      have HG := Lib.hid hg
      have HM := Lib.hid hm
      have HB := Lib.hid hb
      clear hg hm hb
      by_cases hlt : k < l.length
      · obtain ⟨b, o, rfl, hf⟩ := HR.out.place (by omega)
        obtain ⟨u, hu⟩ : ∃ u, l[k]? = some u := ⟨_, List.getElem?_eq_getElem hlt⟩
        obtain ⟨x, hx, hix⟩ := hf k u hu
        clear hf
        obtain ⟨c0, c1, c2, c3, c4, c5, c6⟩ := hx.up HB.out
        have HK := Lib.hid (great_any u x wr (hix.up HB.out))
        have HU := Lib.hid hu
        clear hix hu hx
        go_wp2_with fail
        refine HK.out.mono ?_
        rintro e w2 ⟨g, rfl, hgg, hb2⟩
        have HM2 := Lib.hid hgg
        have HB2 := Lib.hid hb2
        clear hgg hb2
        cases g
        · go_wp2
          go_roundg (gk - 1)
          case measure => have := HG.out; omega
          case rel =>
            refine ⟨k + 1, by have := HG.out; omega, by omega, by go_num, fun j t hj ht hs => ?_, HB.out.trans (HB2.out.mono HB.out.size)⟩
            rcases Nat.lt_or_ge j k with h | h
            · exact HM.out j t h ht hs
            · obtain rfl : j = k := by omega
              rw [HU.out] at ht
              cases ht
              exact HM2.out (by trivial) hs
        · go_wp2
          go_ret
          exact ⟨true, rfl, (fun h => by cases h), HB.out.trans (HB2.out.mono HB.out.size)⟩
      · obtain rfl : k = l.length := by omega
        have hkl : ((l.length : Int) < (l.length : Int)) = False := by simp
        go_wp2
        go_ret
        refine ⟨false, rfl, fun _ hs => ⟨by omega, fun t ht => ?_⟩, HB.out⟩
        obtain ⟨j, hj, rfl⟩ := List.getElem_of_mem ht
        exact HM.out j _ hj (List.getElem?_eq_getElem hj) (by have := szL_mem (List.getElem?_eq_getElem hj); omega)
end Go.Proofs.YthnoogmjlkgnbaaDoor
/- The law PrintFits. -/
namespace Go.Proofs.YthnoogmjlkgnbaaDoor
open Go.RowKit
open Sash.Sum (putL putL_len)

theorem all_take {l : List T} {k : Nat} {t : T} (h : l[k]? = some t) : (l.take (k + 1)).all tileB = ((l.take k).all tileB && tileB t) := by
  rw [List.take_add_one, h, List.all_append]; simp

set_option maxRecDepth 100000 in
set_option maxHeartbeats 4000000 in
theorem printFits_any (l : List T) (v : Value) (w : World) (hr : TRow w v l) (hs : szL l ≤ 1099511627776) (htab : Tab w) :
    Calls Tryd.prog 5 #[v] w fun e w' => e = .returned (.bool true) ∧ Below w.heap.size w w' := by
  have HG := Lib.hid (greatAll_any v l w hr)
  obtain ⟨a, cap, rfl⟩ := hr.shape
  have HR := Lib.hid hr
  have HAW := Lib.hid (fun W (h : Below w.heap.size w W) => awake_any W (tab_on htab h))
  clear hr
  go_enter Tryd.func5, Tryd.ntmps5
  go_wp2_with fail
  refine HG.out.mono ?_
  rintro e w1 ⟨g, rfl, hg, hb1⟩
  have B1 := Lib.hid hb1
  have HF := Lib.hid hg
  clear hb1 hg
  cases g with
  | true =>
    go_wp2_with fail
    refine (HAW.out w1 B1.out).mono ?_
    rintro e w2 ⟨rfl, hb2⟩
    have B2 := Lib.hid (B1.out.trans (hb2.mono B1.out.size))
    clear hb2
    go_wp2
    go_ret
    exact ⟨rfl, B2.out⟩
  | false =>
    have hll : l.length ≤ 20 := (HF.out rfl hs).1
    have HSZ := Lib.hid (show ∀ t ∈ l, sz t ≤ 999 from fun t ht => Nat.le_trans ((HF.out rfl hs).2 t ht) (by decide))
    go_wp2
    go_loopg [3, 4] (l.length + 1) (fun g x i wr => ∃ k : Nat, g + k = l.length + 1 ∧ k ≤ l.length ∧ i = .int .i64 k ∧ x = .bool ((l.take k).all tileB) ∧ Below w.heap.size w wr)
    case atStart => exact ⟨0, by omega, by omega, rfl, by simp, B1.out⟩
    case round =>
      obtain ⟨k, hg, hk, rfl, rfl, hb⟩ := hrel
      have HGK := Lib.hid hg
      have HB := Lib.hid hb
      clear hg hb
      by_cases hlt : k < l.length
      · obtain ⟨b1, o1, rfl, hf⟩ := HR.out.place (by omega)
        obtain ⟨u, hu⟩ : ∃ u, l[k]? = some u := ⟨_, List.getElem?_eq_getElem hlt⟩
        obtain ⟨x, hx, hix⟩ := hf k u hu
        clear hf
        obtain ⟨c0, c1, c2, c3, c4, c5, c6⟩ := hx.up HB.out
        have HST := Lib.hid (all_take hu)
        have HZ := Lib.hid (HSZ.out u (List.mem_of_getElem? hu))
        have HX := Lib.hid (hix.up HB.out)
        clear hix hx hu
        generalize (l.take k).all tileB = q at HST ⊢
        cases ht : tileB u with
        | true =>
          rw [ht, Bool.and_true] at HST
          have HK := Lib.hid (rtext_yes u x wr HX.out HZ.out ht)
          clear ht
          go_wp2_with fail
          refine HK.out.mono ?_
          rintro e w2 ⟨rfl, hb2⟩
          have HB2 := Lib.hid (HB.out.trans (hb2.mono HB.out.size))
          clear hb2 c0 c1 c2 c3 c4 c5 c6
          cases q
          all_goals
            go_wp2
            go_roundg (gk - 1)
            case measure => have := HGK.out; omega
            case rel => exact ⟨k + 1, by have := HGK.out; omega, by omega, by go_num, by rw [HST.out], HB2.out⟩
        | false =>
          rw [ht, Bool.and_false] at HST
          have HK := Lib.hid (rtext_no u x wr HX.out HZ.out ht)
          clear ht
          go_wp2_with fail
          refine HK.out.mono ?_
          rintro e w2 ⟨rfl, hb2⟩
          have HB2 := Lib.hid (HB.out.trans (hb2.mono HB.out.size))
          clear hb2 c0 c1 c2 c3 c4 c5 c6
          cases q
          all_goals
            go_wp2
            go_roundg (gk - 1)
            case measure => have := HGK.out; omega
            case rel => exact ⟨k + 1, by have := HGK.out; omega, by omega, by go_num, by rw [HST.out], HB2.out⟩
      · obtain rfl : k = l.length := by omega
        have hkl : ((l.length : Int) < (l.length : Int)) = False := by simp
        rw [List.take_length]
        have HP := Lib.hid (pfits_any l (.slice a l.length cap) wr (HR.out.up HB.out) (by omega) HSZ.out (tab_on htab HB.out))
        generalize l.all tileB = q at HP ⊢
        cases q
        all_goals
          go_wp2_with fail
          refine HP.out.mono ?_
          rintro e w2 ⟨rfl, hb2⟩
          have HB2 := Lib.hid (HB.out.trans (hb2.mono HB.out.size))
          clear hb2
          go_wp2_with fail
          refine (HAW.out w2 HB2.out).mono ?_
          rintro e w3 ⟨rfl, hb3⟩
          have HB3 := Lib.hid (HB2.out.trans (hb3.mono HB2.out.size))
          clear hb3
          go_wp2
          go_ret
          exact ⟨rfl, HB3.out⟩
end Go.Proofs.YthnoogmjlkgnbaaDoor
/- Are two trees the same? The program's answer. -/
namespace Go.Proofs.YthnoogmjlkgnbaaDoor
open Go.RowKit

def eqR (r q : R) : Bool := decide (r = q)
theorem eqR_parts (r q : R) : eqR r q = (r.x == q.x && (r.y == q.y && (r.w == q.w && r.h == q.h))) := by
  obtain ⟨a, b, c, d⟩ := r
  obtain ⟨a', b', c', d'⟩ := q
  unfold eqR
  rw [Bool.eq_iff_iff]
  simp

theorem eq_guardS : Tryd.prog.eqGuardType Tryd.prog.depth 23 = false := by kernel_rfl
theorem eq_rect (r q : R) (w : World) : (Op.equalIn 10000 23 (val r) (val q)).run Tryd.prog w = .ok (eqR r q) w := by
  have u3 := Tryd.underlying3
  have a3 := Tryd.isAgg3
  have z3 := Tryd.sizeOf3
  have hS : Tryd.prog.underlying 23 = some (.struct (Tryd.prog.fieldsOf 23)) := by kernel_rfl
  have hp : Tryd.prog.stoodInHeld 23 = false := by kernel_rfl
  rw [show (10000 : Nat) = 9999 + 1 from rfl, run_equalIn_agg w 9999 23 _ _ hS hp]
  simp only [Program.fieldsOf, Tryd.underlying23]
  rw [eqR_parts]
  cases h1 : r.x == q.x <;> cases h2 : r.y == q.y <;> cases h3 : r.w == q.w <;> cases h4 : r.h == q.h
  all_goals
    go_simp
    try simp [h1, h2, h3, h4]

mutual
def sameT : T → T → Bool
  | .node k r i l, .node k' r' i' l' => decide (k = k') && (eqR r r' && (decide (i = i') && sameL l l'))
def sameL : List T → List T → Bool
  | [], [] => true
  | t :: l, u :: m => sameT t u && sameL l m
  | [], _ :: _ => false
  | _ :: _, [] => false
end
theorem sameT_eq (a b : T) : sameT a b = (decide (a.k = b.k) && (eqR a.r b.r && (decide (a.id = b.id) && sameL a.kids b.kids))) := by cases a; cases b; rw [sameT]; rfl
mutual
theorem sameT_iff : ∀ a b : T, sameT a b = true ↔ a = b
  | .node k r i l, .node k' r' i' l' => by
    rw [sameT]
    simp only [Bool.and_eq_true, decide_eq_true_eq, sameL_iff l l', eqR, T.node.injEq]
theorem sameL_iff : ∀ a b : List T, sameL a b = true ↔ a = b
  | [], [] => by simp [sameL]
  | t :: l, u :: m => by
    rw [sameL, Bool.and_eq_true, sameT_iff t u, sameL_iff l m, List.cons.injEq]
  | [], _ :: _ => by simp [sameL]
  | _ :: _, [] => by simp [sameL]
end
theorem sameL_len {a b : List T} (h : a.length ≠ b.length) : sameL a b = false := by
  cases e : sameL a b with
  | false => rfl
  | true => exact absurd (congrArg List.length ((sameL_iff a b).1 e)) h
theorem sameL_no {a b : List T} {k : Nat} {t u : T} (ha : a[k]? = some t) (hb : b[k]? = some u) (h : sameT t u = false) : sameL a b = false := by
  cases e : sameL a b with
  | false => rfl
  | true =>
    have := (sameL_iff a b).1 e
    subst this
    rw [ha] at hb; cases hb
    rw [(sameT_iff t t).2 rfl] at h; cases h
theorem sameL_yes {a b : List T} (hl : a.length = b.length) (h : ∀ (k : Nat) (t u : T), a[k]? = some t → b[k]? = some u → sameT t u = true) : sameL a b = true := by
  rw [sameL_iff]
  refine List.ext_getElem? fun k => ?_
  rcases Nat.lt_or_ge k a.length with hk | hk
  · have h1 := List.getElem?_eq_getElem hk
    have h2 := List.getElem?_eq_getElem (show k < b.length by omega)
    rw [h1, h2, (sameT_iff _ _).1 (h k _ _ h1 h2)]
  · rw [List.getElem?_eq_none hk, List.getElem?_eq_none (by omega)]
end Go.Proofs.YthnoogmjlkgnbaaDoor
