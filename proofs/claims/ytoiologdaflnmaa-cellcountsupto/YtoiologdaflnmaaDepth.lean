/- How deep a tree is: the program's answer and the document's. -/
import Derived.Test.YtoiologdaflnmaaCnt
namespace Go.Proofs.Ytoiologdaflnmaa
open Go.RowKit

mutual
def depthT : T → Nat
  | .node _ _ _ l => 1 + depthL l
def depthL : List T → Nat
  | [] => 0
  | t :: l => max (depthT t) (depthL l)
end
theorem depthT_eq (t : T) : depthT t = 1 + depthL t.kids := by cases t; rw [depthT]; rfl
theorem depthL_append (a b : List T) : depthL (a ++ b) = max (depthL a) (depthL b) := by
  induction a with
  | nil => simp [depthL]
  | cons t l ih => simp only [List.cons_append, depthL, ih]; omega
theorem depthL_step {l : List T} {k : Nat} {t : T} (h : l[k]? = some t) : depthL (l.take (k + 1)) = max (depthL (l.take k)) (depthT t) := by
  rw [List.take_add_one, h, depthL_append]; simp [depthL]
mutual
theorem depthT_sz : ∀ t, depthT t ≤ sz t
  | .node _ _ _ l => by rw [depthT, sz]; have := depthL_sz l; omega
theorem depthL_sz : ∀ l, depthL l ≤ szL l
  | [] => by simp [depthL]
  | t :: l => by rw [depthL, szL]; have := depthT_sz t; have := depthL_sz l; omega
end

set_option maxRecDepth 100000 in
theorem depth_any (N : Nat) : ∀ (t : T) (c : C) (w : World), sz t ≤ N → sz t ≤ 1000000 → Is w c t →
    Calls Try.prog 14 #[cval c] w fun e w' => e = .returned (.int .i64 (depthT t : Nat)) ∧ Below w.heap.size w w' := by
  induction N with
  | zero => intro t c w h; have := sz_pos t; omega
  | succ N ih =>
    intro t c w hs hm hi
    have HR := Lib.hid hi.row
    have hn := hi.n
    have hfn := hi.fine.2.2.2
    obtain ⟨ck, cr, cid, ca, cn, ccap⟩ := c
    simp only at hn hfn
    subst hn
    clear hi
    have HS := Lib.hid hs
    have HM := Lib.hid hm
    have HIH := Lib.hid ih
    clear hs hm ih
    go_enter Try.func14, Try.ntmps14
    go_wp2
    go_loopg [3, 9] (t.kids.length + 1) (fun g n i wr => ∃ k : Nat, g + k = t.kids.length + 1 ∧ k ≤ t.kids.length ∧ i = .int .i64 k ∧ n = .int .i64 ((depthL (t.kids.take k) : Nat) : Int) ∧ Below w.heap.size w wr)
    case atStart => exact ⟨0, by omega, by omega, rfl, by simp [depthL], (Below.refl _ _).alloc (Nat.le_refl _) _⟩
    case round =>
      obtain ⟨k, hg, hk, rfl, rfl, hb⟩ := hrel
      have HG := Lib.hid hg
      have HB := Lib.hid hb
      clear hg hb
      by_cases hlt : k < t.kids.length
      · obtain ⟨b, o, rfl, hf⟩ := HR.out.place (by omega)
        obtain ⟨u, hu⟩ : ∃ u, t.kids[k]? = some u := ⟨_, List.getElem?_eq_getElem hlt⟩
        obtain ⟨x, hx, hix⟩ := hf k u hu
        clear hf
        obtain ⟨c0, c1, c2, c3, c4, c5, c6⟩ := hx.up HB.out
        have HA : Hid (Below wr.heap.size wr (wr.alloc (cbox x))) := (Below.refl _ _).alloc (Nat.le_refl _) _
        have HK := Lib.hid (HIH.out u x (wr.alloc (cbox x)) (by have := HS.out; have := sz_kid hu; omega) (by have := HM.out; have := sz_kid hu; omega) ((hix.up HB.out).up HA.out))
        have HST := Lib.hid (depthL_step hu)
        clear hix hu hx
        generalize depthL (t.kids.take k) = m at HST ⊢
        generalize depthT u = dd at HK HST
        go_wp2_with fail
        refine HK.out.mono ?_
        rintro e w2 ⟨rfl, hb2⟩
        have HB2 := Lib.hid hb2
        clear hb2
        by_cases hmd : m ≤ dd
        · have e1 : max (m : Int) (dd : Int) = dd := by omega
          go_wp2
          go_roundg (gk - 1)
          case measure => have := HG.out; omega
          case rel => exact ⟨k + 1, by have := HG.out; omega, by omega, by go_num, by rw [HST.out]; congr 1; omega, HB.out.trans ((below_one HB2.out).mono HB.out.size)⟩
        · have e1 : max (m : Int) (dd : Int) = m := by omega
          go_wp2
          go_roundg (gk - 1)
          case measure => have := HG.out; omega
          case rel => exact ⟨k + 1, by have := HG.out; omega, by omega, by go_num, by rw [HST.out]; congr 1; omega, HB.out.trans ((below_one HB2.out).mono HB.out.size)⟩
      · obtain rfl : k = t.kids.length := by omega
        have hkl : ((t.kids.length : Int) < (t.kids.length : Int)) = False := by simp
        rw [List.take_length]
        have hd := Lib.hid (depthT_eq t)
        have hle : depthL t.kids ≤ 1000000 := by have := depthL_sz t.kids; have := HM.out; have := sz_node t; omega
        go_wp2
        go_ret
        refine ⟨ret_int ?_, HB.out⟩
        rw [hd.out]; omega

set_option maxRecDepth 100000 in
theorem rdepth_any (N : Nat) : ∀ (t : T) (c : C) (w : World), sz t ≤ N → sz t ≤ 1000000 → Is w c t →
    Calls Try.prog 15 #[cval c] w fun e w' => e = .returned (.int .i64 (depthT t : Nat)) ∧ Below w.heap.size w w' := by
  induction N with
  | zero => intro t c w h; have := sz_pos t; omega
  | succ N ih =>
    intro t c w hs hm hi
    have HR := Lib.hid hi.row
    have hn := hi.n
    have hfn := hi.fine.2.2.2
    obtain ⟨ck, cr, cid, ca, cn, ccap⟩ := c
    simp only at hn hfn
    subst hn
    clear hi
    have HS := Lib.hid hs
    have HM := Lib.hid hm
    have HIH := Lib.hid ih
    clear hs hm ih
    go_enter Try.func15, Try.ntmps15
    go_wp2
    go_loopg [3, 8] (t.kids.length + 1) (fun g n i wr => ∃ k : Nat, g + k = t.kids.length + 1 ∧ k ≤ t.kids.length ∧ i = .int .i64 k ∧ n = .int .i64 ((depthL (t.kids.take k) : Nat) : Int) ∧ Below (w.alloc (cbox ⟨ck, cr, cid, ca, t.kids.length, ccap⟩)).heap.size (w.alloc (cbox ⟨ck, cr, cid, ca, t.kids.length, ccap⟩)) wr)
    case atStart => exact ⟨0, by omega, by omega, rfl, by simp [depthL], Below.refl _ _⟩
    case round =>
      obtain ⟨k, hg, hk, rfl, rfl, hb⟩ := hrel
      have HG := Lib.hid hg
      have HB := Lib.hid hb
      clear hg hb
      by_cases hlt : k < t.kids.length
      · obtain ⟨b, o, rfl, hf⟩ := HR.out.place (by omega)
        obtain ⟨u, hu⟩ : ∃ u, t.kids[k]? = some u := ⟨_, List.getElem?_eq_getElem hlt⟩
        obtain ⟨x, hx, hix⟩ := hf k u hu
        clear hf
        obtain ⟨c0, c1, c2, c3, c4, c5, c6⟩ := hx.up (below_one HB.out)
        have q6 := (box_at HB.out).2.2.2.2.2.2
        have HX := Lib.hid (hx.up (below_one HB.out))
        have HIX := Lib.hid (hix.up (below_one HB.out))
        have HK := Lib.hid (fun W (h : Is W x u) => HIH.out u x W (by have := HS.out; have := sz_kid hu; omega) (by have := HM.out; have := sz_kid hu; omega) h)
        have HST := Lib.hid (depthL_step hu)
        clear hix hu hx
        generalize depthL (t.kids.take k) = m at HST ⊢
        generalize depthT u = dd at HK HST
        go_wp2_with fail
        refine (HK.out wr HIX.out).mono ?_
        rintro e w2 ⟨rfl, hb2⟩
        have HB2 := Lib.hid (HB.out.trans (hb2.mono HB.out.size))
        have HIX2 := Lib.hid (HIX.out.up hb2)
        obtain ⟨e0, e1, e2, e3, e4, e5, e6⟩ := HX.out.up hb2
        have p6 := (box_at HB2.out).2.2.2.2.2.2
        clear hb2 c0 c1 c2 c3 c4 c5 c6 q6
        by_cases hmd : m < dd
        · have d1 : decide ((m : Int) < (dd : Int)) = true := decide_eq_true (by omega)
          have d2 : decide (m < dd) = true := decide_eq_true hmd
          go_wp2_with fail
          refine (HK.out w2 HIX2.out).mono ?_
          rintro e w3 ⟨rfl, hb3⟩
          have HB3 := Lib.hid (HB2.out.trans (hb3.mono HB2.out.size))
          clear hb3
          go_wp2
          go_roundg (gk - 1)
          case measure => have := HG.out; omega
          case rel => exact ⟨k + 1, by have := HG.out; omega, by omega, by go_num, by rw [HST.out]; congr 1; omega, HB3.out⟩
        · have d1 : decide ((m : Int) < (dd : Int)) = false := decide_eq_false (by omega)
          have d2 : decide (m < dd) = false := decide_eq_false hmd
          go_wp2
          go_roundg (gk - 1)
          case measure => have := HG.out; omega
          case rel => exact ⟨k + 1, by have := HG.out; omega, by omega, by go_num, by rw [HST.out]; congr 1; omega, HB2.out⟩
      · obtain rfl : k = t.kids.length := by omega
        have hkl : ((t.kids.length : Int) < (t.kids.length : Int)) = False := by simp
        rw [List.take_length]
        have hd := Lib.hid (depthT_eq t)
        have hle : depthL t.kids ≤ 1000000 := by have := depthL_sz t.kids; have := HM.out; have := sz_node t; omega
        go_wp2
        go_ret
        refine ⟨ret_int ?_, below_one HB.out⟩
        rw [hd.out]; omega
end Go.Proofs.Ytoiologdaflnmaa
