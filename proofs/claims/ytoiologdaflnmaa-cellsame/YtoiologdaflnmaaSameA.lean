/- Are two trees the same? The program's walk. -/
import Derived.Test.YtoiologdaflnmaaSame
namespace Go.Proofs.Ytoiologdaflnmaa
open Go.RowKit

theorem enters27 : Enters 27 := enters_of Try.func27 (by kernel_rfl) rfl

set_option maxRecDepth 100000 in
theorem equal_any (l m : List T) (hK : ∀ (j : Nat) (t u : T) (c d : C) (W : World), l[j]? = some t → m[j]? = some u → Is W c t → Is W d u → Calls Try.prog 27 #[cval c, cval d] W fun e w' => e = .returned (.bool (sameT t u)) ∧ Below W.heap.size W w')
    (v v' : Value) (w : World) (h1 : TRow w v l) (h2 : TRow w v' m) (hl : l.length ≤ 1954687338211) :
    Calls Try.prog 42 #[v, v', .func (.func 27) #[] #[]] w fun e w' => e = .returned (.bool (sameL l m)) ∧ Below w.heap.size w w' := by
  have hent : ∀ (args : Array Value) (w : World), (callFunc 27 args).run Try.prog w = .ok (.enter 27 args) w := enters27
  obtain ⟨a1, cap1, rfl⟩ := h1.shape
  obtain ⟨a2, cap2, rfl⟩ := h2.shape
  have H1 := Lib.hid h1
  have H2 := Lib.hid h2
  have HK := Lib.hid hK
  clear h1 h2 hK
  by_cases hlen : l.length = m.length
  · have d0 : ((l.length : Int) != (m.length : Int)) = false := by simp; omega
    have HLEN := Lib.hid hlen
    rw [← hlen] at H2
    rw [← hlen] at d0
    rw [← hlen]
    clear hlen
    go_enter Try.func42, Try.ntmps42
    go_wp2
    go_loopg [17] (l.length + 1) (fun g i wr => ∃ k : Nat, g + k = l.length + 1 ∧ k ≤ l.length ∧ i = .int .i64 k ∧ (∀ (j : Nat) (t u : T), j < k → l[j]? = some t → m[j]? = some u → sameT t u = true) ∧ Below w.heap.size w wr)
    case atStart => exact ⟨0, by omega, by omega, rfl, fun j t u hj => by omega, Below.refl _ _⟩
    case round =>
      obtain ⟨k, hg, hk, rfl, hsame, hb⟩ := hrel
      have HG := Lib.hid hg
      have HSM := Lib.hid hsame
      have HB := Lib.hid hb
      clear hg hsame hb
      by_cases hlt : k < l.length
      · obtain ⟨t, ht⟩ : ∃ t, l[k]? = some t := ⟨_, List.getElem?_eq_getElem hlt⟩
        obtain ⟨u, hu⟩ : ∃ u, m[k]? = some u := ⟨_, List.getElem?_eq_getElem (by have := HLEN.out; omega)⟩
        obtain ⟨b1, o1, rfl, hf1⟩ := H1.out.place (by omega)
        obtain ⟨b2, o2, rfl, hf2⟩ := H2.out.place (by have := HLEN.out; omega)
        obtain ⟨x, hx, hix⟩ := hf1 k t ht
        obtain ⟨y, hy, hiy⟩ := hf2 k u hu
        clear hf1 hf2
        obtain ⟨c0, c1, c2, c3, c4, c5, c6⟩ := hx.up HB.out
        have HA : Hid (Below wr.heap.size wr (wr.alloc (cbox x))) := (Below.refl _ _).alloc (Nat.le_refl _) _
        have HA2 : Hid (Below (wr.alloc (cbox x)).heap.size (wr.alloc (cbox x)) ((wr.alloc (cbox x)).alloc (cbox y))) := (Below.refl _ _).alloc (Nat.le_refl _) _
        obtain ⟨e0, e1, e2, e3, e4, e5, e6⟩ := hy.up HB.out
        have hlb : b2 < wr.heap.size := lt_of_cell e0
        have hne : b2 ≠ wr.heap.size := by omega
        have hlb1 : b1 < wr.heap.size := lt_of_cell c0
        have hne1 : b1 ≠ wr.heap.size := by omega
        have HC := Lib.hid (HK.out k t u x y ((wr.alloc (cbox x)).alloc (cbox y)) ht hu (((hix.up HB.out).up HA.out).up HA2.out) (((hiy.up HB.out).up HA.out).up HA2.out))
        have HT := Lib.hid ht
        have HU := Lib.hid hu
        clear ht hu hx hy hix hiy
        cases hst : sameT t u with
        | true =>
          rw [hst] at HC
          have HST := Lib.hid hst
          clear hst
          go_wp2_with fail
          refine HC.out.mono ?_
          rintro e w2 ⟨rfl, hb2⟩
          have HB2 := Lib.hid hb2
          clear hb2
          go_wp2
          go_roundg (gk - 1)
          case measure => have := HG.out; omega
          case rel =>
            refine ⟨k + 1, by have := HG.out; omega, by omega, by go_num, fun j a b hj ha hb => ?_, HB.out.trans ((below_one (below_one HB2.out)).mono HB.out.size)⟩
            rcases Nat.lt_or_ge j k with h | h
            · exact HSM.out j a b h ha hb
            · obtain rfl : j = k := by omega
              rw [HT.out] at ha; rw [HU.out] at hb
              cases ha; cases hb
              exact HST.out
        | false =>
          rw [hst] at HC
          have HST := Lib.hid (sameL_no HT.out HU.out hst)
          clear hst
          go_wp2_with fail
          refine HC.out.mono ?_
          rintro e w2 ⟨rfl, hb2⟩
          have HB2 := Lib.hid hb2
          clear hb2
          go_wp2
          go_ret
          exact ⟨by rw [HST.out]; rfl, HB.out.trans ((below_one (below_one HB2.out)).mono HB.out.size)⟩
      · obtain rfl : k = l.length := by omega
        have hkl : ((l.length : Int) < (l.length : Int)) = False := by simp
        have HST := Lib.hid (sameL_yes HLEN.out (fun k t u ht hu => HSM.out k t u (by
          rcases Nat.lt_or_ge k l.length with h | h
          · exact h
          · rw [List.getElem?_eq_none h] at ht; cases ht) ht hu))
        go_wp2
        go_ret
        exact ⟨by rw [HST.out]; rfl, HB.out⟩
  · have d0 : ((l.length : Int) != (m.length : Int)) = true := by simp; omega
    have d1 : (l.length == m.length) = false := by simpa using hlen
    have HV := Lib.hid (sameL_len hlen)
    go_enter Try.func42, Try.ntmps42
    go_wp2
    go_ret
    exact ⟨by rw [HV.out]; rfl, Below.refl _ _⟩

theorem beq_dec (a b : Int) : (a == b) = decide (a = b) := by rw [Bool.eq_iff_iff]; simp

set_option maxRecDepth 100000 in
theorem same_any (N : Nat) : ∀ (t u : T) (c d : C) (w : World), sz t ≤ N → Is w c t → Is w d u →
    Calls Try.prog 27 #[cval c, cval d] w fun e w' => e = .returned (.bool (sameT t u)) ∧ Below w.heap.size w w' := by
  induction N with
  | zero => intro t u c d w h; have := sz_pos t; omega
  | succ N ih =>
    intro t u c d w hs hc hd
    have HA : Hid (Below w.heap.size w (w.alloc (cbox c))) := (Below.refl _ _).alloc (Nat.le_refl _) _
    have HA2 : Hid (Below (w.alloc (cbox c)).heap.size (w.alloc (cbox c)) ((w.alloc (cbox c)).alloc (cbox d))) := (Below.refl _ _).alloc (Nat.le_refl _) _
    have HE := Lib.hid (equal_any t.kids u.kids (fun j a b x y W ha hb hx hy => ih a b x y W (by have := sz_kid ha; omega) hx hy) (.slice c.a c.n c.cap) (.slice d.a d.n d.cap) ((w.alloc (cbox c)).alloc (cbox d)) ((hc.row.up HA.out).up HA2.out) ((hd.row.up HA.out).up HA2.out) hc.len)
    clear ih hs
    have hres : sameT t u = ((c.k == d.k) && (eqR c.r d.r && ((c.id == d.id) && sameL t.kids u.kids))) := by
      rw [sameT_eq, hc.split.1, hc.split.2.1, hc.split.2.2.1, hd.split.1, hd.split.2.1, hd.split.2.2.1, beq_dec, beq_dec]
    rw [hres]
    clear hres hc hd
    generalize sameL t.kids u.kids = r4 at HE ⊢
    obtain ⟨ck, cr, cid, ca, cn, ccap⟩ := c
    obtain ⟨dk, dr, did, da, dn, dcap⟩ := d
    simp only
    have hg := eq_guard
    have hE : ∀ w, (Op.equalIn 10000 27 (.agg #[.int .i64 cr.x, .int .i64 cr.y, .int .i64 cr.w, .int .i64 cr.h]) (.agg #[.int .i64 dr.x, .int .i64 dr.y, .int .i64 dr.w, .int .i64 dr.h])).run Try.prog w = .ok (eqR cr dr) w := eq_rect cr dr
    cases h1 : ck == dk with
    | false =>
      go_enter Try.func27, Try.ntmps27
      go_wp2
      go_ret
      exact ⟨rfl, HA.out.trans (HA2.out.mono HA.out.size)⟩
    | true =>
      cases h2 : eqR cr dr with
      | false =>
        rw [h2] at hE
        go_enter Try.func27, Try.ntmps27
        go_wp2
        go_ret
        exact ⟨rfl, HA.out.trans (HA2.out.mono HA.out.size)⟩
      | true =>
        rw [h2] at hE
        cases h3 : cid == did with
        | false =>
          go_enter Try.func27, Try.ntmps27
          go_wp2
          go_ret
          exact ⟨rfl, HA.out.trans (HA2.out.mono HA.out.size)⟩
        | true =>
          go_enter Try.func27, Try.ntmps27
          go_wp2_with fail
          refine HE.out.mono ?_
          rintro e w2 ⟨rfl, hb2⟩
          have HB2 := Lib.hid hb2
          clear hb2
          go_wp2
          go_ret
          exact ⟨by simp, below_one (below_one HB2.out)⟩
end Go.Proofs.Ytoiologdaflnmaa
