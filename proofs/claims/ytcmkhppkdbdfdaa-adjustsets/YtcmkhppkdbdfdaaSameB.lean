/- Are two trees the same? The document's walk. -/
import Derived.Test.YtcmkhppkdbdfdaaSame
import Derived.StillTailTactics
namespace Go.Proofs.Ytcmkhppkdbdfdaa
open Go.RowKit

theorem beq_dec (a b : Int) : (a == b) = decide (a = b) := by rw [Bool.eq_iff_iff]; simp
theorem cat_new (w : World) (c : C) : CAt (w.alloc (cbox c)) w.heap.size 0 c := by
  refine ⟨?_, ?_, ?_, ?_, ?_, ?_, ?_⟩ <;> simp
/-- Two boxes, one behind the other. -/
abbrev two (w : World) (c d : C) : World := (w.alloc (cbox c)).alloc (cbox d)
theorem two_fst {w w' : World} {c d : C} (h : Below (two w c d).heap.size (two w c d) w') : CAt w' w.heap.size 0 c :=
  ((cat_new w c).up ((Below.refl _ _).alloc (Nat.le_refl _) _)).up h
theorem two_snd {w w' : World} {c d : C} (h : Below (two w c d).heap.size (two w c d) w') : CAt w' (w.heap.size + 1) 0 d := by
  have := (cat_new (w.alloc (cbox c)) d).up h
  simpa using this

set_option maxRecDepth 100000 in
theorem rsame_any (N : Nat) : ∀ (t u : T) (c d : C) (w : World), sz t ≤ N → Is w c t → Is w d u →
    Calls Try.prog 11 #[cval c, cval d] w fun e w' => e = .returned (.bool (sameT t u)) ∧ Below w.heap.size w w' := by
  induction N with
  | zero => intro t u c d w h; have := sz_pos t; omega
  | succ N ih =>
    intro t u c d w hs hc hd
    have HA : Hid (Below w.heap.size w (two w c d)) := ((Below.refl _ _).alloc (Nat.le_refl _) _).alloc (by simp) _
    have HIH := Lib.hid ih
    have HS := Lib.hid hs
    have HC := Lib.hid hc.row
    have HD := Lib.hid hd.row
    have hcn := hc.n
    have hdn := hd.n
    have hlen := hc.len
    have hres : sameT t u = ((c.k == d.k) && (eqR c.r d.r && ((c.id == d.id) && sameL t.kids u.kids))) := by
      rw [sameT_eq, hc.split.1, hc.split.2.1, hc.split.2.2.1, hd.split.1, hd.split.2.1, hd.split.2.2.1, beq_dec, beq_dec]
    clear ih hs hc hd
    rw [hres]
    clear hres
    obtain ⟨ck, cr, cid, ca, cn, ccap⟩ := c
    obtain ⟨dk, dr, did, da, dn, dcap⟩ := d
    simp only at hcn hdn
    subst hcn
    subst hdn
    simp only
    have hg := eq_guard
    have hE : ∀ w, (Op.equalIn 10000 30 (.agg #[.int .i64 cr.x, .int .i64 cr.y, .int .i64 cr.w, .int .i64 cr.h]) (.agg #[.int .i64 dr.x, .int .i64 dr.y, .int .i64 dr.w, .int .i64 dr.h])).run Try.prog w = .ok (eqR cr dr) w := eq_rect cr dr
    cases h1 : ck == dk with
    | false =>
      have h1' : (ck != dk) = true := by rw [bne, h1]; rfl
      go_enter Try.func11, Try.ntmps11
      go_wp2
      go_ret
      exact ⟨rfl, HA.out⟩
    | true =>
      have h1' : (ck != dk) = false := by rw [bne, h1]; rfl
      cases h2 : eqR cr dr with
      | false =>
        rw [h2] at hE
        go_enter Try.func11, Try.ntmps11
        go_wp2
        go_ret
        exact ⟨rfl, HA.out⟩
      | true =>
        rw [h2] at hE
        cases h3 : cid == did with
        | false =>
          have h3' : (cid != did) = true := by rw [bne, h3]; rfl
          go_enter Try.func11, Try.ntmps11
          go_wp2
          go_ret
          exact ⟨rfl, HA.out⟩
        | true =>
          have h3' : (cid != did) = false := by rw [bne, h3]; rfl
          simp only [Bool.true_and]
          by_cases h4 : t.kids.length = u.kids.length
          · have HLEN := Lib.hid h4
            have d0 : ((t.kids.length : Int) != (u.kids.length : Int)) = false := by simp; omega
            rw [← h4] at d0
            rw [← h4] at HD
            rw [← h4] at HA ⊢
            clear h4
            go_enter Try.func11, Try.ntmps11
            go_wp2
            go_loopg [37] (t.kids.length + 1) (fun g i wr => ∃ k : Nat, g + k = t.kids.length + 1 ∧ k ≤ t.kids.length ∧ i = .int .i64 k ∧ (∀ (j : Nat) (a b : T), j < k → t.kids[j]? = some a → u.kids[j]? = some b → sameT a b = true) ∧ Below (two w ⟨ck, cr, cid, ca, t.kids.length, ccap⟩ ⟨dk, dr, did, da, t.kids.length, dcap⟩).heap.size (two w ⟨ck, cr, cid, ca, t.kids.length, ccap⟩ ⟨dk, dr, did, da, t.kids.length, dcap⟩) wr)
            case atStart => exact ⟨0, by omega, by omega, rfl, fun j a b hj => by omega, Below.refl _ _⟩
            case round =>
              obtain ⟨k, hg', hk, rfl, hsame, hb⟩ := hrel
              have HG := Lib.hid hg'
              have HSM := Lib.hid hsame
              have HB := Lib.hid hb
              clear hg' hsame hb
              by_cases hlt : k < t.kids.length
              · obtain ⟨a, ha⟩ : ∃ a, t.kids[k]? = some a := ⟨_, List.getElem?_eq_getElem hlt⟩
                obtain ⟨b, hb⟩ : ∃ b, u.kids[k]? = some b := ⟨_, List.getElem?_eq_getElem (by have := HLEN.out; omega)⟩
                obtain ⟨b1, o1, rfl, hf1⟩ := HC.out.place (by omega)
                obtain ⟨b2, o2, rfl, hf2⟩ := HD.out.place (by have := HLEN.out; omega)
                obtain ⟨x, hx, hix⟩ := hf1 k a ha
                obtain ⟨y, hy, hiy⟩ := hf2 k b hb
                clear hf1 hf2
                have HBW := Lib.hid (HA.out.trans (HB.out.mono HA.out.size))
                obtain ⟨c0, c1, c2, c3, c4, c5, c6⟩ := hx.up HBW.out
                obtain ⟨e0, e1, e2, e3, e4, e5, e6⟩ := hy.up HBW.out
                have p6 := (two_fst HB.out).2.2.2.2.2.2
                have q6 := (two_snd HB.out).2.2.2.2.2.2
                have HX := Lib.hid hix
                have HY := Lib.hid hiy
                have HT := Lib.hid ha
                have HU := Lib.hid hb
                clear ha hb hx hy hix hiy
                have BD := Lib.hid HB.out.drew
                go_wp2
                go_still_tail 10, (by kernel_rfl)
                change wpList _ _ _ _ _ wr.drew
                generalize wr.drew = w4 at BD ⊢
                clear c0 c1 c2 c3 c4 c5 c6 e0 e1 e2 e3 e4 e5 e6 p6 q6
                have HW4 := Lib.hid (HA.out.trans (BD.out.mono HA.out.size))
                have HK := Lib.hid (HIH.out a b x y w4 (by have := HS.out; have := sz_kid HT.out; omega) (HX.out.up HW4.out) (HY.out.up HW4.out))
                cases hst : sameT a b with
                | true =>
                  rw [hst] at HK
                  have HST := Lib.hid hst
                  clear hst
                  go_wp2_with fail
                  refine HK.out.mono ?_
                  rintro e w5 ⟨rfl, hb5⟩
                  have B5 := Lib.hid (BD.out.trans (hb5.mono BD.out.size))
                  clear hb5
                  go_wp2
                  go_roundg (gk - 1)
                  case measure => have := HG.out; omega
                  case rel =>
                    refine ⟨k + 1, by have := HG.out; omega, by omega, by go_num, fun j p q hj hp hq => ?_, B5.out⟩
                    rcases Nat.lt_or_ge j k with h | h
                    · exact HSM.out j p q h hp hq
                    · obtain rfl : j = k := by omega
                      rw [HT.out] at hp; rw [HU.out] at hq
                      cases hp; cases hq
                      exact HST.out
                | false =>
                  rw [hst] at HK
                  have HST := Lib.hid (sameL_no HT.out HU.out hst)
                  clear hst
                  go_wp2_with fail
                  refine HK.out.mono ?_
                  rintro e w5 ⟨rfl, hb5⟩
                  have B5 := Lib.hid (BD.out.trans (hb5.mono BD.out.size))
                  clear hb5
                  go_wp2
                  go_ret
                  exact ⟨by rw [HST.out]; rfl, HA.out.trans (B5.out.mono HA.out.size)⟩
              · obtain rfl : k = t.kids.length := by omega
                have hkl : ((t.kids.length : Int) < (t.kids.length : Int)) = False := by simp
                have HST := Lib.hid (sameL_yes HLEN.out (fun k a b ha hb => HSM.out k a b (by
                  rcases Nat.lt_or_ge k t.kids.length with h | h
                  · exact h
                  · rw [List.getElem?_eq_none h] at ha; cases ha) ha hb))
                go_wp2
                go_ret
                exact ⟨by rw [HST.out]; rfl, HA.out.trans (HB.out.mono HA.out.size)⟩
          · have d0 : ((t.kids.length : Int) != (u.kids.length : Int)) = true := by simp; omega
            have d1 : (t.kids.length == u.kids.length) = false := by simpa using h4
            have HV := Lib.hid (sameL_len h4)
            go_enter Try.func11, Try.ntmps11
            go_wp2
            go_ret
            exact ⟨by rw [HV.out]; rfl, HA.out⟩
end Go.Proofs.Ytcmkhppkdbdfdaa
