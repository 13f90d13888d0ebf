/- The least size of a tree: the document's. -/
import Derived.Test.YtajhojbnpajelaaLsM
import Derived.IntWalk
namespace Go.Proofs.Ytajhojbnpajelaa
open Go.RowKit

/-- So far: together, with the lines between. -/
def ofK (ax : Int) (a : Bool) (l : List T) (k : Nat) : Int := if a = true then (if k = 0 then 0 else lsS ax (l.take k) + k - 1) else lsX ax (l.take k)
theorem of_zero (ax : Int) (a : Bool) (l : List T) : ofK ax a l 0 = 0 := by unfold ofK; cases a <;> simp [lsX]
theorem of_along {ax : Int} {l : List T} {k : Nat} {u : T} (h : l[k]? = some u) (z : Bool) (hz : z = decide (0 < k)) : ofK ax true l (k + 1) = ofK ax true l k + lsT ax u + (if z = true then 1 else 0) := by
  subst hz
  unfold ofK
  rw [if_pos rfl, if_pos rfl, if_neg (by omega), lsS_step h]
  by_cases hk : k = 0
  · subst hk; simp [lsS]
  · rw [if_neg hk, if_pos (by simp; omega)]; omega
theorem of_cross {ax : Int} {l : List T} {k : Nat} {u : T} (h : l[k]? = some u) : ofK ax false l (k + 1) = max (ofK ax false l k) (lsT ax u) := by
  unfold ofK
  rw [if_neg (by decide), if_neg (by decide), lsX_step h]
theorem of_bound (ax : Int) (a : Bool) (l : List T) (k : Nat) (hk : k ≤ l.length) : 0 ≤ ofK ax a l k ∧ ofK ax a l k ≤ 2 * (szL l : Int) := by
  have h1 := lsS_sz ax (l.take k)
  have h2 := lsX_sz ax (l.take k)
  have h3 := szL_take_le l k
  have h4 := lsS_pos ax (l.take k)
  have h5 := lsX_nonneg ax (l.take k)
  unfold ofK
  split
  · split
    · omega
    · rw [List.length_take, Nat.min_eq_left hk] at h1 h4; omega
  · omega
theorem of_fin {ax : Int} {t : T} (h : t.kids ≠ []) (a : Bool) (ha : alB t.k ax = a) : lsT ax t = ofK ax a t.kids t.kids.length := by
  subst ha
  have hl : t.kids.length ≠ 0 := fun e => h (List.length_eq_zero_iff.1 e)
  rw [ls_eq, if_neg (by simpa using h)]
  unfold ofK
  rw [List.take_length, if_neg hl]

set_option maxRecDepth 100000 in
set_option maxHeartbeats 1600000 in
theorem rof_any (ax : Int) (N : Nat) : ∀ (t : T) (c : C) (w : World), sz t ≤ N → sz t ≤ 1000000 → Is w c t →
    Calls Try.prog 27 #[cval c, .int .u8 ax] w fun e w' => e = .returned (.int .i64 (lsT ax t)) ∧ Below w.heap.size w w' := by
  induction N with
  | zero => intro t c w h; have := sz_pos t; omega
  | succ N ih =>
    intro t c w hs hm hi
    have HR := Lib.hid hi.row
    have HKK := Lib.hid hi.split.1
    have hn := hi.n
    have hfn := hi.fine.2.2.2
    obtain ⟨ck, cr, cid, ca, cn, ccap⟩ := c
    simp only at hn hfn HKK
    subst hn
    clear hi
    have HS := Lib.hid hs
    have HM := Lib.hid hm
    have HIH := Lib.hid ih
    have HKL : Hid (t.kids.length ≤ 1000000) := Lib.hid (kids_le hm)
    have HSL : Hid (szL t.kids ≤ 1000000) := Lib.hid (by have := sz_node t; omega)
    clear hs hm ih
    have hkl1 : t.kids.length ≤ 1000000 := HKL.out
    by_cases h0 : t.kids.length = 0
    · have d0 : ((t.kids.length : Int) == 0) = true := by rw [h0]; rfl
      have HV : Hid (lsT ax t = 1) := Lib.hid (by rw [ls_eq, List.length_eq_zero_iff.1 h0]; rfl)
      rw [h0] at hkl1 d0 ⊢
      clear h0 hkl1
      go_enter Try.func27, Try.ntmps27
      go_wp2
      go_ret
      exact ⟨ret_int HV.out.symm, (Below.refl _ _).alloc (Nat.le_refl _) _⟩
    · have d0 : ((t.kids.length : Int) == 0) = false := by simp; intro e; exact h0 (by rw [e]; rfl)
      have HNE : Hid (t.kids ≠ []) := Lib.hid fun e => h0 (by rw [e]; rfl)
      have HFN := Lib.hid (of_fin (ax := ax) HNE.out _ rfl)
      rw [HKK.out] at HFN
      have HAL := Lib.hid (fun W => ralong_any ⟨ck, cr, cid, ca, t.kids.length, ccap⟩ ax W)
      simp only at HAL
      generalize lsT ax t = ll at HFN ⊢
      generalize alB ck ax = a at HAL HFN
      go_enter Try.func27, Try.ntmps27
      go_wp2
      go_loopg [5, 15] (t.kids.length + 1) (fun g s i wr => ∃ k : Nat, g + k = t.kids.length + 1 ∧ k ≤ t.kids.length ∧ i = .int .i64 k ∧ s = .int .i64 (ofK ax a t.kids k) ∧ Below (w.alloc (cbox ⟨ck, cr, cid, ca, t.kids.length, ccap⟩)).heap.size (w.alloc (cbox ⟨ck, cr, cid, ca, t.kids.length, ccap⟩)) wr)
      case atStart => exact ⟨0, by omega, by omega, rfl, by rw [of_zero], Below.refl _ _⟩
      case round =>
        obtain ⟨k, hg, hk, rfl, rfl, hb⟩ := hrel
        have HG := Lib.hid hg
        have HB := Lib.hid hb
        clear hg hb
        by_cases hlt : k < t.kids.length
        · have hlti : (k : Int) < (t.kids.length : Int) := by omega
          obtain ⟨b, o, rfl, hf⟩ := HR.out.place (by omega)
          obtain ⟨u, hu⟩ : ∃ u, t.kids[k]? = some u := ⟨_, List.getElem?_eq_getElem hlt⟩
          obtain ⟨x, hx, hix⟩ := hf k u hu
          clear hf
          obtain ⟨c0, c1, c2, c3, c4, c5, c6⟩ := hx.up (below_one HB.out)
          have q6 := (box_at HB.out).2.2.2.2.2.2
          simp only [Nat.zero_add] at q6
          have HK := Lib.hid (HIH.out u x wr (by have := HS.out; have := sz_kid hu; omega) (by have := HM.out; have := sz_kid hu; omega) (hix.up (below_one HB.out)))
          have hp1 := ls_pos ax u
          have hp2 : lsT ax u ≤ 2000000 := by have := ls_sz ax u; have := sz_kid hu; have := HM.out; omega
          have hp3 : 0 ≤ ofK ax a t.kids k ∧ ofK ax a t.kids k ≤ 2000000 := by have := of_bound ax a t.kids k hk; have := HSL.out; omega
          have HU := Lib.hid hu
          clear hix hu hx
          generalize hlu : lsT ax u = dd at HK hp1 hp2
          have HLU := Lib.hid hlu
          clear hlu
          go_wp2_with fail
          refine HK.out.mono ?_
          rintro e w2 ⟨rfl, hb2⟩
          have HB2 := Lib.hid (HB.out.trans (hb2.mono HB.out.size))
          clear hb2 c0 c1 c2 c3 c4 c5 c6 q6
          obtain ⟨c0, c1, c2, c3, c4, c5, c6⟩ := box_at HB2.out
          simp only [Nat.zero_add] at c1 c2 c3 c4 c5 c6
          have HAW := Lib.hid (HAL.out w2)
          go_wp2_with fail
          refine HAW.out.mono ?_
          rintro e w3 ⟨rfl, hb3⟩
          have HB3 := Lib.hid (HB2.out.trans (hb3.mono HB2.out.size))
          clear hb3 c0 c1 c2 c3 c4 c5 c6 HAW
          cases a with
          | true =>
            have HST := Lib.hid (of_along (ax := ax) HU.out _ rfl)
            rw [HLU.out] at HST
            generalize ofK ax true t.kids k = m at HST hp3 ⊢
            by_cases hz : 0 < k
            · have dz : decide ((0 : Int) < (k : Int)) = true := decide_eq_true (by omega)
              have HST2 : Hid (ofK ax true t.kids (k + 1) = m + dd + 1) := Lib.hid (by rw [HST.out, decide_eq_true hz, if_pos rfl])
              have dz2 : decide (0 < k) = true := decide_eq_true hz
              clear HST
              go_wp2
              go_roundg (gk - 1)
              case measure => have := HG.out; omega
              case rel => exact ⟨k + 1, by have := HG.out; omega, by omega, by go_num, by rw [HST2.out], HB3.out⟩
            · have dz : decide ((0 : Int) < (k : Int)) = false := decide_eq_false (by omega)
              have HST2 : Hid (ofK ax true t.kids (k + 1) = m + dd) := Lib.hid (by rw [HST.out, decide_eq_false hz, if_neg (by decide)]; omega)
              have dz2 : decide (0 < k) = false := decide_eq_false hz
              clear HST
              go_wp2
              go_roundg (gk - 1)
              case measure => have := HG.out; omega
              case rel => exact ⟨k + 1, by have := HG.out; omega, by omega, by go_num, by rw [HST2.out], HB3.out⟩
          | false =>
            have HST := Lib.hid (of_cross (ax := ax) HU.out)
            rw [HLU.out] at HST
            generalize ofK ax false t.kids k = m at HST hp3 ⊢
            by_cases hz : m < dd
            · have dz : decide (m < dd) = true := decide_eq_true hz
              go_wp2
              go_roundg (gk - 1)
              case measure => have := HG.out; omega
              case rel => exact ⟨k + 1, by have := HG.out; omega, by omega, by go_num, by rw [HST.out]; congr 1; omega, HB3.out⟩
            · have dz : decide (m < dd) = false := decide_eq_false hz
              go_wp2
              go_roundg (gk - 1)
              case measure => have := HG.out; omega
              case rel => exact ⟨k + 1, by have := HG.out; omega, by omega, by go_num, by rw [HST.out]; congr 1; omega, HB3.out⟩
        · obtain rfl : k = t.kids.length := by omega
          have hkl : ((t.kids.length : Int) < (t.kids.length : Int)) = False := by simp
          rw [← HFN.out]
          go_wp2
          go_ret
          exact ⟨rfl, below_one HB.out⟩
end Go.Proofs.Ytajhojbnpajelaa
