/- Texts of this seat, 3 in one file. -/
import Derived.Test.YtcdiogifgemjbaaGreatG21
import Derived.IntWalk
import Derived.Deep.RegionHeld3
/- The least size of a tree: the document's. -/
namespace Go.Proofs.YtcdiogifgemjbaaGreat
open Go.RowKit

/-- So far: together, with the lines between. -/
def ofK (ax : Int) (a : Bool) (l : List T) (k : Nat) : Int := if a = true then (if k = 0 then 0 else lsS ax (l.take k) + k - 1) else lsX ax (l.take k)
theorem of_zero (ax : Int) (a : Bool) (l : List T) : ofK ax a l 0 = 0 := by unfold ofK; cases a <;> simp [lsX]
theorem of_along {ax : Int} {l : List T} {k : Nat} {u : T} (h : l[k]? = some u) (z : Bool) (hz : z = decide (0 < k)) : ofK ax true l (k + 1) = ofK ax true l k + lsT ax u + (if z = true then 1 else 0) := by
  subst hz
  unfold ofK
  rw [if_pos rfl, if_pos rfl, if_neg (by omega), lsS_step h]
  by_cases hk : k = 0
  · subst hk; simp [lsS]
  · rw [if_neg hk, if_pos (by simp; omega)]; omega
theorem of_cross {ax : Int} {l : List T} {k : Nat} {u : T} (h : l[k]? = some u) : ofK ax false l (k + 1) = max (ofK ax false l k) (lsT ax u) := by
  unfold ofK
  rw [if_neg (by decide), if_neg (by decide), lsX_step h]
theorem of_bound (ax : Int) (a : Bool) (l : List T) (k : Nat) (hk : k ≤ l.length) : 0 ≤ ofK ax a l k ∧ ofK ax a l k ≤ 2 * (szL l : Int) := by
  have h1 := lsS_sz ax (l.take k)
  have h2 := lsX_sz ax (l.take k)
  have h3 := szL_take_le l k
  have h4 := lsS_pos ax (l.take k)
  have h5 := lsX_nonneg ax (l.take k)
  unfold ofK
  split
  · split
    · omega
    · rw [List.length_take, Nat.min_eq_left hk] at h1 h4; omega
  · omega
theorem of_fin {ax : Int} {t : T} (h : t.kids ≠ []) (a : Bool) (ha : alB t.k ax = a) : lsT ax t = ofK ax a t.kids t.kids.length := by
  subst ha
  have hl : t.kids.length ≠ 0 := fun e => h (List.length_eq_zero_iff.1 e)
  rw [ls_eq, if_neg (by simpa using h)]
  unfold ofK
  rw [List.take_length, if_neg hl]

set_option maxRecDepth 100000 in
set_option maxHeartbeats 1600000 in
theorem rof_any (ax : Int) (N : Nat) : ∀ (t : T) (c : C) (w : World), sz t ≤ N → sz t ≤ 1000000 → Is w c t →
    Calls Tryz.prog 58 #[cval c, .int .u8 ax] w fun e w' => e = .returned (.int .i64 (lsT ax t)) ∧ Below w.heap.size w w' := by
  induction N with
  | zero => intro t c w h; have := sz_pos t; omega
  | succ N ih =>
    intro t c w hs hm hi
    have HR := Lib.hid hi.row
    have HKK := Lib.hid hi.split.1
    have hn := hi.n
    have hfn := hi.fine.2.2.2
    obtain ⟨ck, cr, cid, ca, cn, ccap⟩ := c
    simp only at hn hfn HKK
    subst hn
    clear hi
    have HS := Lib.hid hs
    have HM := Lib.hid hm
    have HIH := Lib.hid ih
    have HKL : Hid (t.kids.length ≤ 1000000) := Lib.hid (kids_le hm)
    have HSL : Hid (szL t.kids ≤ 1000000) := Lib.hid (by have := sz_node t; omega)
    clear hs hm ih
    have hkl1 : t.kids.length ≤ 1000000 := HKL.out
    by_cases h0 : t.kids.length = 0
    · have d0 : ((t.kids.length : Int) == 0) = true := by rw [h0]; rfl
      have HV : Hid (lsT ax t = 1) := Lib.hid (by rw [ls_eq, List.length_eq_zero_iff.1 h0]; rfl)
      rw [h0] at hkl1 d0 ⊢
      clear h0 hkl1
      go_enter Tryz.func58, Tryz.ntmps58
      go_wp2
      go_ret
      exact ⟨ret_int HV.out.symm, (Below.refl _ _).alloc (Nat.le_refl _) _⟩
    · have d0 : ((t.kids.length : Int) == 0) = false := by simp; intro e; exact h0 (by rw [e]; rfl)
      have HNE : Hid (t.kids ≠ []) := Lib.hid fun e => h0 (by rw [e]; rfl)
      have HFN := Lib.hid (of_fin (ax := ax) HNE.out _ rfl)
      rw [HKK.out] at HFN
      have HAL := Lib.hid (fun W => ralong_any ⟨ck, cr, cid, ca, t.kids.length, ccap⟩ ax W)
      simp only at HAL
      generalize lsT ax t = ll at HFN ⊢
      generalize alB ck ax = a at HAL HFN
      go_enter Tryz.func58, Tryz.ntmps58
      go_wp2
      go_loopg [5, 15] (t.kids.length + 1) (fun g s i wr => ∃ k : Nat, g + k = t.kids.length + 1 ∧ k ≤ t.kids.length ∧ i = .int .i64 k ∧ s = .int .i64 (ofK ax a t.kids k) ∧ Below (w.alloc (cbox ⟨ck, cr, cid, ca, t.kids.length, ccap⟩)).heap.size (w.alloc (cbox ⟨ck, cr, cid, ca, t.kids.length, ccap⟩)) wr)
      case atStart => exact ⟨0, by omega, by omega, rfl, by rw [of_zero], Below.refl _ _⟩
      case round =>
        obtain ⟨k, hg, hk, rfl, rfl, hb⟩ := hrel
        have HG := Lib.hid hg
        have HB := Lib.hid hb
        clear hg hb
        by_cases hlt : k < t.kids.length
        · have hlti : (k : Int) < (t.kids.length : Int) := by omega
          obtain ⟨b, o, rfl, hf⟩ := HR.out.place (by omega)
          obtain ⟨u, hu⟩ : ∃ u, t.kids[k]? = some u := ⟨_, List.getElem?_eq_getElem hlt⟩
          obtain ⟨x, hx, hix⟩ := hf k u hu
          clear hf
          obtain ⟨c0, c1, c2, c3, c4, c5, c6⟩ := hx.up (below_one HB.out)
          have q6 := (box_at HB.out).2.2.2.2.2.2
          simp only [Nat.zero_add] at q6
          have HK := Lib.hid (HIH.out u x wr (by have := HS.out; have := sz_kid hu; omega) (by have := HM.out; have := sz_kid hu; omega) (hix.up (below_one HB.out)))
          have hp1 := ls_pos ax u
          have hp2 : lsT ax u ≤ 2000000 := by have := ls_sz ax u; have := sz_kid hu; have := HM.out; omega
          have hp3 : 0 ≤ ofK ax a t.kids k ∧ ofK ax a t.kids k ≤ 2000000 := by have := of_bound ax a t.kids k hk; have := HSL.out; omega
          have HU := Lib.hid hu
          clear hix hu hx
          generalize hlu : lsT ax u = dd at HK hp1 hp2
          have HLU := Lib.hid hlu
          clear hlu
          go_wp2_with fail
          refine HK.out.mono ?_
          rintro e w2 ⟨rfl, hb2⟩
          have HB2 := Lib.hid (HB.out.trans (hb2.mono HB.out.size))
          clear hb2 c0 c1 c2 c3 c4 c5 c6 q6
          obtain ⟨c0, c1, c2, c3, c4, c5, c6⟩ := box_at HB2.out
          simp only [Nat.zero_add] at c1 c2 c3 c4 c5 c6
          have HAW := Lib.hid (HAL.out w2)
          go_wp2_with fail
          refine HAW.out.mono ?_
          rintro e w3 ⟨rfl, hb3⟩
          have HB3 := Lib.hid (HB2.out.trans (hb3.mono HB2.out.size))
          clear hb3 c0 c1 c2 c3 c4 c5 c6 HAW
          cases a with
          | true =>
            have HST := Lib.hid (of_along (ax := ax) HU.out _ rfl)
            rw [HLU.out] at HST
            generalize ofK ax true t.kids k = m at HST hp3 ⊢
            by_cases hz : 0 < k
            · have dz : decide ((0 : Int) < (k : Int)) = true := decide_eq_true (by omega)
              have HST2 : Hid (ofK ax true t.kids (k + 1) = m + dd + 1) := Lib.hid (by rw [HST.out, decide_eq_true hz, if_pos rfl])
              have dz2 : decide (0 < k) = true := decide_eq_true hz
              clear HST
              go_wp2
              go_roundg (gk - 1)
              case measure => have := HG.out; omega
              case rel => exact ⟨k + 1, by have := HG.out; omega, by omega, by go_num, by rw [HST2.out], HB3.out⟩
            · have dz : decide ((0 : Int) < (k : Int)) = false := decide_eq_false (by omega)
              have HST2 : Hid (ofK ax true t.kids (k + 1) = m + dd) := Lib.hid (by rw [HST.out, decide_eq_false hz, if_neg (by decide)]; omega)
              have dz2 : decide (0 < k) = false := decide_eq_false hz
              clear HST
              go_wp2
              go_roundg (gk - 1)
              case measure => have := HG.out; omega
              case rel => exact ⟨k + 1, by have := HG.out; omega, by omega, by go_num, by rw [HST2.out], HB3.out⟩
          | false =>
            have HST := Lib.hid (of_cross (ax := ax) HU.out)
            rw [HLU.out] at HST
            generalize ofK ax false t.kids k = m at HST hp3 ⊢
            by_cases hz : m < dd
            · have dz : decide (m < dd) = true := decide_eq_true hz
              go_wp2
              go_roundg (gk - 1)
              case measure => have := HG.out; omega
              case rel => exact ⟨k + 1, by have := HG.out; omega, by omega, by go_num, by rw [HST.out]; congr 1; omega, HB3.out⟩
            · have dz : decide (m < dd) = false := decide_eq_false hz
              go_wp2
              go_roundg (gk - 1)
              case measure => have := HG.out; omega
              case rel => exact ⟨k + 1, by have := HG.out; omega, by omega, by go_num, by rw [HST.out]; congr 1; omega, HB3.out⟩
        · obtain rfl : k = t.kids.length := by omega
          have hkl : ((t.kids.length : Int) < (t.kids.length : Int)) = False := by simp
          rw [← HFN.out]
          go_wp2
          go_ret
          exact ⟨rfl, below_one HB.out⟩
end Go.Proofs.YtcdiogifgemjbaaGreat
/- The least size of a tree: the program's walk. -/
namespace Go.Proofs.YtcdiogifgemjbaaGreat
open Go.RowKit

theorem ls_fin {ax : Int} {t : T} (h : okT t) (a : Bool) (ha : alB t.k ax = a) : lsT ax t = if a = true then ((t.kids.length : Int) - 1) + lsS ax t.kids else max 1 (lsX ax t.kids) := by
  cases a with
  | true => rw [ls_yes h ha, if_pos rfl]; omega
  | false => rw [ls_no ha, if_neg (by decide)]

set_option maxRecDepth 100000 in
set_option maxHeartbeats 800000 in
theorem least_any (ax : Int) (N : Nat) : ∀ (t : T) (c : C) (w : World), sz t ≤ N → sz t ≤ 1000000 → okT t → Is w c t →
    Calls Tryz.prog 69 #[cval c, .int .u8 ax] w fun e w' => e = .returned (.int .i64 (lsT ax t)) ∧ Below w.heap.size w w' := by
  induction N with
  | zero => intro t c w h; have := sz_pos t; omega
  | succ N ih =>
    intro t c w hs hm hok hi
    have HR := Lib.hid hi.row
    have HKK := Lib.hid hi.split.1
    have hn := hi.n
    have hfn := hi.fine.2.2.2
    obtain ⟨ck, cr, cid, ca, cn, ccap⟩ := c
    simp only at hn hfn HKK
    subst hn
    clear hi
    have HS := Lib.hid hs
    have HM := Lib.hid hm
    have HOK := Lib.hid hok
    have HIH := Lib.hid ih
    have HKL : Hid (t.kids.length ≤ 1000000) := Lib.hid (kids_le hm)
    have HSL : Hid (szL t.kids ≤ 1000000) := Lib.hid (by have := sz_node t; omega)
    clear hs hm ih hok
    have hkl1 : t.kids.length ≤ 1000000 := HKL.out
    have HFN := Lib.hid (ls_fin (ax := ax) HOK.out _ rfl)
    generalize lsT ax t = ll at HFN ⊢
    go_enter Tryz.func69, Tryz.ntmps69
    go_wp2
    go_loopg [5, 6, 17] (t.kids.length + 1) (fun g s x i wr => ∃ k : Nat, g + k = t.kids.length + 1 ∧ k ≤ t.kids.length ∧ i = .int .i64 k ∧ s = .int .i64 (((t.kids.length : Int) - 1) + lsS ax (t.kids.take k)) ∧ x = .int .i64 (max 1 (lsX ax (t.kids.take k))) ∧ Below (w.alloc (cbox ⟨ck, cr, cid, ca, t.kids.length, ccap⟩)).heap.size (w.alloc (cbox ⟨ck, cr, cid, ca, t.kids.length, ccap⟩)) wr)
    case atStart => exact ⟨0, by omega, by omega, rfl, by simp [lsS], by simp [lsX]; rfl, Below.refl _ _⟩
    case round =>
      obtain ⟨k, hg, hk, rfl, rfl, rfl, hb⟩ := hrel
      have HG := Lib.hid hg
      have HB := Lib.hid hb
      clear hg hb
      by_cases hlt : k < t.kids.length
      · have hlti : (k : Int) < (t.kids.length : Int) := by omega
        obtain ⟨b, o, rfl, hf⟩ := HR.out.place (by omega)
        obtain ⟨u, hu⟩ : ∃ u, t.kids[k]? = some u := ⟨_, List.getElem?_eq_getElem hlt⟩
        obtain ⟨x, hx, hix⟩ := hf k u hu
        clear hf
        obtain ⟨c0, c1, c2, c3, c4, c5, c6⟩ := hx.up (below_one HB.out)
        have HA : Hid (Below wr.heap.size wr (wr.alloc (cbox x))) := (Below.refl _ _).alloc (Nat.le_refl _) _
        have HK := Lib.hid (HIH.out u x (wr.alloc (cbox x)) (by have := HS.out; have := sz_kid hu; omega) (by have := HM.out; have := sz_kid hu; omega) (ok_kid HOK.out hu) ((hix.up (below_one HB.out)).up HA.out))
        have HST := Lib.hid (lsS_step (ax := ax) hu)
        have HXT := Lib.hid (lsX_step (ax := ax) hu)
        have hp1 := ls_pos ax u
        have hp2 : lsT ax u ≤ 2000000 := by have := ls_sz ax u; have := sz_kid hu; have := HM.out; omega
        have hp3 := lsS_pos ax (t.kids.take k)
        have hp4 : lsS ax (t.kids.take k) ≤ 2000000 := by have := lsS_sz ax (t.kids.take k); have := szL_take_le t.kids k; have := HSL.out; omega
        have hp5 := lsX_nonneg ax (t.kids.take k)
        clear hix hu hx
        generalize lsS ax (t.kids.take k) = m at HST hp3 hp4 ⊢
        generalize lsX ax (t.kids.take k) = mx at HXT hp5 ⊢
        generalize lsT ax u = dd at HK HST HXT hp1 hp2
        go_wp2_with fail
        refine HK.out.mono ?_
        rintro e w2 ⟨rfl, hb2⟩
        have HB2 := Lib.hid (HB.out.trans ((below_one hb2).mono HB.out.size))
        clear hb2 c0 c1 c2 c3 c4 c5 c6
        have HMX : Hid (max (max 1 mx) dd = max 1 (lsX ax (t.kids.take (k + 1)))) := Lib.hid (by rw [HXT.out]; omega)
        generalize max (1 : Int) mx = X at HMX ⊢
        obtain ⟨Z, hZ⟩ : ∃ Z : Int, max X dd = Z := ⟨_, rfl⟩
        go_wp2
        go_roundg (gk - 1)
        case measure => have := HG.out; omega
        case rel =>
          refine ⟨k + 1, by have := HG.out; omega, by omega, by go_num, ?_, ?_, HB2.out⟩
          · rw [HST.out, ← Int.add_assoc]
          · rw [← HMX.out, hZ]
      · obtain rfl : k = t.kids.length := by omega
        have hkl : ((t.kids.length : Int) < (t.kids.length : Int)) = False := by simp
        rw [List.take_length]
        have HAL := Lib.hid (along8_any ⟨ck, cr, cid, ca, t.kids.length, ccap⟩ ax wr)
        rw [HKK.out] at HFN
        obtain ⟨c0, c1, c2, c3, c4, c5, c6⟩ := box_at HB.out
        simp only [Nat.zero_add] at c1 c2 c3 c4 c5 c6
        simp only at HAL
        generalize lsS ax t.kids = m at HFN ⊢
        generalize lsX ax t.kids = mx at HFN ⊢
        generalize alB ck ax = a at HAL HFN
        go_wp2_with fail
        refine HAL.out.mono ?_
        rintro e w2 ⟨rfl, hb2⟩
        have HB2 := Lib.hid (HB.out.trans (hb2.mono HB.out.size))
        clear hb2 c0 c1 c2 c3 c4 c5 c6
        cases a with
        | true =>
          have HF2 : Hid (ll = ((t.kids.length : Int) - 1) + m) := Lib.hid (by have := HFN.out; rw [if_pos rfl] at this; exact this)
          clear HFN
          go_wp2
          go_ret
          exact ⟨ret_int HF2.out.symm, below_one HB2.out⟩
        | false =>
          have HF2 : Hid (ll = max 1 mx) := Lib.hid (by have := HFN.out; rw [if_neg (by decide)] at this; exact this)
          clear HFN
          go_wp2
          go_ret
          exact ⟨ret_int HF2.out.symm, below_one HB2.out⟩
end Go.Proofs.YtcdiogifgemjbaaGreat
/- Least, Gives, Fits: the program's. -/
namespace Go.Proofs.YtcdiogifgemjbaaGreat
open Go.RowKit

abbrev C7 (b : Nat) (c : C) (W : World) : Prop := W.cell? ⟨b, 0, none⟩ = some (.int .u8 c.k) ∧ W.cell? ⟨b, 1, none⟩ = some (.int .i64 c.r.x) ∧ W.cell? ⟨b, 2, none⟩ = some (.int .i64 c.r.y) ∧ W.cell? ⟨b, 3, none⟩ = some (.int .i64 c.r.w) ∧ W.cell? ⟨b, 4, none⟩ = some (.int .i64 c.r.h) ∧ W.cell? ⟨b, 5, none⟩ = some (.int .i64 c.id) ∧ W.cell? ⟨b, 6, none⟩ = some (.slice c.a c.n c.cap)
theorem c7_of {W : World} {b : Nat} {c : C} (h : CAt W b 0 c) : C7 b c W := by
  obtain ⟨c0, c1, c2, c3, c4, c5, c6⟩ := h
  simp only [Nat.zero_add] at c1 c2 c3 c4 c5 c6
  exact ⟨c0, c1, c2, c3, c4, c5, c6⟩

def leT (ax : Int) (t : T) : Int := if mayT t = true ∧ axB ax = true then lsT ax t else 0
theorem le_yes {ax : Int} {t : T} (h : mayT t = true) (ha : axB ax = true) : leT ax t = lsT ax t := if_pos ⟨h, ha⟩
theorem le_may {ax : Int} {t : T} (h : mayT t = false) : leT ax t = 0 := if_neg (fun e => by rw [h] at e; cases e.1)
theorem le_axis {ax : Int} {t : T} (h : axB ax = false) : leT ax t = 0 := if_neg (fun e => by rw [h] at e; cases e.2)
noncomputable def giT (ax : Int) (t : T) : Int := if tileB t = true ∧ axB ax = true then gvT ax t else 0
theorem gi_yes {ax : Int} {t : T} (h : tileB t = true) (ha : axB ax = true) : giT ax t = gvT ax t := if_pos ⟨h, ha⟩
theorem gi_tile {ax : Int} {t : T} (h : tileB t = false) : giT ax t = 0 := if_neg (fun e => by rw [h] at e; cases e.1)
theorem gi_axis {ax : Int} {t : T} (h : axB ax = false) : giT ax t = 0 := if_neg (fun e => by rw [h] at e; cases e.2)
def roomB (ax s : Int) (t : T) : Bool := decide (lsT ax t ≤ s) && decide (s ≤ 10000 - atA t.r ax)
def fits8 (t : T) (w h : Int) : Bool := mayT t && roomB 1 w t && roomB 2 h t

/-- May, of one. -/
theorem may8_any (t : T) (c : C) (w : World) (hi : Is w c t) (n : Nat) (hn : n = w.heap.size) :
    Calls Tryz.prog 43 #[.slice (some ⟨n, 0, none⟩) 1 1] (w.alloc (cbox c)) fun e w' => e = .returned (.bool (mayT t)) ∧ Below w.heap.size w w' := by
  subst hn
  refine (mayAll_any _ [t] _ (trow1 hi) (by simp)).mono ?_
  rintro e w' ⟨rfl, hb⟩
  exact ⟨by simp, below_one hb⟩

set_option maxRecDepth 100000 in
set_option maxHeartbeats 800000 in
theorem giv_any (t : T) (c : C) (ax : Int) (w : World) (hi : Is w c t) (hs : mayT t = true → sz t ≤ 20000) : Calls Tryz.prog 52 #[cval c, .int .u8 ax] w fun e w' => e = .returned (.int .i64 (giT ax t)) ∧ Below w.heap.size w w' := by
  have HA : Hid (Below w.heap.size w (w.alloc (cbox c))) := (Below.refl _ _).alloc (Nat.le_refl _) _
  have HC := Lib.hid (cbox_new w c)
  have HM := Lib.hid (tilesOne_any t c (w.alloc (cbox c)) (hi.up HA.out) hs (w.heap.size + 1) (by simp))
  have HCR := Lib.hid hi.split.2.1
  have HI := Lib.hid hi
  clear hi
  cases hm : tileB t with
  | false =>
    rw [hm] at HM
    have HV := Lib.hid (gi_tile (ax := ax) hm)
    clear hm
    go_enter Tryz.func52, Tryz.ntmps52
    go_wp2_with fail
    refine HM.out.mono ?_
    rintro e w2 ⟨rfl, hb2⟩
    have B2 := Lib.hid (HA.out.trans (hb2.mono HA.out.size))
    clear hb2
    go_wp2
    go_ret
    exact ⟨ret_int HV.out.symm, B2.out⟩
  | true =>
    rw [hm] at HM
    cases ha : axB ax with
    | false =>
      have HV := Lib.hid (gi_axis (ax := ax) (t := t) ha)
      have HX := Lib.hid (fun W => isAxis_any ax W)
      rw [ha] at HX
      clear hm ha
      go_enter Tryz.func52, Tryz.ntmps52
      go_wp2_with fail
      refine HM.out.mono ?_
      rintro e w2 ⟨rfl, hb2⟩
      have B2 := Lib.hid (HA.out.trans (hb2.mono HA.out.size))
      clear hb2
      go_wp2_with fail
      refine (HX.out w2).mono ?_
      rintro e w3 ⟨rfl, rfl⟩
      go_wp2
      go_ret
      exact ⟨ret_int HV.out.symm, B2.out⟩
    | true =>
      have HX := Lib.hid (fun W => isAxis_any ax W)
      rw [ha] at HX
      have hmy := tile_may hm
      have HL := Lib.hid (fun W (h : Is W c t) => least_any ax (sz t) t c W (Nat.le_refl _) (by have := may_small hmy; omega) (ok_may hmy) h)
      have HZ := Lib.hid (fun W => lsize_any c.r ax W)
      have hr := szA_pos (well_rect (tile_top (hs hmy) hm).1) ((axB_iff ax).1 ha)
      have h1 := ls_pos ax t
      have h2 : lsT ax t ≤ 40000 := by have := ls_sz ax t; have := hs hmy; omega
      rw [HCR.out] at hr
      rw [gi_yes hm ha, gvT, HCR.out]
      clear hm ha hmy hs
      generalize lsT ax t = ll at HL h1 h2 ⊢
      have hr1 := hr.1
      have hr2 : szA c.r ax ≤ 10000 := by omega
      clear hr
      generalize szA c.r ax = ss at HZ hr1 hr2 ⊢
      go_enter Tryz.func52, Tryz.ntmps52
      go_wp2_with fail
      refine HM.out.mono ?_
      rintro e w2 ⟨rfl, hb2⟩
      have B2 := Lib.hid (HA.out.trans (hb2.mono HA.out.size))
      have D2 := Lib.hid (HC.out.up hb2)
      clear hb2
      go_wp2_with fail
      refine (HX.out w2).mono ?_
      rintro e w3 ⟨rfl, rfl⟩
      have BD := Lib.hid B2.out.drew
      have DD : Hid (CAt w2.drew w.heap.size 0 c) := Lib.hid D2.out
      have S0 := Lib.hid (c7_of DD.out)
      go_wp2_with fail
      go_region_held3 (fun W => W.cell? ⟨w.heap.size, 0, none⟩ = some (.int .u8 c.k) ∧ W.cell? ⟨w.heap.size, 1, none⟩ = some (.int .i64 c.r.x) ∧ W.cell? ⟨w.heap.size, 2, none⟩ = some (.int .i64 c.r.y) ∧ W.cell? ⟨w.heap.size, 3, none⟩ = some (.int .i64 c.r.w) ∧ W.cell? ⟨w.heap.size, 4, none⟩ = some (.int .i64 c.r.h) ∧ W.cell? ⟨w.heap.size, 5, none⟩ = some (.int .i64 c.id) ∧ W.cell? ⟨w.heap.size, 6, none⟩ = some (.slice c.a c.n c.cap)) (first | with_reducible exact S0.out | with_reducible exact S1.out | with_reducible exact S2.out)
        (first
          | (go_at_call 34; (with_reducible refine (HZ.out w2.drew).mono ?_); rintro e y1 ⟨rfl, hb1⟩; have E1 := Lib.hid (BD.out.trans (hb1.mono BD.out.size)); have D1 := Lib.hid (DD.out.up hb1); have S1 := Lib.hid (c7_of (DD.out.up hb1)); clear hb1)
          | (go_at_call 69; (with_reducible refine (HL.out y1 (HI.out.up E1.out)).mono ?_); rintro e y2 ⟨rfl, hb2⟩; have E2 := Lib.hid (E1.out.trans (hb2.mono E1.out.size)); have S2 := Lib.hid (c7_of (D1.out.up hb2)); clear hb2))
      go_wp2
      go_ret
      exact ⟨ret_int (wrap_id (by omega)), E2.out⟩

end Go.Proofs.YtcdiogifgemjbaaGreat
