/- The least size of a tree: the program's walk. -/
import Derived.Test.YtajhojbnpajelaaLsM
import Derived.IntWalk
namespace Go.Proofs.Ytajhojbnpajelaa
open Go.RowKit

theorem ls_fin {ax : Int} {t : T} (h : okT t) (a : Bool) (ha : alB t.k ax = a) : lsT ax t = if a = true then ((t.kids.length : Int) - 1) + lsS ax t.kids else max 1 (lsX ax t.kids) := by
  cases a with
  | true => rw [ls_yes h ha, if_pos rfl]; omega
  | false => rw [ls_no ha, if_neg (by decide)]

set_option maxRecDepth 100000 in
set_option maxHeartbeats 800000 in
theorem least_any (ax : Int) (N : Nat) : ∀ (t : T) (c : C) (w : World), sz t ≤ N → sz t ≤ 1000000 → okT t → Is w c t →
    Calls Try.prog 25 #[cval c, .int .u8 ax] w fun e w' => e = .returned (.int .i64 (lsT ax t)) ∧ Below w.heap.size w w' := by
  induction N with
  | zero => intro t c w h; have := sz_pos t; omega
  | succ N ih =>
    intro t c w hs hm hok hi
    have HR := Lib.hid hi.row
    have HKK := Lib.hid hi.split.1
    have hn := hi.n
    have hfn := hi.fine.2.2.2
    obtain ⟨ck, cr, cid, ca, cn, ccap⟩ := c
    simp only at hn hfn HKK
    subst hn
    clear hi
    have HS := Lib.hid hs
    have HM := Lib.hid hm
    have HOK := Lib.hid hok
    have HIH := Lib.hid ih
    have HKL : Hid (t.kids.length ≤ 1000000) := Lib.hid (kids_le hm)
    have HSL : Hid (szL t.kids ≤ 1000000) := Lib.hid (by have := sz_node t; omega)
    clear hs hm ih hok
    have hkl1 : t.kids.length ≤ 1000000 := HKL.out
    have HFN := Lib.hid (ls_fin (ax := ax) HOK.out _ rfl)
    generalize lsT ax t = ll at HFN ⊢
    go_enter Try.func25, Try.ntmps25
    go_wp2
    go_loopg [5, 6, 17] (t.kids.length + 1) (fun g s x i wr => ∃ k : Nat, g + k = t.kids.length + 1 ∧ k ≤ t.kids.length ∧ i = .int .i64 k ∧ s = .int .i64 (((t.kids.length : Int) - 1) + lsS ax (t.kids.take k)) ∧ x = .int .i64 (max 1 (lsX ax (t.kids.take k))) ∧ Below (w.alloc (cbox ⟨ck, cr, cid, ca, t.kids.length, ccap⟩)).heap.size (w.alloc (cbox ⟨ck, cr, cid, ca, t.kids.length, ccap⟩)) wr)
    case atStart => exact ⟨0, by omega, by omega, rfl, by simp [lsS], by simp [lsX]; rfl, Below.refl _ _⟩
    case round =>
      obtain ⟨k, hg, hk, rfl, rfl, rfl, hb⟩ := hrel
      have HG := Lib.hid hg
      have HB := Lib.hid hb
      clear hg hb
      by_cases hlt : k < t.kids.length
      · have hlti : (k : Int) < (t.kids.length : Int) := by omega
        obtain ⟨b, o, rfl, hf⟩ := HR.out.place (by omega)
        obtain ⟨u, hu⟩ : ∃ u, t.kids[k]? = some u := ⟨_, List.getElem?_eq_getElem hlt⟩
        obtain ⟨x, hx, hix⟩ := hf k u hu
        clear hf
        obtain ⟨c0, c1, c2, c3, c4, c5, c6⟩ := hx.up (below_one HB.out)
        have HA : Hid (Below wr.heap.size wr (wr.alloc (cbox x))) := (Below.refl _ _).alloc (Nat.le_refl _) _
        have HK := Lib.hid (HIH.out u x (wr.alloc (cbox x)) (by have := HS.out; have := sz_kid hu; omega) (by have := HM.out; have := sz_kid hu; omega) (ok_kid HOK.out hu) ((hix.up (below_one HB.out)).up HA.out))
        have HST := Lib.hid (lsS_step (ax := ax) hu)
        have HXT := Lib.hid (lsX_step (ax := ax) hu)
        have hp1 := ls_pos ax u
        have hp2 : lsT ax u ≤ 2000000 := by have := ls_sz ax u; have := sz_kid hu; have := HM.out; omega
        have hp3 := lsS_pos ax (t.kids.take k)
        have hp4 : lsS ax (t.kids.take k) ≤ 2000000 := by have := lsS_sz ax (t.kids.take k); have := szL_take_le t.kids k; have := HSL.out; omega
        have hp5 := lsX_nonneg ax (t.kids.take k)
        clear hix hu hx
        generalize lsS ax (t.kids.take k) = m at HST hp3 hp4 ⊢
        generalize lsX ax (t.kids.take k) = mx at HXT hp5 ⊢
        generalize lsT ax u = dd at HK HST HXT hp1 hp2
        go_wp2_with fail
        refine HK.out.mono ?_
        rintro e w2 ⟨rfl, hb2⟩
        have HB2 := Lib.hid (HB.out.trans ((below_one hb2).mono HB.out.size))
        clear hb2 c0 c1 c2 c3 c4 c5 c6
        have HMX : Hid (max (max 1 mx) dd = max 1 (lsX ax (t.kids.take (k + 1)))) := Lib.hid (by rw [HXT.out]; omega)
        generalize max (1 : Int) mx = X at HMX ⊢
        obtain ⟨Z, hZ⟩ : ∃ Z : Int, max X dd = Z := ⟨_, rfl⟩
        go_wp2
        go_roundg (gk - 1)
        case measure => have := HG.out; omega
        case rel =>
          refine ⟨k + 1, by have := HG.out; omega, by omega, by go_num, ?_, ?_, HB2.out⟩
          · rw [HST.out, ← Int.add_assoc]
          · rw [← HMX.out, hZ]
      · obtain rfl : k = t.kids.length := by omega
        have hkl : ((t.kids.length : Int) < (t.kids.length : Int)) = False := by simp
        rw [List.take_length]
        have HAL := Lib.hid (along8_any ⟨ck, cr, cid, ca, t.kids.length, ccap⟩ ax wr)
        rw [HKK.out] at HFN
        obtain ⟨c0, c1, c2, c3, c4, c5, c6⟩ := box_at HB.out
        simp only [Nat.zero_add] at c1 c2 c3 c4 c5 c6
        simp only at HAL
        generalize lsS ax t.kids = m at HFN ⊢
        generalize lsX ax t.kids = mx at HFN ⊢
        generalize alB ck ax = a at HAL HFN
        go_wp2_with fail
        refine HAL.out.mono ?_
        rintro e w2 ⟨rfl, hb2⟩
        have HB2 := Lib.hid (HB.out.trans (hb2.mono HB.out.size))
        clear hb2 c0 c1 c2 c3 c4 c5 c6
        cases a with
        | true =>
          have HF2 : Hid (ll = ((t.kids.length : Int) - 1) + m) := Lib.hid (by have := HFN.out; rw [if_pos rfl] at this; exact this)
          clear HFN
          go_wp2
          go_ret
          exact ⟨ret_int HF2.out.symm, below_one HB2.out⟩
        | false =>
          have HF2 : Hid (ll = max 1 mx) := Lib.hid (by have := HFN.out; rw [if_neg (by decide)] at this; exact this)
          clear HFN
          go_wp2
          go_ret
          exact ⟨ret_int HF2.out.symm, below_one HB2.out⟩
end Go.Proofs.Ytajhojbnpajelaa
