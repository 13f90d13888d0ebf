/- The document's answers: does a tree tile, the leaf that has a cell, the leaves' rectangles. -/
import Derived.Test.YtibjpkicchdomaaHit
import Derived.Test.YtibjpkicchdomaaRHas
import Derived.Test.YtibjpkicchdomaaMayMath
namespace Go.Proofs.Ytibjpkicchdomaa
open Go.RowKit

set_option maxRecDepth 100000 in
theorem rtiles_any (t : T) (c : C) (w : World) (hi : Is w c t) (hs : sz t ≤ 999) : Calls Try.prog 16 #[cval c] w fun e w' => e = .returned (.bool (tileB t)) ∧ Below w.heap.size w w' := by
  have HA : Hid (Below w.heap.size w (w.alloc (cbox c))) := (Below.refl _ _).alloc (Nat.le_refl _) _
  have hm : mayT t = rmayT t := may_is (by omega)
  have H : Hid (Calls Try.prog 34 #[cval c] (w.alloc (cbox c)) fun e w' => ∃ (v : Value) (no pl : Int), e = .returned (.tuple #[v, .int .i64 no, .int .i64 pl]) ∧ (no == 0) = tileB t ∧ Below w.heap.size w w') := Lib.hid ((rcheck_any t c (w.alloc (cbox c)) (hi.up HA.out) hs).mono fun e w' ⟨v, no, pl, l, h1, _, hb, h⟩ => ⟨v, no, pl, h1, by
    unfold tileB
    rw [hm]
    rcases h with ⟨a, rfl, _⟩ | ⟨a, b, rfl, _⟩ | ⟨a, b, rfl, _⟩
    · rw [a]; rfl
    · rw [a, b]; rfl
    · rw [a, b]; rfl, HA.out.trans (hb.mono HA.out.size)⟩)
  clear hi hm
  generalize tileB t = b at H ⊢
  go_enter Try.func16, Try.ntmps16
  go_wp2_with fail
  refine H.out.mono ?_
  rintro e w2 ⟨v, no, pl, rfl, hb, hb2⟩
  have HB2 := Lib.hid hb2
  clear hb2
  subst hb
  go_wp2
  go_ret
  exact ⟨rfl, HB2.out⟩

theorem hit_leaves (x y : Int) (t : T) : hitT x y t = ((preT t).filter leafB).find? (fun u => hasB u.r x y) := by
  unfold hitT
  rw [List.find?_filter]
  congr 1
  funext u
  unfold qh leafB
  congr 1
  rw [Bool.eq_iff_iff]; simp
theorem find_first {l : List T} {k : Nat} {u : T} {q : T → Bool} (hu : l[k]? = some u) (hq : q u = true) (h : ∀ (j : Nat) (v : T), j < k → l[j]? = some v → q v = false) : l.find? q = some u := by
  induction l generalizing k with
  | nil => simp at hu
  | cons t l ih =>
    cases k with
    | zero => simp at hu; subst hu; simp [List.find?_cons, hq]
    | succ k =>
      have h0 := h 0 t (by omega) (by simp)
      rw [List.find?_cons, h0]
      exact ih (by simpa using hu) (fun j v hj hv => h (j + 1) v (by omega) (by simpa using hv))
theorem find_none {l : List T} {q : T → Bool} (h : ∀ (j : Nat) (v : T), l[j]? = some v → q v = false) : l.find? q = none := by
  rw [List.find?_eq_none]
  intro v hv
  obtain ⟨j, hj⟩ := List.getElem?_of_mem hv
  rw [h j v hj]; simp

set_option maxRecDepth 100000 in
set_option maxHeartbeats 800000 in
theorem rhit_any (x y : Int) (t : T) (c : C) (w : World) (hi : Is w c t) (hs : sz t ≤ 999) : Calls Try.prog 24 #[cval c, .int .i64 x, .int .i64 y] w fun e w' => e = .returned (.tuple #[.int .i64 (((hitR x y t (tileB t)).map T.id).getD 0), .bool (hitR x y t (tileB t)).isSome]) ∧ Below w.heap.size w w' := by
  have HA : Hid (Below w.heap.size w (w.alloc (cbox c))) := (Below.refl _ _).alloc (Nat.le_refl _) _
  have HC := Lib.hid (cbox_new w c)
  have HT := Lib.hid (rtiles_any t c (w.alloc (cbox c)) (hi.up HA.out) hs)
  have HI := Lib.hid hi
  have HS := Lib.hid hs
  clear hi hs
  cases ht : tileB t with
  | false =>
    rw [ht] at HT
    clear ht
    go_enter Try.func24, Try.ntmps24
    go_wp2_with fail
    refine HT.out.mono ?_
    rintro e w2 ⟨rfl, hb2⟩
    have HB2 := Lib.hid (HA.out.trans (hb2.mono HA.out.size))
    clear hb2
    go_wp2
    go_ret2
    exact ⟨rfl, HB2.out⟩
  | true =>
    rw [ht] at HT
    have he : hitR x y t true = ((preT t).filter leafB).find? (fun u => hasB u.r x y) := hit_leaves x y t
    rw [he]
    clear ht he
    generalize hlv : (preT t).filter leafB = lv
    have HLV := Lib.hid hlv
    clear hlv
    go_enter Try.func24, Try.ntmps24
    go_wp2_with fail
    refine HT.out.mono ?_
    rintro e w2 ⟨rfl, hb2⟩
    have HB2 := Lib.hid (HA.out.trans (hb2.mono HA.out.size))
    have C2 := Lib.hid (HC.out.up hb2)
    obtain ⟨c0, c1, c2, c3, c4, c5, c6⟩ := C2.out
    simp only [Nat.zero_add] at c1 c2 c3 c4 c5 c6
    have HL := Lib.hid (rleaves_any w2 t c w2 (by have := HS.out; omega) (HI.out.up HB2.out) (Below.refl _ _))
    rw [HLV.out] at HL
    clear hb2
    go_wp2_with fail
    refine HL.out.mono ?_
    rintro e w3 ⟨vl, al, rfl, howl, htl, hb3⟩
    have HTP := Lib.hid htl
    have HALN : Hid (al.length = lv.length) := Lib.hid htl.1
    have hall : al.length ≤ 999 := by
      rw [htl.1, ← HLV.out]
      have := List.length_filter_le leafB (preT t)
      rw [preT_len] at this
      have := HS.out
      omega
    have HROW := Lib.hid howl.row
    obtain ⟨aa, capl, rfl⟩ := howl.row.shape
    have HB3 := Lib.hid (HB2.out.trans (hb3.mono HB2.out.size))
    clear hb3 howl htl c0 c1 c2 c3 c4 c5 c6
    go_wp2
    go_loopg [17] (al.length + 1) (fun g i wr => ∃ k : Nat, g + k = al.length + 1 ∧ k ≤ al.length ∧ i = .int .i64 k ∧ (∀ (j : Nat) (u : T), j < k → lv[j]? = some u → hasB u.r x y = false) ∧ Below w3.heap.size w3 wr)
    case atStart => exact ⟨0, by omega, by omega, rfl, fun j u hj => by omega, Below.refl _ _⟩
    case round =>
      obtain ⟨k, hg, hk, rfl, hfit, hb⟩ := hrel
      have HG := Lib.hid hg
      have HFT := Lib.hid hfit
      have HB := Lib.hid hb
      clear hg hfit hb
      by_cases hlt : k < al.length
      · obtain ⟨z, u, hz, hu, hzu⟩ := HTP.out.at hlt
        obtain ⟨b, o, rfl, hf⟩ := HROW.out.place (by omega)
        obtain ⟨c0, c1, c2, c3, c4, c5, c6⟩ := (hf k z hz).up HB.out
        have HCZ := Lib.hid ((hf k z hz).up HB.out)
        have hki : (k : Int) < (al.length : Int) := by omega
        have hur : u.r = z.r := hzu.split.2.1
        have hui : u.id = z.id := hzu.split.2.2.1
        have HH := Lib.hid (rhas_any z.r x y wr hzu.fine.2.1)
        have HU := Lib.hid hu
        have HUR := Lib.hid hur
        have HUI := Lib.hid hui
        have HBE := Lib.hid (HB3.out.trans (HB.out.mono HB3.out.size))
        clear hf hz hzu hu hur hui
        cases hh : hasB z.r x y with
        | true =>
          rw [hh] at HH
          have HFD := Lib.hid (find_first (q := fun u => hasB u.r x y) HU.out (by show hasB u.r x y = true; rw [HUR.out]; exact hh) HFT.out)
          clear hh
          go_wp2_with fail
          refine HH.out.mono ?_
          rintro e w5 ⟨rfl, hb5⟩
          have HB5 := Lib.hid (HBE.out.trans (hb5.mono HBE.out.size))
          obtain ⟨-, -, -, -, -, e5, -⟩ := HCZ.out.up hb5
          clear hb5 c0 c1 c2 c3 c4 c5 c6
          go_wp2
          go_ret2
          exact ⟨by rw [HFD.out]; simp [HUI.out], HB5.out⟩
        | false =>
          rw [hh] at HH
          have HHF := Lib.hid hh
          clear hh
          go_wp2_with fail
          refine HH.out.mono ?_
          rintro e w5 ⟨rfl, hb5⟩
          have HB5 := Lib.hid (HB.out.trans (hb5.mono HB.out.size))
          clear hb5 c0 c1 c2 c3 c4 c5 c6
          go_wp2
          go_roundg (gk - 1)
          case measure => have := HG.out; omega
          case rel =>
            refine ⟨k + 1, by have := HG.out; omega, by omega, by go_num, fun j a hj ha => ?_, HB5.out⟩
            rcases Nat.lt_or_ge j k with h | h
            · exact HFT.out j a h ha
            · obtain rfl : j = k := by omega
              rw [HU.out] at ha
              cases ha
              rw [HUR.out]
              exact HHF.out
      · obtain rfl : k = al.length := by omega
        have hkl : ((al.length : Int) < (al.length : Int)) = False := by simp
        have HFD := Lib.hid (find_none (l := lv) (q := fun u => hasB u.r x y) (fun j u hu => HFT.out j u (by have := (List.getElem?_eq_some_iff.1 hu).1; have := HALN.out; omega) hu))
        have HBE := Lib.hid (HB3.out.trans (HB.out.mono HB3.out.size))
        go_wp2
        go_ret2
        exact ⟨by rw [HFD.out]; rfl, HBE.out⟩
end Go.Proofs.Ytibjpkicchdomaa
