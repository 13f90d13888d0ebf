/- Texts of this seat, 3 in one file. -/
import Derived.Test.YtbbjnimadnbmnaaGreatG25
import Derived.Deep.RegionHeld3
import Derived.Test.YtbbjnimadnbmnaaGreatG08
import Derived.Test.YtbbjnimadnbmnaaGreatG10
import Derived.Test.YtbbjnimadnbmnaaGreatG24
import Derived.Test.YtbbjnimadnbmnaaGreatG07
/- Least, Gives, Fits: the program's. -/
namespace Go.Proofs.YtbbjnimadnbmnaaGreat
open Go.RowKit

abbrev C7 (b : Nat) (c : C) (W : World) : Prop := W.cell? ⟨b, 0, none⟩ = some (.int .u8 c.k) ∧ W.cell? ⟨b, 1, none⟩ = some (.int .i64 c.r.x) ∧ W.cell? ⟨b, 2, none⟩ = some (.int .i64 c.r.y) ∧ W.cell? ⟨b, 3, none⟩ = some (.int .i64 c.r.w) ∧ W.cell? ⟨b, 4, none⟩ = some (.int .i64 c.r.h) ∧ W.cell? ⟨b, 5, none⟩ = some (.int .i64 c.id) ∧ W.cell? ⟨b, 6, none⟩ = some (.slice c.a c.n c.cap)
theorem c7_of {W : World} {b : Nat} {c : C} (h : CAt W b 0 c) : C7 b c W := by
  obtain ⟨c0, c1, c2, c3, c4, c5, c6⟩ := h
  simp only [Nat.zero_add] at c1 c2 c3 c4 c5 c6
  exact ⟨c0, c1, c2, c3, c4, c5, c6⟩

def leT (ax : Int) (t : T) : Int := if mayT t = true ∧ axB ax = true then lsT ax t else 0
theorem le_yes {ax : Int} {t : T} (h : mayT t = true) (ha : axB ax = true) : leT ax t = lsT ax t := if_pos ⟨h, ha⟩
theorem le_may {ax : Int} {t : T} (h : mayT t = false) : leT ax t = 0 := if_neg (fun e => by rw [h] at e; cases e.1)
theorem le_axis {ax : Int} {t : T} (h : axB ax = false) : leT ax t = 0 := if_neg (fun e => by rw [h] at e; cases e.2)
noncomputable def giT (ax : Int) (t : T) : Int := if tileB t = true ∧ axB ax = true then gvT ax t else 0
theorem gi_yes {ax : Int} {t : T} (h : tileB t = true) (ha : axB ax = true) : giT ax t = gvT ax t := if_pos ⟨h, ha⟩
theorem gi_tile {ax : Int} {t : T} (h : tileB t = false) : giT ax t = 0 := if_neg (fun e => by rw [h] at e; cases e.1)
theorem gi_axis {ax : Int} {t : T} (h : axB ax = false) : giT ax t = 0 := if_neg (fun e => by rw [h] at e; cases e.2)
def roomB (ax s : Int) (t : T) : Bool := decide (lsT ax t ≤ s) && decide (s ≤ 10000 - atA t.r ax)
def fits8 (t : T) (w h : Int) : Bool := mayT t && roomB 1 w t && roomB 2 h t

/-- May, of one. -/
theorem may8_any (t : T) (c : C) (w : World) (hi : Is w c t) (n : Nat) (hn : n = w.heap.size) :
    Calls Tryz.prog 63 #[.slice (some ⟨n, 0, none⟩) 1 1] (w.alloc (cbox c)) fun e w' => e = .returned (.bool (mayT t)) ∧ Below w.heap.size w w' := by
  subst hn
  refine (mayAll_any _ [t] _ (trow1 hi) (by simp)).mono ?_
  rintro e w' ⟨rfl, hb⟩
  exact ⟨by simp, below_one hb⟩

set_option maxRecDepth 100000 in
set_option maxHeartbeats 800000 in
theorem giv_any (t : T) (c : C) (ax : Int) (w : World) (hi : Is w c t) (hs : mayT t = true → sz t ≤ 20000) : Calls Tryz.prog 72 #[cval c, .int .u8 ax] w fun e w' => e = .returned (.int .i64 (giT ax t)) ∧ Below w.heap.size w w' := by
  have HA : Hid (Below w.heap.size w (w.alloc (cbox c))) := (Below.refl _ _).alloc (Nat.le_refl _) _
  have HC := Lib.hid (cbox_new w c)
  have HM := Lib.hid (tilesOne_any t c (w.alloc (cbox c)) (hi.up HA.out) hs (w.heap.size + 1) (by simp))
  have HCR := Lib.hid hi.split.2.1
  have HI := Lib.hid hi
  clear hi
  cases hm : tileB t with
  | false =>
    rw [hm] at HM
    have HV := Lib.hid (gi_tile (ax := ax) hm)
    clear hm
    go_enter Tryz.func72, Tryz.ntmps72
    go_wp2_with fail
    refine HM.out.mono ?_
    rintro e w2 ⟨rfl, hb2⟩
    have B2 := Lib.hid (HA.out.trans (hb2.mono HA.out.size))
    clear hb2
    go_wp2
    go_ret
    exact ⟨ret_int HV.out.symm, B2.out⟩
  | true =>
    rw [hm] at HM
    cases ha : axB ax with
    | false =>
      have HV := Lib.hid (gi_axis (ax := ax) (t := t) ha)
      have HX := Lib.hid (fun W => isAxis_any ax W)
      rw [ha] at HX
      clear hm ha
      go_enter Tryz.func72, Tryz.ntmps72
      go_wp2_with fail
      refine HM.out.mono ?_
      rintro e w2 ⟨rfl, hb2⟩
      have B2 := Lib.hid (HA.out.trans (hb2.mono HA.out.size))
      clear hb2
      go_wp2_with fail
      refine (HX.out w2).mono ?_
      rintro e w3 ⟨rfl, rfl⟩
      go_wp2
      go_ret
      exact ⟨ret_int HV.out.symm, B2.out⟩
    | true =>
      have HX := Lib.hid (fun W => isAxis_any ax W)
      rw [ha] at HX
      have hmy := tile_may hm
      have HL := Lib.hid (fun W (h : Is W c t) => least_any ax (sz t) t c W (Nat.le_refl _) (by have := may_small hmy; omega) (ok_may hmy) h)
      have HZ := Lib.hid (fun W => lsize_any c.r ax W)
      have hr := szA_pos (well_rect (tile_top (hs hmy) hm).1) ((axB_iff ax).1 ha)
      have h1 := ls_pos ax t
      have h2 : lsT ax t ≤ 40000 := by have := ls_sz ax t; have := hs hmy; omega
      rw [HCR.out] at hr
      rw [gi_yes hm ha, gvT, HCR.out]
      clear hm ha hmy hs
      generalize lsT ax t = ll at HL h1 h2 ⊢
      have hr1 := hr.1
      have hr2 : szA c.r ax ≤ 10000 := by omega
      clear hr
      generalize szA c.r ax = ss at HZ hr1 hr2 ⊢
      go_enter Tryz.func72, Tryz.ntmps72
      go_wp2_with fail
      refine HM.out.mono ?_
      rintro e w2 ⟨rfl, hb2⟩
      have B2 := Lib.hid (HA.out.trans (hb2.mono HA.out.size))
      have D2 := Lib.hid (HC.out.up hb2)
      clear hb2
      go_wp2_with fail
      refine (HX.out w2).mono ?_
      rintro e w3 ⟨rfl, rfl⟩
      have BD := Lib.hid B2.out.drew
      have DD : Hid (CAt w2.drew w.heap.size 0 c) := Lib.hid D2.out
      have S0 := Lib.hid (c7_of DD.out)
      go_wp2_with fail
      go_region_held3 (fun W => W.cell? ⟨w.heap.size, 0, none⟩ = some (.int .u8 c.k) ∧ W.cell? ⟨w.heap.size, 1, none⟩ = some (.int .i64 c.r.x) ∧ W.cell? ⟨w.heap.size, 2, none⟩ = some (.int .i64 c.r.y) ∧ W.cell? ⟨w.heap.size, 3, none⟩ = some (.int .i64 c.r.w) ∧ W.cell? ⟨w.heap.size, 4, none⟩ = some (.int .i64 c.r.h) ∧ W.cell? ⟨w.heap.size, 5, none⟩ = some (.int .i64 c.id) ∧ W.cell? ⟨w.heap.size, 6, none⟩ = some (.slice c.a c.n c.cap)) (first | with_reducible exact S0.out | with_reducible exact S1.out | with_reducible exact S2.out)
        (first
          | (go_at_call 25; (with_reducible refine (HZ.out w2.drew).mono ?_); rintro e y1 ⟨rfl, hb1⟩; have E1 := Lib.hid (BD.out.trans (hb1.mono BD.out.size)); have D1 := Lib.hid (DD.out.up hb1); have S1 := Lib.hid (c7_of (DD.out.up hb1)); clear hb1)
          | (go_at_call 97; (with_reducible refine (HL.out y1 (HI.out.up E1.out)).mono ?_); rintro e y2 ⟨rfl, hb2⟩; have E2 := Lib.hid (E1.out.trans (hb2.mono E1.out.size)); have S2 := Lib.hid (c7_of (D1.out.up hb2)); clear hb2))
      go_wp2
      go_ret
      exact ⟨ret_int (wrap_id (by omega)), E2.out⟩

end Go.Proofs.YtbbjnimadnbmnaaGreat
/- A leaf with a number: the program's find, and whether a number is free. -/
namespace Go.Proofs.YtbbjnimadnbmnaaGreat
open Go.RowKit

set_option maxRecDepth 100000 in
theorem results_c3 {fn : Func} {p u u2 : Tmp} (h : fn.results = #[.cell p 26, .tmp u, .tmp u2]) (tmps : Array Value) (w : World) (g : Nat) (c : C) (hp : tmps.getD p undef = .pointer (some ⟨g, 0, none⟩)) (hg : Box7 w g c) :
    (results fn tmps).run Tryz.prog w = .ok (.tuple #[cval c, tmps.getD u undef, tmps.getD u2 undef]) w := by
  have hg' : w.heap[g]? = some (cbox c) := hg
  have hl := run_loadVar_row (P := Tryz.prog) w g 26 26 _ (0, 0) _ hg' Tryz.underlying26 rfl (by kernel_rfl)
  have hp' : tmps[p]?.getD undef = .pointer (some ⟨g, 0, none⟩) := by simpa using hp
  simp only [results, h]
  simp [Sem.run_bind, asAddr, Result.andThen]
  rw [hp']
  simp [hl]

/-- Numbers in a row that the call made. -/
def PRow (w : World) (base : Nat) (v : Value) (p : List Int) : Prop := Row w v (ints p) ∧ (∀ a n cap, v = .slice (some a) n cap → ∃ g, a = ⟨g, 0, none⟩ ∧ base ≤ g) ∧ ∀ a n cap, v = .slice a n cap → n ≤ cap
theorem PRow.up {w w' : World} {base : Nat} {v : Value} {p : List Int} (h : PRow w base v p) (hb : Below w.heap.size w w') : PRow w' base v p := ⟨h.1.up hb, h.2⟩
theorem PRow.lower {w : World} {base base' : Nat} {v : Value} {p : List Int} (h : PRow w base v p) (hb : base' ≤ base) : PRow w base' v p := ⟨h.1, fun a n cap e => by obtain ⟨g, h1, h2⟩ := h.2.1 a n cap e; exact ⟨g, h1, by omega⟩, h.2.2⟩
theorem PRow.kept {w w' : World} {base : Nat} {v : Value} {p : List Int} (h : PRow w base v p) (hk : ∀ g, base ≤ g → w'.heap[g]? = w.heap[g]?) : PRow w' base v p := by
  refine ⟨?_, h.2⟩
  obtain ⟨a, n, rfl, h0, h1⟩ := h.1
  refine ⟨a, n, rfl, h0, fun x hx j u hu => ?_⟩
  subst hx
  obtain ⟨g, rfl, hg⟩ := h.2.1 x _ _ rfl
  have := h1 _ rfl j u hu
  rw [Go.WideShapes.add_plain] at this ⊢
  exact (World.cell?_of_block (a := ⟨g, 0 + j, none⟩) (hk g hg)).trans this

def FindO (r : Option (List Int)) (w : World) (e : Ending) (w' : World) : Prop :=
  Below w.heap.size w w' ∧ match r with
  | some p => ∃ a cap, e = .returned (.tuple #[.slice a p.length cap, .bool true]) ∧ PRow w' w.heap.size (.slice a p.length cap) p
  | none => e = .returned (.tuple #[.slice none 0 0, .bool false])
set_option maxRecDepth 100000 in
theorem findO_any (id : Int) (t : T) (c : C) (w : World) (hs : sz t ≤ 1000000) (hi : Is w c t) : Calls Tryz.prog 43 #[cval c, .int .i64 id] w (FindO (findT id t) w) := by
  have HA : Hid (Below w.heap.size w (w.alloc (cbox c))) := (Below.refl _ _).alloc (Nat.le_refl _) _
  have H := Lib.hid (way_any id (sz t) t c (w.alloc (cbox c)) (Nat.le_refl _) hs (hi.up HA.out))
  have HS := Lib.hid hs
  clear hi hs
  cases hf : findT id t with
  | none =>
    rw [hf] at H
    clear hf
    go_enter Tryz.func43, Tryz.ntmps43
    go_wp2_with fail
    refine H.out.mono ?_
    rintro e w2 ⟨hb, rfl⟩
    have HB := Lib.hid hb
    clear hb
    go_wp2_with fail
    refine (Tryz.slices_Reverse_int_empty none 0 w2).mono ?_
    rintro e w3 ⟨rfl, hw⟩
    rw [hw]
    clear hw w3
    go_wp2
    go_ret2
    exact ⟨below_one HB.out, rfl⟩
  | some p =>
    rw [hf] at H
    have HL := Lib.hid (show p.length ≤ 1000000 by have := findT_len id p t hf; have := HS.out; omega)
    clear hf
    go_enter Tryz.func43, Tryz.ntmps43
    go_wp2_with fail
    refine H.out.mono ?_
    rintro e w2 ⟨hb, v, rfl, hown⟩
    have HB := Lib.hid hb
    have HO := Lib.hid hown
    have HFAR : Hid (∀ a n cap, v = .slice (some a) n cap → ∃ g, a = ⟨g, 0, none⟩ ∧ w.heap.size ≤ g) := Lib.hid fun a n cap e => by
      rcases hown.2 with ⟨h0, -⟩ | ⟨g, cap', cur, h0, hg, -⟩
      · rw [h0] at e; cases e
      · rw [h0] at e; cases e; exact ⟨g, rfl, by simp at hg; omega⟩
    have HCP : Hid (∀ a n cap, v = .slice a n cap → n ≤ cap) := Lib.hid fun a n cap e => by
      rcases hown.2 with ⟨h0, -⟩ | ⟨g, cap', cur, h0, -, -, hn, -⟩
      · rw [h0] at e; cases e; exact Nat.le_refl _
      · rw [h0] at e; cases e; exact hn
    clear hb hown
    go_wp2_with fail
    refine (rev_any v p _ w2 HO.out HL.out).mono ?_
    rintro e w3 ⟨rfl, hr, hb⟩
    have HR := Lib.hid hr
    have HB3 := Lib.hid (HB.out.trans hb)
    clear hr hb
    obtain ⟨a, cap, rfl⟩ := row_shape HR.out
    go_wp2
    go_ret2
    exact ⟨below_one HB3.out, a, cap, rfl, HR.out, HFAR.out, HCP.out⟩

set_option maxRecDepth 100000 in
theorem atO_any (t u : T) (c : C) (v : Value) (p : List Int) (w : World) (hi : Is w c t) (hr : Row w v (ints p)) (hl : p.length ≤ 1000000) (hat : atT t p = some u) : Calls Tryz.prog 32 #[cval c, v] w fun e w' => ∃ d S, e = .returned (.tuple #[cval d, .bool true]) ∧ OwnT w' w.heap.size d u S ∧ S.Nodup ∧ Below w.heap.size w w' := by
  have B1 : Hid (Below w.heap.size w ((w.alloc (cbox c)).alloc zeroBox)) := ((Below.refl _ _).alloc (Nat.le_refl _) _).alloc (by simp) _
  have Z1 : Hid (Zero7 ((w.alloc (cbox c)).alloc zeroBox) (w.heap.size + 1)) := Lib.hid (by
    have := zero_new (w.alloc (cbox c))
    simpa using this)
  have HC := Lib.hid (follow_any w t c v p ((w.alloc (cbox c)).alloc zeroBox) B1.out hi hr hl)
  obtain ⟨a, cap, rfl⟩ := row_shape hr
  clear hi hr
  have HC2 : Hid (Calls Tryz.prog 55 #[cval c, .slice a p.length cap] ((w.alloc (cbox c)).alloc zeroBox) fun e w' => ∃ y, e = .returned (.tuple #[cval y, .bool true]) ∧ Is w y u ∧ Below ((w.alloc (cbox c)).alloc zeroBox).heap.size ((w.alloc (cbox c)).alloc zeroBox) w') := HC.out.mono fun e w' h => by
    unfold FollowSays at h; rw [hat] at h
    obtain ⟨hb, y, h1, h2⟩ := h
    exact ⟨y, h1, h2, hb⟩
  clear HC hat
  go_enter Tryz.func32, Tryz.ntmps32
  go_wp2_with fail
  refine HC2.out.mono ?_
  rintro e w2 ⟨y, rfl, hiy, hb2⟩
  have HB2 := Lib.hid (B1.out.trans (hb2.mono B1.out.size))
  have HZ2 := Lib.hid (zero_up Z1.out hb2)
  have HA : Hid (Below w2.heap.size w2 (w2.alloc (cbox y))) := (Below.refl _ _).alloc (Nat.le_refl _) _
  have HF := Lib.hid (fresh_any (sz u) u y (w2.alloc (cbox y)) (Nat.le_refl _) ((hiy.up HB2.out).up HA.out))
  clear hiy hb2
  go_wp2_with fail
  refine HF.out.mono ?_
  rintro e w3 ⟨d, S3, rfl, hown, hnd, hb3⟩
  have HO := Lib.hid hown
  have HND := Lib.hid hnd
  have HB3 := Lib.hid (HB2.out.trans ((below_one hb3).mono HB2.out.size))
  have HZ3 := Lib.hid (zero_up HZ2.out (below_one hb3))
  have HSZ : Hid (w.heap.size + 2 ≤ w2.heap.size) := Lib.hid (by have := lt_of_block HZ2.out; omega)
  obtain ⟨⟨z0, z1, z2, z3, z4, z5, z6⟩, f0, f1, f2, f3, f4, f5, f6⟩ := zero_parts HZ3.out
  clear hown hb3 hnd
  go_wp2
  (try simp only [Exit.inBlock, Exit.then])
  refine bodyPost_ret (results_cell2 rfl _ _ (w.heap.size + 1) d rfl ((Box7.of_zero HZ3.out).put d)) rfl ?_
  refine ⟨d, S3, rfl, ?_, HND.out, below_put7 HB3.out (by omega) d⟩
  refine (HO.out.frame fun k hk => ?_).lower (by have := HSZ.out; simp; omega)
  have := (HO.out.ge k hk).1
  have := HSZ.out
  simp at *
  exact heap_put7 (by omega)

def freeB (id : Int) (t : T) : Bool := (decide (0 ≤ id) && decide (id ≤ 2147483647)) && !(findT id t).isSome
set_option maxRecDepth 100000 in
theorem pfree_any (t : T) (c : C) (id : Int) (w : World) (hm : sz t ≤ 1000000) (hi : Is w c t) : Calls Tryz.prog 26 #[cval c, .int .i64 id] w fun e w' => e = .returned (.bool (freeB id t)) ∧ Below w.heap.size w w' := by
  have B1 : Hid (Below w.heap.size w (w.alloc (cbox c))) := Lib.hid ((Below.refl _ _).alloc (Nat.le_refl _) _)
  have HF := Lib.hid (find_any id t c (w.alloc (cbox c)) hm (hi.up B1.out))
  have HF2 : Hid (Calls Tryz.prog 43 #[cval c, .int .i64 id] (w.alloc (cbox c)) fun e w' => ∃ a n cap, e = .returned (.tuple #[.slice a n cap, .bool (findT id t).isSome]) ∧ Below (w.alloc (cbox c)).heap.size (w.alloc (cbox c)) w') := HF.out.mono fun e w' h => by
    obtain ⟨hb, h⟩ := h
    cases hf : findT id t with
    | none => rw [hf] at h; exact ⟨none, 0, 0, h, hb⟩
    | some p => rw [hf] at h; obtain ⟨v, he, hr⟩ := h; obtain ⟨a, cap, rfl⟩ := row_shape hr; exact ⟨a, p.length, cap, he, hb⟩
  have HE : Hid (freeB id t = ((decide (0 ≤ id) && decide (id ≤ 2147483647)) && !(findT id t).isSome)) := Lib.hid rfl
  clear hi hm HF
  generalize (findT id t).isSome = b at HF2 HE
  go_enter Tryz.func26, Tryz.ntmps26
  go_wp2_with fail
  refine HF2.out.mono ?_
  rintro e w2 ⟨a, n, cap, rfl, hb2⟩
  have B2 := Lib.hid (B1.out.trans (hb2.mono B1.out.size))
  clear hb2 HF2
  by_cases h0 : 0 ≤ id
  · by_cases h1 : id ≤ 2147483647
    · have d0 : decide (0 ≤ id) = true := decide_eq_true h0
      have d1 : decide (id ≤ 2147483647) = true := decide_eq_true h1
      clear h0 h1
      go_wp2
      go_ret
      exact ⟨by rw [HE.out]; simp [d0, d1], B2.out⟩
    · have d0 : decide (0 ≤ id) = true := decide_eq_true h0
      have d1 : decide (id ≤ 2147483647) = false := decide_eq_false h1
      clear h0 h1
      go_wp2
      go_ret
      exact ⟨by rw [HE.out]; simp [d0, d1], B2.out⟩
  · have d0 : decide (0 ≤ id) = false := decide_eq_false h0
    clear h0
    go_wp2
    go_ret
    exact ⟨by rw [HE.out]; simp [d0], B2.out⟩

/-- A leaf, the path to it, and whether there is one. -/
def PfSays (id : Int) (t : T) (w : World) (e : Ending) (w' : World) : Prop :=
  Below w.heap.size w w' ∧ match findT id t with
  | some p => ∃ d u a cap, e = .returned (.tuple #[cval d, .slice a p.length cap, .bool true]) ∧ atT t p = some u ∧ (∃ S, OwnT w' w.heap.size d u S) ∧ PRow w' w.heap.size (.slice a p.length cap) p
  | none => e = .returned (.tuple #[cval noC, .slice none 0 0, .bool false])
theorem pf_no {id : Int} {t : T} {w w' : World} (h : findT id t = none) (hb : Below w.heap.size w w') : PfSays id t w (.returned (.tuple #[cval noC, .slice none 0 0, .bool false])) w' := by
  unfold PfSays; rw [h]; exact ⟨hb, rfl⟩
theorem pf_yes {id : Int} {t u : T} {p : List Int} {w w' : World} {d : C} {a : Option Addr} {cap : Nat} (h : findT id t = some p) (hu : atT t p = some u) (hi : ∃ S, OwnT w' w.heap.size d u S) (hr : PRow w' w.heap.size (.slice a p.length cap) p) (hb : Below w.heap.size w w') : PfSays id t w (.returned (.tuple #[cval d, .slice a p.length cap, .bool true])) w' := by
  unfold PfSays; rw [h]; exact ⟨hb, d, u, a, cap, rfl, hu, hi, hr⟩

set_option maxHeartbeats 1000000 in
set_option maxRecDepth 100000 in
theorem pfind_any (t : T) (c : C) (id : Int) (w : World) (hm : sz t ≤ 1000000) (hi : Is w c t) : Calls Tryz.prog 27 #[cval c, .int .i64 id] w (PfSays id t w) := by
  have B1 := Lib.hid (cellW_below w c)
  have Z1 := Lib.hid (cellW_zero w c)
  have X1 := Lib.hid (cellW_box w c)
  have HF := Lib.hid (findO_any id t c (cellW w c) hm (hi.up B1.out))
  have HI := Lib.hid hi
  have HM := Lib.hid hm
  clear hi hm
  obtain ⟨c0, c1, c2, c3, c4, c5, c6⟩ := c7_of X1.out.cat
  cases hf : findT id t with
  | none =>
    have HF2 : Hid (Calls Tryz.prog 43 #[cval c, .int .i64 id] (cellW w c) fun e w' => e = .returned (.tuple #[.slice none 0 0, .bool false]) ∧ Below (cellW w c).heap.size (cellW w c) w') := HF.out.mono fun e w' h => by
      obtain ⟨hb, h⟩ := h
      rw [hf] at h
      exact ⟨h, hb⟩
    have HNO := Lib.hid hf
    clear HF hf
    go_enter Tryz.func27, Tryz.ntmps27
    go_wp2_with fail
    refine HF2.out.mono ?_
    rintro e w2 ⟨rfl, hb2⟩
    have B2 := Lib.hid (B1.out.trans (hb2.mono B1.out.size))
    have Z2 := Lib.hid (zero_up Z1.out hb2)
    clear hb2 c0 c1 c2 c3 c4 c5 c6 HF2
    obtain ⟨⟨z0, z1, z2, z3, z4, z5, z6⟩, f0, f1, f2, f3, f4, f5, f6⟩ := zero_parts Z2.out
    go_wp2
    (try simp only [Exit.inBlock, Exit.then])
    refine bodyPost_ret (results_c3 rfl _ _ (w.heap.size + 1) noC rfl ((Box7.of_zero Z2.out).put noC)) rfl ?_
    exact pf_no HNO.out (below_put7 B2.out (by omega) noC)
  | some p =>
    obtain ⟨u, hu, -, -, -⟩ := find_there hf
    have HPL : Hid (p.length ≤ 1000000) := Lib.hid (by have := findT_len id p t hf; have := HM.out; omega)
    have HF2 : Hid (Calls Tryz.prog 43 #[cval c, .int .i64 id] (cellW w c) fun e w' => ∃ a cap, e = .returned (.tuple #[.slice a p.length cap, .bool true]) ∧ PRow w' (cellW w c).heap.size (.slice a p.length cap) p ∧ Below (cellW w c).heap.size (cellW w c) w') := HF.out.mono fun e w' h => by
      obtain ⟨hb, h⟩ := h
      rw [hf] at h
      obtain ⟨a, cap, he, hr⟩ := h
      exact ⟨a, cap, he, hr, hb⟩
    have HYES := Lib.hid hf
    have HU := Lib.hid hu
    clear HF hf hu
    go_enter Tryz.func27, Tryz.ntmps27
    go_wp2_with fail
    refine HF2.out.mono ?_
    rintro e w2 ⟨a, cap, rfl, hr2, hb2⟩
    have B2 := Lib.hid (B1.out.trans (hb2.mono B1.out.size))
    have Z2 := Lib.hid (zero_up Z1.out hb2)
    have X2 := Lib.hid (X1.out.up hb2)
    have R2 := Lib.hid hr2
    clear hb2 hr2 c0 c1 c2 c3 c4 c5 c6 HF2
    obtain ⟨c0, c1, c2, c3, c4, c5, c6⟩ := c7_of X2.out.cat
    have HA : Hid (Calls Tryz.prog 32 #[cval c, .slice a p.length cap] w2 fun e w' => ∃ d S, e = .returned (.tuple #[cval d, .bool true]) ∧ OwnT w' w2.heap.size d u S ∧ S.Nodup ∧ Below w2.heap.size w2 w') := Lib.hid (atO_any t u c (.slice a p.length cap) p w2 (HI.out.up B2.out) R2.out.1 HPL.out HU.out)
    go_wp2_with fail
    refine HA.out.mono ?_
    rintro e w3 ⟨d, S, rfl, hd3, -, hb3⟩
    have HB : Below w3.heap.size w3 (w3.alloc (cbox d)) := (Below.refl _ _).alloc (Nat.le_refl _) _
    have B3 := Lib.hid (B2.out.trans ((hb3.trans (HB.mono hb3.size)).mono B2.out.size))
    have Z3 := Lib.hid (zero_up (zero_up Z2.out hb3) HB)
    have D3 := Lib.hid (hd3.up HB)
    have R3 := Lib.hid ((R2.out.up hb3).up HB)
    have ZL : Hid (w.heap.size + 1 < w3.heap.size) := Lib.hid (lt_of_block (zero_up Z2.out hb3))
    clear hb3 hd3 HB c0 c1 c2 c3 c4 c5 c6 HA
    have BX := Lib.hid (Box7.new w3 d)
    obtain ⟨⟨z0, z1, z2, z3, z4, z5, z6⟩, f0, f1, f2, f3, f4, f5, f6⟩ := zero_parts Z3.out
    obtain ⟨c0, c1, c2, c3, c4, c5, c6⟩ := c7_of BX.out.cat
    go_wp2
    (try simp only [Exit.inBlock, Exit.then])
    refine bodyPost_ret (results_c3 rfl _ _ (w.heap.size + 1) d rfl ((Box7.of_zero Z3.out).put d)) rfl ?_
    have HW2 : w.heap.size + 1 < w2.heap.size := lt_of_block Z2.out
    refine pf_yes HYES.out HU.out ⟨S, (D3.out.frame fun k hk => heap_put7 ?_).lower B2.out.size⟩ ((R3.out.kept fun g hg => heap_put7 ?_).lower (by simp; omega)) (below_put7 B3.out (by omega) d)
    · have := (D3.out.ge k hk).1; omega
    · simp at hg; omega
end Go.Proofs.YtbbjnimadnbmnaaGreat
/- The document's row of the leaves' numbers. -/
namespace Go.Proofs.YtbbjnimadnbmnaaGreat
open Go.RowKit

/-- A row of numbers of the call's own. -/
def OwnI (w : World) (base : Nat) (v : Value) (l : List Int) : Prop := w.ownsRow base 3 1 v l.length (ints l)
theorem OwnI.row {w : World} {base : Nat} {v : Value} {l : List Int} (h : OwnI w base v l) : Row w v (ints l) := Row.of_owns h
theorem OwnI.up {w w' : World} {base : Nat} {v : Value} {l : List Int} (h : OwnI w base v l) (hb : Below w.heap.size w w') : OwnI w' base v l := owns_up h hb
theorem OwnI.lower {w : World} {base base' : Nat} {v : Value} {l : List Int} (h : OwnI w base v l) (hb : base' ≤ base) : OwnI w base' v l := owns_base h hb
theorem OwnI.empty (w : World) (base : Nat) (hb : base ≤ w.heap.size) : OwnI (w.alloc (.cells #[] 3)) base (.slice (some ⟨w.heap.size, 0, none⟩) 0 0) [] := World.ownsRow_made w #[] 0 hb (Nat.zero_le _) (by simp)
theorem OwnI.nil (w : World) (base : Nat) : OwnI w base (.slice none 0 0) [] := World.ownsRow_nil w base _ _

/-- append(own.., numbers...): what is owned then is both; where it lies. -/
theorem wpList_append_ints {w : World} {ops : Array Oper} {rest : List Oper} {o : Oper} {a : Act} {Q : Exit → Act → World → Prop} (hgd : o.guard = none) (s x : Operand)
    (ho : o.op = .call { callee := .builtin .append, args := #[s, x], argTypes := #[52, 52] })
    (base : Nat) (v src : Value) (xs news : List Int) (hs : a.eval s = v) (hown : OwnI w base v xs) (hx : a.eval x = src) (hrow : Row w src (ints news)) (hp : 0 < news.length)
    (h63 : xs.length + news.length ≤ 1954687338211) (w0 : World) (hb : Below base w0 w) (hbase0 : base ≤ w0.heap.size)
    (h : ∀ g cap w', OwnI w' base (.slice (some ⟨g, 0, none⟩) (xs ++ news).length cap) (xs ++ news) → Below base w0 w' → w.grownBy w' v.ownBlock → (v.ownBlock = some g ∨ g = w.heap.size) → wpList Tryz.prog ops Q rest (a.put o.dst (.slice (some ⟨g, 0, none⟩) (xs ++ news).length cap)) w') : wpList Tryz.prog ops Q (o :: rest) a w := by
  have hbase : base ≤ w.heap.size := Nat.le_trans hbase0 hb.size
  obtain ⟨i, hi, hz0, hz2, hz3⟩ := info_parts infoI
  obtain ⟨ad', cap, rfl⟩ := row_shape hrow
  obtain ⟨a', cap', he, h0, hc⟩ := hrow
  rw [ints_length] at he
  cases he
  cases ad' with
  | none => have := (h0 rfl).1; rw [← List.length_eq_zero_iff, ints_length] at this; omega
  | some ad =>
    refine wpList_append_lies w hgd s x 52 ho base 3 i (.int .i64 0) 1 8 Tryz.underlying52 hi hz0 hz2 hz3 rfl (by decide) v xs.length (ints xs) hs hown ad news.length cap (ints news) hx (by rw [ints_length, Nat.mul_one]) (hc ad rfl) (ints_one _) hp (by unfold maxLen; omega) (by omega) hbase w.heap.size rfl ?_
    intro g cap' w' g1 g2 g3 _
    rw [← List.length_append] at g1 ⊢
    exact h g cap' w' (by rw [← ints_append] at g1; exact g1) (hb.grown g2 hbase (fun k hk => (hown.lt k hk).1)) g2 g3

def idsT (t : T) : List Int := ((preT t).filter leafB).map T.id
def IdsSays (l : List Int) (w : World) (e : Ending) (w' : World) : Prop := ∃ v, e = .returned v ∧ OwnI w' w.heap.size v l ∧ Below w.heap.size w w'

set_option maxRecDepth 100000 in
theorem rids_any (t : T) (c : C) (w : World) (hm : sz t ≤ 1000000) (hi : Is w c t) : Calls Tryz.prog 46 #[cval c] w (IdsSays (idsT t) w) := by
  have B1 : Hid (Below w.heap.size w ((w.alloc (cbox c)).alloc (.cells #[] 3))) := ((Below.refl _ _).alloc (Nat.le_refl _) _).alloc (by simp) _
  have H := Lib.hid (rleaves_any w t c ((w.alloc (cbox c)).alloc (.cells #[] 3)) hm hi B1.out)
  have HE : Hid (OwnI ((w.alloc (cbox c)).alloc (.cells #[] 3)) (w.heap.size + 1) (.slice (some ⟨w.heap.size + 1, 0, none⟩) 0 0) []) := by
    have := OwnI.empty (w.alloc (cbox c)) (w.heap.size + 1) (by simp)
    exact Lib.hid (by simpa using this)
  have HM := Lib.hid (show ((preT t).filter leafB).length ≤ 1000000 by have := List.length_filter_le leafB (preT t); rw [preT_len] at this; omega)
  unfold idsT
  generalize (preT t).filter leafB = ls at H HM ⊢
  clear hi hm
  go_enter Tryz.func46, Tryz.ntmps46
  go_wp2_with fail
  refine H.out.mono ?_
  rintro e w2 ⟨vl, al, rfl, howl, htl, hb2⟩
  have hsz2 : w.heap.size + 2 ≤ w2.heap.size := by have := hb2.size; simpa using this
  have HT := Lib.hid htl
  have hall : al.length ≤ 1000000 := by rw [htl.1]; exact HM.out
  have HROW := Lib.hid howl
  obtain ⟨aa, capl, rfl⟩ := howl.row.shape
  have HOE := Lib.hid (HE.out.up hb2)
  have HB2 := Lib.hid (B1.out.trans (hb2.mono B1.out.size))
  clear hb2 howl htl
  go_wp2
  go_loopg [3, 11] (al.length + 1) (fun g v i wr => ∃ (k : Nat), g + k = al.length + 1 ∧ k ≤ al.length ∧ i = .int .i64 k ∧ OwnI wr (w.heap.size + 1) v ((ls.take k).map T.id) ∧ OwnLater w2 (w.heap.size + 1) v ∧ w2.grownBy wr (some (w.heap.size + 1)))
  case atStart => exact ⟨0, by omega, by omega, rfl, by simpa using HOE.out, .inl rfl, World.grownBy.refl _ _⟩
  case round =>
    obtain ⟨k, hg, hk, rfl, hown, hlat, hgr⟩ := hrel
    have HG := Lib.hid hg
    have HO := Lib.hid hown
    have HLT := Lib.hid hlat
    have HGR := Lib.hid hgr
    clear hg hown hlat hgr
    by_cases hlt : k < al.length
    · obtain ⟨x, u, hx, hu, hxu⟩ := HT.out.at hlt
      obtain ⟨gl, capl', hvl, hgl, hgl2⟩ := HROW.out.form (by omega)
      have haa : aa = some ⟨gl, 0, none⟩ := by cases hvl; rfl
      subst haa
      have hgl' : w.heap.size + 2 ≤ gl := by simpa using hgl
      obtain ⟨c0, c1, c2, c3, c4, c5, c6⟩ := (cat_of_flat (HROW.out.cells (g := gl) rfl) k x hx).grown HGR.out (by intro e; cases e; omega)
      have hti := hxu.split.2.2.1
      have HST : Hid ((ls.take (k + 1)).map T.id = (ls.take k).map T.id ++ [x.id]) := Lib.hid (by rw [List.take_add_one, hu]; simp [hti])
      clear hxu hx hu hti hvl hgl
      have hcl : ((ls.take k).map T.id).length + [x.id].length ≤ 1954687338211 := by
        have h3 : (ls.take k).length ≤ k := List.length_take_le _ _
        simp; omega
      have HCL := Lib.hid hcl
      clear hcl
      go_wp2_with (at_builtin; refine wpList_append_ints rfl _ _ rfl (w.heap.size + 1) u3 _ ((ls.take k).map T.id) [x.id] rfl (HO.out.up ((Below.refl _ _).alloc (Nat.le_refl _) _)) rfl (row_one wr (.int .i64 x.id) 3) (by simp) HCL.out wr ((Below.refl _ _).alloc (by have := HGR.out.size; omega) _) (by have := HGR.out.size; omega) ?_; intro g cap3 w3 hown3 hb3 hgr3 hpl3)
      have HO3 := Lib.hid hown3
      have HG3 := Lib.hid (later_gb (by omega) HLT.out (gb_alloc HGR.out _) hgr3)
      have HL3 : Hid (OwnLater w2 (w.heap.size + 1) (.slice (some ⟨g, 0, none⟩) (((ls.take k).map T.id) ++ [x.id]).length cap3)) := by
        rcases hpl3 with h | h
        · rcases HLT.out with h2 | ⟨y, h2, h3⟩
          · rw [h2] at h; cases h; exact .inl rfl
          · rw [h2] at h; cases h; exact .inr ⟨_, rfl, h3⟩
        · refine .inr ⟨g, rfl, ?_⟩
          rw [h]; have := HGR.out.size; simp; omega
      clear hown3 hb3 hgr3 hpl3
      go_wp2
      go_roundg (gk - 1)
      case measure => have := HG.out; omega
      case rel =>
        refine ⟨k + 1, by have := HG.out; omega, by omega, by go_num, ?_, by simpa using HL3.out, HG3.out⟩
        rw [HST.out]
        simpa using HO3.out
    · obtain rfl : k = al.length := by omega
      have hkl : ((al.length : Int) < (al.length : Int)) = False := by simp
      go_wp2
      go_ret
      refine ⟨_, rfl, ?_, ?_⟩
      · have := HO.out.lower (base' := w.heap.size) (by omega)
        rw [List.take_of_length_le (by rw [← HT.out.1]; omega)] at this
        exact this
      · exact HB2.out.trans ⟨HGR.out.os, HGR.out.tape, HGR.out.output, HGR.out.size, fun j hj => HGR.out.block j (by omega) (by intro e; cases e; omega)⟩
end Go.Proofs.YtbbjnimadnbmnaaGreat
