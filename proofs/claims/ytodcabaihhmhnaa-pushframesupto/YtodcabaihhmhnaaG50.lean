/- Texts of this seat, 3 in one file. -/
import Derived.Test.YtodcabaihhmhnaaG33
import Derived.Test.YtodcabaihhmhnaaG23
import Derived.Test.YtodcabaihhmhnaaG08
import Derived.Test.YtodcabaihhmhnaaG45
import Derived.Test.YtodcabaihhmhnaaG49
import Derived.Test.YtodcabaihhmhnaaG47
import Derived.Test.YtodcabaihhmhnaaG36
import Derived.Deep.CutRange
/- How many cells of a path are along an axis: the program's walk. -/
namespace Go.Proofs.Ytodcabaihhmhnaa
open Go.RowKit

/-- How many of a path are along an axis. -/
def one8 (b : Bool) : Nat := if b = true then 1 else 0
def pathT (ax : Int) : T → List Int → Nat
  | _, [] => 0
  | t, k :: p => one8 (alB t.k ax) + match kidAt t k with
    | some u => pathT ax u p
    | none => 0
theorem path_len (ax : Int) : ∀ (p : List Int) (t : T), pathT ax t p ≤ p.length
  | [], t => by simp [pathT]
  | k :: p, t => by
    rw [pathT, List.length_cons]
    have h1 : one8 (alB t.k ax) ≤ 1 := by unfold one8; split <;> omega
    split
    · rename_i u _
      have := path_len ax p u; omega
    · omega
theorem path_in {ax : Int} {t u : T} {p : List Int} {i : Nat} {k : Int} (hk : p[i]? = some k) (h : kidAt t k = some u) : pathT ax t (p.drop i) = one8 (alB t.k ax) + pathT ax u (p.drop (i + 1)) := by
  obtain ⟨hl, he⟩ := List.getElem?_eq_some_iff.1 hk
  rw [List.drop_eq_getElem_cons hl, he, pathT, h]
theorem path_out {ax : Int} {t : T} {p : List Int} {i : Nat} {k : Int} (hk : p[i]? = some k) (h : kidAt t k = none) : pathT ax t (p.drop i) = one8 (alB t.k ax) := by
  obtain ⟨hl, he⟩ := List.getElem?_eq_some_iff.1 hk
  rw [List.drop_eq_getElem_cons hl, he, pathT, h]; rfl

set_option maxRecDepth 100000 in
set_option maxHeartbeats 1600000 in
theorem path_any (t : T) (c : C) (ax : Int) (v : Value) (p : List Int) (w : World) (hi : Is w c t) (hr : Row w v (ints p)) (hl : p.length ≤ 1000000) :
    Calls Try.prog 32 #[cval c, .int .u8 ax, v] w fun e w' => e = .returned (.int .i64 (pathT ax t p : Nat)) ∧ Below w.heap.size w w' := by
  obtain ⟨a, cap, rfl⟩ := row_shape hr
  have HR := Lib.hid hr
  have HI := Lib.hid hi
  have HBX := Lib.hid (Box7.new w c)
  have HA : Hid (Below w.heap.size w (w.alloc (cbox c))) := (Below.refl _ _).alloc (Nat.le_refl _) _
  clear hr hi
  have HPL := Lib.hid (path_len ax p t)
  have H0 : Hid (pathT ax t p = 0 + pathT ax t (p.drop 0)) := Lib.hid (by rw [List.drop_zero]; omega)
  generalize pathT ax t p = P at H0 HPL ⊢
  go_enter Try.func32, Try.ntmps32
  go_wp2
  go_loopg [7, 12] (p.length + 1) (fun g n i wr => ∃ (k m : Nat) (u : T) (y : C), g + k = p.length + 1 ∧ k ≤ p.length ∧ i = .int .i64 k ∧ n = .int .i64 (m : Int) ∧ m ≤ k ∧ P = m + pathT ax u (p.drop k) ∧ Is w y u ∧ Box7 wr w.heap.size y ∧ Below w.heap.size w wr)
  case atStart => exact ⟨0, 0, t, c, by omega, by omega, rfl, rfl, by omega, H0.out, HI.out, HBX.out, HA.out⟩
  case round =>
    obtain ⟨k, m, u, y, hg, hk, rfl, rfl, hmk, hP, hiy, hby, hb⟩ := hrel
    have HG := Lib.hid hg
    have HP := Lib.hid hP
    have HIY := Lib.hid hiy
    have HBY := Lib.hid hby
    have HB := Lib.hid hb
    clear hg hP hiy hby hb
    by_cases hlt : k < p.length
    · have hlti : (k : Int) < (p.length : Int) := by omega
      obtain ⟨x, hx⟩ : ∃ x, p[k]? = some x := ⟨_, List.getElem?_eq_getElem hlt⟩
      obtain ⟨pb, po, rfl, hf⟩ := int_at HR.out (by omega)
      have x0 := (HB.out.cell (lt_of_cell (hf k x hx))).trans (hf k x hx)
      clear hf
      have HAL := Lib.hid (along8_any y ax wr)
      have HYK : Hid (alB u.k ax = alB y.k ax) := Lib.hid (by rw [HIY.out.split.1])
      obtain ⟨c0, c1, c2, c3, c4, c5, c6⟩ := c7_of HBY.out.cat
      have HYN := Lib.hid HIY.out.n
      cases hkid : kidAt u x with
      | none =>
        have HF := Lib.hid (path_out (ax := ax) hx hkid)
        rw [HYK.out] at HF
        have hkn := kid_none hkid
        clear hkid hx
        generalize alB y.k ax = ab at HF HAL
        go_wp2_with fail
        refine HAL.out.mono ?_
        rintro e w2 ⟨rfl, hb2⟩
        have HB2 := Lib.hid (HB.out.trans (hb2.mono HB.out.size))
        have BX2 := Lib.hid (HBY.out.up hb2)
        clear hb2 c0 c1 c2 c3 c4 c5 c6
        obtain ⟨c0, c1, c2, c3, c4, c5, c6⟩ := c7_of BX2.out.cat
        rw [HYN.out] at c6
        cases ab with
        | true =>
          have HFF : Hid (P = m + 1) := Lib.hid (by have := HP.out; rw [HF.out] at this; exact this)
          by_cases h0 : x < 0
          · have g0 : decide (x < 0) = true := decide_eq_true h0
            go_wp2
            go_ret
            exact ⟨ret_int (by rw [HFF.out]; omega), HB2.out⟩
          · have g0 : decide (x < 0) = false := decide_eq_false h0
            have g1 : decide ((u.kids.length : Int) ≤ x) = true := decide_eq_true (by omega)
            go_wp2
            go_ret
            exact ⟨ret_int (by rw [HFF.out]; omega), HB2.out⟩
        | false =>
          have HFF : Hid (P = m) := Lib.hid (by have := HP.out; rw [HF.out] at this; exact this)
          by_cases h0 : x < 0
          · have g0 : decide (x < 0) = true := decide_eq_true h0
            go_wp2
            go_ret
            exact ⟨ret_int (by rw [HFF.out]), HB2.out⟩
          · have g0 : decide (x < 0) = false := decide_eq_false h0
            have g1 : decide ((u.kids.length : Int) ≤ x) = true := decide_eq_true (by omega)
            go_wp2
            go_ret
            exact ⟨ret_int (by rw [HFF.out]), HB2.out⟩
      | some u2 =>
        have HF := Lib.hid (path_in (ax := ax) hx hkid)
        rw [HYK.out] at HF
        obtain ⟨j, rfl, hj⟩ := kid_some hkid
        have hjl : j < u.kids.length := (List.getElem?_eq_some_iff.1 hj).1
        have g0 : decide ((j : Int) < 0) = false := decide_eq_false (by omega)
        have g1 : decide ((u.kids.length : Int) ≤ (j : Int)) = false := decide_eq_false (by omega)
        have g2 : decide (u.kids.length ≤ j) = false := decide_eq_false (by omega)
        obtain ⟨bb, o, hya, hf⟩ := HIY.out.row.place (by omega)
        obtain ⟨y2, hy2, hi2⟩ := hf j u2 hj
        have HY2 := Lib.hid hy2
        have HI2 := Lib.hid hi2
        have HYA := Lib.hid hya
        have hbl : bb < w.heap.size := hy2.lt
        clear hkid hx hf hj hy2 hi2 hya
        generalize alB y.k ax = ab at HF HAL
        go_wp2_with fail
        refine HAL.out.mono ?_
        rintro e w2 ⟨rfl, hb2⟩
        have HB2 := Lib.hid (HB.out.trans (hb2.mono HB.out.size))
        have BX2 := Lib.hid (HBY.out.up hb2)
        clear hb2 c0 c1 c2 c3 c4 c5 c6
        obtain ⟨c0, c1, c2, c3, c4, c5, c6⟩ := c7_of BX2.out.cat
        rw [HYN.out, HYA.out] at c6
        obtain ⟨e0, e1, e2, e3, e4, e5, e6⟩ := HY2.out.up HB2.out
        have f0 := BX2.out.free 0
        have f1 := BX2.out.free 1
        have f2 := BX2.out.free 2
        have f3 := BX2.out.free 3
        have f4 := BX2.out.free 4
        have f5 := BX2.out.free 5
        have f6 := BX2.out.free 6
        have HBP := Lib.hid (BX2.out.put y2)
        have HB3 := Lib.hid (below_put7 HB2.out (Nat.le_refl _) y2)
        cases ab with
        | true =>
          have HFF : Hid (P = (m + 1) + pathT ax u2 (p.drop (k + 1))) := Lib.hid (by have := HP.out; rw [HF.out] at this; rw [this, show one8 true = 1 from rfl]; omega)
          go_wp2
          go_roundg (gk - 1)
          case measure => have := HG.out; omega
          case rel => exact ⟨k + 1, m + 1, u2, y2, by have := HG.out; omega, by omega, by go_num, by go_num, by omega, HFF.out, HI2.out, HBP.out, HB3.out⟩
        | false =>
          have HFF : Hid (P = m + pathT ax u2 (p.drop (k + 1))) := Lib.hid (by have := HP.out; rw [HF.out] at this; rw [this, show one8 false = 0 from rfl]; omega)
          go_wp2
          go_roundg (gk - 1)
          case measure => have := HG.out; omega
          case rel => exact ⟨k + 1, m, u2, y2, by have := HG.out; omega, by omega, by go_num, rfl, by omega, HFF.out, HI2.out, HBP.out, HB3.out⟩
    · obtain rfl : k = p.length := by omega
      have hkl : ((p.length : Int) < (p.length : Int)) = False := by simp
      have HF : Hid (P = m) := Lib.hid (by have := HP.out; rw [List.drop_length, pathT] at this; exact this)
      go_wp2
      go_ret
      exact ⟨ret_int (by rw [HF.out]), HB.out⟩
end Go.Proofs.Ytodcabaihhmhnaa
/- Is there a frame for all these axes? The program's Frame. -/
namespace Go.Proofs.Ytodcabaihhmhnaa
open Go.RowKit Sh

/-- No cell on the way is along the axis. -/
def pathZ (t : T) (p : List Int) (ax : Int) : Bool := ((pathT ax t p : Nat) : Int) == 0
theorem pathT_snoc {ax k : Int} : ∀ {q : List Int} {t x : T}, atT t q = some x → pathT ax t (q ++ [k]) = pathT ax t q + one8 (alB x.k ax)
  | [], t, x, h => by
    rw [atT] at h; cases h
    rw [List.nil_append, pathT, pathT]
    split <;> simp [pathT]
  | a :: q, t, x, h => by
    rw [atT] at h
    cases hk : kidAt t a with
    | none => rw [hk] at h; cases h
    | some v =>
      rw [hk] at h
      rw [List.cons_append, pathT, pathT, hk]
      simp only
      rw [pathT_snoc h]; omega
theorem fr_path {ax : Int} {t u : T} {p : List Int} (hu : atT t p = some u) : ∀ n, n ≤ p.length → (frN ax t p n = none ↔ pathT ax t (p.take n) = 0)
  | 0, _ => by rw [frN, List.take_zero, pathT]; simp
  | n + 1, hn => by
    obtain ⟨x, hx⟩ := at_take hu n
    obtain ⟨k, hk⟩ : ∃ k, p[n]? = some k := ⟨_, List.getElem?_eq_getElem (by omega)⟩
    rw [take_snoc hk, pathT_snoc hx]
    cases ha : alB x.k ax with
    | true => rw [fr_yes hx ha]; simp [one8]
    | false =>
      rw [fr_no hx ha, fr_path hu n (by omega)]
      simp [one8]
theorem al_ax {k ax : Int} (h : axB ax = false) : alB k ax = false := by
  unfold axB at h
  unfold alB
  simp at h
  simp [h]
theorem path_ax {ax : Int} (h : axB ax = false) : ∀ (p : List Int) (t : T), pathT ax t p = 0
  | [], t => by rw [pathT]
  | k :: p, t => by
    rw [pathT, al_ax h]
    split
    · rw [path_ax h]; rfl
    · rfl
/-- The document's answer for one axis. -/
theorem fd_path {id ax : Int} {t : T} {p : List Int} (ht : tileB t = true) (hf : findT id t = some p) : decide (fdE id ax t = 0) = !(pathZ t p ax) := by
  obtain ⟨u, hu, -⟩ := find_there hf
  have h1 := fr_path (ax := ax) hu p.length (Nat.le_refl _)
  rw [List.take_length] at h1
  unfold pathZ
  cases hax : axB ax with
  | false =>
    rw [fd_arg (by rw [hax]; simp), path_ax hax]; rfl
  | true =>
    cases hr : frN ax t p p.length with
    | none =>
      rw [fd_state ⟨ht, hax⟩ hf hr, h1.1 hr]; rfl
    | some n =>
      rw [fd_ok ⟨ht, hax⟩ hf hr]
      have h2 : pathT ax t p ≠ 0 := fun e => by rw [h1.2 e] at hr; cases hr
      have h3 : (((pathT ax t p : Nat) : Int) == 0) = false := by rw [beq_eq_false_iff_ne]; omega
      rw [h3]; rfl

abbrev pbxO (v : Value) : Obj := .cells #[v] 37
theorem frm1_any (t : T) (c : C) (p : List Int) (v : Value) (b b2 : Nat) (ax : Int) (w : World) (hi : Is w c t) (hx : Box7 w b c) (hp : w.cell? ⟨b2, 0, none⟩ = some v) (hr : Row w v (ints p)) (hl : p.length ≤ 1000000) : Calls Try.prog 31 #[.int .u8 ax, .pointer (some ⟨b, 0, none⟩), .pointer (some ⟨b2, 0, none⟩)] w fun e w' => e = .returned (.bool (pathZ t p ax)) ∧ Below w.heap.size w w' := by
  obtain ⟨c0, c1, c2, c3, c4, c5, c6⟩ := c7_of hx.cat
  have HS := Lib.hid (path_any t c ax v p w hi hr hl)
  unfold pathZ
  obtain ⟨a, cap, rfl⟩ := row_shape hr
  generalize pathT ax t p = s at HS ⊢
  clear hx hi hr
  go_enter Try.func31, Try.ntmps31
  go_wp2_with fail
  refine HS.out.mono ?_
  rintro e w2 ⟨rfl, hb2⟩
  have B2 := Lib.hid hb2
  clear hb2
  go_wp2
  go_ret
  exact ⟨rfl, B2.out⟩
theorem entersF : Enters 31 := enters_of Try.func31 (by kernel_rfl) rfl

set_option maxHeartbeats 800000 in
set_option maxRecDepth 100000 in
theorem idxF_any (l : List Int) (v : Value) (t : T) (d : C) (p : List Int) (vp : Value) (b b2 : Nat) (w : World) (hr : Row w v (u8s l)) (hl : l.length ≤ 1000000) (hi : Is w d t) (hx : Box7 w b d) (hp : w.cell? ⟨b2, 0, none⟩ = some vp) (hrp : Row w vp (ints p)) (hlp : p.length ≤ 1000000) :
    Calls Try.prog 49 #[v, .func (.func 31) #[] #[.pointer (some ⟨b, 0, none⟩), .pointer (some ⟨b2, 0, none⟩)]] w fun e w' => ∃ n : Int, e = .returned (.int .i64 n) ∧ decide (0 ≤ n) = l.any (pathZ t p) ∧ Below w.heap.size w w' := by
  have hent : ∀ (args : Array Value) (w : World), (callFunc 31 args).run Try.prog w = .ok (.enter 31 args) w := entersF
  obtain ⟨a, cap, rfl⟩ := u8_shape hr
  have HR := Lib.hid hr
  have HCL := Lib.hid (fun (ax : Int) (W : World) (h : Below w.heap.size w W) => frm1_any t d p vp b b2 ax W (hi.up h) (hx.up h) ((h.cell (lt_of_cell hp)).trans hp) (hrp.up h) hlp)
  clear hr hx hi hp hrp
  go_enter Try.func49, Try.ntmps49
  go_wp2
  go_loopg [8] (l.length + 1) (fun g i wr => ∃ k : Nat, g + k = l.length + 1 ∧ k ≤ l.length ∧ i = .int .i64 k ∧ (∀ (j : Nat) (x : Int), j < k → l[j]? = some x → pathZ t p x = false) ∧ Below w.heap.size w wr)
  case atStart => exact ⟨0, by omega, by omega, rfl, fun j x hj => by omega, Below.refl _ _⟩
  case round =>
    obtain ⟨k, hgk, hk, rfl, hno, hb⟩ := hrel
    have HG := Lib.hid hgk
    have HN := Lib.hid hno
    have HB := Lib.hid hb
    clear hgk hno hb
    by_cases hlt : k < l.length
    · have hlti : (k : Int) < (l.length : Int) := by omega
      obtain ⟨x, hx⟩ : ∃ x, l[k]? = some x := ⟨_, List.getElem?_eq_getElem hlt⟩
      obtain ⟨ad, rfl, hf⟩ := u8_at HR.out (by omega)
      have c0 := hf k x hx
      have c0 := (HB.out.cell (lt_of_cell c0)).trans c0
      have HLX := Lib.hid hx
      clear hf hx
      have HC := Lib.hid (HCL.out x wr HB.out)
      cases hbx : pathZ t p x with
      | true =>
        rw [hbx] at HC
        have HBX := Lib.hid hbx
        clear hbx
        go_wp2_with fail
        refine HC.out.mono ?_
        rintro e w2 ⟨rfl, hb2⟩
        have HB2 := Lib.hid (HB.out.trans (hb2.mono HB.out.size))
        clear hb2
        go_wp2
        go_ret
        refine ⟨_, rfl, ?_, HB2.out⟩
        rw [decide_eq_true (by omega)]
        exact (List.any_eq_true.2 ⟨x, List.mem_of_getElem? HLX.out, HBX.out⟩).symm
      | false =>
        rw [hbx] at HC
        have HBX := Lib.hid hbx
        clear hbx
        go_wp2_with fail
        refine HC.out.mono ?_
        rintro e w2 ⟨rfl, hb2⟩
        have HB2 := Lib.hid (HB.out.trans (hb2.mono HB.out.size))
        clear hb2
        go_wp2
        go_roundg (gk - 1)
        case measure => have := HG.out; omega
        case rel =>
          refine ⟨k + 1, by have := HG.out; omega, by omega, by go_num, fun j y hj hy => ?_, HB2.out⟩
          rcases Nat.lt_or_ge j k with h | h
          · exact HN.out j y h hy
          · obtain rfl : j = k := by omega
            rw [HLX.out] at hy; cases hy; exact HBX.out
    · obtain rfl : k = l.length := by omega
      have hkl : ((l.length : Int) < (l.length : Int)) = False := by simp
      go_wp2
      go_ret
      refine ⟨_, rfl, ?_, HB.out⟩
      rw [decide_eq_false (by omega)]
      refine (Eq.symm ?_)
      rw [List.any_eq_false]
      intro x hx
      obtain ⟨j, hj, rfl⟩ := List.getElem_of_mem hx
      rw [HN.out j _ hj (List.getElem?_eq_getElem hj)]
      decide

set_option maxRecDepth 100000 in
theorem hasF_any (l : List Int) (v : Value) (t : T) (d : C) (p : List Int) (vp : Value) (b b2 : Nat) (w : World) (hr : Row w v (u8s l)) (hl : l.length ≤ 1000000) (hi : Is w d t) (hx : Box7 w b d) (hp : w.cell? ⟨b2, 0, none⟩ = some vp) (hrp : Row w vp (ints p)) (hlp : p.length ≤ 1000000) :
    Calls Try.prog 30 #[v, .func (.func 31) #[] #[.pointer (some ⟨b, 0, none⟩), .pointer (some ⟨b2, 0, none⟩)]] w fun e w' => e = .returned (.bool (l.any (pathZ t p))) ∧ Below w.heap.size w w' := by
  have H2 := Lib.hid (idxF_any l v t d p vp b b2 w hr hl hi hx hp hrp hlp)
  obtain ⟨a, cap, rfl⟩ := u8_shape hr
  clear hr hx hi hp hrp
  generalize l.any (pathZ t p) = q at H2 ⊢
  go_enter Try.func30, Try.ntmps30
  go_wp2_with fail
  refine H2.out.mono ?_
  rintro e w2 ⟨n, rfl, hd, hb2⟩
  have HB2 := Lib.hid hb2
  clear hb2
  subst hd
  go_wp2
  go_ret
  exact ⟨rfl, HB2.out⟩

/-- Is there a frame for all these? -/
noncomputable def frmB (id : Int) (axs : List Int) (t : T) : Bool := (tileB t && (findT id t).isSome) && axs.all fun a => decide (fdE id a t = 0)
theorem frm_no {id : Int} {axs : List Int} {t : T} (h : tileB t = false) : frmB id axs t = false := by unfold frmB; rw [h]; rfl
theorem frm_none {id : Int} {axs : List Int} {t : T} (h : findT id t = none) : frmB id axs t = false := by unfold frmB; rw [h]; simp
theorem frm_yes {id : Int} {axs : List Int} {t : T} {p : List Int} (ht : tileB t = true) (h : findT id t = some p) : frmB id axs t = !(axs.any (pathZ t p)) := by
  unfold frmB
  rw [h, ht, List.not_any_eq_all_not]
  simp only [Option.isSome_some, Bool.and_self, Bool.true_and]
  congr 1
  funext a
  exact fd_path ht h

set_option maxHeartbeats 1600000 in
set_option maxRecDepth 100000 in
theorem pframe_any (t : T) (c : C) (id : Int) (v : Value) (axs : List Int) (w : World) (hm : sz t ≤ 990) (hi : Is w c t) (hr : Row w v (u8s axs)) (hl : axs.length ≤ 1000000) :
    Calls Try.prog 15 #[cval c, .int .i64 id, v] w fun e w' => e = .returned (.bool (frmB id axs t)) ∧ Below w.heap.size w w' := by
  have B1 : Hid (Below w.heap.size w (w.alloc (cbox c))) := Lib.hid ((Below.refl _ _).alloc (Nat.le_refl _) _)
  have X1 := Lib.hid (Box7.new w c)
  have HT := Lib.hid (tilesOne_any t c (w.alloc (cbox c)) (hi.up B1.out) may_small (w.heap.size + 1) (by simp))
  have HI := Lib.hid hi
  have HM := Lib.hid hm
  obtain ⟨va, vcap, rfl⟩ := u8_shape hr
  have HR := Lib.hid hr
  clear hi hm hr
  obtain ⟨c0, c1, c2, c3, c4, c5, c6⟩ := c7_of X1.out.cat
  cases ht : tileB t with
  | false =>
    rw [ht] at HT
    have HC := Lib.hid (frm_no (id := id) (axs := axs) ht)
    clear ht
    go_enter Try.func15, Try.ntmps15
    go_wp2_with fail
    refine HT.out.mono ?_
    rintro e w1 ⟨rfl, hb1⟩
    have L1 := Lib.hid (B1.out.trans (hb1.mono B1.out.size))
    clear hb1
    go_wp2
    go_ret
    exact ⟨by rw [HC.out] <;> rfl, L1.out⟩
  | true =>
    rw [ht] at HT
    have HTT := Lib.hid ht
    clear ht
    go_enter Try.func15, Try.ntmps15
    go_wp2_with fail
    refine HT.out.mono ?_
    rintro e w1 ⟨rfl, hb1⟩
    have L1 := Lib.hid (B1.out.trans (hb1.mono B1.out.size))
    have X2 := Lib.hid (X1.out.up hb1)
    clear hb1 c0 c1 c2 c3 c4 c5 c6 HT
    obtain ⟨c0, c1, c2, c3, c4, c5, c6⟩ := c7_of X2.out.cat
    have HF := Lib.hid (findO_any id t c w1 (by have := HM.out; omega) (HI.out.up L1.out))
    cases hf : findT id t with
    | none =>
      have HF2 : Hid (Calls Try.prog 29 #[cval c, .int .i64 id] w1 fun e w' => e = .returned (.tuple #[.slice none 0 0, .bool false]) ∧ Below w1.heap.size w1 w') := HF.out.mono fun e w' h => by
        obtain ⟨hb, h⟩ := h
        rw [hf] at h
        exact ⟨h, hb⟩
      have HC := Lib.hid (frm_none (axs := axs) hf)
      clear HF hf
      go_wp2_with fail
      refine HF2.out.mono ?_
      rintro e w2 ⟨rfl, hb2⟩
      have L2 := Lib.hid (bl_al (bl_up L1.out hb2) (pbxO (.slice none 0 0)))
      clear hb2 c0 c1 c2 c3 c4 c5 c6
      go_wp2
      go_ret
      exact ⟨by rw [HC.out] <;> rfl, L2.out⟩
    | some p =>
      have HC := Lib.hid (frm_yes (axs := axs) HTT.out hf)
      have HPL : Hid (p.length ≤ 1000000) := Lib.hid (by have := findT_len id p t hf; have := HM.out; omega)
      have HF2 : Hid (Calls Try.prog 29 #[cval c, .int .i64 id] w1 fun e w' => ∃ a cap, e = .returned (.tuple #[.slice a p.length cap, .bool true]) ∧ PRow w' w1.heap.size (.slice a p.length cap) p ∧ Below w1.heap.size w1 w') := HF.out.mono fun e w' h => by
        obtain ⟨hb, h⟩ := h
        rw [hf] at h
        obtain ⟨a, cap, he, hr⟩ := h
        exact ⟨a, cap, he, hr, hb⟩
      clear HF hf
      go_wp2_with fail
      refine HF2.out.mono ?_
      rintro e w2 ⟨pa, pcap, rfl, hr2, hb2⟩
      have BN : Below w2.heap.size w2 (w2.alloc (pbxO (.slice pa p.length pcap))) := (Below.refl _ _).alloc (Nat.le_refl _) _
      have L2 := Lib.hid (bl_up (bl_up L1.out hb2) BN)
      have HK := Lib.hid (hasF_any axs (.slice va axs.length vcap) t c p (.slice pa p.length pcap) w.heap.size w2.heap.size (w2.alloc (pbxO (.slice pa p.length pcap))) (HR.out.up L2.out) hl (HI.out.up L2.out) ((X2.out.up hb2).up BN) (by simp) (hr2.1.up BN) HPL.out)
      clear hb2 BN hr2 c0 c1 c2 c3 c4 c5 c6
      generalize axs.any (pathZ t p) = q at HK HC
      go_wp2_with fail
      refine HK.out.mono ?_
      rintro e w3 ⟨rfl, hb3⟩
      have L3 := Lib.hid (bl_up L2.out hb3)
      clear hb3
      go_wp2
      go_ret
      exact ⟨by rw [HC.out] <;> rfl, L3.out⟩
end Go.Proofs.Ytodcabaihhmhnaa
/- The law PushFrames. -/
namespace Go.Proofs.Ytodcabaihhmhnaa
open Go.RowKit Sh

/-- What the document is asked, one axis behind the other. -/
noncomputable def wantF (id : Int) (t : T) (axs : List Int) (k : Nat) : Bool := (tileB t && (findT id t).isSome) && (axs.take k).all fun a => decide (fdE id a t = 0)
theorem wantF_end (id : Int) (t : T) (axs : List Int) : wantF id t axs axs.length = frmB id axs t := by unfold wantF frmB; rw [List.take_length]
theorem wantF_step {id : Int} {t : T} {axs : List Int} {k : Nat} {a : Int} (h : axs[k]? = some a) : wantF id t axs (k + 1) = (wantF id t axs k && (fdE id a t == 0)) := by
  unfold wantF
  rw [List.take_add_one, h, List.all_append]
  have e : (fdE id a t == 0) = decide (fdE id a t = 0) := rfl
  rw [e]
  simp [Bool.and_assoc]
theorem wantF_zero (id : Int) (t : T) (axs : List Int) : wantF id t axs 0 = (tileB t && (findT id t).isSome) := by unfold wantF; simp

theorem field_e (a : Option Addr) (n c : Nat) (z E : Int) (w : World) : Sem.run Try.prog (Instr.field 41 (.agg #[.slice a n c, .int .i64 z, .int .i64 E]) 2) w = .ok (.int .i64 E) w := by kernel_rfl

set_option maxHeartbeats 4000000 in
set_option maxRecDepth 100000 in
theorem pushFrames_any (t : T) (c : C) (id : Int) (v : Value) (axs : List Int) (w : World) (hi : Is w c t) (hs : sz t ≤ 1099511627776) (hr : Row w v (u8s axs)) :
    Calls Try.prog 4 #[cval c, .int .i64 id, v] w fun e w' => e = .returned (.bool true) ∧ Below w.heap.size w w' := by
  have S0 := Lib.hid (QSt.new w c)
  have HG := Lib.hid (great_any t c (w.alloc (cbox c)) (hi.up S0.out.below))
  have HI := Lib.hid hi
  obtain ⟨va, vcap, rfl⟩ := u8_shape hr
  have HR := Lib.hid hr
  clear hi hr
  obtain ⟨c0, c1, c2, c3, c4, c5, c6⟩ := S0.out.c7
  go_enter Try.func4, Try.ntmps4
  go_wp2_with fail
  refine HG.out.mono ?_
  rintro e w1 ⟨g, rfl, hg, hb1⟩
  have S1 := Lib.hid (S0.out.up hb1)
  have HGR := Lib.hid hg
  clear hb1 hg c0 c1 c2 c3 c4 c5 c6
  cases g with
  | true =>
    go_wp2_with fail
    refine (awake14_any w1).mono ?_
    rintro e w2 ⟨rfl, hb2⟩
    have S2 := Lib.hid (S1.out.up hb2)
    clear hb2
    go_wp2
    go_ret
    exact ⟨rfl, S2.out.below⟩
  | false =>
    have HS : Hid (sz t ≤ 200) := Lib.hid (HGR.out rfl hs)
    clear hs HGR
    by_cases h10 : 10 < axs.length
    · have d10 : decide ((10 : Int) < (axs.length : Int)) = true := decide_eq_true (by omega)
      clear h10
      go_wp2_with fail
      refine (awake14_any w1).mono ?_
      rintro e w2 ⟨rfl, hb2⟩
      have S2 := Lib.hid (S1.out.up hb2)
      clear hb2
      go_wp2
      go_ret
      exact ⟨rfl, S2.out.below⟩
    · have d10 : decide ((10 : Int) < (axs.length : Int)) = false := decide_eq_false (by omega)
      have HL10 : Hid (axs.length ≤ 10) := Lib.hid (by omega)
      have HFI := Lib.hid (rfindp_any id (sz t) t c w1 (Nat.le_refl _) (by have := HS.out; omega) (HI.out.up S1.out.below))
      have HTI := Lib.hid (fun (W : World) (h : QSt w c W) => rtiles8_any t c W (HI.out.up h.below) (by have := HS.out; omega))
      clear h10
      obtain ⟨c0, c1, c2, c3, c4, c5, c6⟩ := S1.out.c7
      go_wp2_with fail
      refine HFI.out.mono ?_
      rintro e w3 ⟨vp, rfl, -, -, hb3⟩
      have S3 := Lib.hid (S1.out.up hb3)
      clear hb3 c0 c1 c2 c3 c4 c5 c6 d10
      have HW0 := Lib.hid (wantF_zero id t axs)
      generalize (findT id t).isSome = fo at HW0 ⊢
      go_upto_region 4 with fail
      go_cut [8] from 24 to 28 (fun s8 wx => s8 = .bool (wantF id t axs 0) ∧ QSt w c wx)
      case first =>
        obtain ⟨c0, c1, c2, c3, c4, c5, c6⟩ := S3.out.c7
        cases fo with
        | false =>
          have HW1 : Hid (wantF id t axs 0 = false) := Lib.hid (by rw [HW0.out]; simp)
          go_wp2_with fail
          go_meet
          exact ⟨by rw [HW1.out], S3.out⟩
        | true =>
          have HW1 : Hid (wantF id t axs 0 = tileB t) := Lib.hid (by rw [HW0.out]; simp)
          go_wp2_with fail
          refine (HTI.out w3 S3.out).mono ?_
          rintro e w4 ⟨rfl, hb4⟩
          have S4 := Lib.hid (S3.out.up hb4)
          clear hb4
          go_wp2_with fail
          go_meet
          exact ⟨by rw [HW1.out], S4.out⟩
      case rest =>
        obtain ⟨rfl, hq⟩ := hcut
        have SC := Lib.hid hq
        clear hq S3 HTI HW0
        go_wp2
        go_loopg [8, 9] (axs.length + 1) (fun g b i wr => ∃ k : Nat, g + k = axs.length + 1 ∧ k ≤ axs.length ∧ i = .int .i64 k ∧ b = .bool (wantF id t axs k) ∧ QSt w c wr)
        case atStart => exact ⟨0, by omega, by omega, rfl, rfl, SC.out⟩
        case round =>
          obtain ⟨k, hgk, hk, rfl, rfl, hq⟩ := hrel
          have HGK := Lib.hid hgk
          have hl10 := HL10.out
          have S5 := Lib.hid hq
          clear hgk hq
          by_cases hlt : k < axs.length
          · have hlti : (k : Int) < (axs.length : Int) := by omega
            obtain ⟨a, ha⟩ : ∃ a, axs[k]? = some a := ⟨_, List.getElem?_eq_getElem hlt⟩
            have HST := Lib.hid (wantF_step (id := id) (t := t) ha)
            cases hwk : wantF id t axs k with
            | false =>
              rw [hwk] at HST
              have HN : Hid (wantF id t axs (k + 1) = false) := Lib.hid (by rw [HST.out]; rfl)
              clear ha hwk HST
              go_wp2
              go_quiet (fail)
              go_wp2
              go_roundg (gk - 1)
              case measure => have := HGK.out; omega
              case rel => exact ⟨k + 1, by have := HGK.out; omega, by omega, by go_num, by rw [HN.out], S5.out.up ⟨rfl, rfl, rfl, Nat.le_refl _, fun _ _ => rfl⟩⟩
            | true =>
              rw [hwk, Bool.true_and] at HST
              obtain ⟨ad, rfl, hf⟩ := u8_at HR.out (by omega)
              have ca := hf k a ha
              have ca := ((S5.out.below).cell (lt_of_cell ca)).trans ca
              have D5 : Hid (Below wr.heap.size wr wr.drew) := Lib.hid (Below.refl _ _).drew
              have HX : Hid (∀ W, Below wr.heap.size wr W → C7 w.heap.size c W ∧ W.cell? (ad.add k) = some (.int .u8 a)) := Lib.hid fun W hb => ⟨(S5.out.up hb).c7, (hb.cell (lt_of_cell ca)).trans ca⟩
              have HFR : Hid (Calls Try.prog 14 #[cval c, .int .i64 id, .int .u8 a] wr.drew fun e w' => ∃ va vn vc zz, e = .returned (.agg #[.slice va vn vc, .int .i64 zz, .int .i64 (fdE id a t)]) ∧ Below wr.drew.heap.size wr.drew w') := Lib.hid ((rframe_any id a t c wr.drew (by have := HS.out; omega) (HI.out.up (S5.out.up D5.out).below)).mono fun e w' h => by
                obtain ⟨hb, h⟩ := h
                rcases h with ⟨-, h⟩ | ⟨h0, p, n, x, kk, aa, cap, -, -, -, -, -, h, -⟩
                · exact ⟨_, _, _, _, h, hb⟩
                · rw [h0]; exact ⟨_, _, _, _, h, hb⟩)
              generalize fdE id a t = E at HFR HST
              clear hf ha ca hwk
              have hfl := field_e
              go_wp2_with fail
              go_region_held3 (fun W => (W.cell? ⟨w.heap.size, 0, none⟩ = some (.int .u8 c.k) ∧ W.cell? ⟨w.heap.size, 1, none⟩ = some (.int .i64 c.r.x) ∧ W.cell? ⟨w.heap.size, 2, none⟩ = some (.int .i64 c.r.y) ∧ W.cell? ⟨w.heap.size, 3, none⟩ = some (.int .i64 c.r.w) ∧ W.cell? ⟨w.heap.size, 4, none⟩ = some (.int .i64 c.r.h) ∧ W.cell? ⟨w.heap.size, 5, none⟩ = some (.int .i64 c.id) ∧ W.cell? ⟨w.heap.size, 6, none⟩ = some (.slice c.a c.n c.cap)) ∧ W.cell? (ad.add k) = some (.int .u8 a)) (exact HX.out _ (by first | with_reducible exact D5.out | with_reducible exact D6.out))
                (first
                  | (go_at_call 14; (with_reducible refine HFR.out.mono ?_); rintro e w6 ⟨va9, vn9, vc9, zz, rfl, hb6⟩; have D6 := Lib.hid (bl_up D5.out hb6); clear hb6))
              rename_i hh9
              clear hh9
              go_wp2
              go_roundg (gk - 1)
              case measure => have := HGK.out; omega
              case rel => exact ⟨k + 1, by have := HGK.out; omega, by omega, by go_num, by rw [HST.out], S5.out.up D6.out⟩
          · obtain rfl : k = axs.length := by omega
            have hkl : ((axs.length : Int) < (axs.length : Int)) = False := by simp
            have HPF := Lib.hid (pframe_any t c id (.slice va axs.length vcap) axs wr (by have := HS.out; omega) (HI.out.up S5.out.below) (HR.out.up S5.out.below) (by omega))
            rw [wantF_end]
            generalize frmB id axs t = q at HPF ⊢
            have b1 : (q == q) = true := by simp
            obtain ⟨c0, c1, c2, c3, c4, c5, c6⟩ := S5.out.c7
            go_wp2_with fail
            refine HPF.out.mono ?_
            rintro e w6 ⟨rfl, hb6⟩
            have S6 := Lib.hid (S5.out.up hb6)
            clear hb6 c0 c1 c2 c3 c4 c5 c6
            go_wp2_with fail
            refine (awake14_any _).mono ?_
            rintro e w7 ⟨rfl, hb7⟩
            have S7 := Lib.hid (S6.out.up hb7)
            clear hb7
            go_wp2
            go_ret
            exact ⟨rfl, S7.out.below⟩

theorem pushFrames_wf (v0 : Value) (t : T) (c : C) (id : Int) (v : Value) (axs : List Int) (w : World) (e0 : v0 = cval c) (hi : Is w c t) (hs : sz t ≤ 1048576) (hr : Row w v (u8s axs)) :
    Calls Try.prog 4 #[v0, .int .i64 id, v] w fun e w' => e = .returned (.bool true) ∧ Below w.heap.size w w' := by
  subst e0
  exact pushFrames_any t c id v axs w hi (by omega) hr
end Go.Proofs.Ytodcabaihhmhnaa
