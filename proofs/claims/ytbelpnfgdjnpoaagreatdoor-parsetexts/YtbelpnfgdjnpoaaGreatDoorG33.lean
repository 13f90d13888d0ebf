/- Texts of this seat, 3 in one file. -/
import Derived.Test.YtbelpnfgdjnpoaaGreatDoorG30
import Derived.Test.YtbelpnfgdjnpoaaGreatDoorG32
/- Round: whether texts are those of trees, printed again the same. -/
namespace Go.Proofs.YtbelpnfgdjnpoaaGreatDoor
open Go.RowKit
open Sash.Sum (cutE cutX putL putL_len)

theorem textP_back {S : List UInt8} {t : T} (h : TextP S (.yes t)) : putL (bodyT t) = S := by
  obtain ⟨t', e1, hok, hd, -, -⟩ := h.2.1.back
  cases e1
  rw [List.drop_length, List.append_nil] at hd
  rw [← hd, ← (cut_five h.1).1]
  exact Sash.Sum.put_cut S h.1
theorem textP_ne {S : List UInt8} {e p : Int} (h : TextP S (.no e p)) : e ≠ 0 := by
  rcases h with ⟨h1, rfl, -⟩ | ⟨-, h⟩
  · exact h1
  · rcases h with ⟨x, h1, -⟩ | ⟨l, x, -, -, rfl, -⟩ | ⟨t, -, -, rfl, -⟩ | ⟨t, -, -, -, rfl, -⟩
    · have h2 : e = 2 ∨ e = 3 := h1.code
      omega
    · decide
    · decide
    · decide
theorem zero_tile : tileB zeroT = false := by
  unfold tileB; rw [show mayT zeroT = false by decide]; rfl
theorem neqStr (s : ByteArray) (w : World) : (binOp .neq 9 (.string s) (.string s)).run Tryz.prog w = .ok (.bool false) w := by simp [go_sem]
def yesB (o : WR) : Bool := match o with
  | .no _ _ => false
  | .yes _ => true

set_option maxRecDepth 100000 in
set_option maxHeartbeats 2000000 in
theorem round1_any (s : ByteArray) (hs : s.size ≤ 100000) (o : WR) (hz : sz (oT o) ≤ 999) (ho : TextP s.data.toList o) (w : World) (hg : Er.EtLaid w) (htab : Tab w) :
    Calls Tryz.prog 34 #[.string s] w fun e w' => e = .returned (.bool (!yesB o)) ∧ Below w.heap.size w w' := by
  have hSL : s.data.toList.length = s.size := by simp
  have KT := Lib.hid (ftext_any s (by omega) w hg)
  have HTB := Lib.hid htab
  have HO := Lib.hid ho
  have n1 := neqN
  have n2 := neqS
  have n3 := neqStr s
  cases o with
  | no er pl =>
    clear hg htab ho hSL hz
    go_enter Tryz.func34, Tryz.ntmps34
    go_wp2_with fail
    refine KT.out.mono ?_
    rintro e w1 ⟨o2, d, v, rfl, hrel, hi, herr, hb1⟩
    obtain rfl : WR.no er pl = o2 := HO.out.one hrel
    rcases herr with ⟨h1, -, -⟩ | ⟨h1, b, rfl, -, -⟩
    · exact absurd h1 (textP_ne HO.out)
    have hba : Below w1.heap.size w1 (w1.alloc (cbox d)) := (Below.refl _ _).alloc (Nat.le_refl _) _
    have B2 : Hid (Below w.heap.size w (w1.alloc (cbox d))) := Lib.hid (hb1.alloc hb1.size _)
    have X2 := Lib.hid (Box7.new w1 d)
    have I2 : Hid (Is (w1.alloc (cbox d)) d zeroT) := Lib.hid (hi.up hba)
    clear hrel hi h1 hb1 hba
    go_upto_region 2 with (fail)
    change Code.wp _ _ _ _ (w1.alloc (cbox d))
    generalize w1.alloc (cbox d) = w2 at B2 X2 I2 ⊢
    generalize w1.heap.size = g1 at X2 ⊢
    obtain ⟨c0, c1, c2, c3, c4, c5, c6⟩ := X2.out.cat
    simp only [Nat.zero_add] at c1 c2 c3 c4 c5 c6
    go_wp2_with fail
    refine (ptext_no zeroT d w2 I2.out (by simp [sz, szL]) zero_tile).mono ?_
    rintro e w3 ⟨rfl, hb3⟩
    have B3 := Lib.hid (B2.out.trans (hb3.mono B2.out.size))
    clear hb3 c0 c1 c2 c3 c4 c5 c6
    go_wp2
    go_ret
    exact ⟨rfl, B3.out⟩
  | yes t =>
    have HSZ : Hid (sz t ≤ 999) := Lib.hid hz
    have HTL : Hid (tileB t = true) := Lib.hid ho.2.2
    have HBK : Hid ((⟨(putL (bodyT t)).toArray⟩ : ByteArray) = s) := Lib.hid (by rw [textP_back ho])
    clear hg htab ho hSL hz
    go_enter Tryz.func34, Tryz.ntmps34
    go_wp2_with fail
    refine KT.out.mono ?_
    rintro e w1 ⟨o2, d, v, rfl, hrel, hi, herr, hb1⟩
    obtain rfl : WR.yes t = o2 := HO.out.one hrel
    rcases herr with ⟨-, -, rfl⟩ | ⟨h1, -⟩
    case inr => exact absurd rfl h1
    have hba : Below w1.heap.size w1 (w1.alloc (cbox d)) := (Below.refl _ _).alloc (Nat.le_refl _) _
    have B2 : Hid (Below w.heap.size w (w1.alloc (cbox d))) := Lib.hid (hb1.alloc hb1.size _)
    have X2 := Lib.hid (Box7.new w1 d)
    have I2 : Hid (Is (w1.alloc (cbox d)) d t) := Lib.hid (hi.up hba)
    clear hrel hi hb1 hba
    go_upto_region 2 with (fail)
    change Code.wp _ _ _ _ (w1.alloc (cbox d))
    generalize w1.alloc (cbox d) = w2 at B2 X2 I2 ⊢
    generalize w1.heap.size = g1 at X2 ⊢
    have KX := Lib.hid (ptext_yes t d w2 I2.out HSZ.out HTL.out (tab_on HTB.out B2.out))
    rw [HBK.out] at KX
    obtain ⟨c0, c1, c2, c3, c4, c5, c6⟩ := X2.out.cat
    simp only [Nat.zero_add] at c1 c2 c3 c4 c5 c6
    go_wp2_with fail
    refine KX.out.mono ?_
    rintro e w3 ⟨rfl, hb3⟩
    have B3 := Lib.hid (B2.out.trans (hb3.mono B2.out.size))
    clear hb3 c0 c1 c2 c3 c4 c5 c6
    go_wp2
    go_ret
    exact ⟨rfl, B3.out⟩

set_option maxRecDepth 100000 in
set_option maxHeartbeats 2000000 in
/-- Round of one text, told once or twice. -/
theorem index11_any (s : ByteArray) (hs : s.size ≤ 100000) (o : WR) (hz : sz (oT o) ≤ 999) (ho : TextP s.data.toList o) (b n : Nat) (hn0 : 0 < n) (hn : n ≤ 2) (w : World) (hc : ∀ j, j < n → w.cell? ⟨b, j, none⟩ = some (.string s)) (hg : Er.EtLaid w) (htab : Tab w) :
    Calls Tryz.prog 60 #[.slice (some ⟨b, 0, none⟩) n n, .func (.func 34) #[] #[]] w fun e w' => ∃ i : Int, e = .returned (.int .i64 i) ∧ decide (0 ≤ i) = !yesB o ∧ Below w.heap.size w w' := by
  have KR := Lib.hid (fun W (hb : Below w.heap.size w W) => round1_any s hs o hz ho W (et_up hg hb) (tab_on htab hb))
  have HC := Lib.hid hc
  clear hg htab ho hc
  go_enter Tryz.func60, Tryz.ntmps60
  go_wp2
  go_loopg [8] (n + 1) (fun g i wr => ∃ k : Nat, g + k = n + 1 ∧ k ≤ n ∧ i = .int .i64 k ∧ (k = 0 ∨ yesB o = true) ∧ Below w.heap.size w wr)
  case atStart => exact ⟨0, by omega, by omega, rfl, .inl rfl, Below.refl _ _⟩
  case round =>
    obtain ⟨k, hgk, hk, rfl, ha, hb⟩ := hrel
    have HB : Hid (Below w.heap.size w wr ∧ (k = 0 ∨ yesB o = true) ∧ gk + k = n + 1) := Lib.hid ⟨hb, ha, hgk⟩
    clear hb ha hgk
    by_cases hlt : k < n
    · have ck := (HB.out.1.cell (lt_of_cell (HC.out k hlt))).trans (HC.out k hlt)
      have d1 : (k : Int) < (n : Int) := by omega
      have KK := Lib.hid (KR.out wr HB.out.1)
      cases hy : yesB o with
      | true =>
        rw [hy] at KK
        have HY := Lib.hid hy
        clear hy
        go_wp2_with fail
        refine KK.out.mono ?_
        rintro e w2 ⟨rfl, hb2⟩
        have B2 := Lib.hid (HB.out.1.trans (hb2.mono HB.out.1.size))
        clear hb2
        go_wp2
        go_roundg (gk - 1)
        case measure => have := HB.out.2.2; omega
        case rel => exact ⟨k + 1, by have := HB.out.2.2; omega, by omega, by go_num, .inr HY.out, B2.out⟩
      | false =>
        rw [hy] at KK
        have HY := Lib.hid hy
        clear hy
        go_wp2_with fail
        refine KK.out.mono ?_
        rintro e w2 ⟨rfl, hb2⟩
        have B2 := Lib.hid (HB.out.1.trans (hb2.mono HB.out.1.size))
        clear hb2
        go_wp2
        go_ret
        exact ⟨_, rfl, by rw [HY.out, decide_eq_true (by omega)]; rfl, B2.out⟩
    · obtain rfl : k = n := by omega
      have hkl : ((k : Int) < (k : Int)) = False := by simp
      have HY : Hid (yesB o = true) := Lib.hid (HB.out.2.1.resolve_left (by omega))
      go_wp2
      go_ret
      exact ⟨_, rfl, by rw [HY.out]; rfl, HB.out.1⟩
set_option maxRecDepth 100000 in
set_option maxHeartbeats 2000000 in
theorem round_any (s : ByteArray) (hs : s.size ≤ 100000) (o : WR) (hz : sz (oT o) ≤ 999) (ho : TextP s.data.toList o) (b n : Nat) (hn0 : 0 < n) (hn : n ≤ 2) (w : World) (hc : ∀ j, j < n → w.cell? ⟨b, j, none⟩ = some (.string s)) (hg : Er.EtLaid w) (htab : Tab w) :
    Calls Tryz.prog 13 #[.slice (some ⟨b, 0, none⟩) n n] w fun e w' => e = .returned (.bool (yesB o)) ∧ Below w.heap.size w w' := by
  have KI := Lib.hid (index11_any s hs o hz ho b n hn0 hn w hc hg htab)
  clear hc hg htab
  have KC : Hid (Calls Tryz.prog 33 #[.slice (some ⟨b, 0, none⟩) n n, .func (.func 34) #[] #[]] w fun e w' => e = .returned (.bool (!yesB o)) ∧ Below w.heap.size w w') := Lib.hid (by
    go_enter Tryz.func33, Tryz.ntmps33
    go_wp2_with fail
    refine KI.out.mono ?_
    rintro e w2 ⟨i, rfl, hi, hb⟩
    have HB := Lib.hid hb
    have HI := Lib.hid hi
    clear hb hi
    go_wp2
    go_ret
    exact ⟨by rw [← HI.out]; rfl, HB.out⟩)
  generalize yesB o = y at KC ⊢
  cases y
  · go_enter Tryz.func13, Tryz.ntmps13
    go_wp2_with fail
    refine KC.out.mono ?_
    rintro e w2 ⟨rfl, hb⟩
    have HB := Lib.hid hb
    clear hb
    go_wp2
    go_ret
    exact ⟨rfl, HB.out⟩
  · go_enter Tryz.func13, Tryz.ntmps13
    go_wp2_with fail
    refine KC.out.mono ?_
    rintro e w2 ⟨rfl, hb⟩
    have HB := Lib.hid hb
    clear hb
    go_wp2
    go_ret
    exact ⟨rfl, HB.out⟩
end Go.Proofs.YtbelpnfgdjnpoaaGreatDoor
/- The law ParseTexts. -/
namespace Go.Proofs.YtbelpnfgdjnpoaaGreatDoor
open Go.RowKit
open Sash.Sum (cutE cutX putL putL_len)

theorem eqStr (s : ByteArray) (w : World) : (binOp .eql 9 (.string s) (.string s)).run Tryz.prog w = .ok (.bool true) w := by simp [go_sem]
theorem one_str (W : World) (s : ByteArray) : ∀ j, j < 1 → (W.alloc (.cells #[.string s] 9)).cell? ⟨W.heap.size, j, none⟩ = some (.string s) := by
  intro j hj
  obtain rfl : j = 0 := by omega
  simp
theorem two_str (W : World) (s : ByteArray) : ∀ j, j < 2 → (W.alloc (.cells #[.string s, .string s] 9)).cell? ⟨W.heap.size, j, none⟩ = some (.string s) := by
  intro j hj
  match j, hj with
  | 0, _ => simp
  | 1, _ => simp

set_option maxRecDepth 100000 in
set_option maxHeartbeats 4000000 in
theorem parseTexts_any (s : ByteArray) (w : World) (hg : Er.EtLaid w) (htab : Tab w) : Calls Tryz.prog 3 #[.string s] w fun e w' => e = .returned (.bool true) ∧ Below w.heap.size w w' := by
  have HE := Lib.hid hg
  have HTB := Lib.hid htab
  clear htab
  by_cases hl : 3000 < s.size
  · have q1 : decide ((3000 : Int) < (s.size : Int)) = true := decide_eq_true (by omega)
    have q2 : decide (3000 < s.size) = true := decide_eq_true hl
    have q3 : (3000 < s.size) = True := eq_true hl
    clear hg
    go_enter Tryz.func3, Tryz.ntmps3
    go_wp2_with fail
    refine (awake11_any w HE.out).mono ?_
    rintro e w1 ⟨rfl, hb1⟩
    have B1 := Lib.hid hb1
    clear hb1
    go_wp2
    go_ret
    exact ⟨rfl, B1.out⟩
  · have q1 : decide ((3000 : Int) < (s.size : Int)) = false := decide_eq_false (by omega)
    have q2 : decide (3000 < s.size) = false := decide_eq_false hl
    have q3 : (3000 < s.size) = False := eq_false hl
    have hSL : s.data.toList.length = s.size := by simp
    have KB := Lib.hid (ftext_any s (by omega) w hg)
    have KD := Lib.hid (fun W => dtext_any s W (by omega))
    have KR := Lib.hid (fun (o : WR) (ho : TextP s.data.toList o) (b n : Nat) (h0 : 0 < n) (h2 : n ≤ 2) (W : World) hc h3 h4 => round_any s (by omega) o (by cases o with
      | no e p => simp [oT, sz, szL]
      | yes t => have := textP_sz ho; simp only [oT]; omega) ho b n h0 h2 W hc h3 h4)
    have HSZ : Hid (∀ t, TextP s.data.toList (.yes t) → sz t ≤ 999 ∧ tileB t = true ∧ (⟨(putL (bodyT t)).toArray⟩ : ByteArray) = s) := Lib.hid (fun t h => ⟨by have := textP_sz h; omega, h.2.2, by rw [textP_back h]⟩)
    have HNE : Hid (∀ e p, TextP s.data.toList (.no e p) → e ≠ 0) := Lib.hid (fun e p h => textP_ne h)
    have es := eqStr s
    clear hg hSL
    generalize s.data.toList = S at KB KD KR HSZ HNE
    go_enter Tryz.func3, Tryz.ntmps3
    go_wp2_with fail
    refine KB.out.mono ?_
    rintro e w1 ⟨o, d, v, rfl, hrel, hi, herr, hb1⟩
    have hba : Below w1.heap.size w1 (w1.alloc (cbox d)) := (Below.refl _ _).alloc (Nat.le_refl _) _
    have HR1 := Lib.hid hrel
    have B2 : Hid (Below w.heap.size w (w1.alloc (cbox d))) := Lib.hid (hb1.alloc hb1.size _)
    have X2 := Lib.hid (Box7.new w1 d)
    have V2 := Lib.hid (herr.up hba)
    have I2 := Lib.hid (hi.up hba)
    clear hrel hi herr hb1 hba
    go_upto_region 4 with (fail)
    change Code.wp _ _ _ _ (w1.alloc (cbox d))
    generalize w1.alloc (cbox d) = w2 at B2 X2 V2 I2 ⊢
    generalize w1.heap.size = g1 at X2 ⊢
    go_wp2_with fail
    refine (KD.out w2).mono ?_
    rintro e w3 ⟨o2, d2, rfl, hrel, hi, hb3⟩
    obtain rfl : o = o2 := HR1.out.one (TextP.of hrel)
    have hba : Below w3.heap.size w3 (w3.alloc (cbox d2)) := (Below.refl _ _).alloc (Nat.le_refl _) _
    have hb34 := hb3.trans (hba.mono hb3.size)
    have B4 := Lib.hid (B2.out.trans (hb34.mono B2.out.size))
    have X4 := Lib.hid (X2.out.up hb34)
    have V4 := Lib.hid (V2.out.up hb34)
    have I4 := Lib.hid (I2.out.up hb34)
    have Y4 := Lib.hid (Box7.new w3 d2)
    have J4 := Lib.hid (hi.up hba)
    clear hrel hi hb3 hba hb34 B2 X2 V2 I2
    go_upto_region 5 with (fail)
    change Code.wp _ _ _ _ (w3.alloc (cbox d2))
    generalize w3.alloc (cbox d2) = w4 at B4 X4 V4 I4 Y4 J4 ⊢
    generalize w3.heap.size = g3 at Y4 ⊢
    have KO := Lib.hid (told_any v o w4 V4.out (et_up HE.out B4.out))
    generalize hoe : oE o = oe at KO ⊢
    generalize hop : oP o = op at KO ⊢
    have HOE := Lib.hid hoe
    clear hoe hop
    go_wp2_with fail
    refine KO.out.mono ?_
    rintro e w7 ⟨rfl, hb7⟩
    have B7 := Lib.hid (B4.out.trans (hb7.mono B4.out.size))
    have X7 := Lib.hid (X4.out.up hb7)
    have Y7 := Lib.hid (Y4.out.up hb7)
    have I7 := Lib.hid (I4.out.up hb7)
    have J7 := Lib.hid (J4.out.up hb7)
    clear hb7
    obtain ⟨c0, c1, c2, c3, c4, c5, c6⟩ := X7.out.cat
    simp only [Nat.zero_add] at c1 c2 c3 c4 c5 c6
    obtain ⟨e0, e1, e2, e3, e4, e5, e6⟩ := Y7.out.cat
    simp only [Nat.zero_add] at e1 e2 e3 e4 e5 e6
    go_wp2_with fail
    refine (sameO_any (oT o) d d2 w7 I7.out J7.out).mono ?_
    rintro e w8 ⟨rfl, hb8⟩
    clear c0 c1 c2 c3 c4 c5 c6 e0 e1 e2 e3 e4 e5 e6
    have B8 := Lib.hid (B7.out.trans (hb8.mono B7.out.size))
    have X8 := Lib.hid (X7.out.up hb8)
    have I8 := Lib.hid (I7.out.up hb8)
    clear hb8
    cases o with
    | no er pl =>
      have hne : oe ≠ 0 := by have := HNE.out er pl HR1.out; have h := HOE.out; simp only [oE] at h; omega
      have qn : (oe != 0) = true := by simp [hne]
      have hb9 : Below w8.heap.size w8 (w8.alloc (.cells #[.string s] 9)) := (Below.refl _ _).alloc (Nat.le_refl _) _
      have B9 := Lib.hid (B8.out.trans (hb9.mono B8.out.size))
      have KX := Lib.hid (KR.out (.no er pl) HR1.out w8.heap.size 1 (by omega) (by omega) (w8.alloc (.cells #[.string s] 9)) (one_str w8 s) (et_up HE.out B9.out) (tab_on HTB.out B9.out))
      clear hb9 hne
      go_wp2_with fail
      refine KX.out.mono ?_
      rintro e wa ⟨rfl, hba⟩
      have Ba := Lib.hid (B9.out.trans (hba.mono B9.out.size))
      clear hba
      go_wp2_with fail
      refine (awake11_any wa (et_up HE.out Ba.out)).mono ?_
      rintro e wb ⟨rfl, hbb⟩
      have Bb := Lib.hid (Ba.out.trans (hbb.mono Ba.out.size))
      clear hbb
      go_wp2
      go_ret
      exact ⟨rfl, Bb.out⟩
    | yes t =>
      have hz : oe = 0 := by have h := HOE.out; simp only [oE] at h; omega
      subst hz
      obtain ⟨hsz, htl, hbk⟩ := HSZ.out t HR1.out
      have KX := Lib.hid (ptext_yes t d w8 I8.out hsz htl (tab_on HTB.out B8.out))
      rw [hbk] at KX
      clear hsz htl hbk
      obtain ⟨c0, c1, c2, c3, c4, c5, c6⟩ := X8.out.cat
      simp only [Nat.zero_add] at c1 c2 c3 c4 c5 c6
      go_wp2_with fail
      refine KX.out.mono ?_
      rintro e w9 ⟨rfl, hb9⟩
      have B9 := Lib.hid (B8.out.trans (hb9.mono B8.out.size))
      clear hb9 c0 c1 c2 c3 c4 c5 c6
      have hba : Below w9.heap.size w9 (w9.alloc (.cells #[.string s, .string s] 9)) := (Below.refl _ _).alloc (Nat.le_refl _) _
      have Ba := Lib.hid (B9.out.trans (hba.mono B9.out.size))
      have KY := Lib.hid (KR.out (.yes t) HR1.out w9.heap.size 2 (by omega) (by omega) (w9.alloc (.cells #[.string s, .string s] 9)) (two_str w9 s) (et_up HE.out Ba.out) (tab_on HTB.out Ba.out))
      clear hba
      go_wp2_with fail
      refine KY.out.mono ?_
      rintro e wb ⟨rfl, hbb⟩
      have Bb := Lib.hid (Ba.out.trans (hbb.mono Ba.out.size))
      clear hbb
      go_wp2_with fail
      refine (awake11_any wb (et_up HE.out Bb.out)).mono ?_
      rintro e wc ⟨rfl, hbc⟩
      have Bc := Lib.hid (Bb.out.trans (hbc.mono Bb.out.size))
      clear hbc
      go_wp2
      go_ret
      exact ⟨rfl, Bc.out⟩
end Go.Proofs.YtbelpnfgdjnpoaaGreatDoor
/- The law ParseBack. -/
namespace Go.Proofs.YtbelpnfgdjnpoaaGreatDoor
open Go.RowKit
open Sash.Sum (cutE cutX putL putL_len)

theorem text_sz {t : T} (hs : sz t ≤ 250) : (putL (bodyT t)).length ≤ 100000 ∧ (putL (bodyT t)).length ≤ 64 * 250 + 5 := by
  have := body_len t
  rw [putL_len]
  have : 64 * sz t ≤ 64 * 250 := Nat.mul_le_mul_left _ hs
  omega

set_option maxRecDepth 100000 in
set_option maxHeartbeats 4000000 in
theorem parseBack_any (t : T) (c : C) (w : World) (hi : Is w c t) (hs : sz t ≤ 1099511627776) (hg : Er.EtLaid w) (htab : Tab w) : Calls Tryz.prog 5 #[cval c] w fun e w' => e = .returned (.bool true) ∧ Below w.heap.size w w' := by
  have HA : Hid (Below w.heap.size w (w.alloc (cbox c))) := (Below.refl _ _).alloc (Nat.le_refl _) _
  have C0 := Lib.hid (Box7.new w c)
  have HGR := Lib.hid (great_any t c (w.alloc (cbox c)) (hi.up HA.out))
  have HI := Lib.hid hi
  have HS := Lib.hid hs
  have HE := Lib.hid hg
  have HTB := Lib.hid htab
  clear hi hs hg htab
  go_enter Tryz.func5, Tryz.ntmps5
  go_wp2_with fail
  refine HGR.out.mono ?_
  rintro e w1 ⟨g, rfl, hgr, hb1⟩
  have B1 := Lib.hid (HA.out.trans (hb1.mono HA.out.size))
  have C1 := Lib.hid (C0.out.up hb1)
  have HF := Lib.hid hgr
  clear hb1 hgr
  cases g with
  | true =>
    go_wp2_with fail
    refine (awake11_any w1 (et_up HE.out B1.out)).mono ?_
    rintro e w2 ⟨rfl, hb2⟩
    have B2 := Lib.hid (B1.out.trans (hb2.mono B1.out.size))
    clear hb2
    go_wp2
    go_ret
    exact ⟨rfl, B2.out⟩
  | false =>
    have HSZ : Hid (sz t ≤ 250) := Lib.hid (Nat.le_trans (HF.out rfl HS.out) (by decide))
    obtain ⟨c0, c1, c2, c3, c4, c5, c6⟩ := C1.out.cat
    simp only [Nat.zero_add] at c1 c2 c3 c4 c5 c6
    cases htl : tileB t with
    | false =>
      have HTL := Lib.hid htl
      clear htl
      go_wp2_with fail
      refine (ptext_no t c w1 (HI.out.up B1.out) (by have := HSZ.out; omega) HTL.out).mono ?_
      rintro e w2 ⟨rfl, hb2⟩
      have B2 := Lib.hid (B1.out.trans (hb2.mono B1.out.size))
      have C2 := Lib.hid (C1.out.up hb2)
      clear hb2 c0 c1 c2 c3 c4 c5 c6
      have KT := Lib.hid (rtiles8_any t c w2 (HI.out.up B2.out) (by have := HSZ.out; omega))
      rw [HTL.out] at KT
      obtain ⟨c0, c1, c2, c3, c4, c5, c6⟩ := C2.out.cat
      simp only [Nat.zero_add] at c1 c2 c3 c4 c5 c6
      go_wp2_with fail
      refine KT.out.mono ?_
      rintro e w3 ⟨rfl, hb3⟩
      have B3 := Lib.hid (B2.out.trans (hb3.mono B2.out.size))
      clear hb3 c0 c1 c2 c3 c4 c5 c6
      go_wp2_with fail
      refine (awake11_any w3 (et_up HE.out B3.out)).mono ?_
      rintro e w4 ⟨rfl, hb4⟩
      have B4 := Lib.hid (B3.out.trans (hb4.mono B3.out.size))
      clear hb4
      go_wp2
      go_ret
      exact ⟨rfl, B4.out⟩
    | true =>
      have hTP : TextP (⟨(putL (bodyT t)).toArray⟩ : ByteArray).data.toList (.yes t) := TextP.of (text_full (by have := HSZ.out; omega) htl)
      have hpl := text_sz HSZ.out
      have KX := Lib.hid (ptext_yes t c w1 (HI.out.up B1.out) (by have := HSZ.out; omega) htl (tab_on HTB.out B1.out))
      have hps : (⟨(putL (bodyT t)).toArray⟩ : ByteArray).size = (putL (bodyT t)).length := rfl
      generalize (⟨(putL (bodyT t)).toArray⟩ : ByteArray) = s at hTP KX hps
      have HPS : Hid (s.size ≤ 100000 ∧ s.size ≤ 64 * 250 + 5) := Lib.hid (by omega)
      have HTP := Lib.hid hTP
      have KB := Lib.hid (fun W h => ftext_any s HPS.out.1 W h)
      have hszu : ∀ u, TextP s.data.toList (.yes u) → sz u ≤ 900000 := fun u hu => by
        have h1 := textP_sz hu
        have h2 : s.data.toList.length = s.size := by simp
        have h3 := HPS.out
        omega
      have KN := Lib.hid (fun W h => panes_any s HPS.out.1 hszu W h)
      have KR := Lib.hid (fun (b n : Nat) (h0 : 0 < n) (h2 : n ≤ 2) (W : World) hc h3 h4 => round_any s HPS.out.1 (.yes t) (by have := HSZ.out; show sz t ≤ 999; omega) HTP.out b n h0 h2 W hc h3 h4)
      clear htl hTP hpl hps hszu
      generalize s.data.toList = S at HTP KB KN
      have n1 := eqlN
      go_wp2_with fail
      refine KX.out.mono ?_
      rintro e w2 ⟨rfl, hb2⟩
      have B2 := Lib.hid (B1.out.trans (hb2.mono B1.out.size))
      have C2 := Lib.hid (C1.out.up hb2)
      clear hb2 c0 c1 c2 c3 c4 c5 c6
      go_wp2_with fail
      refine (KB.out w2 (et_up HE.out B2.out)).mono ?_
      rintro e w3 ⟨o, d, v, rfl, hrel, hid, herr, hb3⟩
      obtain rfl : WR.yes t = o := HTP.out.one hrel
      rcases herr with ⟨-, -, rfl⟩ | ⟨h1, -⟩
      case inr => exact absurd rfl h1
      have hba : Below w3.heap.size w3 (w3.alloc (cbox d)) := (Below.refl _ _).alloc (Nat.le_refl _) _
      have hb34 := hb3.trans (hba.mono hb3.size)
      have B4 := Lib.hid (B2.out.trans (hb34.mono B2.out.size))
      have C4 := Lib.hid (C2.out.up hb34)
      have Y4 := Lib.hid (Box7.new w3 d)
      have J4 : Hid (Is (w3.alloc (cbox d)) d t) := Lib.hid (hid.up hba)
      clear hrel hid hb3 hba hb34
      go_upto_region 7 with (fail)
      change Code.wp _ _ _ _ (w3.alloc (cbox d))
      generalize w3.alloc (cbox d) = w4 at B4 C4 Y4 J4 ⊢
      generalize w3.heap.size = g3 at Y4 ⊢
      go_wp2_with fail
      refine (KN.out w4 (et_up HE.out B4.out)).mono ?_
      rintro e w5 ⟨o, hrel, rfl, hb5⟩
      obtain rfl : WR.yes t = o := HTP.out.one hrel
      have B5 := Lib.hid (B4.out.trans (hb5.mono B4.out.size))
      have C5 := Lib.hid (C4.out.up hb5)
      have Y5 := Lib.hid (Y4.out.up hb5)
      have J5 := Lib.hid (J4.out.up hb5)
      clear hrel hb5
      have hoT : oT (.yes t) = t := rfl
      have hoE : oE (.yes t) = 0 := rfl
      rw [hoT, hoE]
      clear hoT hoE
      generalize hln : (idsT t).length = ln
      have HLN := Lib.hid hln
      clear hln
      obtain ⟨c0, c1, c2, c3, c4, c5, c6⟩ := C5.out.cat
      simp only [Nat.zero_add] at c1 c2 c3 c4 c5 c6
      obtain ⟨e0, e1, e2, e3, e4, e5, e6⟩ := Y5.out.cat
      simp only [Nat.zero_add] at e1 e2 e3 e4 e5 e6
      go_wp2_with fail
      refine (sameO_any t c d w5 (HI.out.up B5.out) J5.out).mono ?_
      rintro e w6 ⟨rfl, hb6⟩
      have B6 := Lib.hid (B5.out.trans (hb6.mono B5.out.size))
      have C6 := Lib.hid (C5.out.up hb6)
      clear hb6 c0 c1 c2 c3 c4 c5 c6 e0 e1 e2 e3 e4 e5 e6
      obtain ⟨c0, c1, c2, c3, c4, c5, c6⟩ := C6.out.cat
      simp only [Nat.zero_add] at c1 c2 c3 c4 c5 c6
      have KI := Lib.hid (rids_any t c w6 (by have := HSZ.out; omega) (HI.out.up B6.out))
      go_wp2_with fail
      refine KI.out.mono ?_
      rintro e w7 ⟨v7, rfl, hown, hb7⟩
      have B7 := Lib.hid (B6.out.trans (hb7.mono B6.out.size))
      obtain ⟨a7, cap7, hv7, -, -⟩ := hown.row
      rw [ints_length, HLN.out] at hv7
      subst hv7
      clear hb7 hown c0 c1 c2 c3 c4 c5 c6
      have hba : Below w7.heap.size w7 (w7.alloc (.cells #[.string s] 9)) := (Below.refl _ _).alloc (Nat.le_refl _) _
      have B8 := Lib.hid (B7.out.trans (hba.mono B7.out.size))
      have KY := Lib.hid (KR.out w7.heap.size 1 (by omega) (by omega) (w7.alloc (.cells #[.string s] 9)) (one_str w7 s) (et_up HE.out B8.out) (tab_on HTB.out B8.out))
      clear hba
      go_wp2_with fail
      refine KY.out.mono ?_
      rintro e w9 ⟨rfl, hb9⟩
      have B9 := Lib.hid (B8.out.trans (hb9.mono B8.out.size))
      clear hb9
      go_wp2_with fail
      refine (awake11_any w9 (et_up HE.out B9.out)).mono ?_
      rintro e wc ⟨rfl, hbc⟩
      have Bc := Lib.hid (B9.out.trans (hbc.mono B9.out.size))
      clear hbc
      go_wp2
      go_ret
      exact ⟨rfl, Bc.out⟩
theorem parseBack_wf (v : Value) (t : T) (c : C) (w : World) (hv : v = cval c) (hi : Is w c t) (hs : sz t ≤ 1099511627776) (hg : Er.EtLaid w) (htab : Tab w) : Calls Tryz.prog 5 #[v] w fun e w' => e = .returned (.bool true) ∧ Below w.heap.size w w' := by
  subst hv
  exact parseBack_any t c w hi hs hg htab
end Go.Proofs.YtbelpnfgdjnpoaaGreatDoor
