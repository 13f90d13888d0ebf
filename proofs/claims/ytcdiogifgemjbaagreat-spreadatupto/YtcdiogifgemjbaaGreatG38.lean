/- Texts of this seat, 3 in one file. -/
import Derived.Test.YtcdiogifgemjbaaGreatG37
import Derived.Test.YtcdiogifgemjbaaGreatG22
import Derived.Test.YtcdiogifgemjbaaGreatG36
import Derived.Test.YtcdiogifgemjbaaGreatG26
/- shrink: what each of some kids loses. -/
namespace Go.Proofs.YtcdiogifgemjbaaGreat
open Go.RowKit Sh

abbrev box1 (v : Value) (t : TypeId) : Obj := .cells #[v] t
def BoxI1 (w : World) (b : Nat) (v : Value) (t : TypeId) : Prop := w.heap[b]? = some (box1 v t)
theorem BoxI1.up {w w' : World} {b : Nat} {v : Value} {t : TypeId} (h : BoxI1 w b v t) (hb : Below w.heap.size w w') : BoxI1 w' b v t := (hb.block b (lt_of_block h)).trans h
theorem BoxI1.cell {w : World} {b : Nat} {v : Value} {t : TypeId} (h : BoxI1 w b v t) : w.cell? ⟨b, 0, none⟩ = some v := by
  have h' : w.heap[b]? = some (box1 v t) := h
  simp [World.cell?, h']
theorem BoxI1.new (w : World) (v : Value) (t : TypeId) : BoxI1 (w.alloc (box1 v t)) w.heap.size v t := heap_alloc_new w _

def needB (need : Nat) (l : List Nat) (r : Nat) : Bool := decide (need < rs r l)
theorem lf_dec (need r : Nat) (l : List Nat) : decide (lfI r need (natI l) < 0) = needB need l r := by
  obtain ⟨h1, h2⟩ := lf_spec r l need
  unfold needB
  by_cases h : need < rs r l
  · rw [decide_eq_true h, decide_eq_true (h1 h)]
  · rw [decide_eq_false h, decide_eq_false (by rw [h2 (by omega)]; omega)]

set_option maxRecDepth 100000 in
theorem shr1_any (need : Nat) (l : List Nat) (v : Value) (b1 b2 i : Nat) (W : World) (h1 : BoxI1 W b1 (.int .i64 need) 3) (h2 : BoxI1 W b2 v 27) (hv : Row W v (ints (natI l))) (hg : goodN l) (hn : need ≤ 2147483647) (hi : i < 2147483647) (hl : l.length ≤ 1000000) :
    Calls Tryz.prog 103 #[.int .i64 i, .pointer (some ⟨b1, 0, none⟩), .pointer (some ⟨b2, 0, none⟩)] W fun e w' => e = .returned (.bool (needB need l (i + 1))) ∧ Below W.heap.size W w' := by
  have c1 := h1.cell
  have c2 := h2.cell
  have HC := Lib.hid (left_any (need : Int) ((i + 1 : Nat) : Int) v (natI l) W hv (goodI_of hg) (by omega) (by omega) (by rw [natI_length]; exact hl))
  have HD := Lib.hid (lf_dec need (i + 1) l)
  clear hv h1 h2
  have hi1 : ((i + 1 : Nat) : Int) = (i : Int) + 1 := by omega
  rw [hi1] at HC HD
  go_enter Tryz.func103, Tryz.ntmps103
  go_wp2_with fail
  refine HC.out.mono ?_
  rintro e w2 ⟨rfl, hw2⟩
  rw [hw2]
  clear hw2 w2
  go_wp2
  go_ret
  exact ⟨by rw [← HD.out]; rfl, Below.refl _ _⟩

def ShrSays (need : Nat) (l : List Nat) (w : World) (e : Ending) (w' : World) : Prop :=
  Below w.heap.size w w' ∧ ((need ≤ l.sum ∧ ∃ v m, e = .returned (.tuple #[v, .bool true]) ∧ (out (some l) l.length m).sum = need ∧ Row w' v (ints (negI (out (some l) l.length m)))) ∨ (l.sum < need ∧ e = .returned (.tuple #[.slice none 0 0, .bool false])))

theorem tk_yes {r lk a : Nat} {l : List Nat} (h1 : 0 < lk) (h2 : r < a) : tk r lk (a :: l) = (r + 1) :: tk r (lk - 1) l := by rw [tk, if_pos ⟨h1, h2⟩]
theorem tk_no {r lk a : Nat} {l : List Nat} (h : ¬ (0 < lk ∧ r < a)) : tk r lk (a :: l) = min a r :: tk r lk l := by rw [tk, if_neg h]

theorem snoc_neg (acc : List Nat) (a : Nat) (X : Int) (h : X = -(a : Int)) : ints (negI acc) ++ [Value.int .i64 X] = ints (negI (acc ++ [a])) := by
  subst h; simp [ints, negI]
set_option maxRecDepth 100000 in
theorem shrink_any (need : Nat) (l : List Nat) (v : Value) (w : World) (hv : Row w v (ints (natI l))) (hg : goodN l) (hn : need ≤ 2147483647) (hl : l.length ≤ 1000) :
    Calls Tryz.prog 94 #[.int .i64 need, v] w (ShrSays need l w) := by
  obtain ⟨a, cap, rfl⟩ := row_shape hv
  rw [natI_length] at hv ⊢
  obtain ⟨v, hvv⟩ : ∃ v, v = Value.slice a l.length cap := ⟨_, rfl⟩
  rw [← hvv] at hv
  have B0 : Hid (Below w.heap.size w ((w.alloc (box1 (.int .i64 need) 3)).alloc (box1 v 27))) := Lib.hid (((Below.refl _ _).alloc (Nat.le_refl _) _).alloc (by simp) _)
  have X0 : Hid (BoxI1 ((w.alloc (box1 (.int .i64 need) 3)).alloc (box1 v 27)) w.heap.size (.int .i64 need) 3) := Lib.hid ((BoxI1.new w _ _).up ((Below.refl _ _).alloc (Nat.le_refl _) _))
  have Y0 : Hid (BoxI1 ((w.alloc (box1 (.int .i64 need) 3)).alloc (box1 v 27)) (w.heap.size + 1) v 27) := Lib.hid (by
    have := BoxI1.new (w.alloc (box1 (.int .i64 need) 3)) v 27
    simpa using this)
  have HV := Lib.hid hv
  clear hv
  obtain ⟨M, hM⟩ : ∃ M : Nat, M = 2147483647 := ⟨_, rfl⟩
  have hMI : (M : Int) = 2147483647 := by omega
  have hgM : ∀ a ∈ l, a ≤ M := fun a ha => by have := hg a ha; omega
  have HC1 : Hid (∀ W, Below w.heap.size w W → Calls Tryz.prog 101 #[.int .i64 (need : Int), .int .i64 2147483647, v] W fun e w' => e = .returned (.int .i64 (lfI M need (natI l))) ∧ w' = W) := Lib.hid fun W hW => by
    rw [← hMI]
    exact left_any (need : Int) M v (natI l) W (HV.out.up hW) (goodI_of hg) (by omega) (by omega) (by rw [natI_length]; omega)
  have HSP := Lib.hid (lf_spec M l need)
  have HTOT := Lib.hid (rs_all hgM)
  have HSR : Hid (∀ W, Below w.heap.size w W → BoxI1 W w.heap.size (.int .i64 need) 3 → BoxI1 W (w.heap.size + 1) v 27 → Calls Tryz.prog 102 #[.int .i64 2147483647, .func (.func 103) #[] #[.pointer (some ⟨w.heap.size, 0, none⟩), .pointer (some ⟨w.heap.size + 1, 0, none⟩)]] W fun e w' => ∃ r : Nat, r ≤ M ∧ e = .returned (.int .i64 r) ∧ (r = 0 ∨ ¬ need < rs (r - 1 + 1) l) ∧ (r = M ∨ need < rs (r + 1) l) ∧ Below W.heap.size W w') := Lib.hid fun W hW hX hY => by
    rw [← hMI]
    refine (search_any M (by omega) (fun i => needB need l (i + 1)) _ _ W fun i W2 hi hW2 => shr1_any need l v w.heap.size (w.heap.size + 1) i W2 (hX.up hW2) (hY.up hW2) ((HV.out.up hW).up hW2) hg hn (by omega) (by omega)).mono ?_
    rintro e w' ⟨r, h1, h2, h3, h4, h5⟩
    exact ⟨r, h1, h2, h3.imp id (fun h => of_decide_eq_false h), h4.imp id (fun h => of_decide_eq_true h), h5⟩
  have HCR : Hid (∀ (r : Nat) W, r ≤ M → rs r l ≤ need → Below w.heap.size w W → Calls Tryz.prog 101 #[.int .i64 (need : Int), .int .i64 r, v] W fun e w' => e = .returned (.int .i64 ((need - rs r l : Nat) : Int)) ∧ w' = W) := Lib.hid fun r W hr hle hW => by
    refine (left_any (need : Int) r v (natI l) W (HV.out.up hW) (goodI_of hg) (by omega) (by omega) (by rw [natI_length]; omega)).mono ?_
    rintro e w' ⟨rfl, h⟩
    refine ⟨ret_int ?_, h⟩
    rw [(lf_spec r l need).2 hle]; omega
  have HGN := Lib.hid (show goodN l from hg)
  obtain ⟨lf, hlf⟩ : ∃ lf, lfI M (need : Int) (natI l) = lf := ⟨_, rfl⟩
  rw [hlf] at HC1 HSP
  have HMM := Lib.hid hM
  subst hvv
  clear hg hMI hlf hM hgM
  go_enter Tryz.func94, Tryz.ntmps94
  go_wp2_with fail
  refine (HC1.out _ B0.out).mono ?_
  rintro e w1 ⟨rfl, hw1⟩
  rw [hw1]
  clear hw1 w1
  generalize (w.alloc (box1 (.int .i64 need) 3)).alloc (box1 (.slice a l.length cap) 27) = W0 at B0 X0 Y0 ⊢
  by_cases htot : need ≤ l.sum
  · have hd : decide ((0 : Int) < lf) = false := by
      have h1 := HSP.out
      rw [HTOT.out] at h1
      rw [decide_eq_false_iff_not]
      by_cases h : need < l.sum
      · have := h1.1 h; omega
      · rw [h1.2 (by omega)]; omega
    go_wp2_with fail
    refine (HSR.out W0 B0.out X0.out Y0.out).mono ?_
    rintro e w2 ⟨r, hrM, rfl, hr1, hr2, hb2⟩
    have B2 := Lib.hid (B0.out.trans (hb2.mono B0.out.size))
    have X2 := Lib.hid (X0.out.up hb2)
    have Y2 := Lib.hid (Y0.out.up hb2)
    have hok := rounds_ok HGN.out hr1 (by rw [← HMM.out]; exact hr2) htot
    obtain ⟨last, hlast⟩ : ∃ last, need - rs r l = last := ⟨_, rfl⟩
    have HC3 := Lib.hid (HCR.out r w2 hrM hok.1 B2.out)
    rw [hlast] at HC3 hok
    have HLE := Lib.hid hok.2
    have HTS := Lib.hid (tk_sum r l last hok.2)
    have HTO := Lib.hid (tk_out r l last hok.2)
    have HLS := Lib.hid (show rs r l + last = need by omega)
    have hlb : last ≤ 2147483647 := by omega
    have hrb : r ≤ 2147483647 := by have := HMM.out; omega
    clear hb2 hr1 hr2 hok hlast hd HSR HCR HC1
    have x2 := X2.out.cell
    have y2 := Y2.out.cell
    go_wp2_with fail
    refine HC3.out.mono ?_
    rintro e w3 ⟨rfl, hw3⟩
    rw [hw3]
    clear hw3 w3
    go_wp2
    clear x2 y2
    go_loopg [7, 8, 24] (l.length + 1) (fun G vl vs i wr => ∃ (k lk : Nat) (acc : List Nat), G + k = l.length + 1 ∧ k ≤ l.length ∧ i = .int .i64 k ∧ vl = .int .i64 lk ∧ lk ≤ 2147483647 ∧ acc.length = k ∧ tk r last l = acc ++ tk r lk (l.drop k) ∧ wr.ownsRow w.heap.size 3 1 vs (ints (negI acc)).length (ints (negI acc)) ∧ Below w.heap.size w wr)
    case atStart => exact ⟨0, last, [], by omega, by omega, rfl, rfl, hlb, rfl, by simp, World.ownsRow_nil _ _ _ _, B2.out⟩
    case round =>
      obtain ⟨k, lk, acc, hG, hk, rfl, rfl, hlkb, hacc, htk, hown, hb⟩ := hrel
      have HG := Lib.hid hG
      have HAC := Lib.hid hacc
      have HTK := Lib.hid htk
      have HO := Lib.hid hown
      have HB := Lib.hid hb
      clear hG hacc htk hown hb
      by_cases hlt : k < l.length
      · have hlti : (k : Int) < (l.length : Int) := by omega
        obtain ⟨g, hg⟩ : ∃ g, l[k]? = some g := ⟨_, List.getElem?_eq_getElem hlt⟩
        obtain ⟨pb, po, rfl, hf⟩ := int_at HV.out (by rw [natI_length]; omega)
        have c0 := (HB.out.cell (lt_of_cell (hf k g (natI_get hg)))).trans (hf k g (natI_get hg))
        have hgb := HGN.out g (List.mem_of_getElem? hg)
        have HD := Lib.hid (drop_at hg)
        have HLN : Hid ((ints (negI acc)).length + 1 ≤ 1000000) := Lib.hid (by rw [ints_length, negI_length, HAC.out]; omega)
        clear hf hg
        obtain ⟨t0, ht0⟩ : ∃ t0 : Nat, min g r = t0 := ⟨_, rfl⟩
        have hmin : min (g : Int) (r : Int) = (t0 : Int) := by omega
        by_cases hc : 0 < lk ∧ r < g
        · obtain ⟨hc1, hc2⟩ := hc
          obtain rfl : r = t0 := by omega
          have d1 : decide ((0 : Int) < (lk : Int)) = true := decide_eq_true (by omega)
          have d2 : decide ((r : Int) < (g : Int)) = true := decide_eq_true (by omega)
          have HT2 := Lib.hid (show tk r last l = (acc ++ [r + 1]) ++ tk r (lk - 1) (l.drop (k + 1)) by rw [HTK.out, HD.out, tk_yes hc1 hc2]; simp)
          go_wp2_with (at_builtin; refine wpList_append_row rfl _ _ 27 rfl w.heap.size 3 (.int .i64 0) 8 Tryz.underlying27 infoI rfl _ _ (ints (negI acc)) [_] rfl (HO.out.alloc _) rfl (row_one _ _ _) (fun u hu => by rw [List.mem_singleton.1 hu]; rfl) HLN.out (by decide) w (HB.out.alloc HB.out.size _) (Nat.le_refl _) ?_; intro v' w3 hown3 hb3; have HO3 := Lib.hid hown3; have HB3 := Lib.hid hb3; clear hown3 hb3)
          go_wp2
          go_roundg (gk - 1)
          case measure => have := HG.out; omega
          case rel =>
            refine ⟨k + 1, lk - 1, acc ++ [r + 1], by have := HG.out; omega, by omega, by go_num, by congr 1; omega, by omega, by simp [HAC.out], HT2.out, ?_, HB3.out⟩
            have := HO3.out
            rw [snoc_neg acc (r + 1) _ (by omega)] at this
            exact this
        · have HT2 := Lib.hid (show tk r last l = (acc ++ [t0]) ++ tk r lk (l.drop (k + 1)) by rw [HTK.out, HD.out, tk_no hc, ht0]; simp)
          have hcase : lk = 0 ∨ (0 < lk ∧ g = t0) := by omega
          obtain ⟨L, HL⟩ : ∃ L, Hid (L = lk) := ⟨_, rfl⟩
          obtain ⟨T, HT⟩ : ∃ T, Hid (T = t0) := ⟨_, rfl⟩
          rw [← HL.out, ← HT.out] at HT2
          clear hc
          rcases hcase with rfl | ⟨d1, rfl⟩
          all_goals
            go_wp2_with (at_builtin; refine wpList_append_row rfl _ _ 27 rfl w.heap.size 3 (.int .i64 0) 8 Tryz.underlying27 infoI rfl _ _ (ints (negI acc)) [_] rfl (HO.out.alloc _) rfl (row_one _ _ _) (fun u hu => by rw [List.mem_singleton.1 hu]; rfl) HLN.out (by decide) w (HB.out.alloc HB.out.size _) (Nat.le_refl _) ?_; intro v' w3 hown3 hb3; have HO3 := Lib.hid hown3; have HB3 := Lib.hid hb3; clear hown3 hb3)
            go_wp2
            go_roundg (gk - 1)
            case measure => have := HG.out; omega
            case rel =>
              refine ⟨k + 1, L, acc ++ [T], by have := HG.out; omega, by omega, by go_num, by rw [HL.out]; try rfl, by have := HL.out; omega, by simp [HAC.out], HT2.out, ?_, HB3.out⟩
              have := HO3.out
              rw [snoc_neg acc T _ (by have := HT.out; omega)] at this
              exact this
      · obtain rfl : k = l.length := by omega
        have hkl : ((l.length : Int) < (l.length : Int)) = False := by simp
        have HEND := Lib.hid (show tk r last l = acc by have := HTK.out; rw [List.drop_length, tk, List.append_nil] at this; exact this)
        go_wp2
        go_ret2
        obtain ⟨m, hm⟩ := HTO.out
        refine ⟨HB.out, .inl ⟨htot, _, m, rfl, ?_, ?_⟩⟩
        · rw [← hm, HTS.out, HLS.out]
        · rw [← hm, HEND.out]
          exact Row.of_owns HO.out
  · have hd : decide ((0 : Int) < lf) = true := by
      have h1 := HSP.out
      rw [HTOT.out] at h1
      rw [decide_eq_true_eq, h1.2 (by omega)]
      omega
    go_wp2
    go_ret2
    exact ⟨B0.out, .inr ⟨by omega, rfl⟩⟩
end Go.Proofs.YtcdiogifgemjbaaGreat
/- Shares, the program's walk. -/
namespace Go.Proofs.YtcdiogifgemjbaaGreat
open Go.RowKit Sh

theorem row_nil (w : World) : Row w (.slice none 0 0) (ints []) := ⟨none, 0, rfl, fun _ => ⟨rfl, rfl⟩, fun x hx => by cases hx⟩
theorem sh_no {b : Int} {gs : List Int} {w w' : World} (hb : Below w.heap.size w w') (h : ¬ okS b gs) : ShSays b gs w (.returned (.tuple #[.slice none 0 0, .bool false])) w' := ⟨hb, .inr ⟨h, _, rfl, row_nil _⟩⟩

set_option maxRecDepth 100000 in
theorem shares_any (b : Int) (v : Value) (gs : List Int) (w : World) (hv : Row w v (ints gs)) (hb : fits b) (hl : gs.length ≤ 1000) :
    Calls Tryz.prog 86 #[.int .i64 b, v] w (ShSays b gs w) := by
  have HB := Lib.hid (Below.refl w.heap.size w)
  obtain ⟨hb1, hb2⟩ := hb
  obtain ⟨a, cap, rfl⟩ := row_shape hv
  have HV := Lib.hid hv
  clear hv
  by_cases h0 : gs.length = 0
  · have HN : Hid (¬ okS b gs) := Lib.hid fun h => h.1 (List.length_eq_zero_iff.1 h0)
    rw [h0]
    clear HV h0 hl
    go_enter Tryz.func86, Tryz.ntmps86
    go_wp2
    go_ret2
    exact sh_no HB.out HN.out
  have d0 : ((gs.length : Int) == 0) = false := by rw [beq_eq_false_iff_ne]; omega
  have hne : gs ≠ [] := fun h => h0 (by rw [h]; rfl)
  by_cases h1 : b < -2147483647
  · have d1 : decide (b < -2147483647) = true := decide_eq_true h1
    have HN : Hid (¬ okS b gs) := Lib.hid fun h => by have := h.2.2.1; omega
    go_enter Tryz.func86, Tryz.ntmps86
    go_wp2
    go_ret2
    exact sh_no HB.out HN.out
  have d1 : decide (b < -2147483647) = false := decide_eq_false h1
  by_cases h2 : 2147483647 < b
  · have d2 : decide (2147483647 < b) = true := decide_eq_true h2
    have HN : Hid (¬ okS b gs) := Lib.hid fun h => by have := h.2.2.2.1; omega
    go_enter Tryz.func86, Tryz.ntmps86
    go_wp2
    go_ret2
    exact sh_no HB.out HN.out
  have d2 : decide (2147483647 < b) = false := decide_eq_false h2
  have HC := Lib.hid (containsI_any _ gs w HV.out (by omega))
  cases hbad : anyBad gs with
  | true =>
    rw [hbad] at HC
    have HN : Hid (¬ okS b gs) := Lib.hid fun h => anyBad_yes hbad h.2.1
    clear hbad
    go_enter Tryz.func86, Tryz.ntmps86
    go_wp2_with fail
    refine HC.out.mono ?_
    rintro e w1 ⟨rfl, hw1⟩
    rw [hw1]
    clear hw1 w1
    go_wp2
    go_ret2
    exact sh_no HB.out HN.out
  | false =>
    rw [hbad] at HC
    have HGD := Lib.hid (anyBad_no hbad)
    clear hbad
    by_cases hneg : b < 0
    · have d3 : decide (b < 0) = true := decide_eq_true hneg
      obtain ⟨need, hneed⟩ : ∃ need : Nat, -b = (need : Int) := ⟨(-b).toNat, by omega⟩
      have HNT := Lib.hid (show (-b).toNat = need by omega)
      have HL := Lib.hid (show (gs.map Int.toNat).length = gs.length by simp)
      have HS := Lib.hid (shrink_any need (gs.map Int.toNat) (.slice a gs.length cap) w (by rw [← natI_of HGD.out]; exact HV.out) (goodN_of HGD.out) (by omega) (by rw [HL.out]; exact hl))
      have HNE := Lib.hid hne
      clear hne
      go_enter Tryz.func86, Tryz.ntmps86
      go_wp2_with fail
      refine HC.out.mono ?_
      rintro e w1 ⟨rfl, hw1⟩
      rw [hw1]
      clear hw1 w1
      go_wp2_with fail
      refine HS.out.mono ?_
      rintro e w2 ⟨hb3, hres⟩
      have HB3 := Lib.hid hb3
      clear hb3
      rcases hres with ⟨hle, v', m, rfl, hsum, hrow⟩ | ⟨hgt, rfl⟩
      · have HLE := Lib.hid hle
        have HSM := Lib.hid hsum
        have HRW := Lib.hid hrow
        clear hle hsum hrow
        go_wp2
        go_ret2
        refine ⟨HB3.out, .inl ⟨⟨HNE.out, HGD.out, by omega, by omega, fun _ => by rw [HNT.out]; exact HLE.out⟩, v', _, rfl, .inr ⟨hneg, m, rfl, ?_⟩, ?_⟩⟩
        · have := HSM.out; rw [HL.out] at this; rw [this, HNT.out]
        · have := HRW.out; rw [HL.out] at this; exact this
      · have HGT := Lib.hid hgt
        clear hgt
        go_wp2
        go_ret2
        exact sh_no HB3.out fun h => by have := h.2.2.2.2 hneg; rw [HNT.out] at this; have := HGT.out; omega
    · have d3 : decide (b < 0) = false := decide_eq_false hneg
      obtain ⟨m, rfl⟩ : ∃ m : Nat, b = (m : Int) := ⟨b.toNat, by omega⟩
      have HS := Lib.hid (grow_any m gs.length w (by omega) (by omega) (by omega))
      have HNE := Lib.hid hne
      clear hne
      go_enter Tryz.func86, Tryz.ntmps86
      go_wp2_with fail
      refine HC.out.mono ?_
      rintro e w1 ⟨rfl, hw1⟩
      rw [hw1]
      clear hw1 w1
      go_wp2_with fail
      refine HS.out.mono ?_
      rintro e w2 ⟨g, rfl, hgw, hblk, hb3⟩
      have HB3 := Lib.hid hb3
      have HBK := Lib.hid hblk
      clear hb3 hblk
      go_wp2
      go_ret2
      refine ⟨HB3.out, .inl ⟨⟨HNE.out, HGD.out, by omega, by omega, fun h => by omega⟩, _, natI (out none gs.length m), rfl, .inl ⟨by omega, by simp⟩, ?_⟩⟩
      exact HBK.out.row _ _ (by rw [natI_length, out_len])
end Go.Proofs.YtcdiogifgemjbaaGreat
/- How much each kid of a giver is asked for. -/
namespace Go.Proofs.YtcdiogifgemjbaaGreat
open Go.RowKit Sh

/-- A row of numbers, one for each kid. -/
def GsSays (ax b : Int) (t : T) (w : World) (e : Ending) (w' : World) : Prop :=
  (alB t.k ax = true → ∃ l, ShIs b (t.kids.map (gvT ax)) l) ∧ ∃ v l, e = .returned v ∧ Row w' v (ints l) ∧ l.length = t.kids.length ∧ (∀ j, j < t.kids.length → l[j]? = some (shF t.k ax b (t.kids.map (gvT ax)) j)) ∧ Below w.heap.size w w'
theorem gs_flat {ax b : Int} {t : T} {w w' : World} {v : Value} (ha : alB t.k ax = false) (hr : Row w' v (ints (List.replicate t.kids.length b))) (hb : Below w.heap.size w w') : GsSays ax b t w (.returned v) w' := by
  refine ⟨(fun h => by rw [ha] at h; cases h), v, _, rfl, hr, by simp, (fun j hj => ?_), hb⟩
  rw [List.getElem?_replicate, if_pos hj]
  unfold shF
  rw [if_neg (by rw [ha]; decide)]
theorem gs_along {ax b : Int} {t : T} {w w' : World} {v : Value} {l : List Int} (ha : alB t.k ax = true) (hl : ShIs b (t.kids.map (gvT ax)) l) (hr : Row w' v (ints l)) (hb : Below w.heap.size w w') : GsSays ax b t w (.returned v) w' := by
  have hlen : l.length = t.kids.length := by rw [hl.len, List.length_map]
  refine ⟨(fun _ => ⟨l, hl⟩), v, l, rfl, hr, hlen, (fun j hj => ?_), hb⟩
  have hj' : j < l.length := by omega
  unfold shF
  rw [if_pos ha, shL_of hl, List.getD_eq_getElem?_getD, List.getElem?_eq_getElem hj']
  rfl
/-- A giver whose kids are those of a tree. -/
def GsIn (w : World) (ax : Int) (x : G) (t : T) : Prop := t.k = x.c.k ∧ (x.c.a = none ∧ x.c.n = 0 ∧ x.c.cap = 0) ∧ ∃ gs, GRow w (.slice x.a x.n x.cap) gs ∧ gs.length = t.kids.length ∧ x.n = t.kids.length ∧ ∀ (j : Nat) (y : G) (u : T), gs[j]? = some y → t.kids[j]? = some u → y.g = gvT ax u
set_option maxHeartbeats 4000000 in
set_option maxRecDepth 100000 in
theorem gshares_any (ax b : Int) (hax : ax = 1 ∨ ax = 2) (t : T) (x : G) (w : World) (hm : sz t ≤ 990) (ht : tileB t = true) (hb : canB ax b t) (hi : GsIn w ax x t) : Calls Tryz.prog 70 #[gval x, .int .u8 ax, .int .i64 b] w (GsSays ax b t w) := by
  have hfn : t.kids.length ≤ 990 := by have := sz_node t; have := szL_len t.kids; omega
  have hbf : fits b := by unfold canB at hb; have := (gv_bounds hax (show sz t ≤ 20000 by omega) ht).2; unfold fits; omega
  have HBF := Lib.hid hbf
  have HOK : Hid (alB t.k ax = true → okS b (t.kids.map (gvT ax))) := Lib.hid fun h => can_ok hax (by omega) ht hb h
  obtain ⟨e1, ⟨h1, h2, h3⟩, gs, hrow, hlen, hn, heach⟩ := hi
  obtain ⟨⟨ck, cr, cid, ca, cn, ccap⟩, xg, xa, xn, xcap⟩ := x
  simp only at e1 h1 h2 h3 hn
  subst h1 h2 h3 hn
  have HROW := Lib.hid hrow
  have HLEN := Lib.hid hlen
  have HGV : Hid (∀ (j : Nat) (y : G) (u : T), gs[j]? = some y → t.kids[j]? = some u → y.g = gvT ax u) := Lib.hid heach
  have HK := Lib.hid e1
  clear hb hbf ht hrow hlen heach
  have BX : Hid (Box9 (w.alloc (gbox ⟨⟨ck, cr, cid, none, 0, 0⟩, xg, xa, t.kids.length, xcap⟩)) w.heap.size ⟨⟨ck, cr, cid, none, 0, 0⟩, xg, xa, t.kids.length, xcap⟩) := Lib.hid (Box9.new w _)
  have B1 : Hid (Below w.heap.size w (w.alloc (gbox ⟨⟨ck, cr, cid, none, 0, 0⟩, xg, xa, t.kids.length, xcap⟩))) := Lib.hid ((Below.refl _ _).alloc (Nat.le_refl _) _)
  have HAL := Lib.hid (fun W => along8_any ⟨ck, cr, cid, none, 0, 0⟩ ax W)
  go_enter Tryz.func70, Tryz.ntmps70
  go_wp2_with fail
  refine (HAL.out _).mono ?_
  rintro e w2 ⟨rfl, hb2⟩
  have B2 := Lib.hid (B1.out.trans (hb2.mono B1.out.size))
  have BX2 := Lib.hid (BX.out.up hb2)
  clear hb2
  obtain ⟨⟨s0, s1, s2, s3, s4, s5, s6, s7, s8⟩, -⟩ := g9_parts BX2.out
  cases hal : alB ck ax with
  | false =>
    have hba : Below w2.heap.size w2 (w2.alloc (.cells #[.int .i64 b] 3)) := (Below.refl _ _).alloc (Nat.le_refl _) _
    have HR1 := Lib.hid (row_one w2 (.int .i64 b) 3)
    have B3 := Lib.hid (B2.out.trans (hba.mono B2.out.size))
    obtain ⟨⟨t0, t1, t2, t3, t4, t5, t6, t7, t8⟩, -⟩ := g9_parts (BX2.out.up hba)
    clear hba
    have hak : alB t.k ax = false := by rw [HK.out]; exact hal
    have HAK := Lib.hid hak
    clear hak
    rcases Nat.eq_zero_or_pos t.kids.length with h0 | h0
    · rw [h0] at s8 t8
      rw [h0]
      go_wp2_with fail
      refine (repeat_zero b _ _ HR1.out).mono ?_
      rintro e w4 ⟨rfl, hb4⟩
      have B4 := Lib.hid (B3.out.trans (hb4.mono B3.out.size))
      have HR4 : Hid (Row w4 (.slice (some ⟨(w2.alloc (.cells #[.int .i64 b] 3)).heap.size, 0, none⟩) 0 0) (ints (List.replicate t.kids.length b))) := Lib.hid (by
        rw [h0]
        exact ⟨some ⟨_, 0, none⟩, 0, rfl, (fun h => by cases h), fun x hx j u hu => by simp [ints] at hu⟩)
      clear hb4
      go_wp2
      go_ret
      exact gs_flat HAK.out (by simpa using HR4.out) B4.out
    · have HREP := Lib.hid (fun W v (hv : Row W v (ints [b])) => repeat_any b t.kids.length v W hv h0 (by omega))
      go_wp2_with fail
      refine (HREP.out _ _ HR1.out).mono ?_
      rintro e w4 ⟨g4, rfl, -, hblk, hb4⟩
      have B4 := Lib.hid (B3.out.trans (hb4.mono B3.out.size))
      have HR4 := Lib.hid (hblk.row t.kids.length t.kids.length (by simp))
      clear hblk hb4
      go_wp2
      go_ret
      exact gs_flat HAK.out (by simpa using HR4.out) B4.out
  | true =>
    have hak : alB t.k ax = true := by rw [HK.out]; exact hal
    have hok := HOK.out hak
    have HAK := Lib.hid hak
    clear hak
    go_wp2
    go_loopg [7, 26] (t.kids.length + 1) (fun g v i wr => ∃ (k : Nat), g + k = t.kids.length + 1 ∧ k ≤ t.kids.length ∧ i = .int .i64 k ∧ OwnI wr w2.heap.size v ((t.kids.take k).map (gvT ax)) ∧ Below w2.heap.size w2 wr)
    case atStart => exact ⟨0, by omega, by omega, rfl, by simpa using OwnI.nil w2 w2.heap.size, Below.refl _ _⟩
    case round =>
      clear s0 s1 s2 s3 s4 s5 s6 s7 s8
      obtain ⟨k, hg, hk, rfl, hown, hb⟩ := hrel
      have HG := Lib.hid hg
      have HO := Lib.hid hown
      have HB := Lib.hid hb
      clear hg hown hb
      have HBW := Lib.hid (B2.out.trans (HB.out.mono B2.out.size))
      by_cases hlt : k < t.kids.length
      · have hlti : (k : Int) < (t.kids.length : Int) := by omega
        obtain ⟨b3, o3, rfl, hf⟩ := HROW.out.place (by rw [HLEN.out]; omega)
        obtain ⟨u, hu⟩ : ∃ u, t.kids[k]? = some u := ⟨_, List.getElem?_eq_getElem hlt⟩
        obtain ⟨y, hy⟩ : ∃ y, gs[k]? = some y := ⟨_, List.getElem?_eq_getElem (by rw [HLEN.out]; exact hlt)⟩
        have HYG := Lib.hid (HGV.out k y u hy hu)
        have HTAKE := Lib.hid (show (t.kids.take (k + 1)).map (gvT ax) = (t.kids.take k).map (gvT ax) ++ [y.g] by rw [take_snoc hu, List.map_append, HYG.out]; rfl)
        obtain ⟨c0, c1, c2, c3, c4, c5, c6, c7, c8⟩ := g9_up (hf k y hy) HBW.out
        have HAA : Hid (Below wr.heap.size wr ((wr.alloc (gbox y)).alloc (.cells #[.int .i64 y.g] 3))) := Lib.hid (((Below.refl _ _).alloc (Nat.le_refl _) _).alloc (by simp) _)
        have HR1 := Lib.hid (row_one (wr.alloc (gbox y)) (.int .i64 y.g) 3)
        have HCL : Hid (((t.kids.take k).map (gvT ax)).length + [y.g].length ≤ 1954687338211) := Lib.hid (by simp; omega)
        have HWI : Hid ((wr.alloc (gbox y)).heap.size = wr.heap.size + 1) := Lib.hid (by simp)
        rw [HWI.out] at HR1
        clear hf hu hy
        go_wp2_with (at_builtin; refine wpList_append_ints rfl _ _ rfl w2.heap.size u7 _ ((t.kids.take k).map (gvT ax)) [y.g] rfl (HO.out.up HAA.out) rfl HR1.out (by simp) HCL.out w2 (HB.out.trans (HAA.out.mono HB.out.size)) (Nat.le_refl _) ?_; intro g6 cap6 w6 hown6 hb6 hgr6 hpl6)
        have O6 := Lib.hid hown6
        have B6 := Lib.hid hb6
        clear hown6 hb6 hgr6 hpl6
        go_wp2
        go_roundg (gk - 1)
        case measure => have := HG.out; omega
        case rel =>
          refine ⟨k + 1, by have := HG.out; omega, by omega, by go_num, ?_, B6.out⟩
          rw [HTAKE.out]
          have hmin : min k t.kids.length = k := by omega
          have h6 := O6.out
          simp only [List.length_append, List.length_map, List.length_take, hmin, List.length_cons, List.length_nil] at h6
          simpa [hmin] using h6
      · obtain rfl : k = t.kids.length := by omega
        have hkl : ((t.kids.length : Int) < (t.kids.length : Int)) = False := by simp
        have HO1 : Hid (OwnI wr w2.heap.size u7 (t.kids.map (gvT ax))) := Lib.hid (by have := HO.out; rw [List.take_length] at this; exact this)
        have HSH := Lib.hid (shares_any b u7 (t.kids.map (gvT ax)) wr HO1.out.row HBF.out (by rw [List.length_map]; omega))
        go_wp2_with fail
        refine HSH.out.mono ?_
        rintro e w4 ⟨hb4, hcase⟩
        rcases hcase with ⟨-, v4, l4, rfl, hl4, hrow4⟩ | ⟨hno, -⟩
        · have HL4 := Lib.hid hl4
          have HR4 := Lib.hid hrow4
          have B4 := Lib.hid (HBW.out.trans (hb4.mono HBW.out.size))
          clear hl4 hrow4 hb4
          go_wp2
          go_ret
          exact gs_along HAK.out HL4.out HR4.out B4.out
        · exact absurd hok hno
end Go.Proofs.YtcdiogifgemjbaaGreat
