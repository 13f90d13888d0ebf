/- Texts of this seat, 3 in one file. -/
import Derived.Test.YtbelpnfgdjnpoaaGreatDoorG30
import Derived.Test.YtbelpnfgdjnpoaaGreatDoorG05
import Derived.Test.YtbelpnfgdjnpoaaGreatDoorG06
/- The law ParseBodies. -/
namespace Go.Proofs.YtbelpnfgdjnpoaaGreatDoor
open Go.RowKit
open Sash.Sum (cutE cutX putL putL_len)

def WR.on (o : WR) : WR := match o with
  | .no e p => .no e (p + further e)
  | .yes t => .yes t
theorem on_T (o : WR) : oT o.on = oT o := by cases o <;> rfl
theorem on_E (o : WR) : oE o.on = oE o := by cases o <;> rfl
theorem on_P (o : WR) : oP o.on = oP o + (if oE o = 2 ∨ oE o = 3 then 5 else 0) := by
  cases o with
  | no e p => rfl
  | yes t => simp [WR.on, oP, oE]
theorem body_place {S : List UInt8} {o : WR} (h : BodyR S o) : 0 ≤ oP o ∧ oP o ≤ (S.length : Int) := by
  cases o with
  | yes t => simp [oP]
  | no e p =>
    simp only [oP]
    rcases h with ⟨-, -, rfl⟩ | ⟨-, h⟩
    · omega
    · rcases h with ⟨x, h1, rfl⟩ | ⟨l, x, -, h2, -, rfl⟩ | ⟨t, -, -, -, rfl⟩ | ⟨t, -, -, -, -, rfl⟩
      · have := h1.place (Nat.zero_le _); omega
      · omega
      · omega
      · omega
theorem put_on {S : List UInt8} (hl : S.length ≤ 65530) {o : WR} (h : BodyR S o) : TextP (putL S) o.on := by
  obtain ⟨h1, h2⟩ := put_text hl
  cases o with
  | no e p => exact TextP.of (h1 e p h)
  | yes t => exact TextP.of (h2 t h)

set_option maxRecDepth 100000 in
set_option maxHeartbeats 4000000 in
theorem parseBodies_any (s : ByteArray) (w : World) (hg : Er.EtLaid w) : Calls Tryz.prog 4 #[.string s] w fun e w' => e = .returned (.bool true) ∧ Below w.heap.size w w' := by
  have HE := Lib.hid hg
  by_cases hl : 3000 < s.size
  · have q1 : decide ((3000 : Int) < (s.size : Int)) = true := decide_eq_true (by omega)
    have q2 : decide (3000 < s.size) = true := decide_eq_true hl
    have q3 : (3000 < s.size) = True := eq_true hl
    clear hg
    go_enter Tryz.func4, Tryz.ntmps4
    go_wp2_with fail
    refine (awake11_any w HE.out).mono ?_
    rintro e w1 ⟨rfl, hb1⟩
    have B1 := Lib.hid hb1
    clear hb1
    go_wp2
    go_ret
    exact ⟨rfl, B1.out⟩
  · have q1 : decide ((3000 : Int) < (s.size : Int)) = false := decide_eq_false (by omega)
    have q2 : decide (3000 < s.size) = false := decide_eq_false hl
    have q3 : (3000 < s.size) = False := eq_false hl
    have hSL : s.data.toList.length = s.size := by simp
    have KB := Lib.hid (fbody_any s (by omega) w hg)
    have KD := Lib.hid (fun W => dbody_any s W (by omega))
    have KP := Lib.hid (fun W => refPut_any s W (by omega))
    have KT : Hid (∀ W, Er.EtLaid W → Calls Tryz.prog 9 #[.string ⟨(putL s.data.toList).toArray⟩] W (FcSays (TextP (putL s.data.toList)) W)) := Lib.hid (fun W h => ftext_any ⟨(putL s.data.toList).toArray⟩ (by show (putL s.data.toList).length ≤ 100000; rw [putL_len]; omega) W h)
    have HBP : Hid (∀ o, BodyR s.data.toList o → 0 ≤ oP o ∧ oP o ≤ 3000) := Lib.hid (fun o h => by have := body_place h; omega)
    have HPO : Hid (∀ o, BodyR s.data.toList o → TextP (putL s.data.toList) o.on) := Lib.hid (fun o h => put_on (by omega) h)
    clear hg hSL
    generalize s.data.toList = S at KB KD KP KT HPO HBP
    generalize (⟨(putL S).toArray⟩ : ByteArray) = ps at KP KT
    go_enter Tryz.func4, Tryz.ntmps4
    go_wp2_with fail
    refine KB.out.mono ?_
    rintro e w1 ⟨o, d, v, rfl, hrel, hi, herr, hb1⟩
    have hba : Below w1.heap.size w1 (w1.alloc (cbox d)) := (Below.refl _ _).alloc (Nat.le_refl _) _
    have HR1 := Lib.hid hrel
    have B2 : Hid (Below w.heap.size w (w1.alloc (cbox d))) := Lib.hid (hb1.alloc hb1.size _)
    have X2 := Lib.hid (Box7.new w1 d)
    have V2 := Lib.hid (herr.up hba)
    have I2 := Lib.hid (hi.up hba)
    clear hrel hi herr hb1 hba
    go_upto_region 4 with (fail)
    change Code.wp _ _ _ _ (w1.alloc (cbox d))
    generalize w1.alloc (cbox d) = w2 at B2 X2 V2 I2 ⊢
    generalize w1.heap.size = g1 at X2 ⊢
    go_wp2_with fail
    refine (KD.out w2).mono ?_
    rintro e w3 ⟨o2, d2, rfl, hrel, hi, hb3⟩
    obtain rfl : o = o2 := HR1.out.one (BodyP.of hrel)
    have hba : Below w3.heap.size w3 (w3.alloc (cbox d2)) := (Below.refl _ _).alloc (Nat.le_refl _) _
    have hb34 := hb3.trans (hba.mono hb3.size)
    have HR3 := Lib.hid (HPO.out o hrel)
    have HPB := Lib.hid (HBP.out o hrel)
    have B4 := Lib.hid (B2.out.trans (hb34.mono B2.out.size))
    have X4 := Lib.hid (X2.out.up hb34)
    have V4 := Lib.hid (V2.out.up hb34)
    have I4 := Lib.hid (I2.out.up hb34)
    have Y4 := Lib.hid (Box7.new w3 d2)
    have J4 := Lib.hid (hi.up hba)
    clear hrel hi hb3 hba hb34 B2 X2 V2 I2
    go_upto_region 5 with (fail)
    change Code.wp _ _ _ _ (w3.alloc (cbox d2))
    generalize w3.alloc (cbox d2) = w4 at B4 X4 V4 I4 Y4 J4 ⊢
    generalize w3.heap.size = g3 at Y4 ⊢
    go_wp2_with fail
    refine (KP.out w4).mono ?_
    rintro e w5 ⟨rfl, rfl⟩
    go_wp2_with fail
    refine (KT.out w4 (et_up HE.out B4.out)).mono ?_
    rintro e w5 ⟨o3, d3, v3, rfl, hrel, hi, herr, hb5⟩
    obtain rfl : o.on = o3 := HR3.out.one hrel
    have hba : Below w5.heap.size w5 (w5.alloc (cbox d3)) := (Below.refl _ _).alloc (Nat.le_refl _) _
    have hb56 := hb5.trans (hba.mono hb5.size)
    have B6 := Lib.hid (B4.out.trans (hb56.mono B4.out.size))
    have X6 := Lib.hid (X4.out.up hb56)
    have V6 := Lib.hid (V4.out.up hb56)
    have I6 := Lib.hid (I4.out.up hb56)
    have Y6 := Lib.hid (Y4.out.up hb56)
    have J6 := Lib.hid (J4.out.up hb56)
    have Z6 := Lib.hid (Box7.new w5 d3)
    have K6 : Hid (Is (w5.alloc (cbox d3)) d3 (oT o)) := Lib.hid (by have := hi.up hba; rw [on_T] at this; exact this)
    have U6 := Lib.hid (herr.up hba)
    clear hrel hi herr hb5 hba hb56 B4 X4 V4 I4 Y4 J4
    go_upto_region 6 with (fail)
    change Code.wp _ _ _ _ (w5.alloc (cbox d3))
    generalize w5.alloc (cbox d3) = w6 at B6 X6 V6 I6 Y6 J6 Z6 K6 U6 ⊢
    generalize w5.heap.size = g5 at Z6 ⊢
    have KO := Lib.hid (told_any v o w6 V6.out (et_up HE.out B6.out))
    have HOE := Lib.hid (on_E o)
    have HOP := Lib.hid (on_P o)
    generalize hoe : oE o = oe at KO HOE HOP ⊢
    generalize hop : oP o = op at KO HOP HPB ⊢
    have HOEE := Lib.hid hoe
    have HOPP := Lib.hid hop
    clear hoe hop
    go_wp2_with fail
    refine KO.out.mono ?_
    rintro e w7 ⟨rfl, hb7⟩
    have B7 := Lib.hid (B6.out.trans (hb7.mono B6.out.size))
    have X7 := Lib.hid (X6.out.up hb7)
    have Y7 := Lib.hid (Y6.out.up hb7)
    have Z7 := Lib.hid (Z6.out.up hb7)
    have I7 := Lib.hid (I6.out.up hb7)
    have J7 := Lib.hid (J6.out.up hb7)
    have K7 := Lib.hid (K6.out.up hb7)
    have U7 := Lib.hid (U6.out.up hb7)
    clear hb7
    obtain ⟨c0, c1, c2, c3, c4, c5, c6⟩ := X7.out.cat
    simp only [Nat.zero_add] at c1 c2 c3 c4 c5 c6
    obtain ⟨e0, e1, e2, e3, e4, e5, e6⟩ := Y7.out.cat
    simp only [Nat.zero_add] at e1 e2 e3 e4 e5 e6
    go_wp2_with fail
    refine (sameO_any (oT o) d d2 w7 I7.out J7.out).mono ?_
    rintro e w8 ⟨rfl, hb8⟩
    clear c0 c1 c2 c3 c4 c5 c6 e0 e1 e2 e3 e4 e5 e6
    have B8 := Lib.hid (B7.out.trans (hb8.mono B7.out.size))
    have X8 := Lib.hid (X7.out.up hb8)
    have Z8 := Lib.hid (Z7.out.up hb8)
    have I8 := Lib.hid (I7.out.up hb8)
    have K8 := Lib.hid (K7.out.up hb8)
    have U8 := Lib.hid (U7.out.up hb8)
    clear hb8
    obtain ⟨c0, c1, c2, c3, c4, c5, c6⟩ := X8.out.cat
    simp only [Nat.zero_add] at c1 c2 c3 c4 c5 c6
    obtain ⟨e0, e1, e2, e3, e4, e5, e6⟩ := Z8.out.cat
    simp only [Nat.zero_add] at e1 e2 e3 e4 e5 e6
    go_wp2_with fail
    refine (sameO_any (oT o) d d3 w8 I8.out K8.out).mono ?_
    rintro e w9 ⟨rfl, hb9⟩
    clear c0 c1 c2 c3 c4 c5 c6 e0 e1 e2 e3 e4 e5 e6
    have B9 := Lib.hid (B8.out.trans (hb9.mono B8.out.size))
    have U9 := Lib.hid (U8.out.up hb9)
    clear hb9
    have KO2 := Lib.hid (told_any v3 o.on w9 U9.out (et_up HE.out B9.out))
    rw [HOE.out, HOP.out] at KO2
    by_cases h2 : oe = 2
    · have p2 : (oe == 2) = true := by simp [h2]
      have KO3 : Hid (∀ n : Int, n = op + 5 → Calls Tryz.prog 11 #[v3, .int .i64 oe, .int .i64 n] w9 fun e w' => e = .returned (.bool true) ∧ Below w9.heap.size w9 w') := Lib.hid (fun n hn => by rw [hn]; have := KO2.out; rw [if_pos (.inl h2)] at this; exact this)
      clear h2 KO2
      go_wp2_with fail
      refine (KO3.out _ (by have := HPB.out; unfold wrap64; omega)).mono ?_
      rintro e wa ⟨rfl, hba⟩
      have Ba := Lib.hid (B9.out.trans (hba.mono B9.out.size))
      clear hba
      go_wp2_with fail
      refine (awake11_any wa (et_up HE.out Ba.out)).mono ?_
      rintro e wb ⟨rfl, hbb⟩
      have Bb := Lib.hid (Ba.out.trans (hbb.mono Ba.out.size))
      clear hbb
      go_wp2
      go_ret
      exact ⟨rfl, Bb.out⟩
    · have p2 : (oe == 2) = false := by simp [h2]
      by_cases h3 : oe = 3
      · have p3 : (oe == 3) = true := by simp [h3]
        have KO3 : Hid (∀ n : Int, n = op + 5 → Calls Tryz.prog 11 #[v3, .int .i64 oe, .int .i64 n] w9 fun e w' => e = .returned (.bool true) ∧ Below w9.heap.size w9 w') := Lib.hid (fun n hn => by rw [hn]; have := KO2.out; rw [if_pos (.inr h3)] at this; exact this)
        clear h2 h3 KO2
        go_wp2_with fail
        refine (KO3.out _ (by have := HPB.out; unfold wrap64; omega)).mono ?_
        rintro e wa ⟨rfl, hba⟩
        have Ba := Lib.hid (B9.out.trans (hba.mono B9.out.size))
        clear hba
        go_wp2_with fail
        refine (awake11_any wa (et_up HE.out Ba.out)).mono ?_
        rintro e wb ⟨rfl, hbb⟩
        have Bb := Lib.hid (Ba.out.trans (hbb.mono Ba.out.size))
        clear hbb
        go_wp2
        go_ret
        exact ⟨rfl, Bb.out⟩
      · have p3 : (oe == 3) = false := by simp [h3]
        have KO3 : Hid (∀ n : Int, n = op → Calls Tryz.prog 11 #[v3, .int .i64 oe, .int .i64 n] w9 fun e w' => e = .returned (.bool true) ∧ Below w9.heap.size w9 w') := Lib.hid (fun n hn => by rw [hn]; have := KO2.out; rw [if_neg (by omega), Int.add_zero] at this; exact this)
        clear h2 h3 KO2
        go_wp2_with fail
        refine (KO3.out _ (by have := HPB.out; first | rfl | (unfold wrap64; omega))).mono ?_
        rintro e wa ⟨rfl, hba⟩
        have Ba := Lib.hid (B9.out.trans (hba.mono B9.out.size))
        clear hba
        go_wp2_with fail
        refine (awake11_any wa (et_up HE.out Ba.out)).mono ?_
        rintro e wb ⟨rfl, hbb⟩
        have Bb := Lib.hid (Ba.out.trans (hbb.mono Ba.out.size))
        clear hbb
        go_wp2
        go_ret
        exact ⟨rfl, Bb.out⟩
end Go.Proofs.YtbelpnfgdjnpoaaGreatDoor
/- The law's own digits of a number. -/
namespace Go.Proofs.YtbelpnfgdjnpoaaGreatDoor
open Go.RowKit Sash.Num

theorem conv1 (w : World) (a : UInt8) :
    (convert 73 9 (.slice (some ⟨w.heap.size, 0, none⟩) 1 1)).run Tryz.prog (w.alloc (.cells #[.int .u8 (a.toNat : Int)] 5)) = .ok (.string ⟨#[a]⟩) (w.alloc (.cells #[.int .u8 (a.toNat : Int)] 5)) :=
  run_convert_bytes_back _ 73 9 5 ⟨w.heap.size, 0, none⟩ 1 [a] Tryz.underlying73 Tryz.underlying5 Tryz.underlying9 (fun j hj => by
    match j, hj with
    | 0, _ => simp [Addr.add_lit])
set_option maxRecDepth 100000 in
theorem ldigits_any (N : Nat) : ∀ (n : Nat) (w : World), n < N → n ≤ 2147483647 → Calls Tryz.prog 23 #[.int .i64 (n : Int)] w fun e w' => e = .returned (.string ⟨(dig (n : Int)).toArray⟩) ∧ Below w.heap.size w w' := by
  induction N with
  | zero => intro n w h; omega
  | succ N ih =>
    intro n w hN hn
    have hd : dig (n : Int) = Lib.decDigits n := by unfold dig; rw [if_neg (by omega)]; simp
    have hc : ((hexc (n % 10)).toNat : Int) = 48 + (n : Int) % 10 := by
      have : (hexc (n % 10)).toNat = 48 + n % 10 := by
        have h := Nat.mod_lt n (show 0 < 10 by decide)
        generalize n % 10 = m at h
        match m, h with
        | 0, _ => rfl
        | 1, _ => rfl
        | 2, _ => rfl
        | 3, _ => rfl
        | 4, _ => rfl
        | 5, _ => rfl
        | 6, _ => rfl
        | 7, _ => rfl
        | 8, _ => rfl
        | 9, _ => rfl
      omega
    have hcv := conv1 w (hexc (n % 10))
    rw [hc] at hcv
    have BB : Hid (Below w.heap.size w (w.alloc (.cells #[.int .u8 (48 + (n : Int) % 10)] 5))) := Lib.hid ((Below.refl _ _).alloc (Nat.le_refl _) _)
    have hb1 : (0 : Int) ≤ 48 + (n : Int) % 10 := by omega
    have hb2 : 48 + (n : Int) % 10 ≤ 57 := by omega
    clear hc
    by_cases hs : n < 10
    · have HE := Lib.hid (show dig (n : Int) = [hexc (n % 10)] by rw [hd, dec_small n hs, Nat.mod_eq_of_lt hs])
      have q1 : decide ((n : Int) < 10) = true := decide_eq_true (by omega)
      have q2 : decide (n < 10) = true := decide_eq_true hs
      have q3 : (n < 10) = True := eq_true hs
      clear hd
      go_enter Tryz.func23, Tryz.ntmps23
      go_wp2
      go_ret
      exact ⟨ret_str (by rw [HE.out]), BB.out⟩
    · have HE := Lib.hid (show dig (n : Int) = dig ((n / 10 : Nat) : Int) ++ [hexc (n % 10)] by
        have h2 : dig ((n / 10 : Nat) : Int) = Lib.decDigits (n / 10) := by unfold dig; rw [if_neg (by omega), Int.toNat_natCast]
        rw [hd, h2, dec_big n hs])
      have q1 : decide ((n : Int) < 10) = false := decide_eq_false (by omega)
      have q2 : decide (n < 10) = false := decide_eq_false hs
      have q3 : (n < 10) = False := eq_false hs
      have HK := Lib.hid (fun W => ih (n / 10) W (by omega) (by omega))
      obtain ⟨s2, hs2⟩ : ∃ s : ByteArray, (⟨(dig ((n / 10 : Nat) : Int)).toArray⟩ : ByteArray) = s := ⟨_, rfl⟩
      have HL : s2.size ≤ 10 := by rw [← hs2]; exact dig_len _
      have HE2 : Hid (s2 ++ ⟨#[hexc (n % 10)]⟩ = ⟨(dig (n : Int)).toArray⟩) := Lib.hid (by rw [← hs2, HE.out]; apply ByteArray.ext; simp)
      rw [hs2] at HK
      clear hd ih hs2 HE
      go_enter Tryz.func23, Tryz.ntmps23
      go_wp2_with fail
      refine (HK.out _).mono ?_
      rintro e w2 ⟨rfl, hb2⟩
      have HB2 := Lib.hid (BB.out.trans (hb2.mono BB.out.size))
      clear hb2
      go_wp2
      go_ret
      exact ⟨ret_str HE2.out, HB2.out⟩
end Go.Proofs.YtbelpnfgdjnpoaaGreatDoor
/- The law ParseDeep. -/
namespace Go.Proofs.YtbelpnfgdjnpoaaGreatDoor
open Go.RowKit Sash.Num

theorem dig4 {i : Int} (h0 : 0 ≤ i) (h1 : i ≤ 9999) : (dig i).length ≤ 4 := by
  rw [dig_is ⟨h0, by omega⟩]
  exact dec_len 3 i.toNat (by omega)
theorem head19 {r : R} (h1 : 0 ≤ r.x ∧ r.x ≤ 9999) (h2 : 0 ≤ r.y ∧ r.y ≤ 9999) (h3 : 0 ≤ r.w ∧ r.w ≤ 9999) (h4 : 0 ≤ r.h ∧ r.h ≤ 9999) : (headL r).length ≤ 19 := by
  have a1 := dig4 h1.1 h1.2
  have a2 := dig4 h2.1 h2.2
  have a3 := dig4 h3.1 h3.2
  have a4 := dig4 h4.1 h4.2
  simp only [headL, List.length_append, List.length_cons]
  omega
theorem open_len {n : Nat} (hn : n ≤ 1100) : ∀ i, i ≤ n → (dOpen n i).length ≤ 20 * i
  | 0, _ => by simp [dOpen]
  | i + 1, h => by
    have ih := open_len hn i (by omega)
    have := head19 (r := ⟨0, 0, 1, 2 * ((n : Int) - i) + 1⟩) (by simp) (by simp) (by simp) (by simp only; omega)
    simp only [dOpen, List.length_append, List.length_cons, List.length_nil]
    omega
theorem shut_len {n : Nat} (hn : n ≤ 1100) : ∀ i, i ≤ n → (dShut n i).length ≤ 26 * i
  | 0, _ => by simp [dShut]
  | i + 1, h => by
    have ih := shut_len hn i (by omega)
    have a1 := head19 (r := ⟨0, 2 * ((n : Int) - i), 1, 1⟩) (by simp) (by simp only; omega) (by simp) (by simp)
    have a2 := dig4 (i := (i : Int) + 1) (by omega) (by omega)
    simp only [dShut, List.length_append, List.length_cons, List.length_nil]
    omega
theorem deep_len {n : Nat} (hn : n ≤ 1100) : (bodyT (dT n n)).length ≤ 50609 := by
  have h1 := open_len hn n (Nat.le_refl _)
  have h2 := shut_len hn n (Nat.le_refl _)
  rw [dT_whole]
  simp only [List.length_append, List.length_cons, List.length_nil]
  omega
theorem deep_zero {n : Nat} (hn : n ≤ 1100) {o : WR} (h : BodyR (bodyT (dT n n)) o) : (oE o = 0) ↔ n < 1000 := by
  have hl := deep_len hn
  have htl := dT_tile n n hn (Nat.le_refl _)
  constructor
  · intro h0
    cases o with
    | no e p =>
      simp only [oE] at h0
      subst h0
      rcases h with ⟨h, -, -⟩ | ⟨-, h⟩
      · omega
      · have := h.code; omega
    | yes t =>
      by_cases hk : n < 1000
      · exact hk
      · exact (dT_not (by omega) hn h.2.1).elim
  · intro hk
    have h2 : BodyR (bodyT (dT n n)) (.yes (dT n n)) := ⟨by omega, dT_read n (by omega), htl⟩
    have := h.one h2
    subst this
    rfl
theorem str_open (n i : Nat) : (⟨(dOpen n i).toArray⟩ : ByteArray) ++ ((⟨(headL ⟨0, 0, 1, 2 * ((n : Int) - i) + 1⟩).toArray⟩ : ByteArray) ++ ⟨#[91]⟩) = ⟨(dOpen n (i + 1)).toArray⟩ := by
  apply ByteArray.ext; simp [dOpen]
theorem str_shut (n i : Nat) : (⟨#[44]⟩ : ByteArray) ++ (⟨(headL ⟨0, 2 * ((n : Int) - i), 1, 1⟩).toArray⟩ : ByteArray) ++ ⟨#[44]⟩ ++ ⟨(dig ((i : Int) + 1)).toArray⟩ ++ ⟨#[93]⟩ ++ ⟨(dShut n i).toArray⟩ = ⟨(dShut n (i + 1)).toArray⟩ := by
  apply ByteArray.ext; simp [dShut]
theorem str_whole (n : Nat) : (⟨(dOpen n n).toArray⟩ : ByteArray) ++ ⟨#[49, 120, 49, 44, 48, 44, 48, 44, 48]⟩ ++ ⟨(dShut n n).toArray⟩ = ⟨(bodyT (dT n n)).toArray⟩ := by
  rw [dT_whole]; apply ByteArray.ext; simp

set_option maxRecDepth 100000 in
set_option maxHeartbeats 4000000 in
theorem parseDeep_any (n : Nat) (hn : n ≤ 65535) (w : World) (hg : Er.EtLaid w) : Calls Tryz.prog 7 #[.int .u16 (n : Int)] w fun e w' => e = .returned (.bool true) ∧ Below w.heap.size w w' := by
  have HE := Lib.hid hg
  by_cases hlo : n < 1
  · have q1 : decide ((n : Int) < 1) = true := decide_eq_true (by omega)
    have q2 : decide (n < 1) = true := decide_eq_true hlo
    have q3 : (n < 1) = True := eq_true hlo
    obtain rfl : n = 0 := by omega
    clear hg q1 q2 q3 hlo
    go_enter Tryz.func7, Tryz.ntmps7
    go_wp2_with fail
    refine (awake11_any w HE.out).mono ?_
    rintro e w1 ⟨rfl, hb1⟩
    have B1 := Lib.hid hb1
    clear hb1
    go_wp2
    go_ret
    exact ⟨rfl, B1.out⟩
  have q1 : decide ((n : Int) < 1) = false := decide_eq_false (by omega)
  have q2 : decide (n < 1) = false := decide_eq_false hlo
  have q3 : (n < 1) = False := eq_false hlo
  by_cases hhi : 1100 < n
  · have p1 : decide ((1100 : Int) < (n : Int)) = true := decide_eq_true (by omega)
    have p2 : decide (1100 < n) = true := decide_eq_true hhi
    have p3 : (1100 < n) = True := eq_true hhi
    clear hg
    go_enter Tryz.func7, Tryz.ntmps7
    go_wp2_with fail
    refine (awake11_any w HE.out).mono ?_
    rintro e w1 ⟨rfl, hb1⟩
    have B1 := Lib.hid hb1
    clear hb1
    go_wp2
    go_ret
    exact ⟨rfl, B1.out⟩
  have p1 : decide ((1100 : Int) < (n : Int)) = false := decide_eq_false (by omega)
  have p2 : decide (1100 < n) = false := decide_eq_false hhi
  have p3 : (1100 < n) = False := eq_false hhi
  have HN : Hid (n ≤ 1100) := Lib.hid (by omega)
  clear hg
  go_enter Tryz.func7, Tryz.ntmps7
  go_wp2
  go_loopg [3, 4, 5] (n + 1) (fun g so sh ii wr => ∃ i : Nat, g + i = n + 1 ∧ i ≤ n ∧ so = .string ⟨(dOpen n i).toArray⟩ ∧ sh = .string ⟨(dShut n i).toArray⟩ ∧ ii = .int .i64 (i : Int) ∧ Below w.heap.size w wr)
  case atStart => exact ⟨0, by omega, by omega, rfl, rfl, rfl, Below.refl _ _⟩
  case round =>
    obtain ⟨i, hgk, hi, rfl, rfl, rfl, hb⟩ := hrel
    have HG := Lib.hid hgk
    have HB := Lib.hid hb
    clear hgk hb
    by_cases hlt : i < n
    · have d1 : decide ((i : Int) < (n : Int)) = true := decide_eq_true (by omega)
      have d2 : decide (i < n) = true := decide_eq_true hlt
      have d3 : (i < n) = True := eq_true hlt
      have HO := Lib.hid (str_open n i)
      have HSH := Lib.hid (str_shut n i)
      have lo := open_len HN.out i hi
      have ls := shut_len HN.out i hi
      have l1 := head19 (r := ⟨0, 0, 1, 2 * ((n : Int) - i) + 1⟩) (by simp) (by simp) (by simp) (by have := HN.out; simp only; omega)
      have l2 := head19 (r := ⟨0, 2 * ((n : Int) - i), 1, 1⟩) (by simp) (by have := HN.out; simp only; omega) (by simp) (by simp)
      have l3 := dig4 (i := (i : Int) + 1) (by omega) (by have := HN.out; omega)
      have K1 := Lib.hid (fun W => rhead_any ⟨0, 0, 1, 2 * ((n : Int) - i) + 1⟩ W)
      have K2 : Hid (∀ (y : Int) W, y = 2 * ((n : Int) - i) → Calls Tryz.prog 22 #[val ⟨0, y, 1, 1⟩] W fun e w' => e = .returned (.string ⟨(headL ⟨0, 2 * ((n : Int) - i), 1, 1⟩).toArray⟩) ∧ Below W.heap.size W w') := Lib.hid (fun y W hy => by rw [hy]; exact rhead_any ⟨0, 2 * ((n : Int) - i), 1, 1⟩ W)
      have K3 : Hid (∀ W, Calls Tryz.prog 23 #[.int .i64 ((i : Int) + 1)] W fun e w' => e = .returned (.string ⟨(dig ((i : Int) + 1)).toArray⟩) ∧ Below W.heap.size W w') := Lib.hid (fun W => ldigits_any (i + 2) (i + 1) W (by omega) (by have := HN.out; omega))
      obtain ⟨h1, e1⟩ : ∃ s : ByteArray, (⟨(headL ⟨0, 0, 1, 2 * ((n : Int) - i) + 1⟩).toArray⟩ : ByteArray) = s := ⟨_, rfl⟩
      obtain ⟨h2, e2⟩ : ∃ s : ByteArray, (⟨(headL ⟨0, 2 * ((n : Int) - i), 1, 1⟩).toArray⟩ : ByteArray) = s := ⟨_, rfl⟩
      obtain ⟨h3, e3⟩ : ∃ s : ByteArray, (⟨(dig ((i : Int) + 1)).toArray⟩ : ByteArray) = s := ⟨_, rfl⟩
      have z1 : h1.size ≤ 19 := by rw [← e1]; exact l1
      have z2 : h2.size ≤ 19 := by rw [← e2]; exact l2
      have z3 : h3.size ≤ 4 := by rw [← e3]; exact l3
      rw [e1] at HO K1
      rw [e2, e3] at HSH
      rw [e2] at K2
      rw [e3] at K3
      obtain ⟨so, eo⟩ : ∃ s : ByteArray, (⟨(dOpen n i).toArray⟩ : ByteArray) = s := ⟨_, rfl⟩
      obtain ⟨ss, es⟩ : ∃ s : ByteArray, (⟨(dShut n i).toArray⟩ : ByteArray) = s := ⟨_, rfl⟩
      have zo : so.size ≤ 22000 := by rw [← eo]; have := HN.out; show (dOpen n i).length ≤ 22000; omega
      have zs : ss.size ≤ 28600 := by rw [← es]; have := HN.out; show (dShut n i).length ≤ 28600; omega
      rw [eo] at HO ⊢
      rw [es] at HSH ⊢
      clear e1 e2 e3 eo es lo ls l1 l2 l3
      go_wp2_with fail
      refine (K1.out wr).mono ?_
      rintro e w2 ⟨rfl, hb2⟩
      have B2 := Lib.hid (HB.out.trans (hb2.mono HB.out.size))
      clear hb2
      go_wp2_with fail
      refine (K2.out _ w2 (by omega)).mono ?_
      rintro e w3 ⟨rfl, hb3⟩
      have B3 := Lib.hid (B2.out.trans (hb3.mono B2.out.size))
      clear hb3
      go_wp2_with fail
      refine (K3.out w3).mono ?_
      rintro e w4 ⟨rfl, hb4⟩
      have B4 := Lib.hid (B3.out.trans (hb4.mono B3.out.size))
      clear hb4
      go_wp2
      go_roundg (gk - 1)
      case measure => have := HG.out; omega
      case rel => exact ⟨i + 1, by have := HG.out; omega, by omega, by rw [← HO.out], by rw [← HSH.out], by go_num, B4.out⟩
    · obtain rfl : i = n := by omega
      have hkl : ((i : Int) < (i : Int)) = False := by simp
      have HW := Lib.hid (str_whole i)
      have lo := open_len HN.out i (Nat.le_refl _)
      have ls := shut_len HN.out i (Nat.le_refl _)
      have ld := deep_len HN.out
      have HDZ : Hid (∀ o, BodyR (bodyT (dT i i)) o → (oE o = 0 ↔ i < 1000)) := Lib.hid (fun o h => deep_zero HN.out h)
      have KB : Hid (∀ W, Er.EtLaid W → Calls Tryz.prog 15 #[.string ⟨(bodyT (dT i i)).toArray⟩] W (FcSays (BodyP (bodyT (dT i i))) W)) := Lib.hid (fun W h => fbody_any ⟨(bodyT (dT i i)).toArray⟩ (by show (bodyT (dT i i)).length ≤ 100000; omega) W h)
      have KD : Hid (∀ W, Calls Tryz.prog 16 #[.string ⟨(bodyT (dT i i)).toArray⟩] W (DcSays (BodyR (bodyT (dT i i))) W)) := Lib.hid (fun W => dbody_any ⟨(bodyT (dT i i)).toArray⟩ W (by show (bodyT (dT i i)).length ≤ 100000; omega))
      obtain ⟨so, eo⟩ : ∃ s : ByteArray, (⟨(dOpen i i).toArray⟩ : ByteArray) = s := ⟨_, rfl⟩
      obtain ⟨ss, es⟩ : ∃ s : ByteArray, (⟨(dShut i i).toArray⟩ : ByteArray) = s := ⟨_, rfl⟩
      have zo : so.size ≤ 22000 := by rw [← eo]; have := HN.out; show (dOpen i i).length ≤ 22000; omega
      have zs : ss.size ≤ 28600 := by rw [← es]; have := HN.out; show (dShut i i).length ≤ 28600; omega
      rw [eo, es] at HW
      rw [eo, es]
      rw [← HW.out] at KB KD
      generalize bodyT (dT i i) = S at KB KD HDZ
      clear eo es lo ls ld HW
      go_wp2_with fail
      refine (KB.out wr (et_up HE.out HB.out)).mono ?_
      rintro e w1 ⟨o, d, v, rfl, hrel, hid, herr, hb1⟩
      have zx : (so ++ ⟨#[49, 120, 49, 44, 48, 44, 48, 44, 48]⟩ ++ ss : ByteArray).size ≤ 50609 := by
        rw [ByteArray.size_append, ByteArray.size_append]
        have : (⟨#[49, 120, 49, 44, 48, 44, 48, 44, 48]⟩ : ByteArray).size = 9 := rfl
        omega
      generalize so ++ ⟨#[49, 120, 49, 44, 48, 44, 48, 44, 48]⟩ ++ ss = sx at KD zx ⊢
      clear KB zo zs
      have hba : Below w1.heap.size w1 (w1.alloc (cbox d)) := (Below.refl _ _).alloc (Nat.le_refl _) _
      have HR1 := Lib.hid hrel
      have B2 : Hid (Below w.heap.size w (w1.alloc (cbox d))) := Lib.hid ((HB.out.trans (hb1.mono HB.out.size)).alloc (Nat.le_trans HB.out.size hb1.size) _)
      have X2 := Lib.hid (Box7.new w1 d)
      have V2 := Lib.hid (herr.up hba)
      have I2 := Lib.hid (hid.up hba)
      clear hrel hid herr hb1 hba
      go_upto_region 13 with (fail)
      change Code.wp _ _ _ _ (w1.alloc (cbox d))
      generalize w1.alloc (cbox d) = w2 at B2 X2 V2 I2 ⊢
      generalize w1.heap.size = g1 at X2 ⊢
      go_wp2_with fail
      refine (KD.out w2).mono ?_
      rintro e w3 ⟨o2, d2, rfl, hrel, hid, hb3⟩
      obtain rfl : o = o2 := HR1.out.one (BodyP.of hrel)
      have hba : Below w3.heap.size w3 (w3.alloc (cbox d2)) := (Below.refl _ _).alloc (Nat.le_refl _) _
      have hb34 := hb3.trans (hba.mono hb3.size)
      have HZZ := Lib.hid (HDZ.out o hrel)
      have B4 := Lib.hid (B2.out.trans (hb34.mono B2.out.size))
      have X4 := Lib.hid (X2.out.up hb34)
      have V4 := Lib.hid (V2.out.up hb34)
      have I4 := Lib.hid (I2.out.up hb34)
      have Y4 := Lib.hid (Box7.new w3 d2)
      have J4 := Lib.hid (hid.up hba)
      clear hrel hid hb3 hba hb34 B2 X2 V2 I2
      go_upto_region 14 with (fail)
      change Code.wp _ _ _ _ (w3.alloc (cbox d2))
      generalize w3.alloc (cbox d2) = w4 at B4 X4 V4 I4 Y4 J4 ⊢
      generalize w3.heap.size = g3 at Y4 ⊢
      have KO := Lib.hid (told_any v o w4 V4.out (et_up HE.out B4.out))
      generalize hoe : oE o = oe at KO HZZ ⊢
      generalize hop : oP o = op at KO ⊢
      clear hoe hop
      have y1 : decide ((65530 : Int) < (sx.size : Int)) = false := decide_eq_false (by omega)
      have y2 : decide (65530 < sx.size) = false := decide_eq_false (by omega)
      have y3 : (65530 < sx.size) = False := eq_false (by omega)
      have hbb : (∃ bq : Bool, (oe == 0) = bq ∧ decide ((i : Int) < 1000) = bq ∧ decide (i < 1000) = bq) := by
        by_cases hk : i < 1000
        · exact ⟨true, by have := HZZ.out.2 hk; simp [this], decide_eq_true (by omega), decide_eq_true hk⟩
        · exact ⟨false, by have : oe ≠ 0 := fun e => hk (HZZ.out.1 e)
                           simp [this], decide_eq_false (by omega), decide_eq_false hk⟩
      obtain ⟨bq, m1, m2, m3⟩ := hbb
      clear zx
      go_wp2_with fail
      refine KO.out.mono ?_
      rintro e w7 ⟨rfl, hb7⟩
      have B7 := Lib.hid (B4.out.trans (hb7.mono B4.out.size))
      have X7 := Lib.hid (X4.out.up hb7)
      have Y7 := Lib.hid (Y4.out.up hb7)
      have I7 := Lib.hid (I4.out.up hb7)
      have J7 := Lib.hid (J4.out.up hb7)
      clear hb7
      obtain ⟨c0, c1, c2, c3, c4, c5, c6⟩ := X7.out.cat
      simp only [Nat.zero_add] at c1 c2 c3 c4 c5 c6
      obtain ⟨e0, e1, e2, e3, e4, e5, e6⟩ := Y7.out.cat
      simp only [Nat.zero_add] at e1 e2 e3 e4 e5 e6
      have K12 := Lib.hid (sameO_any (oT o) d d2 w7 I7.out J7.out)
      have K8 := Lib.hid (fun W (hb : Below w.heap.size w W) => awake11_any W (et_up HE.out hb))
      cases bq
      all_goals
        go_wp2_with fail
        refine K12.out.mono ?_
        rintro e w8 ⟨rfl, hb8⟩
        have B8 := Lib.hid (B7.out.trans (hb8.mono B7.out.size))
        clear hb8
        go_wp2_with fail
        refine (K8.out w8 B8.out).mono ?_
        rintro e w9 ⟨rfl, hb9⟩
        have B9 := Lib.hid (B8.out.trans (hb9.mono B8.out.size))
        clear hb9
        go_wp2
        go_ret
        exact ⟨rfl, B9.out⟩
theorem parseDeep_wf (a : Int) (h : (Lit.int .u16 a).wf = true) (w : World) (hg : Er.EtLaid w) : Calls Tryz.prog 7 #[.int .u16 a] w fun e w' => e = .returned (.bool true) ∧ Below w.heap.size w w' := by
  have hb : 0 ≤ a ∧ a ≤ 65535 := by
    simp [Lit.wf, IntKind.min, IntKind.max, IntKind.signed, IntKind.bits] at h
    omega
  obtain ⟨n, rfl⟩ := Int.eq_ofNat_of_zero_le hb.1
  exact parseDeep_any n (by omega) w hg
end Go.Proofs.YtbelpnfgdjnpoaaGreatDoor
