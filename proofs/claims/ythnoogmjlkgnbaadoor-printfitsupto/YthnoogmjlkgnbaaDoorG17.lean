/- Texts of this seat, 3 in one file. -/
import Derived.Test.YthnoogmjlkgnbaaDoorG16
import Derived.Test.YthnoogmjlkgnbaaDoorG06
import Derived.Test.YthnoogmjlkgnbaaDoorG04
import Derived.Test.YthnoogmjlkgnbaaDoorG05
import Derived.Lib.EndianBits
/- print's body: a cell, told whole. -/
namespace Go.Proofs.YthnoogmjlkgnbaaDoor
open Go.RowKit
open Sash.Num (dig dig_len)

theorem TS.drew {w : World} {B b g : Nat} {c : C} {l : List UInt8} {W : World} (h : TS w B b g c l W) : TS w B b g c l W.drew := h.up (Below.refl _ _).drew
theorem TS.alloc {w : World} {B b g : Nat} {c : C} {l : List UInt8} {W : World} (h : TS w B b g c l W) (o : Obj) : TS w B b g c l (W.alloc o) := h.up ((Below.refl _ _).alloc (Nat.le_refl _) _)
theorem ok_leaf {t : T} (h : OkB t) (h1 : t.k = 1) : t.kids = [] := by
  cases h with
  | leaf => rfl
  | kids k r l hk => simp only [T.k] at h1; omega
theorem ok_kind {t : T} (h : OkB t) : t.k = 1 ∨ t.k = 2 ∨ t.k = 3 := by
  cases h with
  | leaf => exact .inl rfl
  | kids k r l hk => exact .inr hk
theorem ok_kids {t : T} (h : OkB t) : ∀ u ∈ t.kids, OkB u := by
  cases h with
  | leaf => exact fun u hu => by cases hu
  | kids k r l hk hr two each => exact each

set_option maxRecDepth 100000 in
set_option maxHeartbeats 4000000 in
theorem tell_step {N : Nat} (ih : Tells N) : Tells (N + 1) := by
  intro t c B b l w0 w hs hok hi hB0 hb0 hB htab hbl hlen
  have HR := Lib.hid hi.row
  have HZK := Lib.hid (show ∀ u ∈ t.kids, sz u ≤ N from fun u hu => by
    obtain ⟨k, hk⟩ := List.getElem?_of_mem hu
    have := sz_kid hk
    omega)
  have HOK := Lib.hid (ok_kids hok)
  have hkind := ok_kind hok
  have hn := hi.n
  have hfn := hi.fine.2.2.2
  have hfr := hi.fine.2.1
  have hfi := hi.fine.2.2.1
  obtain ⟨hk, hr, hid, -⟩ := hi.split
  have hszn := sz_node t
  have hkl := bodyK_len t.kids
  obtain ⟨ck, cr, cid, ca, cn, ccap⟩ := c
  simp only at hn hfn hfr hfi hk hr hid
  subst hn
  clear hi hok
  have hhl := head_len cr
  have hdl := dig_len cid
  have S0 := Lib.hid (TS.new ⟨ck, cr, cid, ca, t.kids.length, ccap⟩ hbl hB)
  have HT := Lib.hid (fun W (h : Below B w W) => tab_on htab (hb0.trans (h.mono hB0)))
  obtain ⟨s1, hs1⟩ : ∃ s : ByteArray, (⟨(headL cr).toArray⟩ : ByteArray) = s := ⟨_, rfl⟩
  have hz1 : s1.size ≤ 43 := by rw [← hs1]; exact hhl
  have hd1 : s1.data.toList = headL cr := by rw [← hs1]
  have HH := Lib.hid (fun W (ht : Tab W) => phead_any cr W hfr ht)
  rw [hs1] at HH
  have HWR := Lib.hid (fun W (h : Bl B b l W) (hB : B ≤ W.heap.size) => write_any B b l s1 W h (by omega) hB)
  rw [hd1] at HWR
  clear hs1
  go_enter Tryd.func25, Tryd.ntmps25
  go_upto_region 1 with (fail)
  change Code.wp _ _ _ _ (w.alloc (cbox ⟨ck, cr, cid, ca, t.kids.length, ccap⟩))
  generalize w.alloc (cbox ⟨ck, cr, cid, ca, t.kids.length, ccap⟩) = W1 at S0 ⊢
  have S1 := Lib.hid S0.out.drew
  have X1 := Lib.hid S1.out.d7
  go_region_held3 (fun W => W.cell? ⟨w.heap.size, 0, none⟩ = some (.int .u8 ck) ∧ W.cell? ⟨w.heap.size, 1, none⟩ = some (.int .i64 cr.x) ∧ W.cell? ⟨w.heap.size, 2, none⟩ = some (.int .i64 cr.y) ∧ W.cell? ⟨w.heap.size, 3, none⟩ = some (.int .i64 cr.w) ∧ W.cell? ⟨w.heap.size, 4, none⟩ = some (.int .i64 cr.h) ∧ W.cell? ⟨w.heap.size, 5, none⟩ = some (.int .i64 cid) ∧ W.cell? ⟨w.heap.size, 6, none⟩ = some (.slice ca t.kids.length ccap)) (first | exact X1.out | exact X2.out | exact X3.out)
    (first
      | (go_at_call 14; (with_reducible refine (HH.out _ (HT.out _ S1.out.below)).mono ?_); rintro e w2 ⟨rfl, hb2⟩; have S2 := Lib.hid (S1.out.up hb2); have X2 := Lib.hid S2.out.d7; clear hb2)
      | (go_at_call 38; (with_reducible refine (HWR.out _ S2.out.bl S2.out.le).mono ?_); rintro e w3 ⟨⟨v3, rfl⟩, h1, h2, h3⟩; have S3 := Lib.hid (S2.out.told h1 h2 h3); have X3 := Lib.hid S3.out.d7; clear h1 h2 h3))
  obtain ⟨c0, c1, c2, c3, c4, c5, c6⟩ := X3.out
  simp only at c0 c1 c2 c3 c4 c5 c6
  clear X1 X2 X3 HWR HH
  rcases hkind with h1 | h1 | h1
  · have HF : Hid (l ++ headL cr ++ 44 :: dig cid = l ++ bodyT t) := Lib.hid (by rw [body_leaf h1, hr, hid, List.append_assoc])
    have q3 : (ck == 3) = false := by rw [← hk, h1]; rfl
    have q2 : (ck == 2) = false := by rw [← hk, h1]; rfl
    clear h1 hk hr hid
    obtain ⟨s2, hs2⟩ : ∃ s : ByteArray, (⟨(dig cid).toArray⟩ : ByteArray) = s := ⟨_, rfl⟩
    have hz2 : s2.size ≤ 10 := by rw [← hs2]; exact hdl
    have HWR := Lib.hid (fun W (h : Bl B b (l ++ headL cr) W) (hB : B ≤ W.heap.size) => write_any B b (l ++ headL cr) (⟨#[44]⟩ ++ s2) W h (by rw [List.length_append, ByteArray.size_append, show (⟨#[44]⟩ : ByteArray).size = 1 from rfl]; omega) hB)
    rw [show ((⟨#[44]⟩ : ByteArray) ++ s2).data.toList = 44 :: dig cid by rw [← hs2]; simp, HF.out] at HWR
    have K1 := Lib.hid (fun W b (hc : IAt W b [cid]) ht => dig1_at W b cid hfi hc ht)
    rw [hs2] at K1
    have a1 : ((9223372036854775807 : Int) < 1 + (s2.size : Int)) = False := eq_false (by omega)
    have a2 : (9223372036854775807 < 1 + s2.size) = False := eq_false (by omega)
    clear hs2 hkl hszn
    go_upto_region 10 with (fail)
    clear c0 c1 c2 c3 c4 c5 c6
    have S4 := Lib.hid S3.out.drew
    have X4 := Lib.hid S4.out.d7
    have S5 := Lib.hid (S3.out.alloc (ibox1 cid)).drew
    have X5 := Lib.hid S5.out.d7
    have I5 := Lib.hid ((iat1 w3 cid).up (Below.refl _ _).drew)
    go_region_held3 (fun W => W.cell? ⟨w.heap.size, 0, none⟩ = some (.int .u8 ck) ∧ W.cell? ⟨w.heap.size, 1, none⟩ = some (.int .i64 cr.x) ∧ W.cell? ⟨w.heap.size, 2, none⟩ = some (.int .i64 cr.y) ∧ W.cell? ⟨w.heap.size, 3, none⟩ = some (.int .i64 cr.w) ∧ W.cell? ⟨w.heap.size, 4, none⟩ = some (.int .i64 cr.h) ∧ W.cell? ⟨w.heap.size, 5, none⟩ = some (.int .i64 cid) ∧ W.cell? ⟨w.heap.size, 6, none⟩ = some (.slice ca t.kids.length ccap)) (first | exact X4.out | exact X5.out | exact X6.out | exact X7.out)
      (first
        | (go_at_call 29; (with_reducible refine (K1.out _ _ I5.out (HT.out _ S5.out.below)).mono ?_); rintro e w6 ⟨rfl, hb6⟩; have S6 := Lib.hid (S5.out.up hb6); have X6 := Lib.hid S6.out.d7; clear hb6)
        | (go_at_call 38; (with_reducible refine (HWR.out _ S6.out.bl S6.out.le).mono ?_); rintro e w7 ⟨⟨v7, rfl⟩, h1, h2, h3⟩; have S7 := Lib.hid (S6.out.told h1 h2 h3); have X7 := Lib.hid S7.out.d7; clear h1 h2 h3))
    go_wp2
    go_end0
    exact ⟨rfl, S7.out.bl, S7.out.below, S7.out.kept⟩
  · have HF : Hid (l ++ headL cr ++ [123] ++ bodyK t.kids ++ [125] = l ++ bodyT t) := Lib.hid (by rw [body_row h1, hr]; simp)
    have q3 : (ck == 3) = false := by rw [← hk, h1]; rfl
    have q2 : (ck == 2) = true := by rw [← hk, h1]; rfl
    clear h1 hk hr hid
    have hlk : (l ++ headL cr ++ [123]).length + 64 * szL t.kids ≤ 5000000 := by rw [List.length_append, List.length_append, List.length_singleton]; omega
    have hlc : (l ++ headL cr ++ [123] ++ bodyK t.kids).length + 1 ≤ 10000000 := by rw [List.length_append, List.length_append, List.length_append, List.length_singleton]; omega
    have HW1 := Lib.hid (fun W (h : Bl B b (l ++ headL cr) W) (hB : B ≤ W.heap.size) => write_any B b (l ++ headL cr) ⟨#[123]⟩ W h (by rw [List.length_append]; show _ + 1 ≤ _; omega) hB)
    have HWK := Lib.hid (fun W (h : Bl B b (l ++ headL cr ++ [123]) W) (hb : Below B w W) (hB : B ≤ W.heap.size) => tellKids_any ih t.kids (.slice ca t.kids.length ccap) B b (l ++ headL cr ++ [123]) w0 W HZK.out HOK.out HR.out hB0 (hb0.trans (hb.mono hB0)) hB htab h hlk)
    have HW2 := Lib.hid (fun W (h : Bl B b (l ++ headL cr ++ [123] ++ bodyK t.kids) W) (hB : B ≤ W.heap.size) => write_any B b (l ++ headL cr ++ [123] ++ bodyK t.kids) ⟨#[125]⟩ W h hlc hB)
    clear hkl hszn hlk hlc
    go_upto_region 7 with (fail)
    clear c0 c1 c2 c3 c4 c5 c6
    go_wp2_with fail
    refine (HW1.out w3 S3.out.bl S3.out.le).mono ?_
    rintro e w4 ⟨⟨v4, rfl⟩, h1, h2, h3⟩
    have S4 := Lib.hid (S3.out.told h1 h2 h3)
    clear h1 h2 h3
    obtain ⟨c0, c1, c2, c3, c4, c5, c6⟩ := S4.out.d7
    simp only at c0 c1 c2 c3 c4 c5 c6
    go_wp2_with fail
    refine (HWK.out w4 S4.out.bl S4.out.below S4.out.le).mono ?_
    rintro e w5 ⟨rfl, h1, h2, h3⟩
    have S5 := Lib.hid (S4.out.told h1 h2 h3)
    clear h1 h2 h3 c0 c1 c2 c3 c4 c5 c6
    go_wp2_with fail
    refine (HW2.out w5 S5.out.bl S5.out.le).mono ?_
    rintro e w6 ⟨⟨v6, rfl⟩, h1, h2, h3⟩
    have S6 := Lib.hid (S5.out.told h1 h2 h3)
    clear h1 h2 h3
    go_wp2
    go_end0
    exact ⟨rfl, by rw [← HF.out]; exact S6.out.bl, S6.out.below, S6.out.kept⟩
  · have HF : Hid (l ++ headL cr ++ [91] ++ bodyK t.kids ++ [93] = l ++ bodyT t) := Lib.hid (by rw [body_col (by rw [h1]; decide) (by rw [h1]; decide), hr]; simp)
    have q3 : (ck == 3) = true := by rw [← hk, h1]; rfl
    have q2 : (ck == 2) = false := by rw [← hk, h1]; rfl
    clear h1 hk hr hid
    have hlk : (l ++ headL cr ++ [91]).length + 64 * szL t.kids ≤ 5000000 := by rw [List.length_append, List.length_append, List.length_singleton]; omega
    have hlc : (l ++ headL cr ++ [91] ++ bodyK t.kids).length + 1 ≤ 10000000 := by rw [List.length_append, List.length_append, List.length_append, List.length_singleton]; omega
    have HW1 := Lib.hid (fun W (h : Bl B b (l ++ headL cr) W) (hB : B ≤ W.heap.size) => write_any B b (l ++ headL cr) ⟨#[91]⟩ W h (by rw [List.length_append]; show _ + 1 ≤ _; omega) hB)
    have HWK := Lib.hid (fun W (h : Bl B b (l ++ headL cr ++ [91]) W) (hb : Below B w W) (hB : B ≤ W.heap.size) => tellKids_any ih t.kids (.slice ca t.kids.length ccap) B b (l ++ headL cr ++ [91]) w0 W HZK.out HOK.out HR.out hB0 (hb0.trans (hb.mono hB0)) hB htab h hlk)
    have HW2 := Lib.hid (fun W (h : Bl B b (l ++ headL cr ++ [91] ++ bodyK t.kids) W) (hB : B ≤ W.heap.size) => write_any B b (l ++ headL cr ++ [91] ++ bodyK t.kids) ⟨#[93]⟩ W h hlc hB)
    clear hkl hszn hlk hlc
    go_upto_region 7 with (fail)
    clear c0 c1 c2 c3 c4 c5 c6
    go_wp2_with fail
    refine (HW1.out w3 S3.out.bl S3.out.le).mono ?_
    rintro e w4 ⟨⟨v4, rfl⟩, h1, h2, h3⟩
    have S4 := Lib.hid (S3.out.told h1 h2 h3)
    clear h1 h2 h3
    obtain ⟨c0, c1, c2, c3, c4, c5, c6⟩ := S4.out.d7
    simp only at c0 c1 c2 c3 c4 c5 c6
    go_wp2_with fail
    refine (HWK.out w4 S4.out.bl S4.out.below S4.out.le).mono ?_
    rintro e w5 ⟨rfl, h1, h2, h3⟩
    have S5 := Lib.hid (S4.out.told h1 h2 h3)
    clear h1 h2 h3 c0 c1 c2 c3 c4 c5 c6
    go_wp2_with fail
    refine (HW2.out w5 S5.out.bl S5.out.le).mono ?_
    rintro e w6 ⟨⟨v6, rfl⟩, h1, h2, h3⟩
    have S6 := Lib.hid (S5.out.told h1 h2 h3)
    clear h1 h2 h3
    go_wp2
    go_end0
    exact ⟨rfl, by rw [← HF.out]; exact S6.out.bl, S6.out.below, S6.out.kept⟩
theorem tells_all : ∀ N, Tells N
  | 0 => fun t c B b l w0 w hs => by have := sz_pos t; omega
  | N + 1 => tell_step (tells_all N)
end Go.Proofs.YthnoogmjlkgnbaaDoor
/- What num.Hex and the document's Hex answer. -/
namespace Go.Proofs.YthnoogmjlkgnbaaDoor
open Go.RowKit Sash.Num

theorem and15 (x : Int) (h0 : 0 ≤ x) (h1 : x < 65536) : bits BinOp.and .u16 x 15 = x % 16 :=
  bits_mask .u16 16 (by decide) (fun n h₀ h₁ => by rw [IntKind.wrap_u16]; omega) 4 (by decide) x h0 h1

theorem conv4 (w : World) (a b c d : UInt8) :
    (convert 44 9 (.slice (some ⟨w.heap.size, 0, none⟩) 4 4)).run Tryd.prog (w.alloc (.cells #[.int .u8 (a.toNat : Int), .int .u8 (b.toNat : Int), .int .u8 (c.toNat : Int), .int .u8 (d.toNat : Int)] 5)).drew = .ok (.string ⟨#[a, b, c, d]⟩) (w.alloc (.cells #[.int .u8 (a.toNat : Int), .int .u8 (b.toNat : Int), .int .u8 (c.toNat : Int), .int .u8 (d.toNat : Int)] 5)).drew :=
  run_convert_bytes_back _ 44 9 5 ⟨w.heap.size, 0, none⟩ 4 [a, b, c, d] Tryd.underlying44 Tryd.underlying5 Tryd.underlying9 (fun j hj => by
    match j, hj with
    | 0, _ => simp [Addr.add_lit]
    | 1, _ => simp [Addr.add_lit]
    | 2, _ => simp [Addr.add_lit]
    | 3, _ => simp [Addr.add_lit])

set_option maxHeartbeats 400000 in
set_option maxRecDepth 100000 in
theorem hex_any (n : Nat) (w : World) (hn : n < 65536) :
    Calls Tryd.prog 32 #[.int .u16 (n : Int)] w fun e w' => e = .returned (.string ⟨(hex4 n).toArray⟩) ∧ Below w.heap.size w w' := by
  have b0 : bits BinOp.and .u16 (n : Int) 15 = (n : Int) % 16 := and15 _ (by omega) (by omega)
  have b1 : bits BinOp.and .u16 ((n : Int) / 16) 15 = (n : Int) / 16 % 16 := and15 _ (by omega) (by omega)
  have b2 : bits BinOp.and .u16 ((n : Int) / 256) 15 = (n : Int) / 256 % 16 := and15 _ (by omega) (by omega)
  have l0 : (0 : Int) ≤ (n : Int) % 16 := by omega
  have l1 : (0 : Int) ≤ (n : Int) / 16 % 16 := by omega
  have l2 : (0 : Int) ≤ (n : Int) / 256 % 16 := by omega
  have l3 : (0 : Int) ≤ (n : Int) / 4096 := by omega
  have u0 : (n : Int) % 16 < 16 := by omega
  have u1 : (n : Int) / 16 % 16 < 16 := by omega
  have u2 : (n : Int) / 256 % 16 < 16 := by omega
  have u3 : (n : Int) / 4096 < 16 := by omega
  have hcv := conv4 w
  go_enter Tryd.func32, Tryd.ntmps32
  go_wp2
  go_region
  go_wp2
  go_ret
  refine ⟨ret_str ?_, ((Below.refl _ w).alloc (Nat.le_refl _) _).drew⟩
  unfold hex4
  rw [← hex_idx (n / 4096) (by omega) (by rw [hexS_size]; omega), ← hex_idx (n / 256 % 16) (by omega) (by rw [hexS_size]; omega), ← hex_idx (n / 16 % 16) (by omega) (by rw [hexS_size]; omega), ← hex_idx (n % 16) (by omega) (by rw [hexS_size]; omega)]
  rfl


theorem quiet_same {P : Program} {f : FuncId} {args : Array Value} {w : World} {n : Nat} {v : Value}
    (h : Calls P f args (w.drewN n) fun e w' => e = .returned v ∧ w.drewN n = w') : Calls P f args (w.drewN n) fun e w'' => e = .returned v ∧ ∃ m, w'' = w.drewN m :=
  h.mono fun _ _ ⟨he, hm⟩ => ⟨he, n, hm.symm⟩
theorem str4 (a b c d : UInt8) : (⟨#[a]⟩ : ByteArray) ++ ⟨#[b]⟩ ++ ⟨#[c]⟩ ++ ⟨#[d]⟩ = ⟨#[a, b, c, d]⟩ := by
  apply ByteArray.ext; simp

set_option maxHeartbeats 400000 in
set_option maxRecDepth 100000 in
theorem refHex_any (n : Nat) (w : World) (hn : n < 65536) :
    Calls Tryd.prog 34 #[.int .u16 (n : Int)] w fun e w' => e = .returned (.string ⟨(hex4 n).toArray⟩) ∧ w = w' := by
  go_enter Tryd.func34, Tryd.ntmps34
  go_wp2_with (go_at_call 43; refine (refDigit_any _ _ (by omega) (by omega)).mono ?_; rintro e w1 ⟨rfl, rfl⟩)
  go_ret
  exact ⟨ret_str (str4 _ _ _ _), rfl⟩

end Go.Proofs.YthnoogmjlkgnbaaDoor
/- What sum's functions answer: next, From, Of, Put; and the document's. -/
namespace Go.Proofs.YthnoogmjlkgnbaaDoor
open Go.RowKit Sash.Num Sash.Sum

theorem or15 (y x : Int) (h0 : 0 ≤ y) (h1 : y < 32768) (h2 : 0 ≤ x) (h3 : x % 32768 = 0) (h4 : x < 65536) : bits BinOp.or .u16 y x = y + x :=
  bits_join_low .u16 16 (by decide) wraps_u16 15 y x h0 h1 (by omega) h2 h3 h4

theorem next_num (c b : Nat) (hc : c < 65536) (_hb : b < 256) : IntKind.u16.wrap (bits BinOp.or IntKind.u16 ((c : Int) / 2) (IntKind.u16.wrap ((c : Int) * 32768)) + (b : Int)) = ((stp c b : Nat) : Int) := by
  rw [IntKind.wrap_u16, IntKind.wrap_u16, or15 _ _ (by omega) (by omega) (by omega) (by omega) (by omega)]
  unfold stp
  omega

set_option maxHeartbeats 400000 in
set_option maxRecDepth 100000 in
theorem next_any (c b : Nat) (w : World) (hc : c < 65536) (hb : b < 256) :
    Calls Tryd.prog 60 #[.int .u16 (c : Int), .int .u8 (b : Int)] w fun e w' => e = .returned (.int .u16 ((stp c b : Nat) : Int)) ∧ w = w' := by
  have HN := Lib.hid (next_num c b hc hb)
  go_enter Tryd.func60, Tryd.ntmps60
  go_wp2
  go_ret
  exact ⟨ret_int HN.out, rfl⟩

theorem flat0 : Sash.Sum.flat [] = [] := rfl

set_option maxHeartbeats 400000 in
set_option maxRecDepth 100000 in
/-- The sum of whatever texts lie in the slice. -/
theorem from_any (c b o cap : Nat) (xs : List ByteArray) (w : World) (hc : c < 65536) (hx : xs.length ≤ 100000) (hsz : ∀ x ∈ xs, x.size ≤ 1000000)
    (hcells : ∀ (j : Nat) x, xs[j]? = some x → w.cell? ⟨b, o + j, none⟩ = some (.string x)) :
    Calls Tryd.prog 47 #[.int .u16 (c : Int), .slice (some ⟨b, o, none⟩) xs.length cap] w fun e w' => e = .returned (.int .u16 ((sumF c (Sash.Sum.flat xs) : Nat) : Int)) ∧ w = w' := by
  have HC := Lib.hid hcells
  have HZ := Lib.hid hsz
  clear hcells hsz
  go_enter Tryd.func47, Tryd.ntmps47
  go_wp2
  go_loop [0, 10] (fun n i => ∃ (k : Nat), k ≤ xs.length ∧ i = .int .i64 k ∧ n = .int .u16 ((sumF c (Sash.Sum.flat (xs.take k)) : Nat) : Int)) (fun _ i => xs.length - (intOf i).toNat)
  case atStart => exact ⟨0, Nat.zero_le _, rfl, rfl⟩
  case round =>
    obtain ⟨k, hk, rfl, rfl⟩ := hrel
    by_cases hlt : k < xs.length
    · have hcell := HC.out k xs[k] (List.getElem?_eq_getElem hlt)
      have hz := HZ.out xs[k] (List.getElem_mem hlt)
      have HF := Lib.hid (Sash.Sum.flat_take xs k hlt)
      have hs0 := sumF_lt (Sash.Sum.flat (xs.take k)) c hc
      generalize hg : xs[k] = s at *
      generalize hs1 : sumF c (Sash.Sum.flat (xs.take k)) = c1 at *
      have HG := Lib.hid hs1
      clear hg hs1
      go_wp2
      go_loop [0, 16] (fun n i => ∃ (m : Nat), m ≤ s.size ∧ i = .int .i64 m ∧ n = .int .u16 ((sumF c1 (s.data.toList.take m) : Nat) : Int)) (fun _ i => s.size - (intOf i).toNat)
      case atStart => exact ⟨0, Nat.zero_le _, rfl, rfl⟩
      case round =>
        obtain ⟨m, hm, rfl, rfl⟩ := hrel
        by_cases hml : m < s.size
        · have hs2 := sumF_lt (s.data.toList.take m) c1 hs0
          have HS := Lib.hid (bsumF_take c1 s m hml)
          have hb8 := (s[m]'hml).toNat_lt
          go_wp2_with (go_at_call 60; refine (next_any _ _ _ hs2 hb8).mono ?_; rintro e w1 ⟨rfl, rfl⟩)
          go_wp2
          go_round
          case rel => exact ⟨m + 1, by omega, by go_num, by rw [HS.out]⟩
          case measure => simp [intOf]; omega
        · have HT := Lib.hid (show s.data.toList.take m = s.data.toList from List.take_of_length_le (by simp; omega))
          go_wp2
          go_round
          case rel => exact ⟨k + 1, by omega, by go_num, by rw [HT.out, HF.out, sumF_append, HG.out]⟩
          case measure => simp [intOf]; omega
    · go_wp2
      go_ret
      exact ⟨ret_int (by rw [List.take_of_length_le (by omega)]), rfl⟩

set_option maxHeartbeats 400000 in
set_option maxRecDepth 100000 in
theorem from_none (c cap : Nat) (a : Option Addr) (w : World) :
    Calls Tryd.prog 47 #[.int .u16 (c : Int), .slice a 0 cap] w fun e w' => e = .returned (.int .u16 (c : Int)) ∧ w = w' := by
  go_enter Tryd.func47, Tryd.ntmps47
  go_wp2
  go_loop [0, 10] (fun n i => i = .int .i64 0 ∧ n = .int .u16 (c : Int)) (fun _ _ => 0)
  case atStart => exact ⟨rfl, rfl⟩
  case round =>
    obtain ⟨rfl, rfl⟩ := hrel
    go_wp2
    go_ret
    exact ⟨rfl, rfl⟩

set_option maxHeartbeats 400000 in
set_option maxRecDepth 100000 in
theorem of_any (b o cap : Nat) (xs : List ByteArray) (w : World) (hx : xs.length ≤ 100000) (hsz : ∀ x ∈ xs, x.size ≤ 1000000)
    (hcells : ∀ (j : Nat) x, xs[j]? = some x → w.cell? ⟨b, o + j, none⟩ = some (.string x)) :
    Calls Tryd.prog 33 #[.slice (some ⟨b, o, none⟩) xs.length cap] w fun e w' => e = .returned (.int .u16 ((sumF 0 (Sash.Sum.flat xs) : Nat) : Int)) ∧ w = w' := by
  have HC := Lib.hid hcells
  have HZ := Lib.hid hsz
  clear hcells hsz
  go_enter Tryd.func33, Tryd.ntmps33
  go_wp2_with (go_at_call 47; refine (from_any 0 b o cap xs _ (by omega) hx HZ.out HC.out).mono ?_; rintro e w1 ⟨rfl, rfl⟩)
  go_wp2
  go_ret
  exact ⟨rfl, rfl⟩

set_option maxHeartbeats 400000 in
set_option maxRecDepth 100000 in
theorem of_none (cap : Nat) (a : Option Addr) (w : World) :
    Calls Tryd.prog 33 #[.slice a 0 cap] w fun e w' => e = .returned (.int .u16 0) ∧ w = w' := by
  go_enter Tryd.func33, Tryd.ntmps33
  go_wp2_with (go_at_call 47; refine (from_none 0 cap a _).mono ?_; rintro e w1 ⟨rfl, rfl⟩)
  go_wp2
  go_ret
  exact ⟨rfl, rfl⟩

/-- One text, told as such. -/
theorem flat1 (s : ByteArray) : Sash.Sum.flat [s] = s.data.toList := by simp [Sash.Sum.flat]
theorem one_cells (w : World) (s : ByteArray) : ∀ (j : Nat) x, [s][j]? = some x → (w.alloc (.cells #[.string s] 9)).cell? ⟨w.heap.size, 0 + j, none⟩ = some (.string x) := by
  intro j y hj
  match j, hj with
  | 0, hj => simp at hj; subst hj; simp
theorem from_one (c : Nat) (s : ByteArray) (w : World) (hc : c < 65536) (hs : s.size ≤ 1000000) :
    Calls Tryd.prog 47 #[.int .u16 (c : Int), .slice (some ⟨w.heap.size, 0, none⟩) 1 1] (w.alloc (.cells #[.string s] 9)) fun e w' => e = .returned (.int .u16 ((sumF c s.data.toList : Nat) : Int)) ∧ Below w.heap.size w w' := by
  refine (from_any c w.heap.size 0 1 [s] _ hc (by simp) (by simpa using hs) (one_cells w s)).mono ?_
  rintro e w1 ⟨rfl, rfl⟩
  exact ⟨by rw [flat1], (Below.refl _ w).alloc (Nat.le_refl _) _⟩
theorem of_one (s : ByteArray) (w : World) (hs : s.size ≤ 1000000) :
    Calls Tryd.prog 33 #[.slice (some ⟨w.heap.size, 0, none⟩) 1 1] (w.alloc (.cells #[.string s] 9)) fun e w' => e = .returned (.int .u16 ((sumF 0 s.data.toList : Nat) : Int)) ∧ Below w.heap.size w w' := by
  refine (of_any w.heap.size 0 1 [s] _ (by simp) (by simpa using hs) (one_cells w s)).mono ?_
  rintro e w1 ⟨rfl, rfl⟩
  exact ⟨by rw [flat1], (Below.refl _ w).alloc (Nat.le_refl _) _⟩

set_option maxHeartbeats 400000 in
set_option maxRecDepth 100000 in
theorem refFrom_any (c : Nat) (s : ByteArray) (w : World) (hc : c < 65536) (hs : s.size ≤ 1000000) :
    Calls Tryd.prog 35 #[.int .u16 (c : Int), .string s] w fun e w' => e = .returned (.int .u16 ((sumF c s.data.toList : Nat) : Int)) ∧ w = w' := by
  go_enter Tryd.func35, Tryd.ntmps35
  go_wp2
  go_loop [5, 6] (fun n i => ∃ (m : Nat), m ≤ s.size ∧ i = .int .i64 m ∧ n = .int .i64 ((sumF c (s.data.toList.take m) : Nat) : Int)) (fun _ i => s.size - (intOf i).toNat)
  case atStart => exact ⟨0, Nat.zero_le _, rfl, rfl⟩
  case round =>
    obtain ⟨m, hm, rfl, rfl⟩ := hrel
    have hs2 := sumF_lt (s.data.toList.take m) c hc
    by_cases hml : m < s.size
    · have HS := Lib.hid (bsumF_take c s m hml)
      have hb8 := (s[m]'hml).toNat_lt
      go_wp2
      go_round
      case rel => exact ⟨m + 1, by omega, by go_num, by rw [HS.out]; congr 1⟩
      case measure => simp [intOf]; omega
    · have HT := Lib.hid (show s.data.toList.take m = s.data.toList from List.take_of_length_le (by simp; omega))
      rw [HT.out] at hs2 ⊢
      go_wp2
      go_ret
      exact ⟨rfl, rfl⟩

set_option maxHeartbeats 400000 in
set_option maxRecDepth 100000 in
theorem put_any (s : ByteArray) (w : World) (hs : s.size ≤ 1000000) :
    Calls Tryd.prog 20 #[.string s] w fun e w' => e = .returned (.string ⟨(putL s.data.toList).toArray⟩) ∧ Below w.heap.size w w' := by
  have hlt := sumF_lt s.data.toList 0 (by omega)
  have hsz : (⟨(hex4 (sumF 0 s.data.toList)).toArray⟩ : ByteArray).size = 4 := rfl
  go_enter Tryd.func20, Tryd.ntmps20
  go_wp2_with (go_at_call 33; refine (of_one s w hs).mono ?_; rintro e w1 ⟨rfl, hb1⟩)
  go_wp2_with (go_at_call 32; refine (hex_any _ _ hlt).mono ?_; rintro e w2 ⟨rfl, hb2⟩)
  go_wp2
  go_ret
  exact ⟨ret_str (by apply ByteArray.ext; simp [putL]), hb1.trans (hb2.mono hb1.size)⟩

set_option maxHeartbeats 400000 in
set_option maxRecDepth 100000 in
theorem refPut_any (s : ByteArray) (w : World) (hs : s.size ≤ 1000000) :
    Calls Tryd.prog 22 #[.string s] w fun e w' => e = .returned (.string ⟨(putL s.data.toList).toArray⟩) ∧ w = w' := by
  have hlt := sumF_lt s.data.toList 0 (by omega)
  have hsz : (⟨(hex4 (sumF 0 s.data.toList)).toArray⟩ : ByteArray).size = 4 := rfl
  go_enter Tryd.func22, Tryd.ntmps22
  go_wp2_with (go_at_call 35; refine (refFrom_any 0 s w (by omega) hs).mono ?_; rintro e w1 ⟨rfl, rfl⟩)
  go_wp2_with (go_at_call 34; refine (refHex_any _ _ hlt).mono ?_; rintro e w2 ⟨rfl, rfl⟩)
  go_wp2
  go_ret
  exact ⟨ret_str (by apply ByteArray.ext; simp [putL]), rfl⟩
end Go.Proofs.YthnoogmjlkgnbaaDoor
