/- Texts of this seat, 3 in one file. -/
import Derived.Test.YtbelpnfgdjnpoaaGreatDoorG23
import Derived.Test.YtbelpnfgdjnpoaaGreatDoorG20
import Derived.Test.YtbelpnfgdjnpoaaGreatDoorG21
import Derived.Test.YtbelpnfgdjnpoaaGreatDoorG05
/- Does a tree tile? The document's answer, as a Bool. -/
namespace Go.Proofs.YtbelpnfgdjnpoaaGreatDoor
open Go.RowKit

/-- Does a tree tile: the document's. -/
theorem rtiles8_any (t : T) (c : C) (w : World) (hi : Is w c t) (hs : sz t ≤ 20000) : Calls Tryz.prog 19 #[cval c] w fun e w' => e = .returned (.bool (tileB t)) ∧ Below w.heap.size w w' := by
  have HA : Hid (Below w.heap.size w (w.alloc (cbox c))) := (Below.refl _ _).alloc (Nat.le_refl _) _
  have hmi := may_is (t := t) (by omega)
  have HCK : Hid (Calls Tryz.prog 42 #[cval c] (w.alloc (cbox c)) fun e w' => ∃ (v : Value) (no pl : Int), e = .returned (.tuple #[v, .int .i64 no, .int .i64 pl]) ∧ (no == 0) = tileB t ∧ Below w.heap.size w w') := Lib.hid ((rcheck_any t c (w.alloc (cbox c)) (hi.up HA.out) hs).mono fun e w' h => by
    obtain ⟨v, no, pl, l, h1, -, h3, h4⟩ := h
    refine ⟨v, no, pl, h1, ?_, below_one h3⟩
    unfold tileB
    rw [hmi]
    rcases h4 with ⟨a, rfl, -, -⟩ | ⟨a, b, rfl, -, -⟩ | ⟨a, b, rfl, -, -⟩
    · rw [a]; rfl
    · rw [a, b]; rfl
    · rw [a, b]; rfl)
  clear hi hmi
  generalize tileB t = tb at HCK ⊢
  go_enter Tryz.func19, Tryz.ntmps19
  go_wp2_with fail
  refine HCK.out.mono ?_
  rintro e w2 ⟨v, no, pl, rfl, hno, hb2⟩
  have B2 := Lib.hid hb2
  clear hb2
  go_wp2
  go_ret
  exact ⟨by first | (rw [hno]; rfl) | rfl, B2.out⟩
end Go.Proofs.YtbelpnfgdjnpoaaGreatDoor
/- The document reads a whole body, a text. -/
namespace Go.Proofs.YtbelpnfgdjnpoaaGreatDoor
open Go.RowKit

/-- A tree and its error's number and place, as they are answered. -/
def WhSays (S : List UInt8) (off : Int) (w : World) (e : Ending) (w' : World) : Prop :=
  Below w.heap.size w w' ∧ ((∃ no pl : Int, WholeR S off (.no no pl) ∧ no ≠ 0 ∧ e = .returned (.tuple #[cval zC, .int .i64 no, .int .i64 pl])) ∨
    ∃ (t : T) (d : C) (Bd : List Nat), WholeR S off (.yes t) ∧ e = .returned (.tuple #[cval d, .int .i64 0, .int .i64 0]) ∧ OwnT w' w.heap.size d t Bd)
theorem results_w3 {fn : Func} {p u v : Tmp} (h : fn.results = #[.cell p 27, .tmp u, .tmp v]) (tmps : Array Value) (w : World) (g : Nat) (c : C) (hp : tmps.getD p undef = .pointer (some ⟨g, 0, none⟩)) (hg : Box7 w g c) :
    (results fn tmps).run Tryz.prog w = .ok (.tuple #[cval c, tmps.getD u undef, tmps.getD v undef]) w := by
  have hg' : w.heap[g]? = some (cbox c) := hg
  have hl := run_loadVar_row (P := Tryz.prog) w g 27 27 _ (0, 0) _ hg' Tryz.underlying27 rfl (by kernel_rfl)
  have h0 : (results fn tmps).run Tryz.prog w = ((asAddr (tmps.getD p undef)).run Tryz.prog w).andThen fun a w₁ => ((loadVar 27 a).run Tryz.prog w₁).andThen fun x w₂ => .ok (.tuple #[x, tmps.getD u undef, tmps.getD v undef]) w₂ := by
    simp only [results, h]
    simp [Sem.run_bind, Result.andThen]
  rw [h0, hp]
  simp [asAddr, hl, Result.andThen]

set_option maxRecDepth 100000 in
set_option maxHeartbeats 8000000 in
theorem rwhole_any (s : ByteArray) (off : Nat) (w : World) (hs : s.size ≤ 100000) (ho : off ≤ 100) :
    Calls Tryz.prog 31 #[.string s, .int .i64 (off : Int)] w (WhSays s.data.toList off w) := by
  have hSL : s.data.toList.length = s.size := by simp
  have HR := Lib.hid (fun W => rcell_any s hs (s.size + 1) 0 1 W (by omega) (by omega) (by omega))
  generalize s.data.toList = S at HR hSL
  have HSL := Lib.hid hSL
  clear hSL
  go_enter Tryz.func31, Tryz.ntmps31
  go_wp2_with fail
  refine (HR.out _).mono ?_
  rintro e w2 ⟨hb2, ⟨er, x, hrd, hne, rfl⟩ | ⟨t, d, Bd, x, hrd, rfl, hown, hnd⟩⟩
  · have HRD := Lib.hid hrd
    have Z4 := Lib.hid ((((Box7.new w zC).up ((Below.refl _ _).alloc (Nat.le_refl _) (cbox zC))).up hb2).up ((Below.refl _ _).alloc (Nat.le_refl _) (pbox zC 0 er x)))
    have Z7 : Hid (Box7 (w2.alloc (pbox zC 0 er x)) (w.heap.size + 1) zC) := Lib.hid (by
      have h := Box7.new (w.alloc (cbox zC)) zC
      have h2 := (h.up hb2).up ((Below.refl _ _).alloc (Nat.le_refl _) (pbox zC 0 er x))
      simpa using h2)
    have Y8 := Lib.hid (Box10.new w2 zC 0 er x)
    have B2 : Hid (Below w.heap.size w (w2.alloc (pbox zC 0 er x))) := Lib.hid ((((((Below.refl _ _).alloc (Nat.le_refl _) (cbox zC)).alloc (by simp) (cbox zC)).trans (hb2.mono (by simp; omega)))).alloc (by have := hb2.size; simp at this; omega) _)
    have q : (er != 0) = true := by simp [hne]
    clear hb2 hrd
    go_upto_region 3 with (fail)
    change Code.wp _ _ _ _ (w2.alloc (pbox zC 0 er x))
    generalize w2.alloc (pbox zC 0 er x) = W3 at Z4 Z7 Y8 B2 ⊢
    generalize w2.heap.size = g8 at Y8 ⊢
    obtain ⟨y0, y1, y2, y3, y4, y5, y6, y7, y8, y9⟩ := Y8.out.cells
    go_upto_region 4 with (fail)
    clear y0 y1 y2 y3 y4 y5 y6 y7 y8 y9
    have Z4d := Lib.hid (Z4.out.up (Below.refl _ _).drew)
    have Z7d := Lib.hid (Z7.out.up (Below.refl _ _).drew)
    have Y8d := Lib.hid (Y8.out.up (Below.refl _ _).drew)
    obtain ⟨c0, c1, c2, c3, c4, c5, c6⟩ := Z7d.out.cat
    simp only [Nat.zero_add] at c1 c2 c3 c4 c5 c6
    obtain ⟨d0, d1, d2, d3, d4, d5, d6⟩ := Z4d.out.cat
    simp only [Nat.zero_add] at d1 d2 d3 d4 d5 d6
    have f0 := Z4d.out.free 0
    have f1 := Z4d.out.free 1
    have f2 := Z4d.out.free 2
    have f3 := Z4d.out.free 3
    have f4 := Z4d.out.free 4
    have f5 := Z4d.out.free 5
    have f6 := Z4d.out.free 6
    obtain ⟨y0, y1, y2, y3, y4, y5, y6, y7, y8, y9⟩ := Y8d.out.cells
    obtain ⟨e0, e1, e2, e3, e4, e5, e6⟩ := Z4.out.cat
    simp only [Nat.zero_add] at e1 e2 e3 e4 e5 e6
    have k0 := Z4.out.free 0
    have k1 := Z4.out.free 1
    have k2 := Z4.out.free 2
    have k3 := Z4.out.free 3
    have k4 := Z4.out.free 4
    have k5 := Z4.out.free 5
    have k6 := Z4.out.free 6
    obtain ⟨x0, x1, x2, x3, x4, x5, x6, x7, x8, x9⟩ := Y8.out.cells
    have HX : Hid (x ≤ s.size) := Lib.hid (by have h := HRD.out.place (Nat.zero_le _); have := HSL.out; omega)
    go_region
    all_goals
      go_wp2
      have hw : wrap64 ((x : Int) + (off : Int)) = (x : Int) + (off : Int) := by have := HX.out; unfold wrap64; omega
      refine bodyPost_ret (results_w3 rfl _ _ w.heap.size zC rfl ((Z4.out.put zC).up (Below.refl _ _).drew)) rfl ?_
      refine ⟨(below_put7 B2.out (Nat.le_refl _) zC).drew, .inl ⟨er, (x : Int) + (off : Int), .inl ⟨x, HRD.out, rfl⟩, hne, ?_⟩⟩
      show Ending.returned (.tuple #[cval zC, .int .i64 er, .int .i64 (wrap64 ((x : Int) + (off : Int)))]) = _
      rw [hw]
  · have hbk := hrd.back
    have HRD := Lib.hid hrd
    have HX : Hid (x ≤ s.size ∧ 9 * sz t ≤ s.size) := Lib.hid (by
      obtain ⟨t', e, hok, h2, h3, h4⟩ := hbk
      cases e
      have h5 := body_ge hok
      have h6 := congrArg List.length h2
      rw [List.drop_zero, List.length_append] at h6
      have := HSL.out
      omega)
    have Z4 := Lib.hid ((((Box7.new w zC).up ((Below.refl _ _).alloc (Nat.le_refl _) (cbox zC))).up hb2).up ((Below.refl _ _).alloc (Nat.le_refl _) (pbox d x 0 0)))
    have Z7 : Hid (Box7 (w2.alloc (pbox d x 0 0)) (w.heap.size + 1) zC) := Lib.hid (by
      have h := Box7.new (w.alloc (cbox zC)) zC
      have h2 := (h.up hb2).up ((Below.refl _ _).alloc (Nat.le_refl _) (pbox d x 0 0))
      simpa using h2)
    have Y8 := Lib.hid (Box10.new w2 d x 0 0)
    have B2 : Hid (Below w.heap.size w (w2.alloc (pbox d x 0 0))) := Lib.hid ((((((Below.refl _ _).alloc (Nat.le_refl _) (cbox zC)).alloc (by simp) (cbox zC)).trans (hb2.mono (by simp; omega)))).alloc (by have := hb2.size; simp at this; omega) _)
    have HO : Hid (OwnT (w2.alloc (pbox d x 0 0)) (w.heap.size + 2) d t Bd) := Lib.hid (by
      have h := hown.up ((Below.refl _ _).alloc (Nat.le_refl _) (pbox d x 0 0))
      simpa using h)
    clear hb2 hrd hbk hown hnd
    go_upto_region 3 with (fail)
    change Code.wp _ _ _ _ (w2.alloc (pbox d x 0 0))
    generalize w2.alloc (pbox d x 0 0) = W3 at Z4 Z7 Y8 B2 HO ⊢
    generalize w2.heap.size = g8 at Y8 ⊢
    obtain ⟨y0, y1, y2, y3, y4, y5, y6, y7, y8, y9⟩ := Y8.out.cells
    by_cases hlt : x < s.size
    · have q1 : decide ((x : Int) < (s.size : Int)) = true := decide_eq_true (by omega)
      have q2 : decide (x < s.size) = true := decide_eq_true hlt
      have q3 : (x < s.size) = True := eq_true hlt
      go_upto_region 6 with (fail)
      clear y0 y1 y2 y3 y4 y5 y6 y7 y8 y9
      have Z4d := Lib.hid (Z4.out.up (Below.refl _ _).drew)
      have Z7d := Lib.hid (Z7.out.up (Below.refl _ _).drew)
      have Y8d := Lib.hid (Y8.out.up (Below.refl _ _).drew)
      obtain ⟨c0, c1, c2, c3, c4, c5, c6⟩ := Z7d.out.cat
      simp only [Nat.zero_add] at c1 c2 c3 c4 c5 c6
      obtain ⟨d0, d1, d2, d3, d4, d5, d6⟩ := Z4d.out.cat
      simp only [Nat.zero_add] at d1 d2 d3 d4 d5 d6
      have f0 := Z4d.out.free 0
      have f1 := Z4d.out.free 1
      have f2 := Z4d.out.free 2
      have f3 := Z4d.out.free 3
      have f4 := Z4d.out.free 4
      have f5 := Z4d.out.free 5
      have f6 := Z4d.out.free 6
      obtain ⟨y0, y1, y2, y3, y4, y5, y6, y7, y8, y9⟩ := Y8d.out.cells
      obtain ⟨e0, e1, e2, e3, e4, e5, e6⟩ := Z4.out.cat
      simp only [Nat.zero_add] at e1 e2 e3 e4 e5 e6
      have k0 := Z4.out.free 0
      have k1 := Z4.out.free 1
      have k2 := Z4.out.free 2
      have k3 := Z4.out.free 3
      have k4 := Z4.out.free 4
      have k5 := Z4.out.free 5
      have k6 := Z4.out.free 6
      obtain ⟨x0, x1, x2, x3, x4, x5, x6, x7, x8, x9⟩ := Y8.out.cells
      go_region
      all_goals
        go_wp2
        have hw : wrap64 ((x : Int) + (off : Int)) = (x : Int) + (off : Int) := by have := HX.out; unfold wrap64; omega
        refine bodyPost_ret (results_w3 rfl _ _ w.heap.size zC rfl ((Z4.out.put zC).up (Below.refl _ _).drew)) rfl ?_
        refine ⟨(below_put7 B2.out (Nat.le_refl _) zC).drew, .inl ⟨2, (x : Int) + (off : Int), .inr (.inl ⟨[t], x, HRD.out, by have := HSL.out; omega, rfl, rfl⟩), by decide, ?_⟩⟩
        first
          | rfl
          | (show Ending.returned (.tuple #[cval zC, .int .i64 2, .int .i64 (wrap64 ((x : Int) + (off : Int)))]) = _
             rw [hw])
    · have q1 : decide ((x : Int) < (s.size : Int)) = false := decide_eq_false (by omega)
      have q2 : decide (x < s.size) = false := decide_eq_false hlt
      have q3 : (x < s.size) = False := eq_false hlt
      have HRL : Hid (Rd S (.cell 0 1) (.ok [t] S.length)) := Lib.hid (by have h : x = S.length := (by have := HX.out; have := HSL.out; omega); rw [← h]; exact HRD.out)
      have hsz : sz t ≤ 20000 := by have := HX.out; omega
      have KM := Lib.hid (rmayOne_any t d W3 hsz HO.out.is)
      rw [← may_is hsz] at KM
      go_wp2_with fail
      refine KM.out.mono ?_
      rintro e w4 ⟨rfl, hb4⟩
      have Z4b := Lib.hid (Z4.out.up hb4)
      have Z7b := Lib.hid (Z7.out.up hb4)
      have Y8b := Lib.hid (Y8.out.up hb4)
      have B4 := Lib.hid (B2.out.trans (hb4.mono B2.out.size))
      have HO4 := Lib.hid (HO.out.up hb4)
      clear hb4 y0 y1 y2 y3 y4 y5 y6 y7 y8 y9
      cases hm : mayT t with
      | false =>
        obtain ⟨c0, c1, c2, c3, c4, c5, c6⟩ := Z7b.out.cat
        simp only [Nat.zero_add] at c1 c2 c3 c4 c5 c6
        obtain ⟨e0, e1, e2, e3, e4, e5, e6⟩ := Z4b.out.cat
        simp only [Nat.zero_add] at e1 e2 e3 e4 e5 e6
        have k0 := Z4b.out.free 0
        have k1 := Z4b.out.free 1
        have k2 := Z4b.out.free 2
        have k3 := Z4b.out.free 3
        have k4 := Z4b.out.free 4
        have k5 := Z4b.out.free 5
        have k6 := Z4b.out.free 6
        obtain ⟨y0, y1, y2, y3, y4, y5, y6, y7, y8, y9⟩ := Y8b.out.cells
        go_wp2
        refine bodyPost_ret (results_w3 rfl _ _ w.heap.size zC rfl (Z4b.out.put zC)) rfl ?_
        exact ⟨below_put7 B4.out (Nat.le_refl _) zC, .inl ⟨1, 0, .inr (.inr (.inl ⟨t, HRL.out, hm, rfl, rfl⟩)), by decide, rfl⟩⟩
      | true =>
        have KT := Lib.hid (rtiles8_any t d w4 HO4.out.is hsz)
        have HM := Lib.hid hm
        clear hm
        obtain ⟨y0, y1, y2, y3, y4, y5, y6, y7, y8, y9⟩ := Y8b.out.cells
        go_wp2_with fail
        refine KT.out.mono ?_
        rintro e w5 ⟨rfl, hb5⟩
        have Z4c := Lib.hid (Z4b.out.up hb5)
        have Z7c := Lib.hid (Z7b.out.up hb5)
        have Y8c := Lib.hid (Y8b.out.up hb5)
        have B5 := Lib.hid (B4.out.trans (hb5.mono B4.out.size))
        have HO5 := Lib.hid (HO4.out.up hb5)
        clear hb5 y0 y1 y2 y3 y4 y5 y6 y7 y8 y9
        cases ht : tileB t with
        | false =>
          obtain ⟨c0, c1, c2, c3, c4, c5, c6⟩ := Z7c.out.cat
          simp only [Nat.zero_add] at c1 c2 c3 c4 c5 c6
          obtain ⟨e0, e1, e2, e3, e4, e5, e6⟩ := Z4c.out.cat
          simp only [Nat.zero_add] at e1 e2 e3 e4 e5 e6
          have k0 := Z4c.out.free 0
          have k1 := Z4c.out.free 1
          have k2 := Z4c.out.free 2
          have k3 := Z4c.out.free 3
          have k4 := Z4c.out.free 4
          have k5 := Z4c.out.free 5
          have k6 := Z4c.out.free 6
          obtain ⟨y0, y1, y2, y3, y4, y5, y6, y7, y8, y9⟩ := Y8c.out.cells
          go_wp2
          refine bodyPost_ret (results_w3 rfl _ _ w.heap.size zC rfl (Z4c.out.put zC)) rfl ?_
          exact ⟨below_put7 B5.out (Nat.le_refl _) zC, .inl ⟨5, 0, .inr (.inr (.inr ⟨t, HRL.out, HM.out, ht, rfl, rfl⟩)), by decide, rfl⟩⟩
        | true =>
          obtain ⟨c0, c1, c2, c3, c4, c5, c6⟩ := Z7c.out.cat
          simp only [Nat.zero_add] at c1 c2 c3 c4 c5 c6
          obtain ⟨e0, e1, e2, e3, e4, e5, e6⟩ := Z4c.out.cat
          simp only [Nat.zero_add] at e1 e2 e3 e4 e5 e6
          have k0 := Z4c.out.free 0
          have k1 := Z4c.out.free 1
          have k2 := Z4c.out.free 2
          have k3 := Z4c.out.free 3
          have k4 := Z4c.out.free 4
          have k5 := Z4c.out.free 5
          have k6 := Z4c.out.free 6
          obtain ⟨y0, y1, y2, y3, y4, y5, y6, y7, y8, y9⟩ := Y8c.out.cells
          go_wp2
          refine bodyPost_ret (results_w3 rfl _ _ w.heap.size d rfl (Z4c.out.put d)) rfl ?_
          refine ⟨below_put7 B5.out (Nat.le_refl _) d, .inr ⟨t, d, Bd, ⟨HRL.out, ht⟩, rfl, ?_⟩⟩
          exact (HO5.out.frame fun k hk => heap_put7 (by have := (HO5.out.ge k hk).1; omega)).lower (by omega)
end Go.Proofs.YtbelpnfgdjnpoaaGreatDoor
/- num's Hex and ReadHex, and the document's. -/
namespace Go.Proofs.YtbelpnfgdjnpoaaGreatDoor
open Go.RowKit Sash.Num

theorem and15 (x : Int) (h0 : 0 ≤ x) (h1 : x < 65536) : bits BinOp.and .u16 x 15 = x % 16 :=
  bits_mask .u16 16 (by decide) (fun n h₀ h₁ => by rw [IntKind.wrap_u16]; omega) 4 (by decide) x h0 h1

theorem or16 (x y : Int) (h0 : 0 ≤ x) (hm : x % 16 = 0) (h1 : x < 65536) (h2 : 0 ≤ y) (h3 : y < 16) : bits BinOp.or .u16 x y = x + y :=
  bits_join .u16 16 (by decide) (fun n h₀ h₁ => by rw [IntKind.wrap_u16]; omega) 4 x y h0 hm h1 h2 h3 (by omega)

theorem conv4 (w : World) (a b c d : UInt8) :
    (convert 73 9 (.slice (some ⟨w.heap.size, 0, none⟩) 4 4)).run Tryz.prog (w.alloc (.cells #[.int .u8 (a.toNat : Int), .int .u8 (b.toNat : Int), .int .u8 (c.toNat : Int), .int .u8 (d.toNat : Int)] 5)).drew = .ok (.string ⟨#[a, b, c, d]⟩) (w.alloc (.cells #[.int .u8 (a.toNat : Int), .int .u8 (b.toNat : Int), .int .u8 (c.toNat : Int), .int .u8 (d.toNat : Int)] 5)).drew :=
  run_convert_bytes_back _ 73 9 5 ⟨w.heap.size, 0, none⟩ 4 [a, b, c, d] Tryz.underlying73 Tryz.underlying5 Tryz.underlying9 (fun j hj => by
    match j, hj with
    | 0, _ => simp [Addr.add_lit]
    | 1, _ => simp [Addr.add_lit]
    | 2, _ => simp [Addr.add_lit]
    | 3, _ => simp [Addr.add_lit])

set_option maxHeartbeats 400000 in
set_option maxRecDepth 100000 in
theorem hex_any (n : Nat) (w : World) (hn : n < 65536) :
    Calls Tryz.prog 64 #[.int .u16 (n : Int)] w fun e w' => e = .returned (.string ⟨(hex4 n).toArray⟩) ∧ Below w.heap.size w w' := by
  have b0 : bits BinOp.and .u16 (n : Int) 15 = (n : Int) % 16 := and15 _ (by omega) (by omega)
  have b1 : bits BinOp.and .u16 ((n : Int) / 16) 15 = (n : Int) / 16 % 16 := and15 _ (by omega) (by omega)
  have b2 : bits BinOp.and .u16 ((n : Int) / 256) 15 = (n : Int) / 256 % 16 := and15 _ (by omega) (by omega)
  have l0 : (0 : Int) ≤ (n : Int) % 16 := by omega
  have l1 : (0 : Int) ≤ (n : Int) / 16 % 16 := by omega
  have l2 : (0 : Int) ≤ (n : Int) / 256 % 16 := by omega
  have l3 : (0 : Int) ≤ (n : Int) / 4096 := by omega
  have u0 : (n : Int) % 16 < 16 := by omega
  have u1 : (n : Int) / 16 % 16 < 16 := by omega
  have u2 : (n : Int) / 256 % 16 < 16 := by omega
  have u3 : (n : Int) / 4096 < 16 := by omega
  have hcv := conv4 w
  go_enter Tryz.func64, Tryz.ntmps64
  go_wp2
  go_region
  go_wp2
  go_ret
  refine ⟨ret_str ?_, ((Below.refl _ w).alloc (Nat.le_refl _) _).drew⟩
  unfold hex4
  rw [← hex_idx (n / 4096) (by omega) (by rw [hexS_size]; omega), ← hex_idx (n / 256 % 16) (by omega) (by rw [hexS_size]; omega), ← hex_idx (n / 16 % 16) (by omega) (by rw [hexS_size]; omega), ← hex_idx (n % 16) (by omega) (by rw [hexS_size]; omega)]
  rfl

set_option maxHeartbeats 400000 in
set_option maxRecDepth 100000 in
theorem hexValue_digit (r : Int) (w : World) (h0 : 48 ≤ r) (h1 : r ≤ 57) :
    Calls Tryz.prog 78 #[.int .i32 r] w fun e w' => e = .returned (.tuple #[.int .u16 (r - 48), .bool true]) ∧ w = w' := by
  have d0 : decide (48 ≤ r) = true := by simp; omega
  have d1 : decide (r ≤ 57) = true := by simp; omega
  go_enter Tryz.func78, Tryz.ntmps78
  go_wp2
  go_ret2
  exact ⟨rfl, rfl⟩

set_option maxHeartbeats 400000 in
set_option maxRecDepth 100000 in
theorem hexValue_letter (r : Int) (w : World) (h0 : 97 ≤ r) (h1 : r ≤ 102) :
    Calls Tryz.prog 78 #[.int .i32 r] w fun e w' => e = .returned (.tuple #[.int .u16 (r - 87), .bool true]) ∧ w = w' := by
  have d0 : decide (48 ≤ r) = true := by simp; omega
  have d1 : decide (r ≤ 57) = false := by simp; omega
  have d2 : decide (97 ≤ r) = true := by simp; omega
  have d3 : decide (r ≤ 102) = true := by simp; omega
  have HE := Lib.hid (show r - 97 + 10 = r - 87 by omega)
  go_enter Tryz.func78, Tryz.ntmps78
  go_wp2
  go_ret2
  exact ⟨retIB HE.out, rfl⟩

set_option maxHeartbeats 400000 in
set_option maxRecDepth 100000 in
theorem hexValue_no (r : Int) (w : World) (h : r < 48 ∨ (57 < r ∧ r < 97) ∨ 102 < r) :
    Calls Tryz.prog 78 #[.int .i32 r] w fun e w' => e = .returned (.tuple #[.int .u16 0, .bool false]) ∧ w = w' := by
  rcases h with h | ⟨h, h'⟩ | h
  · have d0 : decide (48 ≤ r) = false := by simp; omega
    have d2 : decide (97 ≤ r) = false := by simp; omega
    go_enter Tryz.func78, Tryz.ntmps78
    go_wp2
    go_ret2
    exact ⟨rfl, rfl⟩
  · have d0 : decide (48 ≤ r) = true := by simp; omega
    have d1 : decide (r ≤ 57) = false := by simp; omega
    have d2 : decide (97 ≤ r) = false := by simp; omega
    go_enter Tryz.func78, Tryz.ntmps78
    go_wp2
    go_ret2
    exact ⟨rfl, rfl⟩
  · have d0 : decide (48 ≤ r) = true := by simp; omega
    have d1 : decide (r ≤ 57) = false := by simp; omega
    have d2 : decide (97 ≤ r) = true := by simp; omega
    have d3 : decide (r ≤ 102) = false := by simp; omega
    go_enter Tryz.func78, Tryz.ntmps78
    go_wp2
    go_ret2
    exact ⟨rfl, rfl⟩

set_option maxHeartbeats 400000 in
set_option maxRecDepth 100000 in
theorem readHex_yes (s : ByteArray) (w : World) (hs : s.size = 4) (ha : ∀ c ∈ s.data.toList, hexv c < 16) :
    Calls Tryz.prog 51 #[.string s] w fun e w' => e = .returned (.tuple #[.int .u16 (rhV s.data.toList), .int .i64 0]) ∧ Below w.heap.size w w' := by
  have q0 : ((s.size : Int) != 4) = false := by simp; omega
  have HA := Lib.hid ha
  have HZ := Lib.hid hs
  have hs4 : s.size ≤ 4 := by omega
  clear ha hs
  go_enter Tryz.func51, Tryz.ntmps51
  go_wp2
  go_loopw [4] (fun n wr => ∃ pos : Nat, pos ≤ s.size ∧ n = .int .u16 (rhV (s.data.toList.take pos)) ∧ wr = w.iter s pos) (fun _ wr => s.size - wr.iterPos w.heap.size)
  case atStart => exact ⟨0, Nat.zero_le _, rfl, rfl⟩
  case round =>
    obtain ⟨pos, hp, rfl, rfl⟩ := hrel
    by_cases hlt : pos < s.size
    · have hlt' : pos < s.data.toList.length := by simpa using hlt
      have hv := HA.out s[pos] (List.getElem_mem hlt')
      have hrl := rhV_lt (s.data.toList.take pos) (fun c hc => HA.out c (List.mem_of_mem_take hc))
      have hpl : (s.data.toList.take pos).length = pos := by simp; omega
      have hp3 : 16 ^ pos ≤ 16 ^ 3 := Nat.pow_le_pow_right (by decide) (by omega)
      have hr : rhV (s.data.toList.take pos) < 4096 := by rw [hpl] at hrl; omega
      have HS := Lib.hid (rhV_take s.data.toList pos hlt')
      clear hrl hpl hp3
      have hcase : (48 ≤ s[pos].toNat ∧ s[pos].toNat ≤ 57 ∧ hexv s[pos] = s[pos].toNat - 48) ∨ (97 ≤ s[pos].toNat ∧ s[pos].toNat ≤ 102 ∧ hexv s[pos] = s[pos].toNat - 87) := by
        unfold hexv at hv ⊢
        split at hv
        · rename_i h; left; rw [if_pos h]; exact ⟨h.1, h.2, rfl⟩
        · rename_i h
          rw [if_neg h]
          split at hv
          · rename_i h2; right; rw [if_pos h2]; exact ⟨h2.1, h2.2, rfl⟩
          · omega
      have hnx : ∀ ty, (Instr.next (.pointer (some ⟨w.heap.size, 0, none⟩)) true ty).run Tryz.prog (w.iter s pos) = _ := fun ty => run_next_ascii w s pos ty hlt (by omega)
      rcases hcase with ⟨h1, h2, h3⟩ | ⟨h1, h2, h3⟩
      · have HV := Lib.hid h3
        clear h3
        go_wp2_with (go_at_call 78; refine (hexValue_digit _ _ (by omega) (by omega)).mono ?_; rintro e w1 ⟨rfl, rfl⟩)
        go_roundw
        case rel => exact ⟨pos + 1, by omega, by rw [or16 _ _ (by omega) (by omega) (by omega) (by omega) (by omega), HS.out]; congr 1; have := HV.out; show _ = ((rhV _ * 16 + hexv s[pos] : Nat) : Int); rw [this]; omega, rfl⟩
        case measure => simp; omega
      · have HV := Lib.hid h3
        clear h3
        go_wp2_with (go_at_call 78; refine (hexValue_letter _ _ (by omega) (by omega)).mono ?_; rintro e w1 ⟨rfl, rfl⟩)
        go_roundw
        case rel => exact ⟨pos + 1, by omega, by rw [or16 _ _ (by omega) (by omega) (by omega) (by omega) (by omega), HS.out]; congr 1; have := HV.out; show _ = ((rhV _ * 16 + hexv s[pos] : Nat) : Int); rw [this]; omega, rfl⟩
        case measure => simp; omega
    · have hnx : ∀ ty, (Instr.next (.pointer (some ⟨w.heap.size, 0, none⟩)) true ty).run Tryz.prog (w.iter s pos) = _ := fun ty => run_next_end w s pos ty hlt
      go_wp2
      go_ret2
      exact ⟨ret2 (by rw [List.take_of_length_le (by simp; omega)]) rfl, (Below.refl _ w).alloc (Nat.le_refl _) _⟩

set_option maxHeartbeats 400000 in
set_option maxRecDepth 100000 in
theorem readHex_size (s : ByteArray) (w : World) (hs : s.size ≠ 4) :
    Calls Tryz.prog 51 #[.string s] w fun e w' => e = .returned (.tuple #[.int .u16 0, .int .i64 2]) ∧ Below w.heap.size w w' := by
  have q0 : ((s.size : Int) != 4) = true := by simp; omega
  go_enter Tryz.func51, Tryz.ntmps51
  go_wp2
  go_ret2
  exact ⟨rfl, Below.refl _ _⟩

theorem hexv_lt {c : UInt8} (hv : hexv c < 16) : (48 ≤ c.toNat ∧ c.toNat ≤ 57 ∧ hexv c = c.toNat - 48) ∨ (97 ≤ c.toNat ∧ c.toNat ≤ 102 ∧ hexv c = c.toNat - 87) := by
  unfold hexv at hv ⊢
  split at hv
  · rename_i h; left; rw [if_pos h]; exact ⟨h.1, h.2, rfl⟩
  · rename_i h
    rw [if_neg h]
    split at hv
    · rename_i h2; right; rw [if_pos h2]; exact ⟨h2.1, h2.2, rfl⟩
    · omega
theorem hexv_ge {c : UInt8} (hv : ¬ hexv c < 16) : c.toNat < 48 ∨ (57 < c.toNat ∧ c.toNat < 97) ∨ 102 < c.toNat := by
  unfold hexv at hv
  split at hv
  · omega
  · split at hv <;> omega

set_option maxHeartbeats 400000 in
set_option maxRecDepth 100000 in
theorem readHex_no (s : ByteArray) (w : World) (hs : s.size = 4) (i : Nat) (hi : i < s.size) (hbad : ¬ hexv s[i] < 16) :
    Calls Tryz.prog 51 #[.string s] w fun e w' => e = .returned (.tuple #[.int .u16 0, .int .i64 2]) ∧ Below w.heap.size w w' := by
  have q0 : ((s.size : Int) != 4) = false := by simp; omega
  have hs4 : s.size ≤ 4 := by omega
  have HB := Lib.hid hbad
  clear hs hbad
  go_enter Tryz.func51, Tryz.ntmps51
  go_wp2
  go_loopw [4] (fun n wr => ∃ pos : Nat, pos ≤ i ∧ n = .int .u16 (rhV (s.data.toList.take pos)) ∧ rhV (s.data.toList.take pos) < 16 ^ pos ∧ wr = w.iter s pos) (fun _ wr => s.size - wr.iterPos w.heap.size)
  case atStart => exact ⟨0, Nat.zero_le _, rfl, by simp [rhV], rfl⟩
  case round =>
    obtain ⟨pos, hp, rfl, hrl, rfl⟩ := hrel
    have hlt : pos < s.size := by omega
    have hlt' : pos < s.data.toList.length := by simpa using hlt
    by_cases hv : hexv s[pos] < 16
    · have hne : pos ≠ i := by intro e; subst e; exact HB.out hv
      have hp3 : 16 ^ pos ≤ 16 ^ 3 := Nat.pow_le_pow_right (by decide) (by omega)
      have hr : rhV (s.data.toList.take pos) < 4096 := by omega
      have HS := Lib.hid (rhV_take s.data.toList pos hlt')
      have HL : Hid (rhV (s.data.toList.take (pos + 1)) < 16 ^ (pos + 1)) := by
        have := HS.out
        have hv2 : hexv s.data.toList[pos] < 16 := hv
        show rhV (s.data.toList.take (pos + 1)) < 16 ^ (pos + 1)
        rw [this, Nat.pow_succ]; omega
      clear hrl hp3
      have hcase := hexv_lt hv
      have hnx : ∀ ty, (Instr.next (.pointer (some ⟨w.heap.size, 0, none⟩)) true ty).run Tryz.prog (w.iter s pos) = _ := fun ty => run_next_ascii w s pos ty hlt (by omega)
      rcases hcase with ⟨h1, h2, h3⟩ | ⟨h1, h2, h3⟩
      · have HV := Lib.hid h3
        clear h3
        go_wp2_with (go_at_call 78; refine (hexValue_digit _ _ (by omega) (by omega)).mono ?_; rintro e w1 ⟨rfl, rfl⟩)
        go_roundw
        case rel => exact ⟨pos + 1, by omega, by rw [or16 _ _ (by omega) (by omega) (by omega) (by omega) (by omega), HS.out]; congr 1; have := HV.out; show _ = ((rhV _ * 16 + hexv s[pos] : Nat) : Int); rw [this]; omega, HL.out, rfl⟩
        case measure => simp; omega
      · have HV := Lib.hid h3
        clear h3
        go_wp2_with (go_at_call 78; refine (hexValue_letter _ _ (by omega) (by omega)).mono ?_; rintro e w1 ⟨rfl, rfl⟩)
        go_roundw
        case rel => exact ⟨pos + 1, by omega, by rw [or16 _ _ (by omega) (by omega) (by omega) (by omega) (by omega), HS.out]; congr 1; have := HV.out; show _ = ((rhV _ * 16 + hexv s[pos] : Nat) : Int); rw [this]; omega, HL.out, rfl⟩
        case measure => simp; omega
    · have hcase := hexv_ge hv
      clear hrl
      by_cases ha : (s[pos]'hlt).toNat < 128
      · have hnx : ∀ ty, (Instr.next (.pointer (some ⟨w.heap.size, 0, none⟩)) true ty).run Tryz.prog (w.iter s pos) = _ := fun ty => run_next_ascii w s pos ty hlt ha
        go_wp2_with (go_at_call 78; refine (hexValue_no _ _ (by omega)).mono ?_; rintro e w1 ⟨rfl, rfl⟩)
        go_ret2
        exact ⟨rfl, (Below.refl _ w).alloc (Nat.le_refl _) _⟩
      · have hnx : ∀ ty, (Instr.next (.pointer (some ⟨w.heap.size, 0, none⟩)) true ty).run Tryz.prog (w.iter s pos) = _ := fun ty => run_next_any w s pos ty hlt
        have hd := (decode_high s pos hlt (by omega)).1
        have hd1 := decode_le s pos
        go_wp2_with (go_at_call 78; refine (hexValue_no _ _ (by omega)).mono ?_; rintro e w1 ⟨rfl, rfl⟩)
        go_ret2
        exact ⟨rfl, (Below.refl _ w).alloc (Nat.le_refl _) _⟩

theorem quiet_same {P : Program} {f : FuncId} {args : Array Value} {w : World} {n : Nat} {v : Value}
    (h : Calls P f args (w.drewN n) fun e w' => e = .returned v ∧ w.drewN n = w') : Calls P f args (w.drewN n) fun e w'' => e = .returned v ∧ ∃ m, w'' = w.drewN m :=
  h.mono fun _ _ ⟨he, hm⟩ => ⟨he, n, hm.symm⟩
def dcur (v m : Nat) : Int := if v < m then (v : Int) else -1
theorem ext1 (s : ByteArray) (k : Nat) (h : k < s.size) : s.extract k (k + 1) = ⟨#[s[k]]⟩ := by
  apply ByteArray.ext
  apply Array.ext'
  rw [Lib.extract_data, Nat.add_sub_cancel_left, List.take_one, List.head?_drop, List.getElem?_eq_getElem (by simpa using h)]
  rfl
theorem hexc_iff_fin : ∀ k : Fin 16, ∀ c : Fin 256, hexc k.val = UInt8.ofNat c.val ↔ hexv (UInt8.ofNat c.val) = k.val := by decide +kernel
theorem hexc_iff (k : Nat) (h : k < 16) (c : UInt8) : hexc k = c ↔ hexv c = k := by
  have := hexc_iff_fin ⟨k, h⟩ ⟨c.toNat, c.toNat_lt⟩
  simpa using this
theorem eq_hex (s : ByteArray) (k m : Nat) (hk : k < s.size) (hm : m < 16) : ([hexc m] == (s.extract k (k + 1)).toList) = decide (hexv s[k] = m) := by
  rw [ext1 s k hk, Lib.toList_data, Bool.eq_iff_iff, beq_iff_eq, decide_eq_true_iff, ← hexc_iff m hm]
  simp
theorem dcur_yes (v m : Nat) (h : v = m) : dcur v (m + 1) = m := by unfold dcur; rw [if_pos (by omega), h]
theorem dcur_no (v m : Nat) (h : v ≠ m) : dcur v (m + 1) = dcur v m := by
  unfold dcur
  by_cases h2 : v < m
  · rw [if_pos h2, if_pos (by omega)]
  · rw [if_neg h2, if_neg (by omega)]
theorem rh_bound (s : ByteArray) (k : Nat) (h : ∀ c ∈ s.data.toList, hexv c < 16) (hk : k ≤ s.size) : rhV (s.data.toList.take k) < 16 ^ k := by
  have := rhV_lt (s.data.toList.take k) (fun c hc => h c (List.mem_of_mem_take hc))
  rwa [List.length_take, Nat.min_eq_left (by simpa using hk)] at this
theorem str4 (a b c d : UInt8) : (⟨#[a]⟩ : ByteArray) ++ ⟨#[b]⟩ ++ ⟨#[c]⟩ ++ ⟨#[d]⟩ = ⟨#[a, b, c, d]⟩ := by
  apply ByteArray.ext; simp

set_option maxHeartbeats 400000 in
set_option maxRecDepth 100000 in
theorem refHex_any (n : Nat) (w : World) (hn : n < 65536) :
    Calls Tryz.prog 39 #[.int .u16 (n : Int)] w fun e w' => e = .returned (.string ⟨(hex4 n).toArray⟩) ∧ w = w' := by
  go_enter Tryz.func39, Tryz.ntmps39
  go_wp2_with (go_at_call 65; refine (refDigit_any _ _ (by omega) (by omega)).mono ?_; rintro e w1 ⟨rfl, rfl⟩)
  go_ret
  exact ⟨ret_str (str4 _ _ _ _), rfl⟩

set_option maxHeartbeats 400000 in
set_option maxRecDepth 100000 in
theorem refReadHex_size (s : ByteArray) (w : World) (hs : s.size ≠ 4) :
    Calls Tryz.prog 56 #[.string s] w fun e w' => e = .returned (.tuple #[.int .u16 0, .bool false]) ∧ Below w.heap.size w w' := by
  have q0 : ((s.size : Int) != 4) = true := by simp; omega
  go_enter Tryz.func56, Tryz.ntmps56
  go_wp2
  go_ret2
  exact ⟨rfl, Below.refl _ _⟩

set_option maxHeartbeats 400000 in
set_option maxRecDepth 100000 in
theorem refReadHex_yes (s : ByteArray) (w : World) (hs : s.size = 4) (ha : ∀ c ∈ s.data.toList, hexv c < 16) :
    Calls Tryz.prog 56 #[.string s] w fun e w' => e = .returned (.tuple #[.int .u16 (rhV s.data.toList), .bool true]) ∧ Below w.heap.size w w' := by
  have q0 : ((s.size : Int) != 4) = false := by simp; omega
  have HA := Lib.hid ha
  have hs4 : s.size ≤ 4 := by omega
  have hs5 : 4 ≤ s.size := by omega
  clear ha hs
  go_enter Tryz.func56, Tryz.ntmps56
  go_wp2
  go_loopw [4, 5] (fun x i wr => ∃ k : Nat, k ≤ 4 ∧ i = .int .i64 k ∧ x = .int .i64 (rhV (s.data.toList.take k)) ∧ Below w.heap.size w wr) (fun _ i _ => 4 - (intOf i).toNat)
  case atStart => exact ⟨0, by omega, rfl, rfl, Below.refl _ _⟩
  case round =>
    obtain ⟨k, hk, rfl, rfl, hb⟩ := hrel
    have hk4 : k ≤ s.size := by omega
    have hr := rh_bound s k HA.out hk4
    by_cases hlt : k < 4
    · have hlt' : k < s.data.toList.length := by simp; omega
      have HS := Lib.hid (rhV_take s.data.toList k hlt')
      go_wp2
      go_loopw [6, 7] (fun d j wr2 => ∃ m : Nat, m ≤ 16 ∧ j = .int .i64 m ∧ d = .int .i64 (dcur (hexv (s[k]'(by omega))) m) ∧ Below w.heap.size w wr2) (fun _ j _ => 16 - (intOf j).toNat)
      case atStart => exact ⟨0, by omega, rfl, rfl, hb⟩
      case round =>
        obtain ⟨m, hm, rfl, rfl, hb2⟩ := hrel
        by_cases hm16 : m < 16
        · go_wp2
          go_quiet ((go_at_call 65; exact quiet_same (refDigit_any _ _ (by omega) (by omega))))
          have hbq : Below w.heap.size w (wr.drewN nq) := hb2.trans ⟨rfl, rfl, rfl, Nat.le_refl _, fun _ _ => rfl⟩
          generalize wr.drewN nq = w3 at *
          have HQ := Lib.hid (eq_hex s k m (by omega) hm16)
          go_wp2
          · rename_i ht
            rw [HQ.out] at ht
            have HY := Lib.hid (dcur_yes _ _ (of_decide_eq_true ht))
            go_roundw
            case rel => exact ⟨m + 1, by omega, by go_num, by rw [HY.out], hbq⟩
            case measure => simp [intOf]; omega
          · rename_i ht
            rw [HQ.out] at ht
            have HY := Lib.hid (dcur_no _ _ (of_decide_eq_false ht))
            go_roundw
            case rel => exact ⟨m + 1, by omega, by go_num, by rw [HY.out], hbq⟩
            case measure => simp [intOf]; omega
        · have hme : m = 16 := by omega
          subst hme
          have hv := HA.out (s[k]'(by omega)) (List.getElem_mem hlt')
          have hdv : dcur (hexv (s[k]'(by omega))) 16 = (hexv (s[k]'(by omega)) : Int) := by unfold dcur; rw [if_pos hv]
          rw [hdv]
          have HD := Lib.hid hdv
          clear hdv
          have hp3 : rhV (s.data.toList.take k) < 4096 := by
            have : 16 ^ k ≤ 16 ^ 3 := Nat.pow_le_pow_right (by decide) (by omega)
            omega
          have d6 : decide (((hexv (s[k]'(by omega)) : Nat) : Int) < 0) = false := by simp
          clear hr
          go_wp2
          go_roundw
          case rel => exact ⟨k + 1, by omega, by go_num, by rw [HS.out]; congr 1; show _ = ((_ * 16 + hexv s[k] : Nat) : Int); omega, hb2⟩
          case measure => simp [intOf]; omega
    · have hke : k = 4 := by omega
      have HT := Lib.hid (show s.data.toList.take k = s.data.toList from List.take_of_length_le (by simp; omega))
      rw [HT.out]
      rw [HT.out] at hr
      have hr2 : rhV s.data.toList < 65536 := by rw [hke] at hr; omega
      clear hr hke
      go_wp2
      go_ret2
      exact ⟨rfl, hb⟩

set_option maxHeartbeats 400000 in
set_option maxRecDepth 100000 in
theorem refReadHex_no (s : ByteArray) (w : World) (hs : s.size = 4) (p : Nat) (hi : p < s.size) (hbad : ¬ hexv s[p] < 16) :
    Calls Tryz.prog 56 #[.string s] w fun e w' => e = .returned (.tuple #[.int .u16 0, .bool false]) ∧ Below w.heap.size w w' := by
  have q0 : ((s.size : Int) != 4) = false := by simp; omega
  have hs4 : s.size ≤ 4 := by omega
  have hs5 : 4 ≤ s.size := by omega
  have HB := Lib.hid hbad
  clear hs hbad
  go_enter Tryz.func56, Tryz.ntmps56
  go_wp2
  go_loopw [4, 5] (fun x i wr => ∃ k : Nat, k ≤ 4 ∧ i = .int .i64 k ∧ x = .int .i64 (rhV (s.data.toList.take k)) ∧ Below w.heap.size w wr ∧ k ≤ p ∧ rhV (s.data.toList.take k) < 16 ^ k) (fun _ i _ => 4 - (intOf i).toNat)
  case atStart => exact ⟨0, by omega, rfl, rfl, Below.refl _ _, Nat.zero_le _, by simp [rhV]⟩
  case round =>
    obtain ⟨k, hk, rfl, rfl, hb, hki, hr0⟩ := hrel
    have hk4 : k ≤ s.size := by omega
    have hr := hr0
    have hlt : k < 4 := by omega
    · have hlt' : k < s.data.toList.length := by simp; omega
      have HS := Lib.hid (rhV_take s.data.toList k hlt')
      go_wp2
      go_loopw [6, 7] (fun d j wr2 => ∃ m : Nat, m ≤ 16 ∧ j = .int .i64 m ∧ d = .int .i64 (dcur (hexv (s[k]'(by omega))) m) ∧ Below w.heap.size w wr2) (fun _ j _ => 16 - (intOf j).toNat)
      case atStart => exact ⟨0, by omega, rfl, rfl, hb⟩
      case round =>
        obtain ⟨m, hm, rfl, rfl, hb2⟩ := hrel
        by_cases hm16 : m < 16
        · go_wp2
          go_quiet ((go_at_call 65; exact quiet_same (refDigit_any _ _ (by omega) (by omega))))
          have hbq : Below w.heap.size w (wr.drewN nq) := hb2.trans ⟨rfl, rfl, rfl, Nat.le_refl _, fun _ _ => rfl⟩
          generalize wr.drewN nq = w3 at *
          have HQ := Lib.hid (eq_hex s k m (by omega) hm16)
          go_wp2
          · rename_i ht
            rw [HQ.out] at ht
            have HY := Lib.hid (dcur_yes _ _ (of_decide_eq_true ht))
            go_roundw
            case rel => exact ⟨m + 1, by omega, by go_num, by rw [HY.out], hbq⟩
            case measure => simp [intOf]; omega
          · rename_i ht
            rw [HQ.out] at ht
            have HY := Lib.hid (dcur_no _ _ (of_decide_eq_false ht))
            go_roundw
            case rel => exact ⟨m + 1, by omega, by go_num, by rw [HY.out], hbq⟩
            case measure => simp [intOf]; omega
        · have hme : m = 16 := by omega
          subst hme
          by_cases hv : hexv (s[k]'(by omega)) < 16
          · have hne : k ≠ p := by intro e; subst e; exact HB.out hv
            have hdv : dcur (hexv (s[k]'(by omega))) 16 = (hexv (s[k]'(by omega)) : Int) := by unfold dcur; rw [if_pos hv]
            rw [hdv]
            have HL : Hid (rhV (s.data.toList.take (k + 1)) < 16 ^ (k + 1)) := by
              have := HS.out
              have hv2 : hexv s.data.toList[k] < 16 := hv
              show rhV (s.data.toList.take (k + 1)) < 16 ^ (k + 1)
              rw [this, Nat.pow_succ]; omega
            clear hdv
            have hp3 : rhV (s.data.toList.take k) < 4096 := by
              have : 16 ^ k ≤ 16 ^ 3 := Nat.pow_le_pow_right (by decide) (by omega)
              omega
            have d6 : decide (((hexv (s[k]'(by omega)) : Nat) : Int) < 0) = false := by simp
            clear hr hr0
            go_wp2
            go_roundw
            case rel => exact ⟨k + 1, by omega, by go_num, by rw [HS.out]; congr 1; show _ = ((_ * 16 + hexv s[k] : Nat) : Int); omega, hb2, by omega, HL.out⟩
            case measure => simp [intOf]; omega
          · have hdv : dcur (hexv (s[k]'(by omega))) 16 = -1 := by unfold dcur; rw [if_neg hv]
            rw [hdv]
            clear hdv hr hr0
            go_wp2
            go_ret2
            exact ⟨rfl, hb2⟩
end Go.Proofs.YtbelpnfgdjnpoaaGreatDoor
