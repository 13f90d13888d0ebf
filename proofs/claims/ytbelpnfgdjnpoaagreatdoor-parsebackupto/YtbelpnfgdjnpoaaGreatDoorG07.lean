/- Texts of this seat, 3 in one file. -/
import Derived.Test.YtbelpnfgdjnpoaaGreatDoorG05
import Derived.Test.YtbelpnfgdjnpoaaGreatDoorShelf
import Derived.Lib.AppendIntMem
import Derived.Test.YtbelpnfgdjnpoaaGreatDoorG06
import Derived.Deep.RegionHeld3
import Derived.Deep.Cut
import Derived.Test.YtbelpnfgdjnpoaaGreatDoorG02
import Derived.Test.YtbelpnfgdjnpoaaGreatDoorG04
import Derived.Lib.LaidTab
import Derived.Deep.DeepWitnessRowRef
/- What num.Digits answers. -/
namespace Go.Proofs.YtbelpnfgdjnpoaaGreatDoor
open Go.RowKit Sash.Num

theorem ownsRow_under {B : Nat} {e : TypeId} {k : Nat} {v : Value} {n : Nat} {xs : List Value} {w w' : World} (h : w.ownsRow B e k v n xs) (hb : Below w.heap.size w w') : w'.ownsRow B e k v n xs :=
  h.kept (row := none) ⟨hb.os, hb.tape, hb.output, hb.size, fun i hi _ => hb.block i hi⟩ (by cases v.ownBlock <;> simp)

set_option maxHeartbeats 400000 in
set_option maxRecDepth 100000 in
theorem digitsOf_any (n : Int) (w : World) (h0 : -9223372036854775808 ≤ n) (h1 : n ≤ 9223372036854775807) (htab : Lib.TabIs Tryz.prog w "internal/strconv.uint64pow10" .u64 Lib.pow10Tab) :
    Calls Tryz.prog 124 #[.int .i64 n] w fun e w' => e = .returned (.string ⟨(dig n).toArray⟩) ∧ Below w.heap.size w w' := by
  have HT := Lib.hid htab
  clear htab
  by_cases hn : n < 0
  · have HF := Lib.hid (show dig n = [] by unfold dig; rw [if_pos (Or.inl hn)])
    go_enter Tryz.func124, Tryz.ntmps124
    go_wp2
    go_ret
    exact ⟨ret_str (by rw [HF.out]), Below.refl _ _⟩
  · have d0 : decide (n < 0) = false := by simp; omega
    by_cases hb : 2147483647 < n
    · have HF := Lib.hid (show dig n = [] by unfold dig; rw [if_pos (Or.inr hb)])
      have d1 : decide (2147483647 < n) = true := by simp; omega
      go_enter Tryz.func124, Tryz.ntmps124
      go_wp2
      go_ret
      exact ⟨ret_str (by rw [HF.out]), Below.refl _ _⟩
    · have HF := Lib.hid (show dig n = Lib.itoa n by unfold dig Lib.itoa; rw [if_neg (by omega), if_neg (by omega)])
      have d1 : decide (2147483647 < n) = false := by simp; omega
      go_enter Tryz.func124, Tryz.ntmps124
      go_wp2_with (go_at_call 139; refine (Tryz.strconv_Itoa n h0 h1 _ HT.out).mono ?_; rintro e w1 ⟨rfl, k, os, rfl⟩)
      go_wp2
      go_ret
      exact ⟨ret_str (by rw [HF.out]), Lib.below_grow _ _ (Nat.le_refl _) k os⟩

theorem join_dig (xs : List Int) : Lib.join ((xs.map fun x => (⟨(dig x).toArray⟩ : ByteArray)).map (·.data.toList)) [44] = joinD xs := by
  rw [← join_eq, List.map_map]; rfl
theorem join_n (bk o c : Nat) (xs : List Int) (w : World) (hcells : ∀ (j : Nat) x, xs[j]? = some x → w.cell? ⟨bk, o + j, none⟩ = some (.string ⟨(dig x).toArray⟩)) (hbk : bk < w.heap.size) (hN : xs.length ≤ 1000) (hcap : xs.length ≤ c) :
    Calls Tryz.prog 125 #[.slice (some ⟨bk, o, none⟩) xs.length c, .string ⟨#[44]⟩] w fun e w' => e = .returned (.string ⟨(joinD xs).toArray⟩) ∧ Below w.heap.size w w' := by
  have hj := join_dig xs
  have hl := joinD_len xs
  have h := Tryz.strings_Join bk o c (xs.map fun x => (⟨(dig x).toArray⟩ : ByteArray)) ⟨#[44]⟩ w (by
    intro j x hj
    rw [List.getElem?_map] at hj
    obtain ⟨y, hy, rfl⟩ := Option.map_eq_some_iff.1 hj
    exact hcells j y hy) hbk (by simp; omega) (by simpa using hcap) (by rw [show (⟨#[44]⟩ : ByteArray).data.toList = [44] from rfl, hj]; omega)
  rw [show (⟨#[44]⟩ : ByteArray).data.toList = [44] from rfl, hj, List.length_map] at h
  exact h

set_option maxHeartbeats 400000 in
set_option maxRecDepth 100000 in
theorem digits_any (b o c : Nat) (xs : List Int) (w : World) (hx : xs.length ≤ 1000) (h0x : 0 < xs.length) (hb : b < w.heap.size)
    (hcells : ∀ (j : Nat) x, xs[j]? = some x → w.cell? ⟨b, o + j, none⟩ = some (.int .i64 x))
    (hin : ∀ x ∈ xs, -9223372036854775808 ≤ x ∧ x ≤ 9223372036854775807)
    (htab : Lib.TabIs Tryz.prog w "internal/strconv.uint64pow10" .u64 Lib.pow10Tab) :
    Calls Tryz.prog 98 #[.slice (some ⟨b, o, none⟩) xs.length c] w fun e w' => e = .returned (.string ⟨(joinD xs).toArray⟩) ∧ Below w.heap.size w w' := by
  have HT := Lib.hid (Lib.tabBelow_of_tabIs htab)
  have HC := Lib.hid hcells
  have HI := Lib.hid hin
  obtain ⟨ti, hti, hz, hsz, hby⟩ := info_parts (P := Tryz.prog) (e := 9) (z := .string ⟨#[]⟩) (size := 1) (bytes := 16) (by kernel_rfl)
  clear hcells hin htab
  have HTI := Lib.hid (And.intro hti (And.intro hz (And.intro hsz hby)))
  clear hti hz hsz hby
  go_enter Tryz.func98, Tryz.ntmps98
  go_wp2_with (at_make; refine wpList_make_full _ rfl _ _ _ rfl w.heap.size 9 ti (.string ⟨#[]⟩) 1 Tryz.underlying62 HTI.out.1 HTI.out.2.1 HTI.out.2.2.1 .i64 .i64 _ _ xs.length rfl rfl rfl rfl ?_ ?_ (Nat.le_refl _) ?_; (rw [HTI.out.2.2.2]; omega); (unfold maxLen; omega); intro w1 hown hgr; refine Hid.out ?_)
  refine Lib.hid ?_
  have hbw1 : Below w.heap.size w w1 := (Below.refl _ w).grown hgr (Nat.le_refl _) (by simp)
  generalize (madeCells (Value.string ⟨#[]⟩).cells (xs.length * 1)).toList = ts0 at hown
  go_wp2
  go_loopw [11] (fun i wr => ∃ (k : Nat) (ts : List Value), k ≤ xs.length ∧ i = .int .i64 k ∧ wr.ownsRow w.heap.size 9 1 (.slice (some ⟨w.heap.size, 0, none⟩) xs.length xs.length) xs.length ts ∧ Below w.heap.size w wr ∧ Hid (∀ j x, j < k → xs[j]? = some x → ts[j]? = some (.string ⟨(dig x).toArray⟩))) (fun i _ => xs.length - (intOf i).toNat)
  case atStart => exact ⟨0, ts0, Nat.zero_le _, rfl, hown, hbw1, Lib.hid (fun j x h => by omega)⟩
  case round =>
    obtain ⟨k, ts, hk, rfl, hown2, hbw, HTS⟩ := hrel
    have hlen : ts.length = xs.length := by have := hown2.1; simpa using this
    by_cases hlt : k < xs.length
    · have hc : wr.cell? ⟨b, o + k, none⟩ = some (.int .i64 xs[k]) := by rw [hbw.cell (p := ⟨b, o + k, none⟩) hb]; exact HC.out k xs[k] (List.getElem?_eq_getElem hlt)
      have hi := HI.out xs[k] (List.getElem_mem hlt)
      go_wp2_with fail
      refine (digitsOf_any _ _ hi.1 hi.2 (HT.out _ (by exact hbw))).mono ?_
      rintro e w2 ⟨rfl, hb2⟩
      have hown3 := ownsRow_under hown2 hb2
      obtain ⟨v, hv⟩ : ∃ v, w2.cell? ⟨w.heap.size, k, none⟩ = some v := ⟨ts[k]'(by omega), by rw [hown3.cellAt k (by omega)]; exact List.getElem?_eq_getElem _⟩
      have hfz := hown3.frozenAt k
      have hst := hown3.stored k (.string ⟨(dig xs[k]).toArray⟩)
      have hbw2 := (hbw.trans (hb2.mono hbw.size)).setCell (p := ⟨w.heap.size, k, none⟩) (Nat.le_refl _) (.string ⟨(dig xs[k]).toArray⟩)
      clear hlen
      go_wp2
      go_roundw
      case rel =>
        refine ⟨k + 1, ts.set k (.string ⟨(dig xs[k]).toArray⟩), by omega, by go_num, hst.1, hbw2, Lib.hid (fun j x hj hx => ?_)⟩
        by_cases hjk : j = k
        · subst hjk
          rw [List.getElem?_eq_getElem hlt] at hx
          rw [List.getElem?_set_self (by have := hown2.1; simp at this; omega), Option.some.inj hx]
        · rw [List.getElem?_set_ne (Ne.symm hjk)]
          exact HTS.out j x (by omega) hx
      case measure => simp [intOf]; omega
    · have HCL : Hid (∀ (j : Nat) x, xs[j]? = some x → wr.cell? ⟨w.heap.size, 0 + j, none⟩ = some (.string ⟨(dig x).toArray⟩)) := by
        intro j y hy
        have hjl := (List.getElem?_eq_some_iff.1 hy).1
        rw [Nat.zero_add, hown2.cellAt j (by omega)]
        exact HTS.out j y (by omega) hy
      clear hlen
      go_wp2_with (go_at_call 125; refine (join_n w.heap.size 0 xs.length xs wr HCL.out (by have := (hown2.lt w.heap.size rfl).2; omega) hx (Nat.le_refl _)).mono ?_; rintro e w2 ⟨rfl, hb2⟩)
      go_wp2
      go_ret
      exact ⟨rfl, hbw.trans (hb2.mono hbw.size)⟩

end Go.Proofs.YtbelpnfgdjnpoaaGreatDoor
/- print.Head: a rectangle's text. -/
namespace Go.Proofs.YtbelpnfgdjnpoaaGreatDoor
open Go.RowKit
open Sash.Num (dig dig_len joinD joinD_len)

abbrev Tab (w : World) : Prop := Lib.TabIs Tryz.prog w "internal/strconv.uint64pow10" .u64 Lib.pow10Tab
theorem tab_on {w w1 : World} (h : Tab w) (hb : Below w.heap.size w w1) : Tab w1 := Lib.tabBelow_of_tabIs h w1 hb

theorem digits_n (b o c n : Nat) (xs : List Int) (w : World) (hn : xs.length = n) (hx : n ≤ 1000) (h0x : 0 < n) (hb : b < w.heap.size)
    (hcells : ∀ (j : Nat) x, xs[j]? = some x → w.cell? ⟨b, o + j, none⟩ = some (.int .i64 x))
    (hin : ∀ x ∈ xs, -9223372036854775808 ≤ x ∧ x ≤ 9223372036854775807) (htab : Tab w) :
    Calls Tryz.prog 98 #[.slice (some ⟨b, o, none⟩) n c] w fun e w' => e = .returned (.string ⟨(joinD xs).toArray⟩) ∧ Below w.heap.size w w' := by
  subst hn
  exact digits_any b o c xs w hx h0x hb hcells hin htab
abbrev ibox1 (x : Int) : Obj := .cells #[.int .i64 x] 3
abbrev ibox3 (x y z : Int) : Obj := .cells #[.int .i64 x, .int .i64 y, .int .i64 z] 3
abbrev IAt (W : World) (b : Nat) (xs : List Int) : Prop := ∀ (j : Nat) x, xs[j]? = some x → W.cell? ⟨b, 0 + j, none⟩ = some (.int .i64 x)
theorem IAt.up {W W' : World} {b : Nat} {xs : List Int} (h : IAt W b xs) (hb : Below W.heap.size W W') : IAt W' b xs := fun j x hx => by
  have h1 := h j x hx
  exact (hb.cell (lt_of_cell h1)).trans h1
theorem iat1 (W : World) (x : Int) : IAt (W.alloc (ibox1 x)) W.heap.size [x] := fun j y hj => by
  match j, hj with
  | 0, hj => simp at hj; subst hj; simp
theorem iat3 (W : World) (x y z : Int) : IAt (W.alloc (ibox3 x y z)) W.heap.size [x, y, z] := fun j y hj => by
  match j, hj with
  | 0, hj => simp at hj; subst hj; simp
  | 1, hj => simp at hj; subst hj; simp
  | 2, hj => simp at hj; subst hj; simp
/-- One number, in a row of one. -/
theorem dig1_at (W : World) (b : Nat) (x : Int) (hx : fits x) (hc : IAt W b [x]) (ht : Tab W) :
    Calls Tryz.prog 98 #[.slice (some ⟨b, 0, none⟩) 1 1] W fun e w' => e = .returned (.string ⟨(dig x).toArray⟩) ∧ Below W.heap.size W w' :=
  digits_n b 0 1 1 [x] W rfl (by omega) (by omega) (lt_of_cell (hc 0 x rfl)) hc (fun y hy => by rw [List.mem_singleton] at hy; subst hy; exact hx) ht
/-- Three numbers. -/
theorem dig3_at (W : World) (b : Nat) (x y z : Int) (hx : fits x) (hy : fits y) (hz : fits z) (hc : IAt W b [x, y, z]) (ht : Tab W) :
    Calls Tryz.prog 98 #[.slice (some ⟨b, 0, none⟩) 3 3] W fun e w' => e = .returned (.string ⟨(dig x ++ 44 :: (dig y ++ 44 :: dig z)).toArray⟩) ∧ Below W.heap.size W w' := by
  refine (digits_n b 0 3 3 [x, y, z] W rfl (by omega) (by omega) (lt_of_cell (hc 0 x rfl)) hc (fun u hu => ?_) ht).mono ?_
  · simp only [List.mem_cons, List.not_mem_nil, or_false] at hu
    rcases hu with rfl | rfl | rfl <;> assumption
  · rintro e w1 ⟨rfl, hb1⟩
    exact ⟨by simp [joinD], hb1⟩
/-- One number, told as such. -/
theorem digits_one (w : World) (x : Int) (hx : fits x) (htab : Tab w) :
    Calls Tryz.prog 98 #[.slice (some ⟨w.heap.size, 0, none⟩) 1 1] (w.alloc (ibox1 x)) fun e w' => e = .returned (.string ⟨(dig x).toArray⟩) ∧ Below w.heap.size w w' := by
  have hb0 : Below w.heap.size w (w.alloc (ibox1 x)) := (Below.refl _ w).alloc (Nat.le_refl _) _
  refine (dig1_at _ _ x hx (iat1 w x) (tab_on htab hb0)).mono ?_
  rintro e w1 ⟨rfl, hb1⟩
  exact ⟨rfl, hb0.trans (hb1.mono (by simp))⟩

/-- What stands while a rectangle in the block g is told. -/
structure HS (w : World) (g : Nat) (r : R) (W : World) : Prop where
  below : Below w.heap.size w W
  cells : W.cell? ⟨g, 0, none⟩ = some (.int .i64 r.x) ∧ W.cell? ⟨g, 1, none⟩ = some (.int .i64 r.y) ∧ W.cell? ⟨g, 2, none⟩ = some (.int .i64 r.w) ∧ W.cell? ⟨g, 3, none⟩ = some (.int .i64 r.h)
theorem HS.up {w : World} {g : Nat} {r : R} {W W' : World} (h : HS w g r W) (hb : Below W.heap.size W W') : HS w g r W' := by
  obtain ⟨h0, h1, h2, h3, h4⟩ := h
  exact ⟨h0.trans (hb.mono h0.size), (hb.cell (lt_of_cell h1)).trans h1, (hb.cell (lt_of_cell h2)).trans h2, (hb.cell (lt_of_cell h3)).trans h3, (hb.cell (lt_of_cell h4)).trans h4⟩
theorem HS.new (w : World) (r : R) : HS w w.heap.size r (w.alloc (rbox r)) := ⟨(Below.refl _ _).alloc (Nat.le_refl _) _, by refine ⟨?_, ?_, ?_, ?_⟩ <;> simp⟩
theorem HS.drew {w : World} {g : Nat} {r : R} {W : World} (h : HS w g r W) : HS w g r W.drew := h.up (Below.refl _ _).drew
theorem HS.alloc {w : World} {g : Nat} {r : R} {W : World} (h : HS w g r W) (o : Obj) : HS w g r (W.alloc o) := h.up ((Below.refl _ _).alloc (Nat.le_refl _) _)

set_option maxHeartbeats 2000000 in
set_option maxRecDepth 100000 in
theorem phead_any (r : R) (w : World) (hr : r.fits) (htab : Tab w) : Calls Tryz.prog 96 #[val r] w fun e w' => e = .returned (.string ⟨(headL r).toArray⟩) ∧ Below w.heap.size w w' := by
  obtain ⟨fx, fy, fw, fh⟩ := hr
  obtain ⟨s1, hs1⟩ : ∃ s : ByteArray, (⟨(dig r.w).toArray⟩ : ByteArray) = s := ⟨_, rfl⟩
  obtain ⟨s3, hs3⟩ : ∃ s : ByteArray, (⟨(dig r.h ++ 44 :: (dig r.x ++ 44 :: dig r.y)).toArray⟩ : ByteArray) = s := ⟨_, rfl⟩
  have z1 : s1.size ≤ 10 := by rw [← hs1]; exact dig_len r.w
  have z3 : s3.size ≤ 100 := by
    rw [← hs3]
    have l1 := dig_len r.x
    have l2 := dig_len r.y
    have l4 := dig_len r.h
    show (dig r.h ++ 44 :: (dig r.x ++ 44 :: dig r.y)).length ≤ 100
    simp; omega
  have HF : Hid (s1 ++ ⟨#[120]⟩ ++ s3 = ⟨(headL r).toArray⟩) := by
    refine Lib.hid ?_
    rw [← hs1, ← hs3]
    apply ByteArray.ext; simp [headL]
  have a1 : ((9223372036854775807 : Int) < (s1.size : Int) + 1) = False := eq_false (by omega)
  have a2 : (9223372036854775807 < s1.size + 1) = False := eq_false (by omega)
  have a3 : ((9223372036854775807 : Int) < (s1.size : Int) + 1 + (s3.size : Int)) = False := eq_false (by omega)
  have a4 : (9223372036854775807 < s1.size + 1 + s3.size) = False := eq_false (by omega)
  have K1 := Lib.hid (fun W b (hc : IAt W b [r.w]) ht => dig1_at W b r.w fw hc ht)
  have K3 := Lib.hid (fun W b (hc : IAt W b [r.h, r.x, r.y]) ht => dig3_at W b r.h r.x r.y fh fx fy hc ht)
  rw [hs1] at K1
  rw [hs3] at K3
  clear hs1 hs3
  have T := Lib.hid (fun W (h : HS w w.heap.size r W) => tab_on htab h.below)
  have HN := Lib.hid (HS.new w r)
  have B1 : ∀ (x : World) (o : Obj), Below x.heap.size x (x.alloc o) := fun x o => (Below.refl _ _).alloc (Nat.le_refl _) _
  have BD : ∀ (x : World), Below x.heap.size x x.drew := fun x => (Below.refl _ _).drew
  go_enter Tryz.func96, Tryz.ntmps96
  go_upto_region 1 with (fail)
  change Code.wp _ _ _ _ (w.alloc (rbox r))
  generalize w.alloc (rbox r) = W0 at HN ⊢
  have HN0 := Lib.hid HN.out.drew
  have A1 := Lib.hid (HN.out.alloc (ibox1 r.w)).drew
  have A3 := Lib.hid (HN.out.alloc (ibox3 r.h r.x r.y)).drew
  have A13 := Lib.hid ((HN.out.alloc (ibox1 r.w)).alloc (ibox3 r.h r.x r.y)).drew
  have A31 := Lib.hid ((HN.out.alloc (ibox3 r.h r.x r.y)).alloc (ibox1 r.w)).drew
  have X0 := Lib.hid HN0.out.cells
  have X1 := Lib.hid A1.out.cells
  have X3 := Lib.hid A3.out.cells
  have X13 := Lib.hid A13.out.cells
  have X31 := Lib.hid A31.out.cells
  have I1 := Lib.hid ((iat1 W0 r.w).up (BD _))
  have I3 := Lib.hid (iat3 W0 r.h r.x r.y)
  have I13 := Lib.hid (((iat1 W0 r.w).up (B1 _ (ibox3 r.h r.x r.y))).up (BD _))
  have y1 : (W0.alloc (ibox1 r.w)).heap.size = W0.heap.size + 1 := by simp
  have y3 : (W0.alloc (ibox3 r.h r.x r.y)).heap.size = W0.heap.size + 1 := by simp
  have J13 := Lib.hid ((iat3 (W0.alloc (ibox1 r.w)) r.h r.x r.y).up (BD _))
  have I31 := Lib.hid ((iat1 (W0.alloc (ibox3 r.h r.x r.y)) r.w).up (BD _))
  rw [y1] at J13
  rw [y3] at I31
  have J31 := Lib.hid (((iat3 W0 r.h r.x r.y).up (B1 _ (ibox1 r.w))).up (BD _))
  clear B1 BD y1 y3
  go_region_held3 (fun W => W.cell? ⟨w.heap.size, 0, none⟩ = some (.int .i64 r.x) ∧ W.cell? ⟨w.heap.size, 1, none⟩ = some (.int .i64 r.y) ∧ W.cell? ⟨w.heap.size, 2, none⟩ = some (.int .i64 r.w) ∧ W.cell? ⟨w.heap.size, 3, none⟩ = some (.int .i64 r.h)) (first | exact X0.out | exact X1.out | exact X3.out | exact X13.out | exact X31.out | exact Y1.out | exact Y3.out | exact Y4.out)
    (first
      | (go_at_call 98; (with_reducible refine (K1.out _ _ I1.out (T.out _ A1.out)).mono ?_); rintro e w1 ⟨rfl, hb1⟩; have E1 := Lib.hid (A1.out.up hb1); have Y1 := Lib.hid E1.out.cells; have E4 := Lib.hid (E1.out.alloc (ibox3 r.h r.x r.y)); have Y4 := Lib.hid E4.out.cells; have J1 := Lib.hid (iat3 w1 r.h r.x r.y); clear hb1)
      | (go_at_call 98; (with_reducible refine (K1.out _ _ I13.out (T.out _ A13.out)).mono ?_); rintro e w1 ⟨rfl, hb1⟩; have E1 := Lib.hid (A13.out.up hb1); have E4 := E1; have Y1 := Lib.hid E1.out.cells; have J1 := Lib.hid (J13.out.up hb1); clear hb1)
      | (go_at_call 98; (with_reducible refine (K1.out _ _ I31.out (T.out _ A31.out)).mono ?_); rintro e w1 ⟨rfl, hb1⟩; have E1 := Lib.hid (A31.out.up hb1); have E4 := E1; have Y1 := Lib.hid E1.out.cells; have J1 := Lib.hid (J31.out.up hb1); clear hb1)
      | (go_at_call 98; (with_reducible refine (K3.out _ _ J1.out (T.out _ E4.out)).mono ?_); rintro e w2 ⟨rfl, hb2⟩; have E2 := Lib.hid (E4.out.up hb2); have Y3 := Lib.hid E2.out.cells; clear hb2))
  all_goals
    go_wp2
    go_ret
    exact ⟨ret_str HF.out, E2.out.below⟩
end Go.Proofs.YtbelpnfgdjnpoaaGreatDoor
/- What the rows of this seat ask of a walk where the tables and the variable are listed: trees as arguments. -/
namespace Go.Proofs.YtbelpnfgdjnpoaaGreatDoor
open Go.ChangeShapes Go.WideShapes Go.ChangeAt Go.WideMaps Go.WideElems Go.RowKit
open Go.ChangeMaps (open_string shut_string)

def laid4 : List (String × DataW Unit) := [("math/bits.deBruijn32tab", Rows.laid_math_bits_deBruijn32tab), ("math/bits.deBruijn64tab", Rows.laid_math_bits_deBruijn64tab), ("internal/strconv.uint64pow10", Rows.laid_internal_strconv_uint64pow10), ("errors.errorType", Rows.laid_errors_errorType)]
def laid3 : List (String × DataW Unit) := [("math/bits.deBruijn32tab", Rows.laid_math_bits_deBruijn32tab), ("math/bits.deBruijn64tab", Rows.laid_math_bits_deBruijn64tab), ("internal/strconv.uint64pow10", Rows.laid_internal_strconv_uint64pow10)]

theorem door_met4 (os : Os) (args : Array Value) : laidMetH Tryz.prog laid4 ((World.doorLaid Tryz.prog 400 os).forCall (fun _ _ => 0) ⟨#[], args, []⟩).memory :=
  laidMetH_of_parts3 (fuel := 8) (laidMet_of_run' 8 (by kernel_rfl) (by kernel_rfl)) (by kernel_rfl) (by kernel_rfl)

theorem of_laid4 {W : World} (h : laidMetH Tryz.prog laid4 W) : Tab W ∧ Er.EtLaid W := by
  have h' : laidMet Tryz.prog laid3 W ∧ handlesMet Tryz.prog laidE W := h
  refine ⟨?_, of_laid (show laidMetH Tryz.prog laidE W from ⟨laidMet_nil _ _, h'.2⟩)⟩
  replace h := h'.1
  obtain ⟨ps, ⟨g0, t0, cs0, f0, p0, q0, hg0, ht0, hv0, hd0, ⟨g1, t1, cs1, f1, p1, q1, hg1, ht1, hv1, hd1, ⟨g2, t2, cs2, f2, p2, q2, hg2, ht2, hv2, hd2, _, _⟩, _⟩, _⟩, _, _⟩ := h
  obtain rfl := Option.some.inj ((show Tryz.prog.globalNamed "internal/strconv.uint64pow10" = some 2 by kernel_rfl).symm.trans hg2)
  obtain rfl := Option.some.inj ((show (Tryz.prog.globals[2]?).map (·.type) = some 199 by kernel_rfl).symm.trans ht2)
  unfold Tab Lib.TabIs
  rw [hv2, ← Lib.cells_of_tab (P := Tryz.prog) (n := 20) (e := 192) (k := .u64) (zs := Lib.pow10Tab) Tryz.underlying199 Tryz.underlying192 (by kernel_rfl) (by kernel_rfl) (show _ = some (Lib.tabData .u64 Lib.pow10Tab, _) from hd2)]

theorem fits_wf {n : Int} (h : (Lit.int .i64 n).wf = true) : fits n := bounds_i64 h
theorem byte_wf {n : Int} (h : (Lit.int .u8 n).wf = true) : 0 ≤ n ∧ n ≤ 255 := by
  simp [Lit.wf, IntKind.min, IntKind.max, IntKind.signed, IntKind.bits] at h
  omega

theorem bulk_range {H : Type} (D : Nat → DataW H) (m i : Nat) (hi : i < m) : Rows.uptoBulk (D i) ≤ Rows.uptoBulkAll ((List.range m).map D) := by
  induction m with
  | zero => omega
  | succ m ih =>
    rw [List.range_succ, List.map_append]
    have happ : ∀ (a b : List (DataW H)), Rows.uptoBulkAll (a ++ b) = Rows.uptoBulkAll a + Rows.uptoBulkAll b := by
      intro a b
      induction a with
      | nil => simp [Rows.uptoBulkAll]
      | cons x l ih => simp only [List.cons_append, Rows.uptoBulkAll, ih]; omega
    rw [happ]
    rcases Nat.lt_or_ge i m with h | h
    · have := ih h; omega
    · obtain rfl : i = m := by omega
      simp [Rows.uptoBulkAll]
theorem sz_range {H : Type} (D : Nat → DataW H) (F : Nat → T) (m : Nat) (h : ∀ i, i < m → sz (F i) ≤ Rows.uptoBulk (D i)) : szL ((List.range m).map F) ≤ Rows.uptoBulkAll ((List.range m).map D) := by
  induction m with
  | zero => simp [szL, Rows.uptoBulkAll]
  | succ m ih =>
    rw [List.range_succ, List.map_append, List.map_append, szL_append]
    have happ : ∀ (a b : List (DataW H)), Rows.uptoBulkAll (a ++ b) = Rows.uptoBulkAll a + Rows.uptoBulkAll b := by
      intro a b
      induction a with
      | nil => simp [Rows.uptoBulkAll]
      | cons x l ih => simp only [List.cons_append, Rows.uptoBulkAll, ih]; omega
    rw [happ]
    have h1 := ih fun i hi => h i (by omega)
    have h2 := h m (by omega)
    simp [szL, Rows.uptoBulkAll]
    omega
theorem weight_mem {H : Type} (e : TypeId) (D : Nat → DataW H) (m i : Nat) (hi : i < m) : ∀ n ∈ (D i).weights Tryz.prog e, n ∈ DataW.weightsAll Tryz.prog e ((List.range m).map D) := by
  have hall : ∀ (l : List (DataW H)) (d : DataW H), d ∈ l → ∀ n ∈ d.weights Tryz.prog e, n ∈ DataW.weightsAll Tryz.prog e l := by
    intro l
    induction l with
    | nil => intro d hd; simp at hd
    | cons x l ih =>
      intro d hd n hn
      rw [DataW.weightsAll, List.mem_append]
      rcases List.mem_cons.1 hd with rfl | h
      · exact .inl hn
      · exact .inr (ih d h n hn)
  exact hall _ _ (List.mem_map.2 ⟨i, List.mem_range.2 hi, rfl⟩)

theorem wt_head {H : Type} {t : TypeId} {ts : List TypeId} {d : DataW H} {ds : List (DataW H)} (h : (DataW.weightsEach Tryz.prog (t :: ts) (d :: ds)).all (· ≤ reachBytes) = true) :
    (∀ n ∈ d.weights Tryz.prog t, n ≤ reachBytes) ∧ (DataW.weightsEach Tryz.prog ts ds).all (· ≤ reachBytes) = true := by
  rw [DataW.weightsEach, List.all_append, Bool.and_eq_true] at h
  exact ⟨fun n hn => of_decide_eq_true (List.all_eq_true.1 h.1 n hn), h.2⟩

section
variable {H : Type} {enc : TypeId × Value → H} {w : World} {spare : Nat → Bool} {held : Bool}

theorem range_at {α : Type} (f : Nat → α) {n i : Nat} {x : α} (h : ((List.range n).map f)[i]? = some x) : i < n ∧ x = f i := by
  rcases Nat.lt_or_ge i n with hi | hi
  · refine ⟨hi, ?_⟩
    simp [hi] at h
    exact h.symm
  · rw [List.getElem?_eq_none (by simpa using hi)] at h
    cases h

/-- A rectangle that came in. -/
theorem r_of {fuel : Nat} {cs : List Value} {x : DataW H × List MemPlace} (h : DataW.trod enc Tryz.prog w 0 spare held fuel 24 cs = some x) : ∃ r : R, cs = [.int .i64 r.x, .int .i64 r.y, .int .i64 r.w, .int .i64 r.h] ∧ r.fits := by
  obtain ⟨y0, y1, y2, y3, n, -, hl, h0, h1, h2, h3⟩ := Go.Joins.trod_struct4 Tryz.underlying24 h
  rw [show Tryz.prog.cellsOf 24 = 4 by kernel_rfl] at hl
  have q3 : Tryz.prog.cellsOf 3 = 1 := by kernel_rfl
  simp only [q3] at h0 h1 h2 h3
  match cs, hl, h0, h1, h2, h3 with
  | [c0, c1, c2, c3], _, h0, h1, h2, h3 =>
    have h0' : DataW.trod enc Tryz.prog w 0 spare held n 3 [c0] = some y0 := by simpa using h0
    have h1' : DataW.trod enc Tryz.prog w 0 spare held n 3 [c1] = some y1 := by simpa using h1
    have h2' : DataW.trod enc Tryz.prog w 0 spare held n 3 [c2] = some y2 := by simpa using h2
    have h3' : DataW.trod enc Tryz.prog w 0 spare held n 3 [c3] = some y3 := by simpa using h3
    obtain ⟨a, ha, -, wa⟩ := DataW.trod_int Tryz.underlying3 h0'
    obtain ⟨b, hb, -, wb⟩ := DataW.trod_int Tryz.underlying3 h1'
    obtain ⟨c, hc, -, wc⟩ := DataW.trod_int Tryz.underlying3 h2'
    obtain ⟨d, hd, -, wd⟩ := DataW.trod_int Tryz.underlying3 h3'
    simp at ha hb hc hd
    subst ha; subst hb; subst hc; subst hd
    exact ⟨⟨a, b, c, d⟩, rfl, fits_wf wa, fits_wf wb, fits_wf wc, fits_wf wd⟩

/-- A slice of trees that came in, where each element is one. -/
theorem row_of {fuel : Nat} {v : Value} {x : DataW H × List MemPlace} (h : DataW.trod enc Tryz.prog w 0 spare held fuel 25 [v] = some x) (hw : ∀ n ∈ x.1.weights Tryz.prog 25, n ≤ reachBytes)
    (each : ∀ (fuel' : Nat) (cs : List Value) (y : DataW H × List MemPlace), DataW.trod enc Tryz.prog w 0 spare held fuel' 27 cs = some y → (∀ n ∈ y.1.weights Tryz.prog 27, n ≤ reachBytes) → Rows.uptoBulk y.1 < Rows.uptoBulk x.1 → ∃ (c : C) (t : T), cs = encC c ∧ Is w c t ∧ sz t ≤ Rows.uptoBulk y.1) :
    ∃ (a : Option Addr) (cap : Nat) (l : List T), v = .slice a l.length cap ∧ TRow w v l ∧ szL l < Rows.uptoBulk x.1 ∧ l.length ≤ 1954687338211 := by
  rcases Go.Deep.open_slice Tryz.underlying25 h with ⟨hcs, hx0⟩ | ⟨a, len, cap, m, n, D, Pl, hcs, _, hl, _, hm, hx, hel⟩
  · simp at hcs
    subst hcs
    refine ⟨none, 0, [], rfl, ⟨[], .inl ⟨_, _, rfl, rfl⟩, rfl, fun j x u hx => by simp at hx⟩, ?_, by simp⟩
    rw [hx0]; simp [szL, Rows.uptoBulk]
  · simp at hcs
    subst hcs
    have hlm : len ≤ m := by rw [hm]; split <;> omega
    have hb72 : Tryz.prog.bytesOf 27 = 72 := by kernel_rfl
    have hwt : x.1.weights Tryz.prog 25 = (len + (m - len)) * 72 :: (DataW.weightsAll Tryz.prog 27 ((List.range len).map D) ++ DataW.weightsAll Tryz.prog 27 ((List.range (m - len)).map fun j => D (len + j))) := by
      rw [hx, DataW.weights, Tryz.underlying25]
      simp [hb72]
    have hbk : Rows.uptoBulk x.1 = Rows.uptoBulkAll ((List.range len).map D) + Rows.uptoBulkAll ((List.range (m - len)).map fun j => D (len + j)) + 1 := by rw [hx, Rows.uptoBulk]
    rw [hwt] at hw
    have hlen : len ≤ 1954687338211 := by
      have := hw _ (List.mem_cons_self ..)
      unfold reachBytes at this
      omega
    rw [show Tryz.prog.cellsOf 27 = 7 by kernel_rfl] at hel
    have hone : ∀ i, i < len → ∃ p : C × T, (w.cells? 0 (a.add (i * 7)) 7 = some (encC p.1)) ∧ Is w p.1 p.2 ∧ sz p.2 ≤ Rows.uptoBulk (D i) := fun i hi => by
      obtain ⟨cs', h1, h2⟩ := hel i (by omega)
      obtain ⟨c, t, rfl, hi2, hs⟩ := each n cs' _ h2 (fun k hk => hw k (List.mem_cons_of_mem _ (List.mem_append_left _ (weight_mem 27 D len i hi k hk)))) (by have := bulk_range D len i hi; rw [hbk]; simp only; omega)
      exact ⟨(c, t), h1, hi2, hs⟩
    obtain ⟨F, hF⟩ := Go.Deep.choose_lt (α := C × T) (n := len) hone
    have hsz : szL ((List.range len).map fun i => (F i).2) < Rows.uptoBulk x.1 := by
      have := sz_range D (fun i => (F i).2) len fun i hi => (hF i hi).2.2
      rw [hbk]; omega
    refine ⟨some a, cap, (List.range len).map fun i => (F i).2, by simp, ⟨(List.range len).map fun i => (F i).1, ?_, by simp, fun j y u hy hu => ?_⟩, hsz, by simpa using hlen⟩
    · rcases Nat.eq_zero_or_pos len with rfl | hp
      · exact .inl ⟨_, _, rfl, rfl⟩
      obtain ⟨b, o, spot⟩ := a
      have hspot : spot = none := by
        obtain ⟨-, -, hc⟩ := World.cells?_some (hF 0 hp).1
        have h0 := hc 0 (by omega)
        simpa [Addr.add] using World.cell?_spot h0
      subst hspot
      refine .inr ⟨b, o, cap, by simp, fun j c hc => ?_⟩
      obtain ⟨hj, rfl⟩ := range_at _ hc
      obtain ⟨-, -, hc⟩ := World.cells?_some (hF j hj).1
      have hk : ∀ i, i < 7 → ∀ u, (encC (F j).1)[i]? = some u → w.cell? ⟨b, o + j * 7 + i, none⟩ = some u := fun i hi u hu => by
        have := hc i hi
        rw [Go.Deep.add_add, Go.WideShapes.add_plain] at this
        rw [Nat.add_assoc, this, hu]
      exact ⟨hk 0 (by omega) _ rfl, hk 1 (by omega) _ rfl, hk 2 (by omega) _ rfl, hk 3 (by omega) _ rfl, hk 4 (by omega) _ rfl, hk 5 (by omega) _ rfl, hk 6 (by omega) _ rfl⟩
    · obtain ⟨hj, rfl⟩ := range_at _ hy
      obtain ⟨_, rfl⟩ := range_at _ hu
      exact (hF j hj).2.1

set_option maxRecDepth 100000 in
/-- A tree that came in. -/
theorem is_of (N : Nat) : ∀ (fuel : Nat) (cs : List Value) (x : DataW H × List MemPlace), Rows.uptoBulk x.1 ≤ N → DataW.trod enc Tryz.prog w 0 spare held fuel 27 cs = some x → (∀ n ∈ x.1.weights Tryz.prog 27, n ≤ reachBytes) →
    ∃ (c : C) (t : T), cs = encC c ∧ Is w c t ∧ sz t ≤ Rows.uptoBulk x.1 := by
  induction N with
  | zero =>
    intro fuel cs x hN h _
    obtain ⟨xs, n, -, rfl, -⟩ := DataW.trod_struct Tryz.underlying27 h
    simp [Rows.uptoBulk] at hN
  | succ N ih =>
    intro fuel cs x hN h hw
    obtain ⟨xs, n, -, rfl, hl, hlen, hg⟩ := DataW.trod_struct Tryz.underlying27 h
    rw [show Tryz.prog.cellsOf 27 = 7 by kernel_rfl] at hl
    have h0 := hg 0 _ rfl
    have h1 := hg 1 _ rfl
    have h2 := hg 2 _ rfl
    have h3 := hg 3 _ rfl
    clear hg
    have q5 : Tryz.prog.cellsOf 5 = 1 := by kernel_rfl
    have q3 : Tryz.prog.cellsOf 3 = 1 := by kernel_rfl
    have q27 : Tryz.prog.cellsOf 24 = 4 := by kernel_rfl
    have q22 : Tryz.prog.cellsOf 25 = 1 := by kernel_rfl
    match xs, hlen with
    | [y0, y1, y2, y3], _ =>
    match cs, hl with
    | [c0, c1, c2, c3, c4, c5, c6], _ =>
    simp [q5] at h0
    simp [q27] at h1
    simp [q3] at h2
    simp [q22] at h3
    obtain ⟨k, hk, -, wk⟩ := DataW.trod_int Tryz.underlying5 h0
    obtain ⟨r, hr, hrf⟩ := r_of h1
    obtain ⟨i, hi, -, wi⟩ := DataW.trod_int Tryz.underlying3 h2
    have hbk : Rows.uptoBulk (DataW.agg (List.map (fun x => x.1) [y0, y1, y2, y3])) = Rows.uptoBulk y0.1 + (Rows.uptoBulk y1.1 + (Rows.uptoBulk y2.1 + (Rows.uptoBulk y3.1 + 0))) + 1 := by simp [Rows.uptoBulk, Rows.uptoBulkAll]
    have hwt : ∀ n ∈ y3.1.weights Tryz.prog 25, n ≤ reachBytes := fun n hn => hw n (by
      simp only [DataW.weights, Tryz.underlying27]
      simp [DataW.weightsEach, hn])
    obtain ⟨a, cap, l, hv, hrow, hsz, hll⟩ := row_of h3 hwt (fun fuel' cs' y hy hyw hlt => ih fuel' cs' y (by simp only at hN; rw [hbk] at hN; omega) hy hyw)
    simp at hk hr hi
    obtain ⟨rfl, rfl, rfl, rfl⟩ := hr
    subst hk; subst hi; subst hv
    refine ⟨⟨k, r, i, a, l.length, cap⟩, .node k r i l, rfl, ?_, ?_⟩
    · obtain ⟨cs', g1, g2, g3⟩ := hrow
      exact .mk ⟨k, r, i, a, l.length, cap⟩ l cs' g1 g2 ⟨byte_wf wk, hrf, fits_wf wi, hll⟩ g3
    · simp only
      rw [hbk, sz]; omega

/-- Numbers that came in. -/
theorem ints_of {fuel : Nat} {v : Value} {x : DataW H × List MemPlace} (h : DataW.trod enc Tryz.prog w 0 spare held fuel 45 [v] = some x) : ∃ ms : List Int, Row w v (ints ms) ∧ ∃ a cap, v = .slice a ms.length cap ∧ ms.length ≤ cap := by
  rcases open_ints Tryz.underlying45 Tryz.underlying3 (by kernel_rfl) h with ⟨hcs, _⟩ | ⟨a, l, c, zs, hcs, _, hl, hm, hz, _, hcell, hwz⟩
  · simp at hcs
    subst hcs
    exact ⟨[], ⟨none, 0, rfl, fun _ => ⟨rfl, rfl⟩, fun _ h => by cases h⟩, none, 0, rfl, Nat.le_refl _⟩
  · simp at hcs
    subst hcs
    have hlm : l ≤ zs.length := by rw [hz]; split <;> omega
    have htl : (zs.take l).length = l := by rw [List.length_take]; omega
    refine ⟨zs.take l, ⟨some a, c, by rw [ints_length, htl], fun h => (by cases h), fun y hy j u hu => ?_⟩, some a, c, by rw [htl], by rw [htl]; exact hl⟩
    cases hy
    unfold ints at hu
    rw [List.getElem?_map, Option.map_eq_some_iff] at hu
    obtain ⟨n, hn, rfl⟩ := hu
    have hjl : j < zs.length := by
      rcases Nat.lt_or_ge j zs.length with h | h
      · exact h
      · rw [List.getElem?_take, List.getElem?_eq_none h] at hn; split at hn <;> cases hn
    rw [hcell j hjl]
    rw [List.getElem?_take] at hn
    split at hn
    · rw [List.getD_eq_getElem?_getD, hn]; rfl
    · cases hn
end
end Go.Proofs.YtbelpnfgdjnpoaaGreatDoor
