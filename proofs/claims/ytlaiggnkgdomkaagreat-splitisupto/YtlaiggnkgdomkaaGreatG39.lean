/- Texts of this seat, 3 in one file. -/
import Derived.Test.YtlaiggnkgdomkaaGreatG27
import Derived.Test.YtlaiggnkgdomkaaGreatG38
import Derived.Test.YtlaiggnkgdomkaaGreatG03
import Derived.Test.YtlaiggnkgdomkaaGreatG26
/- The law SplitIs. -/
namespace Go.Proofs.YtlaiggnkgdomkaaGreat
open Go.RowKit

structure QSt (w : World) (c : C) (W : World) : Prop where
  below : Below w.heap.size w W
  cat : CAt W w.heap.size 0 c
theorem QSt.up {w : World} {c : C} {W W' : World} (h : QSt w c W) (hb : Below W.heap.size W W') : QSt w c W' := ⟨h.below.trans (hb.mono h.below.size), h.cat.up hb⟩
theorem QSt.c7 {w : World} {c : C} {W : World} (h : QSt w c W) : C7 w.heap.size c W := c7_of h.cat
theorem QSt.new (w : World) (c : C) : QSt w c (w.alloc (cbox c)) := ⟨(Below.refl _ _).alloc (Nat.le_refl _) _, cbox_new w c⟩

set_option maxHeartbeats 2000000 in
set_option maxRecDepth 100000 in
theorem splitIs_any (t : T) (c : C) (id ax z fresh : Int) (ahead : Bool) (w : World) (hi : Is w c t) (hs : sz t ≤ 1099511627776) (hz : fits z) (hfr : fits fresh) :
    Calls Tryz.prog 3 #[cval c, .int .i64 id, .int .u8 ax, .int .i64 z, .int .i64 fresh, .bool ahead] w fun e w' => e = .returned (.bool true) ∧ Below w.heap.size w w' := by
  have S0 := Lib.hid (QSt.new w c)
  have HG := Lib.hid (great_any t c (w.alloc (cbox c)) (hi.up S0.out.below))
  have HI := Lib.hid hi
  have HZ := Lib.hid hz
  have HF := Lib.hid hfr
  clear hi hz hfr
  obtain ⟨c0, c1, c2, c3, c4, c5, c6⟩ := S0.out.c7
  go_enter Tryz.func3, Tryz.ntmps3
  go_wp2_with fail
  refine HG.out.mono ?_
  rintro e w1 ⟨g, rfl, hg, hb1⟩
  have S1 := Lib.hid (S0.out.up hb1)
  have HGR := Lib.hid hg
  clear hb1 hg c0 c1 c2 c3 c4 c5 c6
  cases g with
  | true =>
    go_wp2_with fail
    refine (awake12_any w1).mono ?_
    rintro e w2 ⟨rfl, hb2⟩
    have S2 := Lib.hid (S1.out.up hb2)
    clear hb2
    go_wp2
    go_ret
    exact ⟨rfl, S2.out.below⟩
  | false =>
    have hsz : sz t ≤ 200 := HGR.out rfl hs
    have K1 := Lib.hid (fun W (h : QSt w c W) => pleaf_any t c id ax z fresh ahead W (HI.out.up h.below) HZ.out HF.out)
    have K2 := Lib.hid (fun W (h : QSt w c W) => rleaf_any t c id ax z fresh ahead W (by omega) (HI.out.up h.below) HZ.out HF.out)
    have K1' : Hid (∀ W, QSt w c W → Calls Tryz.prog 7 #[cval c, .int .i64 id, .int .u8 ax, .int .i64 z, .int .i64 fresh, .bool ahead] W fun e w' => ∃ d, e = .returned (.tuple #[cval d, .int .i64 (spE t id ax z fresh ahead)]) ∧ Is w' d (if spE t id ax z fresh ahead = 0 then spT t id ax z fresh ahead else noT) ∧ Below W.heap.size W w') := K1
    have K2' : Hid (∀ W, QSt w c W → Calls Tryz.prog 8 #[cval c, .int .i64 id, .int .u8 ax, .int .i64 z, .int .i64 fresh, .bool ahead] W fun e w' => ∃ d, e = .returned (.tuple #[cval d, .int .i64 (spE t id ax z fresh ahead)]) ∧ Is w' d (if spE t id ax z fresh ahead = 0 then spT t id ax z fresh ahead else noT) ∧ Below W.heap.size W w') := K2
    clear K1 K2 hsz hs HGR
    generalize (if spE t id ax z fresh ahead = 0 then spT t id ax z fresh ahead else noT) = u at K1' K2'
    generalize spE t id ax z fresh ahead = n at K1' K2'
    have K3 := Lib.hid (fun (d f : C) W (h : Is W d u) (h' : Is W f u) => rsame_any (sz u) u u d f W (Nat.le_refl _) h h')
    rw [(sameT_iff u u).2 rfl] at K3
    have b1 : (n == n) = true := by simp
    obtain ⟨c0, c1, c2, c3, c4, c5, c6⟩ := S1.out.c7
    go_wp2_with fail
    refine (K1'.out w1 S1.out).mono ?_
    rintro e w2 ⟨d1, rfl, hd1, hb2⟩
    have al2 : Below w2.heap.size w2 (w2.alloc (cbox d1)) := (Below.refl _ _).alloc (Nat.le_refl _) _
    have S2 := Lib.hid ((S1.out.up hb2).up al2)
    have D2 := Lib.hid (hd1.up al2)
    have X2 := Lib.hid (Box7.new w2 d1)
    clear hb2 hd1 al2 c0 c1 c2 c3 c4 c5 c6
    obtain ⟨c0, c1, c2, c3, c4, c5, c6⟩ := S2.out.c7
    go_wp2_with fail
    refine (K2'.out _ S2.out).mono ?_
    rintro e w3 ⟨d2, rfl, hd2, hb3⟩
    have al3 : Below w3.heap.size w3 (w3.alloc (cbox d2)) := (Below.refl _ _).alloc (Nat.le_refl _) _
    have S3 := Lib.hid ((S2.out.up hb3).up al3)
    have D3 := Lib.hid ((D2.out.up hb3).up al3)
    have F3 := Lib.hid (hd2.up al3)
    have X3 := Lib.hid ((X2.out.up hb3).up al3)
    have Y3 := Lib.hid (Box7.new w3 d2)
    clear hb3 hd2 al3 c0 c1 c2 c3 c4 c5 c6
    obtain ⟨c0, c1, c2, c3, c4, c5, c6⟩ := c7_of X3.out.cat
    obtain ⟨q0, q1, q2, q3, q4, q5, q6⟩ := c7_of Y3.out.cat
    go_wp2_with fail
    refine (K3.out d1 d2 _ D3.out F3.out).mono ?_
    rintro e w4 ⟨rfl, hb4⟩
    have S4 := Lib.hid (S3.out.up hb4)
    clear hb4 c0 c1 c2 c3 c4 c5 c6 q0 q1 q2 q3 q4 q5 q6
    go_wp2_with fail
    refine (awake12_any w4).mono ?_
    rintro e w5 ⟨rfl, hb5⟩
    have S5 := Lib.hid (S4.out.up hb5)
    clear hb5
    go_wp2
    go_ret
    exact ⟨rfl, S5.out.below⟩

theorem splitIs_wf (v0 : Value) (t : T) (c : C) (id ax z fresh : Int) (ahead : Bool) (w : World) (e0 : v0 = cval c) (hi : Is w c t) (hs : sz t ≤ 1048576) (hz : fits z) (hfr : fits fresh) :
    Calls Tryz.prog 3 #[v0, .int .i64 id, .int .u8 ax, .int .i64 z, .int .i64 fresh, .bool ahead] w fun e w' => e = .returned (.bool true) ∧ Below w.heap.size w w' := by
  subst e0
  exact splitIs_any t c id ax z fresh ahead w hi (by omega) hz hfr
end Go.Proofs.YtlaiggnkgdomkaaGreat
/- What the rows of this seat ask of a walk: axes as an argument. -/
namespace Go.Proofs.YtlaiggnkgdomkaaGreat
open Go.ChangeShapes Go.WideShapes Go.ChangeAt Go.WideMaps Go.WideElems Go.RowKit
open Go.ChangeMaps (open_string shut_string)
section
variable {H : Type} {enc : TypeId × Value → H} {w : World} {spare : Nat → Bool} {held : Bool}
theorem u8s_of {fuel : Nat} {v : Value} {x : DataW H × List MemPlace} (h : DataW.trod enc Tryz.prog w 0 spare held fuel 36 [v] = some x) : ∃ ms : List Int, Row w v (u8s ms) := by
  rcases open_ints Tryz.underlying36 Tryz.underlying5 (by kernel_rfl) h with ⟨hcs, _⟩ | ⟨a, l, c, zs, hcs, _, hl, hm, hz, _, hcell, hwz⟩
  · simp at hcs
    subst hcs
    exact ⟨[], none, 0, rfl, fun _ => ⟨rfl, rfl⟩, fun _ h => by cases h⟩
  · simp at hcs
    subst hcs
    have hlm : l ≤ zs.length := by rw [hz]; split <;> omega
    have htl : (zs.take l).length = l := by rw [List.length_take]; omega
    refine ⟨zs.take l, some a, c, by rw [u8s_length, htl], fun h => (by cases h), fun y hy j u hu => ?_⟩
    cases hy
    unfold u8s at hu
    rw [List.getElem?_map, Option.map_eq_some_iff] at hu
    obtain ⟨n, hn, rfl⟩ := hu
    have hjl : j < zs.length := by
      rcases Nat.lt_or_ge j zs.length with h | h
      · exact h
      · rw [List.getElem?_take, List.getElem?_eq_none h] at hn; split at hn <;> cases hn
    rw [hcell j hjl]
    rw [List.getElem?_take] at hn
    split at hn
    · rw [List.getD_eq_getElem?_getD, hn]; rfl
    · cases hn
end
end Go.Proofs.YtlaiggnkgdomkaaGreat
/- The law SplitCan. -/
namespace Go.Proofs.YtlaiggnkgdomkaaGreat
open Go.RowKit

/-- What the leaf that the document finds is asked. -/
noncomputable def wantK (id : Int) (t : T) (axs : List Int) (k : Nat) : Bool := ((lfF id t).isSome && tileB t) && (axs.take k).all fun a => decide (3 ≤ szA ((lfF id t).getD noT).r a)
theorem want_end (id : Int) (t : T) (axs : List Int) : wantK id t axs axs.length = canT id axs t := by
  unfold wantK canT
  rw [List.take_length]
  have h : ∀ r : R, (axs.all fun a => decide (3 ≤ szA r a)) = !(axs.any (lessB r)) := fun r => by
    rw [List.not_any_eq_all_not]
    congr 1
    funext a
    unfold lessB
    rw [Bool.eq_iff_iff]
    simp
  cases hl : lfF id t with
  | none => simp
  | some u =>
    simp only [Option.isSome_some, Bool.true_and, Option.getD_some]
    rw [h]
theorem want_step {id : Int} {t : T} {axs : List Int} {k : Nat} {a : Int} (h : axs[k]? = some a) : wantK id t axs (k + 1) = (wantK id t axs k && decide (3 ≤ szA ((lfF id t).getD noT).r a)) := by
  unfold wantK
  rw [List.take_add_one, h, List.all_append]
  simp [Bool.and_assoc]
/-- It is split just if it can. -/
theorem can_split {id : Int} {t : T} (hs : sz t ≤ 200) : (canT id [2] t = true → spE t id 2 0 2147483647 false = 0 ∨ spE t id 2 0 2147483647 false = 1) ∧ (canT id [2] t = false → spE t id 2 0 2147483647 false ≠ 0) := by
  have hax : axB 2 = true := by decide
  cases ht : tileB t with
  | false =>
    have h1 := sp_arg (id := id) (ahead := false) (t := t) (ax := 2) (z := 0) (fresh := 2147483647) fun e => by rw [ht] at e; cases e.1
    exact ⟨(fun h => by rw [can_no ht] at h; cases h), fun _ => by rw [h1]; decide⟩
  | true =>
    have hok : tileB t = true ∧ axB 2 = true ∧ (0 : Int) ≤ 0 ∧ (0 : Int) ≤ 2147483647 ∧ (2147483647 : Int) ≤ 2147483647 := ⟨ht, hax, by decide, by decide, by decide⟩
    cases hf : (lfF 2147483647 t).isSome with
    | true =>
      have h1 := sp_dup (id := id) (ahead := false) hok hf
      exact ⟨fun _ => .inr h1, fun _ => by rw [h1]; decide⟩
    | false =>
      cases hl : lfF id t with
      | none =>
        have h1 := sp_none (ahead := false) hok hf hl
        exact ⟨(fun h => by rw [can_none hl] at h; cases h), fun _ => by rw [h1]; decide⟩
      | some u =>
        have h1 := sp_some (ahead := false) hok hf hl
        have h2 := can_yes (axs := [2]) ht hl
        have h3 := inT_sz id 2 (bothT u 2 0 2147483647 false) (twoL_sz _ _ _ _ _ _ _) t
        rw [h1, h2]
        by_cases h4 : szA u.r 2 < 3
        · rw [if_pos h4]
          have : ([2].any (lessB u.r)) = true := by simp [lessB, h4]
          rw [this]
          exact ⟨(fun h => by cases h), fun _ => by decide⟩
        · rw [if_neg h4, if_neg (by omega)]
          have : ([2].any (lessB u.r)) = false := by simp [lessB, h4]
          rw [this]
          exact ⟨fun _ => .inl rfl, (fun h => by cases h)⟩

set_option maxHeartbeats 4000000 in
set_option maxRecDepth 100000 in
theorem splitCan_any (t : T) (c : C) (id : Int) (v : Value) (axs : List Int) (w : World) (hi : Is w c t) (hs : sz t ≤ 1099511627776) (hr : Row w v (u8s axs)) :
    Calls Tryz.prog 4 #[cval c, .int .i64 id, v] w fun e w' => e = .returned (.bool true) ∧ Below w.heap.size w w' := by
  have S0 := Lib.hid (QSt.new w c)
  have HG := Lib.hid (great_any t c (w.alloc (cbox c)) (hi.up S0.out.below))
  have HI := Lib.hid hi
  obtain ⟨va, vcap, rfl⟩ := u8_shape hr
  have HR := Lib.hid hr
  clear hi hr
  obtain ⟨c0, c1, c2, c3, c4, c5, c6⟩ := S0.out.c7
  go_enter Tryz.func4, Tryz.ntmps4
  go_wp2_with fail
  refine HG.out.mono ?_
  rintro e w1 ⟨g, rfl, hg, hb1⟩
  have S1 := Lib.hid (S0.out.up hb1)
  have HGR := Lib.hid hg
  clear hb1 hg c0 c1 c2 c3 c4 c5 c6
  cases g with
  | true =>
    go_wp2_with fail
    refine (awake12_any w1).mono ?_
    rintro e w2 ⟨rfl, hb2⟩
    have S2 := Lib.hid (S1.out.up hb2)
    clear hb2
    go_wp2
    go_ret
    exact ⟨rfl, S2.out.below⟩
  | false =>
    have HS : Hid (sz t ≤ 200) := Lib.hid (HGR.out rfl hs)
    clear hs HGR
    by_cases h10 : 10 < axs.length
    · have d10 : decide ((10 : Int) < (axs.length : Int)) = true := decide_eq_true (by omega)
      clear h10
      go_wp2_with fail
      refine (awake12_any w1).mono ?_
      rintro e w2 ⟨rfl, hb2⟩
      have S2 := Lib.hid (S1.out.up hb2)
      clear hb2
      go_wp2
      go_ret
      exact ⟨rfl, S2.out.below⟩
    · have d10 : decide ((10 : Int) < (axs.length : Int)) = false := decide_eq_false (by omega)
      have HL10 : Hid (axs.length ≤ 10) := Lib.hid (by omega)
      have HFI := Lib.hid (rfindL_any id t c w1 (by have := HS.out; omega) (HI.out.up S1.out.below))
      clear h10
      obtain ⟨c0, c1, c2, c3, c4, c5, c6⟩ := S1.out.c7
      go_wp2_with fail
      refine HFI.out.mono ?_
      rintro e w3 ⟨d, rfl, hd, hb3⟩
      have al3 : Below w3.heap.size w3 (w3.alloc (cbox d)) := (Below.refl _ _).alloc (Nat.le_refl _) _
      have S3 := Lib.hid ((S1.out.up hb3).up al3)
      have X3 := Lib.hid (Box7.new w3 d)
      have HDR : Hid (((lfF id t).getD noT).r = d.r) := Lib.hid hd.split.2.1
      clear hb3 hd al3 c0 c1 c2 c3 c4 c5 c6 d10
      cases hsm : (lfF id t).isSome with
      | false =>
        obtain ⟨c0, c1, c2, c3, c4, c5, c6⟩ := S3.out.c7
        have S4 := S3
        have X4 := X3
        have HW0 : Hid (wantK id t axs 0 = false) := Lib.hid (by unfold wantK; rw [hsm]; simp)
        clear hsm c0 c1 c2 c3 c4 c5 c6
        go_wp2
        go_loopg [9, 10] (axs.length + 1) (fun g b i wr => ∃ k : Nat, g + k = axs.length + 1 ∧ k ≤ axs.length ∧ i = .int .i64 k ∧ b = .bool (wantK id t axs k) ∧ Below (w3.alloc (cbox d)).heap.size (w3.alloc (cbox d)) wr)
        case atStart => exact ⟨0, by omega, by omega, rfl, by rw [HW0.out], Below.refl _ _⟩
        case round =>
          obtain ⟨k, hgk, hk, rfl, rfl, hbr⟩ := hrel
          have HGK := Lib.hid hgk
          have hl10 := HL10.out
          have HB := Lib.hid hbr
          clear hgk hbr
          have S5 := Lib.hid (S4.out.up HB.out)
          have X5 := Lib.hid (X4.out.up HB.out)
          by_cases hlt : k < axs.length
          · have hlti : (k : Int) < (axs.length : Int) := by omega
            obtain ⟨a, ha⟩ : ∃ a, axs[k]? = some a := ⟨_, List.getElem?_eq_getElem hlt⟩
            have HST := Lib.hid (want_step (id := id) (t := t) ha)
            cases hwk : wantK id t axs k with
            | false =>
              rw [hwk] at HST
              have HN : Hid (wantK id t axs (k + 1) = false) := Lib.hid (by rw [HST.out]; rfl)
              clear ha hwk HST
              go_wp2
              go_quiet (fail)
              go_wp2
              go_roundg (gk - 1)
              case measure => have := HGK.out; omega
              case rel => exact ⟨k + 1, by have := HGK.out; omega, by omega, by go_num, by rw [HN.out], ⟨HB.out.os, HB.out.tape, HB.out.output, HB.out.size, HB.out.block⟩⟩
            | true =>
              rw [hwk, Bool.true_and] at HST
              obtain ⟨ad, rfl, hf⟩ := u8_at HR.out (by omega)
              have ca := hf k a ha
              have ca := ((S5.out.below).cell (lt_of_cell ca)).trans ca
              have D5 : Hid (Below wr.heap.size wr wr.drew) := Lib.hid (Below.refl _ _).drew
              have HA0 : Hid (C7 w3.heap.size d wr.drew ∧ wr.drew.cell? (ad.add k) = some (.int .u8 a)) := Lib.hid ⟨c7_of (X5.out.up D5.out).cat, ca⟩
              have HSZ := Lib.hid (rsize_any d.r a wr.drew)
              rw [HDR.out] at HST
              generalize szA d.r a = sa at HSZ HST
              clear hf ha ca hwk
              go_wp2_with fail
              go_region_held3 (fun W => (W.cell? ⟨w3.heap.size, 0, none⟩ = some (.int .u8 d.k) ∧ W.cell? ⟨w3.heap.size, 1, none⟩ = some (.int .i64 d.r.x) ∧ W.cell? ⟨w3.heap.size, 2, none⟩ = some (.int .i64 d.r.y) ∧ W.cell? ⟨w3.heap.size, 3, none⟩ = some (.int .i64 d.r.w) ∧ W.cell? ⟨w3.heap.size, 4, none⟩ = some (.int .i64 d.r.h) ∧ W.cell? ⟨w3.heap.size, 5, none⟩ = some (.int .i64 d.id) ∧ W.cell? ⟨w3.heap.size, 6, none⟩ = some (.slice d.a d.n d.cap)) ∧ W.cell? (ad.add k) = some (.int .u8 a)) (first | with_reducible exact HA0.out | with_reducible exact HA1.out)
                (first
                  | (go_at_call 12; (with_reducible refine HSZ.out.mono ?_); rintro e w6 ⟨rfl, hb6⟩; have D6 := Lib.hid (D5.out.trans (hb6.mono D5.out.size)); have HA1 : Hid (C7 w3.heap.size d w6 ∧ w6.cell? (ad.add k) = some (.int .u8 a)) := Lib.hid ⟨c7_of (X5.out.up D6.out).cat, (hb6.cell (lt_of_cell HA0.out.2)).trans HA0.out.2⟩; clear hb6))
              go_wp2
              go_roundg (gk - 1)
              case measure => have := HGK.out; omega
              case rel => exact ⟨k + 1, by have := HGK.out; omega, by omega, by go_num, by rw [HST.out], HB.out.trans (D6.out.mono HB.out.size)⟩
          · obtain rfl : k = axs.length := by omega
            have hkl : ((axs.length : Int) < (axs.length : Int)) = False := by simp
            rw [want_end]
            have HPL := Lib.hid (fun W (h : QSt w c W) => pleaf_any t c id 2 0 2147483647 false W (HI.out.up h.below) ⟨by omega, by omega⟩ ⟨by omega, by omega⟩)
            have HPL' : Hid (∀ W, QSt w c W → Calls Tryz.prog 7 #[cval c, .int .i64 id, .int .u8 2, .int .i64 0, .int .i64 2147483647, .bool false] W fun e w' => ∃ d, e = .returned (.tuple #[cval d, .int .i64 (spE t id 2 0 2147483647 false)]) ∧ Below W.heap.size W w') := Lib.hid fun W h => (HPL.out W h).mono fun e w' h2 => by
              obtain ⟨d, h3, -, h4⟩ := h2; exact ⟨d, h3, h4⟩
            have HC1 := Lib.hid (fun W (h : QSt w c W) => pcan_any t c id (.slice (some ⟨W.heap.size, 0, none⟩) 1 1) [2] (W.alloc (.cells #[.int .u8 2] 5)) (by have := HS.out; omega) may_small ((HI.out.up h.below).up ((Below.refl _ _).alloc (Nat.le_refl _) _)) (row_one W _ _) (by simp))
            have HC2 := Lib.hid (fun W (h : QSt w c W) => pcan_any t c id (.slice va axs.length vcap) axs W (by have := HS.out; omega) may_small (HI.out.up h.below) (HR.out.up h.below) (by have := HL10.out; omega))
            obtain ⟨g1, g2⟩ := can_split (id := id) HS.out
            clear HPL
            generalize canT id axs t = q1 at HC2 ⊢
            generalize canT id [2] t = q2 at HC1 g1 g2
            generalize spE t id 2 0 2147483647 false = E at HPL' g1 g2
            have b1 : (q1 == q1) = true := by simp
            have hcase : (q2 = true ∧ (E == 0) = true ∧ (E == 1) = false ∧ (E != 0) = false) ∨ (q2 = true ∧ (E == 0) = false ∧ (E == 1) = true ∧ (E != 0) = true) ∨ (q2 = false ∧ (E == 0) = false ∧ (E != 0) = true) := by
              cases q2 with
              | true =>
                rcases g1 rfl with h | h
                · subst h; left; decide
                · subst h; right; left; decide
              | false =>
                have := g2 rfl
                right; right
                refine ⟨rfl, ?_, ?_⟩ <;> simp [this]
            clear g1 g2
            obtain ⟨c0, c1, c2, c3, c4, c5, c6⟩ := S5.out.c7
            go_wp2_with fail
            refine (HPL'.out wr S5.out).mono ?_
            rintro e w6 ⟨d6, rfl, hb6⟩
            have S6 := Lib.hid ((S5.out.up hb6).up ((Below.refl w6.heap.size w6).alloc (Nat.le_refl _) (cbox d6)))
            clear hb6 c0 c1 c2 c3 c4 c5 c6
            have hs6 : (w6.alloc (cbox d6)).heap.size = w6.heap.size + 1 := by simp
            have HC3 := Lib.hid (HC1.out _ S6.out)
            rw [hs6] at HC3
            clear hs6
            obtain ⟨c0, c1, c2, c3, c4, c5, c6⟩ := S6.out.c7
            go_wp2_with fail
            refine HC3.out.mono ?_
            rintro e w7 ⟨rfl, hb7⟩
            have S7 := Lib.hid ((S6.out.up ((Below.refl _ _).alloc (Nat.le_refl _) _)).up hb7)
            clear hb7 c0 c1 c2 c3 c4 c5 c6 HC3
            obtain ⟨c0, c1, c2, c3, c4, c5, c6⟩ := S7.out.c7
            go_wp2_with fail
            refine (HC2.out w7 S7.out).mono ?_
            rintro e w8 ⟨rfl, hb8⟩
            have S8 := Lib.hid (S7.out.up hb8)
            clear hb8 c0 c1 c2 c3 c4 c5 c6
            rcases hcase with ⟨rfl, e1, e2, e3⟩ | ⟨rfl, e1, e2, e3⟩ | ⟨rfl, e1, e3⟩
            all_goals
              go_wp2_with fail
              refine (awake12_any w8).mono ?_
              rintro e w9 ⟨rfl, hb9⟩
              have S9 := Lib.hid (S8.out.up hb9)
              clear hb9
              go_wp2
              go_ret
              exact ⟨rfl, S9.out.below⟩
      | true =>
        have HTI := Lib.hid (rtiles8_any t c (w3.alloc (cbox d)) (HI.out.up S3.out.below) (by have := HS.out; omega))
        obtain ⟨c0, c1, c2, c3, c4, c5, c6⟩ := S3.out.c7
        go_wp2_with fail
        refine HTI.out.mono ?_
        rintro e w4 ⟨rfl, hb4⟩
        have S4 := Lib.hid (S3.out.up hb4)
        have X4 := Lib.hid (X3.out.up hb4)
        clear hb4 HTI
        have HW0 : Hid (wantK id t axs 0 = tileB t) := Lib.hid (by unfold wantK; rw [hsm]; simp)
        clear hsm c0 c1 c2 c3 c4 c5 c6
        go_wp2
        go_loopg [9, 10] (axs.length + 1) (fun g b i wr => ∃ k : Nat, g + k = axs.length + 1 ∧ k ≤ axs.length ∧ i = .int .i64 k ∧ b = .bool (wantK id t axs k) ∧ Below w4.heap.size w4 wr)
        case atStart => exact ⟨0, by omega, by omega, rfl, by rw [HW0.out], Below.refl _ _⟩
        case round =>
          obtain ⟨k, hgk, hk, rfl, rfl, hbr⟩ := hrel
          have HGK := Lib.hid hgk
          have hl10 := HL10.out
          have HB := Lib.hid hbr
          clear hgk hbr
          have S5 := Lib.hid (S4.out.up HB.out)
          have X5 := Lib.hid (X4.out.up HB.out)
          by_cases hlt : k < axs.length
          · have hlti : (k : Int) < (axs.length : Int) := by omega
            obtain ⟨a, ha⟩ : ∃ a, axs[k]? = some a := ⟨_, List.getElem?_eq_getElem hlt⟩
            have HST := Lib.hid (want_step (id := id) (t := t) ha)
            cases hwk : wantK id t axs k with
            | false =>
              rw [hwk] at HST
              have HN : Hid (wantK id t axs (k + 1) = false) := Lib.hid (by rw [HST.out]; rfl)
              clear ha hwk HST
              go_wp2
              go_quiet (fail)
              go_wp2
              go_roundg (gk - 1)
              case measure => have := HGK.out; omega
              case rel => exact ⟨k + 1, by have := HGK.out; omega, by omega, by go_num, by rw [HN.out], ⟨HB.out.os, HB.out.tape, HB.out.output, HB.out.size, HB.out.block⟩⟩
            | true =>
              rw [hwk, Bool.true_and] at HST
              obtain ⟨ad, rfl, hf⟩ := u8_at HR.out (by omega)
              have ca := hf k a ha
              have ca := ((S5.out.below).cell (lt_of_cell ca)).trans ca
              have D5 : Hid (Below wr.heap.size wr wr.drew) := Lib.hid (Below.refl _ _).drew
              have HA0 : Hid (C7 w3.heap.size d wr.drew ∧ wr.drew.cell? (ad.add k) = some (.int .u8 a)) := Lib.hid ⟨c7_of (X5.out.up D5.out).cat, ca⟩
              have HSZ := Lib.hid (rsize_any d.r a wr.drew)
              rw [HDR.out] at HST
              generalize szA d.r a = sa at HSZ HST
              clear hf ha ca hwk
              go_wp2_with fail
              go_region_held3 (fun W => (W.cell? ⟨w3.heap.size, 0, none⟩ = some (.int .u8 d.k) ∧ W.cell? ⟨w3.heap.size, 1, none⟩ = some (.int .i64 d.r.x) ∧ W.cell? ⟨w3.heap.size, 2, none⟩ = some (.int .i64 d.r.y) ∧ W.cell? ⟨w3.heap.size, 3, none⟩ = some (.int .i64 d.r.w) ∧ W.cell? ⟨w3.heap.size, 4, none⟩ = some (.int .i64 d.r.h) ∧ W.cell? ⟨w3.heap.size, 5, none⟩ = some (.int .i64 d.id) ∧ W.cell? ⟨w3.heap.size, 6, none⟩ = some (.slice d.a d.n d.cap)) ∧ W.cell? (ad.add k) = some (.int .u8 a)) (first | with_reducible exact HA0.out | with_reducible exact HA1.out)
                (first
                  | (go_at_call 12; (with_reducible refine HSZ.out.mono ?_); rintro e w6 ⟨rfl, hb6⟩; have D6 := Lib.hid (D5.out.trans (hb6.mono D5.out.size)); have HA1 : Hid (C7 w3.heap.size d w6 ∧ w6.cell? (ad.add k) = some (.int .u8 a)) := Lib.hid ⟨c7_of (X5.out.up D6.out).cat, (hb6.cell (lt_of_cell HA0.out.2)).trans HA0.out.2⟩; clear hb6))
              go_wp2
              go_roundg (gk - 1)
              case measure => have := HGK.out; omega
              case rel => exact ⟨k + 1, by have := HGK.out; omega, by omega, by go_num, by rw [HST.out], HB.out.trans (D6.out.mono HB.out.size)⟩
          · obtain rfl : k = axs.length := by omega
            have hkl : ((axs.length : Int) < (axs.length : Int)) = False := by simp
            rw [want_end]
            have HPL := Lib.hid (fun W (h : QSt w c W) => pleaf_any t c id 2 0 2147483647 false W (HI.out.up h.below) ⟨by omega, by omega⟩ ⟨by omega, by omega⟩)
            have HPL' : Hid (∀ W, QSt w c W → Calls Tryz.prog 7 #[cval c, .int .i64 id, .int .u8 2, .int .i64 0, .int .i64 2147483647, .bool false] W fun e w' => ∃ d, e = .returned (.tuple #[cval d, .int .i64 (spE t id 2 0 2147483647 false)]) ∧ Below W.heap.size W w') := Lib.hid fun W h => (HPL.out W h).mono fun e w' h2 => by
              obtain ⟨d, h3, -, h4⟩ := h2; exact ⟨d, h3, h4⟩
            have HC1 := Lib.hid (fun W (h : QSt w c W) => pcan_any t c id (.slice (some ⟨W.heap.size, 0, none⟩) 1 1) [2] (W.alloc (.cells #[.int .u8 2] 5)) (by have := HS.out; omega) may_small ((HI.out.up h.below).up ((Below.refl _ _).alloc (Nat.le_refl _) _)) (row_one W _ _) (by simp))
            have HC2 := Lib.hid (fun W (h : QSt w c W) => pcan_any t c id (.slice va axs.length vcap) axs W (by have := HS.out; omega) may_small (HI.out.up h.below) (HR.out.up h.below) (by have := HL10.out; omega))
            obtain ⟨g1, g2⟩ := can_split (id := id) HS.out
            clear HPL
            generalize canT id axs t = q1 at HC2 ⊢
            generalize canT id [2] t = q2 at HC1 g1 g2
            generalize spE t id 2 0 2147483647 false = E at HPL' g1 g2
            have b1 : (q1 == q1) = true := by simp
            have hcase : (q2 = true ∧ (E == 0) = true ∧ (E == 1) = false ∧ (E != 0) = false) ∨ (q2 = true ∧ (E == 0) = false ∧ (E == 1) = true ∧ (E != 0) = true) ∨ (q2 = false ∧ (E == 0) = false ∧ (E != 0) = true) := by
              cases q2 with
              | true =>
                rcases g1 rfl with h | h
                · subst h; left; decide
                · subst h; right; left; decide
              | false =>
                have := g2 rfl
                right; right
                refine ⟨rfl, ?_, ?_⟩ <;> simp [this]
            clear g1 g2
            obtain ⟨c0, c1, c2, c3, c4, c5, c6⟩ := S5.out.c7
            go_wp2_with fail
            refine (HPL'.out wr S5.out).mono ?_
            rintro e w6 ⟨d6, rfl, hb6⟩
            have S6 := Lib.hid ((S5.out.up hb6).up ((Below.refl w6.heap.size w6).alloc (Nat.le_refl _) (cbox d6)))
            clear hb6 c0 c1 c2 c3 c4 c5 c6
            have hs6 : (w6.alloc (cbox d6)).heap.size = w6.heap.size + 1 := by simp
            have HC3 := Lib.hid (HC1.out _ S6.out)
            rw [hs6] at HC3
            clear hs6
            obtain ⟨c0, c1, c2, c3, c4, c5, c6⟩ := S6.out.c7
            go_wp2_with fail
            refine HC3.out.mono ?_
            rintro e w7 ⟨rfl, hb7⟩
            have S7 := Lib.hid ((S6.out.up ((Below.refl _ _).alloc (Nat.le_refl _) _)).up hb7)
            clear hb7 c0 c1 c2 c3 c4 c5 c6 HC3
            obtain ⟨c0, c1, c2, c3, c4, c5, c6⟩ := S7.out.c7
            go_wp2_with fail
            refine (HC2.out w7 S7.out).mono ?_
            rintro e w8 ⟨rfl, hb8⟩
            have S8 := Lib.hid (S7.out.up hb8)
            clear hb8 c0 c1 c2 c3 c4 c5 c6
            rcases hcase with ⟨rfl, e1, e2, e3⟩ | ⟨rfl, e1, e2, e3⟩ | ⟨rfl, e1, e3⟩
            all_goals
              go_wp2_with fail
              refine (awake12_any w8).mono ?_
              rintro e w9 ⟨rfl, hb9⟩
              have S9 := Lib.hid (S8.out.up hb9)
              clear hb9
              go_wp2
              go_ret
              exact ⟨rfl, S9.out.below⟩

theorem splitCan_wf (v0 : Value) (t : T) (c : C) (id : Int) (v : Value) (axs : List Int) (w : World) (e0 : v0 = cval c) (hi : Is w c t) (hs : sz t ≤ 1048576) (hr : Row w v (u8s axs)) :
    Calls Tryz.prog 4 #[v0, .int .i64 id, v] w fun e w' => e = .returned (.bool true) ∧ Below w.heap.size w w' := by
  subst e0
  exact splitCan_any t c id v axs w hi (by omega) hr
end Go.Proofs.YtlaiggnkgdomkaaGreat
