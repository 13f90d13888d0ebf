/- Texts of this seat, 3 in one file. -/
import Derived.Test.YtakofjbjciljjaaGreatG26
import Derived.Test.YtakofjbjciljjaaGreatG25
/- The law SwapTwos. -/
namespace Go.Proofs.YtakofjbjciljjaaGreat
open Go.RowKit

structure QSt (w : World) (c : C) (W : World) : Prop where
  below : Below w.heap.size w W
  cat : CAt W w.heap.size 0 c
theorem QSt.up {w : World} {c : C} {W W' : World} (h : QSt w c W) (hb : Below W.heap.size W W') : QSt w c W' := ⟨h.below.trans (hb.mono h.below.size), h.cat.up hb⟩
theorem QSt.c7 {w : World} {c : C} {W : World} (h : QSt w c W) : C7 w.heap.size c W := c7_of h.cat
theorem QSt.new (w : World) (c : C) : QSt w c (w.alloc (cbox c)) := ⟨(Below.refl _ _).alloc (Nat.le_refl _) _, cbox_new w c⟩

/-- What is answered, in one form. -/
def swT (n : Int) (u : T) : T := if n = 0 then u else zT
theorem sw_all {n : Int} {u : T} {w : World} {e : Ending} {w' : World} (h : SwSays n u .i64 w e w') : ∃ d, e = .returned (.tuple #[cval d, .int .i64 n]) ∧ Is w' d (swT n u) ∧ Below w.heap.size w w' := by
  obtain ⟨d, he, hi, hb⟩ := h
  exact ⟨d, he, hi w' fun _ _ => rfl, hb⟩
theorem swT_sz {n : Int} {u : T} {k : Nat} (h : sz u ≤ k) (hk : 1 ≤ k) : sz (swT n u) ≤ k := by
  unfold swT
  split
  · exact h
  · have : sz zT = 1 := by simp [sz, szL, zT]
    omega

end Go.Proofs.YtakofjbjciljjaaGreat
/- The law SwapOrders. -/
namespace Go.Proofs.YtakofjbjciljjaaGreat
open Go.RowKit

/-- What the program's Order answers. -/
def OrderK : Prop := ∀ (t : T) (c : C) (v : Value) (l : List Int) (w : World), sz t ≤ 20000 → l.length ≤ 1000000 → Is w c t → Cutt w v l → (∀ m ∈ l, fits m) → Calls Tryz.prog 6 #[cval c, v] w (SwSays (odE t l) (nmT l t) .i64 w)

set_option maxHeartbeats 2000000 in
set_option maxRecDepth 100000 in
theorem swapOrders_any (HO : OrderK) (HR : RoundK) (t : T) (c : C) (v : Value) (l : List Int) (w : World) (hi : Is w c t) (hp : Cutt w v l) (hfit : ∀ m ∈ l, fits m) (hs : sz t ≤ 1099511627776) : Calls Tryz.prog 3 #[cval c, v] w fun e w' => e = .returned (.bool true) ∧ Below w.heap.size w w' := by
  obtain ⟨a, cap, rfl, -⟩ := hp.cap
  have S0 := Lib.hid (QSt.new w c)
  have HG := Lib.hid (great_any t c (w.alloc (cbox c)) (hi.up S0.out.below))
  have HI := Lib.hid hi
  have HP := Lib.hid hp
  have HAW := Lib.hid (awake15_any HR)
  clear hi HR hp
  obtain ⟨c0, c1, c2, c3, c4, c5, c6⟩ := S0.out.c7
  go_enter Tryz.func3, Tryz.ntmps3
  go_wp2_with fail
  refine HG.out.mono ?_
  rintro e w1 ⟨g, rfl, hg, hb1⟩
  have S1 := Lib.hid (S0.out.up hb1)
  have HGR := Lib.hid hg
  clear hb1 hg c0 c1 c2 c3 c4 c5 c6
  cases g with
  | true =>
    go_wp2_with fail
    refine (HAW.out w1).mono ?_
    rintro e w2 ⟨rfl, hb2⟩
    have S2 := Lib.hid (S1.out.up hb2)
    clear hb2
    go_wp2
    go_ret
    exact ⟨rfl, S2.out.below⟩
  | false =>
    have hsz : sz t ≤ 200 := HGR.out rfl hs
    by_cases h300 : 300 < l.length
    · have d3 : decide (300 < (l.length : Int)) = true := decide_eq_true (by omega)
      have d3' : decide (300 < l.length) = true := decide_eq_true h300
      go_wp2_with fail
      refine (HAW.out w1).mono ?_
      rintro e w2 ⟨rfl, hb2⟩
      have S2 := Lib.hid (S1.out.up hb2)
      clear hb2
      go_wp2
      go_ret
      exact ⟨rfl, S2.out.below⟩
    have d3 : decide (300 < (l.length : Int)) = false := decide_eq_false (by omega)
    have d3' : decide (300 < l.length) = false := decide_eq_false h300
    have K1 : Hid (∀ W, QSt w c W → Calls Tryz.prog 6 #[cval c, .slice a l.length cap] W fun e w' => ∃ d, e = .returned (.tuple #[cval d, .int .i64 (odE t l)]) ∧ Is w' d (swT (odE t l) (nmT l t)) ∧ Below W.heap.size W w') := Lib.hid fun W h => (HO t c _ l W (by omega) (by omega) (HI.out.up h.below) (HP.out.up h.below) hfit).mono fun e w' h => sw_all h
    have K2 : Hid (∀ W, QSt w c W → Calls Tryz.prog 7 #[cval c, .slice a l.length cap] W fun e w' => ∃ d, e = .returned (.tuple #[cval d, .int .i64 (odE t l)]) ∧ Is w' d (swT (odE t l) (nmT l t)) ∧ Below W.heap.size W w') := Lib.hid fun W h => (rorder_any t c _ l W (by omega) (HI.out.up h.below) (HP.out.up h.below) hfit).mono fun e w' h => sw_all h
    clear hsz hs HGR hfit HO
    generalize swT (odE t l) (nmT l t) = u at K1 K2
    generalize odE t l = n at K1 K2
    have K5 := Lib.hid (fun (d f : C) (u : T) W (h : Is W d u) (h' : Is W f u) => rsame_any (sz u) u u d f W (Nat.le_refl _) h h')
    have b1 : (n == n) = true := by simp
    obtain ⟨c0, c1, c2, c3, c4, c5, c6⟩ := S1.out.c7
    go_wp2_with fail
    refine (K1.out w1 S1.out).mono ?_
    rintro e w2 ⟨d, rfl, hd, hb2⟩
    have al2 : Below w2.heap.size w2 (w2.alloc (cbox d)) := (Below.refl _ _).alloc (Nat.le_refl _) _
    have S2 := Lib.hid ((S1.out.up hb2).up al2)
    have D2 := Lib.hid (hd.up al2)
    have X2 := Lib.hid (Box7.new w2 d)
    clear hb2 hd al2 c0 c1 c2 c3 c4 c5 c6
    obtain ⟨c0, c1, c2, c3, c4, c5, c6⟩ := S2.out.c7
    go_wp2_with fail
    refine (K2.out _ S2.out).mono ?_
    rintro e w3 ⟨f, rfl, hf, hb3⟩
    have al3 : Below w3.heap.size w3 (w3.alloc (cbox f)) := (Below.refl _ _).alloc (Nat.le_refl _) _
    have S3 := Lib.hid ((S2.out.up hb3).up al3)
    have D3 := Lib.hid ((D2.out.up hb3).up al3)
    have F3 := Lib.hid (hf.up al3)
    have X3 := Lib.hid ((X2.out.up hb3).up al3)
    have Y3 := Lib.hid (Box7.new w3 f)
    clear hb3 hf al3 c0 c1 c2 c3 c4 c5 c6
    obtain ⟨c0, c1, c2, c3, c4, c5, c6⟩ := c7_of X3.out.cat
    obtain ⟨q0, q1, q2, q3, q4, q5, q6⟩ := c7_of Y3.out.cat
    have K6 := Lib.hid (K5.out d f u _ D3.out F3.out)
    rw [(sameT_iff u u).2 rfl] at K6
    go_wp2_with fail
    refine K6.out.mono ?_
    rintro e w6 ⟨rfl, hb6⟩
    have S6 := Lib.hid (S3.out.up hb6)
    clear hb6 c0 c1 c2 c3 c4 c5 c6 q0 q1 q2 q3 q4 q5 q6 K6
    go_wp2_with fail
    refine (HAW.out w6).mono ?_
    rintro e w9 ⟨rfl, hb9⟩
    have S9 := Lib.hid (S6.out.up hb9)
    clear hb9
    go_wp2
    go_ret
    exact ⟨rfl, S9.out.below⟩
theorem swapOrders_wf (HO : OrderK) (HR : RoundK) (v0 : Value) (t : T) (c : C) (v : Value) (l : List Int) (w : World) (e0 : v0 = cval c) (hi : Is w c t) (hs : sz t ≤ 1048576) (hp : Cutt w v l) (hfit : ∀ m ∈ l, fits m) :
    Calls Tryz.prog 3 #[v0, v] w fun e w' => e = .returned (.bool true) ∧ Below w.heap.size w w' := by
  subst e0
  exact swapOrders_any HO HR t c v l w hi hp hfit (by omega)
end Go.Proofs.YtakofjbjciljjaaGreat
/- Which numbers are a tree's: the library's Contains and ContainsFunc over numbers, and the program's leaves. -/
namespace Go.Proofs.YtakofjbjciljjaaGreat
open Go.RowKit

set_option maxRecDepth 100000 in
theorem indexI_same (v : Value) (l : List Int) (id : Int) (w : World) (hr : Row w v (ints l)) (hl : l.length ≤ 1000000) :
    Calls Tryz.prog 42 #[v, .int .i64 id] w fun e w' => ∃ n : Int, e = .returned (.int .i64 n) ∧ decide (0 ≤ n) = decide (id ∈ l) ∧ w = w' := by
  obtain ⟨a, cap, rfl⟩ := row_shape hr
  have HR := Lib.hid hr
  clear hr
  go_enter Tryz.func42, Tryz.ntmps42
  go_wp2
  go_loopg [8] (l.length + 1) (fun g i wr => ∃ k : Nat, g + k = l.length + 1 ∧ k ≤ l.length ∧ i = .int .i64 k ∧ (∀ (j : Nat) (q : Int), j < k → l[j]? = some q → q ≠ id) ∧ w = wr)
  case atStart => exact ⟨0, by omega, by omega, rfl, fun j q hj => by omega, rfl⟩
  case round =>
    obtain ⟨k, hg, hk, rfl, hno, rfl⟩ := hrel
    have HG := Lib.hid hg
    have HNO := Lib.hid hno
    clear hg hno
    by_cases hlt : k < l.length
    · obtain ⟨b, o, rfl, hf⟩ := int_at HR.out (by omega)
      obtain ⟨p, hp⟩ : ∃ p, l[k]? = some p := ⟨_, List.getElem?_eq_getElem hlt⟩
      have c0 := hf k p hp
      clear hf
      have HP := Lib.hid hp
      clear hp
      by_cases he : p = id
      · have d1 : (id == p) = true := by simpa using he.symm
        have HV : Hid (decide (id ∈ l) = true) := Lib.hid (decide_eq_true (by rw [← he]; exact List.mem_of_getElem? HP.out))
        clear he
        go_wp2
        go_ret
        exact ⟨_, rfl, by rw [HV.out]; exact decide_eq_true (by omega), rfl⟩
      · have d1 : (id == p) = false := by rw [beq_eq_false_iff_ne]; exact fun h => he h.symm
        have HE := Lib.hid he
        clear he
        go_wp2
        go_roundg (gk - 1)
        case measure => have := HG.out; omega
        case rel =>
          refine ⟨k + 1, by have := HG.out; omega, by omega, by have e : wrap64 ((k : Int) + 1) = ((k + 1 : Nat) : Int) := (by rw [← wrapE, wrap_id (by omega)]; omega); first | rfl | exact congrArg _ e | (rw [e]) | (congr 1; omega) | (simp only [IntKind.wrap_i64, e]), fun j q hj hq => ?_, rfl⟩
          rcases Nat.lt_or_ge j k with h | h
          · exact HNO.out j q h hq
          · obtain rfl : j = k := by omega
            rw [HP.out] at hq; cases hq; exact HE.out
    · obtain rfl : k = l.length := by omega
      have hkl : ((l.length : Int) < (l.length : Int)) = False := by simp
      have HV : Hid (decide (id ∈ l) = false) := Lib.hid (decide_eq_false (fun hm => by
        obtain ⟨j, hj, he⟩ := List.getElem_of_mem hm
        exact HNO.out j _ hj (List.getElem?_eq_getElem hj) he))
      go_wp2
      go_ret
      exact ⟨_, rfl, by rw [HV.out]; exact decide_eq_false (by omega), rfl⟩

theorem containsI_same (v : Value) (l : List Int) (id : Int) (w : World) (hr : Row w v (ints l)) (hl : l.length ≤ 1000000) :
    Calls Tryz.prog 28 #[v, .int .i64 id] w fun e w' => e = .returned (.bool (decide (id ∈ l))) ∧ w = w' := by
  have H2 := Lib.hid (indexI_same v l id w hr hl)
  obtain ⟨a, cap, rfl⟩ := row_shape hr
  clear hr
  generalize decide (id ∈ l) = q at H2 ⊢
  go_enter Tryz.func28, Tryz.ntmps28
  go_wp2_with fail
  refine H2.out.mono ?_
  rintro e w2 ⟨n, rfl, hd, rfl⟩
  subst hd
  go_wp2
  go_ret
  exact ⟨rfl, rfl⟩

/-- A box with a row of numbers. -/
theorem lv1_same (v : Value) (l : List Int) (id : Int) (b : Nat) (w : World) (hc : w.cell? ⟨b, 0, none⟩ = some v) (hr : Row w v (ints l)) (hl : l.length ≤ 1000000) :
    Calls Tryz.prog 27 #[.int .i64 id, .pointer (some ⟨b, 0, none⟩)] w fun e w' => e = .returned (.bool (!decide (id ∈ l))) ∧ w = w' := by
  have H2 := Lib.hid (containsI_same v l id w hr hl)
  obtain ⟨a, cap, rfl⟩ := row_shape hr
  clear hr
  generalize decide (id ∈ l) = q at H2 ⊢
  go_enter Tryz.func27, Tryz.ntmps27
  go_wp2_with fail
  refine H2.out.mono ?_
  rintro e w2 ⟨rfl, rfl⟩
  go_wp2
  go_ret
  exact ⟨rfl, rfl⟩
theorem entersL1 : Enters 27 := enters_of Tryz.func27 (by kernel_rfl) rfl

def outB (l as_ : List Int) : Bool := as_.any fun x => !decide (x ∈ l)
set_option maxHeartbeats 800000 in
set_option maxRecDepth 100000 in
theorem idxL_same (va : Value) (as_ : List Int) (v : Value) (l : List Int) (b : Nat) (w : World) (hra : Row w va (ints as_)) (hla : as_.length ≤ 1000000) (hc : w.cell? ⟨b, 0, none⟩ = some v) (hr : Row w v (ints l)) (hl : l.length ≤ 1000000) :
    Calls Tryz.prog 41 #[va, .func (.func 27) #[] #[.pointer (some ⟨b, 0, none⟩)]] w fun e w' => ∃ n : Int, e = .returned (.int .i64 n) ∧ decide (0 ≤ n) = outB l as_ ∧ w = w' := by
  have hent : ∀ (args : Array Value) (w : World), (callFunc 27 args).run Tryz.prog w = .ok (.enter 27 args) w := entersL1
  obtain ⟨a, cap, rfl⟩ := row_shape hra
  have HR := Lib.hid hra
  have HCL := Lib.hid (fun (x : Int) => lv1_same v l x b w hc hr hl)
  clear hra hr hc
  go_enter Tryz.func41, Tryz.ntmps41
  go_wp2
  go_loopg [8] (as_.length + 1) (fun g i wr => ∃ k : Nat, g + k = as_.length + 1 ∧ k ≤ as_.length ∧ i = .int .i64 k ∧ (∀ (j : Nat) (x : Int), j < k → as_[j]? = some x → (!decide (x ∈ l)) = false) ∧ w = wr)
  case atStart => exact ⟨0, by omega, by omega, rfl, fun j x hj => by omega, rfl⟩
  case round =>
    obtain ⟨k, hgk, hk, rfl, hno, rfl⟩ := hrel
    have HG := Lib.hid hgk
    have HN := Lib.hid hno
    clear hgk hno
    by_cases hlt : k < as_.length
    · have hlti : (k : Int) < (as_.length : Int) := by omega
      obtain ⟨x, hx⟩ : ∃ x, as_[k]? = some x := ⟨_, List.getElem?_eq_getElem hlt⟩
      obtain ⟨bb, oo, rfl, hf⟩ := int_at HR.out (by omega)
      have c0 := hf k x hx
      have HLX := Lib.hid hx
      clear hf hx
      have HC := Lib.hid (HCL.out x)
      cases hbx : (!decide (x ∈ l)) with
      | true =>
        rw [hbx] at HC
        have HBX := Lib.hid hbx
        clear hbx
        go_wp2_with fail
        refine HC.out.mono ?_
        rintro e w2 ⟨rfl, rfl⟩
        go_wp2
        go_ret
        refine ⟨_, rfl, ?_, rfl⟩
        rw [decide_eq_true (by omega)]
        exact (List.any_eq_true.2 ⟨x, List.mem_of_getElem? HLX.out, HBX.out⟩).symm
      | false =>
        rw [hbx] at HC
        have HBX := Lib.hid hbx
        clear hbx
        go_wp2_with fail
        refine HC.out.mono ?_
        rintro e w2 ⟨rfl, rfl⟩
        go_wp2
        go_roundg (gk - 1)
        case measure => have := HG.out; omega
        case rel =>
          refine ⟨k + 1, by have := HG.out; omega, by omega, by have e : wrap64 ((k : Int) + 1) = ((k + 1 : Nat) : Int) := (by rw [← wrapE, wrap_id (by omega)]; omega); first | rfl | exact congrArg _ e | (rw [e]) | (congr 1; omega) | (simp only [IntKind.wrap_i64, e]), fun j y hj hy => ?_, rfl⟩
          rcases Nat.lt_or_ge j k with h | h
          · exact HN.out j y h hy
          · obtain rfl : j = k := by omega
            rw [HLX.out] at hy; cases hy; exact HBX.out
    · obtain rfl : k = as_.length := by omega
      have hkl : ((as_.length : Int) < (as_.length : Int)) = False := by simp
      go_wp2
      go_ret
      refine ⟨_, rfl, ?_, rfl⟩
      rw [decide_eq_false (by omega)]
      refine (Eq.symm ?_)
      unfold outB
      rw [List.any_eq_false]
      intro x hx
      obtain ⟨j, hj, rfl⟩ := List.getElem_of_mem hx
      rw [HN.out j _ hj (List.getElem?_eq_getElem hj)]
      decide

set_option maxRecDepth 100000 in
theorem hasL_same (va : Value) (as_ : List Int) (v : Value) (l : List Int) (b : Nat) (w : World) (hra : Row w va (ints as_)) (hla : as_.length ≤ 1000000) (hc : w.cell? ⟨b, 0, none⟩ = some v) (hr : Row w v (ints l)) (hl : l.length ≤ 1000000) :
    Calls Tryz.prog 26 #[va, .func (.func 27) #[] #[.pointer (some ⟨b, 0, none⟩)]] w fun e w' => e = .returned (.bool (outB l as_)) ∧ w = w' := by
  have H2 := Lib.hid (idxL_same va as_ v l b w hra hla hc hr hl)
  obtain ⟨a, cap, rfl⟩ := row_shape hra
  clear hr hra hc
  generalize outB l as_ = q at H2 ⊢
  go_enter Tryz.func26, Tryz.ntmps26
  go_wp2_with fail
  refine H2.out.mono ?_
  rintro e w2 ⟨n, rfl, hd, rfl⟩
  subst hd
  go_wp2
  go_ret
  exact ⟨rfl, rfl⟩

/-- The leaves' numbers, if it tiles and all that are asked for are among them. -/
noncomputable def lvE (t : T) (as_ : List Int) : Int := if tileB t = true then (if outB (idsT t) as_ = true then 6 else 0) else 1
def LvSays (t : T) (n : Int) (w : World) (e : Ending) (w' : World) : Prop :=
  ∃ a k cap, e = .returned (.tuple #[.slice a k cap, .int .i64 n]) ∧ (n = 0 → k = (idsT t).length ∧ Row w' (.slice a k cap) (ints (idsT t))) ∧ Below w.heap.size w w'

set_option maxHeartbeats 1600000 in
set_option maxRecDepth 100000 in
theorem sleaves_any (t : T) (c : C) (va : Value) (as_ : List Int) (w : World) (hm : sz t ≤ 900000) (hi : Is w c t) (hra : Row w va (ints as_)) (hla : as_.length ≤ 1000000) :
    Calls Tryz.prog 13 #[cval c, va] w (LvSays t (lvE t as_) w) := by
  have B1 : Hid (Below w.heap.size w (w.alloc (cbox c))) := Lib.hid ((Below.refl _ _).alloc (Nat.le_refl _) _)
  have X1 := Lib.hid (Box7.new w c)
  have HT := Lib.hid (tilesOne_any t c (w.alloc (cbox c)) (hi.up B1.out) may_small (w.heap.size + 1) (by simp))
  have HI := Lib.hid hi
  have HM := Lib.hid hm
  have HRA := Lib.hid hra
  have HLA := Lib.hid hla
  obtain ⟨aa, acap, rfl⟩ := row_shape hra
  clear hi hm hra hla
  obtain ⟨c0, c1, c2, c3, c4, c5, c6⟩ := c7_of X1.out.cat
  cases ht : tileB t with
  | false =>
    rw [ht] at HT
    have HC : Hid (lvE t as_ = 1) := Lib.hid (by unfold lvE; rw [if_neg (by rw [ht]; decide)])
    clear ht
    go_enter Tryz.func13, Tryz.ntmps13
    go_wp2_with fail
    refine HT.out.mono ?_
    rintro e w1 ⟨rfl, hb1⟩
    have L1 := Lib.hid (B1.out.trans (hb1.mono B1.out.size))
    clear hb1
    go_wp2
    go_ret2
    rw [HC.out]
    exact ⟨none, 0, 0, rfl, fun h => by omega, L1.out⟩
  | true =>
    rw [ht] at HT
    have HTT := Lib.hid ht
    clear ht
    go_enter Tryz.func13, Tryz.ntmps13
    go_wp2_with fail
    refine HT.out.mono ?_
    rintro e w1 ⟨rfl, hb1⟩
    have L1 := Lib.hid (B1.out.trans (hb1.mono B1.out.size))
    have X2 := Lib.hid (X1.out.up hb1)
    have I1 := Lib.hid (HI.out.up L1.out)
    have A1 := Lib.hid (HRA.out.up L1.out)
    clear hb1 c0 c1 c2 c3 c4 c5 c6 HT
    have BA : Hid (Below w1.heap.size w1 (w1.alloc (cbox c))) := Lib.hid ((Below.refl _ _).alloc (Nat.le_refl _) _)
    have HLV := Lib.hid (leaves_any (.slice (some ⟨w1.heap.size, 0, none⟩) 1 1) [t] (w1.alloc (cbox c)) (trow1 I1.out) (by have := HM.out; simp [szL]; omega))
    rw [idsL_one] at HLV
    obtain ⟨c0, c1, c2, c3, c4, c5, c6⟩ := c7_of X2.out.cat
    go_wp2_with fail
    refine HLV.out.mono ?_
    rintro e w2 ⟨v2, rfl, hr2, hb2⟩
    have L2 := Lib.hid (L1.out.trans ((BA.out.trans (hb2.mono BA.out.size)).mono L1.out.size))
    have A2 := Lib.hid ((A1.out.up BA.out).up hb2)
    have HL : Hid ((idsT t).length ≤ 1000000) := Lib.hid (by rw [ids_len]; have := lv_sz t; have := HM.out; omega)
    obtain ⟨a2, cap2, rfl⟩ := row_shape hr2
    have B3 : Hid (Below w2.heap.size w2 (w2.alloc (.cells #[.slice a2 (idsT t).length cap2] 27))) := Lib.hid ((Below.refl _ _).alloc (Nat.le_refl _) _)
    have R3 := Lib.hid (hr2.up B3.out)
    have L3 := Lib.hid (L2.out.trans (B3.out.mono L2.out.size))
    have A3 := Lib.hid (A2.out.up B3.out)
    have q0 := cell_of_one (Box1.new w2 (.slice a2 (idsT t).length cap2) 27)
    have HCF := Lib.hid (hasL_same _ as_ _ (idsT t) w2.heap.size _ A3.out HLA.out q0 R3.out HL.out)
    clear hr2 hb2 c0 c1 c2 c3 c4 c5 c6 HLV
    cases ho : outB (idsT t) as_ with
    | true =>
      rw [ho] at HCF
      have HC : Hid (lvE t as_ = 6) := Lib.hid (by unfold lvE; rw [if_pos HTT.out, if_pos ho])
      clear ho
      go_wp2_with fail
      refine HCF.out.mono ?_
      rintro e w4 ⟨rfl, rfl⟩
      go_wp2
      go_ret2
      rw [HC.out]
      exact ⟨none, 0, 0, rfl, fun h => by omega, L3.out⟩
    | false =>
      rw [ho] at HCF
      have HC : Hid (lvE t as_ = 0) := Lib.hid (by unfold lvE; rw [if_pos HTT.out, if_neg (by rw [ho]; decide)])
      clear ho
      go_wp2_with fail
      refine HCF.out.mono ?_
      rintro e w4 ⟨rfl, rfl⟩
      go_wp2
      go_ret2
      rw [HC.out]
      exact ⟨a2, _, cap2, rfl, fun _ => ⟨rfl, R3.out⟩, L3.out⟩
end Go.Proofs.YtakofjbjciljjaaGreat
