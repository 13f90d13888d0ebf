/- Texts of this seat, 3 in one file. -/
import Derived.Test.YtakofjbjciljjaaG25
import Derived.Test.YtakofjbjciljjaaG26
/- Which numbers are a tree's: the library's Contains and ContainsFunc over numbers, and the program's leaves. -/
namespace Go.Proofs.Ytakofjbjciljjaa
open Go.RowKit

set_option maxRecDepth 100000 in
theorem indexI_same (v : Value) (l : List Int) (id : Int) (w : World) (hr : Row w v (ints l)) (hl : l.length ≤ 1000000) :
    Calls Try.prog 50 #[v, .int .i64 id] w fun e w' => ∃ n : Int, e = .returned (.int .i64 n) ∧ decide (0 ≤ n) = decide (id ∈ l) ∧ w = w' := by
  obtain ⟨a, cap, rfl⟩ := row_shape hr
  have HR := Lib.hid hr
  clear hr
  go_enter Try.func50, Try.ntmps50
  go_wp2
  go_loopg [8] (l.length + 1) (fun g i wr => ∃ k : Nat, g + k = l.length + 1 ∧ k ≤ l.length ∧ i = .int .i64 k ∧ (∀ (j : Nat) (q : Int), j < k → l[j]? = some q → q ≠ id) ∧ w = wr)
  case atStart => exact ⟨0, by omega, by omega, rfl, fun j q hj => by omega, rfl⟩
  case round =>
    obtain ⟨k, hg, hk, rfl, hno, rfl⟩ := hrel
    have HG := Lib.hid hg
    have HNO := Lib.hid hno
    clear hg hno
    by_cases hlt : k < l.length
    · obtain ⟨b, o, rfl, hf⟩ := int_at HR.out (by omega)
      obtain ⟨p, hp⟩ : ∃ p, l[k]? = some p := ⟨_, List.getElem?_eq_getElem hlt⟩
      have c0 := hf k p hp
      clear hf
      have HP := Lib.hid hp
      clear hp
      by_cases he : p = id
      · have d1 : (id == p) = true := by simpa using he.symm
        have HV : Hid (decide (id ∈ l) = true) := Lib.hid (decide_eq_true (by rw [← he]; exact List.mem_of_getElem? HP.out))
        clear he
        go_wp2
        go_ret
        exact ⟨_, rfl, by rw [HV.out]; exact decide_eq_true (by omega), rfl⟩
      · have d1 : (id == p) = false := by rw [beq_eq_false_iff_ne]; exact fun h => he h.symm
        have HE := Lib.hid he
        clear he
        go_wp2
        go_roundg (gk - 1)
        case measure => have := HG.out; omega
        case rel =>
          refine ⟨k + 1, by have := HG.out; omega, by omega, by have e : wrap64 ((k : Int) + 1) = ((k + 1 : Nat) : Int) := (by rw [← wrapE, wrap_id (by omega)]; omega); first | rfl | exact congrArg _ e | (rw [e]) | (congr 1; omega) | (simp only [IntKind.wrap_i64, e]), fun j q hj hq => ?_, rfl⟩
          rcases Nat.lt_or_ge j k with h | h
          · exact HNO.out j q h hq
          · obtain rfl : j = k := by omega
            rw [HP.out] at hq; cases hq; exact HE.out
    · obtain rfl : k = l.length := by omega
      have hkl : ((l.length : Int) < (l.length : Int)) = False := by simp
      have HV : Hid (decide (id ∈ l) = false) := Lib.hid (decide_eq_false (fun hm => by
        obtain ⟨j, hj, he⟩ := List.getElem_of_mem hm
        exact HNO.out j _ hj (List.getElem?_eq_getElem hj) he))
      go_wp2
      go_ret
      exact ⟨_, rfl, by rw [HV.out]; exact decide_eq_false (by omega), rfl⟩

theorem containsI_same (v : Value) (l : List Int) (id : Int) (w : World) (hr : Row w v (ints l)) (hl : l.length ≤ 1000000) :
    Calls Try.prog 35 #[v, .int .i64 id] w fun e w' => e = .returned (.bool (decide (id ∈ l))) ∧ w = w' := by
  have H2 := Lib.hid (indexI_same v l id w hr hl)
  obtain ⟨a, cap, rfl⟩ := row_shape hr
  clear hr
  generalize decide (id ∈ l) = q at H2 ⊢
  go_enter Try.func35, Try.ntmps35
  go_wp2_with fail
  refine H2.out.mono ?_
  rintro e w2 ⟨n, rfl, hd, rfl⟩
  subst hd
  go_wp2
  go_ret
  exact ⟨rfl, rfl⟩

/-- A box with a row of numbers. -/
theorem lv1_same (v : Value) (l : List Int) (id : Int) (b : Nat) (w : World) (hc : w.cell? ⟨b, 0, none⟩ = some v) (hr : Row w v (ints l)) (hl : l.length ≤ 1000000) :
    Calls Try.prog 34 #[.int .i64 id, .pointer (some ⟨b, 0, none⟩)] w fun e w' => e = .returned (.bool (!decide (id ∈ l))) ∧ w = w' := by
  have H2 := Lib.hid (containsI_same v l id w hr hl)
  obtain ⟨a, cap, rfl⟩ := row_shape hr
  clear hr
  generalize decide (id ∈ l) = q at H2 ⊢
  go_enter Try.func34, Try.ntmps34
  go_wp2_with fail
  refine H2.out.mono ?_
  rintro e w2 ⟨rfl, rfl⟩
  go_wp2
  go_ret
  exact ⟨rfl, rfl⟩
theorem entersL1 : Enters 34 := enters_of Try.func34 (by kernel_rfl) rfl

def outB (l as_ : List Int) : Bool := as_.any fun x => !decide (x ∈ l)
set_option maxHeartbeats 800000 in
set_option maxRecDepth 100000 in
theorem idxL_same (va : Value) (as_ : List Int) (v : Value) (l : List Int) (b : Nat) (w : World) (hra : Row w va (ints as_)) (hla : as_.length ≤ 1000000) (hc : w.cell? ⟨b, 0, none⟩ = some v) (hr : Row w v (ints l)) (hl : l.length ≤ 1000000) :
    Calls Try.prog 49 #[va, .func (.func 34) #[] #[.pointer (some ⟨b, 0, none⟩)]] w fun e w' => ∃ n : Int, e = .returned (.int .i64 n) ∧ decide (0 ≤ n) = outB l as_ ∧ w = w' := by
  have hent : ∀ (args : Array Value) (w : World), (callFunc 34 args).run Try.prog w = .ok (.enter 34 args) w := entersL1
  obtain ⟨a, cap, rfl⟩ := row_shape hra
  have HR := Lib.hid hra
  have HCL := Lib.hid (fun (x : Int) => lv1_same v l x b w hc hr hl)
  clear hra hr hc
  go_enter Try.func49, Try.ntmps49
  go_wp2
  go_loopg [8] (as_.length + 1) (fun g i wr => ∃ k : Nat, g + k = as_.length + 1 ∧ k ≤ as_.length ∧ i = .int .i64 k ∧ (∀ (j : Nat) (x : Int), j < k → as_[j]? = some x → (!decide (x ∈ l)) = false) ∧ w = wr)
  case atStart => exact ⟨0, by omega, by omega, rfl, fun j x hj => by omega, rfl⟩
  case round =>
    obtain ⟨k, hgk, hk, rfl, hno, rfl⟩ := hrel
    have HG := Lib.hid hgk
    have HN := Lib.hid hno
    clear hgk hno
    by_cases hlt : k < as_.length
    · have hlti : (k : Int) < (as_.length : Int) := by omega
      obtain ⟨x, hx⟩ : ∃ x, as_[k]? = some x := ⟨_, List.getElem?_eq_getElem hlt⟩
      obtain ⟨bb, oo, rfl, hf⟩ := int_at HR.out (by omega)
      have c0 := hf k x hx
      have HLX := Lib.hid hx
      clear hf hx
      have HC := Lib.hid (HCL.out x)
      cases hbx : (!decide (x ∈ l)) with
      | true =>
        rw [hbx] at HC
        have HBX := Lib.hid hbx
        clear hbx
        go_wp2_with fail
        refine HC.out.mono ?_
        rintro e w2 ⟨rfl, rfl⟩
        go_wp2
        go_ret
        refine ⟨_, rfl, ?_, rfl⟩
        rw [decide_eq_true (by omega)]
        exact (List.any_eq_true.2 ⟨x, List.mem_of_getElem? HLX.out, HBX.out⟩).symm
      | false =>
        rw [hbx] at HC
        have HBX := Lib.hid hbx
        clear hbx
        go_wp2_with fail
        refine HC.out.mono ?_
        rintro e w2 ⟨rfl, rfl⟩
        go_wp2
        go_roundg (gk - 1)
        case measure => have := HG.out; omega
        case rel =>
          refine ⟨k + 1, by have := HG.out; omega, by omega, by have e : wrap64 ((k : Int) + 1) = ((k + 1 : Nat) : Int) := (by rw [← wrapE, wrap_id (by omega)]; omega); first | rfl | exact congrArg _ e | (rw [e]) | (congr 1; omega) | (simp only [IntKind.wrap_i64, e]), fun j y hj hy => ?_, rfl⟩
          rcases Nat.lt_or_ge j k with h | h
          · exact HN.out j y h hy
          · obtain rfl : j = k := by omega
            rw [HLX.out] at hy; cases hy; exact HBX.out
    · obtain rfl : k = as_.length := by omega
      have hkl : ((as_.length : Int) < (as_.length : Int)) = False := by simp
      go_wp2
      go_ret
      refine ⟨_, rfl, ?_, rfl⟩
      rw [decide_eq_false (by omega)]
      refine (Eq.symm ?_)
      unfold outB
      rw [List.any_eq_false]
      intro x hx
      obtain ⟨j, hj, rfl⟩ := List.getElem_of_mem hx
      rw [HN.out j _ hj (List.getElem?_eq_getElem hj)]
      decide

set_option maxRecDepth 100000 in
theorem hasL_same (va : Value) (as_ : List Int) (v : Value) (l : List Int) (b : Nat) (w : World) (hra : Row w va (ints as_)) (hla : as_.length ≤ 1000000) (hc : w.cell? ⟨b, 0, none⟩ = some v) (hr : Row w v (ints l)) (hl : l.length ≤ 1000000) :
    Calls Try.prog 33 #[va, .func (.func 34) #[] #[.pointer (some ⟨b, 0, none⟩)]] w fun e w' => e = .returned (.bool (outB l as_)) ∧ w = w' := by
  have H2 := Lib.hid (idxL_same va as_ v l b w hra hla hc hr hl)
  obtain ⟨a, cap, rfl⟩ := row_shape hra
  clear hr hra hc
  generalize outB l as_ = q at H2 ⊢
  go_enter Try.func33, Try.ntmps33
  go_wp2_with fail
  refine H2.out.mono ?_
  rintro e w2 ⟨n, rfl, hd, rfl⟩
  subst hd
  go_wp2
  go_ret
  exact ⟨rfl, rfl⟩

/-- The leaves' numbers, if it tiles and all that are asked for are among them. -/
noncomputable def lvE (t : T) (as_ : List Int) : Int := if tileB t = true then (if outB (idsT t) as_ = true then 6 else 0) else 1
def LvSays (t : T) (n : Int) (w : World) (e : Ending) (w' : World) : Prop :=
  ∃ a k cap, e = .returned (.tuple #[.slice a k cap, .int .i64 n]) ∧ (n = 0 → k = (idsT t).length ∧ Row w' (.slice a k cap) (ints (idsT t))) ∧ Below w.heap.size w w'

set_option maxHeartbeats 1600000 in
set_option maxRecDepth 100000 in
theorem sleaves_any (t : T) (c : C) (va : Value) (as_ : List Int) (w : World) (hm : sz t ≤ 900000) (hi : Is w c t) (hra : Row w va (ints as_)) (hla : as_.length ≤ 1000000) :
    Calls Try.prog 22 #[cval c, va] w (LvSays t (lvE t as_) w) := by
  have B1 : Hid (Below w.heap.size w (w.alloc (cbox c))) := Lib.hid ((Below.refl _ _).alloc (Nat.le_refl _) _)
  have X1 := Lib.hid (Box7.new w c)
  have HT := Lib.hid (tilesOne_any t c (w.alloc (cbox c)) (hi.up B1.out) may_small (w.heap.size + 1) (by simp))
  have HI := Lib.hid hi
  have HM := Lib.hid hm
  have HRA := Lib.hid hra
  have HLA := Lib.hid hla
  obtain ⟨aa, acap, rfl⟩ := row_shape hra
  clear hi hm hra hla
  obtain ⟨c0, c1, c2, c3, c4, c5, c6⟩ := c7_of X1.out.cat
  cases ht : tileB t with
  | false =>
    rw [ht] at HT
    have HC : Hid (lvE t as_ = 1) := Lib.hid (by unfold lvE; rw [if_neg (by rw [ht]; decide)])
    clear ht
    go_enter Try.func22, Try.ntmps22
    go_wp2_with fail
    refine HT.out.mono ?_
    rintro e w1 ⟨rfl, hb1⟩
    have L1 := Lib.hid (B1.out.trans (hb1.mono B1.out.size))
    clear hb1
    go_wp2
    go_ret2
    rw [HC.out]
    exact ⟨none, 0, 0, rfl, fun h => by omega, L1.out⟩
  | true =>
    rw [ht] at HT
    have HTT := Lib.hid ht
    clear ht
    go_enter Try.func22, Try.ntmps22
    go_wp2_with fail
    refine HT.out.mono ?_
    rintro e w1 ⟨rfl, hb1⟩
    have L1 := Lib.hid (B1.out.trans (hb1.mono B1.out.size))
    have X2 := Lib.hid (X1.out.up hb1)
    have I1 := Lib.hid (HI.out.up L1.out)
    have A1 := Lib.hid (HRA.out.up L1.out)
    clear hb1 c0 c1 c2 c3 c4 c5 c6 HT
    have BA : Hid (Below w1.heap.size w1 (w1.alloc (cbox c))) := Lib.hid ((Below.refl _ _).alloc (Nat.le_refl _) _)
    have HLV := Lib.hid (leaves_any (.slice (some ⟨w1.heap.size, 0, none⟩) 1 1) [t] (w1.alloc (cbox c)) (trow1 I1.out) (by have := HM.out; simp [szL]; omega))
    rw [idsL_one] at HLV
    obtain ⟨c0, c1, c2, c3, c4, c5, c6⟩ := c7_of X2.out.cat
    go_wp2_with fail
    refine HLV.out.mono ?_
    rintro e w2 ⟨v2, rfl, hr2, hb2⟩
    have L2 := Lib.hid (L1.out.trans ((BA.out.trans (hb2.mono BA.out.size)).mono L1.out.size))
    have A2 := Lib.hid ((A1.out.up BA.out).up hb2)
    have HL : Hid ((idsT t).length ≤ 1000000) := Lib.hid (by rw [ids_len]; have := lv_sz t; have := HM.out; omega)
    obtain ⟨a2, cap2, rfl⟩ := row_shape hr2
    have B3 : Hid (Below w2.heap.size w2 (w2.alloc (.cells #[.slice a2 (idsT t).length cap2] 43))) := Lib.hid ((Below.refl _ _).alloc (Nat.le_refl _) _)
    have R3 := Lib.hid (hr2.up B3.out)
    have L3 := Lib.hid (L2.out.trans (B3.out.mono L2.out.size))
    have A3 := Lib.hid (A2.out.up B3.out)
    have q0 := cell_of_one (Box1.new w2 (.slice a2 (idsT t).length cap2) 43)
    have HCF := Lib.hid (hasL_same _ as_ _ (idsT t) w2.heap.size _ A3.out HLA.out q0 R3.out HL.out)
    clear hr2 hb2 c0 c1 c2 c3 c4 c5 c6 HLV
    cases ho : outB (idsT t) as_ with
    | true =>
      rw [ho] at HCF
      have HC : Hid (lvE t as_ = 6) := Lib.hid (by unfold lvE; rw [if_pos HTT.out, if_pos ho])
      clear ho
      go_wp2_with fail
      refine HCF.out.mono ?_
      rintro e w4 ⟨rfl, rfl⟩
      go_wp2
      go_ret2
      rw [HC.out]
      exact ⟨none, 0, 0, rfl, fun h => by omega, L3.out⟩
    | false =>
      rw [ho] at HCF
      have HC : Hid (lvE t as_ = 0) := Lib.hid (by unfold lvE; rw [if_pos HTT.out, if_neg (by rw [ho]; decide)])
      clear ho
      go_wp2_with fail
      refine HCF.out.mono ?_
      rintro e w4 ⟨rfl, rfl⟩
      go_wp2
      go_ret2
      rw [HC.out]
      exact ⟨a2, _, cap2, rfl, fun _ => ⟨rfl, R3.out⟩, L3.out⟩
end Go.Proofs.Ytakofjbjciljjaa
/- The program's named: leaves that a closure names; and two's closure. -/
namespace Go.Proofs.Ytakofjbjciljjaa
open Go.RowKit

/-- More is made: it still stands as long as what the call made does. -/
theorem Fas.grow {B : Nat} {w w' : World} {d : C} {u : T} (h : Fas B w d u) (hb : Below w.heap.size w w') : Fas B w' d u := by
  intro W' hW
  have hx : ∀ k, ({ W' with heap := W'.heap.extract 0 w.heap.size } : World).heap[k]? = if k < w.heap.size then W'.heap[k]? else none := by
    intro k
    change (W'.heap.extract 0 w.heap.size)[k]? = _
    rw [Array.getElem?_extract]
    by_cases hk : k < w.heap.size
    · rw [if_pos hk]
      by_cases hk2 : k < W'.heap.size
      · rw [if_pos (by omega), Nat.zero_add]
      · rw [if_neg (by omega), Array.getElem?_eq_none (by omega)]
    · rw [if_neg hk, if_neg (by omega)]
  have h2 : Is ({ W' with heap := W'.heap.extract 0 w.heap.size } : World) d u := h _ fun k hk => by
    rw [hx]
    by_cases hk2 : k < w.heap.size
    · rw [if_pos hk2, hW k hk, hb.block k hk2]
    · rw [if_neg hk2, Array.getElem?_eq_none (by omega)]
  refine h2.up ⟨rfl, rfl, rfl, ?_, fun k hk => ?_⟩
  · change (W'.heap.extract 0 w.heap.size).size ≤ W'.heap.size
    simp only [Array.size_extract]; omega
  · have hk' : k < w.heap.size := by
      have h3 : k < (W'.heap.extract 0 w.heap.size).size := hk
      simp only [Array.size_extract] at h3; omega
    rw [hx, if_pos hk']

def upTo (f : Nat → Int) (n : Nat) : List Int := (List.range n).map f
theorem upTo_len (f : Nat → Int) (n : Nat) : (upTo f n).length = n := by simp [upTo]
theorem upTo_succ (f : Nat → Int) (n : Nat) : upTo f (n + 1) = upTo f n ++ [f n] := by simp [upTo, List.range_succ]
theorem upTo_mem {f : Nat → Int} {n : Nat} {m : Int} (h : m ∈ upTo f n) : ∃ k, k < n ∧ f k = m := by
  unfold upTo at h
  obtain ⟨k, hk, he⟩ := List.mem_map.1 h
  exact ⟨k, List.mem_range.1 hk, he⟩

set_option maxHeartbeats 2000000 in
set_option maxRecDepth 100000 in
theorem named_any (F : Nat) (hE : Enters F) (lb : Array Value) (f : Nat → Int) (t : T) (c : C) (n : Nat) (w : World) (hm : sz t ≤ 900000) (hi : Is w c t) (hn : n = lvT t) (hf : ∀ k, k < n → fits (f k))
    (hF : ∀ (k : Nat) (W : World), k < n → Below w.heap.size w W → Calls Try.prog F (#[.int .i64 (k : Int)] ++ lb) W fun e w' => e = .returned (.int .i64 (f k)) ∧ Below W.heap.size W w') :
    Calls Try.prog 23 #[cval c, .int .i64 (n : Int), .func (.func F) #[] lb] w (NmSays (nmT (upTo f n) t) w) := by
  have hent : ∀ (args : Array Value) (w : World), (callFunc F args).run Try.prog w = .ok (.enter F args) w := hE
  have L0 := Lib.hid (SSt.start w c)
  have HI := Lib.hid hi
  have HM := Lib.hid hm
  have HF := Lib.hid hF
  have HFT := Lib.hid hf
  have HN := Lib.hid hn
  have HN9 : Hid (n ≤ 900000) := Lib.hid (by have := lv_sz t; omega)
  clear hi hm hF hf hn
  go_enter Try.func23, Try.ntmps23
  go_upto_region 1 with fail
  change Code.wp _ _ _ _ (freshW w c)
  generalize freshW w c = W0 at L0 ⊢
  have HZ : Hid (w.heap.size + 2 ≤ W0.heap.size) := Lib.hid L0.out.size
  have HO0 := Lib.hid (OwnI.nil W0 W0.heap.size)
  go_wp2
  go_loopg [7, 12] (n + 1) (fun g v i wr => ∃ (k : Nat), g + k = n + 1 ∧ k ≤ n ∧ i = .int .i64 k ∧ OwnI wr W0.heap.size v (upTo f k) ∧ Below W0.heap.size W0 wr)
  case atStart => exact ⟨0, by omega, by omega, rfl, HO0.out, Below.refl _ _⟩
  case round =>
    obtain ⟨k, hg, hk, rfl, hown, hbr⟩ := hrel
    have HG := Lib.hid hg
    have HO := Lib.hid hown
    have HBR := Lib.hid hbr
    clear hg hown hbr
    by_cases hlt : k < n
    · have hlti : (k : Int) < (n : Int) := by omega
      have HC := Lib.hid (HF.out k wr hlt (L0.out.below.trans (HBR.out.mono L0.out.below.size)))
      go_wp2
      refine HC.out.mono ?_
      rintro e w2 ⟨rfl, hb2⟩
      have HB2 := Lib.hid (HBR.out.trans (hb2.mono HBR.out.size))
      have HO2 := Lib.hid (HO.out.up hb2)
      have HCL : Hid ((upTo f k).length + [f k].length ≤ 1954687338211) := Lib.hid (by
        rw [upTo_len]; have := HN9.out; simp; omega)
      have A1 : Hid (OwnI (w2.alloc (.cells #[.int .i64 (f k)] 3)) W0.heap.size u7 (upTo f k)) := Lib.hid (HO2.out.up ((Below.refl _ _).alloc (Nat.le_refl _) _))
      have A2 : Hid (Below W0.heap.size W0 (w2.alloc (.cells #[.int .i64 (f k)] 3))) := Lib.hid (HB2.out.alloc (by have := HB2.out.size; omega) _)
      have A3 : Hid (Row (w2.alloc (.cells #[.int .i64 (f k)] 3)) (.slice (some ⟨w2.heap.size, 0, none⟩) 1 1) (ints [f k])) := Lib.hid (row_one w2 (.int .i64 (f k)) 3)
      clear hb2 HC
      go_wp2_with (at_builtin; refine wpList_append_ints rfl _ _ rfl W0.heap.size u7 _ (upTo f k) [f k] rfl A1.out rfl A3.out (by simp) HCL.out W0 A2.out (Nat.le_refl _) ?_; intro g cap3 w5 hown5 hb5 hgr5 hpl5)
      have HO5 := Lib.hid hown5
      have HB5 := Lib.hid hb5
      clear hown5 hb5 hgr5 hpl5
      go_wp2
      go_roundg (gk - 1)
      case measure => have := HG.out; omega
      case rel =>
        have h9 := HN9.out
        exact ⟨k + 1, by have := HG.out; omega, by omega, by have e : wrap64 ((k : Int) + 1) = ((k + 1 : Nat) : Int) := (by rw [← wrapE, wrap_id (by omega)]; omega); first | rfl | exact congrArg _ e | (rw [e]) | (congr 1; omega) | (simp only [IntKind.wrap_i64, e]), by rw [upTo_succ]; simpa using HO5.out, HB5.out⟩
    · obtain rfl : k = n := by omega
      have hkl : ((k : Int) < (k : Int)) = False := by simp
      have L1 := Lib.hid (L0.out.up HBR.out)
      obtain ⟨a1, cap1, rfl⟩ := row_shape HO.out.row
      have HNM := Lib.hid (name_any t c _ (upTo f k) wr (L1.out.is HI.out) HM.out HO.out.row (fun m hm => by obtain ⟨j, hj, rfl⟩ := upTo_mem hm; exact HFT.out j hj))
      have HNR : Hid (nameR (upTo f k) t = some (nmT (upTo f k) t)) := Lib.hid (by unfold nameR; rw [if_pos (by rw [upTo_len]; exact HN.out)])
      rw [HNR.out] at HNM
      obtain ⟨c0, c1, c2, c3, c4, c5, c6⟩ := c7_of L1.out.box.cat
      clear HNR
      go_wp2_with fail
      refine HNM.out.mono ?_
      rintro e w1 ⟨d, rfl, hd, hb1⟩
      have F1 : Hid (Fas wr.heap.size w1 d (nmT (upTo f k) t)) := Lib.hid hd
      have AL : Below w1.heap.size w1 (w1.alloc (cbox d)) := (Below.refl _ _).alloc (Nat.le_refl _) _
      have L2 := Lib.hid ((L1.out.up hb1).up AL)
      have F2 := Lib.hid (F1.out.grow AL)
      have D2 := Lib.hid (Box7.new w1 d)
      have HSZ : Hid (w.heap.size + 2 ≤ w1.heap.size) := Lib.hid (by have := hb1.size; have := L1.out.size; omega)
      have HSR : Hid (w.heap.size + 2 ≤ wr.heap.size) := Lib.hid L1.out.size
      clear hd hb1 AL F1 HNM c0 c1 c2 c3 c4 c5 c6
      go_upto_region 8 with fail
      change Code.wp _ _ _ _ (w1.alloc (cbox d))
      generalize w1.alloc (cbox d) = W at L2 F2 D2 ⊢
      generalize w1.heap.size = b at D2 HSZ ⊢
      have n1 : b ≠ w.heap.size + 1 := by have := HSZ.out; omega
      obtain ⟨c0, c1, c2, c3, c4, c5, c6⟩ := c7_of D2.out.cat
      obtain ⟨⟨z0, z1, z2, z3, z4, z5, z6⟩, f0, f1, f2, f3, f4, f5, f6⟩ := zero_parts L2.out.zero
      go_wp2
      (try simp only [Exit.inBlock, Exit.then])
      refine bodyPost_ret (results_cell1 rfl _ _ (w.heap.size + 1) d rfl ((Box7.of_zero L2.out.zero).put d)) rfl ?_
      exact ⟨d, rfl, (F2.out.put (b := w.heap.size + 1) (by have := HSR.out; omega)).low (by omega), below_put7 L2.out.below (by omega) d⟩

set_option maxRecDepth 100000 in
theorem two1_any (v : Value) (l : List Int) (a b : Int) (bi ba bb k : Nat) (w : World) (hc : w.cell? ⟨bi, 0, none⟩ = some v) (ha : w.cell? ⟨ba, 0, none⟩ = some (.int .i64 a)) (hb : w.cell? ⟨bb, 0, none⟩ = some (.int .i64 b)) (hr : Row w v (ints l)) (hk : k < l.length) :
    Calls Try.prog 24 #[.int .i64 (k : Int), .pointer (some ⟨bi, 0, none⟩), .pointer (some ⟨ba, 0, none⟩), .pointer (some ⟨bb, 0, none⟩)] w fun e w' => e = .returned (.int .i64 (tw1 a b (l.getD k 0))) ∧ Below w.heap.size w w' := by
  obtain ⟨ad, cap, rfl⟩ := row_shape hr
  obtain ⟨br, o, rfl, hf⟩ := int_at hr (by omega)
  obtain ⟨p, hp⟩ : ∃ p, l[k]? = some p := ⟨_, List.getElem?_eq_getElem hk⟩
  have e0 := hf k p hp
  have hv : l.getD k 0 = p := by rw [List.getD_eq_getElem?_getD, hp]; rfl
  rw [hv]
  have hki : (k : Int) < (l.length : Int) := by omega
  have hcase : ((p == a) = true ∧ tw1 a b p = b) ∨ ((p == a) = false ∧ (p == b) = true ∧ tw1 a b p = a) ∨ ((p == a) = false ∧ (p == b) = false ∧ tw1 a b p = p) := by
    unfold tw1
    by_cases h1 : p = a
    · exact .inl ⟨by simpa using h1, if_pos h1⟩
    · by_cases h2 : p = b
      · exact .inr (.inl ⟨by simpa using h1, by simpa using h2, by rw [if_neg h1, if_pos h2]⟩)
      · exact .inr (.inr ⟨by simpa using h1, by simpa using h2, by rw [if_neg h1, if_neg h2]⟩)
  clear hf hp hv hr
  rcases hcase with ⟨d1, hv⟩ | ⟨d1, d2, hv⟩ | ⟨d1, d2, hv⟩
  all_goals
    rw [hv]
    clear hv
    go_enter Try.func24, Try.ntmps24
    go_wp2
    go_ret
    exact ⟨rfl, Below.refl _ _⟩
theorem entersT1 : Enters 24 := enters_of Try.func24 (by kernel_rfl) rfl
end Go.Proofs.Ytakofjbjciljjaa
/- The program's Two: two leaves change places. -/
namespace Go.Proofs.Ytakofjbjciljjaa
open Go.RowKit

theorem lv_two (t : T) (a b : Int) : lvE t [a, b] = twE t a b := by
  unfold lvE twE outB
  by_cases ht : tileB t = true
  · rw [if_pos ht, if_pos ht]
    by_cases ha : a ∈ idsT t <;> by_cases hb : b ∈ idsT t <;> simp [ha, hb]
  · rw [if_neg ht, if_neg ht]
theorem upTo_two (a b : Int) (l : List Int) : upTo (fun k => tw1 a b (l.getD k 0)) l.length = twL a b l := by
  unfold upTo twL
  refine List.ext_getElem (by simp) fun i h1 h2 => ?_
  have h3 : i < l.length := by simpa using h1
  simp [List.getD_eq_getElem?_getD, h3]
theorem two_row (w : World) (a b : Int) : Row (w.alloc (.cells #[.int .i64 a, .int .i64 b] 3)) (.slice (some ⟨w.heap.size, 0, none⟩) 2 2) (ints [a, b]) := by
  refine ⟨some ⟨w.heap.size, 0, none⟩, 2, rfl, (fun h => nomatch h), fun ad hx j u hu => ?_⟩
  cases hx
  match j with
  | 0 => simp [ints] at hu; subst hu; change (w.alloc _).cell? ⟨w.heap.size, 0, none⟩ = _; simp
  | 1 => simp [ints] at hu; subst hu; change (w.alloc _).cell? ⟨w.heap.size, 1, none⟩ = _; simp
  | j + 2 => simp [ints] at hu
abbrev ibox (n : Int) : Obj := .cells #[.int .i64 n] 3
abbrev twW (w : World) (c : C) (a b : Int) : World := (((w.alloc (cbox c)).alloc (ibox a)).alloc (ibox b)).alloc zeroBox

/-- The boxes: the tree's, both numbers', the answer's. -/
structure TSt (w : World) (c : C) (a b : Int) (W : World) : Prop where
  below : Below w.heap.size w W
  box : Box7 W w.heap.size c
  ca : W.cell? ⟨w.heap.size + 1, 0, none⟩ = some (.int .i64 a)
  cb : W.cell? ⟨w.heap.size + 2, 0, none⟩ = some (.int .i64 b)
  zero : Zero7 W (w.heap.size + 3)
  size : w.heap.size + 4 ≤ W.heap.size
theorem TSt.up {w W W' : World} {c : C} {a b : Int} (h : TSt w c a b W) (hb : Below W.heap.size W W') : TSt w c a b W' :=
  ⟨h.below.trans (hb.mono h.below.size), h.box.up hb, (hb.cell (lt_of_cell h.ca)).trans h.ca, (hb.cell (lt_of_cell h.cb)).trans h.cb, zero_up h.zero hb, Nat.le_trans h.size hb.size⟩
theorem TSt.start (w : World) (c : C) (a b : Int) : TSt w c a b (twW w c a b) := by
  have h1 : Below w.heap.size w (w.alloc (cbox c)) := (Below.refl _ _).alloc (Nat.le_refl _) _
  have h2 : Below (w.alloc (cbox c)).heap.size (w.alloc (cbox c)) ((w.alloc (cbox c)).alloc (ibox a)) := (Below.refl _ _).alloc (Nat.le_refl _) _
  have h3 : Below ((w.alloc (cbox c)).alloc (ibox a)).heap.size ((w.alloc (cbox c)).alloc (ibox a)) (((w.alloc (cbox c)).alloc (ibox a)).alloc (ibox b)) := (Below.refl _ _).alloc (Nat.le_refl _) _
  have h4 : Below (((w.alloc (cbox c)).alloc (ibox a)).alloc (ibox b)).heap.size (((w.alloc (cbox c)).alloc (ibox a)).alloc (ibox b)) (twW w c a b) := (Below.refl _ _).alloc (Nat.le_refl _) _
  have e1 : (w.alloc (cbox c)).heap.size = w.heap.size + 1 := by simp
  have e2 : ((w.alloc (cbox c)).alloc (ibox a)).heap.size = w.heap.size + 2 := by simp
  have e3 : (((w.alloc (cbox c)).alloc (ibox a)).alloc (ibox b)).heap.size = w.heap.size + 3 := by simp
  have ka := cell_of_one (Box1.new (w.alloc (cbox c)) (.int .i64 a) 3)
  have kb := cell_of_one (Box1.new ((w.alloc (cbox c)).alloc (ibox a)) (.int .i64 b) 3)
  have kz := zero_new (((w.alloc (cbox c)).alloc (ibox a)).alloc (ibox b))
  rw [e1] at ka
  rw [e2] at kb
  rw [e3] at kz
  refine ⟨((h1.trans (h2.mono h1.size)).trans (h3.mono (by rw [e2]; omega))).trans (h4.mono (by rw [e3]; omega)), (((Box7.new w c).up h2).up h3).up h4, ?_, ?_, kz, by simp⟩
  · have k2 := (h3.cell (lt_of_cell ka)).trans ka
    exact (h4.cell (lt_of_cell k2)).trans k2
  · exact (h4.cell (lt_of_cell kb)).trans kb
theorem TSt.is {w W : World} {c : C} {t : T} {a b : Int} (h : TSt w c a b W) (hi : Is w c t) : Is W c t := hi.up h.below
theorem TSt.err {w W : World} {c : C} {a b : Int} (h : TSt w c a b W) : Below w.heap.size w (put7 W (w.heap.size + 3) zC) := below_put7 h.below (by omega) _

set_option maxHeartbeats 4000000 in
set_option maxRecDepth 100000 in
theorem ptwo_any : TwoK := by
  intro t c a b w hm hi hfa hfb
  have L0 := Lib.hid (TSt.start w c a b)
  have HI := Lib.hid hi
  have HM := Lib.hid hm
  have HFA := Lib.hid hfa
  have HFB := Lib.hid hfb
  clear hi hm hfa hfb
  go_enter Try.func9, Try.ntmps9
  go_upto_region 1 with fail
  change Code.wp _ _ _ _ (twW w c a b)
  generalize twW w c a b = W0 at L0 ⊢
  have A1 : Hid (Below W0.heap.size W0 (W0.alloc (.cells #[.int .i64 a, .int .i64 b] 3))) := Lib.hid ((Below.refl _ _).alloc (Nat.le_refl _) _)
  have HLV := Lib.hid (sleaves_any t c _ [a, b] (W0.alloc (.cells #[.int .i64 a, .int .i64 b] 3)) (by have := HM.out; omega) ((L0.out.up A1.out).is HI.out) (two_row W0 a b) (by simp))
  rw [lv_two] at HLV
  have k0 := L0.out.ca
  have k1 := L0.out.cb
  obtain ⟨c0, c1, c2, c3, c4, c5, c6⟩ := c7_of L0.out.box.cat
  go_wp2_with fail
  refine HLV.out.mono ?_
  rintro e w2 ⟨a2, k2, cap2, rfl, hk2, hb2⟩
  have L2 := Lib.hid ((L0.out.up A1.out).up hb2)
  have A3 : Hid (Below w2.heap.size w2 (w2.alloc (.cells #[.slice a2 k2 cap2] 43))) := Lib.hid ((Below.refl _ _).alloc (Nat.le_refl _) _)
  have L3 := Lib.hid (L2.out.up A3.out)
  have Q3 := Lib.hid (cell_of_one (Box1.new w2 (.slice a2 k2 cap2) 43))
  have HK2 := Lib.hid hk2
  clear hb2 hk2 HLV c0 c1 c2 c3 c4 c5 c6 k0 k1 A1
  go_upto_region 2 with fail
  change Code.wp _ _ _ _ (w2.alloc (.cells #[.slice a2 k2 cap2] 43))
  have HR3 : Hid (twE t a b = 0 → k2 = (idsT t).length ∧ Row (w2.alloc (.cells #[.slice a2 k2 cap2] 43)) (.slice a2 k2 cap2) (ints (idsT t))) := Lib.hid fun h => ⟨(HK2.out h).1, (HK2.out h).2.up A3.out⟩
  clear A3 L2 HK2
  generalize w2.alloc (.cells #[.slice a2 k2 cap2] 43) = W3 at L3 Q3 HR3 ⊢
  generalize w2.heap.size = bi at Q3 ⊢
  have hzero : twE t a b = 0 ∨ twE t a b ≠ 0 := Classical.em _
  rcases hzero with h0 | h0
  · obtain ⟨hk, hr⟩ := HR3.out h0
    subst hk
    have HE := Lib.hid h0
    have R3 := Lib.hid hr
    have HL : Hid ((idsT t).length = lvT t) := Lib.hid (ids_len t)
    have HFT : Hid (∀ k, k < (idsT t).length → fits (tw1 a b ((idsT t).getD k 0))) := Lib.hid fun k hk => by
      refine twL_fit HFA.out HFB.out HI.out.ids _ ?_
      unfold twL
      refine List.mem_map.2 ⟨(idsT t).getD k 0, ?_, rfl⟩
      rw [List.getD_eq_getElem?_getD, List.getElem?_eq_getElem hk]
      exact List.getElem_mem hk
    have HCL : Hid (∀ (k : Nat) (W : World), k < (idsT t).length → Below W3.heap.size W3 W → Calls Try.prog 24 (#[.int .i64 (k : Int)] ++ #[.pointer (some ⟨bi, 0, none⟩), .pointer (some ⟨w.heap.size + 1, 0, none⟩), .pointer (some ⟨w.heap.size + 2, 0, none⟩)]) W fun e w' => e = .returned (.int .i64 (tw1 a b ((idsT t).getD k 0))) ∧ Below W.heap.size W w') := Lib.hid fun k W hk hb =>
      two1_any _ (idsT t) a b bi (w.heap.size + 1) (w.heap.size + 2) k W ((hb.cell (lt_of_cell Q3.out)).trans Q3.out) ((hb.cell (lt_of_cell L3.out.ca)).trans L3.out.ca) ((hb.cell (lt_of_cell L3.out.cb)).trans L3.out.cb) (R3.out.up hb) hk
    have HN := Lib.hid (named_any 24 entersT1 _ (fun k => tw1 a b ((idsT t).getD k 0)) t c (idsT t).length W3 (by have := HM.out; omega) (L3.out.is HI.out) HL.out HFT.out HCL.out)
    rw [upTo_two] at HN
    have HPT : Hid (twT t a b = nmT (twL a b (idsT t)) t) := Lib.hid rfl
    rw [h0]
    clear h0 hr HR3 HFT HCL
    have q0 := Q3.out
    obtain ⟨c0, c1, c2, c3, c4, c5, c6⟩ := c7_of L3.out.box.cat
    go_wp2_with fail
    refine HN.out.mono ?_
    rintro e w4 ⟨d, rfl, hd, hb4⟩
    have F4 := Lib.hid hd
    have B4 := Lib.hid hb4
    have L4 := Lib.hid (L3.out.up hb4)
    clear hd hb4 c0 c1 c2 c3 c4 c5 c6 HN q0
    obtain ⟨⟨z0, z1, z2, z3, z4, z5, z6⟩, f0, f1, f2, f3, f4, f5, f6⟩ := zero_parts L4.out.zero
    go_wp2
    (try simp only [Exit.inBlock, Exit.then])
    refine bodyPost_ret (results_c2 rfl _ _ (w.heap.size + 3) d rfl ((Box7.of_zero L4.out.zero).put d)) rfl ?_
    rw [HE.out, HPT.out]
    exact sw_ok rfl ((F4.out.put (b := w.heap.size + 3) (by have := L3.out.size; omega)).low (by omega)) (below_put7 L4.out.below (by omega) d)
  · have HE := Lib.hid h0
    clear h0 HR3
    obtain ⟨n, hn⟩ : ∃ n, n = twE t a b := ⟨_, rfl⟩
    rw [← hn] at HE ⊢
    have HNN := Lib.hid hn
    clear hn
    have d1 : (n != 0) = true := by simpa using HE.out
    obtain ⟨⟨z0, z1, z2, z3, z4, z5, z6⟩, f0, f1, f2, f3, f4, f5, f6⟩ := zero_parts L3.out.zero
    go_wp2
    (try simp only [Exit.inBlock, Exit.then])
    refine bodyPost_ret (results_c2 rfl _ _ (w.heap.size + 3) zC rfl ((Box7.of_zero L3.out.zero).put zC)) rfl ?_
    rw [← HNN.out]
    exact sw_err HE.out L3.out.err
end Go.Proofs.Ytakofjbjciljjaa
