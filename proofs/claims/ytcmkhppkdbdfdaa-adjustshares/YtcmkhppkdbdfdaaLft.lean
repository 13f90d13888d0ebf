/- What is still needed behind whole rounds; whether one is no number that can be. -/
import Derived.Test.YtcmkhppkdbdfdaaBlk
namespace Go.Proofs.Ytcmkhppkdbdfdaa
open Go.RowKit

def lfI (r : Int) : Int → List Int → Int
  | need, [] => need
  | need, g :: l => if need < 0 then need else lfI r (need - min g r) l
theorem lfI_neg {r need : Int} (h : need < 0) (l : List Int) : lfI r need l = need := by
  cases l with
  | nil => rfl
  | cons g l => rw [lfI, if_pos h]
theorem drop_at {α : Type} {l : List α} {k : Nat} {g : α} (h : l[k]? = some g) : l.drop k = g :: l.drop (k + 1) := by
  obtain ⟨hk, rfl⟩ := List.getElem?_eq_some_iff.1 h
  exact List.drop_eq_getElem_cons hk
/-- Numbers that kids can give. -/
def goodI (l : List Int) : Prop := ∀ g ∈ l, 0 ≤ g ∧ g ≤ 2147483647

set_option maxRecDepth 100000 in
theorem left_any (need r : Int) (v : Value) (gs : List Int) (w : World) (hv : Row w v (ints gs)) (hg : goodI gs) (hn : 0 ≤ need ∧ need ≤ 2147483647) (hr : 0 ≤ r ∧ r ≤ 2147483647) (hl : gs.length ≤ 1000000) :
    Calls Try.prog 20 #[.int .i64 need, .int .i64 r, v] w fun e w' => e = .returned (.int .i64 (lfI r need gs)) ∧ w' = w := by
  obtain ⟨a, cap, rfl⟩ := row_shape hv
  have HV := Lib.hid hv
  have HGD := Lib.hid hg
  clear hv hg
  go_enter Try.func20, Try.ntmps20
  go_wp2
  go_loopg [0, 11] (gs.length + 1) (fun g vn i wr => ∃ (k : Nat) (m : Int), g + k = gs.length + 1 ∧ k ≤ gs.length ∧ i = .int .i64 k ∧ vn = .int .i64 m ∧ -2147483648 ≤ m ∧ m ≤ 2147483647 ∧ lfI r need gs = lfI r m (gs.drop k) ∧ wr = w)
  case atStart => exact ⟨0, need, by omega, by omega, rfl, rfl, by omega, by omega, by simp, rfl⟩
  case round =>
    obtain ⟨k, m, hgk, hk, rfl, rfl, hm1, hm2, hlf, rfl⟩ := hrel
    have HG := Lib.hid hgk
    have HL := Lib.hid hlf
    clear hgk hlf
    by_cases hlt : k < gs.length
    · have hlti : (k : Int) < (gs.length : Int) := by omega
      obtain ⟨x, hx⟩ : ∃ x, gs[k]? = some x := ⟨_, List.getElem?_eq_getElem hlt⟩
      obtain ⟨b, o, rfl, hf⟩ := int_at HV.out (by omega)
      have c0 := hf k x hx
      have hgx := HGD.out x (List.mem_of_getElem? hx)
      have HD := Lib.hid (drop_at hx)
      clear hf hx
      by_cases hneg : m < 0
      · have dn : decide (m < 0) = true := decide_eq_true hneg
        have HR := Lib.hid (HL.out.trans (lfI_neg hneg _))
        go_wp2
        go_ret
        exact ⟨ret_int HR.out.symm, rfl⟩
      · have dn : decide (m < 0) = false := decide_eq_false hneg
        go_wp2
        go_roundg (gk - 1)
        case measure => have := HG.out; omega
        case rel => exact ⟨k + 1, m - min x r, by have := HG.out; omega, by omega, by go_num, rfl, by omega, by omega, by rw [HL.out, HD.out, lfI, if_neg (by omega)], rfl⟩
    · obtain rfl : k = gs.length := by omega
      have hkl : ((gs.length : Int) < (gs.length : Int)) = False := by simp
      have HR : Hid (lfI r need gs = m) := Lib.hid (by have := HL.out; rw [List.drop_length] at this; exact this)
      go_wp2
      go_ret
      exact ⟨ret_int HR.out.symm, rfl⟩

def badB (n : Int) : Bool := decide (n < 0) || decide (2147483647 < n)
theorem bad1_any (n : Int) (w : World) : Calls Try.prog 15 #[.int .i64 n] w fun e w' => e = .returned (.bool (badB n)) ∧ w' = w := by
  unfold badB
  rcases Bool.eq_false_or_eq_true (decide (n < 0)) with d1 | d1 <;> rcases Bool.eq_false_or_eq_true (decide (2147483647 < n)) with d2 | d2
  all_goals
    rw [d1, d2]
    go_enter Try.func15, Try.ntmps15
    go_wp2
    go_ret
    exact ⟨rfl, rfl⟩
theorem enters15 : Enters 15 := enters_of Try.func15 (by kernel_rfl) rfl

def idxSays (gs : List Int) (c : Int) : Prop := (c < 0 ∧ ∀ g ∈ gs, badB g = false) ∨ (0 ≤ c ∧ ∃ g ∈ gs, badB g = true)
set_option maxRecDepth 100000 in
theorem idx_any (v : Value) (gs : List Int) (w : World) (hv : Row w v (ints gs)) (hl : gs.length ≤ 1000000) :
    Calls Try.prog 19 #[v, .func (.func 15) #[] #[]] w fun e w' => ∃ c : Int, e = .returned (.int .i64 c) ∧ idxSays gs c ∧ w' = w := by
  have hent : ∀ (args : Array Value) (w : World), (callFunc 15 args).run Try.prog w = .ok (.enter 15 args) w := enters15
  obtain ⟨a, cap, rfl⟩ := row_shape hv
  have HV := Lib.hid hv
  clear hv
  go_enter Try.func19, Try.ntmps19
  go_wp2
  go_loopg [8] (gs.length + 1) (fun g i wr => ∃ k : Nat, g + k = gs.length + 1 ∧ k ≤ gs.length ∧ i = .int .i64 k ∧ (∀ (j : Nat) (x : Int), j < k → gs[j]? = some x → badB x = false) ∧ wr = w)
  case atStart => exact ⟨0, by omega, by omega, rfl, fun j x hj => by omega, rfl⟩
  case round =>
    obtain ⟨k, hgk, hk, rfl, hno, rfl⟩ := hrel
    have HG := Lib.hid hgk
    have HN := Lib.hid hno
    clear hgk hno
    by_cases hlt : k < gs.length
    · have hlti : (k : Int) < (gs.length : Int) := by omega
      obtain ⟨x, hx⟩ : ∃ x, gs[k]? = some x := ⟨_, List.getElem?_eq_getElem hlt⟩
      obtain ⟨b, o, rfl, hf⟩ := int_at HV.out (by omega)
      have c0 := hf k x hx
      have HX := Lib.hid hx
      clear hf hx
      have HC := Lib.hid (bad1_any x wr)
      go_wp2_with fail
      refine HC.out.mono ?_
      rintro e w2 ⟨rfl, hw2⟩
      rw [hw2]
      clear hw2 w2
      cases hbx : badB x with
      | true =>
        have HBX := Lib.hid hbx
        clear hbx
        go_wp2
        go_ret
        exact ⟨_, rfl, .inr ⟨by omega, x, List.mem_of_getElem? HX.out, HBX.out⟩, rfl⟩
      | false =>
        have HBX := Lib.hid hbx
        clear hbx
        go_wp2
        go_roundg (gk - 1)
        case measure => have := HG.out; omega
        case rel =>
          refine ⟨k + 1, by have := HG.out; omega, by omega, by go_num, fun j y hj hy => ?_, rfl⟩
          rcases Nat.lt_or_ge j k with h | h
          · exact HN.out j y h hy
          · obtain rfl : j = k := by omega
            rw [HX.out] at hy; cases hy; exact HBX.out
    · obtain rfl : k = gs.length := by omega
      have hkl : ((gs.length : Int) < (gs.length : Int)) = False := by simp
      go_wp2
      go_ret
      refine ⟨_, rfl, .inl ⟨by omega, fun g hgm => ?_⟩, rfl⟩
      obtain ⟨j, hj, rfl⟩ := List.getElem_of_mem hgm
      exact HN.out j _ hj (List.getElem?_eq_getElem hj)

def anyBad (gs : List Int) : Bool := gs.any badB
theorem anyBad_no {gs : List Int} (h : anyBad gs = false) : goodI gs := fun g hg => by
  have := (List.any_eq_false.1 h) g hg
  simp [badB] at this; omega
theorem anyBad_yes {gs : List Int} (h : anyBad gs = true) : ¬ goodI gs := fun hg => by
  obtain ⟨g, h1, h2⟩ := List.any_eq_true.1 h
  have := hg g h1
  simp [badB] at h2; omega
theorem idx_any_bad {gs : List Int} {c : Int} (h : idxSays gs c) : decide (0 ≤ c) = anyBad gs := by
  rcases h with ⟨h1, h2⟩ | ⟨h1, g, h2, h3⟩
  · rw [decide_eq_false (by omega)]
    exact (List.any_eq_false.2 fun g hg => by rw [h2 g hg]; simp).symm
  · rw [decide_eq_true h1]
    exact (List.any_eq_true.2 ⟨g, h2, h3⟩).symm
set_option maxRecDepth 100000 in
theorem contains_any (v : Value) (gs : List Int) (w : World) (hv : Row w v (ints gs)) (hl : gs.length ≤ 1000000) :
    Calls Try.prog 14 #[v, .func (.func 15) #[] #[]] w fun e w' => e = .returned (.bool (anyBad gs)) ∧ w' = w := by
  have HC := Lib.hid (idx_any v gs w hv hl)
  clear hv
  go_enter Try.func14, Try.ntmps14
  go_wp2_with fail
  refine HC.out.mono ?_
  rintro e w2 ⟨c, rfl, hc, hw2⟩
  rw [hw2]
  clear hw2 w2
  have HI := Lib.hid (idx_any_bad hc)
  clear hc
  go_wp2
  go_ret
  exact ⟨by rw [← HI.out]; rfl, rfl⟩
end Go.Proofs.Ytcmkhppkdbdfdaa
