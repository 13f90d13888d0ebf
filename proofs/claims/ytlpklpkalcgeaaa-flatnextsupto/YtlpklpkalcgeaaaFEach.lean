/- What is done with a tree's leaves, where they stand. -/
import Derived.Test.YtlpklpkalcgeaaaRList
import Derived.Test.YtlpklpkalcgeaaaSize
namespace Go.Proofs.Ytlpklpkalcgeaaa
open Go.RowKit

/-- Where the cells of a tree stand. -/
inductive L where
  | node (b o : Nat) (kids : List L)
deriving Inhabited
namespace L
def b : L → Nat | .node b _ _ => b
def o : L → Nat | .node _ o _ => o
def kids : L → List L | .node _ _ l => l
end L
mutual
def lfT : L → T → List (Nat × Nat)
  | .node b o xs, .node k _ _ ts => (if k = 1 then [(b, o)] else []) ++ lfL xs ts
def lfL : List L → List T → List (Nat × Nat)
  | x :: xs, t :: ts => lfT x t ++ lfL xs ts
  | _, _ => []
end
theorem lfT_eq (x : L) (t : T) : lfT x t = (if t.k = 1 then [(x.b, x.o)] else []) ++ lfL x.kids t.kids := by cases x; cases t; rw [lfT]; rfl
theorem lfL_nil (ts : List T) : lfL [] ts = [] := by cases ts <;> simp [lfL]
theorem lfL_step {xs : List L} {ts : List T} {k : Nat} {x : L} {t : T} (hx : xs[k]? = some x) (ht : ts[k]? = some t) : lfL (xs.take (k + 1)) (ts.take (k + 1)) = lfL (xs.take k) (ts.take k) ++ lfT x t := by
  induction xs generalizing ts k with
  | nil => simp at hx
  | cons y ys ih =>
    cases ts with
    | nil => simp at ht
    | cons u us =>
      cases k with
      | zero => simp at hx ht; subst hx; subst ht; simp [lfL]
      | succ k =>
        simp only [List.take_succ_cons, lfL, List.append_assoc]
        rw [ih (by simpa using hx) (by simpa using ht)]
theorem lfL_at {xs : List L} {ts : List T} {k j : Nat} {x : L} {t : T} {a : Nat × Nat} (hx : xs[k]? = some x) (ht : ts[k]? = some t) (ha : (lfT x t)[j]? = some a) : (lfL xs ts)[(lfL (xs.take k) (ts.take k)).length + j]? = some a := by
  induction xs generalizing ts k with
  | nil => simp at hx
  | cons y ys ih =>
    cases ts with
    | nil => simp at ht
    | cons u us =>
      have hj : j < (lfT x t).length := (List.getElem?_eq_some_iff.1 ha).1
      cases k with
      | zero =>
        simp at hx ht; subst hx; subst ht
        simp only [List.take_zero, lfL, List.length_nil, Nat.zero_add]
        rw [List.getElem?_append_left hj]; exact ha
      | succ k =>
        simp only [List.take_succ_cons, lfL, List.length_append]
        rw [List.getElem?_append_right (by omega), show (lfT y u).length + (lfL (ys.take k) (us.take k)).length + j - (lfT y u).length = (lfL (ys.take k) (us.take k)).length + j by omega]
        exact ih (by simpa using hx) (by simpa using ht)
theorem lf_at {x y : L} {t u : T} {n d : Nat} (hd : (if t.k = 1 then [(x.b, x.o)] else []).length = d) {j : Nat} {a : Nat × Nat} (hy : x.kids[n]? = some y) (hu : t.kids[n]? = some u) (ha : (lfT y u)[j]? = some a) : (lfT x t)[d + (lfL (x.kids.take n) (t.kids.take n)).length + j]? = some a := by
  rw [lfT_eq, List.getElem?_append_right (by omega), hd, show d + (lfL (x.kids.take n) (t.kids.take n)).length + j - d = (lfL (x.kids.take n) (t.kids.take n)).length + j by omega]
  exact lfL_at hy hu ha

/-- A tree's kinds and kids, where they stand. -/
inductive Lies (W : World) : L → T → Prop
  | mk (b o : Nat) (k : Int) (r : R) (i : Int) (ts : List T) (xs : List L) (a : Option Addr) (cap : Nat) (h0 : W.cell? ⟨b, o, none⟩ = some (.int .u8 k)) (h6 : W.cell? ⟨b, o + 6, none⟩ = some (.slice a ts.length cap)) (len : xs.length = ts.length) (few : ts.length ≤ 1954687338211)
      (place : ∀ (j : Nat) (y : L), xs[j]? = some y → ∃ kb ko, a = some ⟨kb, ko, none⟩ ∧ y.b = kb ∧ y.o = ko + j * 7)
      (each : ∀ (j : Nat) (y : L) (u : T), xs[j]? = some y → ts[j]? = some u → Lies W y u) : Lies W (.node b o xs) (.node k r i ts)
theorem Lies.split {W : World} {x : L} {t : T} (h : Lies W x t) : W.cell? ⟨x.b, x.o, none⟩ = some (.int .u8 t.k) ∧ ∃ a cap, W.cell? ⟨x.b, x.o + 6, none⟩ = some (.slice a t.kids.length cap) ∧ x.kids.length = t.kids.length ∧ t.kids.length ≤ 1954687338211 ∧
    (∀ (j : Nat) (y : L), x.kids[j]? = some y → ∃ kb ko, a = some ⟨kb, ko, none⟩ ∧ y.b = kb ∧ y.o = ko + j * 7) ∧ ∀ (j : Nat) (y : L) (u : T), x.kids[j]? = some y → t.kids[j]? = some u → Lies W y u := by
  cases h with
  | mk b o k r i ts xs a cap h0 h6 len few place each => exact ⟨h0, a, cap, h6, len, few, place, each⟩

set_option maxRecDepth 100000 in
theorem feach_any (F : Nat) (hE : Enters F) (lb : Array Value) (I : Nat → World → Prop) (N : Nat) : ∀ (x : L) (t : T) (k : Nat) (W : World), sz t ≤ N → (∀ j W, I j W → Lies W x t) →
    (∀ (j : Nat) (a : Nat × Nat) (W : World), (lfT x t)[j]? = some a → I (k + j) W → Calls Try.prog F (#[.pointer (some ⟨a.1, a.2, none⟩)] ++ lb) W fun e w' => e = .returned (.tuple #[]) ∧ I (k + j + 1) w') → I k W →
    Calls Try.prog 29 #[.pointer (some ⟨x.b, x.o, none⟩), .func (.func F) #[] lb] W fun e w' => e = .returned (.tuple #[]) ∧ I (k + (lfT x t).length) w' := by
  have hent : ∀ (args : Array Value) (w : World), (callFunc F args).run Try.prog w = .ok (.enter F args) w := hE
  induction N with
  | zero => intro x t k W h; have := sz_pos t; omega
  | succ N ih =>
    intro x t k W hs hS hF hI
    obtain ⟨h0, a, cap, h6, hxl, hfew, -⟩ := (hS k W hI).split
    have HS := Lib.hid hS
    have HF := Lib.hid hF
    have HIH := Lib.hid ih
    have HSZ := Lib.hid hs
    have HXL := Lib.hid hxl
    clear hS hF ih hs hxl
    cases hk1 : (t.k == 1) with
    | false =>
      have hk : t.k ≠ 1 := by simpa using hk1
      have HLD : Hid ((if t.k = 1 then [(x.b, x.o)] else []).length = 0) := Lib.hid (by rw [if_neg hk]; rfl)
      have HLR : Hid ((if t.k = 1 then [(x.b, x.o)] else []) = []) := Lib.hid (by rw [if_neg hk])
      have HI1 : Hid (I (k + 0) W) := Lib.hid (by simpa using hI)
      clear hk hI
      go_enter Try.func29, Try.ntmps29
      go_wp2
      go_loopg [18] (t.kids.length + 1) (fun g i wr => ∃ n : Nat, g + n = t.kids.length + 1 ∧ n ≤ t.kids.length ∧ i = .int .i64 n ∧ I (k + 0 + (lfL (x.kids.take n) (t.kids.take n)).length) wr)
      case atStart => exact ⟨0, by omega, by omega, rfl, by simpa [lfL] using HI1.out⟩
      case round =>
        obtain ⟨n, hg, hn, rfl, hin⟩ := hrel
        have HG := Lib.hid hg
        have HIN := Lib.hid hin
        clear hg hin
        by_cases hlt : n < t.kids.length
        · obtain ⟨-, a2, cap2, g6, -, -, hpl2, hch2⟩ := (HS.out _ _ HIN.out).split
          obtain ⟨u, hu⟩ : ∃ u, t.kids[n]? = some u := ⟨_, List.getElem?_eq_getElem hlt⟩
          obtain ⟨y, hy⟩ : ∃ y, x.kids[n]? = some y := ⟨_, List.getElem?_eq_getElem (by have := HXL.out; omega)⟩
          obtain ⟨kb, ko, rfl, hyb, hyo⟩ := hpl2 n y hy
          have HCH : Hid (∀ j W, I j W → Lies W y u) := Lib.hid (fun j W h => (HS.out j W h).split.2.choose_spec.choose_spec.2.2.2.2 n y u hy hu)
          have HLK := Lib.hid (fun j a => lf_at HLD.out (j := j) (a := a) hy hu)
          have HST := Lib.hid (lfL_step hy hu)
          have HK := Lib.hid (HIH.out y u (k + 0 + (lfL (x.kids.take n) (t.kids.take n)).length) wr (by have := HSZ.out; have := sz_kid hu; omega) HCH.out (fun j a W ha hI => by
            have h := HF.out (0 + (lfL (x.kids.take n) (t.kids.take n)).length + j) a W (HLK.out j a ha) (by rw [show k + (0 + (lfL (x.kids.take n) (t.kids.take n)).length + j) = k + 0 + (lfL (x.kids.take n) (t.kids.take n)).length + j by omega]; exact hI)
            rw [show k + (0 + (lfL (x.kids.take n) (t.kids.take n)).length + j) + 1 = k + 0 + (lfL (x.kids.take n) (t.kids.take n)).length + j + 1 by omega] at h
            exact h) HIN.out)
          rw [hyb, hyo] at HK
          clear hpl2 hch2 hy hu hyb hyo
          go_wp2_with fail
          refine HK.out.mono ?_
          rintro e w2 ⟨rfl, hi2⟩
          have HI2 := Lib.hid hi2
          clear hi2
          go_wp2
          go_roundg (gk - 1)
          case measure => have := HG.out; omega
          case rel =>
            refine ⟨n + 1, by have := HG.out; omega, by omega, by go_num, ?_⟩
            rw [HST.out, List.length_append, ← Nat.add_assoc]
            exact HI2.out
        · obtain rfl : n = t.kids.length := by omega
          have hkl : ((t.kids.length : Int) < (t.kids.length : Int)) = False := by simp
          go_wp2
          go_end0
          refine ⟨rfl, ?_⟩
          have := HIN.out
          rw [List.take_length, List.take_of_length_le (by have := HXL.out; omega)] at this
          rw [lfT_eq, HLR.out]
          rw [List.length_append, ← Nat.add_assoc]
          exact this
    | true =>
      have hk : t.k = 1 := by simpa using hk1
      have HLD : Hid ((if t.k = 1 then [(x.b, x.o)] else []).length = 1) := Lib.hid (by rw [if_pos hk]; rfl)
      have HLR : Hid ((if t.k = 1 then [(x.b, x.o)] else []) = [(x.b, x.o)]) := Lib.hid (by rw [if_pos hk])
      have HC := Lib.hid (HF.out 0 (x.b, x.o) W (by rw [lfT_eq, if_pos hk]; rfl) hI)
      clear hk hI
      go_enter Try.func29, Try.ntmps29
      go_wp2_with fail
      refine HC.out.mono ?_
      rintro e w1 ⟨rfl, hi1⟩
      have HI1 := Lib.hid hi1
      obtain ⟨-, a1, cap1, f6, -, -, -, -⟩ := (HS.out _ _ hi1).split
      clear hi1 h0 h6
      go_wp2
      go_loopg [18] (t.kids.length + 1) (fun g i wr => ∃ n : Nat, g + n = t.kids.length + 1 ∧ n ≤ t.kids.length ∧ i = .int .i64 n ∧ I (k + 1 + (lfL (x.kids.take n) (t.kids.take n)).length) wr)
      case atStart => exact ⟨0, by omega, by omega, rfl, by simpa [lfL] using HI1.out⟩
      case round =>
        obtain ⟨n, hg, hn, rfl, hin⟩ := hrel
        have HG := Lib.hid hg
        have HIN := Lib.hid hin
        clear hg hin
        by_cases hlt : n < t.kids.length
        · obtain ⟨-, a2, cap2, g6, -, -, hpl2, hch2⟩ := (HS.out _ _ HIN.out).split
          obtain ⟨u, hu⟩ : ∃ u, t.kids[n]? = some u := ⟨_, List.getElem?_eq_getElem hlt⟩
          obtain ⟨y, hy⟩ : ∃ y, x.kids[n]? = some y := ⟨_, List.getElem?_eq_getElem (by have := HXL.out; omega)⟩
          obtain ⟨kb, ko, rfl, hyb, hyo⟩ := hpl2 n y hy
          have HCH : Hid (∀ j W, I j W → Lies W y u) := Lib.hid (fun j W h => (HS.out j W h).split.2.choose_spec.choose_spec.2.2.2.2 n y u hy hu)
          have HLK := Lib.hid (fun j a => lf_at HLD.out (j := j) (a := a) hy hu)
          have HST := Lib.hid (lfL_step hy hu)
          have HK := Lib.hid (HIH.out y u (k + 1 + (lfL (x.kids.take n) (t.kids.take n)).length) wr (by have := HSZ.out; have := sz_kid hu; omega) HCH.out (fun j a W ha hI => by
            have h := HF.out (1 + (lfL (x.kids.take n) (t.kids.take n)).length + j) a W (HLK.out j a ha) (by rw [show k + (1 + (lfL (x.kids.take n) (t.kids.take n)).length + j) = k + 1 + (lfL (x.kids.take n) (t.kids.take n)).length + j by omega]; exact hI)
            rw [show k + (1 + (lfL (x.kids.take n) (t.kids.take n)).length + j) + 1 = k + 1 + (lfL (x.kids.take n) (t.kids.take n)).length + j + 1 by omega] at h
            exact h) HIN.out)
          rw [hyb, hyo] at HK
          clear hpl2 hch2 hy hu hyb hyo
          go_wp2_with fail
          refine HK.out.mono ?_
          rintro e w2 ⟨rfl, hi2⟩
          have HI2 := Lib.hid hi2
          clear hi2
          go_wp2
          go_roundg (gk - 1)
          case measure => have := HG.out; omega
          case rel =>
            refine ⟨n + 1, by have := HG.out; omega, by omega, by go_num, ?_⟩
            rw [HST.out, List.length_append, ← Nat.add_assoc]
            exact HI2.out
        · obtain rfl : n = t.kids.length := by omega
          have hkl : ((t.kids.length : Int) < (t.kids.length : Int)) = False := by simp
          go_wp2
          go_end0
          refine ⟨rfl, ?_⟩
          have := HIN.out
          rw [List.take_length, List.take_of_length_le (by have := HXL.out; omega)] at this
          rw [lfT_eq, HLR.out]
          rw [List.length_append, ← Nat.add_assoc]
          exact this
end Go.Proofs.Ytlpklpkalcgeaaa
