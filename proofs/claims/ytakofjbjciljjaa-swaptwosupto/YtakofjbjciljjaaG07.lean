/- Texts of this seat, 3 in one file. -/
import Derived.Test.YtakofjbjciljjaaG06
import Derived.Test.YtakofjbjciljjaaG05
/- How many cells trees have, together. -/
namespace Go.Proofs.Ytakofjbjciljjaa
open Go.RowKit

theorem wrap_more (n : Nat) : wrap64 (wrap64 (n : Int) + 1) = wrap64 ((n + 1 : Nat) : Int) := by unfold wrap64; omega
theorem wrap_small {n : Nat} (h : n ≤ 1099511627776) : wrap64 (n : Int) = n := by unfold wrap64; omega

/-- A box of one cell. -/
abbrev Box1 (w : World) (b : Nat) (v : Value) (t : TypeId) : Prop := w.heap[b]? = some (.cells #[v] t (0, 0))
theorem Box1.up {w w' : World} {b : Nat} {v : Value} {t : TypeId} (h : Box1 w b v t) (hb : Below w.heap.size w w') : Box1 w' b v t := (hb.block b (lt_of_block h)).trans h
theorem Box1.new (w : World) (v : Value) (t : TypeId) : Box1 (w.alloc (.cells #[v] t)) w.heap.size v t := by
  show (w.heap.push _)[w.heap.size]? = _
  simp

def sizeI (w0 : World) (s : Nat) (W : World) : Prop := Below w0.heap.size w0 W ∧ Box1 W w0.heap.size (.int .i64 (wrap64 (s : Int))) 3
theorem sizeM (w0 : World) : Mach w0 (fun (_ : Nat) _ k => k = w0.heap.size) (sizeI w0) :=
  ⟨fun _ W _ _ h _ hk => by have := lt_of_block h.2; have hk' : W.heap.size = w0.heap.size := hk; omega, fun _ _ h => h.1, fun _ _ _ h hb => ⟨h.1.trans (hb.mono h.1.size), h.2.up hb⟩⟩

theorem fr_set {σ : Type} {own : σ → Option Obj → Nat → Prop} {s s1 s2 : σ} {W w1 : World} (h : Fr own s W s1 w1) (b : Nat) (v : Value) (hb : ∀ o, own s o b) (hs : ∀ k, own s2 (w1.setCell ⟨b, 0, none⟩ v).heap[k]? k → own s W.heap[k]? k ∨ W.heap.size ≤ k) : Fr own s W s2 (w1.setCell ⟨b, 0, none⟩ v) :=
  ⟨h.os, h.tape, h.output, by simpa [World.setCell] using h.size, fun k hk hn => (Below.heap_setCell w1 ⟨b, 0, none⟩ v k (fun e => hn (by subst e; exact hb _))).trans (h.block k hk hn), hs⟩

mutual
theorem doT_size (s : Nat) : ∀ t, doT (fun s (_ : T) => s + 1) s t = s + sz t
  | .node k r i l => by rw [doT, doL_size (s + 1) l, sz]; omega
theorem doL_size (s : Nat) : ∀ l, doL (fun s (_ : T) => s + 1) s l = s + szL l
  | [] => by rw [doL, szL]; rfl
  | t :: l => by rw [doL, doT_size s t, doL_size (s + sz t) l, szL]; omega
end

end Go.Proofs.Ytakofjbjciljjaa
/- What is done with a tree's leaves, where they stand. -/
namespace Go.Proofs.Ytakofjbjciljjaa
open Go.RowKit

/-- Where the cells of a tree stand. -/
inductive L where
  | node (b o : Nat) (kids : List L)
deriving Inhabited

def L.b : L → Nat | .node b _ _ => b
def L.o : L → Nat | .node _ o _ => o
def L.kids : L → List L | .node _ _ l => l

mutual
def lfT : L → T → List (Nat × Nat)
  | .node b o xs, .node k _ _ ts => (if k = 1 then [(b, o)] else []) ++ lfL xs ts
def lfL : List L → List T → List (Nat × Nat)
  | x :: xs, t :: ts => lfT x t ++ lfL xs ts
  | _, _ => []
end
theorem lfT_eq (x : L) (t : T) : lfT x t = (if t.k = 1 then [(x.b, x.o)] else []) ++ lfL x.kids t.kids := by cases x; cases t; rw [lfT]; rfl
theorem lfL_nil (ts : List T) : lfL [] ts = [] := by cases ts <;> simp [lfL]
theorem lfL_step {xs : List L} {ts : List T} {k : Nat} {x : L} {t : T} (hx : xs[k]? = some x) (ht : ts[k]? = some t) : lfL (xs.take (k + 1)) (ts.take (k + 1)) = lfL (xs.take k) (ts.take k) ++ lfT x t := by
  induction xs generalizing ts k with
  | nil => simp at hx
  | cons y ys ih =>
    cases ts with
    | nil => simp at ht
    | cons u us =>
      cases k with
      | zero => simp at hx ht; subst hx; subst ht; simp [lfL]
      | succ k =>
        simp only [List.take_succ_cons, lfL, List.append_assoc]
        rw [ih (by simpa using hx) (by simpa using ht)]
theorem lfL_at {xs : List L} {ts : List T} {k j : Nat} {x : L} {t : T} {a : Nat × Nat} (hx : xs[k]? = some x) (ht : ts[k]? = some t) (ha : (lfT x t)[j]? = some a) : (lfL xs ts)[(lfL (xs.take k) (ts.take k)).length + j]? = some a := by
  induction xs generalizing ts k with
  | nil => simp at hx
  | cons y ys ih =>
    cases ts with
    | nil => simp at ht
    | cons u us =>
      have hj : j < (lfT x t).length := (List.getElem?_eq_some_iff.1 ha).1
      cases k with
      | zero =>
        simp at hx ht; subst hx; subst ht
        simp only [List.take_zero, lfL, List.length_nil, Nat.zero_add]
        rw [List.getElem?_append_left hj]; exact ha
      | succ k =>
        simp only [List.take_succ_cons, lfL, List.length_append]
        rw [List.getElem?_append_right (by omega), show (lfT y u).length + (lfL (ys.take k) (us.take k)).length + j - (lfT y u).length = (lfL (ys.take k) (us.take k)).length + j by omega]
        exact ih (by simpa using hx) (by simpa using ht)
theorem lf_at {x y : L} {t u : T} {n d : Nat} (hd : (if t.k = 1 then [(x.b, x.o)] else []).length = d) {j : Nat} {a : Nat × Nat} (hy : x.kids[n]? = some y) (hu : t.kids[n]? = some u) (ha : (lfT y u)[j]? = some a) : (lfT x t)[d + (lfL (x.kids.take n) (t.kids.take n)).length + j]? = some a := by
  rw [lfT_eq, List.getElem?_append_right (by omega), hd, show d + (lfL (x.kids.take n) (t.kids.take n)).length + j - d = (lfL (x.kids.take n) (t.kids.take n)).length + j by omega]
  exact lfL_at hy hu ha

/-- A tree's kinds and kids, where they stand. -/
inductive Lies (W : World) : L → T → Prop
  | mk (b o : Nat) (k : Int) (r : R) (i : Int) (ts : List T) (xs : List L) (a : Option Addr) (cap : Nat) (h0 : W.cell? ⟨b, o, none⟩ = some (.int .u8 k)) (h6 : W.cell? ⟨b, o + 6, none⟩ = some (.slice a ts.length cap)) (len : xs.length = ts.length) (few : ts.length ≤ 1954687338211)
      (place : ∀ (j : Nat) (y : L), xs[j]? = some y → ∃ kb ko, a = some ⟨kb, ko, none⟩ ∧ y.b = kb ∧ y.o = ko + j * 7)
      (each : ∀ (j : Nat) (y : L) (u : T), xs[j]? = some y → ts[j]? = some u → Lies W y u) : Lies W (.node b o xs) (.node k r i ts)
theorem Lies.split {W : World} {x : L} {t : T} (h : Lies W x t) : W.cell? ⟨x.b, x.o, none⟩ = some (.int .u8 t.k) ∧ ∃ a cap, W.cell? ⟨x.b, x.o + 6, none⟩ = some (.slice a t.kids.length cap) ∧ x.kids.length = t.kids.length ∧ t.kids.length ≤ 1954687338211 ∧
    (∀ (j : Nat) (y : L), x.kids[j]? = some y → ∃ kb ko, a = some ⟨kb, ko, none⟩ ∧ y.b = kb ∧ y.o = ko + j * 7) ∧ ∀ (j : Nat) (y : L) (u : T), x.kids[j]? = some y → t.kids[j]? = some u → Lies W y u := by
  cases h with
  | mk b o k r i ts xs a cap h0 h6 len few place each => exact ⟨h0, a, cap, h6, len, few, place, each⟩

set_option maxRecDepth 100000 in
theorem feach_any (F : Nat) (hE : Enters F) (lb : Array Value) (I : Nat → World → Prop) (N : Nat) : ∀ (x : L) (t : T) (k : Nat) (W : World), sz t ≤ N → (∀ j W, I j W → Lies W x t) →
    (∀ (j : Nat) (a : Nat × Nat) (W : World), (lfT x t)[j]? = some a → I (k + j) W → Calls Try.prog F (#[.pointer (some ⟨a.1, a.2, none⟩)] ++ lb) W fun e w' => e = .returned (.tuple #[]) ∧ I (k + j + 1) w') → I k W →
    Calls Try.prog 52 #[.pointer (some ⟨x.b, x.o, none⟩), .func (.func F) #[] lb] W fun e w' => e = .returned (.tuple #[]) ∧ I (k + (lfT x t).length) w' := by
  have hent : ∀ (args : Array Value) (w : World), (callFunc F args).run Try.prog w = .ok (.enter F args) w := hE
  induction N with
  | zero => intro x t k W h; have := sz_pos t; omega
  | succ N ih =>
    intro x t k W hs hS hF hI
    obtain ⟨h0, a, cap, h6, hxl, hfew, -⟩ := (hS k W hI).split
    have HS := Lib.hid hS
    have HF := Lib.hid hF
    have HIH := Lib.hid ih
    have HSZ := Lib.hid hs
    have HXL := Lib.hid hxl
    clear hS hF ih hs hxl
    cases hk1 : (t.k == 1) with
    | false =>
      have hk : t.k ≠ 1 := by simpa using hk1
      have HLD : Hid ((if t.k = 1 then [(x.b, x.o)] else []).length = 0) := Lib.hid (by rw [if_neg hk]; rfl)
      have HLR : Hid ((if t.k = 1 then [(x.b, x.o)] else []) = []) := Lib.hid (by rw [if_neg hk])
      have HI1 : Hid (I (k + 0) W) := Lib.hid (by simpa using hI)
      clear hk hI
      go_enter Try.func52, Try.ntmps52
      go_wp2
      go_loopg [18] (t.kids.length + 1) (fun g i wr => ∃ n : Nat, g + n = t.kids.length + 1 ∧ n ≤ t.kids.length ∧ i = .int .i64 n ∧ I (k + 0 + (lfL (x.kids.take n) (t.kids.take n)).length) wr)
      case atStart => exact ⟨0, by omega, by omega, rfl, by simpa [lfL] using HI1.out⟩
      case round =>
        obtain ⟨n, hg, hn, rfl, hin⟩ := hrel
        have HG := Lib.hid hg
        have HIN := Lib.hid hin
        clear hg hin
        by_cases hlt : n < t.kids.length
        · obtain ⟨-, a2, cap2, g6, -, -, hpl2, hch2⟩ := (HS.out _ _ HIN.out).split
          obtain ⟨u, hu⟩ : ∃ u, t.kids[n]? = some u := ⟨_, List.getElem?_eq_getElem hlt⟩
          obtain ⟨y, hy⟩ : ∃ y, x.kids[n]? = some y := ⟨_, List.getElem?_eq_getElem (by have := HXL.out; omega)⟩
          obtain ⟨kb, ko, rfl, hyb, hyo⟩ := hpl2 n y hy
          have HCH : Hid (∀ j W, I j W → Lies W y u) := Lib.hid (fun j W h => (HS.out j W h).split.2.choose_spec.choose_spec.2.2.2.2 n y u hy hu)
          have HLK := Lib.hid (fun j a => lf_at HLD.out (j := j) (a := a) hy hu)
          have HST := Lib.hid (lfL_step hy hu)
          have HK := Lib.hid (HIH.out y u (k + 0 + (lfL (x.kids.take n) (t.kids.take n)).length) wr (by have := HSZ.out; have := sz_kid hu; omega) HCH.out (fun j a W ha hI => by
            have h := HF.out (0 + (lfL (x.kids.take n) (t.kids.take n)).length + j) a W (HLK.out j a ha) (by rw [show k + (0 + (lfL (x.kids.take n) (t.kids.take n)).length + j) = k + 0 + (lfL (x.kids.take n) (t.kids.take n)).length + j by omega]; exact hI)
            rw [show k + (0 + (lfL (x.kids.take n) (t.kids.take n)).length + j) + 1 = k + 0 + (lfL (x.kids.take n) (t.kids.take n)).length + j + 1 by omega] at h
            exact h) HIN.out)
          rw [hyb, hyo] at HK
          clear hpl2 hch2 hy hu hyb hyo
          go_wp2_with fail
          refine HK.out.mono ?_
          rintro e w2 ⟨rfl, hi2⟩
          have HI2 := Lib.hid hi2
          clear hi2
          go_wp2
          go_roundg (gk - 1)
          case measure => have := HG.out; omega
          case rel =>
            refine ⟨n + 1, by have := HG.out; omega, by omega, by go_num, ?_⟩
            rw [HST.out, List.length_append, ← Nat.add_assoc]
            exact HI2.out
        · obtain rfl : n = t.kids.length := by omega
          have hkl : ((t.kids.length : Int) < (t.kids.length : Int)) = False := by simp
          go_wp2
          go_end0
          refine ⟨rfl, ?_⟩
          have := HIN.out
          rw [List.take_length, List.take_of_length_le (by have := HXL.out; omega)] at this
          rw [lfT_eq, HLR.out]
          rw [List.length_append, ← Nat.add_assoc]
          exact this
    | true =>
      have hk : t.k = 1 := by simpa using hk1
      have HLD : Hid ((if t.k = 1 then [(x.b, x.o)] else []).length = 1) := Lib.hid (by rw [if_pos hk]; rfl)
      have HLR : Hid ((if t.k = 1 then [(x.b, x.o)] else []) = [(x.b, x.o)]) := Lib.hid (by rw [if_pos hk])
      have HC := Lib.hid (HF.out 0 (x.b, x.o) W (by rw [lfT_eq, if_pos hk]; rfl) hI)
      clear hk hI
      go_enter Try.func52, Try.ntmps52
      go_wp2_with fail
      refine HC.out.mono ?_
      rintro e w1 ⟨rfl, hi1⟩
      have HI1 := Lib.hid hi1
      obtain ⟨-, a1, cap1, f6, -, -, -, -⟩ := (HS.out _ _ hi1).split
      clear hi1 h0 h6
      go_wp2
      go_loopg [18] (t.kids.length + 1) (fun g i wr => ∃ n : Nat, g + n = t.kids.length + 1 ∧ n ≤ t.kids.length ∧ i = .int .i64 n ∧ I (k + 1 + (lfL (x.kids.take n) (t.kids.take n)).length) wr)
      case atStart => exact ⟨0, by omega, by omega, rfl, by simpa [lfL] using HI1.out⟩
      case round =>
        obtain ⟨n, hg, hn, rfl, hin⟩ := hrel
        have HG := Lib.hid hg
        have HIN := Lib.hid hin
        clear hg hin
        by_cases hlt : n < t.kids.length
        · obtain ⟨-, a2, cap2, g6, -, -, hpl2, hch2⟩ := (HS.out _ _ HIN.out).split
          obtain ⟨u, hu⟩ : ∃ u, t.kids[n]? = some u := ⟨_, List.getElem?_eq_getElem hlt⟩
          obtain ⟨y, hy⟩ : ∃ y, x.kids[n]? = some y := ⟨_, List.getElem?_eq_getElem (by have := HXL.out; omega)⟩
          obtain ⟨kb, ko, rfl, hyb, hyo⟩ := hpl2 n y hy
          have HCH : Hid (∀ j W, I j W → Lies W y u) := Lib.hid (fun j W h => (HS.out j W h).split.2.choose_spec.choose_spec.2.2.2.2 n y u hy hu)
          have HLK := Lib.hid (fun j a => lf_at HLD.out (j := j) (a := a) hy hu)
          have HST := Lib.hid (lfL_step hy hu)
          have HK := Lib.hid (HIH.out y u (k + 1 + (lfL (x.kids.take n) (t.kids.take n)).length) wr (by have := HSZ.out; have := sz_kid hu; omega) HCH.out (fun j a W ha hI => by
            have h := HF.out (1 + (lfL (x.kids.take n) (t.kids.take n)).length + j) a W (HLK.out j a ha) (by rw [show k + (1 + (lfL (x.kids.take n) (t.kids.take n)).length + j) = k + 1 + (lfL (x.kids.take n) (t.kids.take n)).length + j by omega]; exact hI)
            rw [show k + (1 + (lfL (x.kids.take n) (t.kids.take n)).length + j) + 1 = k + 1 + (lfL (x.kids.take n) (t.kids.take n)).length + j + 1 by omega] at h
            exact h) HIN.out)
          rw [hyb, hyo] at HK
          clear hpl2 hch2 hy hu hyb hyo
          go_wp2_with fail
          refine HK.out.mono ?_
          rintro e w2 ⟨rfl, hi2⟩
          have HI2 := Lib.hid hi2
          clear hi2
          go_wp2
          go_roundg (gk - 1)
          case measure => have := HG.out; omega
          case rel =>
            refine ⟨n + 1, by have := HG.out; omega, by omega, by go_num, ?_⟩
            rw [HST.out, List.length_append, ← Nat.add_assoc]
            exact HI2.out
        · obtain rfl : n = t.kids.length := by omega
          have hkl : ((t.kids.length : Int) < (t.kids.length : Int)) = False := by simp
          go_wp2
          go_end0
          refine ⟨rfl, ?_⟩
          have := HIN.out
          rw [List.take_length, List.take_of_length_le (by have := HXL.out; omega)] at this
          rw [lfT_eq, HLR.out]
          rw [List.length_append, ← Nat.add_assoc]
          exact this
end Go.Proofs.Ytakofjbjciljjaa
/- Trees and where they stand. -/
namespace Go.Proofs.Ytakofjbjciljjaa
open Go.RowKit

/-- A tree, and where its cells stand. -/
inductive IsL (w : World) : L → C → T → Prop
  | mk (b o : Nat) (c : C) (ts : List T) (xs : List L) (cs : List C) (cat : CAt w b o c) (fine : c.fine) (cn : c.n = ts.length) (xl : xs.length = ts.length) (cl : cs.length = ts.length)
      (place : ∀ (j : Nat) (y : L), xs[j]? = some y → ∃ kb ko, c.a = some ⟨kb, ko, none⟩ ∧ y.b = kb ∧ y.o = ko + j * 7)
      (each : ∀ (j : Nat) (y : L) (x : C) (u : T), xs[j]? = some y → cs[j]? = some x → ts[j]? = some u → IsL w y x u) : IsL w (.node b o xs) c (.node c.k c.r c.id ts)
theorem IsL.cat {w : World} {x : L} {c : C} {t : T} (h : IsL w x c t) : CAt w x.b x.o c := by cases h; assumption
theorem get_of {α : Type} {l : List α} {n j : Nat} (hl : l.length = n) (hj : j < n) : ∃ x, l[j]? = some x := ⟨_, List.getElem?_eq_getElem (by omega)⟩
theorem lt_of_get {α : Type} {l : List α} {j : Nat} {x : α} (h : l[j]? = some x) : j < l.length := (List.getElem?_eq_some_iff.1 h).1
theorem IsL.lies {w : World} {x : L} {c : C} {t : T} (h : IsL w x c t) : Lies w x t := by
  induction h with
  | mk b o c ts xs cs cat fine cn xl cl place each ih =>
    obtain ⟨h0, -, -, -, -, -, h6⟩ := cat
    rw [cn] at h6
    refine .mk b o c.k c.r c.id ts xs c.a c.cap h0 h6 xl (by rw [← cn]; exact fine.2.2.2) place fun j y u hy hu => ?_
    obtain ⟨x, hx⟩ := get_of cl (show j < ts.length by rw [← xl]; exact lt_of_get hy)
    exact ih j y x u hy hx hu
theorem IsL.is {w : World} {x : L} {c : C} {t : T} (h : IsL w x c t) : Is w c t := by
  induction h with
  | mk b o c ts xs cs cat fine cn xl cl place each ih =>
    refine .mk c ts cs ?_ cl fine fun j x u hx hu => ?_
    · rw [cn, ← cl]
      rcases Nat.eq_zero_or_pos cs.length with h0 | hp
      · rw [h0]; exact .inl ⟨_, _, rfl, List.length_eq_zero_iff.1 h0⟩
      · obtain ⟨y0, hy0⟩ := get_of xl (show 0 < ts.length by omega)
        obtain ⟨kb, ko, ha, -⟩ := place 0 y0 hy0
        rw [ha]
        refine .inr ⟨kb, ko, c.cap, rfl, fun j x hx => ?_⟩
        have hj := lt_of_get hx
        obtain ⟨y, hy⟩ := get_of xl (show j < ts.length by omega)
        obtain ⟨u, hu⟩ := get_of rfl (show j < ts.length by omega)
        obtain ⟨kb', ko', ha', hb', ho'⟩ := place j y hy
        rw [ha] at ha'; cases ha'
        have := (each j y x u hy hx hu).cat
        rw [hb', ho'] at this
        exact this
    · obtain ⟨y, hy⟩ := get_of xl (lt_of_get hu)
      exact ih j y x u hy hx hu
theorem IsL.up {w w' : World} {x : L} {c : C} {t : T} (h : IsL w x c t) (hb : Below w.heap.size w w') : IsL w' x c t := by
  induction h with
  | mk b o c ts xs cs cat fine cn xl cl place each ih => exact .mk b o c ts xs cs (cat.up hb) fine cn xl cl place ih

theorem pick_lt {α : Type} [Inhabited α] {n : Nat} {Q : Nat → α → Prop} (h : ∀ i, i < n → ∃ x, Q i x) : ∃ l : List α, l.length = n ∧ ∀ (j : Nat) (x : α), l[j]? = some x → Q j x := by
  induction n with
  | zero => exact ⟨[], rfl, fun j x hx => by simp at hx⟩
  | succ n ih =>
    obtain ⟨l, hl, hq⟩ := ih fun i hi => h i (by omega)
    obtain ⟨x, hx⟩ := h n (by omega)
    refine ⟨l ++ [x], by simp [hl], fun j y hy => ?_⟩
    rcases Nat.lt_trichotomy j l.length with hj | hj | hj
    · rw [List.getElem?_append_left hj] at hy; exact hq j y hy
    · subst hj; simp at hy; subst hy; rw [hl]; exact hx
    · rw [List.getElem?_eq_none (by simp; omega)] at hy; cases hy
theorem Is.stands {w : World} {c : C} {t : T} (h : Is w c t) : ∀ (b o : Nat), CAt w b o c → ∃ x, IsL w x c t ∧ x.b = b ∧ x.o = o := by
  induction h with
  | mk c ts cs row len fine each ih =>
    intro b o hc
    have hn : c.n = cs.length := row.len
    rcases Nat.eq_zero_or_pos cs.length with h0 | hp
    · have hts : ts = [] := List.length_eq_zero_iff.1 (by omega)
      have hcs : cs = [] := List.length_eq_zero_iff.1 h0
      subst hts; subst hcs
      exact ⟨.node b o [], .mk b o c [] [] [] hc fine (by simpa using hn) rfl rfl (fun j y hy => by simp at hy) (fun j y x u hy => by simp at hy), rfl, rfl⟩
    · obtain ⟨kb, ko, ha, hf⟩ := row.place hp
      obtain ⟨xs, hxl, hxs⟩ := pick_lt (n := ts.length) (Q := fun j y => ∀ (x : C) (u : T), cs[j]? = some x → ts[j]? = some u → IsL w y x u ∧ y.b = kb ∧ y.o = ko + j * 7) fun j hj => by
        obtain ⟨x, hx⟩ := get_of len hj
        obtain ⟨u, hu⟩ := get_of rfl hj
        obtain ⟨y, h1, h2, h3⟩ := ih j x u hx hu kb (ko + j * 7) (hf j x hx)
        exact ⟨y, fun x' u' hx' hu' => by rw [hx] at hx'; rw [hu] at hu'; cases hx'; cases hu'; exact ⟨h1, h2, h3⟩⟩
      refine ⟨.node b o xs, .mk b o c ts xs cs hc fine (by rw [hn, len]) hxl len (fun j y hy => ?_) (fun j y x u hy hx hu => (hxs j y hy x u hx hu).1), rfl, rfl⟩
      have hj : j < ts.length := by rw [← hxl]; exact lt_of_get hy
      obtain ⟨x, hx⟩ := get_of len hj
      obtain ⟨u, hu⟩ := get_of rfl hj
      exact ⟨kb, ko, ha, (hxs j y hy x u hx hu).2⟩

/-- What of a cell is a pane's. -/
abbrev FiveP (W : World) (b o : Nat) (p : Pn) : Prop := W.cell? ⟨b, o + 1, none⟩ = some (.int .i64 p.r.x) ∧ W.cell? ⟨b, o + 2, none⟩ = some (.int .i64 p.r.y) ∧ W.cell? ⟨b, o + 3, none⟩ = some (.int .i64 p.r.w) ∧ W.cell? ⟨b, o + 4, none⟩ = some (.int .i64 p.r.h) ∧ W.cell? ⟨b, o + 5, none⟩ = some (.int .i64 p.id)
theorem FiveP.upB {base : Nat} {w w' : World} {b o : Nat} {p : Pn} (h : FiveP w b o p) (hb : Below base w w') (hl : b < base) : FiveP w' b o p := by
  obtain ⟨h1, h2, h3, h4, h5⟩ := h
  exact ⟨(hb.cell hl).trans h1, (hb.cell hl).trans h2, (hb.cell hl).trans h3, (hb.cell hl).trans h4, (hb.cell hl).trans h5⟩
theorem FiveP.lt {w : World} {b o : Nat} {p : Pn} (h : FiveP w b o p) : b < w.heap.size := lt_of_cell h.1
def Fives (w : World) (ads : List (Nat × Nat)) (ps : List Pn) : Prop := ads.length = ps.length ∧ ∀ (j : Nat) (a : Nat × Nat) (p : Pn), ads[j]? = some a → ps[j]? = some p → FiveP w a.1 a.2 p
theorem Fives.nil (w : World) : Fives w [] [] := ⟨rfl, fun j a p ha => by simp at ha⟩
theorem Fives.one {w : World} {a : Nat × Nat} {p : Pn} (h : FiveP w a.1 a.2 p) : Fives w [a] [p] := ⟨rfl, fun j a' p' ha hp => by
  cases j with
  | zero => simp at ha hp; subst ha; subst hp; exact h
  | succ j => simp at ha⟩
theorem Fives.append {w : World} {ads bs : List (Nat × Nat)} {ps qs : List Pn} (h : Fives w ads ps) (g : Fives w bs qs) : Fives w (ads ++ bs) (ps ++ qs) := by
  refine ⟨by simp [h.1, g.1], fun j a p ha hp => ?_⟩
  rcases Nat.lt_or_ge j ads.length with hj | hj
  · rw [List.getElem?_append_left hj] at ha
    rw [List.getElem?_append_left (by rw [← h.1]; exact hj)] at hp
    exact h.2 j a p ha hp
  · rw [List.getElem?_append_right hj] at ha
    rw [List.getElem?_append_right (by rw [← h.1]; exact hj), ← h.1] at hp
    exact g.2 _ a p ha hp
def panesL (l : List T) : List Pn := ((preL l).filter leafB).map paneT
theorem panesT_eq (t : T) : panesT t = (if t.k = 1 then [paneT t] else []) ++ panesL t.kids := by
  unfold panesT panesL
  rw [preT_eq, List.filter_cons]
  by_cases h : t.k = 1
  · rw [if_pos h, if_pos (by simpa [leafB] using h)]; rfl
  · rw [if_neg h, if_neg (by simpa [leafB] using h)]; rfl
theorem panesL_cons (t : T) (l : List T) : panesL (t :: l) = panesT t ++ panesL l := by
  unfold panesT panesL
  rw [preL, List.filter_append, List.map_append]
theorem fives_list {w : World} : ∀ (xs : List L) (ts : List T), xs.length = ts.length → (∀ (j : Nat) (y : L) (u : T), xs[j]? = some y → ts[j]? = some u → Fives w (lfT y u) (panesT u)) → Fives w (lfL xs ts) (panesL ts)
  | [], [], _, _ => by rw [lfL_nil]; exact Fives.nil w
  | x :: xs, t :: ts, hl, h => by
    rw [lfL, panesL_cons]
    exact (h 0 x t rfl rfl).append (fives_list xs ts (by simpa using hl) fun j y u hy hu => h (j + 1) y u (by simpa using hy) (by simpa using hu))
  | [], _ :: _, hl, _ => by simp at hl
  | _ :: _, [], hl, _ => by simp at hl
theorem IsL.fives {w : World} {x : L} {c : C} {t : T} (h : IsL w x c t) : Fives w (lfT x t) (panesT t) := by
  induction h with
  | mk b o c ts xs cs cat fine cn xl cl place each ih =>
    rw [lfT_eq, panesT_eq]
    refine Fives.append ?_ (fives_list xs ts xl fun j y u hy hu => ?_)
    · show Fives w (if c.k = 1 then [(b, o)] else []) (if c.k = 1 then [paneT (.node c.k c.r c.id ts)] else [])
      split
      · exact Fives.one (five_of cat)
      · exact Fives.nil w
    · obtain ⟨x, hx⟩ := get_of cl (lt_of_get hu)
      exact ih j y x u hy hx hu
theorem panes_len (t : T) : (panesT t).length ≤ sz t := by
  unfold panesT
  rw [List.length_map, ← preT_len]
  exact List.length_filter_le _ _
end Go.Proofs.Ytakofjbjciljjaa
