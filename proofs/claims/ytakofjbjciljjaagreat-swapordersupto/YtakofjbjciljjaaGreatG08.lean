/- Texts of this seat, 3 in one file. -/
import Derived.Test.YtakofjbjciljjaaGreatG04
import Derived.OneCell
import Derived.Test.YtakofjbjciljjaaGreatG07
/- What is done with all cells of trees; how many there are. -/
namespace Go.Proofs.YtakofjbjciljjaaGreat
open Go.RowKit

/-- What is done with a cell, and what is kept. -/
def Does {σ : Type} (rem : σ → Nat) (w0 : World) (own : σ → Option Obj → Nat → Prop) (I : σ → World → Prop) (F : Nat) (lb : Array Value) (g : σ → T → σ) (t : T) : Prop :=
  ∀ (s : σ) (c : C) (W : World), sz t ≤ rem s → Is w0 c t → I s W → Calls Tryz.prog F (#[cval c] ++ lb) W fun e w' => e = .returned (.tuple #[]) ∧ I (g s t) w' ∧ Fr own s W (g s t) w'

set_option maxRecDepth 100000 in
theorem each1_any {σ : Type} {w0 : World} {own : σ → Option Obj → Nat → Prop} {I : σ → World → Prop} (hM : Mach w0 own I) (G : Nat) (hE : Enters G) (lb : Array Value) (g : σ → T → σ) (t : T) (rem : σ → Nat) (hD : Does rem w0 own I G lb g t)
    (c : C) (W : World) (s : σ) (hsz : sz t ≤ rem s) (hi : Is w0 c t) (hI : I s W) (bx : Nat) (hc : W.cell? ⟨bx, 0, none⟩ = some (.func (.func G) #[] lb)) :
    Calls Tryz.prog 58 #[cval c, .pointer (some ⟨bx, 0, none⟩)] W fun e w' => e = .returned (.bool false) ∧ I (g s t) w' ∧ Fr own s W (g s t) w' := by
  have hent : ∀ (args : Array Value) (w : World), (callFunc G args).run Tryz.prog w = .ok (.enter G args) w := hE
  have HA : Hid (Below W.heap.size W (W.alloc (cbox c))) := (Below.refl _ _).alloc (Nat.le_refl _) _
  have hb : bx < W.heap.size := lt_of_cell hc
  have hne : bx ≠ W.heap.size := by omega
  have HK := Lib.hid (hD s c (W.alloc (cbox c)) hsz hi (hM.up _ _ _ hI HA.out))
  clear hD hi hI
  generalize g s t = rs at HK ⊢
  go_enter Tryz.func58, Tryz.ntmps58
  go_wp2_with fail
  refine HK.out.mono ?_
  rintro e w2 ⟨rfl, hi2, hfr2⟩
  have HI2 := Lib.hid hi2
  have HF2 := Lib.hid hfr2
  clear hi2 hfr2
  go_wp2
  go_ret
  exact ⟨rfl, HI2.out, (Fr.of HA.out).trans HF2.out⟩

theorem enters46 : Enters 58 := enters_of Tryz.func58 (by kernel_rfl) rfl

mutual
def doT {σ : Type} (g : σ → T → σ) (s : σ) : T → σ
  | .node k r i l => doL g (g s (.node k r i l)) l
def doL {σ : Type} (g : σ → T → σ) (s : σ) : List T → σ
  | [] => s
  | t :: l => doL g (doT g s t) l
end
mutual
theorem goT_do {σ : Type} (g : σ → T → σ) (s : σ) : ∀ t, goT (fun s t => (false, g s t)) s t = (false, doT g s t)
  | .node k r i l => by
    have := goL_do g (g s (.node k r i l)) l
    rw [goT, doT]; simpa using this
theorem goL_do {σ : Type} (g : σ → T → σ) (s : σ) : ∀ l, goL (fun s t => (false, g s t)) s l = (false, doL g s l)
  | [] => by rw [goL, doL]
  | t :: l => by
    have h1 := goT_do g s t
    have h2 := goL_do g (doT g s t) l
    rw [goL, doL, h1]; simpa using h2
end

set_option maxRecDepth 100000 in
theorem each_any {σ : Type} {w0 : World} {own : σ → Option Obj → Nat → Prop} {I : σ → World → Prop} (hM : Mach w0 own I) (G : Nat) (hE : Enters G) (lb : Array Value) (g : σ → T → σ) (l : List T) (rem : σ → Nat) (hrem : ∀ s t, rem s ≤ rem (g s t) + 1) (hD : ∀ t, Does rem w0 own I G lb g t)
    (s : σ) (W : World) (v : Value) (hsz : szL l ≤ rem s) (hr : RowIn w0 I v l) (hI : I s W) :
    Calls Tryz.prog 39 #[v, .func (.func G) #[] lb] W fun e w' => e = .returned (.tuple #[]) ∧ I (doL g s l) w' ∧ Fr own s W (doL g s l) w' := by
  have HA : Hid (Below W.heap.size W (W.alloc (.cells #[.func (.func G) #[] lb] 67))) := (Below.refl _ _).alloc (Nat.le_refl _) _
  let I' : σ → World → Prop := fun s W' => I s W' ∧ W'.cell? ⟨W.heap.size, 0, none⟩ = some (.func (.func G) #[] lb) ∧ ¬ own s W'.heap[W.heap.size]? W.heap.size
  have hM' : Mach w0 own I' := ⟨fun s W cs t h ht => hM.new s W cs t h.1 ht, fun s W h => hM.below s W h.1, fun s W1 W2 h hb => ⟨hM.up _ _ _ h.1 hb, (hb.cell (lt_of_cell h.2.1)).trans h.2.1, by rw [hb.block _ (lt_of_cell h.2.1)]; exact h.2.2⟩⟩
  have hJ' : ∀ t, Judge2 rem w0 own I' 58 #[.pointer (some ⟨W.heap.size, 0, none⟩)] (fun s t => (false, g s t)) t := fun t s1 c W1 hs1 hi h1 => by
    refine (each1_any hM G hE lb g t rem (hD t) c W1 s1 hs1 hi h1.1 W.heap.size h1.2.1).mono ?_
    rintro e w' ⟨rfl, h2, h3⟩
    exact ⟨rfl, fun _ => ⟨h2, h3.cell h1.2.1 h1.2.2, h3.keep (lt_of_cell h1.2.1) h1.2.2⟩, h3⟩
  have hdeep : ∀ (N : Nat) (t : T), sz t ≤ N → Deep (Judge2 rem w0 own I' 58 #[.pointer (some ⟨W.heap.size, 0, none⟩)] (fun s t => (false, g s t))) t := by
    intro N
    induction N with
    | zero => intro t h; have := sz_pos t; omega
    | succ N ih =>
      intro t h
      refine .mk t (hJ' t) fun u hu => ih u ?_
      obtain ⟨j, hj, rfl⟩ := List.getElem_of_mem hu
      have := sz_kid (List.getElem?_eq_getElem hj)
      omega
  have hI' : I' s (W.alloc (.cells #[.func (.func G) #[] lb] 67)) := ⟨hM.up _ _ _ hI HA.out, by simp, by rw [heap_alloc_new]; exact hM.new s W _ 67 hI (by decide)⟩
  have H := Lib.hid (noneIn_any hM' 58 enters46 _ (fun s t => (false, g s t)) rem (fun s t => hrem s t) (szL l) l (Nat.le_refl _) (fun t _ => hdeep _ t (Nat.le_refl _)) s _ v hsz (hr.mono fun s W h => h.1) hI')
  obtain ⟨⟨cs, hrow, -⟩, -⟩ := hr
  obtain ⟨a, cap, rfl⟩ := (hrow s W hI).shape
  clear hrow hJ' hI' hM' hdeep hI
  rw [goL_do] at H
  have H2 : Hid (Calls Tryz.prog 57 #[.slice a cs.length cap, .func (.func 58) #[] #[.pointer (some ⟨W.heap.size, 0, none⟩)]] (W.alloc (.cells #[.func (.func G) #[] lb] 67)) fun e w' => e = .returned (.bool true) ∧ I (doL g s l) w' ∧ Fr own s (W.alloc (.cells #[.func (.func G) #[] lb] 67)) (doL g s l) w') :=
    H.out.mono fun e w' ⟨h1, h2, h3⟩ => ⟨h1, (h2 rfl).1, h3⟩
  clear H
  generalize doL g s l = rs at H2 ⊢
  go_enter Tryz.func39, Tryz.ntmps39
  go_wp2_with fail
  refine H2.out.mono ?_
  rintro e w2 ⟨rfl, hi2, hfr2⟩
  have HI2 := Lib.hid hi2
  have HF2 := Lib.hid ((Fr.of HA.out).trans hfr2)
  clear hi2 hfr2
  go_wp2
  go_end0
  exact ⟨rfl, HI2.out, HF2.out⟩
end Go.Proofs.YtakofjbjciljjaaGreat
/- How many cells trees have, together. -/
namespace Go.Proofs.YtakofjbjciljjaaGreat
open Go.RowKit

theorem wrap_more (n : Nat) : wrap64 (wrap64 (n : Int) + 1) = wrap64 ((n + 1 : Nat) : Int) := by unfold wrap64; omega
theorem wrap_small {n : Nat} (h : n ≤ 1099511627776) : wrap64 (n : Int) = n := by unfold wrap64; omega

/-- A box of one cell. -/
abbrev Box1 (w : World) (b : Nat) (v : Value) (t : TypeId) : Prop := w.heap[b]? = some (.cells #[v] t (0, 0))
theorem Box1.up {w w' : World} {b : Nat} {v : Value} {t : TypeId} (h : Box1 w b v t) (hb : Below w.heap.size w w') : Box1 w' b v t := (hb.block b (lt_of_block h)).trans h
theorem Box1.new (w : World) (v : Value) (t : TypeId) : Box1 (w.alloc (.cells #[v] t)) w.heap.size v t := by
  show (w.heap.push _)[w.heap.size]? = _
  simp

def sizeI (w0 : World) (s : Nat) (W : World) : Prop := Below w0.heap.size w0 W ∧ Box1 W w0.heap.size (.int .i64 (wrap64 (s : Int))) 3
theorem sizeM (w0 : World) : Mach w0 (fun (_ : Nat) _ k => k = w0.heap.size) (sizeI w0) :=
  ⟨fun _ W _ _ h _ hk => by have := lt_of_block h.2; have hk' : W.heap.size = w0.heap.size := hk; omega, fun _ _ h => h.1, fun _ _ _ h hb => ⟨h.1.trans (hb.mono h.1.size), h.2.up hb⟩⟩

theorem fr_set {σ : Type} {own : σ → Option Obj → Nat → Prop} {s s1 s2 : σ} {W w1 : World} (h : Fr own s W s1 w1) (b : Nat) (v : Value) (hb : ∀ o, own s o b) (hs : ∀ k, own s2 (w1.setCell ⟨b, 0, none⟩ v).heap[k]? k → own s W.heap[k]? k ∨ W.heap.size ≤ k) : Fr own s W s2 (w1.setCell ⟨b, 0, none⟩ v) :=
  ⟨h.os, h.tape, h.output, by simpa [World.setCell] using h.size, fun k hk hn => (Below.heap_setCell w1 ⟨b, 0, none⟩ v k (fun e => hn (by subst e; exact hb _))).trans (h.block k hk hn), hs⟩

mutual
theorem doT_size (s : Nat) : ∀ t, doT (fun s (_ : T) => s + 1) s t = s + sz t
  | .node k r i l => by rw [doT, doL_size (s + 1) l, sz]; omega
theorem doL_size (s : Nat) : ∀ l, doL (fun s (_ : T) => s + 1) s l = s + szL l
  | [] => by rw [doL, szL]; rfl
  | t :: l => by rw [doL, doT_size s t, doL_size (s + sz t) l, szL]; omega
end

end Go.Proofs.YtakofjbjciljjaaGreat
/- What is done with a tree's leaves, where they stand. -/
namespace Go.Proofs.YtakofjbjciljjaaGreat
open Go.RowKit

/-- Where the cells of a tree stand. -/
inductive L where
  | node (b o : Nat) (kids : List L)
deriving Inhabited

def L.b : L → Nat | .node b _ _ => b
def L.o : L → Nat | .node _ o _ => o
def L.kids : L → List L | .node _ _ l => l

mutual
def lfT : L → T → List (Nat × Nat)
  | .node b o xs, .node k _ _ ts => (if k = 1 then [(b, o)] else []) ++ lfL xs ts
def lfL : List L → List T → List (Nat × Nat)
  | x :: xs, t :: ts => lfT x t ++ lfL xs ts
  | _, _ => []
end
theorem lfT_eq (x : L) (t : T) : lfT x t = (if t.k = 1 then [(x.b, x.o)] else []) ++ lfL x.kids t.kids := by cases x; cases t; rw [lfT]; rfl
theorem lfL_nil (ts : List T) : lfL [] ts = [] := by cases ts <;> simp [lfL]
theorem lfL_step {xs : List L} {ts : List T} {k : Nat} {x : L} {t : T} (hx : xs[k]? = some x) (ht : ts[k]? = some t) : lfL (xs.take (k + 1)) (ts.take (k + 1)) = lfL (xs.take k) (ts.take k) ++ lfT x t := by
  induction xs generalizing ts k with
  | nil => simp at hx
  | cons y ys ih =>
    cases ts with
    | nil => simp at ht
    | cons u us =>
      cases k with
      | zero => simp at hx ht; subst hx; subst ht; simp [lfL]
      | succ k =>
        simp only [List.take_succ_cons, lfL, List.append_assoc]
        rw [ih (by simpa using hx) (by simpa using ht)]
theorem lfL_at {xs : List L} {ts : List T} {k j : Nat} {x : L} {t : T} {a : Nat × Nat} (hx : xs[k]? = some x) (ht : ts[k]? = some t) (ha : (lfT x t)[j]? = some a) : (lfL xs ts)[(lfL (xs.take k) (ts.take k)).length + j]? = some a := by
  induction xs generalizing ts k with
  | nil => simp at hx
  | cons y ys ih =>
    cases ts with
    | nil => simp at ht
    | cons u us =>
      have hj : j < (lfT x t).length := (List.getElem?_eq_some_iff.1 ha).1
      cases k with
      | zero =>
        simp at hx ht; subst hx; subst ht
        simp only [List.take_zero, lfL, List.length_nil, Nat.zero_add]
        rw [List.getElem?_append_left hj]; exact ha
      | succ k =>
        simp only [List.take_succ_cons, lfL, List.length_append]
        rw [List.getElem?_append_right (by omega), show (lfT y u).length + (lfL (ys.take k) (us.take k)).length + j - (lfT y u).length = (lfL (ys.take k) (us.take k)).length + j by omega]
        exact ih (by simpa using hx) (by simpa using ht)
theorem lf_at {x y : L} {t u : T} {n d : Nat} (hd : (if t.k = 1 then [(x.b, x.o)] else []).length = d) {j : Nat} {a : Nat × Nat} (hy : x.kids[n]? = some y) (hu : t.kids[n]? = some u) (ha : (lfT y u)[j]? = some a) : (lfT x t)[d + (lfL (x.kids.take n) (t.kids.take n)).length + j]? = some a := by
  rw [lfT_eq, List.getElem?_append_right (by omega), hd, show d + (lfL (x.kids.take n) (t.kids.take n)).length + j - d = (lfL (x.kids.take n) (t.kids.take n)).length + j by omega]
  exact lfL_at hy hu ha

/-- A tree's kinds and kids, where they stand. -/
inductive Lies (W : World) : L → T → Prop
  | mk (b o : Nat) (k : Int) (r : R) (i : Int) (ts : List T) (xs : List L) (a : Option Addr) (cap : Nat) (h0 : W.cell? ⟨b, o, none⟩ = some (.int .u8 k)) (h6 : W.cell? ⟨b, o + 6, none⟩ = some (.slice a ts.length cap)) (len : xs.length = ts.length) (few : ts.length ≤ 1954687338211)
      (place : ∀ (j : Nat) (y : L), xs[j]? = some y → ∃ kb ko, a = some ⟨kb, ko, none⟩ ∧ y.b = kb ∧ y.o = ko + j * 7)
      (each : ∀ (j : Nat) (y : L) (u : T), xs[j]? = some y → ts[j]? = some u → Lies W y u) : Lies W (.node b o xs) (.node k r i ts)
theorem Lies.split {W : World} {x : L} {t : T} (h : Lies W x t) : W.cell? ⟨x.b, x.o, none⟩ = some (.int .u8 t.k) ∧ ∃ a cap, W.cell? ⟨x.b, x.o + 6, none⟩ = some (.slice a t.kids.length cap) ∧ x.kids.length = t.kids.length ∧ t.kids.length ≤ 1954687338211 ∧
    (∀ (j : Nat) (y : L), x.kids[j]? = some y → ∃ kb ko, a = some ⟨kb, ko, none⟩ ∧ y.b = kb ∧ y.o = ko + j * 7) ∧ ∀ (j : Nat) (y : L) (u : T), x.kids[j]? = some y → t.kids[j]? = some u → Lies W y u := by
  cases h with
  | mk b o k r i ts xs a cap h0 h6 len few place each => exact ⟨h0, a, cap, h6, len, few, place, each⟩

set_option maxRecDepth 100000 in
theorem feach_any (F : Nat) (hE : Enters F) (lb : Array Value) (I : Nat → World → Prop) (N : Nat) : ∀ (x : L) (t : T) (k : Nat) (W : World), sz t ≤ N → (∀ j W, I j W → Lies W x t) →
    (∀ (j : Nat) (a : Nat × Nat) (W : World), (lfT x t)[j]? = some a → I (k + j) W → Calls Tryz.prog F (#[.pointer (some ⟨a.1, a.2, none⟩)] ++ lb) W fun e w' => e = .returned (.tuple #[]) ∧ I (k + j + 1) w') → I k W →
    Calls Tryz.prog 47 #[.pointer (some ⟨x.b, x.o, none⟩), .func (.func F) #[] lb] W fun e w' => e = .returned (.tuple #[]) ∧ I (k + (lfT x t).length) w' := by
  have hent : ∀ (args : Array Value) (w : World), (callFunc F args).run Tryz.prog w = .ok (.enter F args) w := hE
  induction N with
  | zero => intro x t k W h; have := sz_pos t; omega
  | succ N ih =>
    intro x t k W hs hS hF hI
    obtain ⟨h0, a, cap, h6, hxl, hfew, -⟩ := (hS k W hI).split
    have HS := Lib.hid hS
    have HF := Lib.hid hF
    have HIH := Lib.hid ih
    have HSZ := Lib.hid hs
    have HXL := Lib.hid hxl
    clear hS hF ih hs hxl
    cases hk1 : (t.k == 1) with
    | false =>
      have hk : t.k ≠ 1 := by simpa using hk1
      have HLD : Hid ((if t.k = 1 then [(x.b, x.o)] else []).length = 0) := Lib.hid (by rw [if_neg hk]; rfl)
      have HLR : Hid ((if t.k = 1 then [(x.b, x.o)] else []) = []) := Lib.hid (by rw [if_neg hk])
      have HI1 : Hid (I (k + 0) W) := Lib.hid (by simpa using hI)
      clear hk hI
      go_enter Tryz.func47, Tryz.ntmps47
      go_wp2
      go_loopg [18] (t.kids.length + 1) (fun g i wr => ∃ n : Nat, g + n = t.kids.length + 1 ∧ n ≤ t.kids.length ∧ i = .int .i64 n ∧ I (k + 0 + (lfL (x.kids.take n) (t.kids.take n)).length) wr)
      case atStart => exact ⟨0, by omega, by omega, rfl, by simpa [lfL] using HI1.out⟩
      case round =>
        obtain ⟨n, hg, hn, rfl, hin⟩ := hrel
        have HG := Lib.hid hg
        have HIN := Lib.hid hin
        clear hg hin
        by_cases hlt : n < t.kids.length
        · obtain ⟨-, a2, cap2, g6, -, -, hpl2, hch2⟩ := (HS.out _ _ HIN.out).split
          obtain ⟨u, hu⟩ : ∃ u, t.kids[n]? = some u := ⟨_, List.getElem?_eq_getElem hlt⟩
          obtain ⟨y, hy⟩ : ∃ y, x.kids[n]? = some y := ⟨_, List.getElem?_eq_getElem (by have := HXL.out; omega)⟩
          obtain ⟨kb, ko, rfl, hyb, hyo⟩ := hpl2 n y hy
          have HCH : Hid (∀ j W, I j W → Lies W y u) := Lib.hid (fun j W h => (HS.out j W h).split.2.choose_spec.choose_spec.2.2.2.2 n y u hy hu)
          have HLK := Lib.hid (fun j a => lf_at HLD.out (j := j) (a := a) hy hu)
          have HST := Lib.hid (lfL_step hy hu)
          have HK := Lib.hid (HIH.out y u (k + 0 + (lfL (x.kids.take n) (t.kids.take n)).length) wr (by have := HSZ.out; have := sz_kid hu; omega) HCH.out (fun j a W ha hI => by
            have h := HF.out (0 + (lfL (x.kids.take n) (t.kids.take n)).length + j) a W (HLK.out j a ha) (by rw [show k + (0 + (lfL (x.kids.take n) (t.kids.take n)).length + j) = k + 0 + (lfL (x.kids.take n) (t.kids.take n)).length + j by omega]; exact hI)
            rw [show k + (0 + (lfL (x.kids.take n) (t.kids.take n)).length + j) + 1 = k + 0 + (lfL (x.kids.take n) (t.kids.take n)).length + j + 1 by omega] at h
            exact h) HIN.out)
          rw [hyb, hyo] at HK
          clear hpl2 hch2 hy hu hyb hyo
          go_wp2_with fail
          refine HK.out.mono ?_
          rintro e w2 ⟨rfl, hi2⟩
          have HI2 := Lib.hid hi2
          clear hi2
          go_wp2
          go_roundg (gk - 1)
          case measure => have := HG.out; omega
          case rel =>
            refine ⟨n + 1, by have := HG.out; omega, by omega, by go_num, ?_⟩
            rw [HST.out, List.length_append, ← Nat.add_assoc]
            exact HI2.out
        · obtain rfl : n = t.kids.length := by omega
          have hkl : ((t.kids.length : Int) < (t.kids.length : Int)) = False := by simp
          go_wp2
          go_end0
          refine ⟨rfl, ?_⟩
          have := HIN.out
          rw [List.take_length, List.take_of_length_le (by have := HXL.out; omega)] at this
          rw [lfT_eq, HLR.out]
          rw [List.length_append, ← Nat.add_assoc]
          exact this
    | true =>
      have hk : t.k = 1 := by simpa using hk1
      have HLD : Hid ((if t.k = 1 then [(x.b, x.o)] else []).length = 1) := Lib.hid (by rw [if_pos hk]; rfl)
      have HLR : Hid ((if t.k = 1 then [(x.b, x.o)] else []) = [(x.b, x.o)]) := Lib.hid (by rw [if_pos hk])
      have HC := Lib.hid (HF.out 0 (x.b, x.o) W (by rw [lfT_eq, if_pos hk]; rfl) hI)
      clear hk hI
      go_enter Tryz.func47, Tryz.ntmps47
      go_wp2_with fail
      refine HC.out.mono ?_
      rintro e w1 ⟨rfl, hi1⟩
      have HI1 := Lib.hid hi1
      obtain ⟨-, a1, cap1, f6, -, -, -, -⟩ := (HS.out _ _ hi1).split
      clear hi1 h0 h6
      go_wp2
      go_loopg [18] (t.kids.length + 1) (fun g i wr => ∃ n : Nat, g + n = t.kids.length + 1 ∧ n ≤ t.kids.length ∧ i = .int .i64 n ∧ I (k + 1 + (lfL (x.kids.take n) (t.kids.take n)).length) wr)
      case atStart => exact ⟨0, by omega, by omega, rfl, by simpa [lfL] using HI1.out⟩
      case round =>
        obtain ⟨n, hg, hn, rfl, hin⟩ := hrel
        have HG := Lib.hid hg
        have HIN := Lib.hid hin
        clear hg hin
        by_cases hlt : n < t.kids.length
        · obtain ⟨-, a2, cap2, g6, -, -, hpl2, hch2⟩ := (HS.out _ _ HIN.out).split
          obtain ⟨u, hu⟩ : ∃ u, t.kids[n]? = some u := ⟨_, List.getElem?_eq_getElem hlt⟩
          obtain ⟨y, hy⟩ : ∃ y, x.kids[n]? = some y := ⟨_, List.getElem?_eq_getElem (by have := HXL.out; omega)⟩
          obtain ⟨kb, ko, rfl, hyb, hyo⟩ := hpl2 n y hy
          have HCH : Hid (∀ j W, I j W → Lies W y u) := Lib.hid (fun j W h => (HS.out j W h).split.2.choose_spec.choose_spec.2.2.2.2 n y u hy hu)
          have HLK := Lib.hid (fun j a => lf_at HLD.out (j := j) (a := a) hy hu)
          have HST := Lib.hid (lfL_step hy hu)
          have HK := Lib.hid (HIH.out y u (k + 1 + (lfL (x.kids.take n) (t.kids.take n)).length) wr (by have := HSZ.out; have := sz_kid hu; omega) HCH.out (fun j a W ha hI => by
            have h := HF.out (1 + (lfL (x.kids.take n) (t.kids.take n)).length + j) a W (HLK.out j a ha) (by rw [show k + (1 + (lfL (x.kids.take n) (t.kids.take n)).length + j) = k + 1 + (lfL (x.kids.take n) (t.kids.take n)).length + j by omega]; exact hI)
            rw [show k + (1 + (lfL (x.kids.take n) (t.kids.take n)).length + j) + 1 = k + 1 + (lfL (x.kids.take n) (t.kids.take n)).length + j + 1 by omega] at h
            exact h) HIN.out)
          rw [hyb, hyo] at HK
          clear hpl2 hch2 hy hu hyb hyo
          go_wp2_with fail
          refine HK.out.mono ?_
          rintro e w2 ⟨rfl, hi2⟩
          have HI2 := Lib.hid hi2
          clear hi2
          go_wp2
          go_roundg (gk - 1)
          case measure => have := HG.out; omega
          case rel =>
            refine ⟨n + 1, by have := HG.out; omega, by omega, by go_num, ?_⟩
            rw [HST.out, List.length_append, ← Nat.add_assoc]
            exact HI2.out
        · obtain rfl : n = t.kids.length := by omega
          have hkl : ((t.kids.length : Int) < (t.kids.length : Int)) = False := by simp
          go_wp2
          go_end0
          refine ⟨rfl, ?_⟩
          have := HIN.out
          rw [List.take_length, List.take_of_length_le (by have := HXL.out; omega)] at this
          rw [lfT_eq, HLR.out]
          rw [List.length_append, ← Nat.add_assoc]
          exact this
end Go.Proofs.YtakofjbjciljjaaGreat
