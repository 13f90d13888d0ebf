/- Texts of this seat, 3 in one file. -/
import Derived.Test.YtbelpnfgdjnpoaaGreatDoorG11
import Derived.Test.YtbelpnfgdjnpoaaGreatDoorG03
/- The same of all cells of trees, each one ahead of its kids. -/
namespace Go.Proofs.YtbelpnfgdjnpoaaGreatDoor
open Go.RowKit

theorem cbox_new (w : World) (c : C) : CAt (w.alloc (cbox c)) w.heap.size 0 c := by
  refine ⟨?_, ?_, ?_, ?_, ?_, ?_, ?_⟩ <;> simp
theorem CAt.fr {σ : Type} {own : σ → Option Obj → Nat → Prop} {s s1 : σ} {W w1 : World} {b o : Nat} {c : C} (h : CAt W b o c) (hf : Fr own s W s1 w1) (hn : ¬ own s W.heap[b]? b) : CAt w1 b o c := by
  obtain ⟨h1, h2, h3, h4, h5, h6, h7⟩ := h
  exact ⟨hf.cell h1 hn, hf.cell h2 hn, hf.cell h3 hn, hf.cell h4 hn, hf.cell h5 hn, hf.cell h6 hn, hf.cell h7 hn⟩

/-- What noneIn says of trees. -/
def InSays {σ : Type} (rem : σ → Nat) (w0 : World) (own : σ → Option Obj → Nat → Prop) (I : σ → World → Prop) (G : Nat) (lb : Array Value) (f : σ → T → Bool × σ) (l : List T) : Prop :=
  ∀ (s : σ) (W : World) (v : Value), szL l ≤ rem s → RowIn w0 I v l → I s W → Calls Tryz.prog 101 #[v, .func (.func G) #[] lb] W fun e w' => e = .returned (.bool (!(goL f s l).1)) ∧ ((goL f s l).1 = false → I (goL f s l).2 w') ∧ Fr own s W (goL f s l).2 w'

set_option maxRecDepth 100000 in
theorem inner_any {σ : Type} {w0 : World} {own : σ → Option Obj → Nat → Prop} {I : σ → World → Prop} (hM : Mach w0 own I) (G : Nat) (hE : Enters G) (lb : Array Value) (f : σ → T → Bool × σ) (t : T)
    (rem : σ → Nat) (hrem : ∀ s t, rem s ≤ rem (f s t).2 + 1) (hJ : Judge2 rem w0 own I G lb f t) (hrec : InSays rem w0 own I G lb f t.kids) (c : C) (W : World) (s : σ) (hsz : sz t ≤ rem s) (hi : Is w0 c t) (hI : I s W) (bx : Nat) (hc : W.cell? ⟨bx, 0, none⟩ = some (.func (.func G) #[] lb)) (hbx : ¬ own s W.heap[bx]? bx) :
    Calls Tryz.prog 126 #[cval c, .pointer (some ⟨bx, 0, none⟩)] W fun e w' => e = .returned (.bool (goT f s t).1) ∧ ((goT f s t).1 = false → I (goT f s t).2 w') ∧ Fr own s W (goT f s t).2 w' := by
  have hent : ∀ (args : Array Value) (w : World), (callFunc G args).run Tryz.prog w = .ok (.enter G args) w := hE
  have HA : Hid (Below W.heap.size W (W.alloc (cbox c))) := (Below.refl _ _).alloc (Nat.le_refl _) _
  have hb : bx < W.heap.size := lt_of_cell hc
  have hne : bx ≠ W.heap.size := by omega
  have HK := Lib.hid (hJ s c (W.alloc (cbox c)) hsz hi (hM.up _ _ _ hI HA.out))
  have HN : Hid (¬ own s (W.alloc (cbox c)).heap[W.heap.size]? W.heap.size) := Lib.hid (by rw [heap_alloc_new]; exact hM.new s W _ 27 hI (by decide))
  have HIS := Lib.hid (RowIn.of hM hi.row hi.len)
  have HC := Lib.hid (Lib.cell?_alloc_some (cbox c) hc)
  have HX : Hid (¬ own s (W.alloc (cbox c)).heap[bx]? bx) := Lib.hid (by rw [HA.out.block bx hb]; exact hbx)
  have HREC := Lib.hid hrec
  clear hJ hi hI hbx hrec
  rw [goT_eq]
  have HSZ : Hid (szL t.kids ≤ rem (f s t).2) := Lib.hid (by have := hrem s t; have := sz_node t; omega)
  clear hsz hrem
  generalize f s t = res at HK HSZ ⊢
  obtain ⟨rb, rs⟩ := res
  cases rb
  · have HR := Lib.hid (fun W => HREC.out rs W _ HSZ.out HIS.out)
    simp only [Bool.false_eq_true, if_false]
    generalize goL f rs t.kids = res2 at HR ⊢
    obtain ⟨rb2, rs2⟩ := res2
    go_enter Tryz.func126, Tryz.ntmps126
    go_wp2_with fail
    refine HK.out.mono ?_
    rintro e w2 ⟨rfl, hi2, hfr2⟩
    have HI2 := Lib.hid (hi2 (by trivial))
    have HF2 := Lib.hid hfr2
    clear hi2 hfr2
    obtain ⟨-, -, -, -, -, -, q6⟩ := (cbox_new W c).fr HF2.out HN.out
    have q0 := HF2.out.cell HC.out HX.out
    have HR2 := Lib.hid (HR.out w2 HI2.out)
    go_wp2_with fail
    refine HR2.out.mono ?_
    rintro e w3 ⟨rfl, hi3, hfr3⟩
    have HI3 := Lib.hid hi3
    have HF3 := Lib.hid hfr3
    clear hi3 hfr3
    go_wp2
    go_ret
    exact ⟨by simp, HI3.out, ((Fr.of HA.out).trans HF2.out).trans HF3.out⟩
  · go_enter Tryz.func126, Tryz.ntmps126
    go_wp2_with fail
    refine HK.out.mono ?_
    rintro e w2 ⟨rfl, hi2, hfr2⟩
    have HF2 := Lib.hid hfr2
    clear hi2 hfr2
    go_wp2
    go_ret
    first
    | exact ⟨rfl, (fun h => by cases h), (Fr.of HA.out).trans HF2.out⟩
    | exact ⟨rfl, (Fr.of HA.out).trans HF2.out⟩

mutual
theorem rem_goT {σ : Type} (f : σ → T → Bool × σ) (rem : σ → Nat) (hrem : ∀ s t, rem s ≤ rem (f s t).2 + 1) (s : σ) : ∀ t, rem s ≤ rem (goT f s t).2 + sz t
  | .node k r i l => by
    have h1 := hrem s (.node k r i l)
    have h2 := rem_goL f rem hrem (f s (.node k r i l)).2 l
    rw [goT, sz]
    split <;> omega
theorem rem_goL {σ : Type} (f : σ → T → Bool × σ) (rem : σ → Nat) (hrem : ∀ s t, rem s ≤ rem (f s t).2 + 1) (s : σ) : ∀ l, rem s ≤ rem (goL f s l).2 + szL l
  | [] => by rw [goL]; exact Nat.le_add_right _ _
  | t :: l => by
    have h1 := rem_goT f rem hrem s t
    have h2 := rem_goL f rem hrem (goT f s t).2 l
    rw [goL, szL]
    split <;> omega
end

theorem enters49 : Enters 126 := enters_of Tryz.func126 (by kernel_rfl) rfl

/-- Each of some trees, and of their kids, and so on. -/
inductive Deep (P : T → Prop) : T → Prop
  | mk (t : T) (h : P t) (hk : ∀ u ∈ t.kids, Deep P u) : Deep P t
theorem Deep.here {P : T → Prop} {t : T} (h : Deep P t) : P t := by cases h; assumption
theorem Deep.kid {P : T → Prop} {t : T} (h : Deep P t) : ∀ u ∈ t.kids, Deep P u := by cases h; assumption

set_option maxRecDepth 100000 in
theorem noneIn_step {σ : Type} {w0 : World} {own : σ → Option Obj → Nat → Prop} {I : σ → World → Prop} (hM : Mach w0 own I) (G : Nat) (hE : Enters G) (lb : Array Value) (f : σ → T → Bool × σ) (rem : σ → Nat) (hrem : ∀ s t, rem s ≤ rem (f s t).2 + 1) (l : List T) (hJ : ∀ t ∈ l, Judge2 rem w0 own I G lb f t) (hrec : ∀ t ∈ l, InSays rem w0 own I G lb f t.kids) : InSays rem w0 own I G lb f l := by
  intro s W v hsz hr hI
  have HA : Hid (Below W.heap.size W (W.alloc (.cells #[.func (.func G) #[] lb] 42))) := (Below.refl _ _).alloc (Nat.le_refl _) _
  let I' : σ → World → Prop := fun s W' => I s W' ∧ W'.cell? ⟨W.heap.size, 0, none⟩ = some (.func (.func G) #[] lb) ∧ ¬ own s W'.heap[W.heap.size]? W.heap.size
  have hM' : Mach w0 own I' := ⟨fun s W cs t h ht => hM.new s W cs t h.1 ht, fun s W h => hM.below s W h.1, fun s W1 W2 h hb => ⟨hM.up _ _ _ h.1 hb, (hb.cell (lt_of_cell h.2.1)).trans h.2.1, by rw [hb.block _ (lt_of_cell h.2.1)]; exact h.2.2⟩⟩
  have hJ' : ∀ t ∈ l, Judge2 rem w0 own I' 126 #[.pointer (some ⟨W.heap.size, 0, none⟩)] (goT f) t := fun t ht s1 c W1 hs1 hi h1 => by
    refine (inner_any hM G hE lb f t rem hrem (hJ t ht) (hrec t ht) c W1 s1 hs1 hi h1.1 W.heap.size h1.2.1 h1.2.2).mono ?_
    rintro e w' ⟨rfl, h2, h3⟩
    exact ⟨rfl, fun hf => ⟨h2 hf, h3.cell h1.2.1 h1.2.2, h3.keep (lt_of_cell h1.2.1) h1.2.2⟩, h3⟩
  have hI' : I' s (W.alloc (.cells #[.func (.func G) #[] lb] 42)) := ⟨hM.up _ _ _ hI HA.out, by simp, by rw [heap_alloc_new]; exact hM.new s W _ 42 hI (by decide)⟩
  have H := Lib.hid (none_any hM' 126 enters49 _ (goT f) l rem hJ' v (hr.mono fun s W h => h.1) s _ hI' (fun k s1 t ht hfd => by
    have h1 := rem_goL f rem hrem s (l.take k)
    rw [goL_fold, hfd] at h1
    have h2 := szL_take_succ ht
    have h3 := szL_take_le l (k + 1)
    simp only at h1
    omega))
  obtain ⟨⟨cs, hrow, -⟩, -⟩ := hr
  obtain ⟨a, cap, rfl⟩ := (hrow s W hI).shape
  clear hrow hJ' hI' hM' hJ hrec hI
  rw [← goL_fold] at H
  have H2 : Hid (Calls Tryz.prog 115 #[.slice a cs.length cap, .func (.func 126) #[] #[.pointer (some ⟨W.heap.size, 0, none⟩)]] (W.alloc (.cells #[.func (.func G) #[] lb] 42)) fun e w' => e = .returned (.bool (!(goL f s l).1)) ∧ ((goL f s l).1 = false → I (goL f s l).2 w') ∧ Fr own s (W.alloc (.cells #[.func (.func G) #[] lb] 42)) (goL f s l).2 w') :=
    H.out.mono fun e w' ⟨h1, h2, h3⟩ => ⟨h1, fun hf => (h2 hf).1, h3⟩
  clear H
  generalize goL f s l = res at H2 ⊢
  obtain ⟨rb, rs⟩ := res
  go_enter Tryz.func101, Tryz.ntmps101
  go_wp2_with fail
  refine H2.out.mono ?_
  rintro e w2 ⟨rfl, hi2, hfr2⟩
  have HI2 := Lib.hid hi2
  have HF2 := Lib.hid ((Fr.of HA.out).trans hfr2)
  clear hi2 hfr2
  go_wp2
  go_ret
  exact ⟨rfl, HI2.out, HF2.out⟩

theorem noneIn_any {σ : Type} {w0 : World} {own : σ → Option Obj → Nat → Prop} {I : σ → World → Prop} (hM : Mach w0 own I) (G : Nat) (hE : Enters G) (lb : Array Value) (f : σ → T → Bool × σ) (rem : σ → Nat) (hrem : ∀ s t, rem s ≤ rem (f s t).2 + 1) (N : Nat) :
    ∀ (l : List T), szL l ≤ N → (∀ t ∈ l, Deep (Judge2 rem w0 own I G lb f) t) → InSays rem w0 own I G lb f l := by
  induction N with
  | zero =>
    intro l hs hJ s W v hsz hr hI
    have hl : l = [] := by
      cases l with
      | nil => rfl
      | cons t l => have := sz_pos t; simp only [szL] at hs; omega
    subst hl
    exact noneIn_step hM G hE lb f rem hrem [] (fun t ht => by cases ht) (fun t ht => by cases ht) s W v hsz hr hI
  | succ N ih =>
    intro l hs hJ
    refine fun s W v hsz hr hI => noneIn_step hM G hE lb f rem hrem l (fun t ht => (hJ t ht).here) (fun t ht => ?_) s W v hsz hr hI
    obtain ⟨j, hj, rfl⟩ := List.getElem_of_mem ht
    refine ih _ ?_ (hJ _ ht).kid
    have h1 := szL_mem (List.getElem?_eq_getElem hj)
    have h2 := sz_node l[j]
    omega
end Go.Proofs.YtbelpnfgdjnpoaaGreatDoor
/- The cells of a tree, each ahead of its kids, asked by a closure up to the first that is so: which one it is. -/
namespace Go.Proofs.YtbelpnfgdjnpoaaGreatDoor
open Go.RowKit

mutual
def firstT {σ : Type} (f : σ → T → Bool × σ) (s : σ) : T → (Nat × Bool) × σ
  | .node k r i l => if (f s (.node k r i l)).1 = true then ((0, true), (f s (.node k r i l)).2) else firstL f (f s (.node k r i l)).2 1 l
def firstL {σ : Type} (f : σ → T → Bool × σ) (s : σ) (n : Nat) : List T → (Nat × Bool) × σ
  | [] => ((n, false), s)
  | t :: l => if (firstT f s t).1.2 = true then ((n + (firstT f s t).1.1, true), (firstT f s t).2) else firstL f (firstT f s t).2 (n + (firstT f s t).1.1) l
end
theorem firstT_eq {σ : Type} (f : σ → T → Bool × σ) (s : σ) (t : T) : firstT f s t = if (f s t).1 = true then ((0, true), (f s t).2) else firstL f (f s t).2 1 t.kids := by
  cases t; rw [firstT]; rfl
theorem firstL_append {σ : Type} (f : σ → T → Bool × σ) (a b : List T) : ∀ (s : σ) (n : Nat), firstL f s n (a ++ b) = if (firstL f s n a).1.2 = true then firstL f s n a else firstL f (firstL f s n a).2 (firstL f s n a).1.1 b := by
  induction a with
  | nil => intro s n; simp [firstL]
  | cons t a ih =>
    intro s n
    rw [List.cons_append, firstL, firstL]
    by_cases h : (firstT f s t).1.2 = true
    · rw [if_pos h, if_pos h]; simp
    · rw [if_neg h, if_neg h]; exact ih _ _
theorem firstL_one {σ : Type} (f : σ → T → Bool × σ) (s : σ) (n : Nat) (t : T) : firstL f s n [t] = ((n + (firstT f s t).1.1, (firstT f s t).1.2), (firstT f s t).2) := by
  rw [firstL]
  by_cases h : (firstT f s t).1.2 = true
  · rw [if_pos h, h]
  · rw [if_neg h, firstL]
    have : (firstT f s t).1.2 = false := by simpa using h
    rw [this]
theorem firstL_step {σ : Type} (f : σ → T → Bool × σ) {l : List T} {k : Nat} {u : T} {s s1 : σ} {n m : Nat} (hu : l[k]? = some u) (h : firstL f s n (l.take k) = ((m, false), s1)) : firstL f s n (l.take (k + 1)) = ((m + (firstT f s1 u).1.1, (firstT f s1 u).1.2), (firstT f s1 u).2) := by
  rw [List.take_add_one, hu, Option.toList_some, firstL_append, h]
  simp only [Bool.false_eq_true, if_false]
  exact firstL_one f s1 m u
theorem firstL_stop {σ : Type} (f : σ → T → Bool × σ) {l : List T} {k : Nat} {s : σ} {n : Nat} (h : (firstL f s n (l.take k)).1.2 = true) : firstL f s n l = firstL f s n (l.take k) := by
  conv => lhs; rw [← List.take_append_drop k l]
  rw [firstL_append, if_pos h]
mutual
theorem firstT_le {σ : Type} (f : σ → T → Bool × σ) (s : σ) : ∀ t, (firstT f s t).1.1 ≤ sz t
  | .node k r i l => by
    have h := firstL_le f (f s (.node k r i l)).2 1 l
    rw [firstT, sz]
    split
    · exact Nat.zero_le _
    · exact h
theorem firstL_le {σ : Type} (f : σ → T → Bool × σ) (s : σ) (n : Nat) : ∀ l, (firstL f s n l).1.1 ≤ n + szL l
  | [] => by rw [firstL]; simp [szL]
  | t :: l => by
    have h1 := firstT_le f s t
    have h2 := firstL_le f (firstT f s t).2 (n + (firstT f s t).1.1) l
    rw [firstL, szL]
    split
    · simp only; omega
    · omega
end
mutual
theorem rem_firstT {σ : Type} (f : σ → T → Bool × σ) (rem : σ → Nat) (hrem : ∀ s t, rem s ≤ rem (f s t).2 + 1) (s : σ) : ∀ t, rem s ≤ rem (firstT f s t).2 + sz t
  | .node k r i l => by
    have h1 := hrem s (.node k r i l)
    have h2 := rem_firstL f rem hrem (f s (.node k r i l)).2 1 l
    rw [firstT, sz]
    split
    · simp only; omega
    · omega
theorem rem_firstL {σ : Type} (f : σ → T → Bool × σ) (rem : σ → Nat) (hrem : ∀ s t, rem s ≤ rem (f s t).2 + 1) (s : σ) (n : Nat) : ∀ l, rem s ≤ rem (firstL f s n l).2 + szL l
  | [] => by rw [firstL]; exact Nat.le_add_right _ _
  | t :: l => by
    have h1 := rem_firstT f rem hrem s t
    have h2 := rem_firstL f rem hrem (firstT f s t).2 (n + (firstT f s t).1.1) l
    rw [firstL, szL]
    split
    · simp only; omega
    · omega
end

/-- What a closure says of a cell, and what it keeps then. -/
def JudgeF {σ : Type} (rem : σ → Nat) (w0 : World) (own : σ → Option Obj → Nat → Prop) (I : σ → World → Prop) (F : Nat) (lb : Array Value) (f : σ → T → Bool × σ) (t : T) : Prop :=
  ∀ (s : σ) (c : C) (W : World), sz t ≤ rem s → Is w0 c t → I s W → Calls Tryz.prog F (#[cval c] ++ lb) W fun e w' => e = .returned (.bool (f s t).1) ∧ I (f s t).2 w' ∧ Fr own s W (f s t).2 w'
structure MachF {σ : Type} (w0 : World) (own : σ → Option Obj → Nat → Prop) (I : σ → World → Prop) : Prop where
  new : ∀ s W cs, I s W → ¬ own s (some (.cells cs 27 (0, 0))) W.heap.size
  below : ∀ s W, I s W → Below w0.heap.size w0 W
  up : ∀ s W W', I s W → Below W.heap.size W W' → I s W'

set_option maxRecDepth 100000 in
set_option maxHeartbeats 1600000 in
theorem first_any {σ : Type} {w0 : World} {own : σ → Option Obj → Nat → Prop} {I : σ → World → Prop} (hM : MachF w0 own I) (F : Nat) (hE : Enters F) (lb : Array Value) (f : σ → T → Bool × σ) (rem : σ → Nat) (hrem : ∀ s t, rem s ≤ rem (f s t).2 + 1) (hJ : ∀ t, JudgeF rem w0 own I F lb f t) (N : Nat) :
    ∀ (t : T) (c : C) (s : σ) (W : World), sz t ≤ N → sz t ≤ 1000000 → sz t ≤ rem s → Is w0 c t → I s W →
      Calls Tryz.prog 86 #[cval c, .func (.func F) #[] lb] W fun e w' => e = .returned (.tuple #[.int .i64 ((firstT f s t).1.1 : Nat), .bool (firstT f s t).1.2]) ∧ I (firstT f s t).2 w' ∧ Fr own s W (firstT f s t).2 w' := by
  have hent : ∀ (args : Array Value) (w : World), (callFunc F args).run Tryz.prog w = .ok (.enter F args) w := hE
  have HM := Lib.hid hM
  have HJ := Lib.hid hJ
  have HREM := Lib.hid hrem
  clear hM hJ hrem hE
  induction N with
  | zero => intro t c s W h; have := sz_pos t; omega
  | succ N ih =>
    intro t c s W hN hmil hsz hi hI
    have HIH := Lib.hid ih
    clear ih
    have HA : Hid (Below W.heap.size W (W.alloc (cbox c))) := (Below.refl _ _).alloc (Nat.le_refl _) _
    have HK := Lib.hid (HJ.out t s c (W.alloc (cbox c)) hsz hi (HM.out.up _ _ _ hI HA.out))
    have HNW : Hid (¬ own s (W.alloc (cbox c)).heap[W.heap.size]? W.heap.size) := Lib.hid (by rw [heap_alloc_new]; exact HM.out.new s W _ hI)
    have HROW := Lib.hid hi.row
    have hcn := hi.n
    have HLEN := Lib.hid hi.len
    have HSZ : Hid (szL t.kids ≤ rem (f s t).2) := Lib.hid (by have := HREM.out s t; have := sz_node t; omega)
    have HND := Lib.hid (sz_node t)
    have HMIL := Lib.hid hmil
    have HNN := Lib.hid hN
    clear hi hI hsz hN hmil
    rw [firstT_eq]
    generalize f s t = res at HK HSZ ⊢
    obtain ⟨rb, rs⟩ := res
    obtain ⟨ck, cr, cid, ca, cn, ccap⟩ := c
    simp only at hcn
    subst hcn
    cases rb
    · simp only [Bool.false_eq_true, if_false]
      go_enter Tryz.func86, Tryz.ntmps86
      go_wp2_with fail
      refine HK.out.mono ?_
      rintro e w2 ⟨rfl, hi2, hfr2⟩
      have HI2 := Lib.hid hi2
      have HF2 := Lib.hid ((Fr.of HA.out).trans hfr2)
      obtain ⟨-, -, -, -, -, -, q6⟩ := (cbox_new W _).fr hfr2 HNW.out
      clear hi2 hfr2
      go_wp2
      go_loopg [6, 17] (t.kids.length + 1) (fun g n i wr => ∃ (k m : Nat) (s1 : σ), g + k = t.kids.length + 1 ∧ k ≤ t.kids.length ∧ n = .int .i64 m ∧ i = .int .i64 k ∧ firstL f rs 1 (t.kids.take k) = ((m, false), s1) ∧ I s1 wr ∧ Fr own s W s1 wr)
      case atStart => exact ⟨0, 1, rs, by omega, by omega, rfl, rfl, by simp [firstL], HI2.out, HF2.out⟩
      case round =>
        obtain ⟨k, m, s1, hg, hk, rfl, rfl, hfd, hi1, hfr⟩ := hrel
        have HG := Lib.hid hg
        have HFD := Lib.hid hfd
        have HI1 := Lib.hid hi1
        have HFR := Lib.hid hfr
        clear hg hfd hi1 hfr
        have hln := HLEN.out
        by_cases hlt : k < t.kids.length
        · obtain ⟨b, o, hca, hf⟩ := HROW.out.place (by omega)
          subst hca
          obtain ⟨u, hu⟩ : ∃ u, t.kids[k]? = some u := ⟨_, List.getElem?_eq_getElem hlt⟩
          obtain ⟨x, hx, hxi⟩ := hf k u hu
          obtain ⟨c0, c1, c2, c3, c4, c5, c6⟩ := hx.up (HM.out.below _ _ HI1.out)
          clear hf hx
          have HB : Hid (Below wr.heap.size wr (wr.alloc (cbox x))) := (Below.refl _ _).alloc (Nat.le_refl _) _
          have hszu : sz u ≤ rem s1 := by
            have h1 := rem_firstL f rem HREM.out rs 1 (t.kids.take k)
            rw [HFD.out] at h1
            have h2 := szL_take_succ hu
            have h3 := szL_take_le t.kids (k + 1)
            have := HSZ.out
            simp only at h1 this
            omega
          have hszk := sz_kid hu
          have HKR := Lib.hid (HIH.out u x s1 (wr.alloc (cbox x)) (by have := HNN.out; omega) (by have := HMIL.out; omega) hszu hxi (HM.out.up _ _ _ HI1.out HB.out))
          have HST := Lib.hid (firstL_step f hu HFD.out)
          have hle : m + (firstT f s1 u).1.1 ≤ 1000000 := by
            have h1 := firstL_le f rs 1 (t.kids.take (k + 1))
            rw [HST.out] at h1
            have h3 := szL_take_le t.kids (k + 1)
            have := HND.out
            have := HMIL.out
            simp only at h1
            omega
          clear hu hxi hszu hszk
          generalize firstT f s1 u = res2 at HKR HST hle
          obtain ⟨⟨n2, b2⟩, s2⟩ := res2
          simp only at hle
          go_wp2_with fail
          refine HKR.out.mono ?_
          rintro e w3 ⟨rfl, hi3, hfr3⟩
          have HI3 := Lib.hid hi3
          have HF3 := Lib.hid ((HFR.out.trans (Fr.of HB.out)).trans hfr3)
          clear hi3 hfr3
          cases b2
          · go_wp2
            go_roundg (gk - 1)
            case measure => have := HG.out; omega
            case rel => exact ⟨k + 1, m + n2, s2, by have := HG.out; omega, by omega, by go_num, by go_num, HST.out, HI3.out, HF3.out⟩
          · go_wp2
            go_ret2
            have hs := firstL_stop f (l := t.kids) (k := k + 1) (s := rs) (n := 1) (by rw [HST.out])
            rw [hs, HST.out]
            exact ⟨by go_num, HI3.out, HF3.out⟩
        · obtain rfl : k = t.kids.length := by omega
          have hkl : ((t.kids.length : Int) < (t.kids.length : Int)) = False := by simp
          go_wp2
          go_ret2
          have := HFD.out
          rw [List.take_length] at this
          rw [this]
          exact ⟨rfl, HI1.out, HFR.out⟩
    · go_enter Tryz.func86, Tryz.ntmps86
      go_wp2_with fail
      refine HK.out.mono ?_
      rintro e w2 ⟨rfl, hi2, hfr2⟩
      have HI2 := Lib.hid hi2
      have HF2 := Lib.hid ((Fr.of HA.out).trans hfr2)
      clear hi2 hfr2
      go_wp2
      go_ret2
      exact ⟨rfl, HI2.out, HF2.out⟩
end Go.Proofs.YtbelpnfgdjnpoaaGreatDoor
/- One rectangle in a row of its own: may it be? -/
namespace Go.Proofs.YtbelpnfgdjnpoaaGreatDoor
open Go.RowKit

abbrev box (r : R) : Obj := .cells #[.int .i64 r.x, .int .i64 r.y, .int .i64 r.w, .int .i64 r.h] 24
theorem rat_new (w : World) (r : R) : RAt (w.alloc (box r)) w.heap.size 0 r := by
  refine ⟨?_, ?_, ?_, ?_⟩ <;> simp
theorem rrow_one (w : World) (r : R) : RRow (w.alloc (box r)) (.slice (some ⟨w.heap.size, 0, none⟩) 1 1) [r] := by
  refine .inr ⟨w.heap.size, 0, 1, rfl, fun j q hq => ?_⟩
  cases j with
  | zero => simp at hq; subst hq; simpa using rat_new w r
  | succ j => simp at hq

def hasB (r : R) (x y : Int) : Bool := mayB r && decide (r.x ≤ x) && decide (x < r.x + r.w) && decide (r.y ≤ y) && decide (y < r.y + r.h)
theorem bool_cases (b : Bool) : b = true ∨ b = false := by cases b <;> simp
theorem mays_one (r : R) : mays [r] = mayB r := by simp [mays]
theorem fits_one {r : R} (h : r.fits) : fitsAll [r] := fun q hq => by simp at hq; subst hq; exact h

/-- May, of one. -/
theorem may_one (r : R) (w : World) (hr : r.fits) (n : Nat) (hn : n = w.heap.size) :
    Calls Tryz.prog 133 #[.slice (some ⟨n, 0, none⟩) 1 1] (w.alloc (box r)) fun e w' => e = .returned (.bool (mayB r)) ∧ Below w.heap.size w w' := by
  subst hn
  refine (may_any _ [r] _ (rrow_one w r) (by simp) (fits_one hr)).mono ?_
  rintro e w' ⟨rfl, hb⟩
  exact ⟨by rw [mays_one], ((Below.refl _ _).alloc (Nat.le_refl _) _).trans (hb.mono (by simp))⟩

end Go.Proofs.YtbelpnfgdjnpoaaGreatDoor
