/- Texts of this seat, 3 in one file. -/
import Derived.Test.YtakofjbjciljjaaGreatG02
import Derived.Laws.Rows
import Derived.Laws.ResultCell
import Derived.Deep.RegionHeld3
/- What is asked of the cells of trees, one behind the other, by a closure that may keep something. -/
namespace Go.Proofs.YtakofjbjciljjaaGreat
open Go.RowKit

/-- What may turn: blocks of the state's own; a state comes to own new blocks alone. -/
structure Fr {σ : Type} (own : σ → Option Obj → Nat → Prop) (s : σ) (W : World) (s' : σ) (w' : World) : Prop where
  os : w'.os = W.os
  tape : w'.tape = W.tape
  output : w'.output = W.output
  size : W.heap.size ≤ w'.heap.size
  block : ∀ k, k < W.heap.size → ¬ own s W.heap[k]? k → w'.heap[k]? = W.heap[k]?
  own : ∀ k, own s' w'.heap[k]? k → own s W.heap[k]? k ∨ W.heap.size ≤ k

theorem Fr.of {σ : Type} {own : σ → Option Obj → Nat → Prop} {s : σ} {W w' : World} (h : Below W.heap.size W w') : Fr own s W s w' :=
  ⟨h.os, h.tape, h.output, h.size, fun k hk _ => h.block k hk, fun k hk => by
    rcases Nat.lt_or_ge k W.heap.size with h1 | h1
    · rw [h.block k h1] at hk; exact .inl hk
    · exact .inr h1⟩
theorem Fr.trans {σ : Type} {own : σ → Option Obj → Nat → Prop} {s s1 s2 : σ} {W w1 w2 : World} (h : Fr own s W s1 w1) (g : Fr own s1 w1 s2 w2) : Fr own s W s2 w2 := by
  refine ⟨g.os.trans h.os, g.tape.trans h.tape, g.output.trans h.output, Nat.le_trans h.size g.size, fun k hk hn => ?_, fun k hk => ?_⟩
  · refine (g.block k (Nat.lt_of_lt_of_le hk h.size) fun ho => ?_).trans (h.block k hk hn)
    rcases h.own k ho with h1 | h1
    · exact hn h1
    · omega
  · rcases g.own k hk with h1 | h1
    · exact h.own k h1
    · exact .inr (Nat.le_trans h.size h1)
theorem Fr.cell {σ : Type} {own : σ → Option Obj → Nat → Prop} {s s1 : σ} {W w1 : World} (h : Fr own s W s1 w1) {a : Addr} {v : Value} (hc : W.cell? a = some v) (hn : ¬ own s W.heap[a.block]? a.block) : w1.cell? a = some v :=
  (World.cell?_of_block (h.block a.block (lt_of_cell hc) hn)).trans hc
theorem Fr.below {σ : Type} {own : σ → Option Obj → Nat → Prop} {s s1 : σ} {W w1 : World} (h : Fr own s W s1 w1) {B : Nat} (hB : B ≤ W.heap.size) (hn : ∀ k, k < B → ¬ own s W.heap[k]? k) : Below B W w1 :=
  ⟨h.os, h.tape, h.output, h.size, fun k hk => h.block k (Nat.lt_of_lt_of_le hk hB) (hn k hk)⟩
theorem Fr.keep {σ : Type} {own : σ → Option Obj → Nat → Prop} {s s1 : σ} {W w1 : World} (h : Fr own s W s1 w1) {k : Nat} (hk : k < W.heap.size) (hn : ¬ own s W.heap[k]? k) : ¬ own s1 w1.heap[k]? k := fun ho => by
  rcases h.own k ho with h1 | h1
  · exact hn h1
  · omega

/-- One after the other, up to the first that is so. -/
def foldB {σ : Type} (f : σ → T → Bool × σ) : List T → σ → Bool × σ
  | [], s => (false, s)
  | t :: l, s => if (f s t).1 = true then f s t else foldB f l (f s t).2
mutual
def goT {σ : Type} (f : σ → T → Bool × σ) (s : σ) : T → Bool × σ
  | .node k r i l => if (f s (.node k r i l)).1 = true then f s (.node k r i l) else goL f (f s (.node k r i l)).2 l
def goL {σ : Type} (f : σ → T → Bool × σ) (s : σ) : List T → Bool × σ
  | [] => (false, s)
  | t :: l => if (goT f s t).1 = true then goT f s t else goL f (goT f s t).2 l
end
theorem goL_fold {σ : Type} (f : σ → T → Bool × σ) (l : List T) : ∀ s, goL f s l = foldB (goT f) l s := by
  induction l with
  | nil => intro s; rw [goL, foldB]
  | cons t l ih => intro s; rw [goL, foldB, ih]
theorem goT_eq {σ : Type} (f : σ → T → Bool × σ) (s : σ) (t : T) : goT f s t = if (f s t).1 = true then f s t else goL f (f s t).2 t.kids := by
  cases t; rw [goT]; rfl
theorem foldB_step {σ : Type} (f : σ → T → Bool × σ) {l : List T} {k : Nat} {t : T} {s s1 : σ} (ht : l[k]? = some t) (h : foldB f (l.take k) s = (false, s1)) : foldB f (l.take (k + 1)) s = f s1 t := by
  induction l generalizing k s with
  | nil => simp at ht
  | cons u l ih =>
    cases k with
    | zero =>
      simp at ht; subst ht
      simp only [List.take_zero, foldB, Prod.mk.injEq, true_and] at h
      subst h
      simp only [Nat.zero_add, List.take_succ_cons, List.take_zero, foldB]
      by_cases h : (f s u).1 = true
      · rw [if_pos h]
      · rw [if_neg h]
        have h1 : (f s u).1 = false := by simpa using h
        rw [← h1]
    | succ k =>
      rw [List.take_succ_cons, foldB] at h ⊢
      by_cases h1 : (f s u).1 = true
      · rw [if_pos h1] at h
        rw [h] at h1; cases h1
      · rw [if_neg h1] at h ⊢
        exact ih (by simpa using ht) h
theorem foldB_stop {σ : Type} (f : σ → T → Bool × σ) {l : List T} {k : Nat} {s : σ} (h : (foldB f (l.take k) s).1 = true) : foldB f l s = foldB f (l.take k) s := by
  induction l generalizing k s with
  | nil => simp
  | cons u l ih =>
    cases k with
    | zero => simp [foldB] at h
    | succ k =>
      rw [List.take_succ_cons, foldB] at h ⊢
      rw [foldB]
      by_cases h1 : (f s u).1 = true
      · rw [if_pos h1, if_pos h1]
      · rw [if_neg h1] at h
        rw [if_neg h1, if_neg h1]
        exact ih h

/-- What a closure says of a cell, and what it keeps, as long as there is room for as many as there are (rem). -/
def Judge2 {σ : Type} (rem : σ → Nat) (w0 : World) (own : σ → Option Obj → Nat → Prop) (I : σ → World → Prop) (F : Nat) (lb : Array Value) (f : σ → T → Bool × σ) (t : T) : Prop :=
  ∀ (s : σ) (c : C) (W : World), sz t ≤ rem s → Is w0 c t → I s W → Calls Tryz.prog F (#[cval c] ++ lb) W fun e w' => e = .returned (.bool (f s t).1) ∧ ((f s t).1 = false → I (f s t).2 w') ∧ Fr own s W (f s t).2 w'

/-- Trees lie in w0, whose blocks no state owns; what is kept lives through new memory. -/
structure Mach {σ : Type} (w0 : World) (own : σ → Option Obj → Nat → Prop) (I : σ → World → Prop) : Prop where
  new : ∀ s W cs t, I s W → t ≠ 3 → ¬ own s (some (.cells cs t (0, 0))) W.heap.size
  below : ∀ s W, I s W → Below w0.heap.size w0 W
  up : ∀ s W W', I s W → Below W.heap.size W W' → I s W'

/-- A row of cells that is there whatever is kept, and their trees. -/
structure RowIn {σ : Type} (w0 : World) (I : σ → World → Prop) (v : Value) (l : List T) : Prop where
  row : ∃ cs, (∀ s W, I s W → CRow W v cs) ∧ cs.length = l.length ∧ ∀ (j : Nat) (x : C) (u : T), cs[j]? = some x → l[j]? = some u → Is w0 x u
  len : l.length ≤ 1954687338211

theorem RowIn.of {σ : Type} {w0 : World} {own : σ → Option Obj → Nat → Prop} {I : σ → World → Prop} (hM : Mach w0 own I) {v : Value} {l : List T} (h : TRow w0 v l) (hl : l.length ≤ 1954687338211) : RowIn w0 I v l := by
  obtain ⟨cs, h1, h2, h3⟩ := h
  exact ⟨⟨cs, fun s W hI => h1.up (hM.below s W hI), h2, h3⟩, hl⟩
theorem RowIn.mono {σ : Type} {w0 : World} {I I' : σ → World → Prop} {v : Value} {l : List T} (h : RowIn w0 I v l) (hh : ∀ s W, I' s W → I s W) : RowIn w0 I' v l := by
  obtain ⟨⟨cs, h1, h2, h3⟩, hl⟩ := h
  exact ⟨⟨cs, fun s W hI => h1 s W (hh s W hI), h2, h3⟩, hl⟩

set_option maxRecDepth 100000 in
theorem none_any {σ : Type} {w0 : World} {own : σ → Option Obj → Nat → Prop} {I : σ → World → Prop} (hM : Mach w0 own I) (F : Nat) (hE : Enters F) (lb : Array Value) (f : σ → T → Bool × σ) (l : List T) (rem : σ → Nat) (hJ : ∀ t ∈ l, Judge2 rem w0 own I F lb f t)
    (v : Value) (hr : RowIn w0 I v l) (s : σ) (w : World) (hI : I s w) (hok : ∀ (k : Nat) (s1 : σ) (t : T), l[k]? = some t → foldB f (l.take k) s = (false, s1) → sz t ≤ rem s1) :
    Calls Tryz.prog 75 #[v, .func (.func F) #[] lb] w fun e w' => e = .returned (.bool (!(foldB f l s).1)) ∧ ((foldB f l s).1 = false → I (foldB f l s).2 w') ∧ Fr own s w (foldB f l s).2 w' := by
  have hent : ∀ (args : Array Value) (w : World), (callFunc F args).run Tryz.prog w = .ok (.enter F args) w := hE
  obtain ⟨⟨cs, hrow, hcl, his⟩, hlen⟩ := hr
  obtain ⟨a, cap, rfl⟩ := (hrow s w hI).shape
  have HR := Lib.hid hrow
  have HIS := Lib.hid his
  have HI := Lib.hid hI
  have HJ := Lib.hid hJ
  have HM := Lib.hid hM
  have HCL := Lib.hid hcl
  have HOK := Lib.hid hok
  have hlen' : cs.length ≤ 1954687338211 := by omega
  clear hrow his hI hJ hM hE hcl hlen hok
  go_enter Tryz.func75, Tryz.ntmps75
  go_wp2
  go_loopg [9] (cs.length + 1) (fun g i wr => ∃ (k : Nat) (s1 : σ), g + k = cs.length + 1 ∧ k ≤ cs.length ∧ i = .int .i64 k ∧ foldB f (l.take k) s = (false, s1) ∧ I s1 wr ∧ Fr own s w s1 wr)
  case atStart => exact ⟨0, s, by omega, by omega, rfl, by simp [foldB], HI.out, Fr.of (Below.refl _ _)⟩
  case round =>
    obtain ⟨k, s1, hg, hk, rfl, hfd, hi1, hfr⟩ := hrel
    have HG := Lib.hid hg
    have HF := Lib.hid hfd
    have HI1 := Lib.hid hi1
    have HFR := Lib.hid hfr
    clear hg hfd hi1 hfr
    by_cases hlt : k < cs.length
    · obtain ⟨b, o, rfl, hf⟩ := (HR.out _ _ HI1.out).place (by omega)
      obtain ⟨x, hxk⟩ : ∃ x, cs[k]? = some x := ⟨_, List.getElem?_eq_getElem hlt⟩
      obtain ⟨u, hu⟩ : ∃ u, l[k]? = some u := ⟨_, List.getElem?_eq_getElem (by have := HCL.out; omega)⟩
      obtain ⟨c0, c1, c2, c3, c4, c5, c6⟩ := hf k x hxk
      clear hf
      have HA : Hid (Below wr.heap.size wr (wr.alloc (cbox x))) := (Below.refl _ _).alloc (Nat.le_refl _) _
      have HK := Lib.hid (HJ.out u (List.mem_of_getElem? hu) s1 x (wr.alloc (cbox x)) (HOK.out k s1 u hu HF.out) (HIS.out k x u hxk hu) (HM.out.up _ _ _ HI1.out HA.out))
      have HU := Lib.hid hu
      clear hxk hu
      have HST := Lib.hid (foldB_step f HU.out HF.out)
      generalize hres : f s1 u = res at HK HST
      clear hres
      obtain ⟨rb, rs⟩ := res
      go_wp2_with fail
      refine HK.out.mono ?_
      rintro e w2 ⟨rfl, hi2, hfr2⟩
      have HI2 := Lib.hid hi2
      have HF2 := Lib.hid ((HFR.out.trans (Fr.of HA.out)).trans hfr2)
      clear hi2 hfr2
      cases rb
      · have HI3 := Lib.hid (HI2.out (by trivial))
        go_wp2
        go_roundg (gk - 1)
        case measure => have := HG.out; omega
        case rel => exact ⟨k + 1, rs, by have := HG.out; omega, by omega, by go_num, HST.out, HI3.out, HF2.out⟩
      · go_wp2
        go_ret
        have hs := foldB_stop f (l := l) (k := k + 1) (s := s) (by rw [HST.out])
        rw [hs, HST.out]
        exact ⟨rfl, (fun h => by cases h), HF2.out⟩
    · obtain rfl : k = cs.length := by omega
      have hkl : ((cs.length : Int) < (cs.length : Int)) = False := by simp
      go_wp2
      go_ret
      have := HF.out
      rw [List.take_of_length_le (by have := HCL.out; omega)] at this
      rw [this]
      exact ⟨rfl, fun _ => HI1.out, HFR.out⟩
end Go.Proofs.YtakofjbjciljjaaGreat
/- The same of all cells of trees, each one ahead of its kids. -/
namespace Go.Proofs.YtakofjbjciljjaaGreat
open Go.RowKit

theorem cbox_new (w : World) (c : C) : CAt (w.alloc (cbox c)) w.heap.size 0 c := by
  refine ⟨?_, ?_, ?_, ?_, ?_, ?_, ?_⟩ <;> simp
theorem CAt.fr {σ : Type} {own : σ → Option Obj → Nat → Prop} {s s1 : σ} {W w1 : World} {b o : Nat} {c : C} (h : CAt W b o c) (hf : Fr own s W s1 w1) (hn : ¬ own s W.heap[b]? b) : CAt w1 b o c := by
  obtain ⟨h1, h2, h3, h4, h5, h6, h7⟩ := h
  exact ⟨hf.cell h1 hn, hf.cell h2 hn, hf.cell h3 hn, hf.cell h4 hn, hf.cell h5 hn, hf.cell h6 hn, hf.cell h7 hn⟩

/-- What noneIn says of trees. -/
def InSays {σ : Type} (rem : σ → Nat) (w0 : World) (own : σ → Option Obj → Nat → Prop) (I : σ → World → Prop) (G : Nat) (lb : Array Value) (f : σ → T → Bool × σ) (l : List T) : Prop :=
  ∀ (s : σ) (W : World) (v : Value), szL l ≤ rem s → RowIn w0 I v l → I s W → Calls Tryz.prog 57 #[v, .func (.func G) #[] lb] W fun e w' => e = .returned (.bool (!(goL f s l).1)) ∧ ((goL f s l).1 = false → I (goL f s l).2 w') ∧ Fr own s W (goL f s l).2 w'

set_option maxRecDepth 100000 in
theorem inner_any {σ : Type} {w0 : World} {own : σ → Option Obj → Nat → Prop} {I : σ → World → Prop} (hM : Mach w0 own I) (G : Nat) (hE : Enters G) (lb : Array Value) (f : σ → T → Bool × σ) (t : T)
    (rem : σ → Nat) (hrem : ∀ s t, rem s ≤ rem (f s t).2 + 1) (hJ : Judge2 rem w0 own I G lb f t) (hrec : InSays rem w0 own I G lb f t.kids) (c : C) (W : World) (s : σ) (hsz : sz t ≤ rem s) (hi : Is w0 c t) (hI : I s W) (bx : Nat) (hc : W.cell? ⟨bx, 0, none⟩ = some (.func (.func G) #[] lb)) (hbx : ¬ own s W.heap[bx]? bx) :
    Calls Tryz.prog 82 #[cval c, .pointer (some ⟨bx, 0, none⟩)] W fun e w' => e = .returned (.bool (goT f s t).1) ∧ ((goT f s t).1 = false → I (goT f s t).2 w') ∧ Fr own s W (goT f s t).2 w' := by
  have hent : ∀ (args : Array Value) (w : World), (callFunc G args).run Tryz.prog w = .ok (.enter G args) w := hE
  have HA : Hid (Below W.heap.size W (W.alloc (cbox c))) := (Below.refl _ _).alloc (Nat.le_refl _) _
  have hb : bx < W.heap.size := lt_of_cell hc
  have hne : bx ≠ W.heap.size := by omega
  have HK := Lib.hid (hJ s c (W.alloc (cbox c)) hsz hi (hM.up _ _ _ hI HA.out))
  have HN : Hid (¬ own s (W.alloc (cbox c)).heap[W.heap.size]? W.heap.size) := Lib.hid (by rw [heap_alloc_new]; exact hM.new s W _ 26 hI (by decide))
  have HIS := Lib.hid (RowIn.of hM hi.row hi.len)
  have HC := Lib.hid (Lib.cell?_alloc_some (cbox c) hc)
  have HX : Hid (¬ own s (W.alloc (cbox c)).heap[bx]? bx) := Lib.hid (by rw [HA.out.block bx hb]; exact hbx)
  have HREC := Lib.hid hrec
  clear hJ hi hI hbx hrec
  rw [goT_eq]
  have HSZ : Hid (szL t.kids ≤ rem (f s t).2) := Lib.hid (by have := hrem s t; have := sz_node t; omega)
  clear hsz hrem
  generalize f s t = res at HK HSZ ⊢
  obtain ⟨rb, rs⟩ := res
  cases rb
  · have HR := Lib.hid (fun W => HREC.out rs W _ HSZ.out HIS.out)
    simp only [Bool.false_eq_true, if_false]
    generalize goL f rs t.kids = res2 at HR ⊢
    obtain ⟨rb2, rs2⟩ := res2
    go_enter Tryz.func82, Tryz.ntmps82
    go_wp2_with fail
    refine HK.out.mono ?_
    rintro e w2 ⟨rfl, hi2, hfr2⟩
    have HI2 := Lib.hid (hi2 (by trivial))
    have HF2 := Lib.hid hfr2
    clear hi2 hfr2
    obtain ⟨-, -, -, -, -, -, q6⟩ := (cbox_new W c).fr HF2.out HN.out
    have q0 := HF2.out.cell HC.out HX.out
    have HR2 := Lib.hid (HR.out w2 HI2.out)
    go_wp2_with fail
    refine HR2.out.mono ?_
    rintro e w3 ⟨rfl, hi3, hfr3⟩
    have HI3 := Lib.hid hi3
    have HF3 := Lib.hid hfr3
    clear hi3 hfr3
    go_wp2
    go_ret
    exact ⟨by simp, HI3.out, ((Fr.of HA.out).trans HF2.out).trans HF3.out⟩
  · go_enter Tryz.func82, Tryz.ntmps82
    go_wp2_with fail
    refine HK.out.mono ?_
    rintro e w2 ⟨rfl, hi2, hfr2⟩
    have HF2 := Lib.hid hfr2
    clear hi2 hfr2
    go_wp2
    go_ret
    first
    | exact ⟨rfl, (fun h => by cases h), (Fr.of HA.out).trans HF2.out⟩
    | exact ⟨rfl, (Fr.of HA.out).trans HF2.out⟩

mutual
theorem rem_goT {σ : Type} (f : σ → T → Bool × σ) (rem : σ → Nat) (hrem : ∀ s t, rem s ≤ rem (f s t).2 + 1) (s : σ) : ∀ t, rem s ≤ rem (goT f s t).2 + sz t
  | .node k r i l => by
    have h1 := hrem s (.node k r i l)
    have h2 := rem_goL f rem hrem (f s (.node k r i l)).2 l
    rw [goT, sz]
    split <;> omega
theorem rem_goL {σ : Type} (f : σ → T → Bool × σ) (rem : σ → Nat) (hrem : ∀ s t, rem s ≤ rem (f s t).2 + 1) (s : σ) : ∀ l, rem s ≤ rem (goL f s l).2 + szL l
  | [] => by rw [goL]; exact Nat.le_add_right _ _
  | t :: l => by
    have h1 := rem_goT f rem hrem s t
    have h2 := rem_goL f rem hrem (goT f s t).2 l
    rw [goL, szL]
    split <;> omega
end

theorem enters49 : Enters 82 := enters_of Tryz.func82 (by kernel_rfl) rfl

/-- Each of some trees, and of their kids, and so on. -/
inductive Deep (P : T → Prop) : T → Prop
  | mk (t : T) (h : P t) (hk : ∀ u ∈ t.kids, Deep P u) : Deep P t
theorem Deep.here {P : T → Prop} {t : T} (h : Deep P t) : P t := by cases h; assumption
theorem Deep.kid {P : T → Prop} {t : T} (h : Deep P t) : ∀ u ∈ t.kids, Deep P u := by cases h; assumption

set_option maxRecDepth 100000 in
theorem noneIn_step {σ : Type} {w0 : World} {own : σ → Option Obj → Nat → Prop} {I : σ → World → Prop} (hM : Mach w0 own I) (G : Nat) (hE : Enters G) (lb : Array Value) (f : σ → T → Bool × σ) (rem : σ → Nat) (hrem : ∀ s t, rem s ≤ rem (f s t).2 + 1) (l : List T) (hJ : ∀ t ∈ l, Judge2 rem w0 own I G lb f t) (hrec : ∀ t ∈ l, InSays rem w0 own I G lb f t.kids) : InSays rem w0 own I G lb f l := by
  intro s W v hsz hr hI
  have HA : Hid (Below W.heap.size W (W.alloc (.cells #[.func (.func G) #[] lb] 28))) := (Below.refl _ _).alloc (Nat.le_refl _) _
  let I' : σ → World → Prop := fun s W' => I s W' ∧ W'.cell? ⟨W.heap.size, 0, none⟩ = some (.func (.func G) #[] lb) ∧ ¬ own s W'.heap[W.heap.size]? W.heap.size
  have hM' : Mach w0 own I' := ⟨fun s W cs t h ht => hM.new s W cs t h.1 ht, fun s W h => hM.below s W h.1, fun s W1 W2 h hb => ⟨hM.up _ _ _ h.1 hb, (hb.cell (lt_of_cell h.2.1)).trans h.2.1, by rw [hb.block _ (lt_of_cell h.2.1)]; exact h.2.2⟩⟩
  have hJ' : ∀ t ∈ l, Judge2 rem w0 own I' 82 #[.pointer (some ⟨W.heap.size, 0, none⟩)] (goT f) t := fun t ht s1 c W1 hs1 hi h1 => by
    refine (inner_any hM G hE lb f t rem hrem (hJ t ht) (hrec t ht) c W1 s1 hs1 hi h1.1 W.heap.size h1.2.1 h1.2.2).mono ?_
    rintro e w' ⟨rfl, h2, h3⟩
    exact ⟨rfl, fun hf => ⟨h2 hf, h3.cell h1.2.1 h1.2.2, h3.keep (lt_of_cell h1.2.1) h1.2.2⟩, h3⟩
  have hI' : I' s (W.alloc (.cells #[.func (.func G) #[] lb] 28)) := ⟨hM.up _ _ _ hI HA.out, by simp, by rw [heap_alloc_new]; exact hM.new s W _ 28 hI (by decide)⟩
  have H := Lib.hid (none_any hM' 82 enters49 _ (goT f) l rem hJ' v (hr.mono fun s W h => h.1) s _ hI' (fun k s1 t ht hfd => by
    have h1 := rem_goL f rem hrem s (l.take k)
    rw [goL_fold, hfd] at h1
    have h2 := szL_take_succ ht
    have h3 := szL_take_le l (k + 1)
    simp only at h1
    omega))
  obtain ⟨⟨cs, hrow, -⟩, -⟩ := hr
  obtain ⟨a, cap, rfl⟩ := (hrow s W hI).shape
  clear hrow hJ' hI' hM' hJ hrec hI
  rw [← goL_fold] at H
  have H2 : Hid (Calls Tryz.prog 75 #[.slice a cs.length cap, .func (.func 82) #[] #[.pointer (some ⟨W.heap.size, 0, none⟩)]] (W.alloc (.cells #[.func (.func G) #[] lb] 28)) fun e w' => e = .returned (.bool (!(goL f s l).1)) ∧ ((goL f s l).1 = false → I (goL f s l).2 w') ∧ Fr own s (W.alloc (.cells #[.func (.func G) #[] lb] 28)) (goL f s l).2 w') :=
    H.out.mono fun e w' ⟨h1, h2, h3⟩ => ⟨h1, fun hf => (h2 hf).1, h3⟩
  clear H
  generalize goL f s l = res at H2 ⊢
  obtain ⟨rb, rs⟩ := res
  go_enter Tryz.func57, Tryz.ntmps57
  go_wp2_with fail
  refine H2.out.mono ?_
  rintro e w2 ⟨rfl, hi2, hfr2⟩
  have HI2 := Lib.hid hi2
  have HF2 := Lib.hid ((Fr.of HA.out).trans hfr2)
  clear hi2 hfr2
  go_wp2
  go_ret
  exact ⟨rfl, HI2.out, HF2.out⟩

theorem noneIn_any {σ : Type} {w0 : World} {own : σ → Option Obj → Nat → Prop} {I : σ → World → Prop} (hM : Mach w0 own I) (G : Nat) (hE : Enters G) (lb : Array Value) (f : σ → T → Bool × σ) (rem : σ → Nat) (hrem : ∀ s t, rem s ≤ rem (f s t).2 + 1) (N : Nat) :
    ∀ (l : List T), szL l ≤ N → (∀ t ∈ l, Deep (Judge2 rem w0 own I G lb f) t) → InSays rem w0 own I G lb f l := by
  induction N with
  | zero =>
    intro l hs hJ s W v hsz hr hI
    have hl : l = [] := by
      cases l with
      | nil => rfl
      | cons t l => have := sz_pos t; simp only [szL] at hs; omega
    subst hl
    exact noneIn_step hM G hE lb f rem hrem [] (fun t ht => by cases ht) (fun t ht => by cases ht) s W v hsz hr hI
  | succ N ih =>
    intro l hs hJ
    refine fun s W v hsz hr hI => noneIn_step hM G hE lb f rem hrem l (fun t ht => (hJ t ht).here) (fun t ht => ?_) s W v hsz hr hI
    obtain ⟨j, hj, rfl⟩ := List.getElem_of_mem ht
    refine ih _ ?_ (hJ _ ht).kid
    have h1 := szL_mem (List.getElem?_eq_getElem hj)
    have h2 := sz_node l[j]
    omega
end Go.Proofs.YtakofjbjciljjaaGreat
/- Boxes of cells that are written into; the cell at a path. -/
namespace Go.Proofs.YtakofjbjciljjaaGreat
open Go.RowKit

theorem trow_one {w : World} {c : C} {t : T} (h : Is w c t) : TRow (w.alloc (cbox c)) (.slice (some ⟨w.heap.size, 0, none⟩) 1 1) [t] := by
  refine ⟨[c], .inr ⟨w.heap.size, 0, 1, rfl, fun j x hx => ?_⟩, rfl, fun j x u hx hu => ?_⟩
  · cases j with
    | zero => simp at hx; subst hx; simpa using cbox_new w c
    | succ j => simp at hx
  · cases j with
    | zero => simp at hx hu; subst hx; subst hu; exact h.up ((Below.refl _ _).alloc (Nat.le_refl _) _)
    | succ j => simp at hx

abbrev zeroBox : Obj := .cells #[.int .u8 0, .int .i64 0, .int .i64 0, .int .i64 0, .int .i64 0, .int .i64 0, .slice none 0 0] 26
def Zero7 (w : World) (b : Nat) : Prop := w.heap[b]? = some zeroBox
theorem zero_up {w w' : World} {b : Nat} (h : Zero7 w b) (hb : Below w.heap.size w w') : Zero7 w' b := (hb.block b (lt_of_block h)).trans h
theorem zero_new (w : World) : Zero7 (w.alloc zeroBox) w.heap.size := heap_alloc_new w _
theorem zero_parts {w : World} {b : Nat} (h : Zero7 w b) : (w.cell? ⟨b, 0, none⟩ = some (.int .u8 0) ∧ w.cell? ⟨b, 1, none⟩ = some (.int .i64 0) ∧ w.cell? ⟨b, 2, none⟩ = some (.int .i64 0) ∧ w.cell? ⟨b, 3, none⟩ = some (.int .i64 0) ∧ w.cell? ⟨b, 4, none⟩ = some (.int .i64 0) ∧ w.cell? ⟨b, 5, none⟩ = some (.int .i64 0) ∧ w.cell? ⟨b, 6, none⟩ = some (.slice none 0 0)) ∧
    (w.frozen? ⟨b, 0, none⟩ = false ∧ w.frozen? ⟨b, 1, none⟩ = false ∧ w.frozen? ⟨b, 2, none⟩ = false ∧ w.frozen? ⟨b, 3, none⟩ = false ∧ w.frozen? ⟨b, 4, none⟩ = false ∧ w.frozen? ⟨b, 5, none⟩ = false ∧ w.frozen? ⟨b, 6, none⟩ = false) := by
  have h' : w.heap[b]? = some zeroBox := h
  refine ⟨⟨?_, ?_, ?_, ?_, ?_, ?_, ?_⟩, ?_, ?_, ?_, ?_, ?_, ?_, ?_⟩ <;> simp [World.cell?, World.frozen?, h']

abbrev put7 (w : World) (b : Nat) (c : C) : World := ((((((w.setCell ⟨b, 0, none⟩ (.int .u8 c.k)).setCell ⟨b, 1, none⟩ (.int .i64 c.r.x)).setCell ⟨b, 2, none⟩ (.int .i64 c.r.y)).setCell ⟨b, 3, none⟩ (.int .i64 c.r.w)).setCell ⟨b, 4, none⟩ (.int .i64 c.r.h)).setCell ⟨b, 5, none⟩ (.int .i64 c.id)).setCell ⟨b, 6, none⟩ (.slice c.a c.n c.cap)
theorem heap_put7 {w : World} {b k : Nat} {c : C} (h : k ≠ b) : (put7 w b c).heap[k]? = w.heap[k]? := by
  unfold put7
  rw [Below.heap_setCell _ ⟨b, 6, none⟩ _ k h, Below.heap_setCell _ ⟨b, 5, none⟩ _ k h, Below.heap_setCell _ ⟨b, 4, none⟩ _ k h, Below.heap_setCell _ ⟨b, 3, none⟩ _ k h, Below.heap_setCell _ ⟨b, 2, none⟩ _ k h, Below.heap_setCell _ ⟨b, 1, none⟩ _ k h, Below.heap_setCell _ ⟨b, 0, none⟩ _ k h]
theorem cat_put7 {w : World} {b : Nat} {c0 : C} (c : C) (h : CAt w b 0 c0) : CAt (put7 w b c) b 0 c := by
  have ne : ∀ i j : Nat, i ≠ j → (⟨b, i, none⟩ : Addr) ≠ ⟨b, j, none⟩ := fun i j hij he => hij (congrArg Addr.off he)
  obtain ⟨h0, h1, h2, h3, h4, h5, h6⟩ := h
  simp only [Nat.zero_add] at h1 h2 h3 h4 h5 h6
  refine ⟨?_, ?_, ?_, ?_, ?_, ?_, ?_⟩ <;> (try simp only [Nat.zero_add])
  · rw [World.cell?_setCell_other _ _ _ _ (ne 6 0 (by omega)), World.cell?_setCell_other _ _ _ _ (ne 5 0 (by omega)), World.cell?_setCell_other _ _ _ _ (ne 4 0 (by omega)), World.cell?_setCell_other _ _ _ _ (ne 3 0 (by omega)), World.cell?_setCell_other _ _ _ _ (ne 2 0 (by omega)), World.cell?_setCell_other _ _ _ _ (ne 1 0 (by omega))]
    exact World.cell?_setCell_same _ _ _ h0
  · rw [World.cell?_setCell_other _ _ _ _ (ne 6 1 (by omega)), World.cell?_setCell_other _ _ _ _ (ne 5 1 (by omega)), World.cell?_setCell_other _ _ _ _ (ne 4 1 (by omega)), World.cell?_setCell_other _ _ _ _ (ne 3 1 (by omega)), World.cell?_setCell_other _ _ _ _ (ne 2 1 (by omega))]
    exact World.cell?_setCell_same _ _ _ (by rw [World.cell?_setCell_other _ _ _ _ (ne 0 1 (by omega))]; exact h1)
  · rw [World.cell?_setCell_other _ _ _ _ (ne 6 2 (by omega)), World.cell?_setCell_other _ _ _ _ (ne 5 2 (by omega)), World.cell?_setCell_other _ _ _ _ (ne 4 2 (by omega)), World.cell?_setCell_other _ _ _ _ (ne 3 2 (by omega))]
    exact World.cell?_setCell_same _ _ _ (by rw [World.cell?_setCell_other _ _ _ _ (ne 1 2 (by omega)), World.cell?_setCell_other _ _ _ _ (ne 0 2 (by omega))]; exact h2)
  · rw [World.cell?_setCell_other _ _ _ _ (ne 6 3 (by omega)), World.cell?_setCell_other _ _ _ _ (ne 5 3 (by omega)), World.cell?_setCell_other _ _ _ _ (ne 4 3 (by omega))]
    exact World.cell?_setCell_same _ _ _ (by rw [World.cell?_setCell_other _ _ _ _ (ne 2 3 (by omega)), World.cell?_setCell_other _ _ _ _ (ne 1 3 (by omega)), World.cell?_setCell_other _ _ _ _ (ne 0 3 (by omega))]; exact h3)
  · rw [World.cell?_setCell_other _ _ _ _ (ne 6 4 (by omega)), World.cell?_setCell_other _ _ _ _ (ne 5 4 (by omega))]
    exact World.cell?_setCell_same _ _ _ (by rw [World.cell?_setCell_other _ _ _ _ (ne 3 4 (by omega)), World.cell?_setCell_other _ _ _ _ (ne 2 4 (by omega)), World.cell?_setCell_other _ _ _ _ (ne 1 4 (by omega)), World.cell?_setCell_other _ _ _ _ (ne 0 4 (by omega))]; exact h4)
  · rw [World.cell?_setCell_other _ _ _ _ (ne 6 5 (by omega))]
    exact World.cell?_setCell_same _ _ _ (by rw [World.cell?_setCell_other _ _ _ _ (ne 4 5 (by omega)), World.cell?_setCell_other _ _ _ _ (ne 3 5 (by omega)), World.cell?_setCell_other _ _ _ _ (ne 2 5 (by omega)), World.cell?_setCell_other _ _ _ _ (ne 1 5 (by omega)), World.cell?_setCell_other _ _ _ _ (ne 0 5 (by omega))]; exact h5)
  · exact World.cell?_setCell_same _ _ _ (by rw [World.cell?_setCell_other _ _ _ _ (ne 5 6 (by omega)), World.cell?_setCell_other _ _ _ _ (ne 4 6 (by omega)), World.cell?_setCell_other _ _ _ _ (ne 3 6 (by omega)), World.cell?_setCell_other _ _ _ _ (ne 2 6 (by omega)), World.cell?_setCell_other _ _ _ _ (ne 1 6 (by omega)), World.cell?_setCell_other _ _ _ _ (ne 0 6 (by omega))]; exact h6)
theorem size_put7 (w : World) (b : Nat) (c : C) : (put7 w b c).heap.size = w.heap.size := by simp [World.setCell]
theorem below_put7 {B : Nat} {w w' : World} (h : Below B w w') {b : Nat} (hb : B ≤ b) (c : C) : Below B w (put7 w' b c) := ((((((h.setCell hb _).setCell hb _).setCell hb _).setCell hb _).setCell hb _).setCell hb _).setCell hb _
def kidAt (t : T) (k : Int) : Option T := if 0 ≤ k then t.kids[k.toNat]? else none
def atT : T → List Int → Option T
  | t, [] => some t
  | t, k :: p => match kidAt t k with
    | some u => atT u p
    | none => none
theorem kid_some {t u : T} {k : Int} (h : kidAt t k = some u) : ∃ j : Nat, k = j ∧ t.kids[j]? = some u := by
  unfold kidAt at h
  split at h
  · exact ⟨k.toNat, by omega, h⟩
  · cases h
theorem kid_none {t : T} {k : Int} (h : kidAt t k = none) : k < 0 ∨ (t.kids.length : Int) ≤ k := by
  unfold kidAt at h
  split at h
  · rw [List.getElem?_eq_none_iff] at h; omega
  · omega
theorem atT_append (t : T) (p q : List Int) : atT t (p ++ q) = match atT t p with | some u => atT u q | none => none := by
  induction p generalizing t with
  | nil => rfl
  | cons k p ih =>
    simp only [List.cons_append, atT]
    cases h : kidAt t k with
    | some u => exact ih u
    | none => rfl
theorem atT_step {t u : T} {p : List Int} {i : Nat} {k : Int} (h : atT t (p.take i) = some u) (hk : p[i]? = some k) : atT t (p.take (i + 1)) = kidAt u k := by
  rw [List.take_add_one, hk, atT_append, h]
  simp only [Option.toList, atT]
  cases kidAt u k <;> rfl
theorem atT_stop {t : T} {p : List Int} {i : Nat} (h : atT t (p.take i) = none) : atT t p = none := by
  have := atT_append t (p.take i) (p.drop i)
  rw [List.take_append_drop, h] at this
  exact this

/-- A box of a cell. -/
def Box7 (w : World) (b : Nat) (c : C) : Prop := w.heap[b]? = some (cbox c)
theorem Box7.up {w w' : World} {b : Nat} {c : C} (h : Box7 w b c) (hb : Below w.heap.size w w') : Box7 w' b c := (hb.block b (lt_of_block h)).trans h
theorem Box7.cat {w : World} {b : Nat} {c : C} (h : Box7 w b c) : CAt w b 0 c := by
  have h' : w.heap[b]? = some (cbox c) := h
  refine ⟨?_, ?_, ?_, ?_, ?_, ?_, ?_⟩ <;> simp [World.cell?, h']
theorem Box7.free {w : World} {b : Nat} {c : C} (h : Box7 w b c) (o : Nat) : w.frozen? ⟨b, o, none⟩ = false := by
  have h' : w.heap[b]? = some (cbox c) := h
  simp [World.frozen?, h']
theorem Box7.new (w : World) (c : C) : Box7 (w.alloc (cbox c)) w.heap.size c := heap_alloc_new w _
theorem set_block {w : World} {b i : Nat} {cs : Array Value} {t : TypeId} {fr : Nat × Nat} (h : w.heap[b]? = some (.cells cs t fr)) (v : Value) : (w.setCell ⟨b, i, none⟩ v).heap[b]? = some (.cells (cs.setIfInBounds i v) t fr) := by
  have hlt := lt_of_block h
  have h' : w.heap[b] = .cells cs t fr := by simpa [Array.getElem?_eq_getElem hlt] using h
  show (w.heap.modify b _)[b]? = _
  rw [Array.getElem?_eq_getElem (by simpa using hlt), Array.getElem_modify_self, h']
  rfl
theorem Box7.put {w : World} {b : Nat} {c : C} (h : Box7 w b c) (d : C) : Box7 (put7 w b d) b d := by
  have h' : w.heap[b]? = some (cbox c) := h
  have h1 := set_block (i := 0) h' (.int .u8 d.k)
  have h2 := set_block (i := 1) h1 (.int .i64 d.r.x)
  have h3 := set_block (i := 2) h2 (.int .i64 d.r.y)
  have h4 := set_block (i := 3) h3 (.int .i64 d.r.w)
  have h5 := set_block (i := 4) h4 (.int .i64 d.r.h)
  have h6 := set_block (i := 5) h5 (.int .i64 d.id)
  have h7 := set_block (i := 6) h6 (.slice d.a d.n d.cap)
  refine h7.trans ?_
  simp

theorem results_cell1 {fn : Func} {p : Tmp} (h : fn.results = #[.cell p 26]) (tmps : Array Value) (w : World) (g : Nat) (c : C) (hp : tmps.getD p undef = .pointer (some ⟨g, 0, none⟩)) (hg : Box7 w g c) :
    (results fn tmps).run Tryz.prog w = .ok (cval c) w :=
  results_cell_row h tmps w g 26 _ (0, 0) _ hp hg Tryz.underlying26 rfl (by kernel_rfl)
theorem Box7.of_zero {w : World} {b : Nat} (h : Zero7 w b) : Box7 w b ⟨0, ⟨0, 0, 0, 0⟩, 0, none, 0, 0⟩ := h

/-- A box of a cell whose kids are turned. -/
theorem Box7.kids {w : World} {b : Nat} {c : C} (h : Box7 w b c) (a : Option Addr) (n cap : Nat) : Box7 (w.setCell ⟨b, 6, none⟩ (.slice a n cap)) b ⟨c.k, c.r, c.id, a, n, cap⟩ := by
  have h' : w.heap[b]? = some (cbox c) := h
  have h1 := set_block (i := 6) h' (.slice a n cap)
  refine h1.trans ?_
  simp

end Go.Proofs.YtakofjbjciljjaaGreat
