/- The same of all cells of trees, each one ahead of its kids. -/
import Derived.Test.YtajhojbnpajelaaNone
namespace Go.Proofs.Ytajhojbnpajelaa
open Go.RowKit

theorem cbox_new (w : World) (c : C) : CAt (w.alloc (cbox c)) w.heap.size 0 c := by
  refine ⟨?_, ?_, ?_, ?_, ?_, ?_, ?_⟩ <;> simp
theorem CAt.fr {σ : Type} {own : σ → Option Obj → Nat → Prop} {s s1 : σ} {W w1 : World} {b o : Nat} {c : C} (h : CAt W b o c) (hf : Fr own s W s1 w1) (hn : ¬ own s W.heap[b]? b) : CAt w1 b o c := by
  obtain ⟨h1, h2, h3, h4, h5, h6, h7⟩ := h
  exact ⟨hf.cell h1 hn, hf.cell h2 hn, hf.cell h3 hn, hf.cell h4 hn, hf.cell h5 hn, hf.cell h6 hn, hf.cell h7 hn⟩

/-- What noneIn says of trees. -/
def InSays {σ : Type} (rem : σ → Nat) (w0 : World) (own : σ → Option Obj → Nat → Prop) (I : σ → World → Prop) (G : Nat) (lb : Array Value) (f : σ → T → Bool × σ) (l : List T) : Prop :=
  ∀ (s : σ) (W : World) (v : Value), szL l ≤ rem s → RowIn w0 I v l → I s W → Calls Try.prog 43 #[v, .func (.func G) #[] lb] W fun e w' => e = .returned (.bool (!(goL f s l).1)) ∧ ((goL f s l).1 = false → I (goL f s l).2 w') ∧ Fr own s W (goL f s l).2 w'

set_option maxRecDepth 100000 in
theorem inner_any {σ : Type} {w0 : World} {own : σ → Option Obj → Nat → Prop} {I : σ → World → Prop} (hM : Mach w0 own I) (G : Nat) (hE : Enters G) (lb : Array Value) (f : σ → T → Bool × σ) (t : T)
    (rem : σ → Nat) (hrem : ∀ s t, rem s ≤ rem (f s t).2 + 1) (hJ : Judge2 rem w0 own I G lb f t) (hrec : InSays rem w0 own I G lb f t.kids) (c : C) (W : World) (s : σ) (hsz : sz t ≤ rem s) (hi : Is w0 c t) (hI : I s W) (bx : Nat) (hc : W.cell? ⟨bx, 0, none⟩ = some (.func (.func G) #[] lb)) (hbx : ¬ own s W.heap[bx]? bx) :
    Calls Try.prog 53 #[cval c, .pointer (some ⟨bx, 0, none⟩)] W fun e w' => e = .returned (.bool (goT f s t).1) ∧ ((goT f s t).1 = false → I (goT f s t).2 w') ∧ Fr own s W (goT f s t).2 w' := by
  have hent : ∀ (args : Array Value) (w : World), (callFunc G args).run Try.prog w = .ok (.enter G args) w := hE
  have HA : Hid (Below W.heap.size W (W.alloc (cbox c))) := (Below.refl _ _).alloc (Nat.le_refl _) _
  have hb : bx < W.heap.size := lt_of_cell hc
  have hne : bx ≠ W.heap.size := by omega
  have HK := Lib.hid (hJ s c (W.alloc (cbox c)) hsz hi (hM.up _ _ _ hI HA.out))
  have HN : Hid (¬ own s (W.alloc (cbox c)).heap[W.heap.size]? W.heap.size) := Lib.hid (by rw [heap_alloc_new]; exact hM.new s W _ 26 hI (by decide))
  have HIS := Lib.hid (RowIn.of hM hi.row hi.len)
  have HC := Lib.hid (Lib.cell?_alloc_some (cbox c) hc)
  have HX : Hid (¬ own s (W.alloc (cbox c)).heap[bx]? bx) := Lib.hid (by rw [HA.out.block bx hb]; exact hbx)
  have HREC := Lib.hid hrec
  clear hJ hi hI hbx hrec
  rw [goT_eq]
  have HSZ : Hid (szL t.kids ≤ rem (f s t).2) := Lib.hid (by have := hrem s t; have := sz_node t; omega)
  clear hsz hrem
  generalize f s t = res at HK HSZ ⊢
  obtain ⟨rb, rs⟩ := res
  cases rb
  · have HR := Lib.hid (fun W => HREC.out rs W _ HSZ.out HIS.out)
    simp only [Bool.false_eq_true, if_false]
    generalize goL f rs t.kids = res2 at HR ⊢
    obtain ⟨rb2, rs2⟩ := res2
    go_enter Try.func53, Try.ntmps53
    go_wp2_with fail
    refine HK.out.mono ?_
    rintro e w2 ⟨rfl, hi2, hfr2⟩
    have HI2 := Lib.hid (hi2 (by trivial))
    have HF2 := Lib.hid hfr2
    clear hi2 hfr2
    obtain ⟨-, -, -, -, -, -, q6⟩ := (cbox_new W c).fr HF2.out HN.out
    have q0 := HF2.out.cell HC.out HX.out
    have HR2 := Lib.hid (HR.out w2 HI2.out)
    go_wp2_with fail
    refine HR2.out.mono ?_
    rintro e w3 ⟨rfl, hi3, hfr3⟩
    have HI3 := Lib.hid hi3
    have HF3 := Lib.hid hfr3
    clear hi3 hfr3
    go_wp2
    go_ret
    exact ⟨by simp, HI3.out, ((Fr.of HA.out).trans HF2.out).trans HF3.out⟩
  · go_enter Try.func53, Try.ntmps53
    go_wp2_with fail
    refine HK.out.mono ?_
    rintro e w2 ⟨rfl, hi2, hfr2⟩
    have HF2 := Lib.hid hfr2
    clear hi2 hfr2
    go_wp2
    go_ret
    first
    | exact ⟨rfl, (fun h => by cases h), (Fr.of HA.out).trans HF2.out⟩
    | exact ⟨rfl, (Fr.of HA.out).trans HF2.out⟩

mutual
theorem rem_goT {σ : Type} (f : σ → T → Bool × σ) (rem : σ → Nat) (hrem : ∀ s t, rem s ≤ rem (f s t).2 + 1) (s : σ) : ∀ t, rem s ≤ rem (goT f s t).2 + sz t
  | .node k r i l => by
    have h1 := hrem s (.node k r i l)
    have h2 := rem_goL f rem hrem (f s (.node k r i l)).2 l
    rw [goT, sz]
    split <;> omega
theorem rem_goL {σ : Type} (f : σ → T → Bool × σ) (rem : σ → Nat) (hrem : ∀ s t, rem s ≤ rem (f s t).2 + 1) (s : σ) : ∀ l, rem s ≤ rem (goL f s l).2 + szL l
  | [] => by rw [goL]; exact Nat.le_add_right _ _
  | t :: l => by
    have h1 := rem_goT f rem hrem s t
    have h2 := rem_goL f rem hrem (goT f s t).2 l
    rw [goL, szL]
    split <;> omega
end

theorem enters49 : Enters 53 := enters_of Try.func53 (by kernel_rfl) rfl

/-- Each of some trees, and of their kids, and so on. -/
inductive Deep (P : T → Prop) : T → Prop
  | mk (t : T) (h : P t) (hk : ∀ u ∈ t.kids, Deep P u) : Deep P t
theorem Deep.here {P : T → Prop} {t : T} (h : Deep P t) : P t := by cases h; assumption
theorem Deep.kid {P : T → Prop} {t : T} (h : Deep P t) : ∀ u ∈ t.kids, Deep P u := by cases h; assumption

set_option maxRecDepth 100000 in
theorem noneIn_step {σ : Type} {w0 : World} {own : σ → Option Obj → Nat → Prop} {I : σ → World → Prop} (hM : Mach w0 own I) (G : Nat) (hE : Enters G) (lb : Array Value) (f : σ → T → Bool × σ) (rem : σ → Nat) (hrem : ∀ s t, rem s ≤ rem (f s t).2 + 1) (l : List T) (hJ : ∀ t ∈ l, Judge2 rem w0 own I G lb f t) (hrec : ∀ t ∈ l, InSays rem w0 own I G lb f t.kids) : InSays rem w0 own I G lb f l := by
  intro s W v hsz hr hI
  have HA : Hid (Below W.heap.size W (W.alloc (.cells #[.func (.func G) #[] lb] 27))) := (Below.refl _ _).alloc (Nat.le_refl _) _
  let I' : σ → World → Prop := fun s W' => I s W' ∧ W'.cell? ⟨W.heap.size, 0, none⟩ = some (.func (.func G) #[] lb) ∧ ¬ own s W'.heap[W.heap.size]? W.heap.size
  have hM' : Mach w0 own I' := ⟨fun s W cs t h ht => hM.new s W cs t h.1 ht, fun s W h => hM.below s W h.1, fun s W1 W2 h hb => ⟨hM.up _ _ _ h.1 hb, (hb.cell (lt_of_cell h.2.1)).trans h.2.1, by rw [hb.block _ (lt_of_cell h.2.1)]; exact h.2.2⟩⟩
  have hJ' : ∀ t ∈ l, Judge2 rem w0 own I' 53 #[.pointer (some ⟨W.heap.size, 0, none⟩)] (goT f) t := fun t ht s1 c W1 hs1 hi h1 => by
    refine (inner_any hM G hE lb f t rem hrem (hJ t ht) (hrec t ht) c W1 s1 hs1 hi h1.1 W.heap.size h1.2.1 h1.2.2).mono ?_
    rintro e w' ⟨rfl, h2, h3⟩
    exact ⟨rfl, fun hf => ⟨h2 hf, h3.cell h1.2.1 h1.2.2, h3.keep (lt_of_cell h1.2.1) h1.2.2⟩, h3⟩
  have hI' : I' s (W.alloc (.cells #[.func (.func G) #[] lb] 27)) := ⟨hM.up _ _ _ hI HA.out, by simp, by rw [heap_alloc_new]; exact hM.new s W _ 27 hI (by decide)⟩
  have H := Lib.hid (none_any hM' 53 enters49 _ (goT f) l rem hJ' v (hr.mono fun s W h => h.1) s _ hI' (fun k s1 t ht hfd => by
    have h1 := rem_goL f rem hrem s (l.take k)
    rw [goL_fold, hfd] at h1
    have h2 := szL_take_succ ht
    have h3 := szL_take_le l (k + 1)
    simp only at h1
    omega))
  obtain ⟨⟨cs, hrow, -⟩, -⟩ := hr
  obtain ⟨a, cap, rfl⟩ := (hrow s W hI).shape
  clear hrow hJ' hI' hM' hJ hrec hI
  rw [← goL_fold] at H
  have H2 : Hid (Calls Try.prog 32 #[.slice a cs.length cap, .func (.func 53) #[] #[.pointer (some ⟨W.heap.size, 0, none⟩)]] (W.alloc (.cells #[.func (.func G) #[] lb] 27)) fun e w' => e = .returned (.bool (!(goL f s l).1)) ∧ ((goL f s l).1 = false → I (goL f s l).2 w') ∧ Fr own s (W.alloc (.cells #[.func (.func G) #[] lb] 27)) (goL f s l).2 w') :=
    H.out.mono fun e w' ⟨h1, h2, h3⟩ => ⟨h1, fun hf => (h2 hf).1, h3⟩
  clear H
  generalize goL f s l = res at H2 ⊢
  obtain ⟨rb, rs⟩ := res
  go_enter Try.func43, Try.ntmps43
  go_wp2_with fail
  refine H2.out.mono ?_
  rintro e w2 ⟨rfl, hi2, hfr2⟩
  have HI2 := Lib.hid hi2
  have HF2 := Lib.hid ((Fr.of HA.out).trans hfr2)
  clear hi2 hfr2
  go_wp2
  go_ret
  exact ⟨rfl, HI2.out, HF2.out⟩

theorem noneIn_any {σ : Type} {w0 : World} {own : σ → Option Obj → Nat → Prop} {I : σ → World → Prop} (hM : Mach w0 own I) (G : Nat) (hE : Enters G) (lb : Array Value) (f : σ → T → Bool × σ) (rem : σ → Nat) (hrem : ∀ s t, rem s ≤ rem (f s t).2 + 1) (N : Nat) :
    ∀ (l : List T), szL l ≤ N → (∀ t ∈ l, Deep (Judge2 rem w0 own I G lb f) t) → InSays rem w0 own I G lb f l := by
  induction N with
  | zero =>
    intro l hs hJ s W v hsz hr hI
    have hl : l = [] := by
      cases l with
      | nil => rfl
      | cons t l => have := sz_pos t; simp only [szL] at hs; omega
    subst hl
    exact noneIn_step hM G hE lb f rem hrem [] (fun t ht => by cases ht) (fun t ht => by cases ht) s W v hsz hr hI
  | succ N ih =>
    intro l hs hJ
    refine fun s W v hsz hr hI => noneIn_step hM G hE lb f rem hrem l (fun t ht => (hJ t ht).here) (fun t ht => ?_) s W v hsz hr hI
    obtain ⟨j, hj, rfl⟩ := List.getElem_of_mem ht
    refine ih _ ?_ (hJ _ ht).kid
    have h1 := szL_mem (List.getElem?_eq_getElem hj)
    have h2 := sz_node l[j]
    omega
end Go.Proofs.Ytajhojbnpajelaa
