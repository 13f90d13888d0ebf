/- What is done with all cells of trees; how many there are. -/
import Derived.Test.YtlpklpkalcgeaaaNoneIn
import Derived.OneCell
namespace Go.Proofs.Ytlpklpkalcgeaaa
open Go.RowKit

/-- What is done with a cell, and what is kept. -/
def Does {σ : Type} (rem : σ → Nat) (w0 : World) (own : σ → Option Obj → Nat → Prop) (I : σ → World → Prop) (F : Nat) (lb : Array Value) (g : σ → T → σ) (t : T) : Prop :=
  ∀ (s : σ) (c : C) (W : World), sz t ≤ rem s → Is w0 c t → I s W → Calls Try.prog F (#[cval c] ++ lb) W fun e w' => e = .returned (.tuple #[]) ∧ I (g s t) w' ∧ Fr own s W (g s t) w'

set_option maxRecDepth 100000 in
theorem each1_any {σ : Type} {w0 : World} {own : σ → Option Obj → Nat → Prop} {I : σ → World → Prop} (hM : Mach w0 own I) (G : Nat) (hE : Enters G) (lb : Array Value) (g : σ → T → σ) (t : T) (rem : σ → Nat) (hD : Does rem w0 own I G lb g t)
    (c : C) (W : World) (s : σ) (hsz : sz t ≤ rem s) (hi : Is w0 c t) (hI : I s W) (bx : Nat) (hc : W.cell? ⟨bx, 0, none⟩ = some (.func (.func G) #[] lb)) :
    Calls Try.prog 43 #[cval c, .pointer (some ⟨bx, 0, none⟩)] W fun e w' => e = .returned (.bool false) ∧ I (g s t) w' ∧ Fr own s W (g s t) w' := by
  have hent : ∀ (args : Array Value) (w : World), (callFunc G args).run Try.prog w = .ok (.enter G args) w := hE
  have HA : Hid (Below W.heap.size W (W.alloc (cbox c))) := (Below.refl _ _).alloc (Nat.le_refl _) _
  have hb : bx < W.heap.size := lt_of_cell hc
  have hne : bx ≠ W.heap.size := by omega
  have HK := Lib.hid (hD s c (W.alloc (cbox c)) hsz hi (hM.up _ _ _ hI HA.out))
  clear hD hi hI
  generalize g s t = rs at HK ⊢
  go_enter Try.func43, Try.ntmps43
  go_wp2_with fail
  refine HK.out.mono ?_
  rintro e w2 ⟨rfl, hi2, hfr2⟩
  have HI2 := Lib.hid hi2
  have HF2 := Lib.hid hfr2
  clear hi2 hfr2
  go_wp2
  go_ret
  exact ⟨rfl, HI2.out, (Fr.of HA.out).trans HF2.out⟩

theorem enters46 : Enters 43 := enters_of Try.func43 (by kernel_rfl) rfl

mutual
def doT {σ : Type} (g : σ → T → σ) (s : σ) : T → σ
  | .node k r i l => doL g (g s (.node k r i l)) l
def doL {σ : Type} (g : σ → T → σ) (s : σ) : List T → σ
  | [] => s
  | t :: l => doL g (doT g s t) l
end
mutual
theorem goT_do {σ : Type} (g : σ → T → σ) (s : σ) : ∀ t, goT (fun s t => (false, g s t)) s t = (false, doT g s t)
  | .node k r i l => by
    have := goL_do g (g s (.node k r i l)) l
    rw [goT, doT]; simpa using this
theorem goL_do {σ : Type} (g : σ → T → σ) (s : σ) : ∀ l, goL (fun s t => (false, g s t)) s l = (false, doL g s l)
  | [] => by rw [goL, doL]
  | t :: l => by
    have h1 := goT_do g s t
    have h2 := goL_do g (doT g s t) l
    rw [goL, doL, h1]; simpa using h2
end

set_option maxRecDepth 100000 in
theorem each_any {σ : Type} {w0 : World} {own : σ → Option Obj → Nat → Prop} {I : σ → World → Prop} (hM : Mach w0 own I) (G : Nat) (hE : Enters G) (lb : Array Value) (g : σ → T → σ) (l : List T) (rem : σ → Nat) (hrem : ∀ s t, rem s ≤ rem (g s t) + 1) (hD : ∀ t, Does rem w0 own I G lb g t)
    (s : σ) (W : World) (v : Value) (hsz : szL l ≤ rem s) (hr : RowIn w0 I v l) (hI : I s W) :
    Calls Try.prog 38 #[v, .func (.func G) #[] lb] W fun e w' => e = .returned (.tuple #[]) ∧ I (doL g s l) w' ∧ Fr own s W (doL g s l) w' := by
  have HA : Hid (Below W.heap.size W (W.alloc (.cells #[.func (.func G) #[] lb] 64))) := (Below.refl _ _).alloc (Nat.le_refl _) _
  let I' : σ → World → Prop := fun s W' => I s W' ∧ W'.cell? ⟨W.heap.size, 0, none⟩ = some (.func (.func G) #[] lb) ∧ ¬ own s W'.heap[W.heap.size]? W.heap.size
  have hM' : Mach w0 own I' := ⟨fun s W cs t h ht => hM.new s W cs t h.1 ht, fun s W h => hM.below s W h.1, fun s W1 W2 h hb => ⟨hM.up _ _ _ h.1 hb, (hb.cell (lt_of_cell h.2.1)).trans h.2.1, by rw [hb.block _ (lt_of_cell h.2.1)]; exact h.2.2⟩⟩
  have hJ' : ∀ t, Judge2 rem w0 own I' 43 #[.pointer (some ⟨W.heap.size, 0, none⟩)] (fun s t => (false, g s t)) t := fun t s1 c W1 hs1 hi h1 => by
    refine (each1_any hM G hE lb g t rem (hD t) c W1 s1 hs1 hi h1.1 W.heap.size h1.2.1).mono ?_
    rintro e w' ⟨rfl, h2, h3⟩
    exact ⟨rfl, fun _ => ⟨h2, h3.cell h1.2.1 h1.2.2, h3.keep (lt_of_cell h1.2.1) h1.2.2⟩, h3⟩
  have hdeep : ∀ (N : Nat) (t : T), sz t ≤ N → Deep (Judge2 rem w0 own I' 43 #[.pointer (some ⟨W.heap.size, 0, none⟩)] (fun s t => (false, g s t))) t := by
    intro N
    induction N with
    | zero => intro t h; have := sz_pos t; omega
    | succ N ih =>
      intro t h
      refine .mk t (hJ' t) fun u hu => ih u ?_
      obtain ⟨j, hj, rfl⟩ := List.getElem_of_mem hu
      have := sz_kid (List.getElem?_eq_getElem hj)
      omega
  have hI' : I' s (W.alloc (.cells #[.func (.func G) #[] lb] 64)) := ⟨hM.up _ _ _ hI HA.out, by simp, by rw [heap_alloc_new]; exact hM.new s W _ 64 hI (by decide)⟩
  have H := Lib.hid (noneIn_any hM' 43 enters46 _ (fun s t => (false, g s t)) rem (fun s t => hrem s t) (szL l) l (Nat.le_refl _) (fun t _ => hdeep _ t (Nat.le_refl _)) s _ v hsz (hr.mono fun s W h => h.1) hI')
  obtain ⟨⟨cs, hrow, -⟩, -⟩ := hr
  obtain ⟨a, cap, rfl⟩ := (hrow s W hI).shape
  clear hrow hJ' hI' hM' hdeep hI
  rw [goL_do] at H
  have H2 : Hid (Calls Try.prog 42 #[.slice a cs.length cap, .func (.func 43) #[] #[.pointer (some ⟨W.heap.size, 0, none⟩)]] (W.alloc (.cells #[.func (.func G) #[] lb] 64)) fun e w' => e = .returned (.bool true) ∧ I (doL g s l) w' ∧ Fr own s (W.alloc (.cells #[.func (.func G) #[] lb] 64)) (doL g s l) w') :=
    H.out.mono fun e w' ⟨h1, h2, h3⟩ => ⟨h1, (h2 rfl).1, h3⟩
  clear H
  generalize doL g s l = rs at H2 ⊢
  go_enter Try.func38, Try.ntmps38
  go_wp2_with fail
  refine H2.out.mono ?_
  rintro e w2 ⟨rfl, hi2, hfr2⟩
  have HI2 := Lib.hid hi2
  have HF2 := Lib.hid ((Fr.of HA.out).trans hfr2)
  clear hi2 hfr2
  go_wp2
  go_end0
  exact ⟨rfl, HI2.out, HF2.out⟩
end Go.Proofs.Ytlpklpkalcgeaaa
