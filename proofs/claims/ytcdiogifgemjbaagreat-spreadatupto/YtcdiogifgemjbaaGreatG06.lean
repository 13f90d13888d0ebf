/- Texts of this seat, 3 in one file. -/
import Derived.Test.YtcdiogifgemjbaaGreatG05
import Derived.Test.YtcdiogifgemjbaaGreatG02
import Derived.Laws.ResultCell
import Derived.Deep.RegionHeld3
import Derived.Test.YtcdiogifgemjbaaGreatG04
/- The same of all cells of trees, each one ahead of its kids. -/
namespace Go.Proofs.YtcdiogifgemjbaaGreat
open Go.RowKit

theorem cbox_new (w : World) (c : C) : CAt (w.alloc (cbox c)) w.heap.size 0 c := by
  refine ⟨?_, ?_, ?_, ?_, ?_, ?_, ?_⟩ <;> simp
theorem CAt.fr {σ : Type} {own : σ → Option Obj → Nat → Prop} {s s1 : σ} {W w1 : World} {b o : Nat} {c : C} (h : CAt W b o c) (hf : Fr own s W s1 w1) (hn : ¬ own s W.heap[b]? b) : CAt w1 b o c := by
  obtain ⟨h1, h2, h3, h4, h5, h6, h7⟩ := h
  exact ⟨hf.cell h1 hn, hf.cell h2 hn, hf.cell h3 hn, hf.cell h4 hn, hf.cell h5 hn, hf.cell h6 hn, hf.cell h7 hn⟩

/-- What noneIn says of trees. -/
def InSays {σ : Type} (rem : σ → Nat) (w0 : World) (own : σ → Option Obj → Nat → Prop) (I : σ → World → Prop) (G : Nat) (lb : Array Value) (f : σ → T → Bool × σ) (l : List T) : Prop :=
  ∀ (s : σ) (W : World) (v : Value), szL l ≤ rem s → RowIn w0 I v l → I s W → Calls Tryz.prog 77 #[v, .func (.func G) #[] lb] W fun e w' => e = .returned (.bool (!(goL f s l).1)) ∧ ((goL f s l).1 = false → I (goL f s l).2 w') ∧ Fr own s W (goL f s l).2 w'

set_option maxRecDepth 100000 in
theorem inner_any {σ : Type} {w0 : World} {own : σ → Option Obj → Nat → Prop} {I : σ → World → Prop} (hM : Mach w0 own I) (G : Nat) (hE : Enters G) (lb : Array Value) (f : σ → T → Bool × σ) (t : T)
    (rem : σ → Nat) (hrem : ∀ s t, rem s ≤ rem (f s t).2 + 1) (hJ : Judge2 rem w0 own I G lb f t) (hrec : InSays rem w0 own I G lb f t.kids) (c : C) (W : World) (s : σ) (hsz : sz t ≤ rem s) (hi : Is w0 c t) (hI : I s W) (bx : Nat) (hc : W.cell? ⟨bx, 0, none⟩ = some (.func (.func G) #[] lb)) (hbx : ¬ own s W.heap[bx]? bx) :
    Calls Tryz.prog 87 #[cval c, .pointer (some ⟨bx, 0, none⟩)] W fun e w' => e = .returned (.bool (goT f s t).1) ∧ ((goT f s t).1 = false → I (goT f s t).2 w') ∧ Fr own s W (goT f s t).2 w' := by
  have hent : ∀ (args : Array Value) (w : World), (callFunc G args).run Tryz.prog w = .ok (.enter G args) w := hE
  have HA : Hid (Below W.heap.size W (W.alloc (cbox c))) := (Below.refl _ _).alloc (Nat.le_refl _) _
  have hb : bx < W.heap.size := lt_of_cell hc
  have hne : bx ≠ W.heap.size := by omega
  have HK := Lib.hid (hJ s c (W.alloc (cbox c)) hsz hi (hM.up _ _ _ hI HA.out))
  have HN : Hid (¬ own s (W.alloc (cbox c)).heap[W.heap.size]? W.heap.size) := Lib.hid (by rw [heap_alloc_new]; exact hM.new s W _ 26 hI (by decide))
  have HIS := Lib.hid (RowIn.of hM hi.row hi.len)
  have HC := Lib.hid (Lib.cell?_alloc_some (cbox c) hc)
  have HX : Hid (¬ own s (W.alloc (cbox c)).heap[bx]? bx) := Lib.hid (by rw [HA.out.block bx hb]; exact hbx)
  have HREC := Lib.hid hrec
  clear hJ hi hI hbx hrec
  rw [goT_eq]
  have HSZ : Hid (szL t.kids ≤ rem (f s t).2) := Lib.hid (by have := hrem s t; have := sz_node t; omega)
  clear hsz hrem
  generalize f s t = res at HK HSZ ⊢
  obtain ⟨rb, rs⟩ := res
  cases rb
  · have HR := Lib.hid (fun W => HREC.out rs W _ HSZ.out HIS.out)
    simp only [Bool.false_eq_true, if_false]
    generalize goL f rs t.kids = res2 at HR ⊢
    obtain ⟨rb2, rs2⟩ := res2
    go_enter Tryz.func87, Tryz.ntmps87
    go_wp2_with fail
    refine HK.out.mono ?_
    rintro e w2 ⟨rfl, hi2, hfr2⟩
    have HI2 := Lib.hid (hi2 (by trivial))
    have HF2 := Lib.hid hfr2
    clear hi2 hfr2
    obtain ⟨-, -, -, -, -, -, q6⟩ := (cbox_new W c).fr HF2.out HN.out
    have q0 := HF2.out.cell HC.out HX.out
    have HR2 := Lib.hid (HR.out w2 HI2.out)
    go_wp2_with fail
    refine HR2.out.mono ?_
    rintro e w3 ⟨rfl, hi3, hfr3⟩
    have HI3 := Lib.hid hi3
    have HF3 := Lib.hid hfr3
    clear hi3 hfr3
    go_wp2
    go_ret
    exact ⟨by simp, HI3.out, ((Fr.of HA.out).trans HF2.out).trans HF3.out⟩
  · go_enter Tryz.func87, Tryz.ntmps87
    go_wp2_with fail
    refine HK.out.mono ?_
    rintro e w2 ⟨rfl, hi2, hfr2⟩
    have HF2 := Lib.hid hfr2
    clear hi2 hfr2
    go_wp2
    go_ret
    first
    | exact ⟨rfl, (fun h => by cases h), (Fr.of HA.out).trans HF2.out⟩
    | exact ⟨rfl, (Fr.of HA.out).trans HF2.out⟩

mutual
theorem rem_goT {σ : Type} (f : σ → T → Bool × σ) (rem : σ → Nat) (hrem : ∀ s t, rem s ≤ rem (f s t).2 + 1) (s : σ) : ∀ t, rem s ≤ rem (goT f s t).2 + sz t
  | .node k r i l => by
    have h1 := hrem s (.node k r i l)
    have h2 := rem_goL f rem hrem (f s (.node k r i l)).2 l
    rw [goT, sz]
    split <;> omega
theorem rem_goL {σ : Type} (f : σ → T → Bool × σ) (rem : σ → Nat) (hrem : ∀ s t, rem s ≤ rem (f s t).2 + 1) (s : σ) : ∀ l, rem s ≤ rem (goL f s l).2 + szL l
  | [] => by rw [goL]; exact Nat.le_add_right _ _
  | t :: l => by
    have h1 := rem_goT f rem hrem s t
    have h2 := rem_goL f rem hrem (goT f s t).2 l
    rw [goL, szL]
    split <;> omega
end

theorem enters49 : Enters 87 := enters_of Tryz.func87 (by kernel_rfl) rfl

/-- Each of some trees, and of their kids, and so on. -/
inductive Deep (P : T → Prop) : T → Prop
  | mk (t : T) (h : P t) (hk : ∀ u ∈ t.kids, Deep P u) : Deep P t
theorem Deep.here {P : T → Prop} {t : T} (h : Deep P t) : P t := by cases h; assumption
theorem Deep.kid {P : T → Prop} {t : T} (h : Deep P t) : ∀ u ∈ t.kids, Deep P u := by cases h; assumption

set_option maxRecDepth 100000 in
theorem noneIn_step {σ : Type} {w0 : World} {own : σ → Option Obj → Nat → Prop} {I : σ → World → Prop} (hM : Mach w0 own I) (G : Nat) (hE : Enters G) (lb : Array Value) (f : σ → T → Bool × σ) (rem : σ → Nat) (hrem : ∀ s t, rem s ≤ rem (f s t).2 + 1) (l : List T) (hJ : ∀ t ∈ l, Judge2 rem w0 own I G lb f t) (hrec : ∀ t ∈ l, InSays rem w0 own I G lb f t.kids) : InSays rem w0 own I G lb f l := by
  intro s W v hsz hr hI
  have HA : Hid (Below W.heap.size W (W.alloc (.cells #[.func (.func G) #[] lb] 28))) := (Below.refl _ _).alloc (Nat.le_refl _) _
  let I' : σ → World → Prop := fun s W' => I s W' ∧ W'.cell? ⟨W.heap.size, 0, none⟩ = some (.func (.func G) #[] lb) ∧ ¬ own s W'.heap[W.heap.size]? W.heap.size
  have hM' : Mach w0 own I' := ⟨fun s W cs t h ht => hM.new s W cs t h.1 ht, fun s W h => hM.below s W h.1, fun s W1 W2 h hb => ⟨hM.up _ _ _ h.1 hb, (hb.cell (lt_of_cell h.2.1)).trans h.2.1, by rw [hb.block _ (lt_of_cell h.2.1)]; exact h.2.2⟩⟩
  have hJ' : ∀ t ∈ l, Judge2 rem w0 own I' 87 #[.pointer (some ⟨W.heap.size, 0, none⟩)] (goT f) t := fun t ht s1 c W1 hs1 hi h1 => by
    refine (inner_any hM G hE lb f t rem hrem (hJ t ht) (hrec t ht) c W1 s1 hs1 hi h1.1 W.heap.size h1.2.1 h1.2.2).mono ?_
    rintro e w' ⟨rfl, h2, h3⟩
    exact ⟨rfl, fun hf => ⟨h2 hf, h3.cell h1.2.1 h1.2.2, h3.keep (lt_of_cell h1.2.1) h1.2.2⟩, h3⟩
  have hI' : I' s (W.alloc (.cells #[.func (.func G) #[] lb] 28)) := ⟨hM.up _ _ _ hI HA.out, by simp, by rw [heap_alloc_new]; exact hM.new s W _ 28 hI (by decide)⟩
  have H := Lib.hid (none_any hM' 87 enters49 _ (goT f) l rem hJ' v (hr.mono fun s W h => h.1) s _ hI' (fun k s1 t ht hfd => by
    have h1 := rem_goL f rem hrem s (l.take k)
    rw [goL_fold, hfd] at h1
    have h2 := szL_take_succ ht
    have h3 := szL_take_le l (k + 1)
    simp only at h1
    omega))
  obtain ⟨⟨cs, hrow, -⟩, -⟩ := hr
  obtain ⟨a, cap, rfl⟩ := (hrow s W hI).shape
  clear hrow hJ' hI' hM' hJ hrec hI
  rw [← goL_fold] at H
  have H2 : Hid (Calls Tryz.prog 60 #[.slice a cs.length cap, .func (.func 87) #[] #[.pointer (some ⟨W.heap.size, 0, none⟩)]] (W.alloc (.cells #[.func (.func G) #[] lb] 28)) fun e w' => e = .returned (.bool (!(goL f s l).1)) ∧ ((goL f s l).1 = false → I (goL f s l).2 w') ∧ Fr own s (W.alloc (.cells #[.func (.func G) #[] lb] 28)) (goL f s l).2 w') :=
    H.out.mono fun e w' ⟨h1, h2, h3⟩ => ⟨h1, fun hf => (h2 hf).1, h3⟩
  clear H
  generalize goL f s l = res at H2 ⊢
  obtain ⟨rb, rs⟩ := res
  go_enter Tryz.func77, Tryz.ntmps77
  go_wp2_with fail
  refine H2.out.mono ?_
  rintro e w2 ⟨rfl, hi2, hfr2⟩
  have HI2 := Lib.hid hi2
  have HF2 := Lib.hid ((Fr.of HA.out).trans hfr2)
  clear hi2 hfr2
  go_wp2
  go_ret
  exact ⟨rfl, HI2.out, HF2.out⟩

theorem noneIn_any {σ : Type} {w0 : World} {own : σ → Option Obj → Nat → Prop} {I : σ → World → Prop} (hM : Mach w0 own I) (G : Nat) (hE : Enters G) (lb : Array Value) (f : σ → T → Bool × σ) (rem : σ → Nat) (hrem : ∀ s t, rem s ≤ rem (f s t).2 + 1) (N : Nat) :
    ∀ (l : List T), szL l ≤ N → (∀ t ∈ l, Deep (Judge2 rem w0 own I G lb f) t) → InSays rem w0 own I G lb f l := by
  induction N with
  | zero =>
    intro l hs hJ s W v hsz hr hI
    have hl : l = [] := by
      cases l with
      | nil => rfl
      | cons t l => have := sz_pos t; simp only [szL] at hs; omega
    subst hl
    exact noneIn_step hM G hE lb f rem hrem [] (fun t ht => by cases ht) (fun t ht => by cases ht) s W v hsz hr hI
  | succ N ih =>
    intro l hs hJ
    refine fun s W v hsz hr hI => noneIn_step hM G hE lb f rem hrem l (fun t ht => (hJ t ht).here) (fun t ht => ?_) s W v hsz hr hI
    obtain ⟨j, hj, rfl⟩ := List.getElem_of_mem ht
    refine ih _ ?_ (hJ _ ht).kid
    have h1 := szL_mem (List.getElem?_eq_getElem hj)
    have h2 := sz_node l[j]
    omega
end Go.Proofs.YtcdiogifgemjbaaGreat
/- Boxes of cells that are written into; the cell at a path. -/
namespace Go.Proofs.YtcdiogifgemjbaaGreat
open Go.RowKit

theorem trow_one {w : World} {c : C} {t : T} (h : Is w c t) : TRow (w.alloc (cbox c)) (.slice (some ⟨w.heap.size, 0, none⟩) 1 1) [t] := by
  refine ⟨[c], .inr ⟨w.heap.size, 0, 1, rfl, fun j x hx => ?_⟩, rfl, fun j x u hx hu => ?_⟩
  · cases j with
    | zero => simp at hx; subst hx; simpa using cbox_new w c
    | succ j => simp at hx
  · cases j with
    | zero => simp at hx hu; subst hx; subst hu; exact h.up ((Below.refl _ _).alloc (Nat.le_refl _) _)
    | succ j => simp at hx

abbrev zeroBox : Obj := .cells #[.int .u8 0, .int .i64 0, .int .i64 0, .int .i64 0, .int .i64 0, .int .i64 0, .slice none 0 0] 26
def Zero7 (w : World) (b : Nat) : Prop := w.heap[b]? = some zeroBox
theorem zero_up {w w' : World} {b : Nat} (h : Zero7 w b) (hb : Below w.heap.size w w') : Zero7 w' b := (hb.block b (lt_of_block h)).trans h
theorem zero_new (w : World) : Zero7 (w.alloc zeroBox) w.heap.size := heap_alloc_new w _
theorem zero_parts {w : World} {b : Nat} (h : Zero7 w b) : (w.cell? ⟨b, 0, none⟩ = some (.int .u8 0) ∧ w.cell? ⟨b, 1, none⟩ = some (.int .i64 0) ∧ w.cell? ⟨b, 2, none⟩ = some (.int .i64 0) ∧ w.cell? ⟨b, 3, none⟩ = some (.int .i64 0) ∧ w.cell? ⟨b, 4, none⟩ = some (.int .i64 0) ∧ w.cell? ⟨b, 5, none⟩ = some (.int .i64 0) ∧ w.cell? ⟨b, 6, none⟩ = some (.slice none 0 0)) ∧
    (w.frozen? ⟨b, 0, none⟩ = false ∧ w.frozen? ⟨b, 1, none⟩ = false ∧ w.frozen? ⟨b, 2, none⟩ = false ∧ w.frozen? ⟨b, 3, none⟩ = false ∧ w.frozen? ⟨b, 4, none⟩ = false ∧ w.frozen? ⟨b, 5, none⟩ = false ∧ w.frozen? ⟨b, 6, none⟩ = false) := by
  have h' : w.heap[b]? = some zeroBox := h
  refine ⟨⟨?_, ?_, ?_, ?_, ?_, ?_, ?_⟩, ?_, ?_, ?_, ?_, ?_, ?_, ?_⟩ <;> simp [World.cell?, World.frozen?, h']

abbrev put7 (w : World) (b : Nat) (c : C) : World := ((((((w.setCell ⟨b, 0, none⟩ (.int .u8 c.k)).setCell ⟨b, 1, none⟩ (.int .i64 c.r.x)).setCell ⟨b, 2, none⟩ (.int .i64 c.r.y)).setCell ⟨b, 3, none⟩ (.int .i64 c.r.w)).setCell ⟨b, 4, none⟩ (.int .i64 c.r.h)).setCell ⟨b, 5, none⟩ (.int .i64 c.id)).setCell ⟨b, 6, none⟩ (.slice c.a c.n c.cap)
theorem heap_put7 {w : World} {b k : Nat} {c : C} (h : k ≠ b) : (put7 w b c).heap[k]? = w.heap[k]? := by
  unfold put7
  rw [Below.heap_setCell _ ⟨b, 6, none⟩ _ k h, Below.heap_setCell _ ⟨b, 5, none⟩ _ k h, Below.heap_setCell _ ⟨b, 4, none⟩ _ k h, Below.heap_setCell _ ⟨b, 3, none⟩ _ k h, Below.heap_setCell _ ⟨b, 2, none⟩ _ k h, Below.heap_setCell _ ⟨b, 1, none⟩ _ k h, Below.heap_setCell _ ⟨b, 0, none⟩ _ k h]
theorem cat_put7 {w : World} {b : Nat} {c0 : C} (c : C) (h : CAt w b 0 c0) : CAt (put7 w b c) b 0 c := by
  have ne : ∀ i j : Nat, i ≠ j → (⟨b, i, none⟩ : Addr) ≠ ⟨b, j, none⟩ := fun i j hij he => hij (congrArg Addr.off he)
  obtain ⟨h0, h1, h2, h3, h4, h5, h6⟩ := h
  simp only [Nat.zero_add] at h1 h2 h3 h4 h5 h6
  refine ⟨?_, ?_, ?_, ?_, ?_, ?_, ?_⟩ <;> (try simp only [Nat.zero_add])
  · rw [World.cell?_setCell_other _ _ _ _ (ne 6 0 (by omega)), World.cell?_setCell_other _ _ _ _ (ne 5 0 (by omega)), World.cell?_setCell_other _ _ _ _ (ne 4 0 (by omega)), World.cell?_setCell_other _ _ _ _ (ne 3 0 (by omega)), World.cell?_setCell_other _ _ _ _ (ne 2 0 (by omega)), World.cell?_setCell_other _ _ _ _ (ne 1 0 (by omega))]
    exact World.cell?_setCell_same _ _ _ h0
  · rw [World.cell?_setCell_other _ _ _ _ (ne 6 1 (by omega)), World.cell?_setCell_other _ _ _ _ (ne 5 1 (by omega)), World.cell?_setCell_other _ _ _ _ (ne 4 1 (by omega)), World.cell?_setCell_other _ _ _ _ (ne 3 1 (by omega)), World.cell?_setCell_other _ _ _ _ (ne 2 1 (by omega))]
    exact World.cell?_setCell_same _ _ _ (by rw [World.cell?_setCell_other _ _ _ _ (ne 0 1 (by omega))]; exact h1)
  · rw [World.cell?_setCell_other _ _ _ _ (ne 6 2 (by omega)), World.cell?_setCell_other _ _ _ _ (ne 5 2 (by omega)), World.cell?_setCell_other _ _ _ _ (ne 4 2 (by omega)), World.cell?_setCell_other _ _ _ _ (ne 3 2 (by omega))]
    exact World.cell?_setCell_same _ _ _ (by rw [World.cell?_setCell_other _ _ _ _ (ne 1 2 (by omega)), World.cell?_setCell_other _ _ _ _ (ne 0 2 (by omega))]; exact h2)
  · rw [World.cell?_setCell_other _ _ _ _ (ne 6 3 (by omega)), World.cell?_setCell_other _ _ _ _ (ne 5 3 (by omega)), World.cell?_setCell_other _ _ _ _ (ne 4 3 (by omega))]
    exact World.cell?_setCell_same _ _ _ (by rw [World.cell?_setCell_other _ _ _ _ (ne 2 3 (by omega)), World.cell?_setCell_other _ _ _ _ (ne 1 3 (by omega)), World.cell?_setCell_other _ _ _ _ (ne 0 3 (by omega))]; exact h3)
  · rw [World.cell?_setCell_other _ _ _ _ (ne 6 4 (by omega)), World.cell?_setCell_other _ _ _ _ (ne 5 4 (by omega))]
    exact World.cell?_setCell_same _ _ _ (by rw [World.cell?_setCell_other _ _ _ _ (ne 3 4 (by omega)), World.cell?_setCell_other _ _ _ _ (ne 2 4 (by omega)), World.cell?_setCell_other _ _ _ _ (ne 1 4 (by omega)), World.cell?_setCell_other _ _ _ _ (ne 0 4 (by omega))]; exact h4)
  · rw [World.cell?_setCell_other _ _ _ _ (ne 6 5 (by omega))]
    exact World.cell?_setCell_same _ _ _ (by rw [World.cell?_setCell_other _ _ _ _ (ne 4 5 (by omega)), World.cell?_setCell_other _ _ _ _ (ne 3 5 (by omega)), World.cell?_setCell_other _ _ _ _ (ne 2 5 (by omega)), World.cell?_setCell_other _ _ _ _ (ne 1 5 (by omega)), World.cell?_setCell_other _ _ _ _ (ne 0 5 (by omega))]; exact h5)
  · exact World.cell?_setCell_same _ _ _ (by rw [World.cell?_setCell_other _ _ _ _ (ne 5 6 (by omega)), World.cell?_setCell_other _ _ _ _ (ne 4 6 (by omega)), World.cell?_setCell_other _ _ _ _ (ne 3 6 (by omega)), World.cell?_setCell_other _ _ _ _ (ne 2 6 (by omega)), World.cell?_setCell_other _ _ _ _ (ne 1 6 (by omega)), World.cell?_setCell_other _ _ _ _ (ne 0 6 (by omega))]; exact h6)
theorem size_put7 (w : World) (b : Nat) (c : C) : (put7 w b c).heap.size = w.heap.size := by simp [World.setCell]
theorem below_put7 {B : Nat} {w w' : World} (h : Below B w w') {b : Nat} (hb : B ≤ b) (c : C) : Below B w (put7 w' b c) := ((((((h.setCell hb _).setCell hb _).setCell hb _).setCell hb _).setCell hb _).setCell hb _).setCell hb _
def kidAt (t : T) (k : Int) : Option T := if 0 ≤ k then t.kids[k.toNat]? else none
def atT : T → List Int → Option T
  | t, [] => some t
  | t, k :: p => match kidAt t k with
    | some u => atT u p
    | none => none
theorem kid_some {t u : T} {k : Int} (h : kidAt t k = some u) : ∃ j : Nat, k = j ∧ t.kids[j]? = some u := by
  unfold kidAt at h
  split at h
  · exact ⟨k.toNat, by omega, h⟩
  · cases h
theorem kid_none {t : T} {k : Int} (h : kidAt t k = none) : k < 0 ∨ (t.kids.length : Int) ≤ k := by
  unfold kidAt at h
  split at h
  · rw [List.getElem?_eq_none_iff] at h; omega
  · omega
theorem atT_append (t : T) (p q : List Int) : atT t (p ++ q) = match atT t p with | some u => atT u q | none => none := by
  induction p generalizing t with
  | nil => rfl
  | cons k p ih =>
    simp only [List.cons_append, atT]
    cases h : kidAt t k with
    | some u => exact ih u
    | none => rfl
theorem atT_step {t u : T} {p : List Int} {i : Nat} {k : Int} (h : atT t (p.take i) = some u) (hk : p[i]? = some k) : atT t (p.take (i + 1)) = kidAt u k := by
  rw [List.take_add_one, hk, atT_append, h]
  simp only [Option.toList, atT]
  cases kidAt u k <;> rfl
theorem atT_stop {t : T} {p : List Int} {i : Nat} (h : atT t (p.take i) = none) : atT t p = none := by
  have := atT_append t (p.take i) (p.drop i)
  rw [List.take_append_drop, h] at this
  exact this

/-- A box of a cell. -/
def Box7 (w : World) (b : Nat) (c : C) : Prop := w.heap[b]? = some (cbox c)
theorem Box7.up {w w' : World} {b : Nat} {c : C} (h : Box7 w b c) (hb : Below w.heap.size w w') : Box7 w' b c := (hb.block b (lt_of_block h)).trans h
theorem Box7.cat {w : World} {b : Nat} {c : C} (h : Box7 w b c) : CAt w b 0 c := by
  have h' : w.heap[b]? = some (cbox c) := h
  refine ⟨?_, ?_, ?_, ?_, ?_, ?_, ?_⟩ <;> simp [World.cell?, h']
theorem Box7.free {w : World} {b : Nat} {c : C} (h : Box7 w b c) (o : Nat) : w.frozen? ⟨b, o, none⟩ = false := by
  have h' : w.heap[b]? = some (cbox c) := h
  simp [World.frozen?, h']
theorem Box7.new (w : World) (c : C) : Box7 (w.alloc (cbox c)) w.heap.size c := heap_alloc_new w _
theorem set_block {w : World} {b i : Nat} {cs : Array Value} {t : TypeId} {fr : Nat × Nat} (h : w.heap[b]? = some (.cells cs t fr)) (v : Value) : (w.setCell ⟨b, i, none⟩ v).heap[b]? = some (.cells (cs.setIfInBounds i v) t fr) := by
  have hlt := lt_of_block h
  have h' : w.heap[b] = .cells cs t fr := by simpa [Array.getElem?_eq_getElem hlt] using h
  show (w.heap.modify b _)[b]? = _
  rw [Array.getElem?_eq_getElem (by simpa using hlt), Array.getElem_modify_self, h']
  rfl
theorem Box7.put {w : World} {b : Nat} {c : C} (h : Box7 w b c) (d : C) : Box7 (put7 w b d) b d := by
  have h' : w.heap[b]? = some (cbox c) := h
  have h1 := set_block (i := 0) h' (.int .u8 d.k)
  have h2 := set_block (i := 1) h1 (.int .i64 d.r.x)
  have h3 := set_block (i := 2) h2 (.int .i64 d.r.y)
  have h4 := set_block (i := 3) h3 (.int .i64 d.r.w)
  have h5 := set_block (i := 4) h4 (.int .i64 d.r.h)
  have h6 := set_block (i := 5) h5 (.int .i64 d.id)
  have h7 := set_block (i := 6) h6 (.slice d.a d.n d.cap)
  refine h7.trans ?_
  simp

theorem results_cell1 {fn : Func} {p : Tmp} (h : fn.results = #[.cell p 26]) (tmps : Array Value) (w : World) (g : Nat) (c : C) (hp : tmps.getD p undef = .pointer (some ⟨g, 0, none⟩)) (hg : Box7 w g c) :
    (results fn tmps).run Tryz.prog w = .ok (cval c) w :=
  results_cell_row h tmps w g 26 _ (0, 0) _ hp hg Tryz.underlying26 rfl (by kernel_rfl)
theorem Box7.of_zero {w : World} {b : Nat} (h : Zero7 w b) : Box7 w b ⟨0, ⟨0, 0, 0, 0⟩, 0, none, 0, 0⟩ := h

/-- A box of a cell whose kids are turned. -/
theorem Box7.kids {w : World} {b : Nat} {c : C} (h : Box7 w b c) (a : Option Addr) (n cap : Nat) : Box7 (w.setCell ⟨b, 6, none⟩ (.slice a n cap)) b ⟨c.k, c.r, c.id, a, n, cap⟩ := by
  have h' : w.heap[b]? = some (cbox c) := h
  have h1 := set_block (i := 6) h' (.slice a n cap)
  refine h1.trans ?_
  simp

end Go.Proofs.YtcdiogifgemjbaaGreat
/- Trees in memory of the call's own: which blocks they are made of. -/
namespace Go.Proofs.YtcdiogifgemjbaaGreat
open Go.RowKit

def blk (v : Value) : List Nat := match v.ownBlock with | some g => [g] | none => []

/-- A tree all of whose rows are the call's own; S: their blocks. -/
inductive OwnT (w : World) (base : Nat) : C → T → List Nat → Prop
  | mk (c : C) (kids : List T) (cs : List C) (Ss : List (List Nat)) (fine : c.fine) (row : OwnC w base (.slice c.a c.n c.cap) cs) (len : cs.length = kids.length) (slen : Ss.length = kids.length)
      (each : ∀ (j : Nat) (x : C) (t : T) (S : List Nat), cs[j]? = some x → kids[j]? = some t → Ss[j]? = some S → OwnT w base x t S) : OwnT w base c (.node c.k c.r c.id kids) (blk (.slice c.a c.n c.cap) ++ Ss.flatten)

theorem OwnT.is {w : World} {base : Nat} {c : C} {t : T} {S : List Nat} (h : OwnT w base c t S) : Is w c t := by
  induction h with
  | mk c kids cs Ss fine row len slen each ih =>
    refine .mk c kids cs row.row len fine fun j x t hx ht => ?_
    have hj : j < Ss.length := by rw [slen]; exact (List.getElem?_eq_some_iff.1 ht).1
    exact ih j x t _ hx ht (List.getElem?_eq_getElem hj)
theorem own_block {w : World} {base : Nat} {v : Value} {l : List C} (h : OwnC w base v l) {g : Nat} (hg : v.ownBlock = some g) : base ≤ g ∧ g < w.heap.size := h.lt g hg
theorem mem_flat {Ss : List (List Nat)} {k : Nat} : k ∈ Ss.flatten ↔ ∃ (j : Nat) (S : List Nat), Ss[j]? = some S ∧ k ∈ S := by
  rw [List.mem_flatten]
  constructor
  · rintro ⟨S, hS, hk⟩
    obtain ⟨j, hj, rfl⟩ := List.getElem_of_mem hS
    exact ⟨j, _, List.getElem?_eq_getElem hj, hk⟩
  · rintro ⟨j, S, hS, hk⟩
    exact ⟨S, List.mem_of_getElem? hS, hk⟩
theorem OwnT.ge {w : World} {base : Nat} {c : C} {t : T} {S : List Nat} (h : OwnT w base c t S) : ∀ k ∈ S, base ≤ k ∧ k < w.heap.size := by
  induction h with
  | mk c kids cs Ss fine row len slen each ih =>
    intro k hk
    rcases List.mem_append.1 hk with hk | hk
    · unfold blk at hk
      split at hk
      · rename_i g hg
        simp at hk; subst hk
        exact own_block row hg
      · cases hk
    · obtain ⟨j, S, hS, hkS⟩ := mem_flat.1 hk
      have hj : j < kids.length := by rw [← slen]; exact (List.getElem?_eq_some_iff.1 hS).1
      exact ih j _ _ S (List.getElem?_eq_getElem (by rw [len]; exact hj)) (List.getElem?_eq_getElem hj) hS k hkS
theorem ownC_kept {w w' : World} {base : Nat} {v : Value} {l : List C} (h : OwnC w base v l) (hk : ∀ g, v.ownBlock = some g → w'.heap[g]? = w.heap[g]?) : OwnC w' base v l := by
  refine ⟨h.1, ?_⟩
  rcases h.2 with hn | ⟨g, cap, cur, rfl, hg0, hg, rest⟩
  · exact .inl hn
  · exact .inr ⟨g, cap, cur, rfl, hg0, (hk g rfl).trans hg, rest⟩
theorem OwnT.frame {w w' : World} {base : Nat} {c : C} {t : T} {S : List Nat} (h : OwnT w base c t S) (hk : ∀ k ∈ S, w'.heap[k]? = w.heap[k]?) : OwnT w' base c t S := by
  induction h with
  | mk c kids cs Ss fine row len slen each ih =>
    refine .mk c kids cs Ss fine (ownC_kept row fun g hg => hk g (List.mem_append_left _ (by unfold blk; rw [hg]; simp))) len slen fun j x t S hx ht hS => ?_
    exact ih j x t S hx ht hS fun k hkS => hk k (List.mem_append_right _ (mem_flat.2 ⟨j, S, hS, hkS⟩))
theorem OwnT.up {w w' : World} {base : Nat} {c : C} {t : T} {S : List Nat} (h : OwnT w base c t S) (hb : Below w.heap.size w w') : OwnT w' base c t S := h.frame fun k hk => hb.block k (h.ge k hk).2
theorem OwnT.lower {w : World} {base base' : Nat} {c : C} {t : T} {S : List Nat} (h : OwnT w base c t S) (hb : base' ≤ base) : OwnT w base' c t S := by
  induction h with
  | mk c kids cs Ss fine row len slen each ih => exact .mk c kids cs Ss fine (row.lower hb) len slen ih

/-- Trees of the call's own, in a row of its own; no block is used twice. -/
structure Forest (w : World) (base : Nat) (v : Value) (cs : List C) (l : List T) (Ss : List (List Nat)) : Prop where
  row : OwnC w base v cs
  len : cs.length = l.length
  slen : Ss.length = l.length
  each : ∀ (j : Nat) (x : C) (t : T) (S : List Nat), cs[j]? = some x → l[j]? = some t → Ss[j]? = some S → OwnT w base x t S
  nodup : Ss.flatten.Nodup
  apart : ∀ g, v.ownBlock = some g → g ∉ Ss.flatten
theorem Forest.nil (w : World) (base : Nat) : Forest w base (.slice none 0 0) [] [] [] := ⟨OwnC.nil w base, rfl, rfl, fun j x t S hx => by simp at hx, List.nodup_nil, fun g hg => by cases hg⟩
theorem Forest.ge {w : World} {base : Nat} {v : Value} {cs : List C} {l : List T} {Ss : List (List Nat)} (h : Forest w base v cs l Ss) : ∀ k ∈ Ss.flatten, base ≤ k ∧ k < w.heap.size := fun k hk => by
  obtain ⟨j, S, hS, hkS⟩ := mem_flat.1 hk
  have hj : j < l.length := by rw [← h.slen]; exact (List.getElem?_eq_some_iff.1 hS).1
  exact (h.each j _ _ S (List.getElem?_eq_getElem (by rw [h.len]; exact hj)) (List.getElem?_eq_getElem hj) hS).ge k hkS
theorem Forest.frame {w w' : World} {base : Nat} {v : Value} {cs : List C} {l : List T} {Ss : List (List Nat)} (h : Forest w base v cs l Ss) (hb : Below w.heap.size w w') : Forest w' base v cs l Ss :=
  ⟨h.row.up hb, h.len, h.slen, fun j x t S hx ht hS => (h.each j x t S hx ht hS).up hb, h.nodup, h.apart⟩

theorem snoc_get {α : Type} {l : List α} {y x : α} {j : Nat} (h : (l ++ [y])[j]? = some x) : (j < l.length ∧ l[j]? = some x) ∨ (j = l.length ∧ x = y) := by
  rcases Nat.lt_trichotomy j l.length with hj | hj | hj
  · rw [List.getElem?_append_left hj] at h; exact .inl ⟨hj, h⟩
  · subst hj; simp at h; exact .inr ⟨rfl, h.symm⟩
  · rw [List.getElem?_eq_none (by simp; omega)] at h; cases h

/-- One more. -/
theorem Forest.add {wr w2 w3 : World} {o : Obj} {base b2 : Nat} {v : Value} {cs : List C} {l : List T} {Ss : List (List Nat)} {d : C} {u : T} {S2 : List Nat} {g cap : Nat}
    (h : Forest wr base v cs l Ss) (hb : Below wr.heap.size wr w2) (hd : OwnT w2 b2 d u S2) (hS2 : S2.Nodup) (hb2 : wr.heap.size ≤ b2) (hbb : base ≤ b2)
    (hown : OwnC w3 base (.slice (some ⟨g, 0, none⟩) (cs ++ [d]).length cap) (cs ++ [d])) (hgr : (w2.alloc o).grownBy w3 v.ownBlock) (hpl : v.ownBlock = some g ∨ g = (w2.alloc o).heap.size) :
    Forest w3 base (.slice (some ⟨g, 0, none⟩) (cs ++ [d]).length cap) (cs ++ [d]) (l ++ [u]) (Ss ++ [S2]) := by
  have hsame : ∀ k, k < w2.heap.size → v.ownBlock ≠ some k → w3.heap[k]? = w2.heap[k]? := fun k hk hne => by
    rw [hgr.block k (by simp; omega) (fun e => hne e.symm)]
    exact ((Below.refl w2.heap.size w2).alloc (Nat.le_refl _) o).block k hk
  have hvb : ∀ k, v.ownBlock = some k → k < wr.heap.size := fun k hk => (own_block h.row hk).2
  have hold : ∀ k ∈ Ss.flatten, w3.heap[k]? = wr.heap[k]? := fun k hk => by
    have h1 := (h.ge k hk).2
    rw [hsame k (Nat.lt_of_lt_of_le h1 hb.size) (fun e => h.apart k e hk), hb.block k h1]
  have hnew : ∀ k ∈ S2, w3.heap[k]? = w2.heap[k]? := fun k hk => by
    have h1 := hd.ge k hk
    exact hsame k h1.2 fun e => by have := hvb k e; omega
  refine ⟨hown, by simp [h.len], by simp [h.slen], fun j x t S hx ht hS => ?_, ?_, fun k hk => ?_⟩
  · rcases snoc_get hx with ⟨hj, hx'⟩ | ⟨hj, rfl⟩
    · rcases snoc_get ht with ⟨_, ht'⟩ | ⟨hj', _⟩
      · rcases snoc_get hS with ⟨_, hS'⟩ | ⟨hj', _⟩
        · exact (h.each j x t S hx' ht' hS').frame fun k hk => hold k (mem_flat.2 ⟨j, S, hS', hk⟩)
        · rw [h.slen, ← h.len] at hj'; omega
      · rw [← h.len] at hj'; omega
    · rcases snoc_get ht with ⟨hj', _⟩ | ⟨_, rfl⟩
      · rw [← h.len] at hj'; omega
      · rcases snoc_get hS with ⟨hj', _⟩ | ⟨_, rfl⟩
        · rw [h.slen, ← h.len] at hj'; omega
        · exact (hd.lower hbb).frame hnew
  · rw [List.flatten_append]
    simp only [List.flatten_cons, List.flatten_nil, List.append_nil]
    rw [List.nodup_append]
    refine ⟨h.nodup, hS2, fun a ha b hb' e => ?_⟩
    subst e
    have h1 := (h.ge a ha).2
    have h2 := (hd.ge a hb').1
    omega
  · have hk' : g = k := by simpa [Value.ownBlock] using hk
    subst hk'
    rw [List.flatten_append, List.mem_append]
    simp only [List.flatten_cons, List.flatten_nil, List.append_nil]
    rintro (hm | hm)
    · rcases hpl with hp | hp
      · exact h.apart g hp hm
      · have h1 := (h.ge g hm).2; have := hb.size; simp at hp; omega
    · have h2 := hd.ge g hm
      rcases hpl with hp | hp
      · have := hvb g hp; omega
      · simp at hp; omega
end Go.Proofs.YtcdiogifgemjbaaGreat
