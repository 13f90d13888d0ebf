/- Texts of this seat, 3 in one file. -/
import Derived.Test.YtbbjnimadnbmnaaGreatG14
import Derived.Test.YtbbjnimadnbmnaaGreatG04
import Derived.OneCell
/- Does a cell tile, and what is between its kids? -/
namespace Go.Proofs.YtbbjnimadnbmnaaGreat
open Go.RowKit

/-- A cell tiles: a leaf, or its kids are what it is cut into. -/
def fitsP (t : T) : Prop := t.k = 1 ∨ (cutP t.r (axT t) (sizesT t) ∧ t.kids.map T.r = cutParts t.r (axT t) (sizesT t) true)
noncomputable def fitB (t : T) : Bool := @decide (fitsP t) (Classical.propDecidable _)
theorem fitB_iff (t : T) : fitB t = true ↔ fitsP t := by unfold fitB; simp
theorem fitB_of {t : T} {b : Bool} (h : b = true ↔ fitsP t) : b = fitB t := by
  rw [Bool.eq_iff_iff, h, fitB_iff]
def linesT (t : T) : List R := if t.k = 1 then [] else cutLines t.r (axT t) (sizesT t) true
def linesB (t : T) (b : Bool) : List R := if b = true then linesT t else []
def BtwSays (t : T) (w : World) (e : Ending) (w' : World) : Prop := ∃ v, e = .returned (.tuple #[v, .bool (fitB t)]) ∧ RRow w' v (linesB t (fitB t)) ∧ Below w.heap.size w w'
theorem btw_no {t : T} {w w' : World} {e : Ending} {v : Value} (h : ¬ fitsP t) (he : e = .returned (.tuple #[v, .bool false])) (hr : RRow w' v []) (hb : Below w.heap.size w w') : BtwSays t w e w' := by
  have : fitB t = false := by
    rw [← Bool.not_eq_true, fitB_iff]; exact h
  exact ⟨v, by rw [this]; exact he, by rw [this]; exact hr, hb⟩
theorem btw_yes {t : T} {w w' : World} {e : Ending} {v : Value} (h : fitsP t) (he : e = .returned (.tuple #[v, .bool true])) (hr : RRow w' v (linesT t)) (hb : Below w.heap.size w w') : BtwSays t w e w' := by
  have : fitB t = true := (fitB_iff t).2 h
  exact ⟨v, by rw [this]; exact he, by rw [this]; exact hr, hb⟩
theorem RRow.nil (w : World) : RRow w (.slice none 0 0) [] := .inl ⟨_, _, rfl, rfl⟩
theorem sizes_len (t : T) : (sizesT t).length = t.kids.length := by unfold sizesT; split; exact hs_len t; exact ws_len t

set_option maxRecDepth 100000 in
set_option maxHeartbeats 1600000 in
theorem between_any (t : T) (c : C) (w : World) (hi : Is w c t) (hl : t.kids.length ≤ 20000) : Calls Tryz.prog 67 #[cval c] w (BtwSays t w) := by
  have HA : Hid (Below w.heap.size w (w.alloc (cbox c))) := (Below.refl _ _).alloc (Nat.le_refl _) _
  have HC := Lib.hid (cbox_new w c)
  have hck : t.k = c.k := hi.split.1
  have hcr : t.r = c.r := hi.split.2.1
  have HI := Lib.hid hi
  have hfine := hi.fine
  have HRF := Lib.hid hfine.2.1
  have HL := Lib.hid hl
  clear hi hfine
  by_cases h1 : c.k = 1
  · have d1 : (c.k == 1) = true := by simpa using h1
    have HF : Hid (fitsP t) := Lib.hid (.inl (by rw [hck]; exact h1))
    have HLN : Hid (linesT t = []) := Lib.hid (by unfold linesT; rw [if_pos (by rw [hck]; exact h1)])
    clear hck hcr h1
    go_enter Tryz.func67, Tryz.ntmps67
    go_wp2
    go_ret2
    exact btw_yes HF.out rfl (by rw [HLN.out]; exact RRow.nil _) HA.out
  · have d1 : (c.k == 1) = false := by simpa using h1
    have HNK : Hid (¬ t.k = 1) := Lib.hid (by rw [hck]; exact h1)
    have HCR := Lib.hid hcr
    have HAL := Lib.hid (along_any t c (w.alloc (cbox c)) (HI.out.up HA.out) HL.out)
    clear hck h1 hcr
    go_enter Tryz.func67, Tryz.ntmps67
    go_wp2_with fail
    refine HAL.out.mono ?_
    rintro e w2 ⟨v2, rfl, hr2, hb2⟩
    have HB2 := Lib.hid (HA.out.trans (hb2.mono HA.out.size))
    have C2 := Lib.hid (HC.out.up hb2)
    have HCT := Lib.hid (cut_any c.r (axT t) v2 (sizesT t) w2 HRF.out hr2 (by rw [sizes_len]; have := HL.out; omega))
    obtain ⟨c0, c1, c2, c3, c4, c5, c6⟩ := C2.out
    simp only [Nat.zero_add] at c1 c2 c3 c4 c5 c6
    clear hb2 hr2
    go_wp2_with fail
    refine HCT.out.mono ?_
    rintro e w3 ⟨v3, v4, b, rfl, hbi, hr3, hr4, hb3⟩
    have HB3 := Lib.hid (HB2.out.trans (hb3.mono HB2.out.size))
    have C3 := Lib.hid (C2.out.up hb3)
    have HBI := Lib.hid hbi
    have HR3 := Lib.hid hr3
    have HR4 := Lib.hid hr4
    clear hb3 hbi hr3 hr4 c0 c1 c2 c3 c4 c5 c6
    obtain ⟨c0, c1, c2, c3, c4, c5, c6⟩ := C3.out
    simp only [Nat.zero_add] at c1 c2 c3 c4 c5 c6
    cases b with
    | false =>
      have HF : Hid (¬ fitsP t) := Lib.hid (by
        rintro (h | ⟨h, -⟩)
        · exact HNK.out h
        · rw [HCR.out] at h
          have := HBI.out.2 h; cases this)
      go_wp2
      go_ret2
      exact btw_no HF.out rfl (RRow.nil _) HB3.out
    | true =>
      have HCP := Lib.hid (HBI.out.1 rfl)
      have HEQ := Lib.hid (equalR_any t.kids (cutParts c.r (axT t) (sizesT t) true) (.slice c.a c.n c.cap) v3 w3 (HI.out.row.up HB3.out) HR3.out HI.out.len)
      go_wp2_with fail
      refine HEQ.out.mono ?_
      rintro e w4 ⟨rfl, hb4⟩
      have HB4 := Lib.hid (HB3.out.trans (hb4.mono HB3.out.size))
      have HR5 := Lib.hid (HR4.out.up hb4)
      clear hb4 c0 c1 c2 c3 c4 c5 c6
      by_cases hq : t.kids.map T.r = cutParts c.r (axT t) (sizesT t) true
      · have HF : Hid (fitsP t) := Lib.hid (.inr (by rw [HCR.out]; exact ⟨HCP.out, hq⟩))
        have HLN : Hid (linesT t = cutLines c.r (axT t) (sizesT t) true) := Lib.hid (by unfold linesT; rw [if_neg HNK.out, HCR.out])
        rw [decide_eq_true hq]
        clear hq
        go_wp2
        go_ret2
        exact btw_yes HF.out rfl (by rw [HLN.out]; exact HR5.out) HB4.out
      · have HF : Hid (¬ fitsP t) := Lib.hid (by
          rintro (h | ⟨-, h⟩)
          · exact HNK.out h
          · rw [HCR.out] at h; exact hq h)
        rw [decide_eq_false hq]
        clear hq
        go_wp2
        go_ret2
        exact btw_no HF.out rfl (RRow.nil _) HB4.out
end Go.Proofs.YtbbjnimadnbmnaaGreat
/- What is done with all cells of trees; how many there are. -/
namespace Go.Proofs.YtbbjnimadnbmnaaGreat
open Go.RowKit

/-- What is done with a cell, and what is kept. -/
def Does {σ : Type} (rem : σ → Nat) (w0 : World) (own : σ → Option Obj → Nat → Prop) (I : σ → World → Prop) (F : Nat) (lb : Array Value) (g : σ → T → σ) (t : T) : Prop :=
  ∀ (s : σ) (c : C) (W : World), sz t ≤ rem s → Is w0 c t → I s W → Calls Tryz.prog F (#[cval c] ++ lb) W fun e w' => e = .returned (.tuple #[]) ∧ I (g s t) w' ∧ Fr own s W (g s t) w'

set_option maxRecDepth 100000 in
theorem each1_any {σ : Type} {w0 : World} {own : σ → Option Obj → Nat → Prop} {I : σ → World → Prop} (hM : Mach w0 own I) (G : Nat) (hE : Enters G) (lb : Array Value) (g : σ → T → σ) (t : T) (rem : σ → Nat) (hD : Does rem w0 own I G lb g t)
    (c : C) (W : World) (s : σ) (hsz : sz t ≤ rem s) (hi : Is w0 c t) (hI : I s W) (bx : Nat) (hc : W.cell? ⟨bx, 0, none⟩ = some (.func (.func G) #[] lb)) :
    Calls Tryz.prog 70 #[cval c, .pointer (some ⟨bx, 0, none⟩)] W fun e w' => e = .returned (.bool false) ∧ I (g s t) w' ∧ Fr own s W (g s t) w' := by
  have hent : ∀ (args : Array Value) (w : World), (callFunc G args).run Tryz.prog w = .ok (.enter G args) w := hE
  have HA : Hid (Below W.heap.size W (W.alloc (cbox c))) := (Below.refl _ _).alloc (Nat.le_refl _) _
  have hb : bx < W.heap.size := lt_of_cell hc
  have hne : bx ≠ W.heap.size := by omega
  have HK := Lib.hid (hD s c (W.alloc (cbox c)) hsz hi (hM.up _ _ _ hI HA.out))
  clear hD hi hI
  generalize g s t = rs at HK ⊢
  go_enter Tryz.func70, Tryz.ntmps70
  go_wp2_with fail
  refine HK.out.mono ?_
  rintro e w2 ⟨rfl, hi2, hfr2⟩
  have HI2 := Lib.hid hi2
  have HF2 := Lib.hid hfr2
  clear hi2 hfr2
  go_wp2
  go_ret
  exact ⟨rfl, HI2.out, (Fr.of HA.out).trans HF2.out⟩

theorem enters46 : Enters 70 := enters_of Tryz.func70 (by kernel_rfl) rfl

mutual
def doT {σ : Type} (g : σ → T → σ) (s : σ) : T → σ
  | .node k r i l => doL g (g s (.node k r i l)) l
def doL {σ : Type} (g : σ → T → σ) (s : σ) : List T → σ
  | [] => s
  | t :: l => doL g (doT g s t) l
end
mutual
theorem goT_do {σ : Type} (g : σ → T → σ) (s : σ) : ∀ t, goT (fun s t => (false, g s t)) s t = (false, doT g s t)
  | .node k r i l => by
    have := goL_do g (g s (.node k r i l)) l
    rw [goT, doT]; simpa using this
theorem goL_do {σ : Type} (g : σ → T → σ) (s : σ) : ∀ l, goL (fun s t => (false, g s t)) s l = (false, doL g s l)
  | [] => by rw [goL, doL]
  | t :: l => by
    have h1 := goT_do g s t
    have h2 := goL_do g (doT g s t) l
    rw [goL, doL, h1]; simpa using h2
end

set_option maxRecDepth 100000 in
theorem each_any {σ : Type} {w0 : World} {own : σ → Option Obj → Nat → Prop} {I : σ → World → Prop} (hM : Mach w0 own I) (G : Nat) (hE : Enters G) (lb : Array Value) (g : σ → T → σ) (l : List T) (rem : σ → Nat) (hrem : ∀ s t, rem s ≤ rem (g s t) + 1) (hD : ∀ t, Does rem w0 own I G lb g t)
    (s : σ) (W : World) (v : Value) (hsz : szL l ≤ rem s) (hr : RowIn w0 I v l) (hI : I s W) :
    Calls Tryz.prog 44 #[v, .func (.func G) #[] lb] W fun e w' => e = .returned (.tuple #[]) ∧ I (doL g s l) w' ∧ Fr own s W (doL g s l) w' := by
  have HA : Hid (Below W.heap.size W (W.alloc (.cells #[.func (.func G) #[] lb] 77))) := (Below.refl _ _).alloc (Nat.le_refl _) _
  let I' : σ → World → Prop := fun s W' => I s W' ∧ W'.cell? ⟨W.heap.size, 0, none⟩ = some (.func (.func G) #[] lb) ∧ ¬ own s W'.heap[W.heap.size]? W.heap.size
  have hM' : Mach w0 own I' := ⟨fun s W cs t h ht => hM.new s W cs t h.1 ht, fun s W h => hM.below s W h.1, fun s W1 W2 h hb => ⟨hM.up _ _ _ h.1 hb, (hb.cell (lt_of_cell h.2.1)).trans h.2.1, by rw [hb.block _ (lt_of_cell h.2.1)]; exact h.2.2⟩⟩
  have hJ' : ∀ t, Judge2 rem w0 own I' 70 #[.pointer (some ⟨W.heap.size, 0, none⟩)] (fun s t => (false, g s t)) t := fun t s1 c W1 hs1 hi h1 => by
    refine (each1_any hM G hE lb g t rem (hD t) c W1 s1 hs1 hi h1.1 W.heap.size h1.2.1).mono ?_
    rintro e w' ⟨rfl, h2, h3⟩
    exact ⟨rfl, fun _ => ⟨h2, h3.cell h1.2.1 h1.2.2, h3.keep (lt_of_cell h1.2.1) h1.2.2⟩, h3⟩
  have hdeep : ∀ (N : Nat) (t : T), sz t ≤ N → Deep (Judge2 rem w0 own I' 70 #[.pointer (some ⟨W.heap.size, 0, none⟩)] (fun s t => (false, g s t))) t := by
    intro N
    induction N with
    | zero => intro t h; have := sz_pos t; omega
    | succ N ih =>
      intro t h
      refine .mk t (hJ' t) fun u hu => ih u ?_
      obtain ⟨j, hj, rfl⟩ := List.getElem_of_mem hu
      have := sz_kid (List.getElem?_eq_getElem hj)
      omega
  have hI' : I' s (W.alloc (.cells #[.func (.func G) #[] lb] 77)) := ⟨hM.up _ _ _ hI HA.out, by simp, by rw [heap_alloc_new]; exact hM.new s W _ 77 hI (by decide)⟩
  have H := Lib.hid (noneIn_any hM' 70 enters46 _ (fun s t => (false, g s t)) rem (fun s t => hrem s t) (szL l) l (Nat.le_refl _) (fun t _ => hdeep _ t (Nat.le_refl _)) s _ v hsz (hr.mono fun s W h => h.1) hI')
  obtain ⟨⟨cs, hrow, -⟩, -⟩ := hr
  obtain ⟨a, cap, rfl⟩ := (hrow s W hI).shape
  clear hrow hJ' hI' hM' hdeep hI
  rw [goL_do] at H
  have H2 : Hid (Calls Tryz.prog 69 #[.slice a cs.length cap, .func (.func 70) #[] #[.pointer (some ⟨W.heap.size, 0, none⟩)]] (W.alloc (.cells #[.func (.func G) #[] lb] 77)) fun e w' => e = .returned (.bool true) ∧ I (doL g s l) w' ∧ Fr own s (W.alloc (.cells #[.func (.func G) #[] lb] 77)) (doL g s l) w') :=
    H.out.mono fun e w' ⟨h1, h2, h3⟩ => ⟨h1, (h2 rfl).1, h3⟩
  clear H
  generalize doL g s l = rs at H2 ⊢
  go_enter Tryz.func44, Tryz.ntmps44
  go_wp2_with fail
  refine H2.out.mono ?_
  rintro e w2 ⟨rfl, hi2, hfr2⟩
  have HI2 := Lib.hid hi2
  have HF2 := Lib.hid ((Fr.of HA.out).trans hfr2)
  clear hi2 hfr2
  go_wp2
  go_end0
  exact ⟨rfl, HI2.out, HF2.out⟩
end Go.Proofs.YtbbjnimadnbmnaaGreat
/- How many cells trees have, together. -/
namespace Go.Proofs.YtbbjnimadnbmnaaGreat
open Go.RowKit

theorem wrap_more (n : Nat) : wrap64 (wrap64 (n : Int) + 1) = wrap64 ((n + 1 : Nat) : Int) := by unfold wrap64; omega
theorem wrap_small {n : Nat} (h : n ≤ 1099511627776) : wrap64 (n : Int) = n := by unfold wrap64; omega

/-- A box of one cell. -/
abbrev Box1 (w : World) (b : Nat) (v : Value) (t : TypeId) : Prop := w.heap[b]? = some (.cells #[v] t (0, 0))
theorem Box1.up {w w' : World} {b : Nat} {v : Value} {t : TypeId} (h : Box1 w b v t) (hb : Below w.heap.size w w') : Box1 w' b v t := (hb.block b (lt_of_block h)).trans h
theorem Box1.new (w : World) (v : Value) (t : TypeId) : Box1 (w.alloc (.cells #[v] t)) w.heap.size v t := by
  show (w.heap.push _)[w.heap.size]? = _
  simp

def sizeI (w0 : World) (s : Nat) (W : World) : Prop := Below w0.heap.size w0 W ∧ Box1 W w0.heap.size (.int .i64 (wrap64 (s : Int))) 3
theorem sizeM (w0 : World) : Mach w0 (fun (_ : Nat) _ k => k = w0.heap.size) (sizeI w0) :=
  ⟨fun _ W _ _ h _ hk => by have := lt_of_block h.2; have hk' : W.heap.size = w0.heap.size := hk; omega, fun _ _ h => h.1, fun _ _ _ h hb => ⟨h.1.trans (hb.mono h.1.size), h.2.up hb⟩⟩

theorem fr_set {σ : Type} {own : σ → Option Obj → Nat → Prop} {s s1 s2 : σ} {W w1 : World} (h : Fr own s W s1 w1) (b : Nat) (v : Value) (hb : ∀ o, own s o b) (hs : ∀ k, own s2 (w1.setCell ⟨b, 0, none⟩ v).heap[k]? k → own s W.heap[k]? k ∨ W.heap.size ≤ k) : Fr own s W s2 (w1.setCell ⟨b, 0, none⟩ v) :=
  ⟨h.os, h.tape, h.output, by simpa [World.setCell] using h.size, fun k hk hn => (Below.heap_setCell w1 ⟨b, 0, none⟩ v k (fun e => hn (by subst e; exact hb _))).trans (h.block k hk hn), hs⟩

theorem size1_does (w0 : World) (M : Nat) (t : T) : Does (fun _ => M) w0 (fun (_ : Nat) _ k => k = w0.heap.size) (sizeI w0) 54 #[.pointer (some ⟨w0.heap.size, 0, none⟩)] (fun s _ => s + 1) t := by
  intro s c W _ hi hI
  have HI := Lib.hid hI
  have hlt : w0.heap.size < W.heap.size := lt_of_block hI.2
  have hne : w0.heap.size ≠ W.heap.size := by omega
  have q0 := cell_of_one hI.2
  have q1 := free_of_one hI.2
  clear hi hI
  show Calls Tryz.prog 54 #[cval c, .pointer (some ⟨w0.heap.size, 0, none⟩)] W _
  go_enter Tryz.func54, Tryz.ntmps54
  go_wp2
  go_end0
  rw [wrap_more]
  have hset : Below w0.heap.size w0 (W.setCell ⟨w0.heap.size, 0, none⟩ (.int .i64 (wrap64 ((s + 1 : Nat) : Int)))) := HI.out.1.setCell (Nat.le_refl _) _
  exact ⟨rfl, ⟨hset.alloc hset.size _, Box1.up (one_setCell HI.out.2) ((Below.refl _ _).alloc (Nat.le_refl _) _)⟩, Fr.trans (own := fun (_ : Nat) _ k => k = w0.heap.size) (s := s) (s1 := s + 1) (s2 := s + 1) (fr_set (own := fun (_ : Nat) _ k => k = w0.heap.size) (s := s) (s1 := s) (Fr.of (Below.refl _ _)) _ _ (fun _ => rfl) (fun k hk => .inl hk)) (Fr.of ((Below.refl _ _).alloc (Nat.le_refl _) _))⟩

theorem enters35 : Enters 54 := enters_of Tryz.func54 (by kernel_rfl) rfl

mutual
theorem doT_size (s : Nat) : ∀ t, doT (fun s (_ : T) => s + 1) s t = s + sz t
  | .node k r i l => by rw [doT, doL_size (s + 1) l, sz]; omega
theorem doL_size (s : Nat) : ∀ l, doL (fun s (_ : T) => s + 1) s l = s + szL l
  | [] => by rw [doL, szL]; rfl
  | t :: l => by rw [doL, doT_size s t, doL_size (s + sz t) l, szL]; omega
end

set_option maxRecDepth 100000 in
theorem size_any (v : Value) (l : List T) (w : World) (hr : TRow w v l) (hl : l.length ≤ 1954687338211) :
    Calls Tryz.prog 31 #[v] w fun e w' => e = .returned (.int .i64 (wrap64 (szL l : Nat))) ∧ Below w.heap.size w w' := by
  have hI : sizeI w 0 (w.alloc (.cells #[.int .i64 0] 3)) := ⟨(Below.refl _ _).alloc (Nat.le_refl _) _, by rw [wrap_small (by omega)]; exact Box1.new _ _ _⟩
  have H := Lib.hid (each_any (sizeM w) 54 enters35 _ (fun s _ => s + 1) l (fun _ => szL l) (fun _ _ => by omega) (size1_does w (szL l)) 0 _ v (Nat.le_refl _) (RowIn.of (sizeM w) hr hl) hI)
  obtain ⟨a, cap, rfl⟩ := hr.shape
  clear hr hI
  rw [doL_size, Nat.zero_add] at H
  generalize szL l = n at H ⊢
  go_enter Tryz.func31, Tryz.ntmps31
  go_wp2_with fail
  refine H.out.mono ?_
  rintro e w2 ⟨rfl, hi2, hfr2⟩
  have HI2 := Lib.hid hi2
  clear hi2 hfr2
  have q0 := cell_of_one HI2.out.2
  go_wp2
  go_ret
  exact ⟨rfl, HI2.out.1⟩
end Go.Proofs.YtbbjnimadnbmnaaGreat
