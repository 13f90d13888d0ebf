/- Texts of this seat, 3 in one file. -/
import Derived.Test.YtcdiogifgemjbaaGreatG12
import Derived.Test.YtcdiogifgemjbaaGreatG06
import Derived.OneCell
/- Does a cell tile, and what is between its kids? -/
namespace Go.Proofs.YtcdiogifgemjbaaGreat
open Go.RowKit

/-- A cell tiles: a leaf, or its kids are what it is cut into. -/
def fitsP (t : T) : Prop := t.k = 1 ∨ (cutP t.r (axT t) (sizesT t) ∧ t.kids.map T.r = cutParts t.r (axT t) (sizesT t) true)
noncomputable def fitB (t : T) : Bool := @decide (fitsP t) (Classical.propDecidable _)
theorem fitB_iff (t : T) : fitB t = true ↔ fitsP t := by unfold fitB; simp
theorem fitB_of {t : T} {b : Bool} (h : b = true ↔ fitsP t) : b = fitB t := by
  rw [Bool.eq_iff_iff, h, fitB_iff]
def linesT (t : T) : List R := if t.k = 1 then [] else cutLines t.r (axT t) (sizesT t) true
def linesB (t : T) (b : Bool) : List R := if b = true then linesT t else []
def BtwSays (t : T) (w : World) (e : Ending) (w' : World) : Prop := ∃ v, e = .returned (.tuple #[v, .bool (fitB t)]) ∧ RRow w' v (linesB t (fitB t)) ∧ Below w.heap.size w w'
theorem btw_no {t : T} {w w' : World} {e : Ending} {v : Value} (h : ¬ fitsP t) (he : e = .returned (.tuple #[v, .bool false])) (hr : RRow w' v []) (hb : Below w.heap.size w w') : BtwSays t w e w' := by
  have : fitB t = false := by
    rw [← Bool.not_eq_true, fitB_iff]; exact h
  exact ⟨v, by rw [this]; exact he, by rw [this]; exact hr, hb⟩
theorem btw_yes {t : T} {w w' : World} {e : Ending} {v : Value} (h : fitsP t) (he : e = .returned (.tuple #[v, .bool true])) (hr : RRow w' v (linesT t)) (hb : Below w.heap.size w w') : BtwSays t w e w' := by
  have : fitB t = true := (fitB_iff t).2 h
  exact ⟨v, by rw [this]; exact he, by rw [this]; exact hr, hb⟩
theorem RRow.nil (w : World) : RRow w (.slice none 0 0) [] := .inl ⟨_, _, rfl, rfl⟩
theorem sizes_len (t : T) : (sizesT t).length = t.kids.length := by unfold sizesT; split; exact hs_len t; exact ws_len t

set_option maxRecDepth 100000 in
set_option maxHeartbeats 1600000 in
theorem between_any (t : T) (c : C) (w : World) (hi : Is w c t) (hl : t.kids.length ≤ 20000) : Calls Tryz.prog 47 #[cval c] w (BtwSays t w) := by
  have HA : Hid (Below w.heap.size w (w.alloc (cbox c))) := (Below.refl _ _).alloc (Nat.le_refl _) _
  have HC := Lib.hid (cbox_new w c)
  have hck : t.k = c.k := hi.split.1
  have hcr : t.r = c.r := hi.split.2.1
  have HI := Lib.hid hi
  have hfine := hi.fine
  have HRF := Lib.hid hfine.2.1
  have HL := Lib.hid hl
  clear hi hfine
  by_cases h1 : c.k = 1
  · have d1 : (c.k == 1) = true := by simpa using h1
    have HF : Hid (fitsP t) := Lib.hid (.inl (by rw [hck]; exact h1))
    have HLN : Hid (linesT t = []) := Lib.hid (by unfold linesT; rw [if_pos (by rw [hck]; exact h1)])
    clear hck hcr h1
    go_enter Tryz.func47, Tryz.ntmps47
    go_wp2
    go_ret2
    exact btw_yes HF.out rfl (by rw [HLN.out]; exact RRow.nil _) HA.out
  · have d1 : (c.k == 1) = false := by simpa using h1
    have HNK : Hid (¬ t.k = 1) := Lib.hid (by rw [hck]; exact h1)
    have HCR := Lib.hid hcr
    have HAL := Lib.hid (along_any t c (w.alloc (cbox c)) (HI.out.up HA.out) HL.out)
    clear hck h1 hcr
    go_enter Tryz.func47, Tryz.ntmps47
    go_wp2_with fail
    refine HAL.out.mono ?_
    rintro e w2 ⟨v2, rfl, hr2, hb2⟩
    have HB2 := Lib.hid (HA.out.trans (hb2.mono HA.out.size))
    have C2 := Lib.hid (HC.out.up hb2)
    have HCT := Lib.hid (cut_any c.r (axT t) v2 (sizesT t) w2 HRF.out hr2 (by rw [sizes_len]; have := HL.out; omega))
    obtain ⟨c0, c1, c2, c3, c4, c5, c6⟩ := C2.out
    simp only [Nat.zero_add] at c1 c2 c3 c4 c5 c6
    clear hb2 hr2
    go_wp2_with fail
    refine HCT.out.mono ?_
    rintro e w3 ⟨v3, v4, b, rfl, hbi, hr3, hr4, hb3⟩
    have HB3 := Lib.hid (HB2.out.trans (hb3.mono HB2.out.size))
    have C3 := Lib.hid (C2.out.up hb3)
    have HBI := Lib.hid hbi
    have HR3 := Lib.hid hr3
    have HR4 := Lib.hid hr4
    clear hb3 hbi hr3 hr4 c0 c1 c2 c3 c4 c5 c6
    obtain ⟨c0, c1, c2, c3, c4, c5, c6⟩ := C3.out
    simp only [Nat.zero_add] at c1 c2 c3 c4 c5 c6
    cases b with
    | false =>
      have HF : Hid (¬ fitsP t) := Lib.hid (by
        rintro (h | ⟨h, -⟩)
        · exact HNK.out h
        · rw [HCR.out] at h
          have := HBI.out.2 h; cases this)
      go_wp2
      go_ret2
      exact btw_no HF.out rfl (RRow.nil _) HB3.out
    | true =>
      have HCP := Lib.hid (HBI.out.1 rfl)
      have HEQ := Lib.hid (equalR_any t.kids (cutParts c.r (axT t) (sizesT t) true) (.slice c.a c.n c.cap) v3 w3 (HI.out.row.up HB3.out) HR3.out HI.out.len)
      go_wp2_with fail
      refine HEQ.out.mono ?_
      rintro e w4 ⟨rfl, hb4⟩
      have HB4 := Lib.hid (HB3.out.trans (hb4.mono HB3.out.size))
      have HR5 := Lib.hid (HR4.out.up hb4)
      clear hb4 c0 c1 c2 c3 c4 c5 c6
      by_cases hq : t.kids.map T.r = cutParts c.r (axT t) (sizesT t) true
      · have HF : Hid (fitsP t) := Lib.hid (.inr (by rw [HCR.out]; exact ⟨HCP.out, hq⟩))
        have HLN : Hid (linesT t = cutLines c.r (axT t) (sizesT t) true) := Lib.hid (by unfold linesT; rw [if_neg HNK.out, HCR.out])
        rw [decide_eq_true hq]
        clear hq
        go_wp2
        go_ret2
        exact btw_yes HF.out rfl (by rw [HLN.out]; exact HR5.out) HB4.out
      · have HF : Hid (¬ fitsP t) := Lib.hid (by
          rintro (h | ⟨-, h⟩)
          · exact HNK.out h
          · rw [HCR.out] at h; exact hq h)
        rw [decide_eq_false hq]
        clear hq
        go_wp2
        go_ret2
        exact btw_no HF.out rfl (RRow.nil _) HB4.out
end Go.Proofs.YtcdiogifgemjbaaGreat
/- What is done with all cells of trees; how many there are. -/
namespace Go.Proofs.YtcdiogifgemjbaaGreat
open Go.RowKit

/-- What is done with a cell, and what is kept. -/
def Does {σ : Type} (rem : σ → Nat) (w0 : World) (own : σ → Option Obj → Nat → Prop) (I : σ → World → Prop) (F : Nat) (lb : Array Value) (g : σ → T → σ) (t : T) : Prop :=
  ∀ (s : σ) (c : C) (W : World), sz t ≤ rem s → Is w0 c t → I s W → Calls Tryz.prog F (#[cval c] ++ lb) W fun e w' => e = .returned (.tuple #[]) ∧ I (g s t) w' ∧ Fr own s W (g s t) w'

mutual
def doT {σ : Type} (g : σ → T → σ) (s : σ) : T → σ
  | .node k r i l => doL g (g s (.node k r i l)) l
def doL {σ : Type} (g : σ → T → σ) (s : σ) : List T → σ
  | [] => s
  | t :: l => doL g (doT g s t) l
end
mutual
theorem goT_do {σ : Type} (g : σ → T → σ) (s : σ) : ∀ t, goT (fun s t => (false, g s t)) s t = (false, doT g s t)
  | .node k r i l => by
    have := goL_do g (g s (.node k r i l)) l
    rw [goT, doT]; simpa using this
theorem goL_do {σ : Type} (g : σ → T → σ) (s : σ) : ∀ l, goL (fun s t => (false, g s t)) s l = (false, doL g s l)
  | [] => by rw [goL, doL]
  | t :: l => by
    have h1 := goT_do g s t
    have h2 := goL_do g (doT g s t) l
    rw [goL, doL, h1]; simpa using h2
end

end Go.Proofs.YtcdiogifgemjbaaGreat
/- How many cells trees have, together. -/
namespace Go.Proofs.YtcdiogifgemjbaaGreat
open Go.RowKit

theorem wrap_more (n : Nat) : wrap64 (wrap64 (n : Int) + 1) = wrap64 ((n + 1 : Nat) : Int) := by unfold wrap64; omega
theorem wrap_small {n : Nat} (h : n ≤ 1099511627776) : wrap64 (n : Int) = n := by unfold wrap64; omega

/-- A box of one cell. -/
abbrev Box1 (w : World) (b : Nat) (v : Value) (t : TypeId) : Prop := w.heap[b]? = some (.cells #[v] t (0, 0))
theorem Box1.up {w w' : World} {b : Nat} {v : Value} {t : TypeId} (h : Box1 w b v t) (hb : Below w.heap.size w w') : Box1 w' b v t := (hb.block b (lt_of_block h)).trans h
theorem Box1.new (w : World) (v : Value) (t : TypeId) : Box1 (w.alloc (.cells #[v] t)) w.heap.size v t := by
  show (w.heap.push _)[w.heap.size]? = _
  simp

def sizeI (w0 : World) (s : Nat) (W : World) : Prop := Below w0.heap.size w0 W ∧ Box1 W w0.heap.size (.int .i64 (wrap64 (s : Int))) 3
theorem sizeM (w0 : World) : Mach w0 (fun (_ : Nat) _ k => k = w0.heap.size) (sizeI w0) :=
  ⟨fun _ W _ _ h _ hk => by have := lt_of_block h.2; have hk' : W.heap.size = w0.heap.size := hk; omega, fun _ _ h => h.1, fun _ _ _ h hb => ⟨h.1.trans (hb.mono h.1.size), h.2.up hb⟩⟩

theorem fr_set {σ : Type} {own : σ → Option Obj → Nat → Prop} {s s1 s2 : σ} {W w1 : World} (h : Fr own s W s1 w1) (b : Nat) (v : Value) (hb : ∀ o, own s o b) (hs : ∀ k, own s2 (w1.setCell ⟨b, 0, none⟩ v).heap[k]? k → own s W.heap[k]? k ∨ W.heap.size ≤ k) : Fr own s W s2 (w1.setCell ⟨b, 0, none⟩ v) :=
  ⟨h.os, h.tape, h.output, by simpa [World.setCell] using h.size, fun k hk hn => (Below.heap_setCell w1 ⟨b, 0, none⟩ v k (fun e => hn (by subst e; exact hb _))).trans (h.block k hk hn), hs⟩

mutual
theorem doT_size (s : Nat) : ∀ t, doT (fun s (_ : T) => s + 1) s t = s + sz t
  | .node k r i l => by rw [doT, doL_size (s + 1) l, sz]; omega
theorem doL_size (s : Nat) : ∀ l, doL (fun s (_ : T) => s + 1) s l = s + szL l
  | [] => by rw [doL, szL]; rfl
  | t :: l => by rw [doL, doT_size s t, doL_size (s + sz t) l, szL]; omega
end

end Go.Proofs.YtcdiogifgemjbaaGreat
