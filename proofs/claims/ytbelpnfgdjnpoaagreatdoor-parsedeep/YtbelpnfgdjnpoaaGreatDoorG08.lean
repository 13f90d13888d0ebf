/- Texts of this seat, 3 in one file. -/
import Derived.Test.YtbelpnfgdjnpoaaGreatDoorG03
import Derived.Laws.ResultCell
import Derived.Deep.RegionHeld3
import Derived.Test.YtbelpnfgdjnpoaaGreatDoorG01
import Derived.Test.YtbelpnfgdjnpoaaGreatDoorG04
import Derived.WalkKit
import Derived.WalkSpells
import Derived.WalkLawsBesides
import Derived.Lib.OthersKept
import Derived.Lib.Hide
import Derived.Lib.Strings
import Derived.Test.YtbelpnfgdjnpoaaGreatDoorG06
/- Boxes of cells that are written into; the cell at a path. -/
namespace Go.Proofs.YtbelpnfgdjnpoaaGreatDoor
open Go.RowKit

theorem cbox_newB (w : World) (c : C) : CAt (w.alloc (cbox c)) w.heap.size 0 c := by
  refine ⟨?_, ?_, ?_, ?_, ?_, ?_, ?_⟩ <;> simp

theorem trow_one {w : World} {c : C} {t : T} (h : Is w c t) : TRow (w.alloc (cbox c)) (.slice (some ⟨w.heap.size, 0, none⟩) 1 1) [t] := by
  refine ⟨[c], .inr ⟨w.heap.size, 0, 1, rfl, fun j x hx => ?_⟩, rfl, fun j x u hx hu => ?_⟩
  · cases j with
    | zero => simp at hx; subst hx; simpa using cbox_newB w c
    | succ j => simp at hx
  · cases j with
    | zero => simp at hx hu; subst hx; subst hu; exact h.up ((Below.refl _ _).alloc (Nat.le_refl _) _)
    | succ j => simp at hx

abbrev zeroBox : Obj := .cells #[.int .u8 0, .int .i64 0, .int .i64 0, .int .i64 0, .int .i64 0, .int .i64 0, .slice none 0 0] 27
def Zero7 (w : World) (b : Nat) : Prop := w.heap[b]? = some zeroBox
theorem zero_up {w w' : World} {b : Nat} (h : Zero7 w b) (hb : Below w.heap.size w w') : Zero7 w' b := (hb.block b (lt_of_block h)).trans h
theorem zero_new (w : World) : Zero7 (w.alloc zeroBox) w.heap.size := heap_alloc_new w _
theorem zero_parts {w : World} {b : Nat} (h : Zero7 w b) : (w.cell? ⟨b, 0, none⟩ = some (.int .u8 0) ∧ w.cell? ⟨b, 1, none⟩ = some (.int .i64 0) ∧ w.cell? ⟨b, 2, none⟩ = some (.int .i64 0) ∧ w.cell? ⟨b, 3, none⟩ = some (.int .i64 0) ∧ w.cell? ⟨b, 4, none⟩ = some (.int .i64 0) ∧ w.cell? ⟨b, 5, none⟩ = some (.int .i64 0) ∧ w.cell? ⟨b, 6, none⟩ = some (.slice none 0 0)) ∧
    (w.frozen? ⟨b, 0, none⟩ = false ∧ w.frozen? ⟨b, 1, none⟩ = false ∧ w.frozen? ⟨b, 2, none⟩ = false ∧ w.frozen? ⟨b, 3, none⟩ = false ∧ w.frozen? ⟨b, 4, none⟩ = false ∧ w.frozen? ⟨b, 5, none⟩ = false ∧ w.frozen? ⟨b, 6, none⟩ = false) := by
  have h' : w.heap[b]? = some zeroBox := h
  refine ⟨⟨?_, ?_, ?_, ?_, ?_, ?_, ?_⟩, ?_, ?_, ?_, ?_, ?_, ?_, ?_⟩ <;> simp [World.cell?, World.frozen?, h']

abbrev put7 (w : World) (b : Nat) (c : C) : World := ((((((w.setCell ⟨b, 0, none⟩ (.int .u8 c.k)).setCell ⟨b, 1, none⟩ (.int .i64 c.r.x)).setCell ⟨b, 2, none⟩ (.int .i64 c.r.y)).setCell ⟨b, 3, none⟩ (.int .i64 c.r.w)).setCell ⟨b, 4, none⟩ (.int .i64 c.r.h)).setCell ⟨b, 5, none⟩ (.int .i64 c.id)).setCell ⟨b, 6, none⟩ (.slice c.a c.n c.cap)
theorem heap_put7 {w : World} {b k : Nat} {c : C} (h : k ≠ b) : (put7 w b c).heap[k]? = w.heap[k]? := by
  unfold put7
  rw [Below.heap_setCell _ ⟨b, 6, none⟩ _ k h, Below.heap_setCell _ ⟨b, 5, none⟩ _ k h, Below.heap_setCell _ ⟨b, 4, none⟩ _ k h, Below.heap_setCell _ ⟨b, 3, none⟩ _ k h, Below.heap_setCell _ ⟨b, 2, none⟩ _ k h, Below.heap_setCell _ ⟨b, 1, none⟩ _ k h, Below.heap_setCell _ ⟨b, 0, none⟩ _ k h]
theorem cat_put7 {w : World} {b : Nat} {c0 : C} (c : C) (h : CAt w b 0 c0) : CAt (put7 w b c) b 0 c := by
  have ne : ∀ i j : Nat, i ≠ j → (⟨b, i, none⟩ : Addr) ≠ ⟨b, j, none⟩ := fun i j hij he => hij (congrArg Addr.off he)
  obtain ⟨h0, h1, h2, h3, h4, h5, h6⟩ := h
  simp only [Nat.zero_add] at h1 h2 h3 h4 h5 h6
  refine ⟨?_, ?_, ?_, ?_, ?_, ?_, ?_⟩ <;> (try simp only [Nat.zero_add])
  · rw [World.cell?_setCell_other _ _ _ _ (ne 6 0 (by omega)), World.cell?_setCell_other _ _ _ _ (ne 5 0 (by omega)), World.cell?_setCell_other _ _ _ _ (ne 4 0 (by omega)), World.cell?_setCell_other _ _ _ _ (ne 3 0 (by omega)), World.cell?_setCell_other _ _ _ _ (ne 2 0 (by omega)), World.cell?_setCell_other _ _ _ _ (ne 1 0 (by omega))]
    exact World.cell?_setCell_same _ _ _ h0
  · rw [World.cell?_setCell_other _ _ _ _ (ne 6 1 (by omega)), World.cell?_setCell_other _ _ _ _ (ne 5 1 (by omega)), World.cell?_setCell_other _ _ _ _ (ne 4 1 (by omega)), World.cell?_setCell_other _ _ _ _ (ne 3 1 (by omega)), World.cell?_setCell_other _ _ _ _ (ne 2 1 (by omega))]
    exact World.cell?_setCell_same _ _ _ (by rw [World.cell?_setCell_other _ _ _ _ (ne 0 1 (by omega))]; exact h1)
  · rw [World.cell?_setCell_other _ _ _ _ (ne 6 2 (by omega)), World.cell?_setCell_other _ _ _ _ (ne 5 2 (by omega)), World.cell?_setCell_other _ _ _ _ (ne 4 2 (by omega)), World.cell?_setCell_other _ _ _ _ (ne 3 2 (by omega))]
    exact World.cell?_setCell_same _ _ _ (by rw [World.cell?_setCell_other _ _ _ _ (ne 1 2 (by omega)), World.cell?_setCell_other _ _ _ _ (ne 0 2 (by omega))]; exact h2)
  · rw [World.cell?_setCell_other _ _ _ _ (ne 6 3 (by omega)), World.cell?_setCell_other _ _ _ _ (ne 5 3 (by omega)), World.cell?_setCell_other _ _ _ _ (ne 4 3 (by omega))]
    exact World.cell?_setCell_same _ _ _ (by rw [World.cell?_setCell_other _ _ _ _ (ne 2 3 (by omega)), World.cell?_setCell_other _ _ _ _ (ne 1 3 (by omega)), World.cell?_setCell_other _ _ _ _ (ne 0 3 (by omega))]; exact h3)
  · rw [World.cell?_setCell_other _ _ _ _ (ne 6 4 (by omega)), World.cell?_setCell_other _ _ _ _ (ne 5 4 (by omega))]
    exact World.cell?_setCell_same _ _ _ (by rw [World.cell?_setCell_other _ _ _ _ (ne 3 4 (by omega)), World.cell?_setCell_other _ _ _ _ (ne 2 4 (by omega)), World.cell?_setCell_other _ _ _ _ (ne 1 4 (by omega)), World.cell?_setCell_other _ _ _ _ (ne 0 4 (by omega))]; exact h4)
  · rw [World.cell?_setCell_other _ _ _ _ (ne 6 5 (by omega))]
    exact World.cell?_setCell_same _ _ _ (by rw [World.cell?_setCell_other _ _ _ _ (ne 4 5 (by omega)), World.cell?_setCell_other _ _ _ _ (ne 3 5 (by omega)), World.cell?_setCell_other _ _ _ _ (ne 2 5 (by omega)), World.cell?_setCell_other _ _ _ _ (ne 1 5 (by omega)), World.cell?_setCell_other _ _ _ _ (ne 0 5 (by omega))]; exact h5)
  · exact World.cell?_setCell_same _ _ _ (by rw [World.cell?_setCell_other _ _ _ _ (ne 5 6 (by omega)), World.cell?_setCell_other _ _ _ _ (ne 4 6 (by omega)), World.cell?_setCell_other _ _ _ _ (ne 3 6 (by omega)), World.cell?_setCell_other _ _ _ _ (ne 2 6 (by omega)), World.cell?_setCell_other _ _ _ _ (ne 1 6 (by omega)), World.cell?_setCell_other _ _ _ _ (ne 0 6 (by omega))]; exact h6)
theorem size_put7 (w : World) (b : Nat) (c : C) : (put7 w b c).heap.size = w.heap.size := by simp [World.setCell]
theorem below_put7 {B : Nat} {w w' : World} (h : Below B w w') {b : Nat} (hb : B ≤ b) (c : C) : Below B w (put7 w' b c) := ((((((h.setCell hb _).setCell hb _).setCell hb _).setCell hb _).setCell hb _).setCell hb _).setCell hb _
def kidAt (t : T) (k : Int) : Option T := if 0 ≤ k then t.kids[k.toNat]? else none
def atT : T → List Int → Option T
  | t, [] => some t
  | t, k :: p => match kidAt t k with
    | some u => atT u p
    | none => none
theorem kid_some {t u : T} {k : Int} (h : kidAt t k = some u) : ∃ j : Nat, k = j ∧ t.kids[j]? = some u := by
  unfold kidAt at h
  split at h
  · exact ⟨k.toNat, by omega, h⟩
  · cases h
theorem kid_none {t : T} {k : Int} (h : kidAt t k = none) : k < 0 ∨ (t.kids.length : Int) ≤ k := by
  unfold kidAt at h
  split at h
  · rw [List.getElem?_eq_none_iff] at h; omega
  · omega
theorem atT_append (t : T) (p q : List Int) : atT t (p ++ q) = match atT t p with | some u => atT u q | none => none := by
  induction p generalizing t with
  | nil => rfl
  | cons k p ih =>
    simp only [List.cons_append, atT]
    cases h : kidAt t k with
    | some u => exact ih u
    | none => rfl
theorem atT_step {t u : T} {p : List Int} {i : Nat} {k : Int} (h : atT t (p.take i) = some u) (hk : p[i]? = some k) : atT t (p.take (i + 1)) = kidAt u k := by
  rw [List.take_add_one, hk, atT_append, h]
  simp only [Option.toList, atT]
  cases kidAt u k <;> rfl
theorem atT_stop {t : T} {p : List Int} {i : Nat} (h : atT t (p.take i) = none) : atT t p = none := by
  have := atT_append t (p.take i) (p.drop i)
  rw [List.take_append_drop, h] at this
  exact this

/-- A box of a cell. -/
def Box7 (w : World) (b : Nat) (c : C) : Prop := w.heap[b]? = some (cbox c)
theorem Box7.up {w w' : World} {b : Nat} {c : C} (h : Box7 w b c) (hb : Below w.heap.size w w') : Box7 w' b c := (hb.block b (lt_of_block h)).trans h
theorem Box7.cat {w : World} {b : Nat} {c : C} (h : Box7 w b c) : CAt w b 0 c := by
  have h' : w.heap[b]? = some (cbox c) := h
  refine ⟨?_, ?_, ?_, ?_, ?_, ?_, ?_⟩ <;> simp [World.cell?, h']
theorem Box7.free {w : World} {b : Nat} {c : C} (h : Box7 w b c) (o : Nat) : w.frozen? ⟨b, o, none⟩ = false := by
  have h' : w.heap[b]? = some (cbox c) := h
  simp [World.frozen?, h']
theorem Box7.new (w : World) (c : C) : Box7 (w.alloc (cbox c)) w.heap.size c := heap_alloc_new w _
theorem set_block {w : World} {b i : Nat} {cs : Array Value} {t : TypeId} {fr : Nat × Nat} (h : w.heap[b]? = some (.cells cs t fr)) (v : Value) : (w.setCell ⟨b, i, none⟩ v).heap[b]? = some (.cells (cs.setIfInBounds i v) t fr) := by
  have hlt := lt_of_block h
  have h' : w.heap[b] = .cells cs t fr := by simpa [Array.getElem?_eq_getElem hlt] using h
  show (w.heap.modify b _)[b]? = _
  rw [Array.getElem?_eq_getElem (by simpa using hlt), Array.getElem_modify_self, h']
  rfl
theorem Box7.put {w : World} {b : Nat} {c : C} (h : Box7 w b c) (d : C) : Box7 (put7 w b d) b d := by
  have h' : w.heap[b]? = some (cbox c) := h
  have h1 := set_block (i := 0) h' (.int .u8 d.k)
  have h2 := set_block (i := 1) h1 (.int .i64 d.r.x)
  have h3 := set_block (i := 2) h2 (.int .i64 d.r.y)
  have h4 := set_block (i := 3) h3 (.int .i64 d.r.w)
  have h5 := set_block (i := 4) h4 (.int .i64 d.r.h)
  have h6 := set_block (i := 5) h5 (.int .i64 d.id)
  have h7 := set_block (i := 6) h6 (.slice d.a d.n d.cap)
  refine h7.trans ?_
  simp

theorem results_cell1 {fn : Func} {p : Tmp} (h : fn.results = #[.cell p 27]) (tmps : Array Value) (w : World) (g : Nat) (c : C) (hp : tmps.getD p undef = .pointer (some ⟨g, 0, none⟩)) (hg : Box7 w g c) :
    (results fn tmps).run Tryz.prog w = .ok (cval c) w :=
  results_cell_row h tmps w g 27 _ (0, 0) _ hp hg Tryz.underlying27 rfl (by kernel_rfl)
theorem Box7.of_zero {w : World} {b : Nat} (h : Zero7 w b) : Box7 w b ⟨0, ⟨0, 0, 0, 0⟩, 0, none, 0, 0⟩ := h

/-- A box of a cell whose kids are turned. -/
theorem Box7.kids {w : World} {b : Nat} {c : C} (h : Box7 w b c) (a : Option Addr) (n cap : Nat) : Box7 (w.setCell ⟨b, 6, none⟩ (.slice a n cap)) b ⟨c.k, c.r, c.id, a, n, cap⟩ := by
  have h' : w.heap[b]? = some (cbox c) := h
  have h1 := set_block (i := 6) h' (.slice a n cap)
  refine h1.trans ?_
  simp

end Go.Proofs.YtbelpnfgdjnpoaaGreatDoor
/- num.Head (s01, trimmed). What num's and the document's functions on numbers' texts answer, call by call: Head, Read. -/
namespace Go.Proofs.YtbelpnfgdjnpoaaGreatDoor
open Go.RowKit Sash.Num


set_option maxHeartbeats 400000 in
set_option maxRecDepth 100000 in
theorem countDigits_any (s : ByteArray) (w : World) :
    Calls Tryz.prog 129 #[.string s] w fun e w' => e = .returned (.int .i64 (cnt s.data.toList)) ∧ Below w.heap.size w w' := by
  go_enter Tryz.func129, Tryz.ntmps129
  go_wp2
  go_loopw [3] (fun _ wr => ∃ pos : Nat, pos ≤ s.size ∧ pos ≤ cnt s.data.toList ∧ wr = w.iter s pos) (fun _ wr => s.size - wr.iterPos w.heap.size)
  case atStart => exact ⟨0, Nat.zero_le _, Nat.zero_le _, rfl⟩
  case round =>
    obtain ⟨pos, hp, hc, rfl⟩ := hrel
    have hle := bcnt_le s
    by_cases hlt : pos < s.size
    · by_cases ha : (s[pos]'hlt).toNat < 128
      · have hnx : ∀ ty, (Instr.next (.pointer (some ⟨w.heap.size, 0, none⟩)) true ty).run Tryz.prog (w.iter s pos) = _ := fun ty => run_next_ascii w s pos ty hlt ha
        by_cases h1 : 48 ≤ (s[pos]'hlt).toNat
        · by_cases h2 : (s[pos]'hlt).toNat ≤ 57
          · have hy := bcnt_yes s pos hlt hc h1 h2
            have d1 : decide ((48 : Int) ≤ ((s[pos]'hlt).toNat : Int)) = true := by simp; omega
            have d2 : decide (((s[pos]'hlt).toNat : Int) ≤ 57) = true := by simp; omega
            go_wp2
            go_roundw
            case rel => exact ⟨pos + 1, by omega, hy, rfl⟩
            case measure => simp; omega
          · have hn := Lib.hid (bcnt_no s pos hlt hc (by omega))
            have d1 : decide ((48 : Int) ≤ ((s[pos]'hlt).toNat : Int)) = true := by simp; omega
            have d2 : decide (((s[pos]'hlt).toNat : Int) ≤ 57) = false := by simp; omega
            go_wp2
            go_ret
            exact ⟨ret_int (by rw [hn.out]), (Below.refl _ w).alloc (Nat.le_refl _) _⟩
        · have hn := Lib.hid (bcnt_no s pos hlt hc (by omega))
          have d1 : decide ((48 : Int) ≤ ((s[pos]'hlt).toNat : Int)) = false := by simp; omega
          go_wp2
          go_ret
          exact ⟨ret_int (by rw [hn.out]), (Below.refl _ w).alloc (Nat.le_refl _) _⟩
      · have hnx : ∀ ty, (Instr.next (.pointer (some ⟨w.heap.size, 0, none⟩)) true ty).run Tryz.prog (w.iter s pos) = _ := fun ty => run_next_any w s pos ty hlt
        have hd := (decode_high s pos hlt (by omega)).1
        have hd1 := decode_le s pos
        have d1 : decide ((48 : Int) ≤ ((Utf8.decode s pos).1 : Int)) = true := by simp; omega
        have d2 : decide (((Utf8.decode s pos).1 : Int) ≤ 57) = false := by simp; omega
        have hn := Lib.hid (bcnt_no s pos hlt hc (by omega))
        go_wp2
        go_ret
        exact ⟨ret_int (by rw [hn.out]), (Below.refl _ w).alloc (Nat.le_refl _) _⟩
    · have hnx : ∀ ty, (Instr.next (.pointer (some ⟨w.heap.size, 0, none⟩)) true ty).run Tryz.prog (w.iter s pos) = _ := fun ty => run_next_end w s pos ty hlt
      have hn := Lib.hid (show cnt s.data.toList = s.size by omega)
      go_wp2
      go_ret
      exact ⟨ret_int (by rw [hn.out]), (Below.refl _ w).alloc (Nat.le_refl _) _⟩


set_option maxHeartbeats 400000 in
set_option maxRecDepth 100000 in
/-- Digits that tell a number up to MaxNum. -/
theorem valueOf_yes (s : ByteArray) (w : World) (hd : s.size ≤ cnt s.data.toList) (hv : Sash.Num.val s.data.toList ≤ 2147483647) :
    Calls Tryz.prog 130 #[.string s] w fun e w' => e = .returned (.tuple #[.int .i64 (Sash.Num.val s.data.toList), .bool true]) ∧ Below w.heap.size w w' := by
  go_enter Tryz.func130, Tryz.ntmps130
  go_wp2
  go_loopw [4] (fun n wr => ∃ pos : Nat, pos ≤ s.size ∧ n = .int .i64 (Sash.Num.val (s.data.toList.take pos)) ∧ wr = w.iter s pos) (fun _ wr => s.size - wr.iterPos w.heap.size)
  case atStart => exact ⟨0, Nat.zero_le _, rfl, rfl⟩
  case round =>
    obtain ⟨pos, hp, rfl, rfl⟩ := hrel
    have hm := val_take_le s.data.toList pos
    by_cases hlt : pos < s.size
    · obtain ⟨h1, h2⟩ := bcnt_isD s pos hlt (by omega)
      have hsu := bval_succ s pos hlt
      have hm2 := val_take_le s.data.toList (pos + 1)
      have hnx : ∀ ty, (Instr.next (.pointer (some ⟨w.heap.size, 0, none⟩)) true ty).run Tryz.prog (w.iter s pos) = _ := fun ty => run_next_ascii w s pos ty hlt (by omega)
      have hdec : decide ((((2147483647 : Int) - (((s[pos]'hlt).toNat : Int) - 48)) / 10) < (Sash.Num.val (s.data.toList.take pos) : Int)) = false := by simp; omega
      have HS := Lib.hid hsu
      clear hsu hm2
      go_wp2
      go_roundw
      case rel => exact ⟨pos + 1, by omega, by rw [HS.out]; congr 1; omega, rfl⟩
      case measure => simp; omega
    · have hnx : ∀ ty, (Instr.next (.pointer (some ⟨w.heap.size, 0, none⟩)) true ty).run Tryz.prog (w.iter s pos) = _ := fun ty => run_next_end w s pos ty hlt
      go_wp2
      go_ret2
      exact ⟨retIB (by rw [List.take_of_length_le (by simp; omega)]), (Below.refl _ w).alloc (Nat.le_refl _) _⟩

set_option maxHeartbeats 400000 in
set_option maxRecDepth 100000 in
/-- Digits that tell a number above MaxNum. -/
theorem valueOf_no (s : ByteArray) (w : World) (hd : s.size ≤ cnt s.data.toList) (hv : 2147483647 < Sash.Num.val s.data.toList) :
    Calls Tryz.prog 130 #[.string s] w fun e w' => e = .returned (.tuple #[.int .i64 0, .bool false]) ∧ Below w.heap.size w w' := by
  go_enter Tryz.func130, Tryz.ntmps130
  go_wp2
  go_loopw [4] (fun n wr => ∃ pos : Nat, pos ≤ s.size ∧ Sash.Num.val (s.data.toList.take pos) ≤ 2147483647 ∧ n = .int .i64 (Sash.Num.val (s.data.toList.take pos)) ∧ wr = w.iter s pos) (fun _ wr => s.size - wr.iterPos w.heap.size)
  case atStart => exact ⟨0, Nat.zero_le _, by simp [Sash.Num.val], rfl, rfl⟩
  case round =>
    obtain ⟨pos, hp, hm, rfl, rfl⟩ := hrel
    by_cases hlt : pos < s.size
    · obtain ⟨h1, h2⟩ := bcnt_isD s pos hlt (by omega)
      have hsu := bval_succ s pos hlt
      have hnx : ∀ ty, (Instr.next (.pointer (some ⟨w.heap.size, 0, none⟩)) true ty).run Tryz.prog (w.iter s pos) = _ := fun ty => run_next_ascii w s pos ty hlt (by omega)
      by_cases hbig : Sash.Num.val (s.data.toList.take (pos + 1)) ≤ 2147483647
      · have hdec : decide ((((2147483647 : Int) - (((s[pos]'hlt).toNat : Int) - 48)) / 10) < (Sash.Num.val (s.data.toList.take pos) : Int)) = false := by simp; omega
        have HS := Lib.hid hsu
        clear hsu
        go_wp2
        go_roundw
        case rel => exact ⟨pos + 1, by omega, hbig, by rw [HS.out]; congr 1; omega, rfl⟩
        case measure => simp; omega
      · have hdec : decide ((((2147483647 : Int) - (((s[pos]'hlt).toNat : Int) - 48)) / 10) < (Sash.Num.val (s.data.toList.take pos) : Int)) = true := by simp; omega
        clear hsu hbig
        go_wp2
        go_ret2
        exact ⟨rfl, (Below.refl _ w).alloc (Nat.le_refl _) _⟩
    · rw [List.take_of_length_le (by simp; omega)] at hm
      omega

theorem sub_data (s : ByteArray) (k : Nat) : (s.extract 0 k).data.toList = s.data.toList.take k := by
  rw [Lib.extract_data]; simp
theorem sub_size (s : ByteArray) (k : Nat) (h : k ≤ s.size) : (s.extract 0 k).size = k := by simp [ByteArray.size_extract]; omega

set_option maxHeartbeats 400000 in
set_option maxRecDepth 100000 in
theorem head_any (s : ByteArray) (w : World) (hs : s.size ≤ maxLen) :
    Calls Tryz.prog 114 #[.string s] w fun e w' => e = .returned (.tuple #[.int .i64 (headN s.data.toList), .int .i64 (headK s.data.toList), .int .i64 (headE s.data.toList)]) ∧ Below w.heap.size w w' := by
  unfold maxLen at hs
  have hle := bcnt_le s
  by_cases h0 : cnt s.data.toList = 0
  · have HF := Lib.hid (head_form s.data.toList (Or.inl h0))
    have q0 : ((cnt s.data.toList : Int) == 0) = true := by simp; omega
    clear h0
    go_enter Tryz.func114, Tryz.ntmps114
    go_wp2_with fail
    refine (countDigits_any s _).mono ?_
    rintro e w1 ⟨rfl, hb1⟩
    go_wp2
    go_ret3
    exact ⟨ret3 HF.out.1.symm HF.out.2.1.symm HF.out.2.2.symm, hb1⟩
  · have h00 : 0 < s.size := by omega
    have hbh := bhead s h00
    have q0 : ((cnt s.data.toList : Int) == 0) = false := by simp; omega
    by_cases hf : 1 < cnt s.data.toList ∧ s[0].toNat = 48
    · have HF := Lib.hid (head_form s.data.toList (Or.inr ⟨by omega, hbh.2 hf.2⟩))
      have q1 : decide ((1 : Int) < (cnt s.data.toList : Int)) = true := by simp; omega
      have q2 : ((s[0].toNat : Int) == 48) = true := by simp; omega
      clear h0 hf hbh
      go_enter Tryz.func114, Tryz.ntmps114
      go_wp2_with fail
      refine (countDigits_any s _).mono ?_
      rintro e w1 ⟨rfl, hb1⟩
      go_wp2
      go_ret3
      exact ⟨ret3 HF.out.1.symm HF.out.2.1.symm HF.out.2.2.symm, hb1⟩
    · have hnf : ¬ (cnt s.data.toList = 0 ∨ (1 < cnt s.data.toList ∧ s.data.toList.head? = some 48)) := by rw [hbh]; omega
      have hd := sub_data s (cnt s.data.toList)
      have hsz := sub_size s (cnt s.data.toList) hle
      have hall : (s.extract 0 (cnt s.data.toList)).size ≤ cnt (s.extract 0 (cnt s.data.toList)).data.toList := by rw [hd, hsz, cnt_take _ _ (Nat.le_refl _)]; exact Nat.le_refl _
      have hq : (decide ((1 : Int) < (cnt s.data.toList : Int)) = false) ∨ (decide ((1 : Int) < (cnt s.data.toList : Int)) = true ∧ ((s[0].toNat : Int) == 48) = false) := by
        by_cases h1 : 1 < cnt s.data.toList
        · right; exact ⟨by simp; omega, by simp; omega⟩
        · left; simp; omega
      have HD := Lib.hid hd
      have HSZ := Lib.hid hsz
      clear hd hsz hf hbh h0
      by_cases hv : 2147483647 < Sash.Num.val (s.data.toList.take (cnt s.data.toList))
      · have HF := Lib.hid (head_long _ hnf hv)
        clear hnf
        rcases hq with q1 | ⟨q1, q2⟩
        all_goals
          go_enter Tryz.func114, Tryz.ntmps114
          go_wp2_with fail
          refine (countDigits_any s _).mono ?_
          rintro e w1 ⟨rfl, hb1⟩
          go_wp2_with (go_at_call 130; refine (valueOf_no (s.extract 0 (cnt s.data.toList)) _ hall (by rw [HD.out]; exact hv)).mono ?_; rintro e w2 ⟨rfl, hb2⟩)
          go_wp2
          go_ret3
          exact ⟨ret3 HF.out.1.symm HF.out.2.1.symm HF.out.2.2.symm, hb1.trans (hb2.mono hb1.size)⟩
      · have HF := Lib.hid (head_ok _ hnf (by omega))
        clear hnf
        rcases hq with q1 | ⟨q1, q2⟩
        all_goals
          go_enter Tryz.func114, Tryz.ntmps114
          go_wp2_with fail
          refine (countDigits_any s _).mono ?_
          rintro e w1 ⟨rfl, hb1⟩
          go_wp2_with (go_at_call 130; refine (valueOf_yes (s.extract 0 (cnt s.data.toList)) _ hall (by rw [HD.out]; omega)).mono ?_; rintro e w2 ⟨rfl, hb2⟩)
          go_wp2
          go_ret3
          exact ⟨ret3 HF.out.1.symm HF.out.2.1.symm HF.out.2.2.symm, hb1.trans (hb2.mono hb1.size)⟩
end Go.Proofs.YtbelpnfgdjnpoaaGreatDoor
/- A body that is read: what the document says as a relation; one answer only; there and back. No walk. -/
namespace Go.Proofs.YtbelpnfgdjnpoaaGreatDoor
open Sash.Num

abbrev Rs (α : Type) := Except (Int × Nat) α
def bnd {α β : Type} (x : Rs α) (f : α → Rs β) : Rs β := match x with
  | .error e => .error e
  | .ok v => f v
theorem bnd_ok {α β : Type} {x : Rs α} {f : α → Rs β} {v : β} : bnd x f = .ok v ↔ ∃ u, x = .ok u ∧ f u = .ok v := by
  cases x with
  | error e => simp [bnd]
  | ok u => simp [bnd]
/-- A number at a place: it, and the place behind it. -/
def numAt (s : List UInt8) (a : Nat) : Rs (Int × Nat) := if headE (s.drop a) = 0 then .ok (headN (s.drop a), a + (headK (s.drop a)).toNat) else .error (headE (s.drop a), a)
/-- A sign at a place: the place behind it. -/
def sepAt (s : List UInt8) (a : Nat) (c : UInt8) : Rs Nat := if s[a]? = some c then .ok (a + 1) else .error (2, a)
/-- A rectangle at a place. -/
def headP (s : List UInt8) (a : Nat) : Rs (R × Nat) :=
  bnd (numAt s a) fun p => bnd (sepAt s p.2 120) fun b => bnd (numAt s b) fun q => bnd (sepAt s q.2 44) fun b => bnd (numAt s b) fun x => bnd (sepAt s x.2 44) fun b => bnd (numAt s b) fun y => .ok (⟨x.1, y.1, p.1, q.1⟩, y.2)

theorem at_drop {s : List UInt8} {a : Nat} {c : UInt8} : s[a]? = some c ↔ s.drop a = c :: s.drop (a + 1) := by
  constructor
  · intro h
    obtain ⟨ha, rfl⟩ := List.getElem?_eq_some_iff.1 h
    exact List.drop_eq_getElem_cons ha
  · intro h
    have := congrArg List.head? h
    simpa using this
theorem at_lt {s : List UInt8} {a : Nat} {c : UInt8} (h : s[a]? = some c) : a < s.length := (List.getElem?_eq_some_iff.1 h).1

theorem num_sound {s : List UInt8} {a b : Nat} {i : Int} (h : numAt s a = .ok (i, b)) : okN i ∧ s.drop a = dig i ++ s.drop b ∧ stop (s.drop b) ∧ a < b ∧ b ≤ s.length := by
  unfold numAt at h
  split at h
  · rename_i he
    obtain ⟨l, hl⟩ : ∃ l, s.drop a = l := ⟨_, rfl⟩
    rw [hl] at h he
    have hnf : ¬ (cnt l = 0 ∨ (1 < cnt l ∧ l.head? = some 48)) := fun hf => by
      rw [(head_form l hf).2.2] at he; omega
    have hv : ¬ 2147483647 < Sash.Num.val (l.take (cnt l)) := fun hv => by
      rw [(head_long l hnf hv).2.2] at he; omega
    obtain ⟨h1, h2, h3⟩ := head_ok l hnf (by omega)
    have hle := cnt_le l
    obtain ⟨p, hp⟩ : ∃ p, l.take (cnt l) = p := ⟨_, rfl⟩
    have hpl : p.length = cnt l := by rw [← hp, List.length_take]; omega
    have hpc : cnt p = cnt l := by rw [← hp]; exact cnt_take l _ (Nat.le_refl _)
    have hph : p.head? = l.head? := by
      rw [← hp]
      cases l with
      | nil => rfl
      | cons c l =>
        cases hc : cnt (c :: l) with
        | zero => exact absurd (.inl hc) hnf
        | succ n => rfl
    have hpt : p.take (cnt p) = p := by rw [hpc, ← hpl, List.take_length]
    have hpv : Sash.Num.val (p.take (cnt p)) ≤ 2147483647 := by rw [hpt, ← hp]; omega
    obtain ⟨g1, g2, g3⟩ := head_ok p (by rw [hpc, hph]; exact hnf) hpv
    have hre : readE p = 0 := by unfold readE; rw [if_pos (by rw [hpc, hpl]), g3]
    have hrn : readN p = (Sash.Num.val p : Int) := by unfold readN; rw [if_pos (by rw [hpc, hpl]), g1, hpt]
    have hd := dig_read p hre
    have hin := readN_in p
    have hi : i = readN p := by
      have := (Prod.mk.inj (Except.ok.inj h)).1
      rw [h1, hp] at this
      rw [← this, hrn]
    have hb : b = a + cnt l := by
      have := (Prod.mk.inj (Except.ok.inj h)).2
      rw [h2] at this
      omega
    have hdb : s.drop b = l.drop (cnt l) := by rw [hb, ← hl, List.drop_drop]
    have hlen : l.length = s.length - a := by rw [← hl, List.length_drop]
    have hpos : 0 < cnt l := Nat.pos_of_ne_zero fun h0 => hnf (.inl h0)
    refine ⟨by rw [hi]; exact hin, ?_, ?_, by omega, by omega⟩
    · rw [hl, hi, hd, hdb, ← hp, List.take_append_drop]
    · rw [hdb]
      intro c hc
      rw [List.head?_drop] at hc
      obtain ⟨hlt, hcc⟩ := List.getElem?_eq_some_iff.1 hc
      cases hcd : isD c with
      | false => rfl
      | true =>
        have := cnt_yes l (cnt l) hlt (Nat.le_refl _) (by rw [hcc]; exact hcd)
        omega
  · cases h
theorem num_full {s : List UInt8} {a : Nat} {i : Int} {rest : List UInt8} (hi : okN i) (hr : stop rest) (h : s.drop a = dig i ++ rest) : numAt s a = .ok (i, a + (dig i).length) := by
  have hd := dig_is hi
  have hc : cnt (dig i ++ rest) = (dig i).length := by rw [hd]; exact cnt_stop _ rest (dec_all _) hr
  have ht : (dig i ++ rest).take (cnt (dig i ++ rest)) = dig i := by rw [hc, List.take_append_of_le_length (Nat.le_refl _), List.take_length]
  have hne : dig i ≠ [] := by rw [hd]; exact dec_ne _
  have hv : Sash.Num.val (dig i) = i.toNat := by rw [hd, dec_val]
  have hh := head_app (dig i) rest hne
  have hnf : ¬ (cnt (dig i ++ rest) = 0 ∨ (1 < cnt (dig i ++ rest) ∧ (dig i ++ rest).head? = some 48)) := by
    rw [hc, hh, hd]
    have := head_none_dec i.toNat
    rw [cnt_all _ (dec_all _)] at this
    exact this
  unfold okN at hi
  obtain ⟨h1, h2, h3⟩ := head_ok (dig i ++ rest) hnf (by rw [ht, hv]; omega)
  unfold numAt
  rw [h, if_pos h3, h1, h2, ht, hv, hc]
  congr 2
  · omega
theorem sep_ok {s : List UInt8} {a b : Nat} {c : UInt8} (h : sepAt s a c = .ok b) : s[a]? = some c ∧ b = a + 1 := by
  unfold sepAt at h
  split at h
  · rename_i hc; exact ⟨hc, (Except.ok.inj h).symm⟩
  · cases h
theorem sep_full {s : List UInt8} {a : Nat} {c : UInt8} {rest : List UInt8} (h : s.drop a = c :: rest) : sepAt s a c = .ok (a + 1) ∧ s.drop (a + 1) = rest := by
  have h1 : s[a]? = some c := by
    have := congrArg List.head? h
    simpa using this
  refine ⟨by unfold sepAt; rw [if_pos h1], ?_⟩
  have := at_drop.1 h1
  rw [h] at this
  exact (List.cons.inj this).2.symm
theorem drop_more {s l rest : List UInt8} {a : Nat} (h : s.drop a = l ++ rest) : s.drop (a + l.length) = rest := by
  rw [← List.drop_drop, h, List.drop_append_of_le_length (Nat.le_refl _), List.drop_length, List.nil_append]

theorem head_sound {s : List UInt8} {a b : Nat} {r : R} (h : headP s a = .ok (r, b)) : okR r ∧ s.drop a = headL r ++ s.drop b ∧ stop (s.drop b) ∧ a < b ∧ b ≤ s.length := by
  unfold headP at h
  obtain ⟨⟨w, a1⟩, e1, h⟩ := bnd_ok.1 h
  obtain ⟨b1, e2, h⟩ := bnd_ok.1 h
  obtain ⟨⟨ht, a2⟩, e3, h⟩ := bnd_ok.1 h
  obtain ⟨b2, e4, h⟩ := bnd_ok.1 h
  obtain ⟨⟨x, a3⟩, e5, h⟩ := bnd_ok.1 h
  obtain ⟨b3, e6, h⟩ := bnd_ok.1 h
  obtain ⟨⟨y, a4⟩, e7, h⟩ := bnd_ok.1 h
  simp only at e2 e4 e6 h
  obtain ⟨rfl, rfl⟩ := Prod.mk.inj (Except.ok.inj h)
  obtain ⟨o1, d1, -, l1, -⟩ := num_sound e1
  obtain ⟨c1, rfl⟩ := sep_ok e2
  obtain ⟨o2, d2, -, l2, -⟩ := num_sound e3
  obtain ⟨c2, rfl⟩ := sep_ok e4
  obtain ⟨o3, d3, -, l3, -⟩ := num_sound e5
  obtain ⟨c3, rfl⟩ := sep_ok e6
  obtain ⟨o4, d4, s4, l4, le4⟩ := num_sound e7
  refine ⟨⟨o3, o4, o1, o2⟩, ?_, s4, by omega, le4⟩
  rw [d1, at_drop.1 c1, d2, at_drop.1 c2, d3, at_drop.1 c3, d4]
  simp [headL]
theorem head_full {s : List UInt8} {a : Nat} {r : R} {rest : List UInt8} (hr : okR r) (hs : stop rest) (h : s.drop a = headL r ++ rest) : headP s a = .ok (r, a + (headL r).length) := by
  obtain ⟨h1, h2, h3, h4⟩ := hr
  unfold headL at h
  simp only [List.append_assoc, List.cons_append] at h
  have e1 := num_full h3 (stop_cons _ no120) h
  obtain ⟨e2, d2⟩ := sep_full (drop_more h)
  have e3 := num_full h4 (stop_cons _ no44) d2
  obtain ⟨e4, d4⟩ := sep_full (drop_more d2)
  have e5 := num_full h1 (stop_cons _ no44) d4
  obtain ⟨e6, d6⟩ := sep_full (drop_more d4)
  have e7 := num_full h2 hs d6
  unfold headP
  rw [e1]
  simp only [bnd]
  rw [e2]
  simp only [bnd]
  rw [e3]
  simp only [bnd]
  rw [e4]
  simp only [bnd]
  rw [e5]
  simp only [bnd]
  rw [e6]
  simp only [bnd]
  rw [e7]
  simp only [bnd]
  congr 2
  simp [headL]; omega

/-- What reading comes to: an error at a place; or cells, and the place behind them. -/
inductive PR where
  | bad (e : Int) (site : Nat)
  | ok (l : List T) (a : Nat)
/-- What is being read: a cell, so deep; or the kids behind those that were read, to a bracket. -/
inductive St where
  | cell (a deep : Nat)
  | kids (a deep : Nat) (c : UInt8) (acc : List T)
/-- Which bracket opens which kind, and closes it. -/
def opens (s : List UInt8) (a : Nat) (k : Int) (c : UInt8) : Prop := (k = 2 ∧ s[a]? = some 123 ∧ c = 125) ∨ (k = 3 ∧ s[a]? = some 91 ∧ c = 93)
/-- Kids are at their end. -/
def ends (s : List UInt8) (a : Nat) (c : UInt8) (acc : List T) : Prop := 2 ≤ acc.length ∧ s[a]? = some c
/-- Where the next kid begins. -/
def next (acc : List T) (a : Nat) : Nat := if acc = [] then a else a + 1
inductive Rd (s : List UInt8) : St → PR → Prop
  | headBad {a deep : Nat} {e : Int} {x : Nat} (h : headP s a = .error (e, x)) : Rd s (.cell a deep) (.bad e x)
  | form {a deep : Nat} {r : R} {b : Nat} (h : headP s a = .ok (r, b)) (h1 : s[b]? ≠ some 44) (h2 : s[b]? ≠ some 123) (h3 : s[b]? ≠ some 91) : Rd s (.cell a deep) (.bad 2 b)
  | idBad {a deep : Nat} {r : R} {b : Nat} {e : Int} {x : Nat} (h : headP s a = .ok (r, b)) (h1 : s[b]? = some 44) (h2 : numAt s (b + 1) = .error (e, x)) : Rd s (.cell a deep) (.bad e x)
  | leaf {a deep : Nat} {r : R} {b : Nat} {i : Int} {x : Nat} (h : headP s a = .ok (r, b)) (h1 : s[b]? = some 44) (h2 : numAt s (b + 1) = .ok (i, x)) : Rd s (.cell a deep) (.ok [.node 1 r i []] x)
  | long {a deep : Nat} {r : R} {b : Nat} {k : Int} {c : UInt8} (h : headP s a = .ok (r, b)) (h1 : opens s b k c) (h2 : 1000 ≤ deep) : Rd s (.cell a deep) (.bad 3 b)
  | kidsBad {a deep : Nat} {r : R} {b : Nat} {k : Int} {c : UInt8} {e : Int} {x : Nat} (h : headP s a = .ok (r, b)) (h1 : opens s b k c) (h2 : deep < 1000) (h3 : Rd s (.kids (b + 1) (deep + 1) c []) (.bad e x)) : Rd s (.cell a deep) (.bad e x)
  | kids {a deep : Nat} {r : R} {b : Nat} {k : Int} {c : UInt8} {l : List T} {x : Nat} (h : headP s a = .ok (r, b)) (h1 : opens s b k c) (h2 : deep < 1000) (h3 : Rd s (.kids (b + 1) (deep + 1) c []) (.ok l x)) : Rd s (.cell a deep) (.ok [.node k r 0 l] x)
  | done {a deep : Nat} {c : UInt8} {acc : List T} (h : ends s a c acc) : Rd s (.kids a deep c acc) (.ok acc (a + 1))
  | comma {a deep : Nat} {c : UInt8} {acc : List T} (h : ¬ ends s a c acc) (h1 : acc ≠ []) (h2 : s[a]? ≠ some 44) : Rd s (.kids a deep c acc) (.bad 2 a)
  | kidBad {a deep : Nat} {c : UInt8} {acc : List T} {e : Int} {x : Nat} (h : ¬ ends s a c acc) (h1 : acc = [] ∨ s[a]? = some 44) (h2 : Rd s (.cell (next acc a) deep) (.bad e x)) : Rd s (.kids a deep c acc) (.bad e x)
  | kid {a deep : Nat} {c : UInt8} {acc : List T} {t : T} {b : Nat} {o : PR} (h : ¬ ends s a c acc) (h1 : acc = [] ∨ s[a]? = some 44) (h2 : Rd s (.cell (next acc a) deep) (.ok [t] b)) (h3 : Rd s (.kids b deep c (acc ++ [t])) o) : Rd s (.kids a deep c acc) o
end Go.Proofs.YtbelpnfgdjnpoaaGreatDoor
