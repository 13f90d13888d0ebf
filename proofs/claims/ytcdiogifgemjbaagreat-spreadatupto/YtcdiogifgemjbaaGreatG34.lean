/- Texts of this seat, 3 in one file. -/
import Derived.Test.YtcdiogifgemjbaaGreatG33
import Derived.Test.YtcdiogifgemjbaaGreatG08
import Derived.BigQuiet
/- All cells are spread: the document's walk. -/
namespace Go.Proofs.YtcdiogifgemjbaaGreat
open Go.RowKit

def AlSays (u : T) (w : World) (e : Ending) (w' : World) : Prop := ∃ d, e = .returned (cval d) ∧ Stands (fun _ => True) w' w.heap.size w'.heap.size d u ∧ Below w.heap.size w w'
abbrev enW (w wr : World) (d : C) : World := put7 (wr.setCell ⟨w.heap.size, 6, none⟩ (.slice d.a d.n d.cap)) (w.heap.size + 1) d
theorem enW_other {w wr : World} {d : C} {k : Nat} (h1 : k ≠ w.heap.size) (h2 : k ≠ w.heap.size + 1) : (enW w wr d).heap[k]? = wr.heap[k]? := (heap_put7 h2).trans (row_other _ h1)
theorem enW_size (w wr : World) (d : C) : (enW w wr d).heap.size = wr.heap.size := by unfold enW; rw [size_put7, row_size]
theorem al_end {w wr : World} {k : Int} {r : R} {id : Int} {a : Option Addr} {cap base : Nat} {cs : List C} {l : List T} {t' : T} (he : t' = .node k r id l) (hb : Below w.heap.size w wr) (h : Grove (fun _ => True) wr base (.slice a cs.length cap) cs l) (hbase : w.heap.size + 2 ≤ base) (hk : 0 ≤ k ∧ k ≤ 255) (hr : r.fits) (hi : fits id) (hl : l.length ≤ 1954687338211) :
    AlSays t' w (.returned (cval ⟨k, r, id, a, cs.length, cap⟩)) (enW w wr ⟨k, r, id, a, cs.length, cap⟩) := by
  subst he
  refine ⟨_, rfl, ?_, below_put7 (hb.setCell (p := ⟨w.heap.size, 6, none⟩) (Nat.le_refl _) _) (by omega) _⟩
  have hst := h.tree (k := k) (r := r) (id := id) hk hr hi hl
  exact (hst.move (w2 := enW w wr ⟨k, r, id, a, cs.length, cap⟩) fun j hj _ => enW_other (by omega) (by omega)).wide (by omega) (by rw [enW_size]; exact Nat.le_refl _)

noncomputable def spK (t : T) : List T := if svE t = 0 then svL t else t.kids
theorem spK_all {t : T} (hs : sz t ≤ 20000) (ht : tileB t = true) : (spK t).length = t.kids.length ∧ szL (spK t) = szL t.kids ∧ ∀ (j : Nat) (u : T), (spK t)[j]? = some u → tileB u = true ∧ sz u < sz t := by
  have hL : szL (spK t) = szL t.kids := by unfold spK; split; exact svL_sz t; rfl
  refine ⟨by unfold spK; split; exact svL_len t; rfl, hL, fun j u hu => ⟨?_, ?_⟩⟩
  · unfold spK at hu
    split at hu
    · rename_i h0
      exact sv_tile hs ht h0 u (List.mem_of_getElem? hu)
    · exact tile_kid hs ht hu
  · have h1 := szL_mem hu
    have := sz_node t
    omega

end Go.Proofs.YtcdiogifgemjbaaGreat
/- The law SpreadSizes, and the example on which the laws look. -/
namespace Go.Proofs.YtcdiogifgemjbaaGreat
open Go.RowKit

/-- What the program's Sizes answers. -/
def EvnK : Prop := ∀ (s n : Int) (w : World), fits s → fits n → Calls Tryz.prog 13 #[.int .i64 s, .int .i64 n] w fun e w' =>
  ∃ v, ((okEv s n ∧ e = .returned (.tuple #[v, .bool true]) ∧ Row w' v (ints (evL s n.toNat))) ∨ (¬ okEv s n ∧ e = .returned (.tuple #[v, .bool false]) ∧ Row w' v (ints []))) ∧ Below w.heap.size w w'
/-- Both in one form. -/
noncomputable def evO (s n : Int) : Bool := @decide (okEv s n) (Classical.propDecidable _)
noncomputable def evV (s n : Int) : List Int := if evO s n = true then evL s n.toNat else []
theorem evO_iff (s n : Int) : evO s n = true ↔ okEv s n := by unfold evO; simp
theorem ev_all {s n : Int} {w : World} {e : Ending} {w' : World} (h : ∃ v, ((okEv s n ∧ e = .returned (.tuple #[v, .bool true]) ∧ Row w' v (ints (evL s n.toNat))) ∨ (¬ okEv s n ∧ e = .returned (.tuple #[v, .bool false]) ∧ Row w' v (ints []))) ∧ Below w.heap.size w w') :
    ∃ v, e = .returned (.tuple #[v, .bool (evO s n)]) ∧ Row w' v (ints (evV s n)) ∧ Below w.heap.size w w' := by
  obtain ⟨v, h, hb⟩ := h
  rcases h with ⟨h0, he, hr⟩ | ⟨h0, he, hr⟩
  · have e1 : evO s n = true := (evO_iff s n).2 h0
    exact ⟨v, by rw [e1]; exact he, by unfold evV; rw [if_pos e1]; exact hr, hb⟩
  · have e1 : evO s n = false := by cases h : evO s n with | false => rfl | true => exact absurd ((evO_iff s n).1 h) h0
    exact ⟨v, by rw [e1]; exact he, by unfold evV; rw [if_neg (by rw [e1]; decide)]; exact hr, hb⟩
theorem ev_ref {s n : Int} {w : World} {e : Ending} {w' : World} (h : EvnSays s n w e w') : ∃ v, e = .returned (.tuple #[v, .bool (evO s n)]) ∧ Row w' v (ints (evV s n)) ∧ Below w.heap.size w w' := by
  obtain ⟨v, h, hb⟩ := h
  refine ev_all ⟨v, ?_, hb⟩
  rcases h with ⟨h0, he, hr⟩ | ⟨h0, he, hr⟩
  · exact .inl ⟨h0, he, hr.row⟩
  · exact .inr ⟨h0, he, hr.row⟩

theorem three_row (w : World) (a b c : Int) : Row (w.alloc (.cells #[.int .i64 a, .int .i64 b, .int .i64 c] 3)) (.slice (some ⟨w.heap.size, 0, none⟩) 3 3) (ints [a, b, c]) := by
  refine ⟨some ⟨w.heap.size, 0, none⟩, 3, rfl, (fun h => nomatch h), fun ad hx j u hu => ?_⟩
  cases hx
  match j with
  | 0 => simp [ints] at hu; subst hu; change (w.alloc _).cell? ⟨w.heap.size, 0, none⟩ = _; simp
  | 1 => simp [ints] at hu; subst hu; change (w.alloc _).cell? ⟨w.heap.size, 1, none⟩ = _; simp
  | 2 => simp [ints] at hu; subst hu; change (w.alloc _).cell? ⟨w.heap.size, 2, none⟩ = _; simp
  | j + 3 => simp [ints] at hu
theorem callI (v : Value) (a b c : Int) (w : World) (h : Row w v (ints [a, b, c])) : Calls Tryz.prog 14 #[v, .slice (some ⟨w.heap.size, 0, none⟩) 3 3] (w.alloc (.cells #[.int .i64 a, .int .i64 b, .int .i64 c] 3)) fun e w' => e = .returned (.bool true) ∧ Below w.heap.size w w' := by
  refine (ints_any v _ [a, b, c] [a, b, c] _ (h.up ((Below.refl _ _).alloc (Nat.le_refl _) _)) (three_row w a b c) (by simp)).mono ?_
  rintro e w' ⟨rfl, hb⟩
  exact ⟨by simp [eqI], below_one hb⟩
theorem fitsM (n : Int) (h : -1000 ≤ n ∧ n ≤ 1000) : fits n := ⟨by omega, by omega⟩
theorem ex_ok (s : Int) (h : 5 ≤ s ∧ s ≤ 1000) : evO s 3 = true := (evO_iff s 3).2 ⟨by omega, by omega, by omega, by omega⟩
theorem ex_a : evV 80 3 = [26, 26, 26] := by unfold evV; rw [if_pos (ex_ok 80 (by omega))]; decide
theorem ex_b : evV 8 3 = [2, 2, 2] := by unfold evV; rw [if_pos (ex_ok 8 (by omega))]; decide

set_option maxRecDepth 100000 in
theorem awake16_any (HK : EvnK) (w : World) : Calls Tryz.prog 6 #[] w fun e w' => e = .returned (.bool true) ∧ Below w.heap.size w w' := by
  have K1 : Hid (∀ w, Calls Tryz.prog 13 #[.int .i64 80, .int .i64 3] w fun e w' => ∃ v, e = .returned (.tuple #[v, .bool true]) ∧ Row w' v (ints [26, 26, 26]) ∧ Below w.heap.size w w') := Lib.hid fun w => (HK 80 3 w (fitsM _ (by omega)) (fitsM _ (by omega))).mono fun e w' h => by
    have := ev_all h
    rw [ex_ok 80 (by omega), ex_a] at this
    exact this
  have K2 : Hid (∀ w, Calls Tryz.prog 13 #[.int .i64 8, .int .i64 3] w fun e w' => ∃ v, e = .returned (.tuple #[v, .bool true]) ∧ Row w' v (ints [2, 2, 2]) ∧ Below w.heap.size w w') := Lib.hid fun w => (HK 8 3 w (fitsM _ (by omega)) (fitsM _ (by omega))).mono fun e w' h => by
    have := ev_all h
    rw [ex_ok 8 (by omega), ex_b] at this
    exact this
  clear HK
  go_enter Tryz.func6, Tryz.ntmps6
  go_wp2_with fail
  refine (K1.out w).mono ?_
  rintro e w1 ⟨v1, rfl, hr1, hb1⟩
  have R1 := Lib.hid hr1
  have B1 := Lib.hid hb1
  clear hr1 hb1
  go_wp2_with fail
  refine (K2.out w1).mono ?_
  rintro e w2 ⟨v2, rfl, hr2, hb2⟩
  have R2 := Lib.hid hr2
  have R1' := Lib.hid (R1.out.up hb2)
  have B2 := Lib.hid (B1.out.trans (hb2.mono B1.out.size))
  clear hr2 hb2 R1
  go_wp2_with fail
  refine (callI v1 26 26 26 w2 R1'.out).mono ?_
  rintro e w3 ⟨rfl, hb3⟩
  have R3 := Lib.hid (R2.out.up hb3)
  have B3 := Lib.hid (B2.out.trans (hb3.mono B2.out.size))
  clear hb3 R2 R1'
  go_wp2_with fail
  refine (callI v2 2 2 2 w3 R3.out).mono ?_
  rintro e w4 ⟨rfl, hb4⟩
  have B4 := Lib.hid (B3.out.trans (hb4.mono B3.out.size))
  clear hb4
  go_wp2
  go_ret
  exact ⟨rfl, B4.out⟩

/-- The first k of them together. -/
theorem ev_sum {s : Int} {n : Nat} (h : okEv s n) : ∀ k : Nat, k ≤ n → ((evL s n).take k).sum = (k : Int) * ((s - ((n : Int) - 1)) / n) + min (k : Int) ((s - ((n : Int) - 1)) % n) := by
  obtain ⟨-, -, -, -, b3, b4⟩ := ev_bounds h 0
  intro k
  induction k with
  | zero => intro _; simp; omega
  | succ k ih =>
    intro hk
    rw [evL_step (by omega), List.sum_append, ih (by omega)]
    have hv : evZ s n k = if (k : Int) < (s - ((n : Int) - 1)) % n then (s - ((n : Int) - 1)) / n + 1 else (s - ((n : Int) - 1)) / n := rfl
    rw [hv]
    generalize (s - ((n : Int) - 1)) / n = q at *
    generalize (s - ((n : Int) - 1)) % n = r at *
    have hm : ((k + 1 : Nat) : Int) * q = (k : Int) * q + q := by rw [show ((k + 1 : Nat) : Int) = (k : Int) + 1 by omega, Int.add_mul, Int.one_mul]
    rw [hm]
    split <;> simp <;> omega
theorem ev_total {s : Int} {n : Nat} (h : okEv s n) : (n : Int) - 1 + (evL s n).sum = s := by
  have h1 := ev_sum h n (Nat.le_refl _)
  rw [List.take_of_length_le (by rw [evL_len]; omega)] at h1
  obtain ⟨-, -, -, -, b3, b4⟩ := ev_bounds h 0
  have g3 := Int.mul_ediv_add_emod (s - ((n : Int) - 1)) n
  rw [h1]
  omega
theorem ev_part {s : Int} {n : Nat} (h : okEv s n) {k : Nat} (hk : k ≤ n) : 0 ≤ ((evL s n).take k).sum ∧ ((evL s n).take k).sum ≤ s := by
  obtain ⟨-, -, b1, b2, b3, b4⟩ := ev_bounds h 0
  have h1 := ev_sum h k hk
  have g3 := Int.mul_ediv_add_emod (s - ((n : Int) - 1)) n
  have h2 := h.2.2.1
  generalize (s - ((n : Int) - 1)) / n = q at *
  generalize (s - ((n : Int) - 1)) % n = r at *
  have m1 : 0 ≤ (k : Int) * q := Int.mul_nonneg (by omega) (by omega)
  have m2 : (k : Int) * q ≤ (n : Int) * q := Int.mul_le_mul_of_nonneg_right (by omega) (by omega)
  have h3 := h.1
  omega
theorem ev_near (s n : Int) (k : Nat) (hr : 0 ≤ (s - (n - 1)) % n) : evZ s n k ≤ evZ s n 0 ∧ evZ s n 0 - 1 ≤ evZ s n k := by
  unfold evZ
  generalize (s - (n - 1)) / n = q at *
  generalize (s - (n - 1)) % n = r at *
  split <;> split <;> omega
end Go.Proofs.YtcdiogifgemjbaaGreat
/- The law SpreadAll. -/
namespace Go.Proofs.YtcdiogifgemjbaaGreat
open Go.RowKit

/-- What the program answers: by its number, and the tree. -/
def PrSays (n : Int) (u : T) (w : World) (e : Ending) (w' : World) : Prop := ∃ d, e = .returned (.tuple #[cval d, .int .i64 n]) ∧ Is w' d (if n = 0 then u else zT) ∧ Below w.heap.size w w'
structure QSp (w : World) (c : C) (W : World) : Prop where
  below : Below w.heap.size w W
  cat : CAt W w.heap.size 0 c
theorem QSp.up {w : World} {c : C} {W W' : World} (h : QSp w c W) (hb : Below W.heap.size W W') : QSp w c W' := ⟨h.below.trans (hb.mono h.below.size), h.cat.up hb⟩
theorem QSp.c7 {w : World} {c : C} {W : World} (h : QSp w c W) : C7 w.heap.size c W := c7_of h.cat
theorem QSp.new (w : World) (c : C) : QSp w c (w.alloc (cbox c)) := ⟨(Below.refl _ _).alloc (Nat.le_refl _) _, cbox_new w c⟩

end Go.Proofs.YtcdiogifgemjbaaGreat
