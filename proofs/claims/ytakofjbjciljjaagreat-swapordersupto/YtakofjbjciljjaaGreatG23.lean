/- Texts of this seat, 3 in one file. -/
import Derived.Test.YtakofjbjciljjaaGreatG22
import Derived.Test.YtakofjbjciljjaaGreatG20
import Derived.Test.YtakofjbjciljjaaGreatG09
import Derived.Deep.RegionLaw
/- What may be is small; the kids of what tiles tile. -/
namespace Go.Proofs.YtakofjbjciljjaaGreat
open Go.RowKit

theorem mayStep_small {s : Nat × List Int} {t : T} (h : (mayStep s t).1 = false) : (mayStep s t).2.1 = s.1 + 1 ∧ s.1 + 1 ≤ 20000 := by
  unfold mayStep at h ⊢
  split at h
  · cases h
  · rename_i hn
    rw [if_neg hn]
    constructor
    · split <;> rfl
    · omega
mutual
theorem go_small (s : Nat × List Int) : ∀ t, (goT mayStep s t).1 = false → (goT mayStep s t).2.1 = s.1 + sz t ∧ s.1 + sz t ≤ 20000
  | .node k r i l => by
    intro h
    rw [goT] at h ⊢
    rw [sz]
    by_cases hf : (mayStep s (.node k r i l)).1 = true
    · rw [if_pos hf, hf] at h; cases h
    · rw [if_neg hf] at h ⊢
      obtain ⟨h1, h2⟩ := mayStep_small (s := s) (t := .node k r i l) (by simpa using hf)
      have h3 := goL_small (mayStep s (.node k r i l)).2 l h (by omega)
      omega
theorem goL_small (s : Nat × List Int) : ∀ l, (goL mayStep s l).1 = false → s.1 ≤ 20000 → (goL mayStep s l).2.1 = s.1 + szL l ∧ s.1 + szL l ≤ 20000
  | [] => by
    intro _ hs
    rw [goL, szL]
    exact ⟨rfl, hs⟩
  | t :: l => by
    intro h hs
    rw [goL] at h ⊢
    rw [szL]
    by_cases hf : (goT mayStep s t).1 = true
    · rw [if_pos hf, hf] at h; cases h
    · rw [if_neg hf] at h ⊢
      have h1 := go_small s t (by simpa using hf)
      have h3 := goL_small (goT mayStep s t).2 l h (by omega)
      omega
end
theorem may_small {t : T} (h : mayT t = true) : sz t ≤ 20000 := by
  unfold mayT at h
  have := go_small (0, []) t (by simpa using h)
  simp only at this
  omega
theorem tile_may {t : T} (h : tileB t = true) : mayT t = true := by
  unfold tileB at h
  rw [Bool.and_eq_true] at h
  exact h.1
theorem pre_cut {l : List T} {k : Nat} {u : T} (h : l[k]? = some u) : preL l = preL (l.take k) ++ preT u ++ preL (l.drop (k + 1)) := by
  conv => lhs; rw [← List.take_append_drop (k + 1) l]
  rw [preL_append, preL_step h]
theorem pre_sub {t u : T} {k : Nat} (h : t.kids[k]? = some u) : List.Sublist (preT u) (preT t) := by
  rw [preT_eq t, pre_cut h]
  refine List.Sublist.cons _ ?_
  rw [List.append_assoc]
  exact (List.sublist_append_left _ _).trans (List.sublist_append_right _ _)
theorem tile_kid {t u : T} {k : Nat} (hs : sz t ≤ 20000) (ht : tileB t = true) (h : t.kids[k]? = some u) : tileB u = true := by
  have hu : sz u < sz t := sz_kid h
  have hsub := pre_sub h
  unfold tileB at ht ⊢
  rw [may_is (by omega)] at ht ⊢
  unfold rmayT at ht ⊢
  simp only [Bool.and_eq_true, decide_eq_true_eq] at ht ⊢
  obtain ⟨⟨h1, h2⟩, h3⟩ := ht
  refine ⟨⟨?_, ?_⟩, ?_⟩
  · rw [List.all_eq_true] at h1 ⊢
    exact fun x hx => h1 x (hsub.mem hx)
  · exact ((hsub.filter leafB).map T.id).nodup h2
  · rw [List.all_eq_true] at h3 ⊢
    exact fun x hx => h3 x (hsub.mem hx)
theorem tile_top {t : T} (hs : sz t ≤ 20000) (ht : tileB t = true) : wellT t = true ∧ fitB t = true := by
  unfold tileB at ht
  rw [may_is (by omega)] at ht
  unfold rmayT at ht
  simp only [Bool.and_eq_true] at ht
  have hm : t ∈ preT t := by rw [preT_eq]; exact List.mem_cons_self ..
  exact ⟨List.all_eq_true.1 ht.1.1 t hm, List.all_eq_true.1 ht.2 t hm⟩
end Go.Proofs.YtakofjbjciljjaaGreat
/- Does a tree tile? The document's answer, as a Bool. -/
namespace Go.Proofs.YtakofjbjciljjaaGreat
open Go.RowKit

/-- Does a tree tile: the document's. -/
theorem rtiles8_any (t : T) (c : C) (w : World) (hi : Is w c t) (hs : sz t ≤ 20000) : Calls Tryz.prog 19 #[cval c] w fun e w' => e = .returned (.bool (tileB t)) ∧ Below w.heap.size w w' := by
  have HA : Hid (Below w.heap.size w (w.alloc (cbox c))) := (Below.refl _ _).alloc (Nat.le_refl _) _
  have hmi := may_is (t := t) (by omega)
  have HCK : Hid (Calls Tryz.prog 33 #[cval c] (w.alloc (cbox c)) fun e w' => ∃ (v : Value) (no pl : Int), e = .returned (.tuple #[v, .int .i64 no, .int .i64 pl]) ∧ (no == 0) = tileB t ∧ Below w.heap.size w w') := Lib.hid ((rcheck_any t c (w.alloc (cbox c)) (hi.up HA.out) hs).mono fun e w' h => by
    obtain ⟨v, no, pl, l, h1, -, h3, h4⟩ := h
    refine ⟨v, no, pl, h1, ?_, below_one h3⟩
    unfold tileB
    rw [hmi]
    rcases h4 with ⟨a, rfl, -, -⟩ | ⟨a, b, rfl, -, -⟩ | ⟨a, b, rfl, -, -⟩
    · rw [a]; rfl
    · rw [a, b]; rfl
    · rw [a, b]; rfl)
  clear hi hmi
  generalize tileB t = tb at HCK ⊢
  go_enter Tryz.func19, Tryz.ntmps19
  go_wp2_with fail
  refine HCK.out.mono ?_
  rintro e w2 ⟨v, no, pl, rfl, hno, hb2⟩
  have B2 := Lib.hid hb2
  clear hb2
  go_wp2
  go_ret
  exact ⟨by first | (rw [hno]; rfl) | rfl, B2.out⟩
end Go.Proofs.YtakofjbjciljjaaGreat
/- The program's panes of a tree. -/
namespace Go.Proofs.YtakofjbjciljjaaGreat
open Go.RowKit

theorem five_set {W : World} {b o bx : Nat} {p : Pn} {u : Value} (h : FiveP W b o p) (hne : b ≠ bx) : FiveP (W.setCell ⟨bx, 0, none⟩ u) b o p := by
  obtain ⟨h1, h2, h3, h4, h5⟩ := h
  have hh : ∀ i v, W.cell? ⟨b, i, none⟩ = some v → (W.setCell ⟨bx, 0, none⟩ u).cell? ⟨b, i, none⟩ = some v := fun i v hv => (World.cell?_of_block (a := ⟨b, i, none⟩) (Below.heap_setCell W ⟨bx, 0, none⟩ u b hne)).trans hv
  exact ⟨hh _ _ h1, hh _ _ h2, hh _ _ h3, hh _ _ h4, hh _ _ h5⟩

end Go.Proofs.YtakofjbjciljjaaGreat
