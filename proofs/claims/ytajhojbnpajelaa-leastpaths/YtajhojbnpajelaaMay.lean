/- May trees be? -/
import Derived.Test.YtajhojbnpajelaaMet
namespace Go.Proofs.Ytajhojbnpajelaa
open Go.RowKit

def mayT (t : T) : Bool := !(goT mayStep (0, []) t).1
theorem mayT_go (t : T) : (goL mayStep (0, []) [t]).1 = (goT mayStep (0, []) t).1 := by
  rw [goL]
  by_cases h : (goT mayStep (0, []) t).1 = true
  · rw [if_pos h]
  · rw [if_neg h, goL]; simpa using h

theorem enters44 : Enters 44 := enters_of Try.func44 (by kernel_rfl) rfl

theorem deep_all {P : T → Prop} (h : ∀ t, P t) : ∀ (N : Nat) (t : T), sz t ≤ N → Deep P t := by
  intro N
  induction N with
  | zero => intro t h; have := sz_pos t; omega
  | succ N ih =>
    intro t hs
    refine .mk t (h t) fun u hu => ih u ?_
    obtain ⟨j, hj, rfl⟩ := List.getElem_of_mem hu
    have := sz_kid (List.getElem?_eq_getElem hj)
    omega

abbrev mayW (w : World) (c : C) : World := ((((w.alloc (cbox c)).alloc (.cells #[.int .i64 0] 3)).alloc (.map #[] 0)).alloc (.cells #[.map (some (w.heap.size + 2))] 55)).alloc (cbox c)

theorem mayI_new (w : World) (c : C) : mayI w (w.heap.size + 1) (w.heap.size + 3) (w.heap.size + 2) (w.heap.size + 4) c (0, []) (mayW w c) := by
  have al : ∀ (x : World) (o : Obj), Below x.heap.size x (x.alloc o) := fun x o => (Below.refl _ _).alloc (Nat.le_refl _) _
  let w1 := w.alloc (cbox c)
  let w2 := w1.alloc (.cells #[.int .i64 0] 3)
  let w3 := w2.alloc (.map #[] 0)
  let w4 := w3.alloc (.cells #[.map (some (w.heap.size + 2))] 55)
  let w5 := w4.alloc (cbox c)
  have s1 : w1.heap.size = w.heap.size + 1 := by simp [w1]
  have s2 : w2.heap.size = w.heap.size + 2 := by simp [w2, w1]
  have s3 : w3.heap.size = w.heap.size + 3 := by simp [w3, w2, w1]
  have s4 : w4.heap.size = w.heap.size + 4 := by simp [w4, w3, w2, w1]
  have b1 : Below w.heap.size w w1 := al w _
  have b2 : Below w1.heap.size w1 w2 := al w1 _
  have b3 : Below w2.heap.size w2 w3 := al w2 _
  have b4 : Below w3.heap.size w3 w4 := al w3 _
  have b5 : Below w4.heap.size w4 w5 := al w4 _
  refine ⟨(((b1.trans (b2.mono (by omega))).trans (b3.mono (by omega))).trans (b4.mono (by omega))).trans (b5.mono (by omega)), ?_, ?_, ?_, ?_, Nat.le_refl _, by simp⟩
  · rw [← s1]; exact (((Box1.new w1 _ _).up b3).up b4).up b5
  · rw [← s3]; exact (Box1.new w3 _ _).up b5
  · rw [← s2]; exact ((MetAt.new w2).up b4).up b5
  · rw [← s4]; exact cbox_new w4 c

set_option maxRecDepth 100000 in
theorem mayOne_any (t : T) (c : C) (w : World) (hi : Is w c t) : Calls Try.prog 34 #[cval c] w fun e w' => e = .returned (.bool (mayT t)) ∧ Below w.heap.size w w' := by
  have hM := mayM w (w.heap.size + 1) (w.heap.size + 3) (w.heap.size + 2) (w.heap.size + 4) c
  have hJ : ∀ u, Judge2 (fun _ => szL [t]) w (mayOwn (w.heap.size + 1) (w.heap.size + 2)) (mayI w (w.heap.size + 1) (w.heap.size + 3) (w.heap.size + 2) (w.heap.size + 4) c) 44 #[.pointer (some ⟨w.heap.size + 1, 0, none⟩), .pointer (some ⟨w.heap.size + 3, 0, none⟩)] mayStep u :=
    may1_says w _ _ _ _ c (by omega) (by omega) (by omega) (by omega) (by omega) (by omega) (by omega) _
  have hrow : RowIn w (mayI w (w.heap.size + 1) (w.heap.size + 3) (w.heap.size + 2) (w.heap.size + 4) c) (.slice (some ⟨w.heap.size + 4, 0, none⟩) 1 1) [t] := by
    refine ⟨⟨[c], fun s W h => .inr ⟨_, 0, 1, rfl, fun j x hx => ?_⟩, rfl, fun j x u hx hu => ?_⟩, by simp⟩
    · cases j with
      | zero => simp at hx; subst hx; simpa using h.row
      | succ j => simp at hx
    · cases j with
      | zero => simp at hx hu; subst hx; subst hu; exact hi
      | succ j => simp at hx
  have H := Lib.hid (noneIn_any hM 44 enters44 _ mayStep (fun _ => szL [t]) (fun _ _ => by omega) (szL [t]) [t] (Nat.le_refl _) (fun u _ => deep_all hJ _ u (Nat.le_refl _)) (0, []) (mayW w c) _ (Nat.le_refl _) hrow (mayI_new w c))
  rw [mayT_go] at H
  have hown : Hid (∀ k, k < w.heap.size → ¬ mayOwn (w.heap.size + 1) (w.heap.size + 2) (0, []) (mayW w c).heap[k]? k) := fun k hk ho => by rcases ho with h | h <;> omega
  have H2 : Hid (Calls Try.prog 43 #[.slice (some ⟨w.heap.size + 4, 0, none⟩) 1 1, .func (.func 44) #[] #[.pointer (some ⟨w.heap.size + 1, 0, none⟩), .pointer (some ⟨w.heap.size + 3, 0, none⟩)]] (mayW w c) fun e w' => e = .returned (.bool (mayT t)) ∧ Below w.heap.size w w') :=
    H.out.mono fun e w' ⟨h1, _, h3⟩ => ⟨h1, ((mayI_new w c).below.trans (h3.below (mayI_new w c).below.size hown.out))⟩
  clear H hrow hJ hM hi hown
  have hmm := @run_makeMap Try.prog
  go_enter Try.func34, Try.ntmps34
  go_wp2_with fail
  refine H2.out.mono ?_
  rintro e w2 ⟨rfl, hb⟩
  have HB := Lib.hid hb
  clear hb
  go_wp2
  go_ret
  exact ⟨rfl, HB.out⟩

theorem mayOne1_any (t : T) (c : C) (w : World) (hi : Is w c t) : Calls Try.prog 33 #[cval c] w fun e w' => e = .returned (.bool (!mayT t)) ∧ Below w.heap.size w w' := by
  have HA : Hid (Below w.heap.size w (w.alloc (cbox c))) := (Below.refl _ _).alloc (Nat.le_refl _) _
  have H := Lib.hid (mayOne_any t c (w.alloc (cbox c)) (hi.up HA.out))
  clear hi
  generalize mayT t = b at H ⊢
  go_enter Try.func33, Try.ntmps33
  go_wp2_with fail
  refine H.out.mono ?_
  rintro e w2 ⟨rfl, hb⟩
  have HB := Lib.hid hb
  clear hb
  go_wp2
  go_ret
  exact ⟨rfl, below_one HB.out⟩

theorem enters32 : Enters 33 := enters_of Try.func33 (by kernel_rfl) rfl

theorem fold_all (p : T → Bool) (l : List T) : (!(foldB (fun (_ : Unit) t => (!p t, ())) l ()).1) = l.all p := by
  induction l with
  | nil => rfl
  | cons t l ih =>
    rw [foldB, List.all_cons]
    cases h : p t
    · simp [h]
    · simp only [Bool.not_true, Bool.false_eq_true, if_false, Bool.true_and]; exact ih

set_option maxRecDepth 100000 in
theorem mayAll_any (v : Value) (l : List T) (w : World) (hr : TRow w v l) (hl : l.length ≤ 1954687338211) :
    Calls Try.prog 23 #[v] w fun e w' => e = .returned (.bool (l.all mayT)) ∧ Below w.heap.size w w' := by
  have hM : Mach w (fun (_ : Unit) (_ : Option Obj) (_ : Nat) => False) (fun _ W => Below w.heap.size w W) := ⟨fun _ _ _ _ _ _ h => h.elim, fun _ _ h => h, fun _ _ _ h hb => h.trans (hb.mono h.size)⟩
  have H := Lib.hid (none_any hM 33 enters32 #[] (fun _ t => (!mayT t, ())) l (fun _ => szL l) (fun t _ s c W _ hi hI => (mayOne1_any t c W (hi.up hI)).mono fun e w' ⟨h1, h2⟩ => ⟨h1, fun _ => hI.trans (h2.mono hI.size), Fr.of h2⟩) v (RowIn.of hM hr hl) () w (Below.refl _ _) (fun k s1 t ht _ => szL_mem ht))
  obtain ⟨a, cap, rfl⟩ := hr.shape
  clear hr hM
  rw [fold_all] at H
  generalize l.all mayT = b at H ⊢
  go_enter Try.func23, Try.ntmps23
  go_wp2_with fail
  refine H.out.mono ?_
  rintro e w2 ⟨rfl, -, hb⟩
  have HB := Lib.hid (hb.below (Nat.le_refl _) (fun _ _ h => h))
  clear hb
  go_wp2
  go_ret
  exact ⟨rfl, HB.out⟩
end Go.Proofs.Ytajhojbnpajelaa
