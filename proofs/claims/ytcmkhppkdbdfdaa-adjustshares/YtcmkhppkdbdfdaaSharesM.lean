/- Shares, round by round: who has given how much behind m askings; one way only; all that they can; evens. No walk. -/
import Derived.Test.YtcmkhppkdbdfdaaRet
namespace Go.Proofs.Ytcmkhppkdbdfdaa.Sh

/-- How often the i-th of n has been asked behind m askings, one by one, round by round. -/
def vis (n m i : Nat) : Nat := m / n + if i < m % n then 1 else 0
theorem vis_zero (n i : Nat) : vis n 0 i = 0 := by simp [vis]
theorem div_mod_of {n m q s : Nat} (h : m = n * q + s) (hs : s < n) : m / n = q ∧ m % n = s := by
  subst h
  constructor
  · rw [Nat.mul_add_div (by omega), Nat.div_eq_of_lt hs, Nat.add_zero]
  · rw [Nat.mul_add_mod, Nat.mod_eq_of_lt hs]
theorem vis_succ {n m i : Nat} (hi : i < n) : vis n (m + 1) i = vis n m i + if m % n = i then 1 else 0 := by
  have hm := Nat.div_add_mod m n
  have hs := Nat.mod_lt m (show 0 < n by omega)
  generalize hq : m / n = q at hm
  generalize hr : m % n = s at hm hs
  unfold vis
  rw [hq, hr]
  by_cases h : s + 1 < n
  · obtain ⟨h1, h2⟩ := div_mod_of (n := n) (m := m + 1) (q := q) (s := s + 1) (by omega) h
    rw [h1, h2]
    split <;> split <;> split <;> omega
  · obtain ⟨h1, h2⟩ := div_mod_of (n := n) (m := m + 1) (q := q + 1) (s := 0) (by rw [Nat.mul_add]; omega) (by omega)
    rw [h1, h2]
    split <;> split <;> split <;> omega
theorem vis_mono {n m m' i : Nat} (hi : i < n) (h : m ≤ m') : vis n m i ≤ vis n m' i := by
  induction m' with
  | zero => have : m = 0 := by omega
            subst this; exact Nat.le_refl _
  | succ k ih =>
    by_cases hk : m = k + 1
    · subst hk; exact Nat.le_refl _
    · have := ih (by omega)
      rw [vis_succ hi]; omega
theorem vis_round {n r i : Nat} (hi : i < n) : vis n (n * r) i = r := by
  obtain ⟨h1, h2⟩ := div_mod_of (n := n) (m := n * r) (q := r) (s := 0) (by omega) (by omega)
  unfold vis; rw [h1, h2]; simp

/-- What each has given behind m askings; g tells how much each can (none: as much as it is asked). -/
def cap (g : Option (List Nat)) (i v : Nat) : Nat := match g with
  | none => v
  | some l => min (l.getD i 0) v
def out (g : Option (List Nat)) (n m : Nat) : List Nat := (List.range n).map fun i => cap g i (vis n m i)
theorem out_len (g : Option (List Nat)) (n m : Nat) : (out g n m).length = n := by simp [out]
theorem out_at (g : Option (List Nat)) {n m i : Nat} (hi : i < n) : (out g n m)[i]? = some (cap g i (vis n m i)) := by
  simp [out, hi]
theorem cap_mono (g : Option (List Nat)) (i : Nat) {a b : Nat} (h : a ≤ b) : cap g i a ≤ cap g i b := by
  unfold cap; split <;> omega
/-- One asking: it turns one place only. -/
theorem out_other (g : Option (List Nat)) {n m i : Nat} (hi : i < n) (h : m % n ≠ i) : (out g n (m + 1))[i]? = (out g n m)[i]? := by
  rw [out_at g hi, out_at g hi, vis_succ hi, if_neg h, Nat.add_zero]
theorem out_set (g : Option (List Nat)) {n m : Nat} (hn : 0 < n) : out g n (m + 1) = (out g n m).set (m % n) (cap g (m % n) (vis n m (m % n) + 1)) := by
  have hs := Nat.mod_lt m hn
  refine List.ext_getElem? fun i => ?_
  by_cases hi : i < n
  · by_cases h : m % n = i
    · rw [out_at g hi, List.getElem?_set, if_pos h, if_pos (by rw [out_len]; omega), vis_succ hi, if_pos h, h]
    · rw [out_other g hi h, List.getElem?_set, if_neg h]
  · rw [List.getElem?_eq_none (by rw [out_len]; omega), List.getElem?_eq_none (by rw [List.length_set, out_len]; omega)]
theorem sum_set {l : List Nat} {i a b : Nat} (h : l[i]? = some a) : (l.set i b).sum + a = l.sum + b := by
  induction l generalizing i with
  | nil => simp at h
  | cons x l ih =>
    cases i with
    | zero => simp at h; subst h; simp; omega
    | succ i =>
      have := ih (i := i) (by simpa using h)
      simp; omega
theorem out_sum (g : Option (List Nat)) {n m : Nat} (hn : 0 < n) : (out g n (m + 1)).sum + cap g (m % n) (vis n m (m % n)) = (out g n m).sum + cap g (m % n) (vis n m (m % n) + 1) := by
  rw [out_set g hn]
  exact sum_set (out_at g (Nat.mod_lt m hn))
theorem out_zero_sum (g : Option (List Nat)) (n : Nat) : (out g n 0).sum = 0 := by
  have : out g n 0 = (List.range n).map fun _ => 0 := by
    unfold out
    refine List.map_congr_left fun i _ => ?_
    rw [vis_zero]; unfold cap; split <;> omega
  rw [this]
  clear this
  induction n with
  | zero => rfl
  | succ k ih => rw [List.range_succ, List.map_append, List.sum_append, ih]; rfl
/-- As much is given as was asked for, where each gives whatever it is asked. -/
theorem give_sum {n : Nat} (hn : 0 < n) (m : Nat) : (out none n m).sum = m := by
  induction m with
  | zero => exact out_zero_sum none n
  | succ m ih =>
    have := out_sum none (m := m) hn
    unfold cap at this
    simp only at this
    omega
theorem out_mono (g : Option (List Nat)) {n m m' : Nat} (h : m ≤ m') {i : Nat} (hi : i < n) : cap g i (vis n m i) ≤ cap g i (vis n m' i) := cap_mono g i (vis_mono hi h)
theorem sum_le {α : Type} {l : List α} {f h : α → Nat} (hle : ∀ x ∈ l, f x ≤ h x) : (l.map f).sum ≤ (l.map h).sum := by
  induction l with
  | nil => exact Nat.le_refl _
  | cons x l ih =>
    have h1 := hle x (List.mem_cons_self ..)
    have h2 := ih fun y hy => hle y (List.mem_cons_of_mem _ hy)
    simp only [List.map_cons, List.sum_cons]; omega
theorem sum_eq {α : Type} {l : List α} {f h : α → Nat} (hle : ∀ x ∈ l, f x ≤ h x) (he : (l.map f).sum = (l.map h).sum) : ∀ x ∈ l, f x = h x := by
  induction l with
  | nil => intro x hx; cases hx
  | cons y l ih =>
    have h1 := hle y (List.mem_cons_self ..)
    have h2 := sum_le (f := f) (h := h) fun z hz => hle z (List.mem_cons_of_mem _ hz)
    simp only [List.map_cons, List.sum_cons] at he
    intro x hx
    rcases List.mem_cons.1 hx with rfl | hx
    · omega
    · exact ih (fun z hz => hle z (List.mem_cons_of_mem _ hz)) (by omega) x hx
/-- One way only: what is given together tells what each gives. -/
theorem out_one (g : Option (List Nat)) {n m m' : Nat} (h : (out g n m).sum = (out g n m').sum) : out g n m = out g n m' := by
  have key : ∀ a b : Nat, a ≤ b → (out g n a).sum = (out g n b).sum → out g n a = out g n b := fun a b hab he => by
    unfold out at he ⊢
    refine List.map_congr_left fun i hi => ?_
    exact sum_eq (fun i hi => out_mono g hab (List.mem_range.1 hi)) he i hi
  rcases Nat.le_total m m' with hm | hm
  · exact key m m' hm h
  · exact (key m' m hm h.symm).symm
/-- No more than all can give. -/
theorem take_map (l : List Nat) (m : Nat) : out (some l) l.length m = (List.range l.length).map fun i => min (l.getD i 0) (vis l.length m i) := rfl
theorem all_map (l : List Nat) : l = (List.range l.length).map fun i => l.getD i 0 := by
  refine List.ext_getElem? fun i => ?_
  by_cases hi : i < l.length
  · simp [hi]
  · rw [List.getElem?_eq_none (by omega), List.getElem?_eq_none (by simp; omega)]
theorem take_le (l : List Nat) (m : Nat) : (out (some l) l.length m).sum ≤ l.sum := by
  conv => rhs; rw [all_map l]
  rw [take_map]
  exact sum_le fun i _ => Nat.min_le_left _ _
/-- A whole round in which none gave: all gave all they can. -/
theorem take_stuck (l : List Nat) (r : Nat) (h : (out (some l) l.length (l.length * r)).sum = (out (some l) l.length (l.length * (r + 1))).sum) : (out (some l) l.length (l.length * r)).sum = l.sum := by
  have h1 := out_one (some l) h
  rw [take_map, take_map] at h1
  rw [take_map]
  conv => rhs; rw [all_map l]
  congr 1
  refine List.map_congr_left fun i hi => ?_
  have hi' := List.mem_range.1 hi
  have h2 : min (l.getD i 0) (vis l.length (l.length * r) i) = min (l.getD i 0) (vis l.length (l.length * (r + 1)) i) := by
    have := congrArg (fun z : List Nat => z[i]?) h1
    simpa [hi'] using this
  rw [vis_round hi', vis_round hi'] at h2
  rw [vis_round hi']
  omega
/-- Evens: what is given differs by 1 at most. -/
theorem vis_near {n m i k : Nat} : vis n m i ≤ vis n m k + 1 := by
  unfold vis; split <;> split <;> omega
/-- One that gave less than another, by more than 1, gave all it could. -/
theorem take_near {l : List Nat} {m i k : Nat} (h : cap (some l) i (vis l.length m i) + 1 < cap (some l) k (vis l.length m k)) : cap (some l) i (vis l.length m i) = l.getD i 0 := by
  have h1 := vis_near (n := l.length) (m := m) (i := k) (k := i)
  unfold cap at h ⊢
  simp only at h ⊢
  omega
end Go.Proofs.Ytcmkhppkdbdfdaa.Sh
