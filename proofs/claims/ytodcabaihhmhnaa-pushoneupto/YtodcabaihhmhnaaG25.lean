/- Texts of this seat, 3 in one file. -/
import Derived.Test.YtodcabaihhmhnaaG01
import Derived.Test.YtodcabaihhmhnaaG08
import Derived.Test.YtodcabaihhmhnaaG04
import Derived.Laws.CopyOwn
import Derived.Laws.MakeOwn
/- Shares, round by round: who has given how much behind m askings; one way only; all that they can; evens. No walk. -/
namespace Go.Proofs.Ytodcabaihhmhnaa.Sh

/-- How often the i-th of n has been asked behind m askings, one by one, round by round. -/
def vis (n m i : Nat) : Nat := m / n + if i < m % n then 1 else 0
theorem vis_zero (n i : Nat) : vis n 0 i = 0 := by simp [vis]
theorem div_mod_of {n m q s : Nat} (h : m = n * q + s) (hs : s < n) : m / n = q ∧ m % n = s := by
  subst h
  constructor
  · rw [Nat.mul_add_div (by omega), Nat.div_eq_of_lt hs, Nat.add_zero]
  · rw [Nat.mul_add_mod, Nat.mod_eq_of_lt hs]
theorem vis_succ {n m i : Nat} (hi : i < n) : vis n (m + 1) i = vis n m i + if m % n = i then 1 else 0 := by
  have hm := Nat.div_add_mod m n
  have hs := Nat.mod_lt m (show 0 < n by omega)
  generalize hq : m / n = q at hm
  generalize hr : m % n = s at hm hs
  unfold vis
  rw [hq, hr]
  by_cases h : s + 1 < n
  · obtain ⟨h1, h2⟩ := div_mod_of (n := n) (m := m + 1) (q := q) (s := s + 1) (by omega) h
    rw [h1, h2]
    split <;> split <;> split <;> omega
  · obtain ⟨h1, h2⟩ := div_mod_of (n := n) (m := m + 1) (q := q + 1) (s := 0) (by rw [Nat.mul_add]; omega) (by omega)
    rw [h1, h2]
    split <;> split <;> split <;> omega
theorem vis_mono {n m m' i : Nat} (hi : i < n) (h : m ≤ m') : vis n m i ≤ vis n m' i := by
  induction m' with
  | zero => have : m = 0 := by omega
            subst this; exact Nat.le_refl _
  | succ k ih =>
    by_cases hk : m = k + 1
    · subst hk; exact Nat.le_refl _
    · have := ih (by omega)
      rw [vis_succ hi]; omega
theorem vis_round {n r i : Nat} (hi : i < n) : vis n (n * r) i = r := by
  obtain ⟨h1, h2⟩ := div_mod_of (n := n) (m := n * r) (q := r) (s := 0) (by omega) (by omega)
  unfold vis; rw [h1, h2]; simp

/-- What each has given behind m askings; g tells how much each can (none: as much as it is asked). -/
def cap (g : Option (List Nat)) (i v : Nat) : Nat := match g with
  | none => v
  | some l => min (l.getD i 0) v
def out (g : Option (List Nat)) (n m : Nat) : List Nat := (List.range n).map fun i => cap g i (vis n m i)
theorem out_len (g : Option (List Nat)) (n m : Nat) : (out g n m).length = n := by simp [out]
theorem out_at (g : Option (List Nat)) {n m i : Nat} (hi : i < n) : (out g n m)[i]? = some (cap g i (vis n m i)) := by
  simp [out, hi]
theorem cap_mono (g : Option (List Nat)) (i : Nat) {a b : Nat} (h : a ≤ b) : cap g i a ≤ cap g i b := by
  unfold cap; split <;> omega
/-- One asking: it turns one place only. -/
theorem out_other (g : Option (List Nat)) {n m i : Nat} (hi : i < n) (h : m % n ≠ i) : (out g n (m + 1))[i]? = (out g n m)[i]? := by
  rw [out_at g hi, out_at g hi, vis_succ hi, if_neg h, Nat.add_zero]
theorem out_set (g : Option (List Nat)) {n m : Nat} (hn : 0 < n) : out g n (m + 1) = (out g n m).set (m % n) (cap g (m % n) (vis n m (m % n) + 1)) := by
  have hs := Nat.mod_lt m hn
  refine List.ext_getElem? fun i => ?_
  by_cases hi : i < n
  · by_cases h : m % n = i
    · rw [out_at g hi, List.getElem?_set, if_pos h, if_pos (by rw [out_len]; omega), vis_succ hi, if_pos h, h]
    · rw [out_other g hi h, List.getElem?_set, if_neg h]
  · rw [List.getElem?_eq_none (by rw [out_len]; omega), List.getElem?_eq_none (by rw [List.length_set, out_len]; omega)]
theorem sum_set {l : List Nat} {i a b : Nat} (h : l[i]? = some a) : (l.set i b).sum + a = l.sum + b := by
  induction l generalizing i with
  | nil => simp at h
  | cons x l ih =>
    cases i with
    | zero => simp at h; subst h; simp; omega
    | succ i =>
      have := ih (i := i) (by simpa using h)
      simp; omega
theorem out_sum (g : Option (List Nat)) {n m : Nat} (hn : 0 < n) : (out g n (m + 1)).sum + cap g (m % n) (vis n m (m % n)) = (out g n m).sum + cap g (m % n) (vis n m (m % n) + 1) := by
  rw [out_set g hn]
  exact sum_set (out_at g (Nat.mod_lt m hn))
theorem out_zero_sum (g : Option (List Nat)) (n : Nat) : (out g n 0).sum = 0 := by
  have : out g n 0 = (List.range n).map fun _ => 0 := by
    unfold out
    refine List.map_congr_left fun i _ => ?_
    rw [vis_zero]; unfold cap; split <;> omega
  rw [this]
  clear this
  induction n with
  | zero => rfl
  | succ k ih => rw [List.range_succ, List.map_append, List.sum_append, ih]; rfl
/-- As much is given as was asked for, where each gives whatever it is asked. -/
theorem give_sum {n : Nat} (hn : 0 < n) (m : Nat) : (out none n m).sum = m := by
  induction m with
  | zero => exact out_zero_sum none n
  | succ m ih =>
    have := out_sum none (m := m) hn
    unfold cap at this
    simp only at this
    omega
theorem out_mono (g : Option (List Nat)) {n m m' : Nat} (h : m ≤ m') {i : Nat} (hi : i < n) : cap g i (vis n m i) ≤ cap g i (vis n m' i) := cap_mono g i (vis_mono hi h)
theorem sum_le {α : Type} {l : List α} {f h : α → Nat} (hle : ∀ x ∈ l, f x ≤ h x) : (l.map f).sum ≤ (l.map h).sum := by
  induction l with
  | nil => exact Nat.le_refl _
  | cons x l ih =>
    have h1 := hle x (List.mem_cons_self ..)
    have h2 := ih fun y hy => hle y (List.mem_cons_of_mem _ hy)
    simp only [List.map_cons, List.sum_cons]; omega
theorem sum_eq {α : Type} {l : List α} {f h : α → Nat} (hle : ∀ x ∈ l, f x ≤ h x) (he : (l.map f).sum = (l.map h).sum) : ∀ x ∈ l, f x = h x := by
  induction l with
  | nil => intro x hx; cases hx
  | cons y l ih =>
    have h1 := hle y (List.mem_cons_self ..)
    have h2 := sum_le (f := f) (h := h) fun z hz => hle z (List.mem_cons_of_mem _ hz)
    simp only [List.map_cons, List.sum_cons] at he
    intro x hx
    rcases List.mem_cons.1 hx with rfl | hx
    · omega
    · exact ih (fun z hz => hle z (List.mem_cons_of_mem _ hz)) (by omega) x hx
/-- One way only: what is given together tells what each gives. -/
theorem out_one (g : Option (List Nat)) {n m m' : Nat} (h : (out g n m).sum = (out g n m').sum) : out g n m = out g n m' := by
  have key : ∀ a b : Nat, a ≤ b → (out g n a).sum = (out g n b).sum → out g n a = out g n b := fun a b hab he => by
    unfold out at he ⊢
    refine List.map_congr_left fun i hi => ?_
    exact sum_eq (fun i hi => out_mono g hab (List.mem_range.1 hi)) he i hi
  rcases Nat.le_total m m' with hm | hm
  · exact key m m' hm h
  · exact (key m' m hm h.symm).symm
/-- No more than all can give. -/
theorem take_map (l : List Nat) (m : Nat) : out (some l) l.length m = (List.range l.length).map fun i => min (l.getD i 0) (vis l.length m i) := rfl
theorem all_map (l : List Nat) : l = (List.range l.length).map fun i => l.getD i 0 := by
  refine List.ext_getElem? fun i => ?_
  by_cases hi : i < l.length
  · simp [hi]
  · rw [List.getElem?_eq_none (by omega), List.getElem?_eq_none (by simp; omega)]
theorem take_le (l : List Nat) (m : Nat) : (out (some l) l.length m).sum ≤ l.sum := by
  conv => rhs; rw [all_map l]
  rw [take_map]
  exact sum_le fun i _ => Nat.min_le_left _ _
/-- A whole round in which none gave: all gave all they can. -/
theorem take_stuck (l : List Nat) (r : Nat) (h : (out (some l) l.length (l.length * r)).sum = (out (some l) l.length (l.length * (r + 1))).sum) : (out (some l) l.length (l.length * r)).sum = l.sum := by
  have h1 := out_one (some l) h
  rw [take_map, take_map] at h1
  rw [take_map]
  conv => rhs; rw [all_map l]
  congr 1
  refine List.map_congr_left fun i hi => ?_
  have hi' := List.mem_range.1 hi
  have h2 : min (l.getD i 0) (vis l.length (l.length * r) i) = min (l.getD i 0) (vis l.length (l.length * (r + 1)) i) := by
    have := congrArg (fun z : List Nat => z[i]?) h1
    simpa [hi'] using this
  rw [vis_round hi', vis_round hi'] at h2
  rw [vis_round hi']
  omega
/-- Evens: what is given differs by 1 at most. -/
theorem vis_near {n m i k : Nat} : vis n m i ≤ vis n m k + 1 := by
  unfold vis; split <;> split <;> omega
/-- One that gave less than another, by more than 1, gave all it could. -/
theorem take_near {l : List Nat} {m i k : Nat} (h : cap (some l) i (vis l.length m i) + 1 < cap (some l) k (vis l.length m k)) : cap (some l) i (vis l.length m i) = l.getD i 0 := by
  have h1 := vis_near (n := l.length) (m := m) (i := k) (k := i)
  unfold cap at h ⊢
  simp only at h ⊢
  omega
end Go.Proofs.Ytodcabaihhmhnaa.Sh
/- Rows of numbers in a block of the call's own, that are written into. -/
namespace Go.Proofs.Ytodcabaihhmhnaa
open Go.RowKit

def IBlk (w : World) (g : Nat) (l : List Int) : Prop := w.heap[g]? = some (.cells (ints l).toArray 3 (0, 0))
theorem IBlk.lt {w : World} {g : Nat} {l : List Int} (h : IBlk w g l) : g < w.heap.size := lt_of_block h
theorem IBlk.up {w w' : World} {g : Nat} {l : List Int} (h : IBlk w g l) (hb : Below w.heap.size w w') : IBlk w' g l := (hb.block g h.lt).trans h
theorem ints_get {l : List Int} {j : Nat} {m : Int} (h : l[j]? = some m) : (ints l)[j]? = some (.int .i64 m) := by simp [ints, h]
theorem IBlk.cell {w : World} {g : Nat} {l : List Int} (h : IBlk w g l) {j : Nat} {m : Int} (hj : l[j]? = some m) : w.cell? ⟨g, j, none⟩ = some (.int .i64 m) := by
  have h' : w.heap[g]? = some (.cells (ints l).toArray 3 (0, 0)) := h
  have := ints_get hj
  simp [World.cell?, h', this]
theorem IBlk.free {w : World} {g : Nat} {l : List Int} (h : IBlk w g l) (o : Nat) : w.frozen? ⟨g, o, none⟩ = false := by
  have h' : w.heap[g]? = some (.cells (ints l).toArray 3 (0, 0)) := h
  simp [World.frozen?, h']
theorem ints_set (l : List Int) (j : Nat) (m : Int) : (ints l).set j (.int .i64 m) = ints (l.set j m) := by simp [ints, List.map_set]
theorem IBlk.set {w : World} {g : Nat} {l : List Int} (h : IBlk w g l) (j : Nat) (m : Int) : IBlk (w.setCell ⟨g, j, none⟩ (.int .i64 m)) g (l.set j m) := by
  have h1 := set_block (i := j) h (.int .i64 m)
  refine h1.trans ?_
  rw [← ints_set]; simp
theorem IBlk.row {w : World} {g : Nat} {l : List Int} (h : IBlk w g l) (n cap : Nat) (hn : n = l.length) : Row w (.slice (some ⟨g, 0, none⟩) n cap) (ints l) := by
  subst hn
  refine ⟨_, cap, by rw [ints_length], fun h => (by cases h), fun x hx j u hu => ?_⟩
  cases hx
  unfold ints at hu
  rw [List.getElem?_map, Option.map_eq_some_iff] at hu
  obtain ⟨m, hm, rfl⟩ := hu
  rw [Go.WideShapes.add_plain, Nat.zero_add]
  exact h.cell hm
theorem IBlk.three (w : World) (a b c : Int) : IBlk (w.alloc (.cells #[.int .i64 a, .int .i64 b, .int .i64 c] 3)) w.heap.size [a, b, c] := heap_alloc_new w _
theorem IBlk.one (w : World) (a : Int) : IBlk (w.alloc (.cells #[.int .i64 a] 3)) w.heap.size [a] := heap_alloc_new w _

theorem ints_rep (n : Nat) (m : Int) : ints (List.replicate n m) = List.replicate n (.int .i64 m) := by simp [ints]
set_option maxRecDepth 100000 in
/-- make([]int, n). -/
theorem made_ints (n : Nat) (hn : (n : Int) ≤ 1000000) (w : World) : (Instr.makeSlice 37 (.int .i64 (n : Int)) (.int .i64 (n : Int))).run Try.prog w = .ok (.slice (some ⟨w.heap.size, 0, none⟩) n n) (w.alloc (.cells (ints (List.replicate n 0)).toArray 3)) := by
  obtain ⟨i0, hi, hz0, hz1, hz2⟩ := info_parts (P := Try.prog) (e := 3) (z := .int .i64 0) (size := 1) (bytes := 8) (by kernel_rfl)
  have h := run_make (P := Try.prog) w 37 3 i0 (.int .i64 0) Try.underlying37 hi hz0 .i64 .i64 (n : Int) (n : Int) (by omega) (by omega) (by rw [hz2]; omega) (by omega)
  rw [hz1, Nat.mul_one, Int.toNat_natCast] at h
  rw [h]
  congr 3
  rw [ints_rep]
  apply Array.ext'
  refine List.ext_getElem? fun x => ?_
  by_cases hx : x < n
  · simp [madeCells, hx, Value.cells, Nat.mod_one]
  · rw [List.getElem?_eq_none (by simp [madeCells]; omega), List.getElem?_eq_none (by simp; omega)]
end Go.Proofs.Ytodcabaihhmhnaa
/- What is still needed behind whole rounds; whether one is no number that can be. -/
namespace Go.Proofs.Ytodcabaihhmhnaa
open Go.RowKit

def lfI (r : Int) : Int → List Int → Int
  | need, [] => need
  | need, g :: l => if need < 0 then need else lfI r (need - min g r) l
theorem lfI_neg {r need : Int} (h : need < 0) (l : List Int) : lfI r need l = need := by
  cases l with
  | nil => rfl
  | cons g l => rw [lfI, if_pos h]
theorem drop_at {α : Type} {l : List α} {k : Nat} {g : α} (h : l[k]? = some g) : l.drop k = g :: l.drop (k + 1) := by
  obtain ⟨hk, rfl⟩ := List.getElem?_eq_some_iff.1 h
  exact List.drop_eq_getElem_cons hk
/-- Numbers that kids can give. -/
def goodI (l : List Int) : Prop := ∀ g ∈ l, 0 ≤ g ∧ g ≤ 2147483647

set_option maxRecDepth 100000 in
theorem left_any (need r : Int) (v : Value) (gs : List Int) (w : World) (hv : Row w v (ints gs)) (hg : goodI gs) (hn : 0 ≤ need ∧ need ≤ 2147483647) (hr : 0 ≤ r ∧ r ≤ 2147483647) (hl : gs.length ≤ 1000000) :
    Calls Try.prog 106 #[.int .i64 need, .int .i64 r, v] w fun e w' => e = .returned (.int .i64 (lfI r need gs)) ∧ w' = w := by
  obtain ⟨a, cap, rfl⟩ := row_shape hv
  have HV := Lib.hid hv
  have HGD := Lib.hid hg
  clear hv hg
  go_enter Try.func106, Try.ntmps106
  go_wp2
  go_loopg [0, 11] (gs.length + 1) (fun g vn i wr => ∃ (k : Nat) (m : Int), g + k = gs.length + 1 ∧ k ≤ gs.length ∧ i = .int .i64 k ∧ vn = .int .i64 m ∧ -2147483648 ≤ m ∧ m ≤ 2147483647 ∧ lfI r need gs = lfI r m (gs.drop k) ∧ wr = w)
  case atStart => exact ⟨0, need, by omega, by omega, rfl, rfl, by omega, by omega, by simp, rfl⟩
  case round =>
    obtain ⟨k, m, hgk, hk, rfl, rfl, hm1, hm2, hlf, rfl⟩ := hrel
    have HG := Lib.hid hgk
    have HL := Lib.hid hlf
    clear hgk hlf
    by_cases hlt : k < gs.length
    · have hlti : (k : Int) < (gs.length : Int) := by omega
      obtain ⟨x, hx⟩ : ∃ x, gs[k]? = some x := ⟨_, List.getElem?_eq_getElem hlt⟩
      obtain ⟨b, o, rfl, hf⟩ := int_at HV.out (by omega)
      have c0 := hf k x hx
      have hgx := HGD.out x (List.mem_of_getElem? hx)
      have HD := Lib.hid (drop_at hx)
      clear hf hx
      by_cases hneg : m < 0
      · have dn : decide (m < 0) = true := decide_eq_true hneg
        have HR := Lib.hid (HL.out.trans (lfI_neg hneg _))
        go_wp2
        go_ret
        exact ⟨ret_int HR.out.symm, rfl⟩
      · have dn : decide (m < 0) = false := decide_eq_false hneg
        go_wp2
        go_roundg (gk - 1)
        case measure => have := HG.out; omega
        case rel => exact ⟨k + 1, m - min x r, by have := HG.out; omega, by omega, by go_num, rfl, by omega, by omega, by rw [HL.out, HD.out, lfI, if_neg (by omega)], rfl⟩
    · obtain rfl : k = gs.length := by omega
      have hkl : ((gs.length : Int) < (gs.length : Int)) = False := by simp
      have HR : Hid (lfI r need gs = m) := Lib.hid (by have := HL.out; rw [List.drop_length] at this; exact this)
      go_wp2
      go_ret
      exact ⟨ret_int HR.out.symm, rfl⟩

def badB (n : Int) : Bool := decide (n < 0) || decide (2147483647 < n)
theorem bad1_any (n : Int) (w : World) : Calls Try.prog 99 #[.int .i64 n] w fun e w' => e = .returned (.bool (badB n)) ∧ w' = w := by
  unfold badB
  rcases Bool.eq_false_or_eq_true (decide (n < 0)) with d1 | d1 <;> rcases Bool.eq_false_or_eq_true (decide (2147483647 < n)) with d2 | d2
  all_goals
    rw [d1, d2]
    go_enter Try.func99, Try.ntmps99
    go_wp2
    go_ret
    exact ⟨rfl, rfl⟩
theorem enters15 : Enters 99 := enters_of Try.func99 (by kernel_rfl) rfl

def idxSays (gs : List Int) (c : Int) : Prop := (c < 0 ∧ ∀ g ∈ gs, badB g = false) ∨ (0 ≤ c ∧ ∃ g ∈ gs, badB g = true)
set_option maxRecDepth 100000 in
theorem idxI_any (v : Value) (gs : List Int) (w : World) (hv : Row w v (ints gs)) (hl : gs.length ≤ 1000000) :
    Calls Try.prog 105 #[v, .func (.func 99) #[] #[]] w fun e w' => ∃ c : Int, e = .returned (.int .i64 c) ∧ idxSays gs c ∧ w' = w := by
  have hent : ∀ (args : Array Value) (w : World), (callFunc 99 args).run Try.prog w = .ok (.enter 99 args) w := enters15
  obtain ⟨a, cap, rfl⟩ := row_shape hv
  have HV := Lib.hid hv
  clear hv
  go_enter Try.func105, Try.ntmps105
  go_wp2
  go_loopg [8] (gs.length + 1) (fun g i wr => ∃ k : Nat, g + k = gs.length + 1 ∧ k ≤ gs.length ∧ i = .int .i64 k ∧ (∀ (j : Nat) (x : Int), j < k → gs[j]? = some x → badB x = false) ∧ wr = w)
  case atStart => exact ⟨0, by omega, by omega, rfl, fun j x hj => by omega, rfl⟩
  case round =>
    obtain ⟨k, hgk, hk, rfl, hno, rfl⟩ := hrel
    have HG := Lib.hid hgk
    have HN := Lib.hid hno
    clear hgk hno
    by_cases hlt : k < gs.length
    · have hlti : (k : Int) < (gs.length : Int) := by omega
      obtain ⟨x, hx⟩ : ∃ x, gs[k]? = some x := ⟨_, List.getElem?_eq_getElem hlt⟩
      obtain ⟨b, o, rfl, hf⟩ := int_at HV.out (by omega)
      have c0 := hf k x hx
      have HX := Lib.hid hx
      clear hf hx
      have HC := Lib.hid (bad1_any x wr)
      go_wp2_with fail
      refine HC.out.mono ?_
      rintro e w2 ⟨rfl, hw2⟩
      rw [hw2]
      clear hw2 w2
      cases hbx : badB x with
      | true =>
        have HBX := Lib.hid hbx
        clear hbx
        go_wp2
        go_ret
        exact ⟨_, rfl, .inr ⟨by omega, x, List.mem_of_getElem? HX.out, HBX.out⟩, rfl⟩
      | false =>
        have HBX := Lib.hid hbx
        clear hbx
        go_wp2
        go_roundg (gk - 1)
        case measure => have := HG.out; omega
        case rel =>
          refine ⟨k + 1, by have := HG.out; omega, by omega, by go_num, fun j y hj hy => ?_, rfl⟩
          rcases Nat.lt_or_ge j k with h | h
          · exact HN.out j y h hy
          · obtain rfl : j = k := by omega
            rw [HX.out] at hy; cases hy; exact HBX.out
    · obtain rfl : k = gs.length := by omega
      have hkl : ((gs.length : Int) < (gs.length : Int)) = False := by simp
      go_wp2
      go_ret
      refine ⟨_, rfl, .inl ⟨by omega, fun g hgm => ?_⟩, rfl⟩
      obtain ⟨j, hj, rfl⟩ := List.getElem_of_mem hgm
      exact HN.out j _ hj (List.getElem?_eq_getElem hj)

def anyBad (gs : List Int) : Bool := gs.any badB
theorem anyBad_no {gs : List Int} (h : anyBad gs = false) : goodI gs := fun g hg => by
  have := (List.any_eq_false.1 h) g hg
  simp [badB] at this; omega
theorem anyBad_yes {gs : List Int} (h : anyBad gs = true) : ¬ goodI gs := fun hg => by
  obtain ⟨g, h1, h2⟩ := List.any_eq_true.1 h
  have := hg g h1
  simp [badB] at h2; omega
theorem idx_any_bad {gs : List Int} {c : Int} (h : idxSays gs c) : decide (0 ≤ c) = anyBad gs := by
  rcases h with ⟨h1, h2⟩ | ⟨h1, g, h2, h3⟩
  · rw [decide_eq_false (by omega)]
    exact (List.any_eq_false.2 fun g hg => by rw [h2 g hg]; simp).symm
  · rw [decide_eq_true h1]
    exact (List.any_eq_true.2 ⟨g, h2, h3⟩).symm
set_option maxRecDepth 100000 in
theorem containsI_any (v : Value) (gs : List Int) (w : World) (hv : Row w v (ints gs)) (hl : gs.length ≤ 1000000) :
    Calls Try.prog 98 #[v, .func (.func 99) #[] #[]] w fun e w' => e = .returned (.bool (anyBad gs)) ∧ w' = w := by
  have HC := Lib.hid (idxI_any v gs w hv hl)
  clear hv
  go_enter Try.func98, Try.ntmps98
  go_wp2_with fail
  refine HC.out.mono ?_
  rintro e w2 ⟨c, rfl, hc, hw2⟩
  rw [hw2]
  clear hw2 w2
  have HI := Lib.hid (idx_any_bad hc)
  clear hc
  go_wp2
  go_ret
  exact ⟨by rw [← HI.out]; rfl, rfl⟩
end Go.Proofs.Ytodcabaihhmhnaa
