/- Texts of this seat, 3 in one file. -/
import Derived.Test.YtcdiogifgemjbaaGreatG05
import Derived.Test.YtcdiogifgemjbaaGreatG06
import Derived.Laws.CopyOwn
import Derived.Laws.MakeOwn
import Derived.Test.YtcdiogifgemjbaaGreatG21
/- Rows of numbers in a block of the call's own, that are written into. -/
namespace Go.Proofs.YtcdiogifgemjbaaGreat
open Go.RowKit

def IBlk (w : World) (g : Nat) (l : List Int) : Prop := w.heap[g]? = some (.cells (ints l).toArray 3 (0, 0))
theorem IBlk.lt {w : World} {g : Nat} {l : List Int} (h : IBlk w g l) : g < w.heap.size := lt_of_block h
theorem IBlk.up {w w' : World} {g : Nat} {l : List Int} (h : IBlk w g l) (hb : Below w.heap.size w w') : IBlk w' g l := (hb.block g h.lt).trans h
theorem ints_get {l : List Int} {j : Nat} {m : Int} (h : l[j]? = some m) : (ints l)[j]? = some (.int .i64 m) := by simp [ints, h]
theorem IBlk.cell {w : World} {g : Nat} {l : List Int} (h : IBlk w g l) {j : Nat} {m : Int} (hj : l[j]? = some m) : w.cell? ⟨g, j, none⟩ = some (.int .i64 m) := by
  have h' : w.heap[g]? = some (.cells (ints l).toArray 3 (0, 0)) := h
  have := ints_get hj
  simp [World.cell?, h', this]
theorem IBlk.free {w : World} {g : Nat} {l : List Int} (h : IBlk w g l) (o : Nat) : w.frozen? ⟨g, o, none⟩ = false := by
  have h' : w.heap[g]? = some (.cells (ints l).toArray 3 (0, 0)) := h
  simp [World.frozen?, h']
theorem ints_set (l : List Int) (j : Nat) (m : Int) : (ints l).set j (.int .i64 m) = ints (l.set j m) := by simp [ints, List.map_set]
theorem IBlk.set {w : World} {g : Nat} {l : List Int} (h : IBlk w g l) (j : Nat) (m : Int) : IBlk (w.setCell ⟨g, j, none⟩ (.int .i64 m)) g (l.set j m) := by
  have h1 := set_block (i := j) h (.int .i64 m)
  refine h1.trans ?_
  rw [← ints_set]; simp
theorem IBlk.row {w : World} {g : Nat} {l : List Int} (h : IBlk w g l) (n cap : Nat) (hn : n = l.length) : Row w (.slice (some ⟨g, 0, none⟩) n cap) (ints l) := by
  subst hn
  refine ⟨_, cap, by rw [ints_length], fun h => (by cases h), fun x hx j u hu => ?_⟩
  cases hx
  unfold ints at hu
  rw [List.getElem?_map, Option.map_eq_some_iff] at hu
  obtain ⟨m, hm, rfl⟩ := hu
  rw [Go.WideShapes.add_plain, Nat.zero_add]
  exact h.cell hm
theorem IBlk.three (w : World) (a b c : Int) : IBlk (w.alloc (.cells #[.int .i64 a, .int .i64 b, .int .i64 c] 3)) w.heap.size [a, b, c] := heap_alloc_new w _
theorem IBlk.one (w : World) (a : Int) : IBlk (w.alloc (.cells #[.int .i64 a] 3)) w.heap.size [a] := heap_alloc_new w _

theorem ints_rep (n : Nat) (m : Int) : ints (List.replicate n m) = List.replicate n (.int .i64 m) := by simp [ints]
set_option maxRecDepth 100000 in
/-- make([]int, n). -/
theorem made_ints (n : Nat) (hn : (n : Int) ≤ 1000000) (w : World) : (Instr.makeSlice 27 (.int .i64 (n : Int)) (.int .i64 (n : Int))).run Tryz.prog w = .ok (.slice (some ⟨w.heap.size, 0, none⟩) n n) (w.alloc (.cells (ints (List.replicate n 0)).toArray 3)) := by
  obtain ⟨i0, hi, hz0, hz1, hz2⟩ := info_parts (P := Tryz.prog) (e := 3) (z := .int .i64 0) (size := 1) (bytes := 8) (by kernel_rfl)
  have h := run_make (P := Tryz.prog) w 27 3 i0 (.int .i64 0) Tryz.underlying27 hi hz0 .i64 .i64 (n : Int) (n : Int) (by omega) (by omega) (by rw [hz2]; omega) (by omega)
  rw [hz1, Nat.mul_one, Int.toNat_natCast] at h
  rw [h]
  congr 3
  rw [ints_rep]
  apply Array.ext'
  refine List.ext_getElem? fun x => ?_
  by_cases hx : x < n
  · simp [madeCells, hx, Value.cells, Nat.mod_one]
  · rw [List.getElem?_eq_none (by simp [madeCells]; omega), List.getElem?_eq_none (by simp; omega)]
end Go.Proofs.YtcdiogifgemjbaaGreat
/- What is still needed behind whole rounds; whether one is no number that can be. -/
namespace Go.Proofs.YtcdiogifgemjbaaGreat
open Go.RowKit

def lfI (r : Int) : Int → List Int → Int
  | need, [] => need
  | need, g :: l => if need < 0 then need else lfI r (need - min g r) l
theorem lfI_neg {r need : Int} (h : need < 0) (l : List Int) : lfI r need l = need := by
  cases l with
  | nil => rfl
  | cons g l => rw [lfI, if_pos h]
theorem drop_at {α : Type} {l : List α} {k : Nat} {g : α} (h : l[k]? = some g) : l.drop k = g :: l.drop (k + 1) := by
  obtain ⟨hk, rfl⟩ := List.getElem?_eq_some_iff.1 h
  exact List.drop_eq_getElem_cons hk
/-- Numbers that kids can give. -/
def goodI (l : List Int) : Prop := ∀ g ∈ l, 0 ≤ g ∧ g ≤ 2147483647

set_option maxRecDepth 100000 in
theorem left_any (need r : Int) (v : Value) (gs : List Int) (w : World) (hv : Row w v (ints gs)) (hg : goodI gs) (hn : 0 ≤ need ∧ need ≤ 2147483647) (hr : 0 ≤ r ∧ r ≤ 2147483647) (hl : gs.length ≤ 1000000) :
    Calls Tryz.prog 101 #[.int .i64 need, .int .i64 r, v] w fun e w' => e = .returned (.int .i64 (lfI r need gs)) ∧ w' = w := by
  obtain ⟨a, cap, rfl⟩ := row_shape hv
  have HV := Lib.hid hv
  have HGD := Lib.hid hg
  clear hv hg
  go_enter Tryz.func101, Tryz.ntmps101
  go_wp2
  go_loopg [0, 11] (gs.length + 1) (fun g vn i wr => ∃ (k : Nat) (m : Int), g + k = gs.length + 1 ∧ k ≤ gs.length ∧ i = .int .i64 k ∧ vn = .int .i64 m ∧ -2147483648 ≤ m ∧ m ≤ 2147483647 ∧ lfI r need gs = lfI r m (gs.drop k) ∧ wr = w)
  case atStart => exact ⟨0, need, by omega, by omega, rfl, rfl, by omega, by omega, by simp, rfl⟩
  case round =>
    obtain ⟨k, m, hgk, hk, rfl, rfl, hm1, hm2, hlf, rfl⟩ := hrel
    have HG := Lib.hid hgk
    have HL := Lib.hid hlf
    clear hgk hlf
    by_cases hlt : k < gs.length
    · have hlti : (k : Int) < (gs.length : Int) := by omega
      obtain ⟨x, hx⟩ : ∃ x, gs[k]? = some x := ⟨_, List.getElem?_eq_getElem hlt⟩
      obtain ⟨b, o, rfl, hf⟩ := int_at HV.out (by omega)
      have c0 := hf k x hx
      have hgx := HGD.out x (List.mem_of_getElem? hx)
      have HD := Lib.hid (drop_at hx)
      clear hf hx
      by_cases hneg : m < 0
      · have dn : decide (m < 0) = true := decide_eq_true hneg
        have HR := Lib.hid (HL.out.trans (lfI_neg hneg _))
        go_wp2
        go_ret
        exact ⟨ret_int HR.out.symm, rfl⟩
      · have dn : decide (m < 0) = false := decide_eq_false hneg
        go_wp2
        go_roundg (gk - 1)
        case measure => have := HG.out; omega
        case rel => exact ⟨k + 1, m - min x r, by have := HG.out; omega, by omega, by go_num, rfl, by omega, by omega, by rw [HL.out, HD.out, lfI, if_neg (by omega)], rfl⟩
    · obtain rfl : k = gs.length := by omega
      have hkl : ((gs.length : Int) < (gs.length : Int)) = False := by simp
      have HR : Hid (lfI r need gs = m) := Lib.hid (by have := HL.out; rw [List.drop_length] at this; exact this)
      go_wp2
      go_ret
      exact ⟨ret_int HR.out.symm, rfl⟩

def badB (n : Int) : Bool := decide (n < 0) || decide (2147483647 < n)
theorem bad1_any (n : Int) (w : World) : Calls Tryz.prog 93 #[.int .i64 n] w fun e w' => e = .returned (.bool (badB n)) ∧ w' = w := by
  unfold badB
  rcases Bool.eq_false_or_eq_true (decide (n < 0)) with d1 | d1 <;> rcases Bool.eq_false_or_eq_true (decide (2147483647 < n)) with d2 | d2
  all_goals
    rw [d1, d2]
    go_enter Tryz.func93, Tryz.ntmps93
    go_wp2
    go_ret
    exact ⟨rfl, rfl⟩
theorem enters15 : Enters 93 := enters_of Tryz.func93 (by kernel_rfl) rfl

def idxSays (gs : List Int) (c : Int) : Prop := (c < 0 ∧ ∀ g ∈ gs, badB g = false) ∨ (0 ≤ c ∧ ∃ g ∈ gs, badB g = true)
set_option maxRecDepth 100000 in
theorem idxI_any (v : Value) (gs : List Int) (w : World) (hv : Row w v (ints gs)) (hl : gs.length ≤ 1000000) :
    Calls Tryz.prog 100 #[v, .func (.func 93) #[] #[]] w fun e w' => ∃ c : Int, e = .returned (.int .i64 c) ∧ idxSays gs c ∧ w' = w := by
  have hent : ∀ (args : Array Value) (w : World), (callFunc 93 args).run Tryz.prog w = .ok (.enter 93 args) w := enters15
  obtain ⟨a, cap, rfl⟩ := row_shape hv
  have HV := Lib.hid hv
  clear hv
  go_enter Tryz.func100, Tryz.ntmps100
  go_wp2
  go_loopg [8] (gs.length + 1) (fun g i wr => ∃ k : Nat, g + k = gs.length + 1 ∧ k ≤ gs.length ∧ i = .int .i64 k ∧ (∀ (j : Nat) (x : Int), j < k → gs[j]? = some x → badB x = false) ∧ wr = w)
  case atStart => exact ⟨0, by omega, by omega, rfl, fun j x hj => by omega, rfl⟩
  case round =>
    obtain ⟨k, hgk, hk, rfl, hno, rfl⟩ := hrel
    have HG := Lib.hid hgk
    have HN := Lib.hid hno
    clear hgk hno
    by_cases hlt : k < gs.length
    · have hlti : (k : Int) < (gs.length : Int) := by omega
      obtain ⟨x, hx⟩ : ∃ x, gs[k]? = some x := ⟨_, List.getElem?_eq_getElem hlt⟩
      obtain ⟨b, o, rfl, hf⟩ := int_at HV.out (by omega)
      have c0 := hf k x hx
      have HX := Lib.hid hx
      clear hf hx
      have HC := Lib.hid (bad1_any x wr)
      go_wp2_with fail
      refine HC.out.mono ?_
      rintro e w2 ⟨rfl, hw2⟩
      rw [hw2]
      clear hw2 w2
      cases hbx : badB x with
      | true =>
        have HBX := Lib.hid hbx
        clear hbx
        go_wp2
        go_ret
        exact ⟨_, rfl, .inr ⟨by omega, x, List.mem_of_getElem? HX.out, HBX.out⟩, rfl⟩
      | false =>
        have HBX := Lib.hid hbx
        clear hbx
        go_wp2
        go_roundg (gk - 1)
        case measure => have := HG.out; omega
        case rel =>
          refine ⟨k + 1, by have := HG.out; omega, by omega, by go_num, fun j y hj hy => ?_, rfl⟩
          rcases Nat.lt_or_ge j k with h | h
          · exact HN.out j y h hy
          · obtain rfl : j = k := by omega
            rw [HX.out] at hy; cases hy; exact HBX.out
    · obtain rfl : k = gs.length := by omega
      have hkl : ((gs.length : Int) < (gs.length : Int)) = False := by simp
      go_wp2
      go_ret
      refine ⟨_, rfl, .inl ⟨by omega, fun g hgm => ?_⟩, rfl⟩
      obtain ⟨j, hj, rfl⟩ := List.getElem_of_mem hgm
      exact HN.out j _ hj (List.getElem?_eq_getElem hj)

def anyBad (gs : List Int) : Bool := gs.any badB
theorem anyBad_no {gs : List Int} (h : anyBad gs = false) : goodI gs := fun g hg => by
  have := (List.any_eq_false.1 h) g hg
  simp [badB] at this; omega
theorem anyBad_yes {gs : List Int} (h : anyBad gs = true) : ¬ goodI gs := fun hg => by
  obtain ⟨g, h1, h2⟩ := List.any_eq_true.1 h
  have := hg g h1
  simp [badB] at h2; omega
theorem idx_any_bad {gs : List Int} {c : Int} (h : idxSays gs c) : decide (0 ≤ c) = anyBad gs := by
  rcases h with ⟨h1, h2⟩ | ⟨h1, g, h2, h3⟩
  · rw [decide_eq_false (by omega)]
    exact (List.any_eq_false.2 fun g hg => by rw [h2 g hg]; simp).symm
  · rw [decide_eq_true h1]
    exact (List.any_eq_true.2 ⟨g, h2, h3⟩).symm
set_option maxRecDepth 100000 in
theorem containsI_any (v : Value) (gs : List Int) (w : World) (hv : Row w v (ints gs)) (hl : gs.length ≤ 1000000) :
    Calls Tryz.prog 92 #[v, .func (.func 93) #[] #[]] w fun e w' => e = .returned (.bool (anyBad gs)) ∧ w' = w := by
  have HC := Lib.hid (idxI_any v gs w hv hl)
  clear hv
  go_enter Tryz.func92, Tryz.ntmps92
  go_wp2_with fail
  refine HC.out.mono ?_
  rintro e w2 ⟨c, rfl, hc, hw2⟩
  rw [hw2]
  clear hw2 w2
  have HI := Lib.hid (idx_any_bad hc)
  clear hc
  go_wp2
  go_ret
  exact ⟨by rw [← HI.out]; rfl, rfl⟩
end Go.Proofs.YtcdiogifgemjbaaGreat
/- What the program reckons, against what is given round by round. No walk. -/
namespace Go.Proofs.YtcdiogifgemjbaaGreat
open Go.RowKit Sh

def natI (l : List Nat) : List Int := l.map fun a : Nat => (a : Int)
def negI (l : List Nat) : List Int := l.map fun a : Nat => -(a : Int)
theorem natI_length (l : List Nat) : (natI l).length = l.length := by simp [natI]
theorem negI_length (l : List Nat) : (negI l).length = l.length := by simp [negI]
theorem natI_get {l : List Nat} {k a : Nat} (h : l[k]? = some a) : (natI l)[k]? = some (a : Int) := by simp [natI, h]
theorem negI_get {l : List Nat} {k a : Nat} (h : l[k]? = some a) : (negI l)[k]? = some (-(a : Int)) := by simp [negI, h]
theorem natI_of {gs : List Int} (h : goodI gs) : gs = natI (gs.map Int.toNat) := by
  unfold natI
  rw [List.map_map]
  conv => lhs; rw [← List.map_id gs]
  refine List.map_congr_left fun g hg => ?_
  have := h g hg
  simp only [id, Function.comp]; omega
def goodN (l : List Nat) : Prop := ∀ a ∈ l, a ≤ 2147483647
theorem goodN_of {gs : List Int} (h : goodI gs) : goodN (gs.map Int.toNat) := fun a ha => by
  obtain ⟨g, hg, rfl⟩ := List.mem_map.1 ha
  have := h g hg; omega
theorem goodI_of {l : List Nat} (h : goodN l) : goodI (natI l) := fun g hg => by
  obtain ⟨a, ha, rfl⟩ := List.mem_map.1 hg
  have := h a ha; omega

/-- What so many whole rounds take. -/
def rs (r : Nat) (l : List Nat) : Nat := (l.map fun a => min a r).sum
def cnt (r : Nat) : List Nat → Nat
  | [] => 0
  | a :: l => (if r < a then 1 else 0) + cnt r l
theorem rs_succ (r : Nat) (l : List Nat) : rs (r + 1) l = rs r l + cnt r l := by
  induction l with
  | nil => rfl
  | cons a l ih =>
    have h1 : rs (r + 1) (a :: l) = min a (r + 1) + rs (r + 1) l := by simp [rs]
    have h2 : rs r (a :: l) = min a r + rs r l := by simp [rs]
    rw [h1, h2, cnt, ih]
    split <;> omega
theorem rs_zero (l : List Nat) : rs 0 l = 0 := by
  induction l with
  | nil => rfl
  | cons a l ih => simp only [rs, List.map_cons, List.sum_cons] at *; omega
theorem rs_all {r : Nat} {l : List Nat} (h : ∀ a ∈ l, a ≤ r) : rs r l = l.sum := by
  induction l with
  | nil => rfl
  | cons a l ih =>
    have h1 : rs r (a :: l) = min a r + rs r l := by simp [rs]
    have := h a (List.mem_cons_self ..)
    rw [h1, ih fun b hb => h b (List.mem_cons_of_mem _ hb), List.sum_cons]
    omega
theorem lf_spec (r : Nat) (l : List Nat) : ∀ need : Nat, (need < rs r l → lfI r need (natI l) < 0) ∧ (rs r l ≤ need → lfI r need (natI l) = (need : Int) - rs r l) := by
  induction l with
  | nil => intro need; simp [rs, natI, lfI]
  | cons a l ih =>
    intro need
    have h2 : rs r (a :: l) = min a r + rs r l := by simp [rs]
    have h3 : lfI r need (natI (a :: l)) = lfI r ((need : Int) - min (a : Int) (r : Int)) (natI l) := by
      show lfI r need ((a : Int) :: natI l) = _
      rw [lfI, if_neg (by omega)]
    rw [h2, h3]
    by_cases hm : min a r ≤ need
    · have e : (need : Int) - min (a : Int) (r : Int) = ((need - min a r : Nat) : Int) := by omega
      rw [e]
      obtain ⟨i1, i2⟩ := ih (need - min a r)
      refine ⟨fun h => i1 (by omega), fun h => ?_⟩
      rw [i2 (by omega)]; omega
    · have hn : (need : Int) - min (a : Int) (r : Int) < 0 := by omega
      rw [lfI_neg hn]
      exact ⟨fun _ => hn, fun h => by omega⟩

/-- What the program takes: so many whole rounds, and 1 more of the first ones that can. -/
def tk (r : Nat) : Nat → List Nat → List Nat
  | _, [] => []
  | last, a :: l => if 0 < last ∧ r < a then (r + 1) :: tk r (last - 1) l else min a r :: tk r last l
theorem tk_sum (r : Nat) (l : List Nat) : ∀ last, last ≤ cnt r l → (tk r last l).sum = rs r l + last := by
  induction l with
  | nil => intro last h; simp [cnt] at h; subst h; simp [tk, rs]
  | cons a l ih =>
    intro last h
    have h2 : rs r (a :: l) = min a r + rs r l := by simp [rs]
    rw [cnt] at h
    rw [tk, h2]
    split
    · rename_i hc
      rw [if_pos hc.2] at h
      rw [List.sum_cons, ih _ (by omega)]; omega
    · rename_i hc
      rw [List.sum_cons, ih _ (by split at h <;> omega)]; omega
theorem tk_form (r : Nat) (l : List Nat) : ∀ last, last ≤ cnt r l → ∃ p, p ≤ l.length ∧ tk r last l = (List.range l.length).map fun i => min (l.getD i 0) (r + if i < p then 1 else 0) := by
  induction l with
  | nil => intro last h; exact ⟨0, by simp, by simp [tk]⟩
  | cons a l ih =>
    intro last h
    rw [cnt] at h
    by_cases hl : last = 0
    · subst hl
      obtain ⟨p, hp, he⟩ := ih 0 (by omega)
      refine ⟨0, by omega, ?_⟩
      have h0 : ∀ m : List Nat, tk r 0 m = m.map fun b => min b r := by
        intro m
        induction m with
        | nil => rfl
        | cons b m im => rw [tk, if_neg (by omega), im]; rfl
      rw [h0]
      conv => lhs; rw [all_map (a :: l), List.map_map]
      refine List.map_congr_left fun i _ => ?_
      simp
    · obtain ⟨last', x, h1, h2, h3⟩ : ∃ last' x, tk r last (a :: l) = x :: tk r last' l ∧ x = min a (r + 1) ∧ last' ≤ cnt r l := by
        rw [tk]
        by_cases hr : r < a
        · rw [if_pos ⟨by omega, hr⟩]
          rw [if_pos hr] at h
          exact ⟨_, _, rfl, by omega, by omega⟩
        · rw [if_neg (by omega)]
          rw [if_neg hr] at h
          exact ⟨_, _, rfl, by omega, by omega⟩
      obtain ⟨p, hp, he⟩ := ih last' h3
      refine ⟨p + 1, by simp; omega, ?_⟩
      rw [h1, h2, he, List.length_cons, List.range_succ_eq_map, List.map_cons, List.map_map]
      congr 1
      refine List.map_congr_left fun i _ => ?_
      simp
/-- It is what is given round by round. -/
theorem tk_out (r : Nat) (l : List Nat) (last : Nat) (h : last ≤ cnt r l) : ∃ m, tk r last l = out (some l) l.length m := by
  obtain ⟨p, hp, he⟩ := tk_form r l last h
  refine ⟨l.length * r + p, ?_⟩
  rw [he, take_map]
  refine List.map_congr_left fun i hi => ?_
  have hi' := List.mem_range.1 hi
  congr 1
  unfold vis
  by_cases hpn : p < l.length
  · obtain ⟨h1, h2⟩ := div_mod_of (n := l.length) (m := l.length * r + p) (q := r) (s := p) rfl hpn
    rw [h1, h2]
  · obtain rfl : p = l.length := by omega
    obtain ⟨h1, h2⟩ := div_mod_of (n := l.length) (m := l.length * r + l.length) (q := r + 1) (s := 0) (by rw [Nat.mul_add]; omega) (by omega)
    rw [h1, h2, if_pos hi']; simp
/-- How many whole rounds there are, as the program finds it. -/
theorem rounds_ok {l : List Nat} {need r : Nat} (hg : goodN l) (h1 : r = 0 ∨ ¬ need < rs (r - 1 + 1) l) (h2 : r = 2147483647 ∨ need < rs (r + 1) l) (hn : need ≤ l.sum) : rs r l ≤ need ∧ need - rs r l ≤ cnt r l := by
  have h3 : rs r l ≤ need := by
    rcases h1 with rfl | h1
    · rw [rs_zero]; omega
    · by_cases hr : r = 0
      · subst hr; rw [rs_zero]; omega
      · rw [show r - 1 + 1 = r by omega] at h1; omega
  refine ⟨h3, ?_⟩
  rcases h2 with rfl | h2
  · rw [rs_all hg] at h3 ⊢; omega
  · rw [rs_succ] at h2; omega

/-- What Shares answers. -/
def okS (b : Int) (gs : List Int) : Prop := gs ≠ [] ∧ goodI gs ∧ -2147483647 ≤ b ∧ b ≤ 2147483647 ∧ (b < 0 → (-b).toNat ≤ (gs.map Int.toNat).sum)
def ShIs (b : Int) (gs : List Int) (l : List Int) : Prop :=
  (0 ≤ b ∧ l = natI (out none gs.length b.toNat)) ∨ (b < 0 ∧ ∃ m, l = negI (out (some (gs.map Int.toNat)) gs.length m) ∧ (out (some (gs.map Int.toNat)) gs.length m).sum = (-b).toNat)
theorem ShIs.len {b : Int} {gs l : List Int} (h : ShIs b gs l) : l.length = gs.length := by
  rcases h with ⟨-, rfl⟩ | ⟨-, m, rfl, -⟩
  · rw [natI_length, out_len]
  · rw [negI_length, out_len]
theorem ShIs.one {b : Int} {gs l l' : List Int} (h : ShIs b gs l) (h' : ShIs b gs l') : l = l' := by
  rcases h with ⟨h0, rfl⟩ | ⟨h0, m, rfl, hm⟩
  · rcases h' with ⟨-, rfl⟩ | ⟨h1, -⟩
    · rfl
    · omega
  · rcases h' with ⟨h1, -⟩ | ⟨-, m', rfl, hm'⟩
    · omega
    · rw [out_one (some (gs.map Int.toNat)) (m := m) (m' := m') (by rw [hm, hm'])]
def ShSays (b : Int) (gs : List Int) (w : World) (e : Ending) (w' : World) : Prop :=
  Below w.heap.size w w' ∧ ((okS b gs ∧ ∃ v l, e = .returned (.tuple #[v, .bool true]) ∧ ShIs b gs l ∧ Row w' v (ints l)) ∨ (¬ okS b gs ∧ ∃ v, e = .returned (.tuple #[v, .bool false]) ∧ Row w' v (ints [])))
end Go.Proofs.YtcdiogifgemjbaaGreat
