/- Texts of this seat, 3 in one file. -/
import Derived.Test.YtcdiogifgemjbaaGreatG05
import Derived.Test.YtcdiogifgemjbaaGreatG18
import Derived.Test.YtcdiogifgemjbaaGreatShelf
import Derived.Sort.OwnSortedInts
import Derived.Test.YtcdiogifgemjbaaGreatG24
import Derived.Test.YtcdiogifgemjbaaGreatG27
import Derived.Test.YtcdiogifgemjbaaGreatG28
import Derived.Test.YtcdiogifgemjbaaGreatG41
/- The path to the first leaf with a number. -/
namespace Go.Proofs.YtcdiogifgemjbaaGreat
open Go.RowKit

theorem holds_ints (q : List Int) (w : World) (g : Nat) (hc : ∀ j u, (ints q)[j]? = some u → w.cell? ((⟨g, 0, none⟩ : Addr).add j) = some u) (hf : ∀ j, w.frozen? ⟨g, j, none⟩ = false) : Sort.Holds (Value.int .i64) w g 0 q.toArray := by
  intro j hj
  have hj' : j < q.length := by simpa using hj
  have h := hc j (.int .i64 q[j]) (by simp [ints, List.getElem?_eq_getElem hj'])
  rw [Go.WideShapes.add_plain] at h
  refine ⟨?_, hf _⟩
  rw [h]
  simp [hj']
theorem ints_of_holds {q : List Int} {w : World} {g cap : Nat} (h : Sort.Holds (Value.int .i64) w g 0 q.toArray) : Row w (.slice (some ⟨g, 0, none⟩) q.length cap) (ints q) := by
  refine ⟨some ⟨g, 0, none⟩, cap, by rw [ints_length], (fun h => by cases h), fun x hx j u hu => ?_⟩
  cases hx
  have hj : j < q.length := by
    rcases Nat.lt_or_ge j q.length with h | h
    · exact h
    · rw [List.getElem?_eq_none (by rw [ints_length]; exact h)] at hu; cases hu
  have h1 := (h j (by simpa using hj)).1
  rw [Go.WideShapes.add_plain, h1]
  simp [ints, hj] at hu
  rw [← hu]
  simp [hj]

theorem rev_any (v : Value) (p : List Int) (base : Nat) (w : World) (h : w.ownsRow base 3 1 v p.length (ints p.reverse)) (hl : p.length ≤ 1000000) :
    Calls Tryz.prog 41 #[v] w fun e w' => e = .returned (.tuple #[]) ∧ Row w' v (ints p) ∧ Below base w w' := by
  rcases h.2 with ⟨rfl, h0⟩ | ⟨g, cap, cur, rfl, hb, hg, hn, hm, hs, ht⟩
  · obtain rfl : p = [] := List.length_eq_zero_iff.1 h0
    refine (Tryz.slices_Reverse_int_empty none 0 w).mono ?_
    rintro e w' ⟨rfl, hw⟩
    subst hw
    exact ⟨rfl, ⟨none, 0, rfl, fun _ => ⟨rfl, rfl⟩, fun x hx => by cases hx⟩, Below.refl _ _⟩
  · have hH : Sort.Holds (Value.int .i64) w g 0 p.reverse.toArray := holds_ints _ w g (h.cells (g := g) rfl) (fun j => by simp [World.frozen?, hg])
    have := Tryz.slices_Reverse_int g 0 cap p.reverse w hH (by simp; omega)
    rw [List.length_reverse, List.reverse_reverse] at this
    refine this.mono ?_
    rintro e w' ⟨rfl, n, rfl⟩
    have hG := Sort.holds_putRow (Value.int .i64) (Sort.ahead w n) g 0 p.reverse.toArray p.toArray (Sort.holds_ahead _ w n g 0 _ hH) (by simp)
    have hgr := grownBy_sortedI (w := w) (g := g) (n := n) (os := #[]) p.toArray
    rw [Sort.grow_empty] at hgr
    refine ⟨rfl, ints_of_holds hG, ⟨hgr.os, hgr.tape, hgr.output, hgr.size, fun k hk => ?_⟩⟩
    rcases Nat.lt_or_ge k w.heap.size with h1 | h1
    · exact hgr.block k h1 (fun e => by cases e; omega)
    · have hlt := lt_of_block hg
      omega

def FindSays (r : Option (List Int)) (w : World) (e : Ending) (w' : World) : Prop :=
  Below w.heap.size w w' ∧ match r with
  | some p => ∃ v, e = .returned (.tuple #[v, .bool true]) ∧ Row w' v (ints p)
  | none => e = .returned (.tuple #[.slice none 0 0, .bool false])

set_option maxRecDepth 100000 in
theorem find_any (id : Int) (t : T) (c : C) (w : World) (hs : sz t ≤ 1000000) (hi : Is w c t) : Calls Tryz.prog 26 #[cval c, .int .i64 id] w (FindSays (findT id t) w) := by
  have HA : Hid (Below w.heap.size w (w.alloc (cbox c))) := (Below.refl _ _).alloc (Nat.le_refl _) _
  have H := Lib.hid (way_any id (sz t) t c (w.alloc (cbox c)) (Nat.le_refl _) hs (hi.up HA.out))
  have HS := Lib.hid hs
  clear hi hs
  cases hf : findT id t with
  | none =>
    rw [hf] at H
    clear hf
    go_enter Tryz.func26, Tryz.ntmps26
    go_wp2_with fail
    refine H.out.mono ?_
    rintro e w2 ⟨hb, rfl⟩
    have HB := Lib.hid hb
    clear hb
    go_wp2_with fail
    refine (Tryz.slices_Reverse_int_empty none 0 w2).mono ?_
    rintro e w3 ⟨rfl, hw⟩
    rw [hw]
    clear hw w3
    go_wp2
    go_ret2
    exact ⟨below_one HB.out, rfl⟩
  | some p =>
    rw [hf] at H
    have HL := Lib.hid (show p.length ≤ 1000000 by have := findT_len id p t hf; have := HS.out; omega)
    clear hf
    go_enter Tryz.func26, Tryz.ntmps26
    go_wp2_with fail
    refine H.out.mono ?_
    rintro e w2 ⟨hb, v, rfl, hown⟩
    have HB := Lib.hid hb
    have HO := Lib.hid hown
    clear hb hown
    go_wp2_with fail
    refine (rev_any v p _ w2 HO.out HL.out).mono ?_
    rintro e w3 ⟨rfl, hr, hb⟩
    have HR := Lib.hid hr
    have HB3 := Lib.hid (HB.out.trans hb)
    clear hr hb
    go_wp2
    go_ret2
    exact ⟨below_one HB3.out, v, rfl, HR.out⟩
end Go.Proofs.YtcdiogifgemjbaaGreat
/- A leaf with a number: the program's find, and whether a number is free. -/
namespace Go.Proofs.YtcdiogifgemjbaaGreat
open Go.RowKit

set_option maxRecDepth 100000 in
theorem results_c3 {fn : Func} {p u u2 : Tmp} (h : fn.results = #[.cell p 26, .tmp u, .tmp u2]) (tmps : Array Value) (w : World) (g : Nat) (c : C) (hp : tmps.getD p undef = .pointer (some ⟨g, 0, none⟩)) (hg : Box7 w g c) :
    (results fn tmps).run Tryz.prog w = .ok (.tuple #[cval c, tmps.getD u undef, tmps.getD u2 undef]) w := by
  have hg' : w.heap[g]? = some (cbox c) := hg
  have hl := run_loadVar_row (P := Tryz.prog) w g 26 26 _ (0, 0) _ hg' Tryz.underlying26 rfl (by kernel_rfl)
  have hp' : tmps[p]?.getD undef = .pointer (some ⟨g, 0, none⟩) := by simpa using hp
  simp only [results, h]
  simp [Sem.run_bind, asAddr, Result.andThen]
  rw [hp']
  simp [hl]

/-- Numbers in a row that the call made. -/
def PRow (w : World) (base : Nat) (v : Value) (p : List Int) : Prop := Row w v (ints p) ∧ (∀ a n cap, v = .slice (some a) n cap → ∃ g, a = ⟨g, 0, none⟩ ∧ base ≤ g) ∧ ∀ a n cap, v = .slice a n cap → n ≤ cap
theorem PRow.up {w w' : World} {base : Nat} {v : Value} {p : List Int} (h : PRow w base v p) (hb : Below w.heap.size w w') : PRow w' base v p := ⟨h.1.up hb, h.2⟩
theorem PRow.lower {w : World} {base base' : Nat} {v : Value} {p : List Int} (h : PRow w base v p) (hb : base' ≤ base) : PRow w base' v p := ⟨h.1, fun a n cap e => by obtain ⟨g, h1, h2⟩ := h.2.1 a n cap e; exact ⟨g, h1, by omega⟩, h.2.2⟩
theorem PRow.kept {w w' : World} {base : Nat} {v : Value} {p : List Int} (h : PRow w base v p) (hk : ∀ g, base ≤ g → w'.heap[g]? = w.heap[g]?) : PRow w' base v p := by
  refine ⟨?_, h.2⟩
  obtain ⟨a, n, rfl, h0, h1⟩ := h.1
  refine ⟨a, n, rfl, h0, fun x hx j u hu => ?_⟩
  subst hx
  obtain ⟨g, rfl, hg⟩ := h.2.1 x _ _ rfl
  have := h1 _ rfl j u hu
  rw [Go.WideShapes.add_plain] at this ⊢
  exact (World.cell?_of_block (a := ⟨g, 0 + j, none⟩) (hk g hg)).trans this

def FindO (r : Option (List Int)) (w : World) (e : Ending) (w' : World) : Prop :=
  Below w.heap.size w w' ∧ match r with
  | some p => ∃ a cap, e = .returned (.tuple #[.slice a p.length cap, .bool true]) ∧ PRow w' w.heap.size (.slice a p.length cap) p
  | none => e = .returned (.tuple #[.slice none 0 0, .bool false])
set_option maxRecDepth 100000 in
theorem findO_any (id : Int) (t : T) (c : C) (w : World) (hs : sz t ≤ 1000000) (hi : Is w c t) : Calls Tryz.prog 26 #[cval c, .int .i64 id] w (FindO (findT id t) w) := by
  have HA : Hid (Below w.heap.size w (w.alloc (cbox c))) := (Below.refl _ _).alloc (Nat.le_refl _) _
  have H := Lib.hid (way_any id (sz t) t c (w.alloc (cbox c)) (Nat.le_refl _) hs (hi.up HA.out))
  have HS := Lib.hid hs
  clear hi hs
  cases hf : findT id t with
  | none =>
    rw [hf] at H
    clear hf
    go_enter Tryz.func26, Tryz.ntmps26
    go_wp2_with fail
    refine H.out.mono ?_
    rintro e w2 ⟨hb, rfl⟩
    have HB := Lib.hid hb
    clear hb
    go_wp2_with fail
    refine (Tryz.slices_Reverse_int_empty none 0 w2).mono ?_
    rintro e w3 ⟨rfl, hw⟩
    rw [hw]
    clear hw w3
    go_wp2
    go_ret2
    exact ⟨below_one HB.out, rfl⟩
  | some p =>
    rw [hf] at H
    have HL := Lib.hid (show p.length ≤ 1000000 by have := findT_len id p t hf; have := HS.out; omega)
    clear hf
    go_enter Tryz.func26, Tryz.ntmps26
    go_wp2_with fail
    refine H.out.mono ?_
    rintro e w2 ⟨hb, v, rfl, hown⟩
    have HB := Lib.hid hb
    have HO := Lib.hid hown
    have HFAR : Hid (∀ a n cap, v = .slice (some a) n cap → ∃ g, a = ⟨g, 0, none⟩ ∧ w.heap.size ≤ g) := Lib.hid fun a n cap e => by
      rcases hown.2 with ⟨h0, -⟩ | ⟨g, cap', cur, h0, hg, -⟩
      · rw [h0] at e; cases e
      · rw [h0] at e; cases e; exact ⟨g, rfl, by simp at hg; omega⟩
    have HCP : Hid (∀ a n cap, v = .slice a n cap → n ≤ cap) := Lib.hid fun a n cap e => by
      rcases hown.2 with ⟨h0, -⟩ | ⟨g, cap', cur, h0, -, -, hn, -⟩
      · rw [h0] at e; cases e; exact Nat.le_refl _
      · rw [h0] at e; cases e; exact hn
    clear hb hown
    go_wp2_with fail
    refine (rev_any v p _ w2 HO.out HL.out).mono ?_
    rintro e w3 ⟨rfl, hr, hb⟩
    have HR := Lib.hid hr
    have HB3 := Lib.hid (HB.out.trans hb)
    clear hr hb
    obtain ⟨a, cap, rfl⟩ := row_shape HR.out
    go_wp2
    go_ret2
    exact ⟨below_one HB3.out, a, cap, rfl, HR.out, HFAR.out, HCP.out⟩

set_option maxRecDepth 100000 in
theorem atO_any (t u : T) (c : C) (v : Value) (p : List Int) (w : World) (hi : Is w c t) (hr : Row w v (ints p)) (hl : p.length ≤ 1000000) (hat : atT t p = some u) : Calls Tryz.prog 16 #[cval c, v] w fun e w' => ∃ d S, e = .returned (.tuple #[cval d, .bool true]) ∧ OwnT w' w.heap.size d u S ∧ S.Nodup ∧ Below w.heap.size w w' := by
  have B1 : Hid (Below w.heap.size w ((w.alloc (cbox c)).alloc zeroBox)) := ((Below.refl _ _).alloc (Nat.le_refl _) _).alloc (by simp) _
  have Z1 : Hid (Zero7 ((w.alloc (cbox c)).alloc zeroBox) (w.heap.size + 1)) := Lib.hid (by
    have := zero_new (w.alloc (cbox c))
    simpa using this)
  have HC := Lib.hid (follow_any w t c v p ((w.alloc (cbox c)).alloc zeroBox) B1.out hi hr hl)
  obtain ⟨a, cap, rfl⟩ := row_shape hr
  clear hi hr
  have HC2 : Hid (Calls Tryz.prog 31 #[cval c, .slice a p.length cap] ((w.alloc (cbox c)).alloc zeroBox) fun e w' => ∃ y, e = .returned (.tuple #[cval y, .bool true]) ∧ Is w y u ∧ Below ((w.alloc (cbox c)).alloc zeroBox).heap.size ((w.alloc (cbox c)).alloc zeroBox) w') := HC.out.mono fun e w' h => by
    unfold FollowSays at h; rw [hat] at h
    obtain ⟨hb, y, h1, h2⟩ := h
    exact ⟨y, h1, h2, hb⟩
  clear HC hat
  go_enter Tryz.func16, Tryz.ntmps16
  go_wp2_with fail
  refine HC2.out.mono ?_
  rintro e w2 ⟨y, rfl, hiy, hb2⟩
  have HB2 := Lib.hid (B1.out.trans (hb2.mono B1.out.size))
  have HZ2 := Lib.hid (zero_up Z1.out hb2)
  have HA : Hid (Below w2.heap.size w2 (w2.alloc (cbox y))) := (Below.refl _ _).alloc (Nat.le_refl _) _
  have HF := Lib.hid (fresh_any (sz u) u y (w2.alloc (cbox y)) (Nat.le_refl _) ((hiy.up HB2.out).up HA.out))
  clear hiy hb2
  go_wp2_with fail
  refine HF.out.mono ?_
  rintro e w3 ⟨d, S3, rfl, hown, hnd, hb3⟩
  have HO := Lib.hid hown
  have HND := Lib.hid hnd
  have HB3 := Lib.hid (HB2.out.trans ((below_one hb3).mono HB2.out.size))
  have HZ3 := Lib.hid (zero_up HZ2.out (below_one hb3))
  have HSZ : Hid (w.heap.size + 2 ≤ w2.heap.size) := Lib.hid (by have := lt_of_block HZ2.out; omega)
  obtain ⟨⟨z0, z1, z2, z3, z4, z5, z6⟩, f0, f1, f2, f3, f4, f5, f6⟩ := zero_parts HZ3.out
  clear hown hb3 hnd
  go_wp2
  (try simp only [Exit.inBlock, Exit.then])
  refine bodyPost_ret (results_cell2 rfl _ _ (w.heap.size + 1) d rfl ((Box7.of_zero HZ3.out).put d)) rfl ?_
  refine ⟨d, S3, rfl, ?_, HND.out, below_put7 HB3.out (by omega) d⟩
  refine (HO.out.frame fun k hk => ?_).lower (by have := HSZ.out; simp; omega)
  have := (HO.out.ge k hk).1
  have := HSZ.out
  simp at *
  exact heap_put7 (by omega)

def freeB (id : Int) (t : T) : Bool := (decide (0 ≤ id) && decide (id ≤ 2147483647)) && !(findT id t).isSome
/-- A leaf, the path to it, and whether there is one. -/
def PfSays (id : Int) (t : T) (w : World) (e : Ending) (w' : World) : Prop :=
  Below w.heap.size w w' ∧ match findT id t with
  | some p => ∃ d u a cap, e = .returned (.tuple #[cval d, .slice a p.length cap, .bool true]) ∧ atT t p = some u ∧ (∃ S, OwnT w' w.heap.size d u S) ∧ PRow w' w.heap.size (.slice a p.length cap) p
  | none => e = .returned (.tuple #[cval noC, .slice none 0 0, .bool false])
theorem pf_no {id : Int} {t : T} {w w' : World} (h : findT id t = none) (hb : Below w.heap.size w w') : PfSays id t w (.returned (.tuple #[cval noC, .slice none 0 0, .bool false])) w' := by
  unfold PfSays; rw [h]; exact ⟨hb, rfl⟩
theorem pf_yes {id : Int} {t u : T} {p : List Int} {w w' : World} {d : C} {a : Option Addr} {cap : Nat} (h : findT id t = some p) (hu : atT t p = some u) (hi : ∃ S, OwnT w' w.heap.size d u S) (hr : PRow w' w.heap.size (.slice a p.length cap) p) (hb : Below w.heap.size w w') : PfSays id t w (.returned (.tuple #[cval d, .slice a p.length cap, .bool true])) w' := by
  unfold PfSays; rw [h]; exact ⟨hb, d, u, a, cap, rfl, hu, hi, hr⟩

end Go.Proofs.YtcdiogifgemjbaaGreat
/- The cell whose kid a leaf is, is spread: the program's answer. -/
namespace Go.Proofs.YtcdiogifgemjbaaGreat
open Go.RowKit

set_option maxHeartbeats 8000000 in
set_option maxRecDepth 100000 in
theorem par_any : SpArK := by
  intro t c id w hm hi hid
  have L0 := Lib.hid (ASt.start w c)
  have HT := Lib.hid (tilesOne_any t c (cellW w c) (L0.out.is hi) (fun _ => by omega) (w.heap.size + 2) (by simp))
  have HI := Lib.hid hi
  have HM := Lib.hid hm
  obtain ⟨c0, c1, c2, c3, c4, c5, c6⟩ := c7_of L0.out.box.cat
  clear hi hm hid
  cases ht : tileB t with
  | false =>
    rw [ht] at HT
    have HE : Hid (arE t id = 1) := Lib.hid (by unfold arE; rw [if_neg (by rw [ht]; decide)])
    clear ht
    go_enter Tryz.func9, Tryz.ntmps9
    go_wp2_with fail
    refine HT.out.mono ?_
    rintro e w1 ⟨rfl, hb1⟩
    have L1 := Lib.hid (L0.out.up hb1)
    clear hb1 c0 c1 c2 c3 c4 c5 c6 HT L0
    obtain ⟨⟨z0, z1, z2, z3, z4, z5, z6⟩, f0, f1, f2, f3, f4, f5, f6⟩ := zero_parts L1.out.zero
    go_wp2
    (try simp only [Exit.inBlock, Exit.then])
    refine bodyPost_ret (results_c2 rfl _ _ (w.heap.size + 1) zC rfl ((Box7.of_zero L1.out.zero).put zC)) rfl ?_
    rw [HE.out]
    exact at_all (at_err (by decide) (below_put7 L1.out.below (by omega) zC))
  | true =>
    rw [ht] at HT
    have HTT := Lib.hid ht
    clear ht
    go_enter Tryz.func9, Tryz.ntmps9
    go_wp2_with fail
    refine HT.out.mono ?_
    rintro e w1 ⟨rfl, hb1⟩
    have L1 := Lib.hid (L0.out.up hb1)
    clear hb1 c0 c1 c2 c3 c4 c5 c6 HT L0
    have HFD := Lib.hid (findO_any id t c w1 (by have := HM.out; omega) (L1.out.is HI.out))
    obtain ⟨c0, c1, c2, c3, c4, c5, c6⟩ := c7_of L1.out.box.cat
    cases hf : findT id t with
    | none =>
      rw [hf] at HFD
      have HE := Lib.hid (ar_none HTT.out hf)
      clear hf
      go_wp2_with fail
      refine HFD.out.mono ?_
      rintro e w2 ⟨hb2, rfl⟩
      have L2 := Lib.hid (L1.out.up hb2)
      clear hb2 c0 c1 c2 c3 c4 c5 c6 HFD
      obtain ⟨⟨z0, z1, z2, z3, z4, z5, z6⟩, f0, f1, f2, f3, f4, f5, f6⟩ := zero_parts L2.out.zero
      go_wp2
      (try simp only [Exit.inBlock, Exit.then])
      refine bodyPost_ret (results_c2 rfl _ _ (w.heap.size + 1) zC rfl ((Box7.of_zero L2.out.zero).put zC)) rfl ?_
      rw [HE.out]
      exact at_all (at_err (by decide) (below_put7 L2.out.below (by omega) zC))
    | some p =>
      rw [hf] at HFD
      have HFT := Lib.hid hf
      have HPL : Hid (p.length ≤ 990) := Lib.hid (by have := findT_len id p t hf; have := HM.out; omega)
      clear hf
      go_wp2_with fail
      refine HFD.out.mono ?_
      rintro e w2 ⟨hb2, a2, cap2, rfl, hp2⟩
      have L2 := Lib.hid (L1.out.up hb2)
      have hcap : p.length ≤ cap2 := hp2.2.2 _ _ _ rfl
      have HP2 : Hid (Path w2 (.slice a2 p.length cap2) p) := Lib.hid ⟨hp2.1, _, _, rfl, hcap⟩
      clear hb2 hp2 c0 c1 c2 c3 c4 c5 c6 HFD
      by_cases hne : p = []
      · subst hne
        have HE := Lib.hid (ar_top HTT.out HFT.out)
        clear hcap
        obtain ⟨⟨z0, z1, z2, z3, z4, z5, z6⟩, f0, f1, f2, f3, f4, f5, f6⟩ := zero_parts L2.out.zero
        go_wp2
        (try simp only [Exit.inBlock, Exit.then])
        refine bodyPost_ret (results_c2 rfl _ _ (w.heap.size + 1) zC rfl ((Box7.of_zero L2.out.zero).put zC)) rfl ?_
        rw [HE.out]
        exact at_all (at_err (by decide) (below_put7 L2.out.below (by omega) zC))
      · have HEA := Lib.hid (ar_at HTT.out HFT.out hne)
        have hpos : 0 < p.length := by cases p with | nil => exact absurd rfl hne | cons => simp
        obtain ⟨n, hn⟩ : ∃ n, p.length = n := ⟨_, rfl⟩
        obtain ⟨m, hmm⟩ : ∃ m, n - 1 = m := ⟨_, rfl⟩
        have HQ : Hid (∀ W, ASt w c W → Below w2.heap.size w2 W → Calls Tryz.prog 7 #[cval c, .slice a2 m cap2] W fun e w' => ∃ d, e = .returned (.tuple #[cval d, .int .i64 (arE t id)]) ∧ Stands (fun _ => True) w' W.heap.size w'.heap.size d (if arE t id = 0 then arS t id else zT) ∧ Below W.heap.size W w') := Lib.hid fun W L hb => by
          rw [HEA.out.1, HEA.out.2]
          refine patS_any t c _ _ W HM.out (L.is HI.out) ?_ (by rw [List.length_take]; have := HPL.out; omega)
          have := path_cut (HP2.out.up hb) (p.length - 1) (by omega)
          rw [hn, hmm] at this ⊢
          exact this
        have hp9 := HPL.out
        rw [hn] at hpos hcap hp9 ⊢
        have d0 : ((n : Int) == 0) = false := by rw [beq_eq_false_iff_ne]; omega
        have d0' : (n == 0) = false := by rw [beq_eq_false_iff_ne]; omega
        have d1 : ((n : Int) = 0) = False := by simp; omega
        have d2 : (n = 0) = False := by simp; omega
        have hws : IntKind.i64.wrap ((n : Int) - 1) = (m : Int) := by rw [wrap_id (by omega)]; omega
        have hws' : wrap64 ((n : Int) - 1) = (m : Int) := by rw [← wrapE]; exact hws
        have hmc : (m : Int) ≤ (cap2 : Int) := by omega
        have hmc' : m ≤ cap2 := by omega
        have hm0 : decide ((m : Int) < 0) = false := decide_eq_false (by omega)
        have D2 : Hid (ASt w c w2.drew) := Lib.hid (L2.out.up (Below.refl _ _).drew)
        have BD2 : Hid (Below w2.heap.size w2 w2.drew) := Lib.hid (Below.refl _ _).drew
        have X2 := Lib.hid (c7_of D2.out.box.cat)
        obtain ⟨c0, c1, c2, c3, c4, c5, c6⟩ := c7_of L2.out.box.cat
        clear hn hmm hpos hcap hp9 hne
        go_wp2_with fail
        go_region_held3 (fun W => W.cell? ⟨w.heap.size, 0, none⟩ = some (.int .u8 c.k) ∧ W.cell? ⟨w.heap.size, 1, none⟩ = some (.int .i64 c.r.x) ∧ W.cell? ⟨w.heap.size, 2, none⟩ = some (.int .i64 c.r.y) ∧ W.cell? ⟨w.heap.size, 3, none⟩ = some (.int .i64 c.r.w) ∧ W.cell? ⟨w.heap.size, 4, none⟩ = some (.int .i64 c.r.h) ∧ W.cell? ⟨w.heap.size, 5, none⟩ = some (.int .i64 c.id) ∧ W.cell? ⟨w.heap.size, 6, none⟩ = some (.slice c.a c.n c.cap)) (first | with_reducible exact X2.out | with_reducible exact X5.out | with_reducible exact X6.out)
          (first
            | (go_at_call 7; (with_reducible refine (HQ.out w2.drew D2.out BD2.out).mono ?_); rintro e w5 ⟨d5, rfl, hst5, hb5⟩; have L5 := Lib.hid (D2.out.up hb5); have X5 := Lib.hid (c7_of L5.out.box.cat); have S5 := Lib.hid hst5; have X6 := Lib.hid (c7_put7 (k := w.heap.size + 1) (x := d5) X5.out (by omega)); obtain ⟨⟨z0, z1, z2, z3, z4, z5, z6⟩, f0, f1, f2, f3, f4, f5, f6⟩ := zero_parts L5.out.zero; clear hst5 hb5))
        rename_i hh9
        clear hh9
        go_wp2
        (try simp only [Exit.inBlock, Exit.then])
        refine bodyPost_ret (results_c2 rfl _ _ (w.heap.size + 1) d5 rfl ((Box7.of_zero L5.out.zero).put d5)) rfl ?_
        exact ⟨d5, rfl, (st_put (base := w.heap.size) S5.out (lt_of_block D2.out.zero) (by have := lt_of_block D2.out.zero; omega)).is trivial, below_put7 L5.out.below (by omega) d5⟩
end Go.Proofs.YtcdiogifgemjbaaGreat
