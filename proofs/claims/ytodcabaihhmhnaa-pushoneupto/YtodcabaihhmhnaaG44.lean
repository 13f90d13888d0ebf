/- Texts of this seat, 3 in one file. -/
import Derived.Test.YtodcabaihhmhnaaG27
import Derived.Test.YtodcabaihhmhnaaG09
import Derived.Test.YtodcabaihhmhnaaG13
import Derived.Lib.AppendZerosOnto
import Derived.Deep.RegionLaw
import Derived.Deep.RegionHeld3
import Derived.Deep.Cut
import Derived.Test.YtodcabaihhmhnaaG43
/- Two rows of numbers, one behind the other: slices.Grow, slices.Concat. -/
namespace Go.Proofs.Ytodcabaihhmhnaa
open Go.RowKit

theorem slice_i : Try.prog.underlying 37 = some (.slice 3) := Try.underlying37
/-- append(nil, make([]int, m)...). -/
theorem run_makeI (w : World) (m : Nat) (h0 : 0 < m) (hb : m ≤ 1000000) :
    ∃ cap w', (Builtin.append_ #[37, 3] 37 #[.slice none 0 0, .int .i64 m]).run Try.prog w = .ok (.slice (some ⟨w.heap.size, 0, none⟩) m cap) w' ∧
      w'.ownsRow w.heap.size 3 1 (.slice (some ⟨w.heap.size, 0, none⟩) 0 cap) 0 [] ∧ Below w.heap.size w w' ∧ m ≤ cap ∧ cap ≤ maxLen := by
  obtain ⟨i, hi, hz0, hz2, hz3⟩ := info_parts infoI
  have hold : (Builtin.firstCells i.size 0 (.slice none 0 0)).run Try.prog w.drew = .ok ([] : List Value).toArray w.drew := by
    simp [Builtin.firstCells]
  have hr := Lib.run_append_grow_zeros (P := Try.prog) w 37 3 37 3 i (.int .i64 0) .i64 .i64 slice_i Try.underlying3 hi hz0 none 0 0 [] hold m h0 (by rw [hz2]; decide) (by omega) (by omega) (by rw [hz3]; omega) (by
    rw [hz3]
    exact growslice_fits (by omega) (by omega))
  rw [Nat.zero_add] at hr
  have hge := grownCap_ge w m 0 3
  have hmx := grownCap_le_maxLen w m 0 3 (by unfold maxLen; omega)
  refine ⟨_, _, hr, ?_, ⟨rfl, rfl, rfl, by simp, fun j hj => heap_alloc_old w.drew _ hj⟩, hge, hmx⟩
  refine ⟨rfl, .inr ⟨w.heap.size, _, _, rfl, Nat.le_refl _, heap_alloc_new w.drew _, Nat.zero_le _, hmx, ?_, rfl⟩⟩
  rw [Array.size_append, Array.size_append, size_zeroCells, size_zeroCells]
  show 0 + m * 1 + (_ - m) * 1 = _
  omega

/-- append(own.., numbers...), many or none. -/
theorem wpList_append_any {w : World} {ops : Array Oper} {rest : List Oper} {o : Oper} {a : Act} {Q : Exit → Act → World → Prop} (hgd : o.guard = none) (s x : Operand)
    (ho : o.op = .call { callee := .builtin .append, args := #[s, x], argTypes := #[37, 37] })
    (base : Nat) (v src : Value) (xs news : List Int) (hs : a.eval s = v) (hown : OwnI w base v xs) (hx : a.eval x = src) (hrow : Row w src (ints news)) (h63 : xs.length + news.length ≤ 100000) (w0 : World) (hb : Below base w0 w) (hbase0 : base ≤ w0.heap.size)
    (h : ∀ v' w', OwnI w' base v' (xs ++ news) → Below base w0 w' → wpList Try.prog ops Q rest (a.put o.dst v') w') : wpList Try.prog ops Q (o :: rest) a w := by
  refine wpList_append_row hgd s x 37 ho base 3 (.int .i64 0) 8 slice_i infoI rfl v src (ints xs) (ints news) hs (by have h1 := hown; unfold OwnI at h1; rw [ints_length]; exact h1) hx hrow (ints_one _) (by rw [ints_length, ints_length]; omega) (by omega) w0 hb hbase0 fun v' w' g1 g2 => h v' w' ?_ g2
  unfold OwnI
  rw [← ints_append, ints_length] at g1
  exact g1

set_option maxRecDepth 100000 in
theorem sgrow_any (m : Nat) (hm : m ≤ 1000000) (w : World) : Calls Try.prog 52 #[.slice none 0 0, .int .i64 m] w fun e w' => ∃ v, e = .returned v ∧ OwnI w' w.heap.size v [] ∧ Below w.heap.size w w' := by
  by_cases h0 : m = 0
  · subst h0
    have key : Calls Try.prog 52 #[.slice none 0 0, .int .i64 0] w fun e w' => ∃ v, e = .returned v ∧ OwnI w' w.heap.size v [] ∧ Below w.heap.size w w' := by
      have ON := Lib.hid (OwnI.nil w w.heap.size)
      go_enter Try.func52, Try.ntmps52
      go_wp2
      go_ret
      exact ⟨_, rfl, ON.out, Below.refl _ _⟩
    exact key
  · obtain ⟨cap, w', hr, ho, hb, hc1, hc2⟩ := run_makeI w m (by omega) hm
    have HO := Lib.hid ho
    have HB := Lib.hid hb
    have d0 : decide ((m : Int) < 0) = false := decide_eq_false (by omega)
    have d1 : decide ((0 : Int) < (m : Int)) = true := decide_eq_true (by omega)
    have d2 : 0 < m := by omega
    have hw : IntKind.i64.wrap (m : Int) = (m : Int) := wrap_id (by omega)
    have hcap : cap ≤ 9223372036854775807 := by unfold maxLen at hc2; omega
    clear ho hb h0
    go_enter Try.func52, Try.ntmps52
    go_wp2_with (at_builtin; refine Lib.wpList_append_run _ rfl _ _ _ _ rfl _ _ rfl rfl _ _ hr ?_)
    go_ret
    exact ⟨_, rfl, HO.out, HB.out⟩

set_option maxHeartbeats 800000 in
set_option maxRecDepth 100000 in
theorem concat_any (p q : List Int) (a1 a2 : Option Addr) (c1 c2 rb : Nat) (w : World) (h1 : Row w (.slice a1 p.length c1) (ints p)) (h2 : Row w (.slice a2 q.length c2) (ints q)) (hl : p.length + q.length ≤ 100000)
    (r0 : w.cell? ⟨rb, 0, none⟩ = some (.slice a1 p.length c1)) (r1 : w.cell? ⟨rb, 1, none⟩ = some (.slice a2 q.length c2)) :
    Calls Try.prog 37 #[.slice (some ⟨rb, 0, none⟩) 2 2] w fun e w' => ∃ v, e = .returned v ∧ OwnI w' w.heap.size v (p ++ q) ∧ Below w.heap.size w w' := by
  have H1 := Lib.hid h1
  have H2 := Lib.hid h2
  have R0 := Lib.hid r0
  have R1 := Lib.hid r1
  have w1 : IntKind.i64.wrap (0 + (p.length : Int)) = (p.length : Int) := by rw [Int.zero_add]; exact wrap_id (by omega)
  have w1' : IntKind.i64.wrap (p.length : Int) = (p.length : Int) := wrap_id (by omega)
  have w2 : IntKind.i64.wrap ((p.length : Int) + (q.length : Int)) = ((p.length + q.length : Nat) : Int) := by rw [wrap_id (by omega)]; omega
  have d1 : decide ((p.length : Int) < 0) = false := decide_eq_false (by omega)
  have d2 : decide (((p.length + q.length : Nat) : Int) < 0) = false := decide_eq_false (by omega)
  have HG := Lib.hid (sgrow_any (p.length + q.length) (by omega) w)
  clear h1 h2
  go_enter Try.func37, Try.ntmps37
  go_wp2
  go_loopg [3, 11] 3 (fun g s i wr => wr = w ∧ ((g = 3 ∧ i = .int .i64 0 ∧ s = .int .i64 0) ∨ (g = 2 ∧ i = .int .i64 1 ∧ s = .int .i64 p.length) ∨ (g = 1 ∧ i = .int .i64 2 ∧ s = .int .i64 ((p.length + q.length : Nat) : Int))))
  case atStart => exact ⟨rfl, .inl ⟨rfl, rfl, rfl⟩⟩
  case round =>
    obtain ⟨hwr, hor⟩ := hrel
    rw [hwr]
    clear hwr
    rcases hor with ⟨hg, rfl, rfl⟩ | ⟨hg, rfl, rfl⟩ | ⟨hg, rfl, rfl⟩
    · have HN := Lib.hid hg
      clear hg
      go_wp2
      go_roundg 2
      case measure => have := HN.out; omega
      case rel => exact ⟨rfl, .inr (.inl ⟨rfl, by go_num, rfl⟩)⟩
    · have HN := Lib.hid hg
      clear hg
      go_wp2
      go_roundg 1
      case measure => have := HN.out; omega
      case rel => exact ⟨rfl, .inr (.inr ⟨rfl, by go_num, rfl⟩)⟩
    · have HN := Lib.hid hg
      clear hg
      go_wp2_with fail
      refine HG.out.mono ?_
      rintro e w3 ⟨v, rfl, ho, hb⟩
      have HO := Lib.hid ho
      have HB := Lib.hid hb
      clear ho hb
      go_wp2
      go_loopg [6, 27] 3 (fun g s i wr => ∃ v', s = v' ∧ Below w.heap.size w wr ∧ ((g = 3 ∧ i = .int .i64 0 ∧ OwnI wr w.heap.size v' []) ∨ (g = 2 ∧ i = .int .i64 1 ∧ OwnI wr w.heap.size v' p) ∨ (g = 1 ∧ i = .int .i64 2 ∧ OwnI wr w.heap.size v' (p ++ q))))
      case atStart => exact ⟨_, rfl, HB.out, .inl ⟨rfl, rfl, HO.out⟩⟩
      case round =>
        obtain ⟨v', rfl, hb4, hor⟩ := hrel
        have HB4 := Lib.hid hb4
        clear hb4
        have q0 := (HB4.out.cell (lt_of_cell R0.out)).trans R0.out
        have q1 := (HB4.out.cell (lt_of_cell R1.out)).trans R1.out
        rcases hor with ⟨hg, rfl, ho4⟩ | ⟨hg, rfl, ho4⟩ | ⟨hg, rfl, ho4⟩
        · have HN := Lib.hid hg
          have HO4 := Lib.hid ho4
          clear hg ho4
          go_wp2_with (at_builtin; refine wpList_append_any rfl _ _ rfl w.heap.size _ (.slice a1 p.length c1) [] p rfl HO4.out rfl (H1.out.up HB4.out) (by simp; omega) w HB4.out (Nat.le_refl _) ?_; intro v5 w5 ho5 hb5; have HO5 := Lib.hid ho5; have HB5 := Lib.hid hb5; clear ho5 hb5 q0 q1)
          go_roundg 2
          case measure => have := HN.out; omega
          case rel => exact ⟨_, rfl, HB5.out, .inr (.inl ⟨rfl, rfl, HO5.out⟩)⟩
        · have HN := Lib.hid hg
          have HO4 := Lib.hid ho4
          clear hg ho4
          go_wp2_with (at_builtin; refine wpList_append_any rfl _ _ rfl w.heap.size _ (.slice a2 q.length c2) p q rfl HO4.out rfl (H2.out.up HB4.out) (by omega) w HB4.out (Nat.le_refl _) ?_; intro v5 w5 ho5 hb5; have HO5 := Lib.hid ho5; have HB5 := Lib.hid hb5; clear ho5 hb5 q0 q1)
          go_roundg 1
          case measure => have := HN.out; omega
          case rel => exact ⟨_, rfl, HB5.out, .inr (.inr ⟨rfl, rfl, HO5.out⟩)⟩
        · have HN := Lib.hid hg
          have HO4 := Lib.hid ho4
          clear hg ho4
          go_wp2
          go_ret
          exact ⟨_, rfl, HO4.out, HB4.out⟩
end Go.Proofs.Ytodcabaihhmhnaa
/- Who gives, in which order: givers. -/
namespace Go.Proofs.Ytodcabaihhmhnaa
open Go.RowKit Sh

theorem natL_append (a b : List Nat) : natL (a ++ b) = natL a ++ natL b := by simp [natL]
theorem natL_reverse (a : List Nat) : (natL a).reverse = natL a.reverse := by simp [natL]
theorem row_keep {w w' : World} {g n cap : Nat} {l : List Value} (h : Row w (.slice (some ⟨g, 0, none⟩) n cap) l) (hk : ∀ m, g = m → w'.heap[m]? = w.heap[m]?) : Row w' (.slice (some ⟨g, 0, none⟩) n cap) l := by
  obtain ⟨a, c, he, h0, hc⟩ := h
  refine ⟨a, c, he, h0, fun x hx j u hu => ?_⟩
  cases he
  cases hx
  have := hc _ rfl j u hu
  rw [Go.WideShapes.add_plain] at this ⊢
  exact (World.cell?_of_block (a := ⟨g, 0 + j, none⟩) (hk g rfl)).trans this
/-- Those behind, those ahead, of the first k. -/
def bhL (P k : Nat) : List Int := natL (List.range' (P + 1) (k - (P + 1)))
def ahL (P k : Nat) : List Int := natL (List.range (min k (P + 1)))
theorem bh_zero {P : Nat} : bhL P 0 = [] := by unfold bhL; rw [show 0 - (P + 1) = 0 by omega]; rfl
theorem ah_zero {P : Nat} : ahL P 0 = [] := by unfold ahL; rw [show min 0 (P + 1) = 0 by omega]; rfl
theorem bh_step {P k : Nat} (h : P < k) : bhL P (k + 1) = bhL P k ++ [(k : Int)] := by
  unfold bhL
  rw [show k + 1 - (P + 1) = (k - (P + 1)) + 1 by omega, List.range'_1_concat, natL_append]
  congr 1
  show [(((P + 1 + (k - (P + 1)) : Nat)) : Int)] = _
  rw [show P + 1 + (k - (P + 1)) = k by omega]
theorem bh_stay {P k : Nat} (h : ¬ P < k) : bhL P (k + 1) = bhL P k := by
  unfold bhL; rw [show k + 1 - (P + 1) = 0 by omega, show k - (P + 1) = 0 by omega]
theorem ah_step {P k : Nat} (h : ¬ P < k) : ahL P (k + 1) = ahL P k ++ [(k : Int)] := by
  unfold ahL
  rw [show min (k + 1) (P + 1) = k + 1 by omega, show min k (P + 1) = k by omega, List.range_succ, natL_append]; rfl
theorem ah_stay {P k : Nat} (h : P < k) : ahL P (k + 1) = ahL P k := by
  unfold ahL; rw [show min (k + 1) (P + 1) = P + 1 by omega, show min k (P + 1) = P + 1 by omega]
theorem dn_rev : ∀ n, (dnL n).reverse = List.range n
  | 0 => rfl
  | n + 1 => by rw [dnL, List.reverse_cons, dn_rev n, List.range_succ]
theorem ah_all {P L : Nat} (h : P + 1 < L) : ahL P L = (natL (dnL (P + 1))).reverse := by
  unfold ahL; rw [show min L (P + 1) = P + 1 by omega, natL_reverse, dn_rev]
theorem rev_mv (g cap n : Nat) (p : List Int) (base : Nat) (w : World) (h : w.ownsRow base 3 1 (.slice (some ⟨g, 0, none⟩) n cap) p.length (ints p.reverse)) (hl : p.length ≤ 1000000) :
    Calls Try.prog 36 #[.slice (some ⟨g, 0, none⟩) n cap] w fun e w' => e = .returned (.tuple #[]) ∧ Row w' (.slice (some ⟨g, 0, none⟩) n cap) (ints p) ∧ Mv g w w' := by
  rcases h.2 with ⟨h0, -⟩ | ⟨g', cap', cur, h0, hb, hg, hn, hm, hs, ht⟩
  · cases h0
  · cases h0
    have hH : Sort.Holds (Value.int .i64) w g 0 p.reverse.toArray := holds_ints _ w g (h.cells (g := g) rfl) (fun j => by simp [World.frozen?, hg])
    have := Try.slices_Reverse_int g 0 cap p.reverse w hH (by simp; omega)
    rw [List.length_reverse, List.reverse_reverse] at this
    refine this.mono ?_
    rintro e w' ⟨rfl, n, rfl⟩
    have hG := Sort.holds_putRow (Value.int .i64) (Sort.ahead w n) g 0 p.reverse.toArray p.toArray (Sort.holds_ahead _ w n g 0 _ hH) (by simp)
    have hgr := grownBy_sortedI (w := w) (g := g) (n := n) (os := #[]) p.toArray
    rw [Sort.grow_empty] at hgr
    exact ⟨rfl, ints_of_holds hG, hgr⟩

def GvSays (P L : Nat) (w : World) (e : Ending) (w' : World) : Prop :=
  Below w.heap.size w w' ∧ ∃ a1 c1 a2 c2, e = .returned (.tuple #[.slice a1 (ordL P L true).length c1, .slice a2 (ordL P L false).length c2]) ∧ Row w' (.slice a1 (ordL P L true).length c1) (ints (natL (ordL P L true))) ∧ Row w' (.slice a2 (ordL P L false).length c2) (ints (natL (ordL P L false))) ∧
    (∀ b o, a1 = some ⟨b, o, none⟩ → w.heap.size ≤ b) ∧ (∀ b o, a2 = some ⟨b, o, none⟩ → w.heap.size ≤ b)

theorem row_cap {w : World} {a : Addr} {n c : Nat} {l : List Value} (h : Row w (.slice (some a) n c) l) (c' : Nat) : Row w (.slice (some a) n c') l := by
  obtain ⟨a', c2, he, -, hc⟩ := h
  cases he
  exact ⟨some a, c', rfl, (fun h => by cases h), hc⟩
theorem gv_end {P L g2 c2 c3 base : Nat} {w w' : World} {v6 : Value} (ho : OwnI w' base v6 (natL (ordL P L true))) (hb : w.heap.size ≤ base) (hr : Row w' (.slice (some ⟨g2, 0, none⟩) (P + 1) c2) (ints (natL (dnL (P + 1))))) (hg : w.heap.size ≤ g2) (hB : Below w.heap.size w w') :
    GvSays P L w (.returned (.tuple #[v6, .slice (some ⟨g2, 0, none⟩) (P + 1) c3])) w' := by
  have hr1 := ho.row
  obtain ⟨a, c, rfl⟩ := row_shape hr1
  have h2 := ho.2
  have hfar : ∀ b o, a = some ⟨b, o, none⟩ → w.heap.size ≤ b := fun b o he => by
    subst he
    rcases h2 with ⟨h0, -⟩ | ⟨g', cap', cur, h0, hb', -⟩
    · cases h0
    · injection h0 with h1; injection h1 with h1; injection h1 with h1; omega
  rw [natL_len] at hr1 ⊢
  have e : (ordL P L false) = dnL (P + 1) := if_neg (by decide)
  have el : (dnL (P + 1)).length = P + 1 := dn_len _
  refine ⟨hB, a, c, some ⟨g2, 0, none⟩, c3, by rw [e, el], hr1, ?_, hfar, fun b o he => ?_⟩
  · rw [e, el]; exact row_cap hr c3
  · cases he; exact hg

set_option maxHeartbeats 2000000 in
set_option maxRecDepth 100000 in
theorem givers_any (x : Fm) (P : Nat) (w : World) (hp : x.p = (P : Int)) (hn : P + 1 < x.c.n) (hn2 : x.c.n ≤ 20000) : Calls Try.prog 20 #[fmval x] w (GvSays P x.c.n w) := by
  obtain ⟨⟨fk, fr, fid, fa, fn, fcap⟩, ax, pa, pn, pcap, p⟩ := x
  simp only at hp hn hn2
  subst hp
  have B1 : Below w.heap.size w (w.alloc (fmbox ⟨⟨fk, fr, fid, fa, fn, fcap⟩, ax, pa, pn, pcap, P⟩)) := (Below.refl _ _).alloc (Nat.le_refl _) _
  have F1 := Lib.hid (BoxF.new w ⟨⟨fk, fr, fid, fa, fn, fcap⟩, ax, pa, pn, pcap, P⟩)
  have BB := Lib.hid B1
  have HLT : Hid (w.heap.size + 1 ≤ (w.alloc (fmbox ⟨⟨fk, fr, fid, fa, fn, fcap⟩, ax, pa, pn, pcap, P⟩)).heap.size) := Lib.hid (by simp)
  clear B1
  go_enter Try.func20, Try.ntmps20
  go_upto_region 1 with (fail)
  change Code.wp _ _ _ _ (w.alloc (fmbox ⟨⟨fk, fr, fid, fa, fn, fcap⟩, ax, pa, pn, pcap, P⟩))
  generalize w.alloc (fmbox ⟨⟨fk, fr, fid, fa, fn, fcap⟩, ax, pa, pn, pcap, P⟩) = w2 at F1 BB HLT ⊢
  obtain ⟨a0, a1, a2, a3, a4, a5, a6, a7, a8, a9⟩ := F1.out.parts
  go_wp2
  clear a0 a1 a2 a3 a4 a5 a6 a7 a8 a9
  go_loopg [4, 5, 11] (fn + 1) (fun g v1 v2 i wr => ∃ k : Nat, g + k = fn + 1 ∧ k ≤ fn ∧ i = .int .i64 k ∧ TwoI wr (w.heap.size + 1) v1 (bhL P k) v2 (ahL P k) ∧ Below (w.heap.size + 1) w2 wr)
  case atStart => exact ⟨0, by omega, by omega, rfl, by rw [bh_zero, ah_zero]; exact ⟨OwnN.nil _ _, OwnN.nil _ _, fun k h => by cases h⟩, Below.refl _ _⟩
  case round =>
    obtain ⟨k, hg, hk, rfl, htw, hb⟩ := hrel
    have HG := Lib.hid hg
    have HT := Lib.hid htw
    have HB := Lib.hid hb
    have HF := Lib.hid ((hb.block _ (by omega)).trans F1.out)
    clear hg htw hb
    obtain ⟨a0, a1, a2, a3, a4, a5, a6, a7, a8, a9⟩ := BoxF.parts HF.out
    by_cases hlt : k < fn
    · have hlti : (k : Int) < (fn : Int) := by omega
      by_cases hPk : P < k
      · have d1 : decide ((P : Int) < (k : Int)) = true := decide_eq_true (by omega)
        have HS1 := Lib.hid (bh_step hPk)
        have HS2 := Lib.hid (ah_stay hPk)
        have HLN : Hid ((bhL P k).length ≤ 100000) := Lib.hid (by unfold bhL; rw [natL_len, List.length_range']; omega)
        have BA : Hid (Below (w.heap.size + 1) w2 (wr.alloc (.cells #[.int .i64 (k : Int)] 3))) := Lib.hid (HB.out.alloc (Nat.le_trans HLT.out HB.out.size) _)
        go_wp2_with (at_builtin; refine wpList_twoI rfl _ _ rfl (w.heap.size + 1) _ _ (bhL P k) (ahL P k) wr.heap.size (k : Int) rfl (HT.out.alloc _) rfl (by simp) HLN.out w2 BA.out HLT.out ?_; intro v' w' hT hb' hgr; have HT2 := Lib.hid hT; have HB2 := Lib.hid hb'; clear hT hb' hgr a0 a1 a2 a3 a4 a5 a6 a7 a8 a9)
        go_roundg (gk - 1)
        case measure => have := HG.out; omega
        case rel => exact ⟨k + 1, by have := HG.out; omega, by omega, by go_num, by rw [HS1.out, HS2.out]; exact HT2.out, HB2.out⟩
      · have d1 : decide ((P : Int) < (k : Int)) = false := decide_eq_false (by omega)
        have HS1 := Lib.hid (bh_stay hPk)
        have HS2 := Lib.hid (ah_step hPk)
        have HLN : Hid ((ahL P k).length ≤ 100000) := Lib.hid (by unfold ahL; rw [natL_len, List.length_range]; omega)
        have BA : Hid (Below (w.heap.size + 1) w2 (wr.alloc (.cells #[.int .i64 (k : Int)] 3))) := Lib.hid (HB.out.alloc (Nat.le_trans HLT.out HB.out.size) _)
        go_wp2_with (at_builtin; refine wpList_twoI rfl _ _ rfl (w.heap.size + 1) _ _ (ahL P k) (bhL P k) wr.heap.size (k : Int) rfl (HT.out.swap.alloc _) rfl (by simp) HLN.out w2 BA.out HLT.out ?_; intro v' w' hT hb' hgr; have HT2 := Lib.hid hT; have HB2 := Lib.hid hb'; clear hT hb' hgr a0 a1 a2 a3 a4 a5 a6 a7 a8 a9)
        go_roundg (gk - 1)
        case measure => have := HG.out; omega
        case rel => exact ⟨k + 1, by have := HG.out; omega, by omega, by go_num, by rw [HS1.out, HS2.out]; exact HT2.out.swap, HB2.out⟩
    · obtain rfl : k = fn := by omega
      have hkl : ((k : Int) < (k : Int)) = False := by simp
      clear a0 a1 a2 a3 a4 a5 a6 a7 a8 a9
      have hbl : (bhL P k).length = k - (P + 1) := by unfold bhL; rw [natL_len, List.length_range']
      have hown2 : wr.ownsRow (w.heap.size + 1) 3 1 u5 (P + 1) (ints (natL (dnL (P + 1))).reverse) := by
        have h := HT.out.own2
        unfold OwnN at h
        rw [ah_all hn, List.length_reverse, natL_len, dn_len] at h
        exact h
      have hown1 := HT.out.own1
      unfold OwnN at hown1
      rw [hbl] at hown1
      obtain ⟨g2, cap2, rfl, hg2, hg2w⟩ := hown2.form (by omega)
      obtain ⟨g1, cap1, rfl, hg1, hg1w⟩ := hown1.form (by omega)
      have hne : g1 ≠ g2 := fun e => HT.out.ne g1 rfl (by rw [e]; rfl)
      have hR1 : Row wr (.slice (some ⟨g1, 0, none⟩) (k - (P + 1)) cap1) (ints (bhL P k)) := Row.of_owns hown1
      have HRV := Lib.hid (rev_mv g2 cap2 (P + 1) (natL (dnL (P + 1))) (w.heap.size + 1) wr (by rw [natL_len, dn_len]; exact hown2) (by rw [natL_len, dn_len]; omega))
      have hcap2 : P + 1 ≤ cap2 ∧ cap2 ≤ 9223372036854775807 := by
        rcases hown2.2 with ⟨h0, -⟩ | ⟨g', cap', cur, h0, hb, hg, hnc, hcm, -⟩
        · cases h0
        · cases h0; unfold maxLen at hcm; omega
      have HROW1 := Lib.hid hR1
      have HNE := Lib.hid hne
      have HG1W := Lib.hid (show w.heap.size + 1 ≤ g1 ∧ g1 < wr.heap.size ∧ w.heap.size + 1 ≤ g2 ∧ g2 < wr.heap.size from ⟨hg1, hg1w, hg2, hg2w⟩)
      clear hown1 hown2 hR1 hne hg1 hg2 hg1w hg2w HT
      have b1 : (1 : Int) ≤ ((P + 1 : Nat) : Int) := by omega
      have b2 : ((P + 1 : Nat) : Int) ≤ (cap2 : Int) := by omega
      go_wp2_with fail
      refine HRV.out.mono ?_
      rintro e w5 ⟨rfl, hr5, hm5⟩
      have R2 := Lib.hid hr5
      have R1 : Hid (Row w5 (.slice (some ⟨g1, 0, none⟩) (k - (P + 1)) cap1) (ints (bhL P k))) := Lib.hid (row_keep HROW1.out (fun m hm => by cases hm; exact hm5.at g1 HG1W.out.2.1 HNE.out))
      have M5 := Lib.hid hm5
      have RT : Hid (∀ (A : Option Addr) (c : Nat), (A = some ⟨g2, 1, none⟩ ∨ (P = 0 ∧ A = some ⟨g2, 0, none⟩)) → Row w5 (.slice A P c) (ints (natL (dnL P)))) := Lib.hid fun A c h => by
        rcases h with rfl | ⟨rfl, rfl⟩
        · obtain ⟨gb, go, he, hf⟩ := int_at R2.out (by rw [natL_len, dn_len]; omega)
          cases he
          refine ⟨some ⟨g2, 1, none⟩, c, by rw [ints_length, natL_len, dn_len], (fun h => by cases h), fun x hx j u hu => ?_⟩
          cases hx
          obtain ⟨m, hm, rfl⟩ : ∃ m, (natL (dnL P))[j]? = some m ∧ Value.int .i64 m = u := by
            unfold ints at hu
            rw [List.getElem?_map] at hu
            cases hh : (natL (dnL P))[j]? with
            | none => rw [hh] at hu; cases hu
            | some m => rw [hh] at hu; exact ⟨m, rfl, by simpa using hu⟩
          have := hf (j + 1) m hm
          rw [Go.WideShapes.add_plain]
          rw [show 0 + (j + 1) = 1 + j by omega] at this
          exact this
        · exact ⟨some ⟨g2, 0, none⟩, c, rfl, (fun h => by cases h), fun x _ j u hu => by simp [dnL, natL, ints] at hu⟩
      have HCC : Hid (∀ (A : Option Addr) (c : Nat), Row w5 (.slice A P c) (ints (natL (dnL P))) → ∀ (rb : Nat) (W : World), Below w5.heap.size w5 W → W.cell? ⟨rb, 0, none⟩ = some (.slice (some ⟨g1, 0, none⟩) (k - (P + 1)) cap1) → W.cell? ⟨rb, 1, none⟩ = some (.slice A P c) →
          Calls Try.prog 37 #[.slice (some ⟨rb, 0, none⟩) 2 2] W fun e w' => ∃ v, e = .returned v ∧ OwnI w' W.heap.size v (bhL P k ++ natL (dnL P)) ∧ Below W.heap.size W w') := Lib.hid fun A c hA rb W hb r0 r1 => by
        have e2 : (natL (dnL P)).length = P := by rw [natL_len, dn_len]
        have h := concat_any (bhL P k) (natL (dnL P)) (some ⟨g1, 0, none⟩) A cap1 c rb W
        rw [hbl, e2] at h
        exact h (R1.out.up hb) (hA.up hb) (by omega) r0 r1
      have HO1 : Hid (bhL P k ++ natL (dnL P) = natL (ordL P k true)) := Lib.hid (by unfold bhL ordL; rw [if_pos rfl, natL_append])
      have HO2 : Hid (dnL (P + 1) = ordL P k false) := Lib.hid (by unfold ordL; rw [if_neg (by decide)])
      have HBE : Hid (Below w.heap.size w w5) := Lib.hid (by
        have h1 := HB.out
        have h2 := M5.out.low (B := w.heap.size) (by have := HG1W.out; omega) (by have := HG1W.out; omega)
        exact (BB.out.trans (h1.mono (by omega))).trans h2)
      have HW5 : Hid (w.heap.size ≤ w5.heap.size) := Lib.hid HBE.out.size
      clear hr5 hm5
      go_wp2_with fail
      all_goals
        have AL5 : Hid (∀ o, Below w5.heap.size w5 (w5.alloc o)) := Lib.hid fun o => (Below.refl _ _).alloc (Nat.le_refl _) o
        first
          | (refine (HCC.out (some ⟨g2, 1, none⟩) (cap2 - 1) (RT.out _ _ (.inl rfl)) w5.heap.size _ (AL5.out _) ?_ ?_).mono ?_
             · simp; done
             · simp; done)
          | (refine (HCC.out (some ⟨g2, 0, none⟩) (cap2 - 1) (RT.out _ _ (.inr ⟨by omega, rfl⟩)) w5.heap.size _ (AL5.out _) ?_ ?_).mono ?_
             · simp; done
             · simp; omega)
        rintro e w6 ⟨v6, rfl, ho6, hb6⟩
        have O6 := Lib.hid ho6
        have R6 := Lib.hid ((R2.out.up (AL5.out _)).up hb6)
        have B6 := Lib.hid (HBE.out.trans (((AL5.out _).trans (hb6.mono (AL5.out _).size)).mono HW5.out))
        have S6 : Hid (w5.heap.size ≤ w6.heap.size) := Lib.hid (Nat.le_trans (AL5.out _).size hb6.size)
        clear ho6 hb6
        go_wp2
        go_ret2
        exact gv_end (by have := O6.out; rw [HO1.out] at this; exact this) (Nat.le_trans HW5.out (AL5.out _).size) R6.out (by have := HG1W.out; omega) B6.out
end Go.Proofs.Ytodcabaihhmhnaa
/- The cell is pushed, as far as it can: push. -/
namespace Go.Proofs.Ytodcabaihhmhnaa
open Go.RowKit Sh

/-- Who gives how much, to whom. -/
noncomputable def pshL (x y ax : Int) (P L : Nat) (b : Int) (l : List T) : List T × Int := gvP x y ax (getN P (decide (0 ≤ b))) (ordL P L (decide (0 ≤ b))) l (askA b)
noncomputable def pshN (x y ax : Int) (P L : Nat) (b : Int) (l : List T) : Int := if 0 ≤ b then askA b - (pshL x y ax P L b l).2 else -(askA b - (pshL x y ax P L b l).2)
theorem gvP_left {x y ax : Int} {q : Nat} (N : Nat) : ∀ (gl : List Nat) (l : List T) (m : Int), gl.length ≤ N → 0 ≤ m → 0 ≤ (gvP x y ax q gl l m).2 ∧ (gvP x y ax q gl l m).2 ≤ m := by
  induction N with
  | zero => intro gl l m h h0; obtain rfl := List.length_eq_zero_iff.1 (Nat.le_zero.1 h); rw [gvP]; exact ⟨h0, Int.le_refl _⟩
  | succ N ih =>
    intro gl l m h h0
    cases gl with
    | nil => rw [gvP]; exact ⟨h0, Int.le_refl _⟩
    | cons k ks =>
      have hk : ks.length ≤ N := by simpa using h
      by_cases hp : 0 < gmN ax m k l
      · rw [gvP_yes rfl hp]
        have hle : gmN ax m k l ≤ m := by unfold gmN; omega
        have := ih ks (rsL x y ax (gmN ax m k l) q (rsL x y ax (-gmN ax m k l) k l)) (m - gmN ax m k l) hk (by omega)
        omega
      · rw [gvP_no hp]; exact ih ks l m hk h0

def PsSays (base kg L cap : Nat) (n : Int) (l' : List T) (w : World) (e : Ending) (w' : World) : Prop :=
  e = .returned (.int .i64 n) ∧ Mv kg w w' ∧ ∃ cs', PK base kg L cap cs' l' w'

set_option maxHeartbeats 2000000 in
set_option maxRecDepth 100000 in
theorem push_any (x : Fm) (base kg cap P N : Nat) (b W0 cr : Int) (cs : List C) (l : List T) (w : World) (hk : PK base kg x.c.n cap cs l w) (hxa : x.c.a = some ⟨kg, 0, none⟩) (hxc : x.c.cap = cap) (hxp : x.p = (P : Int)) (hP : P + 1 < x.c.n) (hL : x.c.n ≤ 20000) (hxf : x.c.fine) (hax : x.ax = 1 ∨ x.ax = 2)
    (hinv : PpInv x.ax W0 cr N x.c.n l) (hrm : Rm x.c.r.x x.c.r.y x.ax W0 cr) (hw0 : W0 ≤ 10000) (hb : fits b) (hbase : base ≤ w.heap.size) :
    Calls Try.prog 23 #[fmval x, .int .i64 b] w (PsSays base kg x.c.n cap (pshN x.c.r.x x.c.r.y x.ax P x.c.n b l) (pshL x.c.r.x x.c.r.y x.ax P x.c.n b l).1 w) := by
  obtain ⟨⟨fk, fr, fid, fa, fn, fcap⟩, ax, pa, pn, pcap, p⟩ := x
  simp only at hxa hxc hxp hxf hax hinv hrm hP hL hk
  subst hxa hxc hxp
  have B1 : Below w.heap.size w (w.alloc (fmbox ⟨⟨fk, fr, fid, some ⟨kg, 0, none⟩, fn, fcap⟩, ax, pa, pn, pcap, P⟩)) := (Below.refl _ _).alloc (Nat.le_refl _) _
  have P1 := Lib.hid (hk.up B1)
  have F1 := Lib.hid (BoxF.new w ⟨⟨fk, fr, fid, some ⟨kg, 0, none⟩, fn, fcap⟩, ax, pa, pn, pcap, P⟩)
  have BB := Lib.hid B1
  have HKW := Lib.hid hk.lt
  have HBASE := Lib.hid hbase
  have HGV := Lib.hid (givers_any ⟨⟨fk, fr, fid, some ⟨kg, 0, none⟩, fn, fcap⟩, ax, pa, pn, pcap, P⟩ P (w.alloc (fmbox ⟨⟨fk, fr, fid, some ⟨kg, 0, none⟩, fn, fcap⟩, ax, pa, pn, pcap, P⟩)) rfl hP hL)
  have HGI := Lib.hid (fun (up : Bool) (ga : Option Addr) (gcap : Nat) (m : Int) (W : World) (h1 : PK base kg fn fcap cs l W) (h2 : Row W (.slice ga (ordL P fn up).length gcap) (ints (natL (ordL P fn up)))) (h3 : ∀ b o, ga = some ⟨b, o, none⟩ → b ≠ kg) (h4 : 0 ≤ m) (h5 : fits m) (h6 : base ≤ W.heap.size) =>
    give_any ⟨⟨fk, fr, fid, some ⟨kg, 0, none⟩, fn, fcap⟩, ax, pa, pn, pcap, P⟩ base kg fn fcap (getN P up) N (ordL P fn up) ga gcap m W0 cr cs l W h1 rfl rfl rfl (by omega) hxf hax hinv hrm hw0 (fun k hk => ord_lt hP hk) (by unfold getN; split <;> omega) (by have := ord_len (up := up) hP; omega) h2 h3 h4 h5 h6)
  have hfits := hb
  unfold fits at hfits
  have HFITS := Lib.hid hfits
  have HLEFT := Lib.hid (fun (q : Nat) (gl : List Nat) (m : Int) (h : 0 ≤ m) => gvP_left (x := fr.x) (y := fr.y) (ax := ax) (q := q) gl.length gl l m (Nat.le_refl _) h)
  clear hk hxf hax hinv hrm B1 hbase hb
  by_cases h0 : 0 ≤ b
  · have d0 : decide (0 ≤ b) = true := decide_eq_true h0
    have HA : Hid (askA b = b) := Lib.hid (if_pos h0)
    have HL1 : Hid (pshL fr.x fr.y ax P fn b l = gvP fr.x fr.y ax (getN P true) (ordL P fn true) l b) := Lib.hid (by unfold pshL; rw [d0, HA.out])
    have HN1 : Hid (pshN fr.x fr.y ax P fn b l = b - (gvP fr.x fr.y ax (getN P true) (ordL P fn true) l b).2) := Lib.hid (by unfold pshN; rw [if_pos h0, HL1.out, HA.out])
    go_enter Try.func23, Try.ntmps23
    go_wp2_with fail
    refine HGV.out.mono ?_
    rintro e w3 ⟨hb3, a1, c1, a2, c2, rfl, hr1, hr2, hf1, hf2⟩
    have R1 := Lib.hid hr1
    have P3 := Lib.hid (P1.out.up hb3)
    have F3 := Lib.hid (F1.out.up hb3)
    have B3 := Lib.hid (BB.out.trans (hb3.mono BB.out.size))
    have HF1 := Lib.hid (show ∀ b o, a1 = some ⟨b, o, none⟩ → b ≠ kg from fun b o h => by have h1 := hf1 b o h; have h2 := HKW.out; have h3 := BB.out.size; omega)
    have HB3 := Lib.hid (Nat.le_trans HBASE.out B3.out.size)
    clear hb3 hr1 hr2 hf1 hf2 HGV
    obtain ⟨q0, q1, q2, q3, q4, q5, q6, q7, q8, q9⟩ := F3.out.parts
    go_wp2_with fail
    refine (HGI.out true a1 c1 b w3 P3.out R1.out HF1.out h0 HFITS.out HB3.out).mono ?_
    rintro e w4 ⟨rfl, hm4, cs4, hp4⟩
    have M4 := Lib.hid ((Mv.of B3.out).trans hm4)
    have P4 := Lib.hid hp4
    clear hm4 hp4 q0 q1 q2 q3 q4 q5 q6 q7 q8 q9
    go_wp2
    go_ret
    exact ⟨by rw [HN1.out]; rfl, M4.out, cs4, by rw [HL1.out]; exact P4.out⟩
  · have d0 : decide (0 ≤ b) = false := decide_eq_false h0
    obtain ⟨a, ha⟩ : ∃ a, min (-b) 10000 = a := ⟨_, rfl⟩
    have HA : Hid (askA b = a) := Lib.hid ((if_neg h0).trans ha)
    have hmx : max b (-10000) = -a := by omega
    have hmx2 : IntKind.i64.wrap (- -a) = a := by rw [Int.neg_neg]; exact wrap_id (by have := HFITS.out; omega)
    have hmx3 : IntKind.i64.wrap a = a := wrap_id (by have := HFITS.out; omega)
    have hP1 : IntKind.i64.wrap ((P : Int) + 1) = ((P + 1 : Nat) : Int) := by rw [wrap_id (by omega)]; omega
    have ha0 : 0 ≤ a := by omega
    have HL1 : Hid (pshL fr.x fr.y ax P fn b l = gvP fr.x fr.y ax (getN P false) (ordL P fn false) l a) := Lib.hid (by unfold pshL; rw [d0, HA.out])
    have HN1 : Hid (pshN fr.x fr.y ax P fn b l = -(a - (gvP fr.x fr.y ax (getN P false) (ordL P fn false) l a).2)) := Lib.hid (by unfold pshN; rw [if_neg h0, HL1.out, HA.out])
    have hlf := HLEFT.out (getN P false) (ordL P fn false) a ha0
    obtain ⟨lf, hlfe⟩ : ∃ lf, (gvP fr.x fr.y ax (getN P false) (ordL P fn false) l a).2 = lf := ⟨_, rfl⟩
    rw [hlfe] at hlf HN1
    have hwr : IntKind.i64.wrap (-(a - lf)) = -(a - lf) := wrap_id (by omega)
    have HGJ : Hid (∀ (ga : Option Addr) (gcap : Nat) (W : World) (_ : PK base kg fn fcap cs l W) (_ : Row W (.slice ga (ordL P fn false).length gcap) (ints (natL (ordL P fn false)))) (_ : ∀ b o, ga = some ⟨b, o, none⟩ → b ≠ kg) (_ : base ≤ W.heap.size),
        Calls Try.prog 40 #[fmval ⟨⟨fk, fr, fid, some ⟨kg, 0, none⟩, fn, fcap⟩, ax, pa, pn, pcap, P⟩, .slice ga (ordL P fn false).length gcap, .int .i64 ((P + 1 : Nat) : Int), .int .i64 a] W fun e w' => e = .returned (.int .i64 (a - lf)) ∧ Mv kg W w' ∧ ∃ cs', PK base kg fn fcap cs' (pshL fr.x fr.y ax P fn b l).1 w') := Lib.hid fun ga gcap W h1 h2 h3 h6 => by
      have h := HGI.out false ga gcap a W h1 h2 h3 ha0 (show fits a by unfold fits; have := HFITS.out; omega) h6
      rw [HL1.out, ← hlfe]
      exact h
    clear HGI hlfe
    go_enter Try.func23, Try.ntmps23
    go_wp2_with fail
    refine HGV.out.mono ?_
    rintro e w3 ⟨hb3, a1, c1, a2, c2, rfl, hr1, hr2, hf1, hf2⟩
    have R1 := Lib.hid hr2
    have P3 := Lib.hid (P1.out.up hb3)
    have F3 := Lib.hid (F1.out.up hb3)
    have B3 := Lib.hid (BB.out.trans (hb3.mono BB.out.size))
    have HF1 := Lib.hid (show ∀ b o, a2 = some ⟨b, o, none⟩ → b ≠ kg from fun b o h => by have h1 := hf2 b o h; have h2 := HKW.out; have h3 := BB.out.size; omega)
    have HB3 := Lib.hid (Nat.le_trans HBASE.out B3.out.size)
    clear hb3 hr1 hr2 hf1 hf2 HGV
    obtain ⟨q0, q1, q2, q3, q4, q5, q6, q7, q8, q9⟩ := F3.out.parts
    go_wp2_with fail
    refine (HGJ.out a2 c2 w3 P3.out R1.out HF1.out HB3.out).mono ?_
    rintro e w4 ⟨rfl, hm4, cs4, hp4⟩
    have M4 := Lib.hid ((Mv.of B3.out).trans hm4)
    have P4 := Lib.hid hp4
    clear hm4 hp4 q0 q1 q2 q3 q4 q5 q6 q7 q8 q9
    go_wp2
    go_ret
    exact ⟨by rw [HN1.out]; rfl, M4.out, cs4, P4.out⟩
end Go.Proofs.Ytodcabaihhmhnaa
