/- Texts of this seat, 3 in one file. -/
import Derived.Test.YtodcabaihhmhnaaG39
import Derived.Test.YtodcabaihhmhnaaG26
import Derived.Test.YtodcabaihhmhnaaG25
/- grow: what each of some kids gets. -/
namespace Go.Proofs.Ytodcabaihhmhnaa
open Go.RowKit Sh

def gl (n q k : Nat) : List Int := (List.range n).map fun i => ((q + if i < k then 1 else 0 : Nat) : Int)
theorem gl_zero (n q : Nat) : gl n q 0 = List.replicate n (q : Int) := by
  refine List.ext_getElem? fun i => ?_
  by_cases hi : i < n
  · simp [gl, hi]
  · rw [List.getElem?_eq_none (by simp [gl]; omega), List.getElem?_eq_none (by simp; omega)]
theorem gl_at {n q k i : Nat} (hi : i < n) : (gl n q k)[i]? = some (((q + if i < k then 1 else 0 : Nat)) : Int) := by simp [gl, hi]
theorem gl_cur {n q k : Nat} (hk : k < n) : (gl n q k)[k]? = some (q : Int) := by rw [gl_at hk]; simp
theorem gl_length (n q k : Nat) : (gl n q k).length = n := by simp [gl]
theorem gl_set {n q k : Nat} (hk : k < n) : (gl n q k).set k ((q : Int) + 1) = gl n q (k + 1) := by
  refine List.ext_getElem? fun i => ?_
  by_cases hi : i < n
  · rw [List.getElem?_set, gl_at hi, gl_at hi, gl_length]
    by_cases h : k = i
    · subst h; rw [if_pos rfl, if_pos hk, if_pos (by omega)]; rfl
    · rw [if_neg h]
      by_cases h2 : i < k
      · rw [if_pos h2, if_pos (by omega)]
      · rw [if_neg h2, if_neg (by omega)]
  · rw [List.getElem?_eq_none (by rw [List.length_set, gl_length]; omega), List.getElem?_eq_none (by rw [gl_length]; omega)]
theorem gl_out (n m : Nat) : gl n (m / n) (m % n) = natI (out none n m) := by
  unfold gl natI out
  rw [List.map_map]
  exact List.map_congr_left fun i _ => rfl

set_option maxRecDepth 100000 in
theorem grow_any (m n : Nat) (w : World) (hm : m ≤ 2147483647) (hn : 1 ≤ n) (hn2 : n ≤ 1000000) :
    Calls Try.prog 101 #[.int .i64 m, .int .i64 n] w fun e w' => ∃ g, e = .returned (.slice (some ⟨g, 0, none⟩) n n) ∧ w.heap.size ≤ g ∧ IBlk w' g (natI (out none n m)) ∧ Below w.heap.size w w' := by
  have hlt := Nat.mod_lt m (show 0 < n by omega)
  obtain ⟨q, hq⟩ : ∃ q, m / n = q := ⟨_, rfl⟩
  obtain ⟨r, hr⟩ : ∃ r, m % n = r := ⟨_, rfl⟩
  have HG := Lib.hid (gl_out n m)
  rw [hq, hr] at HG
  rw [hr] at hlt
  have hd : (m : Int).tdiv (n : Int) = (q : Int) := by rw [← hq]; exact Int.ofNat_tdiv m n
  have hm' : (m : Int).tmod (n : Int) = (r : Int) := by rw [← hr]; exact Int.ofNat_tmod m n
  have hd2 : (m : Int) / (n : Int) = (q : Int) := by rw [← hq]; exact Int.natCast_ediv m n
  have hm2 : (m : Int) % (n : Int) = (r : Int) := by rw [← hr]; exact Int.natCast_emod m n
  have hqle : q ≤ m := by rw [← hq]; exact Nat.div_le_self m n
  clear hq hr
  have HR : Hid (∀ W : World, Calls Try.prog 93 #[.slice (some ⟨W.heap.size, 0, none⟩) 1 1, .int .i64 n] (W.alloc (.cells #[.int .i64 (q : Int)] 3)) fun e w' => ∃ g, e = .returned (.slice (some ⟨g, 0, none⟩) n n) ∧ W.heap.size ≤ g ∧ IBlk w' g (List.replicate n (q : Int)) ∧ Below W.heap.size W w') := Lib.hid fun W => by
    refine (repeat_any (q : Int) n _ (W.alloc (.cells #[.int .i64 (q : Int)] 3)) ((IBlk.one W _).row 1 1 rfl) hn hn2).mono ?_
    rintro e w' ⟨g, rfl, h1, h2, h3⟩
    exact ⟨g, rfl, by simp at h1; omega, h2, below_one h3⟩
  go_enter Try.func101, Try.ntmps101
  go_wp2_with fail
  refine (HR.out w).mono ?_
  rintro e w2 ⟨g, rfl, hgw, hblk, hb2⟩
  have HK := Lib.hid hblk
  have HB := Lib.hid hb2
  clear hblk hb2
  go_wp2
  go_loopg [16] (r + 1) (fun G i wr => ∃ k : Nat, G + k = r + 1 ∧ k ≤ r ∧ i = .int .i64 k ∧ IBlk wr g (gl n q k) ∧ Below w.heap.size w wr)
  case atStart => exact ⟨0, by omega, by omega, rfl, by rw [gl_zero]; exact HK.out, HB.out⟩
  case round =>
    obtain ⟨k, hG, hk, rfl, hblk, hb⟩ := hrel
    have HGK := Lib.hid hG
    have HK2 := Lib.hid hblk
    have HB2 := Lib.hid hb
    clear hG hblk hb
    by_cases hkr : k < r
    · have hlti : (k : Int) < (r : Int) := by omega
      have hkn : (k : Int) < (n : Int) := by omega
      have c0 := HK2.out.cell (gl_cur (q := q) (show k < n by omega))
      have f0 := HK2.out.free k
      have HK3 := Lib.hid (HK2.out.set k ((q : Int) + 1))
      rw [gl_set (by omega)] at HK3
      have HB3 := Lib.hid (show Below w.heap.size w (wr.setCell ⟨g, k, none⟩ (.int .i64 ((q : Int) + 1))) from HB2.out.setCell hgw _)
      go_wp2
      go_roundg (gk - 1)
      case measure => have := HGK.out; omega
      case rel => exact ⟨k + 1, by have := HGK.out; omega, by omega, by go_num, HK3.out, HB3.out⟩
    · obtain rfl : k = r := by omega
      have hkl : ((k : Int) < (k : Int)) = False := by simp
      go_wp2
      go_ret
      exact ⟨g, rfl, hgw, by rw [← HG.out]; exact HK2.out, HB2.out⟩
end Go.Proofs.Ytodcabaihhmhnaa
/- sort.Search, with a closure that keeps two things. -/
namespace Go.Proofs.Ytodcabaihhmhnaa
open Go.RowKit

theorem enters22 : Enters 108 := enters_of Try.func108 (by kernel_rfl) rfl

set_option maxRecDepth 100000 in
theorem search_any (n : Nat) (hn : n ≤ 1099511627776) (p : Nat → Bool) (p1 p2 : Value) (w : World)
    (hP : ∀ (i : Nat) (W : World), i < n → Below w.heap.size w W → Calls Try.prog 108 #[.int .i64 i, p1, p2] W fun e w' => e = .returned (.bool (p i)) ∧ Below W.heap.size W w') :
    Calls Try.prog 107 #[.int .i64 n, .func (.func 108) #[] #[p1, p2]] w fun e w' => ∃ r : Nat, r ≤ n ∧ e = .returned (.int .i64 r) ∧ (r = 0 ∨ p (r - 1) = false) ∧ (r = n ∨ p r = true) ∧ Below w.heap.size w w' := by
  have hent : ∀ (args : Array Value) (w : World), (callFunc 108 args).run Try.prog w = .ok (.enter 108 args) w := enters22
  have HP := Lib.hid hP
  clear hP
  go_enter Try.func107, Try.ntmps107
  go_wp2
  go_loopg [5, 6] (n + 1) (fun g vi vj wr => ∃ i j : Nat, j - i ≤ g ∧ i ≤ j ∧ j ≤ n ∧ vi = .int .i64 i ∧ vj = .int .i64 j ∧ (i = 0 ∨ p (i - 1) = false) ∧ (j = n ∨ p j = true) ∧ Below w.heap.size w wr)
  case atStart => exact ⟨0, n, by omega, by omega, by omega, rfl, rfl, .inl rfl, .inl rfl, Below.refl _ _⟩
  case round =>
    obtain ⟨i, j, hg, hij, hjn, rfl, rfl, hi, hj, hb⟩ := hrel
    have HG := Lib.hid hg
    have HI := Lib.hid hi
    have HJ := Lib.hid hj
    have HB := Lib.hid hb
    clear hg hi hj hb
    by_cases hlt : i < j
    · have hlti : (i : Int) < (j : Int) := by omega
      obtain ⟨h, hh⟩ : ∃ h : Nat, ((i : Int) + (j : Int)) / 2 = (h : Int) := ⟨(i + j) / 2, by omega⟩
      have h1 : i ≤ h := by omega
      have h2 : h < j := by omega
      have HC := Lib.hid (HP.out h wr (by omega) HB.out)
      go_wp2_with fail
      refine HC.out.mono ?_
      rintro e w2 ⟨rfl, hb2⟩
      have B2 := Lib.hid (HB.out.trans (hb2.mono HB.out.size))
      clear hb2 hh
      cases hp : p h with
      | true =>
        have HPH := Lib.hid hp
        clear hp
        go_wp2
        go_roundg (gk - 1)
        case measure => have := HG.out; omega
        case rel => exact ⟨i, h, by have := HG.out; omega, by omega, by omega, rfl, rfl, HI.out, .inr HPH.out, B2.out⟩
      | false =>
        have HPH := Lib.hid hp
        clear hp
        go_wp2
        go_roundg (gk - 1)
        case measure => have := HG.out; omega
        case rel => exact ⟨h + 1, j, by have := HG.out; omega, by omega, by omega, by go_num, rfl, .inr (by rw [Nat.add_sub_cancel]; exact HPH.out), HJ.out, B2.out⟩
    · obtain rfl : i = j := by omega
      have hkl : ((i : Int) < (i : Int)) = False := by simp
      go_wp2
      go_ret
      exact ⟨i, by omega, rfl, HI.out, HJ.out, HB.out⟩
end Go.Proofs.Ytodcabaihhmhnaa
/- shrink: what each of some kids loses. -/
namespace Go.Proofs.Ytodcabaihhmhnaa
open Go.RowKit Sh

abbrev box1 (v : Value) (t : TypeId) : Obj := .cells #[v] t
def BoxI1 (w : World) (b : Nat) (v : Value) (t : TypeId) : Prop := w.heap[b]? = some (box1 v t)
theorem BoxI1.up {w w' : World} {b : Nat} {v : Value} {t : TypeId} (h : BoxI1 w b v t) (hb : Below w.heap.size w w') : BoxI1 w' b v t := (hb.block b (lt_of_block h)).trans h
theorem BoxI1.cell {w : World} {b : Nat} {v : Value} {t : TypeId} (h : BoxI1 w b v t) : w.cell? ⟨b, 0, none⟩ = some v := by
  have h' : w.heap[b]? = some (box1 v t) := h
  simp [World.cell?, h']
theorem BoxI1.new (w : World) (v : Value) (t : TypeId) : BoxI1 (w.alloc (box1 v t)) w.heap.size v t := heap_alloc_new w _

def needB (need : Nat) (l : List Nat) (r : Nat) : Bool := decide (need < rs r l)
theorem lf_dec (need r : Nat) (l : List Nat) : decide (lfI r need (natI l) < 0) = needB need l r := by
  obtain ⟨h1, h2⟩ := lf_spec r l need
  unfold needB
  by_cases h : need < rs r l
  · rw [decide_eq_true h, decide_eq_true (h1 h)]
  · rw [decide_eq_false h, decide_eq_false (by rw [h2 (by omega)]; omega)]

set_option maxRecDepth 100000 in
theorem shr1_any (need : Nat) (l : List Nat) (v : Value) (b1 b2 i : Nat) (W : World) (h1 : BoxI1 W b1 (.int .i64 need) 3) (h2 : BoxI1 W b2 v 37) (hv : Row W v (ints (natI l))) (hg : goodN l) (hn : need ≤ 2147483647) (hi : i < 2147483647) (hl : l.length ≤ 1000000) :
    Calls Try.prog 108 #[.int .i64 i, .pointer (some ⟨b1, 0, none⟩), .pointer (some ⟨b2, 0, none⟩)] W fun e w' => e = .returned (.bool (needB need l (i + 1))) ∧ Below W.heap.size W w' := by
  have c1 := h1.cell
  have c2 := h2.cell
  have HC := Lib.hid (left_any (need : Int) ((i + 1 : Nat) : Int) v (natI l) W hv (goodI_of hg) (by omega) (by omega) (by rw [natI_length]; exact hl))
  have HD := Lib.hid (lf_dec need (i + 1) l)
  clear hv h1 h2
  have hi1 : ((i + 1 : Nat) : Int) = (i : Int) + 1 := by omega
  rw [hi1] at HC HD
  go_enter Try.func108, Try.ntmps108
  go_wp2_with fail
  refine HC.out.mono ?_
  rintro e w2 ⟨rfl, hw2⟩
  rw [hw2]
  clear hw2 w2
  go_wp2
  go_ret
  exact ⟨by rw [← HD.out]; rfl, Below.refl _ _⟩

def ShrSays (need : Nat) (l : List Nat) (w : World) (e : Ending) (w' : World) : Prop :=
  Below w.heap.size w w' ∧ ((need ≤ l.sum ∧ ∃ v m, e = .returned (.tuple #[v, .bool true]) ∧ (out (some l) l.length m).sum = need ∧ Row w' v (ints (negI (out (some l) l.length m)))) ∨ (l.sum < need ∧ e = .returned (.tuple #[.slice none 0 0, .bool false])))

theorem tk_yes {r lk a : Nat} {l : List Nat} (h1 : 0 < lk) (h2 : r < a) : tk r lk (a :: l) = (r + 1) :: tk r (lk - 1) l := by rw [tk, if_pos ⟨h1, h2⟩]
theorem tk_no {r lk a : Nat} {l : List Nat} (h : ¬ (0 < lk ∧ r < a)) : tk r lk (a :: l) = min a r :: tk r lk l := by rw [tk, if_neg h]

theorem snoc_neg (acc : List Nat) (a : Nat) (X : Int) (h : X = -(a : Int)) : ints (negI acc) ++ [Value.int .i64 X] = ints (negI (acc ++ [a])) := by
  subst h; simp [ints, negI]
set_option maxRecDepth 100000 in
theorem shrink_any (need : Nat) (l : List Nat) (v : Value) (w : World) (hv : Row w v (ints (natI l))) (hg : goodN l) (hn : need ≤ 2147483647) (hl : l.length ≤ 1000) :
    Calls Try.prog 100 #[.int .i64 need, v] w (ShrSays need l w) := by
  obtain ⟨a, cap, rfl⟩ := row_shape hv
  rw [natI_length] at hv ⊢
  obtain ⟨v, hvv⟩ : ∃ v, v = Value.slice a l.length cap := ⟨_, rfl⟩
  rw [← hvv] at hv
  have B0 : Hid (Below w.heap.size w ((w.alloc (box1 (.int .i64 need) 3)).alloc (box1 v 37))) := Lib.hid (((Below.refl _ _).alloc (Nat.le_refl _) _).alloc (by simp) _)
  have X0 : Hid (BoxI1 ((w.alloc (box1 (.int .i64 need) 3)).alloc (box1 v 37)) w.heap.size (.int .i64 need) 3) := Lib.hid ((BoxI1.new w _ _).up ((Below.refl _ _).alloc (Nat.le_refl _) _))
  have Y0 : Hid (BoxI1 ((w.alloc (box1 (.int .i64 need) 3)).alloc (box1 v 37)) (w.heap.size + 1) v 37) := Lib.hid (by
    have := BoxI1.new (w.alloc (box1 (.int .i64 need) 3)) v 37
    simpa using this)
  have HV := Lib.hid hv
  clear hv
  obtain ⟨M, hM⟩ : ∃ M : Nat, M = 2147483647 := ⟨_, rfl⟩
  have hMI : (M : Int) = 2147483647 := by omega
  have hgM : ∀ a ∈ l, a ≤ M := fun a ha => by have := hg a ha; omega
  have HC1 : Hid (∀ W, Below w.heap.size w W → Calls Try.prog 106 #[.int .i64 (need : Int), .int .i64 2147483647, v] W fun e w' => e = .returned (.int .i64 (lfI M need (natI l))) ∧ w' = W) := Lib.hid fun W hW => by
    rw [← hMI]
    exact left_any (need : Int) M v (natI l) W (HV.out.up hW) (goodI_of hg) (by omega) (by omega) (by rw [natI_length]; omega)
  have HSP := Lib.hid (lf_spec M l need)
  have HTOT := Lib.hid (rs_all hgM)
  have HSR : Hid (∀ W, Below w.heap.size w W → BoxI1 W w.heap.size (.int .i64 need) 3 → BoxI1 W (w.heap.size + 1) v 37 → Calls Try.prog 107 #[.int .i64 2147483647, .func (.func 108) #[] #[.pointer (some ⟨w.heap.size, 0, none⟩), .pointer (some ⟨w.heap.size + 1, 0, none⟩)]] W fun e w' => ∃ r : Nat, r ≤ M ∧ e = .returned (.int .i64 r) ∧ (r = 0 ∨ ¬ need < rs (r - 1 + 1) l) ∧ (r = M ∨ need < rs (r + 1) l) ∧ Below W.heap.size W w') := Lib.hid fun W hW hX hY => by
    rw [← hMI]
    refine (search_any M (by omega) (fun i => needB need l (i + 1)) _ _ W fun i W2 hi hW2 => shr1_any need l v w.heap.size (w.heap.size + 1) i W2 (hX.up hW2) (hY.up hW2) ((HV.out.up hW).up hW2) hg hn (by omega) (by omega)).mono ?_
    rintro e w' ⟨r, h1, h2, h3, h4, h5⟩
    exact ⟨r, h1, h2, h3.imp id (fun h => of_decide_eq_false h), h4.imp id (fun h => of_decide_eq_true h), h5⟩
  have HCR : Hid (∀ (r : Nat) W, r ≤ M → rs r l ≤ need → Below w.heap.size w W → Calls Try.prog 106 #[.int .i64 (need : Int), .int .i64 r, v] W fun e w' => e = .returned (.int .i64 ((need - rs r l : Nat) : Int)) ∧ w' = W) := Lib.hid fun r W hr hle hW => by
    refine (left_any (need : Int) r v (natI l) W (HV.out.up hW) (goodI_of hg) (by omega) (by omega) (by rw [natI_length]; omega)).mono ?_
    rintro e w' ⟨rfl, h⟩
    refine ⟨ret_int ?_, h⟩
    rw [(lf_spec r l need).2 hle]; omega
  have HGN := Lib.hid (show goodN l from hg)
  obtain ⟨lf, hlf⟩ : ∃ lf, lfI M (need : Int) (natI l) = lf := ⟨_, rfl⟩
  rw [hlf] at HC1 HSP
  have HMM := Lib.hid hM
  subst hvv
  clear hg hMI hlf hM hgM
  go_enter Try.func100, Try.ntmps100
  go_wp2_with fail
  refine (HC1.out _ B0.out).mono ?_
  rintro e w1 ⟨rfl, hw1⟩
  rw [hw1]
  clear hw1 w1
  generalize (w.alloc (box1 (.int .i64 need) 3)).alloc (box1 (.slice a l.length cap) 37) = W0 at B0 X0 Y0 ⊢
  by_cases htot : need ≤ l.sum
  · have hd : decide ((0 : Int) < lf) = false := by
      have h1 := HSP.out
      rw [HTOT.out] at h1
      rw [decide_eq_false_iff_not]
      by_cases h : need < l.sum
      · have := h1.1 h; omega
      · rw [h1.2 (by omega)]; omega
    go_wp2_with fail
    refine (HSR.out W0 B0.out X0.out Y0.out).mono ?_
    rintro e w2 ⟨r, hrM, rfl, hr1, hr2, hb2⟩
    have B2 := Lib.hid (B0.out.trans (hb2.mono B0.out.size))
    have X2 := Lib.hid (X0.out.up hb2)
    have Y2 := Lib.hid (Y0.out.up hb2)
    have hok := rounds_ok HGN.out hr1 (by rw [← HMM.out]; exact hr2) htot
    obtain ⟨last, hlast⟩ : ∃ last, need - rs r l = last := ⟨_, rfl⟩
    have HC3 := Lib.hid (HCR.out r w2 hrM hok.1 B2.out)
    rw [hlast] at HC3 hok
    have HLE := Lib.hid hok.2
    have HTS := Lib.hid (tk_sum r l last hok.2)
    have HTO := Lib.hid (tk_out r l last hok.2)
    have HLS := Lib.hid (show rs r l + last = need by omega)
    have hlb : last ≤ 2147483647 := by omega
    have hrb : r ≤ 2147483647 := by have := HMM.out; omega
    clear hb2 hr1 hr2 hok hlast hd HSR HCR HC1
    have x2 := X2.out.cell
    have y2 := Y2.out.cell
    go_wp2_with fail
    refine HC3.out.mono ?_
    rintro e w3 ⟨rfl, hw3⟩
    rw [hw3]
    clear hw3 w3
    go_wp2
    clear x2 y2
    go_loopg [7, 8, 24] (l.length + 1) (fun G vl vs i wr => ∃ (k lk : Nat) (acc : List Nat), G + k = l.length + 1 ∧ k ≤ l.length ∧ i = .int .i64 k ∧ vl = .int .i64 lk ∧ lk ≤ 2147483647 ∧ acc.length = k ∧ tk r last l = acc ++ tk r lk (l.drop k) ∧ wr.ownsRow w.heap.size 3 1 vs (ints (negI acc)).length (ints (negI acc)) ∧ Below w.heap.size w wr)
    case atStart => exact ⟨0, last, [], by omega, by omega, rfl, rfl, hlb, rfl, by simp, World.ownsRow_nil _ _ _ _, B2.out⟩
    case round =>
      obtain ⟨k, lk, acc, hG, hk, rfl, rfl, hlkb, hacc, htk, hown, hb⟩ := hrel
      have HG := Lib.hid hG
      have HAC := Lib.hid hacc
      have HTK := Lib.hid htk
      have HO := Lib.hid hown
      have HB := Lib.hid hb
      clear hG hacc htk hown hb
      by_cases hlt : k < l.length
      · have hlti : (k : Int) < (l.length : Int) := by omega
        obtain ⟨g, hg⟩ : ∃ g, l[k]? = some g := ⟨_, List.getElem?_eq_getElem hlt⟩
        obtain ⟨pb, po, rfl, hf⟩ := int_at HV.out (by rw [natI_length]; omega)
        have c0 := (HB.out.cell (lt_of_cell (hf k g (natI_get hg)))).trans (hf k g (natI_get hg))
        have hgb := HGN.out g (List.mem_of_getElem? hg)
        have HD := Lib.hid (drop_at hg)
        have HLN : Hid ((ints (negI acc)).length + 1 ≤ 1000000) := Lib.hid (by rw [ints_length, negI_length, HAC.out]; omega)
        clear hf hg
        obtain ⟨t0, ht0⟩ : ∃ t0 : Nat, min g r = t0 := ⟨_, rfl⟩
        have hmin : min (g : Int) (r : Int) = (t0 : Int) := by omega
        by_cases hc : 0 < lk ∧ r < g
        · obtain ⟨hc1, hc2⟩ := hc
          obtain rfl : r = t0 := by omega
          have d1 : decide ((0 : Int) < (lk : Int)) = true := decide_eq_true (by omega)
          have d2 : decide ((r : Int) < (g : Int)) = true := decide_eq_true (by omega)
          have HT2 := Lib.hid (show tk r last l = (acc ++ [r + 1]) ++ tk r (lk - 1) (l.drop (k + 1)) by rw [HTK.out, HD.out, tk_yes hc1 hc2]; simp)
          go_wp2_with (at_builtin; refine wpList_append_row rfl _ _ 37 rfl w.heap.size 3 (.int .i64 0) 8 Try.underlying37 infoI rfl _ _ (ints (negI acc)) [_] rfl (HO.out.alloc _) rfl (row_one _ _ _) (fun u hu => by rw [List.mem_singleton.1 hu]; rfl) HLN.out (by decide) w (HB.out.alloc HB.out.size _) (Nat.le_refl _) ?_; intro v' w3 hown3 hb3; have HO3 := Lib.hid hown3; have HB3 := Lib.hid hb3; clear hown3 hb3)
          go_wp2
          go_roundg (gk - 1)
          case measure => have := HG.out; omega
          case rel =>
            refine ⟨k + 1, lk - 1, acc ++ [r + 1], by have := HG.out; omega, by omega, by go_num, by congr 1; omega, by omega, by simp [HAC.out], HT2.out, ?_, HB3.out⟩
            have := HO3.out
            rw [snoc_neg acc (r + 1) _ (by omega)] at this
            exact this
        · have HT2 := Lib.hid (show tk r last l = (acc ++ [t0]) ++ tk r lk (l.drop (k + 1)) by rw [HTK.out, HD.out, tk_no hc, ht0]; simp)
          have hcase : lk = 0 ∨ (0 < lk ∧ g = t0) := by omega
          obtain ⟨L, HL⟩ : ∃ L, Hid (L = lk) := ⟨_, rfl⟩
          obtain ⟨T, HT⟩ : ∃ T, Hid (T = t0) := ⟨_, rfl⟩
          rw [← HL.out, ← HT.out] at HT2
          clear hc
          rcases hcase with rfl | ⟨d1, rfl⟩
          all_goals
            go_wp2_with (at_builtin; refine wpList_append_row rfl _ _ 37 rfl w.heap.size 3 (.int .i64 0) 8 Try.underlying37 infoI rfl _ _ (ints (negI acc)) [_] rfl (HO.out.alloc _) rfl (row_one _ _ _) (fun u hu => by rw [List.mem_singleton.1 hu]; rfl) HLN.out (by decide) w (HB.out.alloc HB.out.size _) (Nat.le_refl _) ?_; intro v' w3 hown3 hb3; have HO3 := Lib.hid hown3; have HB3 := Lib.hid hb3; clear hown3 hb3)
            go_wp2
            go_roundg (gk - 1)
            case measure => have := HG.out; omega
            case rel =>
              refine ⟨k + 1, L, acc ++ [T], by have := HG.out; omega, by omega, by go_num, by rw [HL.out]; try rfl, by have := HL.out; omega, by simp [HAC.out], HT2.out, ?_, HB3.out⟩
              have := HO3.out
              rw [snoc_neg acc T _ (by have := HT.out; omega)] at this
              exact this
      · obtain rfl : k = l.length := by omega
        have hkl : ((l.length : Int) < (l.length : Int)) = False := by simp
        have HEND := Lib.hid (show tk r last l = acc by have := HTK.out; rw [List.drop_length, tk, List.append_nil] at this; exact this)
        go_wp2
        go_ret2
        obtain ⟨m, hm⟩ := HTO.out
        refine ⟨HB.out, .inl ⟨htot, _, m, rfl, ?_, ?_⟩⟩
        · rw [← hm, HTS.out, HLS.out]
        · rw [← hm, HEND.out]
          exact Row.of_owns HO.out
  · have hd : decide ((0 : Int) < lf) = true := by
      have h1 := HSP.out
      rw [HTOT.out] at h1
      rw [decide_eq_true_eq, h1.2 (by omega)]
      omega
    go_wp2
    go_ret2
    exact ⟨B0.out, .inr ⟨by omega, rfl⟩⟩
end Go.Proofs.Ytodcabaihhmhnaa
