/- Texts of this seat, 3 in one file. -/
import Derived.Test.YtakofjbjciljjaaG25
import Derived.BigQuiet
/- Leaves stand in another order: the document's answer. -/
namespace Go.Proofs.Ytakofjbjciljjaa
open Go.RowKit

theorem od_bad {t : T} {l : List Int} (ht : tileB t = false) : odE t l = 1 := if_neg (by rw [ht]; decide)
theorem od_cnt {t : T} {l : List Int} (ht : tileB t = true) (h : (idsT t).length ≠ l.length) : odE t l = 9 := by
  unfold odE; rw [if_pos ht, if_neg h]
theorem od_no {t : T} {l : List Int} (ht : tileB t = true) (h : (idsT t).length = l.length) (hp : ¬ odP (idsT t) l) : odE t l = 6 := by
  unfold odE; rw [if_pos ht, if_pos h, if_neg (by simpa using hp)]
theorem od_yes {t : T} {l : List Int} (ht : tileB t = true) (h : (idsT t).length = l.length) (hp : odP (idsT t) l) : odE t l = 0 := by
  unfold odE; rw [if_pos ht, if_pos h, if_pos (by simpa using hp)]
theorem nodup_take {l : List Int} (h : ∀ (j : Nat) (x : Int), l[j]? = some x → x ∉ l.take j) : l.Nodup := by
  unfold List.Nodup
  rw [List.pairwise_iff_getElem]
  intro i j hi hj hij e
  refine h j _ (List.getElem?_eq_getElem hj) ?_
  rw [← e]
  refine List.mem_of_getElem? (i := i) ?_
  rw [List.getElem?_take, if_pos hij, List.getElem?_eq_getElem hi]
theorem take_twice {l : List Int} {j : Nat} {x : Int} (hx : l[j]? = some x) (hm : x ∈ l.take j) : ¬ l.Nodup := by
  intro h
  unfold List.Nodup at h
  rw [List.pairwise_iff_getElem] at h
  obtain ⟨hj, rfl⟩ := List.getElem?_eq_some_iff.1 hx
  obtain ⟨i, hi, he⟩ := List.getElem_of_mem hm
  rw [List.length_take] at hi
  rw [List.getElem_take] at he
  exact h i j (by omega) hj (by omega) he
theorem Row.take {w : World} {a : Option Addr} {n cap k : Nat} {l : List Int} (h : Row w (.slice a n cap) (ints l)) (hk : k ≤ l.length) (ha : a = none → False) : Row w (.slice a k cap) (ints (l.take k)) := by
  obtain ⟨a1, cap1, he, h0, hc⟩ := h
  cases he
  refine ⟨a, cap, by rw [ints_length, List.length_take, Nat.min_eq_left hk], fun hn => absurd hn (fun e => ha e), fun x hx j u hu => ?_⟩
  refine hc x hx j u ?_
  rw [ints, List.getElem?_map, List.getElem?_take] at hu
  rw [ints, List.getElem?_map]
  by_cases hj : j < k
  · rw [if_pos hj] at hu; exact hu
  · rw [if_neg hj] at hu; simp at hu

/-- What of the loop is done: all told so far are leaves', none twice. -/
def OdI (ids l : List Int) (k : Nat) : Prop := ∀ (j : Nat) (x : Int), j < k → l[j]? = some x → x ∈ ids ∧ x ∉ l.take j
theorem OdI.all {ids l : List Int} (h : OdI ids l l.length) : odP ids l := by
  refine ⟨nodup_take fun j x hx => (h j x (lt_of_get hx) hx).2, fun x hx => ?_⟩
  obtain ⟨j, hj, rfl⟩ := List.getElem_of_mem hx
  exact (h j _ hj (List.getElem?_eq_getElem hj)).1
theorem OdI.step {ids l : List Int} {k : Nat} {p : Int} (h : OdI ids l k) (hp : l[k]? = some p) (h1 : p ∈ ids) (h2 : p ∉ l.take k) : OdI ids l (k + 1) := by
  intro j x hj hx
  rcases Nat.lt_or_ge j k with hjk | hjk
  · exact h j x hjk hx
  · obtain rfl : j = k := by omega
    rw [hp] at hx; cases hx
    exact ⟨h1, h2⟩

end Go.Proofs.Ytakofjbjciljjaa
/- The document's example, on which the laws look. -/
namespace Go.Proofs.Ytakofjbjciljjaa
open Go.RowKit

/-- What the program's Round answers. -/
def RoundK : Prop := ∀ (t : T) (c : C) (by_ : Int) (w : World), sz t ≤ 20000 → Is w c t → fits by_ → Calls Try.prog 12 #[cval c, .int .i64 by_] w (SwSays (rdE t) (rdT t by_) .i64 w)

def lC (i : Nat) : C := ⟨1, ⟨2 * i, 0, 1, 1⟩, i + 1, none, 0, 0⟩
def lT (i : Nat) : T := .node 1 ⟨2 * i, 0, 1, 1⟩ (i + 1) []
def lCs : List C := [lC 0, lC 1, lC 2]
def awT : T := .node 2 ⟨0, 0, 5, 1⟩ 0 [lT 0, lT 1, lT 2]
theorem fitsN (n : Int) (h : -1000 ≤ n ∧ n ≤ 1000) : fits n := ⟨by omega, by omega⟩
theorem lC_is (w : World) (i : Nat) (h : i < 3) : Is w (lC i) (lT i) := .mk (lC i) [] [] (.inl ⟨_, _, rfl, rfl⟩) rfl ⟨⟨by simp [lC], by simp [lC]⟩, ⟨fitsN _ (by simp [lC]; omega), fitsN _ (by simp [lC]), fitsN _ (by simp [lC]), fitsN _ (by simp [lC])⟩, fitsN _ (by simp [lC]; omega), by simp [lC]⟩ (fun j x t hx => by simp at hx)
theorem aw_fit : fitB awT = true := by
  refine (fitB_iff _).2 (.inr ⟨⟨by decide, .inl ⟨by decide, ⟨fun k m hk hm => ?_, by decide⟩⟩⟩, by decide⟩)
  have hk2 : k < 3 := hk
  match k, hk2 with
  | 0, _ =>
    have : some 1 = some m := hm
    cases this
    decide
  | 1, _ =>
    have : some 1 = some m := hm
    cases this
    decide
  | 2, _ =>
    have : some 1 = some m := hm
    cases this
    decide
theorem fit_l (i : Nat) : fitB (lT i) = true := (fitB_iff _).2 (.inl rfl)
theorem aw_pre : preT awT = [awT, lT 0, lT 1, lT 2] := by simp [preT, preL, awT, lT]
theorem aw_tile : tileB awT = true := by
  unfold tileB; rw [aw_pre, show mayT awT = true by decide]; simp [aw_fit, fit_l]
theorem aw_ids : idsT awT = [1, 2, 3] := by unfold idsT; rw [aw_pre]; rfl
theorem aw_sz : sz awT = 4 := by simp [sz, szL, awT, lT]
theorem aw_rd : rdL 1 [1, 2, 3] = [3, 1, 2] := by decide
theorem aw_done : idsT (rdT awT 1) = [3, 1, 2] := by rw [rd_ids, aw_ids, aw_rd]
theorem aw_e : rdE awT = 0 := if_pos aw_tile
theorem aw_is {w : World} {a : Option Addr} {cap base : Nat} (h : OwnC w base (.slice a 3 cap) lCs) : Is w ⟨2, ⟨0, 0, 5, 1⟩, 0, a, 3, cap⟩ awT := by
  refine .mk ⟨2, ⟨0, 0, 5, 1⟩, 0, a, 3, cap⟩ [lT 0, lT 1, lT 2] lCs h.row rfl ⟨⟨by simp, by simp⟩, ⟨fitsN _ (by simp), fitsN _ (by simp), fitsN _ (by simp), fitsN _ (by simp)⟩, fitsN _ (by simp), by simp⟩ fun j x t hx ht => ?_
  match j with
  | 0 => simp [lCs] at hx ht; subst hx; subst ht; exact lC_is w 0 (by omega)
  | 1 => simp [lCs] at hx ht; subst hx; subst ht; exact lC_is w 1 (by omega)
  | 2 => simp [lCs] at hx ht; subst hx; subst ht; exact lC_is w 2 (by omega)
  | j + 3 => simp [lCs] at hx
theorem three_row (w : World) (a b c : Int) : Row (w.alloc (.cells #[.int .i64 a, .int .i64 b, .int .i64 c] 3)) (.slice (some ⟨w.heap.size, 0, none⟩) 3 3) (ints [a, b, c]) := by
  refine ⟨some ⟨w.heap.size, 0, none⟩, 3, rfl, (fun h => nomatch h), fun ad hx j u hu => ?_⟩
  cases hx
  match j with
  | 0 => simp [ints] at hu; subst hu; change (w.alloc _).cell? ⟨w.heap.size, 0, none⟩ = _; simp
  | 1 => simp [ints] at hu; subst hu; change (w.alloc _).cell? ⟨w.heap.size, 1, none⟩ = _; simp
  | 2 => simp [ints] at hu; subst hu; change (w.alloc _).cell? ⟨w.heap.size, 2, none⟩ = _; simp
  | j + 3 => simp [ints] at hu
theorem callI (v : Value) (a b c : Int) (w : World) (h : Row w v (ints [a, b, c])) : Calls Try.prog 21 #[v, .slice (some ⟨w.heap.size, 0, none⟩) 3 3] (w.alloc (.cells #[.int .i64 a, .int .i64 b, .int .i64 c] 3)) fun e w' => e = .returned (.bool true) ∧ Below w.heap.size w w' := by
  refine (ints_any v _ [a, b, c] [a, b, c] _ (h.up ((Below.refl _ _).alloc (Nat.le_refl _) _)) (three_row w a b c) (by simp)).mono ?_
  rintro e w' ⟨rfl, hb⟩
  exact ⟨by simp [eqI], below_one hb⟩

set_option maxHeartbeats 2000000 in
set_option maxRecDepth 100000 in
theorem awake15_any (HR : RoundK) (w : World) : Calls Try.prog 8 #[] w fun e w' => e = .returned (.bool true) ∧ Below w.heap.size w w' := by
  have O0 := Lib.hid (OwnC.empty w w.heap.size (Nat.le_refl _))
  have B0 : Hid (Below w.heap.size w (w.alloc (.cells #[] 26))) := Lib.hid ((Below.refl _ _).alloc (Nat.le_refl _) _)
  have HRH := Lib.hid HR
  clear HR
  go_enter Try.func8, Try.ntmps8
  go_wp2
  go_loopg [1, 2] 4 (fun g v i wr => ∃ k : Nat, g + k = 4 ∧ k ≤ 3 ∧ i = .int .i64 k ∧ OwnC wr w.heap.size v (lCs.take k) ∧ Below w.heap.size w wr)
  case atStart => exact ⟨0, by omega, by omega, rfl, O0.out, B0.out⟩
  case round =>
    obtain ⟨k, hg, hk, rfl, hown, hbr⟩ := hrel
    have HG := Lib.hid hg
    have HO := Lib.hid hown
    have HBR := Lib.hid hbr
    clear hg hown hbr
    by_cases hlt : k < 3
    · have A1 := Lib.hid (HO.out.up (w' := wr.alloc (cbox (lC k))) ((Below.refl _ _).alloc (Nat.le_refl _) _))
      have A2 := Lib.hid (HBR.out.alloc (o := cbox (lC k)) (by have := HBR.out.size; omega))
      have A3 := Lib.hid (OwnC.one wr 0 (Nat.zero_le _) (lC k)).row
      have hk3 : k = 0 ∨ k = 1 ∨ k = 2 := by omega
      rcases hk3 with rfl | rfl | rfl
      all_goals
        go_wp2_with (at_builtin; refine wpList_append_cells rfl _ _ rfl w.heap.size u1 _ _ [lC _] rfl A1.out rfl A3.out (by simp) (by simp [lCs]) w A2.out (Nat.le_refl _) ?_; intro g cap3 w5 hown5 hb5 hgr5 hpl5)
        have HO5 := Lib.hid hown5
        have HB5 := Lib.hid hb5
        clear hown5 hb5 hgr5 hpl5
        go_wp2
        go_roundg (gk - 1)
        case measure => have := HG.out; omega
        case rel => first | exact ⟨1, by have := HG.out; omega, by omega, rfl, HO5.out, HB5.out⟩ | exact ⟨2, by have := HG.out; omega, by omega, rfl, HO5.out, HB5.out⟩ | exact ⟨3, by have := HG.out; omega, by omega, rfl, HO5.out, HB5.out⟩
    · obtain rfl : k = 3 := by omega
      obtain ⟨a1, cap1, rfl⟩ := HO.out.row.shape
      have HI := Lib.hid (aw_is (a := a1) (cap := cap1) HO.out)
      have HC := Lib.hid (HRH.out awT _ 1 wr (by rw [aw_sz]; omega) HI.out (fitsN _ (by omega)))
      rw [aw_e] at HC
      go_wp2_with fail
      refine HC.out.mono ?_
      rintro e w6 ⟨d, rfl, hd, hb6⟩
      have al6 : Below w6.heap.size w6 (w6.alloc (cbox d)) := (Below.refl _ _).alloc (Nat.le_refl _) _
      have B6 := Lib.hid (HBR.out.trans ((hb6.trans (al6.mono hb6.size)).mono HBR.out.size))
      have hd' : Is w6 d (rdT awT 1) := hd w6 fun _ _ => rfl
      have X6 := Lib.hid (Box7.new w6 d)
      have HJ := Lib.hid (rids_any (rdT awT 1) d (w6.alloc (cbox d)) (by rw [rd_sz, aw_sz]; omega) (hd'.up al6))
      rw [aw_done] at HJ
      clear hd hb6 al6 hd' HC HI
      obtain ⟨c0, c1, c2, c3, c4, c5, c6⟩ := c7_of X6.out.cat
      go_wp2_with fail
      refine HJ.out.mono ?_
      rintro e w7 ⟨v7, rfl, ho7, hb7⟩
      have R7 := Lib.hid ho7.row
      have B7 := Lib.hid (B6.out.trans (hb7.mono B6.out.size))
      clear ho7 hb7 HJ
      go_wp2_with fail
      refine (callI v7 3 1 2 w7 R7.out).mono ?_
      rintro e w8 ⟨rfl, hb8⟩
      have B8 := Lib.hid (B7.out.trans (hb8.mono B7.out.size))
      clear hb8
      go_wp2
      go_ret
      exact ⟨rfl, B8.out⟩
end Go.Proofs.Ytakofjbjciljjaa
/- The law SwapTwos. -/
namespace Go.Proofs.Ytakofjbjciljjaa
open Go.RowKit

/-- What the program's Two answers. -/
def TwoK : Prop := ∀ (t : T) (c : C) (a b : Int) (w : World), sz t ≤ 20000 → Is w c t → fits a → fits b → Calls Try.prog 9 #[cval c, .int .i64 a, .int .i64 b] w (SwSays (twE t a b) (twT t a b) .i64 w)

structure QSt (w : World) (c : C) (W : World) : Prop where
  below : Below w.heap.size w W
  cat : CAt W w.heap.size 0 c
theorem QSt.up {w : World} {c : C} {W W' : World} (h : QSt w c W) (hb : Below W.heap.size W W') : QSt w c W' := ⟨h.below.trans (hb.mono h.below.size), h.cat.up hb⟩
theorem QSt.c7 {w : World} {c : C} {W : World} (h : QSt w c W) : C7 w.heap.size c W := c7_of h.cat
theorem QSt.new (w : World) (c : C) : QSt w c (w.alloc (cbox c)) := ⟨(Below.refl _ _).alloc (Nat.le_refl _) _, cbox_new w c⟩

/-- What is answered, in one form. -/
def swT (n : Int) (u : T) : T := if n = 0 then u else zT
theorem sw_all {n : Int} {u : T} {w : World} {e : Ending} {w' : World} (h : SwSays n u .i64 w e w') : ∃ d, e = .returned (.tuple #[cval d, .int .i64 n]) ∧ Is w' d (swT n u) ∧ Below w.heap.size w w' := by
  obtain ⟨d, he, hi, hb⟩ := h
  exact ⟨d, he, hi w' fun _ _ => rfl, hb⟩
theorem swT_sz {n : Int} {u : T} {k : Nat} (h : sz u ≤ k) (hk : 1 ≤ k) : sz (swT n u) ≤ k := by
  unfold swT
  split
  · exact h
  · have : sz zT = 1 := by simp [sz, szL, zT]
    omega

set_option maxHeartbeats 2000000 in
set_option maxRecDepth 100000 in
theorem swapTwos_any (HT : TwoK) (HR : RoundK) (t : T) (c : C) (a b : Int) (w : World) (hi : Is w c t) (hfa : fits a) (hfb : fits b) (hs : sz t ≤ 1099511627776) : Calls Try.prog 3 #[cval c, .int .i64 a, .int .i64 b] w fun e w' => e = .returned (.bool true) ∧ Below w.heap.size w w' := by
  have S0 := Lib.hid (QSt.new w c)
  have HG := Lib.hid (great_any t c (w.alloc (cbox c)) (hi.up S0.out.below))
  have HI := Lib.hid hi
  have HAW := Lib.hid (awake15_any HR)
  clear hi HR
  obtain ⟨c0, c1, c2, c3, c4, c5, c6⟩ := S0.out.c7
  go_enter Try.func3, Try.ntmps3
  go_wp2_with fail
  refine HG.out.mono ?_
  rintro e w1 ⟨g, rfl, hg, hb1⟩
  have S1 := Lib.hid (S0.out.up hb1)
  have HGR := Lib.hid hg
  clear hb1 hg c0 c1 c2 c3 c4 c5 c6
  cases g with
  | true =>
    go_wp2_with fail
    refine (HAW.out w1).mono ?_
    rintro e w2 ⟨rfl, hb2⟩
    have S2 := Lib.hid (S1.out.up hb2)
    clear hb2
    go_wp2
    go_ret
    exact ⟨rfl, S2.out.below⟩
  | false =>
    have hsz : sz t ≤ 200 := HGR.out rfl hs
    have K1 : Hid (∀ W, QSt w c W → Calls Try.prog 9 #[cval c, .int .i64 a, .int .i64 b] W fun e w' => ∃ d, e = .returned (.tuple #[cval d, .int .i64 (twE t a b)]) ∧ Is w' d (swT (twE t a b) (twT t a b)) ∧ Below W.heap.size W w') := Lib.hid fun W h => (HT t c a b W (by omega) (HI.out.up h.below) hfa hfb).mono fun e w' h => sw_all h
    have K2 : Hid (∀ W, QSt w c W → Calls Try.prog 10 #[cval c, .int .i64 a, .int .i64 b] W fun e w' => ∃ d, e = .returned (.tuple #[cval d, .int .i64 (twE t a b)]) ∧ Is w' d (swT (twE t a b) (twT t a b)) ∧ Below W.heap.size W w') := Lib.hid fun W h => (rtwo_any t c a b W (by omega) (HI.out.up h.below) hfa hfb).mono fun e w' h => sw_all h
    have K3 : Hid (∃ (n2 : Int) (u2 : T), (twE t a b = 0 → n2 = 0 ∧ u2 = t) ∧ ∀ W d, Is W d (swT (twE t a b) (twT t a b)) → Calls Try.prog 9 #[cval d, .int .i64 a, .int .i64 b] W fun e w' => ∃ f, e = .returned (.tuple #[cval f, .int .i64 n2]) ∧ Is w' f u2 ∧ Below W.heap.size W w') := Lib.hid (by
      refine ⟨twE (swT (twE t a b) (twT t a b)) a b, swT (twE (swT (twE t a b) (twT t a b)) a b) (twT (swT (twE t a b) (twT t a b)) a b), fun h0 => ?_, fun W d hd => (HT _ d a b W (by have := swT_sz (n := twE t a b) (u := twT t a b) (k := 200) (by rw [tw_sz]; exact hsz) (by omega); omega) hd hfa hfb).mono fun e w' h => sw_all h⟩
      have h1 : swT (twE t a b) (twT t a b) = twT t a b := if_pos h0
      obtain ⟨h2, h3⟩ := tw_twice (by omega) h0
      rw [h1, h2]
      exact ⟨rfl, h3⟩)
    have hzero : Hid (twE t a b = 0 ∨ twE t a b ≠ 0) := Lib.hid (Classical.em _)
    clear hsz hs HGR hfa hfb HT
    generalize swT (twE t a b) (twT t a b) = u at K1 K2 K3
    generalize twE t a b = n at K1 K2 K3 hzero
    obtain ⟨n2, u2, h2, K3'⟩ := K3.out
    have K4 := Lib.hid K3'
    clear K3' K3
    have K5 := Lib.hid (fun (d f : C) (u : T) W (h : Is W d u) (h' : Is W f u) => rsame_any (sz u) u u d f W (Nat.le_refl _) h h')
    have b1 : (n == n) = true := by simp
    obtain ⟨c0, c1, c2, c3, c4, c5, c6⟩ := S1.out.c7
    go_wp2_with fail
    refine (K1.out w1 S1.out).mono ?_
    rintro e w2 ⟨d, rfl, hd, hb2⟩
    have al2 : Below w2.heap.size w2 (w2.alloc (cbox d)) := (Below.refl _ _).alloc (Nat.le_refl _) _
    have S2 := Lib.hid ((S1.out.up hb2).up al2)
    have D2 := Lib.hid (hd.up al2)
    have X2 := Lib.hid (Box7.new w2 d)
    clear hb2 hd al2 c0 c1 c2 c3 c4 c5 c6
    obtain ⟨c0, c1, c2, c3, c4, c5, c6⟩ := S2.out.c7
    go_wp2_with fail
    refine (K2.out _ S2.out).mono ?_
    rintro e w3 ⟨f, rfl, hf, hb3⟩
    have al3 : Below w3.heap.size w3 (w3.alloc (cbox f)) := (Below.refl _ _).alloc (Nat.le_refl _) _
    have S3 := Lib.hid ((S2.out.up hb3).up al3)
    have D3 := Lib.hid ((D2.out.up hb3).up al3)
    have F3 := Lib.hid (hf.up al3)
    have X3 := Lib.hid ((X2.out.up hb3).up al3)
    have Y3 := Lib.hid (Box7.new w3 f)
    clear hb3 hf al3 c0 c1 c2 c3 c4 c5 c6
    obtain ⟨c0, c1, c2, c3, c4, c5, c6⟩ := c7_of X3.out.cat
    obtain ⟨q0, q1, q2, q3, q4, q5, q6⟩ := c7_of Y3.out.cat
    have K6 := Lib.hid (K5.out d f u _ D3.out F3.out)
    rw [(sameT_iff u u).2 rfl] at K6
    go_wp2_with fail
    refine K6.out.mono ?_
    rintro e w6 ⟨rfl, hb6⟩
    have S6 := Lib.hid (S3.out.up hb6)
    have D6 := Lib.hid (D3.out.up hb6)
    have X6 := Lib.hid (X3.out.up hb6)
    clear hb6 c0 c1 c2 c3 c4 c5 c6 q0 q1 q2 q3 q4 q5 q6 K6
    obtain ⟨c0, c1, c2, c3, c4, c5, c6⟩ := c7_of X6.out.cat
    go_wp2_with fail
    refine (K4.out w6 d D6.out).mono ?_
    rintro e w7 ⟨k, rfl, hk, hb7⟩
    have al7 : Below w7.heap.size w7 (w7.alloc (cbox k)) := (Below.refl _ _).alloc (Nat.le_refl _) _
    have S7 := Lib.hid ((S6.out.up hb7).up al7)
    have D7 := Lib.hid (hk.up al7)
    have X7 := Lib.hid (Box7.new w7 k)
    clear hb7 hk al7 c0 c1 c2 c3 c4 c5 c6
    rcases hzero.out with h0 | h0
    · obtain ⟨rfl, rfl⟩ := h2 h0
      subst h0
      have I7 := Lib.hid (HI.out.up S7.out.below)
      have K8 := Lib.hid (K5.out k c u2 _ D7.out I7.out)
      rw [(sameT_iff u2 u2).2 rfl] at K8
      obtain ⟨c0, c1, c2, c3, c4, c5, c6⟩ := c7_of X7.out.cat
      obtain ⟨q0, q1, q2, q3, q4, q5, q6⟩ := S7.out.c7
      go_wp2_with fail
      refine K8.out.mono ?_
      rintro e w8 ⟨rfl, hb8⟩
      have S8 := Lib.hid (S7.out.up hb8)
      clear hb8 K8 c0 c1 c2 c3 c4 c5 c6 q0 q1 q2 q3 q4 q5 q6
      go_wp2_with fail
      refine (HAW.out w8).mono ?_
      rintro e w9 ⟨rfl, hb9⟩
      have S9 := Lib.hid (S8.out.up hb9)
      clear hb9
      go_wp2
      go_ret
      exact ⟨rfl, S9.out.below⟩
    · have d1 : (n != 0) = true := by simpa using h0
      have d2 : (n == 0) = false := by simpa using h0
      clear h2
      go_wp2_with fail
      refine (HAW.out _).mono ?_
      rintro e w9 ⟨rfl, hb9⟩
      have S9 := Lib.hid (S7.out.up hb9)
      clear hb9
      go_wp2
      go_ret
      exact ⟨rfl, S9.out.below⟩
theorem swapTwos_wf (HT : TwoK) (HR : RoundK) (v0 : Value) (t : T) (c : C) (a b : Int) (w : World) (e0 : v0 = cval c) (hi : Is w c t) (hfa : fits a) (hfb : fits b) (hs : sz t ≤ 1048576) :
    Calls Try.prog 3 #[v0, .int .i64 a, .int .i64 b] w fun e w' => e = .returned (.bool true) ∧ Below w.heap.size w w' := by
  subst e0
  exact swapTwos_any HT HR t c a b w hi hfa hfb (by omega)
end Go.Proofs.Ytakofjbjciljjaa
