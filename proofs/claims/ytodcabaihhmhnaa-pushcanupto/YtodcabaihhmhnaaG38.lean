/- Texts of this seat, 3 in one file. -/
import Derived.Test.YtodcabaihhmhnaaG37
import Derived.Test.YtodcabaihhmhnaaG34
import Derived.Test.YtodcabaihhmhnaaG22
import Derived.Test.YtodcabaihhmhnaaG05
import Derived.Test.YtodcabaihhmhnaaG18
import Derived.Deep.RegionLaw
/- All that can be given is given, if it is asked for. No walk. -/
namespace Go.Proofs.Ytodcabaihhmhnaa
open Go.RowKit Sh

theorem bw_none {ax : Int} {ks : List T} : ∀ {n : Nat}, n ≤ ks.length → bwN ax ks n < 0 → ∀ (j : Nat) (u : T), j < n → ks[j]? = some u → ¬ 0 < gvT ax u
  | 0, _, _ => fun j u hj => by omega
  | n + 1, hn, h => fun j u hj hu hg => by
    obtain ⟨v, hv⟩ : ∃ v, ks[n]? = some v := ⟨_, List.getElem?_eq_getElem (by omega)⟩
    by_cases hgv : 0 < gvT ax v
    · rw [bw_yes hv hgv] at h; omega
    · rw [bw_no hv hgv] at h
      rcases Nat.lt_or_ge j n with hjn | hjn
      · exact bw_none (by omega) h j u hjn hu hg
      · obtain rfl : j = n := by omega
        rw [hv] at hu; cases hu; exact hgv hg
theorem fw_none {ax : Int} {ks : List T} (n : Nat) : ∀ {k : Nat}, ks.length ≤ k + n → fwN ax (ks.drop k) k < 0 → ∀ (j : Nat) (u : T), k ≤ j → ks[j]? = some u → ¬ 0 < gvT ax u := by
  induction n with
  | zero => intro k hk h j u hj hu; have := (List.getElem?_eq_some_iff.1 hu).1; omega
  | succ n ih =>
    intro k hk h j u hj hu hg
    have hjl := (List.getElem?_eq_some_iff.1 hu).1
    obtain ⟨v, hv⟩ : ∃ v, ks[k]? = some v := ⟨_, List.getElem?_eq_getElem (by omega)⟩
    by_cases hgv : 0 < gvT ax v
    · rw [fw_yes hv hgv] at h; omega
    · rw [fw_no hv hgv] at h
      rcases Nat.lt_or_ge k j with hkj | hkj
      · exact ih (k := k + 1) (by omega) h j u (by omega) hu hg
      · obtain rfl : j = k := by omega
        rw [hv] at hu; cases hu; exact hgv hg
/-- Who is asked. -/
def askB (p : Nat) (up : Bool) (j : Int) : Bool := if up = true then askU p j else askD p j
theorem giver_asked {ax : Int} {ks : List T} {p : Nat} {up : Bool} (hp : p < ks.length) (h : 0 ≤ gvrN ax ks p up) : ∃ (j : Nat) (u : T), gvrN ax ks p up = j ∧ ks[j]? = some u ∧ 0 < gvT ax u ∧ j ≠ getN p up ∧ askB p up j = true := by
  obtain ⟨j, u, h1, h2, h3, h4⟩ := giver_is hp h
  refine ⟨j, u, h1, h2, h3, h4, ?_⟩
  cases up with
  | true =>
    have h4 : j ≠ p := h4
    show askU p j = true
    unfold askU
    have : ((j : Int) == (p : Int)) = false := by rw [beq_eq_false_iff_ne]; omega
    rw [this]; rfl
  | false =>
    show askD p j = true
    have e : gvrN ax ks p false = bwN ax ks (p + 1) := rfl
    rw [e] at h h1
    obtain ⟨i, v, g1, g2, g3, g4⟩ := bw_is (by omega) h
    unfold askD
    exact decide_eq_true (by omega)
theorem giver_none {ax : Int} {ks : List T} {p : Nat} {up : Bool} (hp : p < ks.length) (h : gvrN ax ks p up < 0) : ∀ (j : Nat) (u : T), ks[j]? = some u → askB p up j = true → ¬ 0 < gvT ax u := by
  intro j u hu ha
  have hjl := (List.getElem?_eq_some_iff.1 hu).1
  cases up with
  | true =>
    have ha : askU p j = true := ha
    unfold askU at ha
    have hne : (j : Int) ≠ (p : Int) := fun e => by rw [e] at ha; simp at ha
    have e : gvrN ax ks p true = if 0 ≤ fwN ax (ks.drop (p + 1)) (p + 1) then fwN ax (ks.drop (p + 1)) (p + 1) else bwN ax ks p := rfl
    rw [e] at h
    by_cases h0 : 0 ≤ fwN ax (ks.drop (p + 1)) (p + 1)
    · rw [if_pos h0] at h; omega
    · rw [if_neg h0] at h
      rcases Nat.lt_or_ge j p with hj | hj
      · exact bw_none (by omega) h j u hj hu
      · exact fw_none ks.length (by omega) (Int.not_le.1 h0) j u (by omega) hu
  | false =>
    have ha : askD p j = true := ha
    unfold askD at ha
    have hle : (j : Int) ≤ (p : Int) := of_decide_eq_true ha
    have e : gvrN ax ks p false = bwN ax ks (p + 1) := rfl
    rw [e] at h
    exact bw_none (by omega) h j u (by omega) hu
theorem ask_get {p : Nat} {up : Bool} : askB p up (getN p up : Nat) = false := by
  cases up with
  | true =>
    show askU p p = false
    unfold askU; simp
  | false =>
    show askD p ((p + 1 : Nat) : Int) = false
    unfold askD
    exact decide_eq_false (by omega)
theorem sm_zero {ax : Int} {s : Int → Bool} {ks : List T} (h : ∀ (j : Nat) (u : T), ks[j]? = some u → s j = true → gvT ax u = 0) : ∀ n, n ≤ ks.length → smN ax s ks n = 0
  | 0, _ => rfl
  | n + 1, hn => by
    obtain ⟨u, hu⟩ : ∃ u, ks[n]? = some u := ⟨_, List.getElem?_eq_getElem (by omega)⟩
    have h1 := sm_zero h n (by omega)
    cases hs : s (n : Int) with
    | true => rw [sm_yes hu hs, h1, h n u hu hs]; rfl
    | false => rw [sm_no hs, h1]
/-- One of them turned. -/
theorem sm_set {ax : Int} {s : Int → Bool} {ks : List T} {i : Nat} {u v : T} (hu : ks[i]? = some u) : ∀ n, n ≤ ks.length → smN ax s (ks.set i v) n = smN ax s ks n + (if i < n ∧ s i = true then gvT ax v - gvT ax u else 0)
  | 0, _ => by rw [smN, smN, if_neg (by omega)]; rfl
  | n + 1, hn => by
    have h1 := sm_set (ax := ax) (s := s) (v := v) hu n (by omega)
    by_cases hin : i = n
    · subst hin
      have hv : (ks.set i v)[i]? = some v := List.getElem?_set_self (by omega)
      rw [if_neg (by omega)] at h1
      cases hs : s (i : Int) with
      | true => rw [sm_yes hv hs, sm_yes hu hs, h1, if_pos ⟨by omega, rfl⟩]; omega
      | false => rw [sm_no hs, sm_no hs, h1, if_neg (by simp)]
    · obtain ⟨x, hx⟩ : ∃ x, ks[n]? = some x := ⟨_, List.getElem?_eq_getElem (by omega)⟩
      have hx' : (ks.set i v)[n]? = some x := by rw [List.getElem?_set_ne hin]; exact hx
      have hiff : (i < n + 1 ∧ s i = true) ↔ (i < n ∧ s i = true) := ⟨fun h => ⟨by have := h.1; omega, h.2⟩, fun h => ⟨by have := h.1; omega, h.2⟩⟩
      cases hs : s (n : Int) with
      | true => rw [sm_yes hx' hs, sm_yes hx hs, h1]; simp only [hiff]; omega
      | false => rw [sm_no hs, sm_no hs, h1]; simp only [hiff]
theorem ps_total {ax a whole : Int} (hax : ax = 1 ∨ ax = 2) {N L p : Nat} {up : Bool} (hw : whole ≤ 10000) (ha : 30000 ≤ a) (hpL : p + 1 < L) (f : Nat) : ∀ (X v : T) (d : Int), PuInv ax whole N L X → X.kids[getN p up]? = some v → d < szA v.r ax → 10001 - szA v.r ax ≤ (f : Int) →
    (psT ax p up a f X d).2 = d + smN ax (askB p up) X.kids X.kids.length := by
  induction f with
  | zero =>
    intro X v d h hv hd hf
    have := pu_size hax h hv
    omega
  | succ f ih =>
    intro X v d h hv hd hf
    have hz := pu_size hax h hv
    have hp : p < X.kids.length := by rw [h.len]; omega
    have hgb := fun (j : Nat) (u : T) (hu : X.kids[j]? = some u) => gv_bounds hax (by have := (h.kids j u hu).2; omega) (h.kids j u hu).1
    by_cases hg : gvrN ax X.kids p up < 0
    · rw [ps_stop (.inr hg), sm_zero (fun j u hu hs => by have h1 := giver_none hp hg j u hu hs; have h2 := hgb j u hu; omega) _ (Nat.le_refl _)]
      simp
    · obtain ⟨i, u, h1, h2, h3, h4, h5⟩ := giver_asked hp (Int.not_lt.1 hg)
      have hub := hgb i u h2
      have hn : nxN ax a d u = gvT ax u := by unfold nxN; exact if_neg (by omega)
      rw [ps_step (by omega) h1 h2, hn]
      obtain ⟨m1, m2, -, v', hv', hsz⟩ := mv_inv hax h hw h2 hv h4 (by omega : 0 ≤ gvT ax u) (Int.le_refl _)
      rw [ih _ v' _ m2 hv' (by omega) (by omega), m2.len]
      have hL : L = X.kids.length := h.len.symm
      -- the sums
      have e1 := (with_inv (b := -gvT ax u) hax h h2 (by unfold canB; omega) (by have := pu_size hax h h2; omega)).2.1
      have hv1 : (withT ax (-gvT ax u) i X).kids[getN p up]? = some v := by rw [e1, List.getElem?_set_ne h4]; exact hv
      have hz1 := pu_size hax m1 hv1
      have hgv := hgb _ v hv
      have e2 := (with_inv (b := gvT ax u) hax m1 hv1 (by unfold canB; omega) (by omega)).2.1
      have e3 : (mvT ax (gvT ax u) i (getN p up) X).kids = (X.kids.set i (setT 0 0 (adjT ax (-gvT ax u) u))).set (getN p up) (setT 0 0 (adjT ax (gvT ax u) v)) := by rw [← e1]; exact e2
      have hil := (List.getElem?_eq_some_iff.1 h2).1
      rw [e3, sm_set (u := v) (by rw [← e1]; exact hv1) _ (by rw [List.length_set]; omega), if_neg (by rw [ask_get]; simp), sm_set h2 _ (by omega), if_pos ⟨by omega, h5⟩, gv_set, gv_adj hax, hL]
      omega
theorem fr_lt {ax : Int} {t : T} {p : List Int} : ∀ {m n : Nat}, frN ax t p m = some n → n < m
  | 0, n, h => by rw [frN] at h; cases h
  | m + 1, n, h => by
    rw [frN] at h
    cases ha : atT t (p.take m) with
    | none => rw [ha] at h; have := fr_lt h; omega
    | some y =>
      rw [ha] at h
      simp only at h
      by_cases hy : alB y.k ax = true
      · rw [if_pos hy] at h; cases h; omega
      · rw [if_neg hy] at h; have := fr_lt h; omega
/-- The frame that was found. -/
theorem frame_is {id ax : Int} {t : T} (hm : sz t ≤ 990) (h : fdE id ax t = 0) : (ax = 1 ∨ ax = 2) ∧ tileB t = true ∧ ∃ (p : List Int) (n : Nat) (y : T) (k : Int) (P : Nat), findT id t = some p ∧ frN ax t p p.length = some n ∧ atT t (p.take n) = some y ∧ p[n]? = some k ∧ n < p.length ∧ frX id ax t = (y, (P : Int)) ∧ plcN y k = P ∧ P + 1 < y.kids.length ∧ frP id ax t = p.take n ∧ alB y.k ax = true ∧ tileB y = true ∧ sz y ≤ 990 := by
  have htl := fd_tile h
  have hax := (axB_iff ax).1 htl.2
  refine ⟨hax, htl.1, ?_⟩
  unfold fdE at h
  rw [if_pos htl] at h
  cases hf : findT id t with
  | none => rw [hf] at h; cases h
  | some p =>
    rw [hf] at h
    simp only at h
    cases hr : frN ax t p p.length with
    | none => rw [hr] at h; cases h
    | some n =>
      obtain ⟨u', hu', -⟩ := find_there hf
      obtain ⟨y, hy⟩ := at_take hu' n
      have hn := fr_lt hr
      obtain ⟨k, hk⟩ : ∃ k, p[n]? = some k := ⟨_, List.getElem?_eq_getElem hn⟩
      have hal := fr_al hr hy
      have hty := tile_at (by omega) htl.1 hy
      obtain ⟨-, -, hl2⟩ := pu_start hax (by have := hty.2; omega) hty.1 hal
      obtain ⟨P, hP, hPl⟩ := plc_in hf hy hk hl2
      exact ⟨p, n, y, k, P, rfl, hr, hy, hk, hn, by rw [frx_is hf hr hy hk, hP], hP, hPl, frp_is hf hr, hal, hty.1, by have := hty.2; omega⟩
/-- It is pushed as far as it can. -/
theorem push_total {id ax b : Int} {t : T} (hm : sz t ≤ 990) (h0 : fdE id ax t = 0) (hb : 30000 ≤ b ∨ b ≤ -30000) : puD id ax b t = if 0 < b then canU id ax t else canD id ax t := by
  obtain ⟨hax, -, p, n, y, k, P, -, -, -, -, -, hX, -, hPl, -, hal, hty, hsy⟩ := frame_is hm h0
  obtain ⟨hinv, hS, -⟩ := pu_start hax hsy hty hal
  have hc := can_is h0 hX
  have key : ∀ up : Bool, (psT ax P up (absN b) 20001 y 0).2 = 0 + smN ax (askB P up) y.kids y.kids.length := fun up => by
    obtain ⟨v, hv⟩ : ∃ v, y.kids[getN P up]? = some v := ⟨_, List.getElem?_eq_getElem (by unfold getN; split <;> omega)⟩
    have hz := pu_size hax hinv hv
    exact ps_total hax hS (by unfold absN; split <;> omega) hPl 20001 y v 0 hinv hv (by omega) (by omega)
  unfold puD puR
  rw [hX]
  show (psT ax P (decide (0 < b)) (absN b) 20001 y 0).2 = _
  rw [key, Int.zero_add]
  by_cases h : 0 < b
  · rw [if_pos h, hc.1, decide_eq_true h]; rfl
  · rw [if_neg h, hc.2, decide_eq_false h]; rfl
/-- Where there is no frame, nothing. -/
theorem push_none {id ax b : Int} {t : T} (h0 : fdE id ax t ≠ 0) : puE id ax b t = fdE id ax t ∧ canU id ax t = 0 ∧ canD id ax t = 0 := ⟨if_neg h0, can_err h0⟩
end Go.Proofs.Ytodcabaihhmhnaa
/- Who gives, one behind the other: the program's way comes to what the document answers. No walk. -/
namespace Go.Proofs.Ytodcabaihhmhnaa
open Go.RowKit Sh

/-- Down from n. -/
def dnL : Nat → List Nat
  | 0 => []
  | n + 1 => n :: dnL n
/-- The order in which they give. -/
def ordL (p L : Nat) (up : Bool) : List Nat := if up = true then List.range' (p + 1) (L - (p + 1)) ++ dnL p else dnL (p + 1)
theorem mem_dn {j : Nat} : ∀ {n : Nat}, j ∈ dnL n → j < n
  | 0, h => by cases h
  | n + 1, h => by
    rcases List.mem_cons.1 h with rfl | h
    · omega
    · have := mem_dn h; omega
theorem dn_len : ∀ n, (dnL n).length = n
  | 0 => rfl
  | n + 1 => by rw [dnL, List.length_cons, dn_len n]
theorem dn_get : ∀ {n i : Nat}, i < n → (dnL n)[i]? = some (n - 1 - i)
  | 0, _, h => by omega
  | n + 1, 0, _ => by rw [dnL]; rfl
  | n + 1, i + 1, h => by rw [dnL, List.getElem?_cons_succ, dn_get (by omega)]; congr 1; omega
theorem ord_lt {p L : Nat} {up : Bool} (hp : p + 1 < L) {j : Nat} (h : j ∈ ordL p L up) : j < L ∧ j ≠ getN p up := by
  unfold ordL at h
  cases up with
  | true =>
    rw [if_pos rfl] at h
    show j < L ∧ j ≠ p
    rcases List.mem_append.1 h with h | h
    · rw [List.mem_range'_1] at h; omega
    · have := mem_dn h; omega
  | false =>
    rw [if_neg (by decide)] at h
    show j < L ∧ j ≠ p + 1
    have := mem_dn h; omega
theorem ord_len {p L : Nat} {up : Bool} (hp : p + 1 < L) : (ordL p L up).length ≤ L := by
  unfold ordL
  cases up with
  | true => rw [if_pos rfl, List.length_append, List.length_range', dn_len]; omega
  | false => rw [if_neg (by decide), dn_len]; omega

/-- The first one that can. -/
def firstG (ax : Int) (ks : List T) : List Nat → Int
  | [] => -1
  | k :: l => if 0 < gvT ax (ks.getD k default) then k else firstG ax ks l
theorem firstG_append {ax : Int} {ks : List T} {b : List Nat} : ∀ a : List Nat, firstG ax ks (a ++ b) = if 0 ≤ firstG ax ks a then firstG ax ks a else firstG ax ks b
  | [] => by rw [List.nil_append, firstG, if_neg (by decide)]
  | k :: a => by
    rw [List.cons_append, firstG, firstG]
    by_cases h : 0 < gvT ax (ks.getD k default)
    · rw [if_pos h, if_pos h, if_pos (by omega)]
    · rw [if_neg h, if_neg h, firstG_append a]
theorem firstG_none {ax : Int} {ks : List T} : ∀ {a : List Nat}, (∀ j ∈ a, ¬ 0 < gvT ax (ks.getD j default)) → firstG ax ks a = -1
  | [], _ => rfl
  | k :: a, h => by rw [firstG, if_neg (h k (List.mem_cons_self ..)), firstG_none fun j hj => h j (List.mem_cons_of_mem _ hj)]
theorem getD_at {ks : List T} {k : Nat} {u : T} (h : ks[k]? = some u) : ks.getD k default = u := by rw [List.getD_eq_getElem?_getD, h]; rfl
theorem bw_first {ax : Int} {ks : List T} : ∀ {n : Nat}, n ≤ ks.length → bwN ax ks n = firstG ax ks (dnL n)
  | 0, _ => rfl
  | n + 1, hn => by
    obtain ⟨u, hu⟩ : ∃ u, ks[n]? = some u := ⟨_, List.getElem?_eq_getElem (by omega)⟩
    rw [dnL, firstG, getD_at hu]
    by_cases hg : 0 < gvT ax u
    · rw [if_pos hg, bw_yes hu hg]
    · rw [if_neg hg, bw_no hu hg, bw_first (by omega)]
theorem fw_first {ax : Int} {ks : List T} : ∀ {n k : Nat}, k + n = ks.length → fwN ax (ks.drop k) k = firstG ax ks (List.range' k n)
  | 0, k, h => by rw [fw_end (by omega)]; rfl
  | n + 1, k, h => by
    obtain ⟨u, hu⟩ : ∃ u, ks[k]? = some u := ⟨_, List.getElem?_eq_getElem (by omega)⟩
    rw [List.range'_succ, firstG, getD_at hu]
    by_cases hg : 0 < gvT ax u
    · rw [if_pos hg, fw_yes hu hg]
    · rw [if_neg hg, fw_no hu hg, fw_first (n := n) (by omega)]
theorem gvr_first {ax : Int} {ks : List T} {p : Nat} {up : Bool} (hp : p + 1 < ks.length) : gvrN ax ks p up = firstG ax ks (ordL p ks.length up) := by
  unfold ordL
  cases up with
  | true =>
    rw [if_pos rfl, firstG_append, ← fw_first (n := ks.length - (p + 1)) (by omega), ← bw_first (by omega)]; rfl
  | false => rw [if_neg (by decide), ← bw_first (by omega)]; rfl

/-- A kid adjusted where the frame begins; all of them then. -/
noncomputable def rsT (x y ax b : Int) (u : T) : T := setT x y (adjT ax b u)
noncomputable def rsL (x y ax b : Int) (k : Nat) (l : List T) : List T := l.set k (rsT x y ax b (l.getD k default))
theorem rsL_len (x y ax b : Int) (k : Nat) (l : List T) : (rsL x y ax b k l).length = l.length := List.length_set ..
/-- How much one gives. -/
noncomputable def gmN (ax m : Int) (k : Nat) (l : List T) : Int := min (gvT ax (l.getD k default)) m
/-- One behind the other gives. -/
noncomputable def gvP (x y ax : Int) (q : Nat) : List Nat → List T → Int → List T × Int
  | [], l, m => (l, m)
  | k :: ks, l, m => if 0 < gmN ax m k l then gvP x y ax q ks (rsL x y ax (gmN ax m k l) q (rsL x y ax (-gmN ax m k l) k l)) (m - gmN ax m k l) else gvP x y ax q ks l m

/-- There is room for the whole frame. -/
def Rm (x y ax W0 cr : Int) : Prop := 0 ≤ x ∧ 0 ≤ y ∧ (ax = 1 → x + W0 ≤ 10000 ∧ y + cr ≤ 10000) ∧ (ax = 2 → x + cr ≤ 10000 ∧ y + W0 ≤ 10000)
structure PpInv (ax whole cr : Int) (N L : Nat) (l : List T) : Prop where
  kids : ∀ (j : Nat) (u : T), l[j]? = some u → tileB u = true ∧ sz u ≤ 990 ∧ szA u.r (3 - ax) = cr
  sum : (l.map fun u => szA u.r ax).sum + l.length = whole + 1
  sz : szL l = N
  len : l.length = L
theorem pp_size {ax whole cr : Int} (hax : ax = 1 ∨ ax = 2) {N L j : Nat} {l : List T} {v : T} (h : PpInv ax whole cr N L l) (hv : l[j]? = some v) : 1 ≤ szA v.r ax ∧ szA v.r ax ≤ whole := by
  have h1 := fun (j : Nat) (v : T) (hv : l[j]? = some v) => szA_pos (well_rect (tile_top (by have := (h.kids j v hv).2.1; omega) (h.kids j v hv).1).1) hax
  have h2 := mem_le_isum (l := l.map fun u => szA u.r ax) (fun x hx => by
    obtain ⟨u, hu, rfl⟩ := List.mem_map.1 hx
    obtain ⟨k, hk⟩ := List.getElem?_of_mem hu
    have := h1 k u hk; omega) (List.mem_map.2 ⟨v, List.mem_of_getElem? hv, rfl⟩)
  have h3 := h.sum
  have h4 := (List.getElem?_eq_some_iff.1 hv).1
  exact ⟨(h1 j v hv).1, by omega⟩
/-- One kid, adjusted there. -/
theorem rsT_is {x y ax b cr whole W0 : Int} (hax : ax = 1 ∨ ax = 2) (hrm : Rm x y ax W0 cr) {N L i : Nat} {l : List T} {u : T} (h : PpInv ax whole cr N L l) (hu : l[i]? = some u) (hb : canB ax b u) (hw : whole ≤ W0) (hwb : whole + b ≤ W0) :
    tileB (setT x y u) = true ∧ ajE ax b (setT x y u) = 0 ∧ ajT ax b (setT x y u) = rsT x y ax b u ∧ tileB (rsT x y ax b u) = true ∧ szA (rsT x y ax b u).r ax = szA u.r ax + b ∧ szA (rsT x y ax b u).r (3 - ax) = cr ∧ gvT ax (rsT x y ax b u) = gvT ax u + b ∧ sz (rsT x y ax b u) = sz u := by
  obtain ⟨ht, hs, hc⟩ := h.kids i u hu
  have hz := pp_size hax h hu
  have hg := gv_bounds hax (by omega) ht
  obtain ⟨hx, hy, hr1, hr2⟩ := hrm
  have hb' := hb
  unfold canB at hb'
  have hxy : x + u.r.w ≤ 10000 ∧ y + u.r.h ≤ 10000 ∧ x + (adjR ax b u.r).w ≤ 10000 ∧ y + (adjR ax b u.r).h ≤ 10000 ∧ atA (setT x y u).r ax + szA u.r ax + b ≤ 10000 := by
    rcases hax with rfl | rfl
    · have e1 : szA u.r 1 = u.r.w := rfl
      have e2 : szA u.r (3 - 1) = u.r.h := rfl
      have e3 : (adjR 1 b u.r).w = u.r.w + b := rfl
      have e4 : (adjR 1 b u.r).h = u.r.h := rfl
      have e5 : atA (setT x y u).r 1 = x := by rw [set_r]; rfl
      have := hr1 rfl
      omega
    · have e1 : szA u.r 2 = u.r.h := rfl
      have e2 : szA u.r (3 - 2) = u.r.w := rfl
      have e3 : (adjR 2 b u.r).w = u.r.w := rfl
      have e4 : (adjR 2 b u.r).h = u.r.h + b := rfl
      have e5 : atA (setT x y u).r 2 = y := by rw [set_r]; rfl
      have := hr2 rfl
      omega
  have h1 : tileB (setT x y u) = true := set_tile (by omega) ht hx hxy.1 hy hxy.2.1
  have h2 : szA (setT x y u).r ax = szA u.r ax := set_szA x y ax u
  have h4 : lsT ax (setT x y u) = lsT ax u := ls_set ax x y u
  have h5 : ajE ax b (setT x y u) = 0 := by
    rw [aj_do ⟨h1, (axB_iff ax).2 hax⟩, h2, h4]
    unfold gvT at hg hb'
    exact if_neg (by omega)
  refine ⟨h1, h5, ?_, adj_tile hax (by omega) ht hb hx hxy.2.2.1 hy hxy.2.2.2.1, ?_, ?_, ?_, ?_⟩
  · unfold ajT rsT
    rw [set_r]
    exact adj_set ax b x y x y u
  · unfold rsT; rw [set_szA, adjT_r, szA_adj hax]
  · unfold rsT; rw [set_szA, adjT_r, ← hc]
    rcases hax with rfl | rfl <;> rfl
  · unfold rsT; rw [gv_set, gv_adj hax]
  · unfold rsT; rw [setT_sz, adjT_sz]
theorem rsL_at {x y ax b : Int} {i : Nat} {l : List T} {u : T} (hu : l[i]? = some u) : rsL x y ax b i l = l.set i (rsT x y ax b u) := by unfold rsL; rw [getD_at hu]
theorem rsL_inv {x y ax b cr whole W0 : Int} (hax : ax = 1 ∨ ax = 2) (hrm : Rm x y ax W0 cr) {N L i : Nat} {l : List T} {u : T} (h : PpInv ax whole cr N L l) (hu : l[i]? = some u) (hb : canB ax b u) (hw : whole ≤ W0) (hwb : whole + b ≤ W0) :
    PpInv ax (whole + b) cr N L (rsL x y ax b i l) := by
  obtain ⟨e0, e1, e2, e3, e4, e5, e6, e7⟩ := rsT_is hax hrm h hu hb hw hwb
  have h2 := (h.kids i u hu).2.1
  rw [rsL_at hu]
  refine ⟨fun j v hv => ?_, ?_, ?_, ?_⟩
  · by_cases hij : i = j
    · subst hij
      rw [List.getElem?_set_self (List.getElem?_eq_some_iff.1 hu).1] at hv
      cases hv
      exact ⟨e3, by omega, e5⟩
    · rw [List.getElem?_set_ne hij] at hv
      exact h.kids j v hv
  · rw [List.map_set, List.length_set, isum_set (x := szA u.r ax) (by rw [List.getElem?_map, hu]; rfl), e4]
    have := h.sum; omega
  · rw [szL_set hu e7]; exact h.sz
  · rw [List.length_set]; exact h.len
/-- One gives, another one gets: what both steps ask. -/
theorem mvP_inv {x y ax n cr W0 : Int} (hax : ax = 1 ∨ ax = 2) (hrm : Rm x y ax W0 cr) {N L i q : Nat} {l : List T} {u v : T} (h : PpInv ax W0 cr N L l) (hw : W0 ≤ 10000) (hu : l[i]? = some u) (hv : l[q]? = some v) (hiq : i ≠ q) (h0 : 0 ≤ n) (hn : n ≤ gvT ax u) :
    canB ax (-n) u ∧ PpInv ax (W0 - n) cr N L (rsL x y ax (-n) i l) ∧ (rsL x y ax (-n) i l)[q]? = some v ∧ canB ax n v ∧ PpInv ax W0 cr N L (rsL x y ax n q (rsL x y ax (-n) i l)) := by
  have hg := gv_bounds hax (by have := (h.kids i u hu).2.1; omega) (h.kids i u hu).1
  have hgv := gv_bounds hax (by have := (h.kids q v hv).2.1; omega) (h.kids q v hv).1
  have hz := pp_size hax h hu
  have c1 : canB ax (-n) u := by unfold canB; omega
  have a1 := rsL_inv hax hrm h hu c1 (Int.le_refl _) (by omega)
  have a1 : PpInv ax (W0 - n) cr N L (rsL x y ax (-n) i l) := by rw [show W0 - n = W0 + -n by omega]; exact a1
  have hv1 : (rsL x y ax (-n) i l)[q]? = some v := by rw [rsL_at hu, List.getElem?_set_ne hiq]; exact hv
  have c2 : canB ax n v := by unfold canB; omega
  have b1 := rsL_inv hax hrm a1 hv1 c2 (by omega) (by omega)
  have e : W0 - n + n = W0 := by omega
  rw [e] at b1
  exact ⟨c1, a1, hv1, c2, b1⟩

/-- All kids, set alike. -/
noncomputable def nzL (l : List T) : List T := l.map (setT 0 0)
theorem nz_get {l m : List T} (h : nzL l = nzL m) (k : Nat) : setT 0 0 (l.getD k default) = setT 0 0 (m.getD k default) := by
  have h1 : (nzL l)[k]? = (nzL m)[k]? := by rw [h]
  unfold nzL at h1
  rw [List.getElem?_map, List.getElem?_map] at h1
  rw [List.getD_eq_getElem?_getD, List.getD_eq_getElem?_getD]
  cases hl : l[k]? with
  | none =>
    rw [hl] at h1
    cases hm : m[k]? with
    | none => rfl
    | some v => rw [hm] at h1; cases h1
  | some u =>
    rw [hl] at h1
    cases hm : m[k]? with
    | none => rw [hm] at h1; cases h1
    | some v => rw [hm] at h1; simpa using h1
theorem nz_gv {ax : Int} {l m : List T} (h : nzL l = nzL m) (k : Nat) : gvT ax (l.getD k default) = gvT ax (m.getD k default) := by
  have := nz_get h k
  rw [← gv_set ax 0 0 (l.getD k default), this, gv_set]
theorem nz_rs {x y x' y' ax b : Int} {k : Nat} {l m : List T} (h : nzL l = nzL m) : nzL (rsL x y ax b k l) = nzL (rsL x' y' ax b k m) := by
  have h1 := nz_get h k
  unfold nzL rsL at *
  rw [List.map_set, List.map_set, h]
  congr 1
  unfold rsT
  rw [set_set, set_set, ← adj_set ax b 0 0 0 0 (l.getD k default), h1, adj_set]
theorem nz_setL {k : Int} : ∀ {l m : List T} {x y : Int}, nzL l = nzL m → setL k x y l = setL k x y m
  | [], [], _, _, _ => rfl
  | [], _ :: _, _, _, h => by simp [nzL] at h
  | _ :: _, [], _, _, h => by simp [nzL] at h
  | t :: l, u :: m, x, y, h => by
    unfold nzL at h
    simp only [List.map_cons, List.cons.injEq] at h
    have hw : t.r.w = u.r.w := by have := congrArg (fun v : T => v.r.w) h.1; simpa [set_r] using this
    have hh : t.r.h = u.r.h := by have := congrArg (fun v : T => v.r.h) h.1; simpa [set_r] using this
    have e : setT x y t = setT x y u := by rw [← set_set 0 0 x y t, h.1, set_set]
    rw [setL, setL, e, nxX_w hw, nxY_h hh, nz_setL h.2]
theorem nz_len {l m : List T} (h : nzL l = nzL m) : l.length = m.length := by
  have := congrArg List.length h
  simpa [nzL] using this

theorem with_rs {ax b whole : Int} (hax : ax = 1 ∨ ax = 2) {N L i : Nat} {X u : T} (h : PuInv ax whole N L X) (hu : X.kids[i]? = some u) (hb : canB ax b u) (hm : szA u.r ax + b ≤ 10000) : (withT ax b i X).kids = rsL 0 0 ax b i X.kids := by
  rw [(with_inv hax h hu hb hm).2.1, rsL_at hu]; rfl
theorem mv_rs {ax n whole : Int} (hax : ax = 1 ∨ ax = 2) {N L i q : Nat} {X u v : T} (h : PuInv ax whole N L X) (hw : whole ≤ 10000) (hu : X.kids[i]? = some u) (hv : X.kids[q]? = some v) (hiq : i ≠ q) (h0 : 0 ≤ n) (hn : n ≤ gvT ax u) :
    (mvT ax n i q X).kids = rsL 0 0 ax n q (rsL 0 0 ax (-n) i X.kids) := by
  have hg := gv_bounds hax (by have := (h.kids i u hu).2; omega) (h.kids i u hu).1
  have hgv := gv_bounds hax (by have := (h.kids q v hv).2; omega) (h.kids q v hv).1
  have hz := pu_size hax h hu
  have a1 := (mv_inv hax h hw hu hv hiq h0 hn).1
  have e1 := with_rs (b := -n) hax h hu (by unfold canB; omega) (by omega)
  have hv1 : (withT ax (-n) i X).kids[q]? = some v := by rw [e1, rsL_at hu, List.getElem?_set_ne hiq]; exact hv
  have hz1 := pu_size hax a1 hv1
  have e2 := with_rs (b := n) hax a1 hv1 (by unfold canB; omega) (by omega)
  show (withT ax n q (withT ax (-n) i X)).kids = _
  rw [e2, e1]

/-- Program and document, step by step. -/
theorem gv_ps {x y ax a whole : Int} (hax : ax = 1 ∨ ax = 2) {N L p : Nat} {up : Bool} (hw : whole ≤ 10000) (hpL : p + 1 < L) : ∀ (rest done : List Nat) (l : List T) (X : T) (m : Int) (f : Nat), ordL p L up = done ++ rest → nzL l = nzL X.kids → PuInv ax whole N L X → 0 ≤ m → m ≤ a →
    (m = 0 ∨ ∀ j ∈ done, ¬ 0 < gvT ax (X.kids.getD j default)) → rest.length ≤ f →
    ∃ X', psT ax p up a f X (a - m) = (X', a - (gvP x y ax (getN p up) rest l m).2) ∧ nzL (gvP x y ax (getN p up) rest l m).1 = nzL X'.kids ∧ X'.k = X.k ∧ X'.r = X.r ∧ X'.id = X.id
  | [], done, l, X, m, f, ho, hn, hX, h0, ha, hd, hf => by
    refine ⟨X, ?_, hn, rfl, rfl, rfl⟩
    rw [gvP]
    refine ps_stop ?_
    rcases hd with rfl | hd
    · left; omega
    · right
      rw [gvr_first (by rw [hX.len]; exact hpL), hX.len, ho, List.append_nil, firstG_none hd]
      decide
  | k :: rest, done, l, X, m, f, ho, hn, hX, h0, ha, hd, hf => by
    have hkm : k ∈ ordL p L up := by rw [ho]; simp
    have hkL := ord_lt hpL hkm
    obtain ⟨u, hu⟩ : ∃ u, X.kids[k]? = some u := ⟨_, List.getElem?_eq_getElem (by rw [hX.len]; exact hkL.1)⟩
    obtain ⟨v, hv⟩ : ∃ v, X.kids[getN p up]? = some v := ⟨_, List.getElem?_eq_getElem (by rw [hX.len]; unfold getN; split <;> omega)⟩
    have hub := gv_bounds hax (by have := (hX.kids k u hu).2; omega) (hX.kids k u hu).1
    have hg : gmN ax m k l = min (gvT ax u) m := by unfold gmN; rw [nz_gv hn, getD_at hu]
    have ho2 : ordL p L up = (done ++ [k]) ++ rest := by rw [ho]; simp
    have hf' : rest.length + 1 ≤ f := by simpa using hf
    rw [gvP, hg]
    by_cases hpos : 0 < min (gvT ax u) m
    · rw [if_pos hpos]
      have hm0 : m ≠ 0 := by omega
      have hd' := hd.resolve_left hm0
      have hgr : gvrN ax X.kids p up = (k : Int) := by
        rw [gvr_first (by rw [hX.len]; exact hpL), hX.len, ho, firstG_append, firstG_none hd', if_neg (by decide), firstG, getD_at hu, if_pos (by omega)]
      obtain ⟨f, rfl⟩ : ∃ f', f = f' + 1 := ⟨f - 1, by omega⟩
      have hnx : nxN ax a (a - m) u = min (gvT ax u) m := by unfold nxN; split <;> omega
      rw [ps_step (by omega) hgr hu, hnx]
      obtain ⟨m1, m2, ⟨k1, k2, k3⟩, -⟩ := mv_inv (n := min (gvT ax u) m) hax hX hw hu hv hkL.2 (by omega) (by omega)
      have e := mv_rs (n := min (gvT ax u) m) hax hX hw hu hv hkL.2 (by omega) (by omega)
      have hcond : m - min (gvT ax u) m = 0 ∨ ∀ j ∈ done ++ [k], ¬ 0 < gvT ax ((mvT ax (min (gvT ax u) m) k (getN p up) X).kids.getD j default) := by
        by_cases hmm : m ≤ gvT ax u
        · left; omega
        · right
          have hmin : min (gvT ax u) m = gvT ax u := by omega
          have hv1 : (X.kids.set k (rsT 0 0 ax (-gvT ax u) u))[getN p up]? = some v := by rw [List.getElem?_set_ne hkL.2]; exact hv
          intro j hj
          rw [e, hmin, rsL_at (i := k) hu, rsL_at hv1, List.getD_eq_getElem?_getD]
          have hjq : getN p up ≠ j := fun e9 => by
            rcases List.mem_append.1 hj with hj | hj
            · exact (ord_lt hpL (by rw [ho]; simp [hj] : j ∈ ordL p L up)).2 e9.symm
            · rw [List.mem_singleton] at hj; subst hj; exact hkL.2 e9.symm
          rw [List.getElem?_set_ne hjq]
          by_cases hjk : k = j
          · subst hjk
            rw [List.getElem?_set_self (List.getElem?_eq_some_iff.1 hu).1]
            show ¬ 0 < gvT ax (rsT 0 0 ax (-gvT ax u) u)
            unfold rsT; rw [gv_set, gv_adj hax]; omega
          · rw [List.getElem?_set_ne hjk, ← List.getD_eq_getElem?_getD]
            rcases List.mem_append.1 hj with hj | hj
            · exact hd' j hj
            · rw [List.mem_singleton] at hj; exact absurd hj.symm hjk
      obtain ⟨X', q1, q2, q3, q4, q5⟩ := gv_ps (x := x) (y := y) (a := a) hax hw hpL rest (done ++ [k]) (rsL x y ax (min (gvT ax u) m) (getN p up) (rsL x y ax (-min (gvT ax u) m) k l)) (mvT ax (min (gvT ax u) m) k (getN p up) X) (m - min (gvT ax u) m) f ho2 (by rw [e]; exact nz_rs (nz_rs hn)) m2 (by omega) (by omega) hcond (by omega)
      have ed : a - m + min (gvT ax u) m = a - (m - min (gvT ax u) m) := by omega
      exact ⟨X', by rw [ed]; exact q1, q2, q3.trans k1, q4.trans k2, q5.trans k3⟩
    · rw [if_neg hpos]
      refine gv_ps hax hw hpL rest (done ++ [k]) l X m f ho2 hn hX h0 ha ?_ (by omega)
      by_cases hm0 : m = 0
      · exact .inl hm0
      · right
        intro j hj
        rcases List.mem_append.1 hj with hj | hj
        · exact hd.resolve_left hm0 j hj
        · rw [List.mem_singleton] at hj; subst hj; rw [getD_at hu]; omega

/-- More than all can give is as much as all can give. -/
theorem ps_far {ax a a' whole : Int} (hax : ax = 1 ∨ ax = 2) {N L p : Nat} {up : Bool} (hw : whole ≤ 10000) (ha : 10000 ≤ a) (ha' : 10000 ≤ a') (hpL : p + 1 < L) (f : Nat) : ∀ (X v : T) (d : Int), PuInv ax whole N L X → X.kids[getN p up]? = some v → d < szA v.r ax →
    psT ax p up a f X d = psT ax p up a' f X d := by
  induction f with
  | zero => intro X v d _ _ _; rfl
  | succ f ih =>
    intro X v d h hv hd
    have hz := pu_size hax h hv
    have hp : p < X.kids.length := by rw [h.len]; omega
    by_cases hg : gvrN ax X.kids p up < 0
    · rw [ps_stop (.inr hg), ps_stop (.inr hg)]
    · obtain ⟨i, u, h1, h2, h3, h4⟩ := giver_is (up := up) hp (Int.not_lt.1 hg)
      obtain ⟨m1, m2, -, v', hv', hsz⟩ := mv_inv hax h hw h2 hv h4 (by omega : 0 ≤ gvT ax u) (Int.le_refl _)
      have hz' := pu_size hax m2 hv'
      have e1 : nxN ax a d u = gvT ax u := by unfold nxN; exact if_neg (by omega)
      have e2 : nxN ax a' d u = gvT ax u := by unfold nxN; exact if_neg (by omega)
      rw [ps_step (by omega) h1 h2, ps_step (by omega) h1 h2, e1, e2]
      exact ih _ v' _ m2 hv' (by omega)

/-- Put in its place as it is set there, it is the tree that is set. -/
theorem set_put : ∀ (q : List Int) (t y X : T), sz t ≤ 20000 → tileB t = true → atT t q = some y → X.r.w = y.r.w → X.r.h = y.r.h →
    ∃ Y, putT X t q = some Y ∧ Y.r.w = t.r.w ∧ Y.r.h = t.r.h ∧ putT (setT y.r.x y.r.y X) t q = some (setT t.r.x t.r.y Y)
  | [], t, y, X, hs, ht, hy, hw, hh => by
    rw [atT] at hy; cases hy
    exact ⟨X, rfl, hw, hh, rfl⟩
  | k :: q, t, y, X, hs, ht, hy, hw, hh => by
    rw [atT] at hy
    cases hk : kidAt t k with
    | none => rw [hk] at hy; cases hy
    | some v =>
      rw [hk] at hy
      obtain ⟨j, rfl, hj⟩ := kid_some hk
      have h1 := sz_kid hj
      obtain ⟨Y, g1, g2, g3, g4⟩ := set_put q v y X (by omega) (tile_kid hs ht hj) hy hw hh
      refine ⟨setKid t j Y, ?_, rfl, rfl, ?_⟩
      · rw [putT, hk]; simp only [g1, Int.toNat_natCast]
      · rw [putT, hk]
        simp only [g4, Int.toNat_natCast]
        congr 1
        have hjl := (List.getElem?_eq_some_iff.1 hj).1
        have hk2 : setL t.k t.r.x t.r.y (t.kids.set j Y) = t.kids.set j (setT v.r.x v.r.y Y) := by
          refine List.ext_getElem? fun i => ?_
          rw [setL_get, pX_same _ (t.kids.take i) _ (map_set_same hj g2 i), pY_same _ (t.kids.take i) _ (map_set_same hj g3 i)]
          by_cases hij : j = i
          · subst hij
            obtain ⟨h1, h2⟩ := fit_at hs ht hj
            rw [List.getElem?_set_self hjl, List.getElem?_set_self hjl, h1, h2]
            rfl
          · rw [List.getElem?_set_ne hij, List.getElem?_set_ne hij]
            cases hu : t.kids[i]? with
            | none => rfl
            | some u =>
              obtain ⟨h1, h2⟩ := fit_at hs ht hu
              have h3 := sz_kid hu
              rw [h1, h2]
              exact congrArg some (set_id (sz u) u (Nat.le_refl _) (by omega) (tile_kid hs ht hu))
        rw [setT_eq t.r.x t.r.y (setKid t j Y)]
        show setKid t j (setT v.r.x v.r.y Y) = T.node t.k ⟨t.r.x, t.r.y, t.r.w, t.r.h⟩ t.id (setL t.k t.r.x t.r.y (t.kids.set j Y))
        rw [hk2]; rfl

/-- What the program asks of the kids of the frame. -/
def askA (b : Int) : Int := if 0 ≤ b then b else min (-b) 10000
noncomputable def puL (y : T) (ax : Int) (P : Nat) (b : Int) : List T × Int := gvP y.r.x y.r.y ax (getN P (decide (0 ≤ b))) (ordL P y.kids.length (decide (0 ≤ b))) y.kids (askA b)
theorem frame_rm {ax : Int} (hax : ax = 1 ∨ ax = 2) {y : T} (hs : sz y ≤ 990) (ht : tileB y = true) (ha : alB y.k ax = true) : Rm y.r.x y.r.y ax (szA y.r ax) (szA y.r (3 - ax)) ∧ PpInv ax (szA y.r ax) (szA y.r (3 - ax)) (szL y.kids) y.kids.length y.kids := by
  obtain ⟨h1, h2, h3⟩ := pu_start hax hs ht ha
  have hk : y.k ≠ 1 := fun h => by rw [al_not h] at ha; cases ha
  obtain ⟨hw, hf⟩ := tile_top (by omega) ht
  have hr := may_rect (well_rect hw)
  refine ⟨⟨hr.1, hr.2.1, fun e => ?_, fun e => ?_⟩, ⟨fun j u hu => ⟨(h1.kids j u hu).1, (h1.kids j u hu).2, ?_⟩, h1.sum, rfl, rfl⟩⟩
  · subst e
    have e1 : szA y.r 1 = y.r.w := rfl
    have e2 : szA y.r (3 - 1) = y.r.h := rfl
    omega
  · subst e
    have e1 : szA y.r 2 = y.r.h := rfl
    have e2 : szA y.r (3 - 2) = y.r.w := rfl
    omega
  · have hna : alB y.k (3 - ax) = false := by
      rcases hax with rfl | rfl
      · have : y.k = 2 := by
          rcases well_kind hw with h | h | h
          · exact absurd h hk
          · exact h
          · rw [h] at ha; cases ha
        rw [this]; rfl
      · have : y.k = 3 := by
          rcases well_kind hw with h | h | h
          · exact absurd h hk
          · rw [h] at ha; cases ha
          · exact h
        rw [this]; rfl
    exact (fit_kids hw hf hk (3 - ax) (by omega)).2 hna j u hu
end Go.Proofs.Ytodcabaihhmhnaa
/- Givers: cells with what they can give, as they lie in memory, and as trees; rows of them. No walk. -/
namespace Go.Proofs.Ytodcabaihhmhnaa
open Go.RowKit

structure G where
  c : C
  g : Int
  a : Option Addr
  n : Nat
  cap : Nat
deriving Inhabited
def encG (x : G) : List Value := [.int .u8 x.c.k, .int .i64 x.c.r.x, .int .i64 x.c.r.y, .int .i64 x.c.r.w, .int .i64 x.c.r.h, .int .i64 x.c.id, .slice x.c.a x.c.n x.c.cap, .int .i64 x.g, .slice x.a x.n x.cap]
abbrev gval (x : G) : Value := .agg #[.int .u8 x.c.k, .int .i64 x.c.r.x, .int .i64 x.c.r.y, .int .i64 x.c.r.w, .int .i64 x.c.r.h, .int .i64 x.c.id, .slice x.c.a x.c.n x.c.cap, .int .i64 x.g, .slice x.a x.n x.cap]
abbrev gbox (x : G) : Obj := .cells #[.int .u8 x.c.k, .int .i64 x.c.r.x, .int .i64 x.c.r.y, .int .i64 x.c.r.w, .int .i64 x.c.r.h, .int .i64 x.c.id, .slice x.c.a x.c.n x.c.cap, .int .i64 x.g, .slice x.a x.n x.cap] 111
abbrev G9 (b o : Nat) (x : G) (w : World) : Prop :=
  w.cell? ⟨b, o, none⟩ = some (.int .u8 x.c.k) ∧ w.cell? ⟨b, o + 1, none⟩ = some (.int .i64 x.c.r.x) ∧ w.cell? ⟨b, o + 2, none⟩ = some (.int .i64 x.c.r.y) ∧ w.cell? ⟨b, o + 3, none⟩ = some (.int .i64 x.c.r.w) ∧ w.cell? ⟨b, o + 4, none⟩ = some (.int .i64 x.c.r.h) ∧ w.cell? ⟨b, o + 5, none⟩ = some (.int .i64 x.c.id) ∧ w.cell? ⟨b, o + 6, none⟩ = some (.slice x.c.a x.c.n x.c.cap) ∧ w.cell? ⟨b, o + 7, none⟩ = some (.int .i64 x.g) ∧ w.cell? ⟨b, o + 8, none⟩ = some (.slice x.a x.n x.cap)
theorem g9_up {b o : Nat} {x : G} {w w' : World} (h : G9 b o x w) (hb : Below w.heap.size w w') : G9 b o x w' := by
  obtain ⟨a0, a1, a2, a3, a4, a5, a6, a7, a8⟩ := h
  exact ⟨(hb.cell (lt_of_cell a0)).trans a0, (hb.cell (lt_of_cell a1)).trans a1, (hb.cell (lt_of_cell a2)).trans a2, (hb.cell (lt_of_cell a3)).trans a3, (hb.cell (lt_of_cell a4)).trans a4, (hb.cell (lt_of_cell a5)).trans a5, (hb.cell (lt_of_cell a6)).trans a6, (hb.cell (lt_of_cell a7)).trans a7, (hb.cell (lt_of_cell a8)).trans a8⟩

def flatG (l : List G) : List Value := l.flatMap encG
theorem flatG_length (l : List G) : (flatG l).length = l.length * 9 := by
  induction l with
  | nil => rfl
  | cons r l ih => simp only [flatG, List.flatMap_cons, List.length_append] at *; rw [ih]; simp [encG]; omega
theorem flatG_append (a b : List G) : flatG (a ++ b) = flatG a ++ flatG b := by simp [flatG]
theorem flatG_one (c : G) : flatG [c] = encG c := by simp [flatG]
theorem flatG_get (l : List G) (j i : Nat) (c : G) (hj : l[j]? = some c) (hi : i < 9) : (flatG l)[j * 9 + i]? = (encG c)[i]? := by
  induction l generalizing j with
  | nil => simp at hj
  | cons q l ih =>
    have he : flatG (q :: l) = encG q ++ flatG l := by simp [flatG]
    rw [he]
    have hq : (encG q).length = 9 := rfl
    cases j with
    | zero =>
      simp at hj; subst hj
      rw [List.getElem?_append_left (by omega)]
      simp
    | succ j =>
      rw [List.getElem?_append_right (by omega), hq, show (j + 1) * 9 + i - 9 = j * 9 + i by omega]
      exact ih j (by simpa using hj)
theorem flatG_oneCell (l : List G) : ∀ u ∈ flatG l, u.oneCell' = true := by
  intro u hu
  simp only [flatG, List.mem_flatMap] at hu
  obtain ⟨r, -, hr⟩ := hu
  simp [encG] at hr
  rcases hr with rfl | rfl | rfl | rfl | rfl | rfl | rfl | rfl | rfl <;> rfl

/-- A row of the call's own. -/
def OwnG (w : World) (base : Nat) (v : Value) (l : List G) : Prop := w.ownsRow base 111 9 v l.length (flatG l)
theorem OwnG.up {w w' : World} {base : Nat} {v : Value} {l : List G} (h : OwnG w base v l) (hb : Below w.heap.size w w') : OwnG w' base v l := owns_up h hb
theorem OwnG.lower {w : World} {base base' : Nat} {v : Value} {l : List G} (h : OwnG w base v l) (hb : base' ≤ base) : OwnG w base' v l := owns_base h hb
theorem OwnG.nil (w : World) (base : Nat) : OwnG w base (.slice none 0 0) [] := World.ownsRow_nil w base _ _
theorem ownG_block {w : World} {base : Nat} {v : Value} {l : List G} (h : OwnG w base v l) {g : Nat} (hg : v.ownBlock = some g) : base ≤ g ∧ g < w.heap.size := h.lt g hg
theorem ownG_kept {w w' : World} {base : Nat} {v : Value} {l : List G} (h : OwnG w base v l) (hk : ∀ g, v.ownBlock = some g → w'.heap[g]? = w.heap[g]?) : OwnG w' base v l := by
  refine ⟨h.1, ?_⟩
  rcases h.2 with hn | ⟨g, cap, cur, rfl, hg0, hg, rest⟩
  · exact .inl hn
  · exact .inr ⟨g, cap, cur, rfl, hg0, (hk g rfl).trans hg, rest⟩
/-- Givers in a slice. -/
def GRow (w : World) (v : Value) (l : List G) : Prop :=
  (∃ a cap, v = .slice a 0 cap ∧ l = []) ∨ ∃ b o cap, v = .slice (some ⟨b, o, none⟩) l.length cap ∧ ∀ (j : Nat) (c : G), l[j]? = some c → G9 b (o + j * 9) c w
theorem GRow.up {w w' : World} {v : Value} {l : List G} (h : GRow w v l) (hb : Below w.heap.size w w') : GRow w' v l := by
  rcases h with h | ⟨b, o, cap, h1, h2⟩
  · exact .inl h
  · exact .inr ⟨b, o, cap, h1, fun j f hf => g9_up (h2 j f hf) hb⟩
theorem GRow.shape {w : World} {v : Value} {l : List G} (hr : GRow w v l) : ∃ a cap, v = .slice a l.length cap := by
  rcases hr with ⟨a, cap, rfl, rfl⟩ | ⟨b, o, cap, rfl, -⟩
  · exact ⟨_, _, rfl⟩
  · exact ⟨_, _, rfl⟩
theorem GRow.len {w : World} {a : Option Addr} {n cap : Nat} {l : List G} (hr : GRow w (.slice a n cap) l) : n = l.length := by
  obtain ⟨a', cap', h⟩ := hr.shape
  cases h; rfl
theorem GRow.place {w : World} {a : Option Addr} {n cap : Nat} {l : List G} (hr : GRow w (.slice a n cap) l) (hp : 0 < l.length) : ∃ b o, a = some ⟨b, o, none⟩ ∧ ∀ (j : Nat) (c : G), l[j]? = some c → G9 b (o + j * 9) c w := by
  rcases hr with ⟨_, _, -, rfl⟩ | ⟨b, o, cap', he, hf⟩
  · simp at hp
  · obtain ⟨rfl, rfl⟩ : a = some ⟨b, o, none⟩ ∧ cap = cap' := by cases he; exact ⟨rfl, rfl⟩
    exact ⟨b, o, rfl, hf⟩
theorem g9_of_flat {w : World} {g : Nat} {l : List G} (h : ∀ j u, (flatG l)[j]? = some u → w.cell? ((⟨g, 0, none⟩ : Addr).add j) = some u) (j : Nat) (c : G) (hj : l[j]? = some c) : G9 g (0 + j * 9) c w := by
  have hc : ∀ i, i < 9 → ∀ u, (encG c)[i]? = some u → w.cell? ⟨g, 0 + j * 9 + i, none⟩ = some u := fun i hi u hu => by
    have := h (j * 9 + i) u (by rw [flatG_get l j i c hj hi]; exact hu)
    rw [Go.WideShapes.add_plain, Nat.zero_add] at this
    rw [Nat.zero_add]
    exact this
  exact ⟨hc 0 (by omega) _ rfl, hc 1 (by omega) _ rfl, hc 2 (by omega) _ rfl, hc 3 (by omega) _ rfl, hc 4 (by omega) _ rfl, hc 5 (by omega) _ rfl, hc 6 (by omega) _ rfl, hc 7 (by omega) _ rfl, hc 8 (by omega) _ rfl⟩
theorem OwnG.row {w : World} {base : Nat} {v : Value} {l : List G} (h : OwnG w base v l) : GRow w v l := by
  rcases h.2 with ⟨rfl, hn⟩ | ⟨g, cap, cur, rfl, hb, hg, hn, hm, hs, ht⟩
  · exact .inl ⟨_, _, rfl, List.length_eq_zero_iff.1 hn⟩
  · exact .inr ⟨g, 0, cap, rfl, fun j r hj => g9_of_flat (h.cells (g := g) rfl) j r hj⟩

abbrev zeroG : Value := .agg #[.int .u8 0, .int .i64 0, .int .i64 0, .int .i64 0, .int .i64 0, .int .i64 0, .slice none 0 0, .int .i64 0, .slice none 0 0]
set_option maxRecDepth 100000 in
theorem infoG : (Try.prog.info? 111).map (fun i => (i.zero, i.size, i.bytes)) = some (some zeroG, 9, 104) := by kernel_rfl
theorem grow_cells {w : World} {b : Nat} {x : G} (h : G9 b 0 x w) : ∀ j u, (flatG [x])[j]? = some u → w.cell? ((⟨b, 0, none⟩ : Addr).add j) = some u := by
  intro j u hu
  obtain ⟨a0, a1, a2, a3, a4, a5, a6, a7, a8⟩ := h
  rw [flatG_one] at hu
  rw [Go.WideShapes.add_plain]
  match j with
  | 0 => simp [encG] at hu; subst hu; exact a0
  | 1 => simp [encG] at hu; subst hu; exact a1
  | 2 => simp [encG] at hu; subst hu; exact a2
  | 3 => simp [encG] at hu; subst hu; exact a3
  | 4 => simp [encG] at hu; subst hu; exact a4
  | 5 => simp [encG] at hu; subst hu; exact a5
  | 6 => simp [encG] at hu; subst hu; exact a6
  | 7 => simp [encG] at hu; subst hu; exact a7
  | 8 => simp [encG] at hu; subst hu; exact a8
  | j + 9 => simp [encG] at hu
set_option maxRecDepth 100000 in
/-- append(own.., giver): what is owned then is both; where it lies. -/
theorem wpList_append_giver {w : World} {ops : Array Oper} {rest : List Oper} {o : Oper} {a : Act} {Q : Exit → Act → World → Prop} (hgd : o.guard = none) (s x : Operand)
    (ho : o.op = .call { callee := .builtin .append, args := #[s, x], argTypes := #[109, 109] })
    (base : Nat) (v : Value) (xs : List G) (g0 : Nat) (d : G) (hs : a.eval s = v) (hown : OwnG w base v xs) (hx : a.eval x = .slice (some ⟨g0, 0, none⟩) 1 1) (hrow : G9 g0 0 d w)
    (h63 : xs.length + 1 ≤ 1000000) (w0 : World) (hb : Below base w0 w) (hbase0 : base ≤ w0.heap.size)
    (h : ∀ g cap w', OwnG w' base (.slice (some ⟨g, 0, none⟩) (xs.length + 1) cap) (xs ++ [d]) → Below base w0 w' → w.grownBy w' v.ownBlock → (v.ownBlock = some g ∨ g = w.heap.size) → wpList Try.prog ops Q rest (a.put o.dst (.slice (some ⟨g, 0, none⟩) (xs.length + 1) cap)) w') : wpList Try.prog ops Q (o :: rest) a w := by
  have hbase : base ≤ w.heap.size := Nat.le_trans hbase0 hb.size
  obtain ⟨i, hi, hz0, hz2, hz3⟩ := info_parts infoG
  refine wpList_append_lies w hgd s x 109 ho base 111 i zeroG 9 104 Try.underlying109 hi hz0 hz2 hz3 rfl (by decide) v xs.length (flatG xs) hs hown ⟨g0, 0, none⟩ 1 1 (flatG [d]) hx (flatG_length _) (grow_cells hrow) (flatG_oneCell _) (by decide) (by unfold maxLen; omega) (by omega) hbase w.heap.size rfl ?_
  intro g cap' w' g1 g2 g3 _
  refine h g cap' w' ?_ (hb.grown g2 hbase (fun k hk => (hown.lt k hk).1)) g2 g3
  rw [← flatG_append] at g1
  have hl : (xs ++ [d]).length = xs.length + 1 := by simp
  unfold OwnG
  rw [hl]; exact g1

/-- The tree that a giver tells. -/
inductive IsG (w : World) (ax : Int) : G → T → Prop
  | mk (x : G) (kids : List T) (gs : List G) (hdr : x.c.a = none ∧ x.c.n = 0 ∧ x.c.cap = 0) (row : GRow w (.slice x.a x.n x.cap) gs) (len : gs.length = kids.length) (fine : x.c.fine) (give : x.g = gvT ax (.node x.c.k x.c.r x.c.id kids)) (each : ∀ (j : Nat) (y : G) (t : T), gs[j]? = some y → kids[j]? = some t → IsG w ax y t) : IsG w ax x (.node x.c.k x.c.r x.c.id kids)
theorem IsG.up {w w' : World} {ax : Int} {x : G} {t : T} (h : IsG w ax x t) (hb : Below w.heap.size w w') : IsG w' ax x t := by
  induction h with
  | mk x kids gs hdr row len fine give each ih => exact .mk x kids gs hdr (row.up hb) len fine give ih
theorem IsG.split {w : World} {ax : Int} {x : G} {t : T} (h : IsG w ax x t) : t.k = x.c.k ∧ t.r = x.c.r ∧ t.id = x.c.id ∧ x.c.fine ∧ (x.c.a = none ∧ x.c.n = 0 ∧ x.c.cap = 0) ∧ x.g = gvT ax t ∧ ∃ gs, GRow w (.slice x.a x.n x.cap) gs ∧ gs.length = t.kids.length ∧ x.n = t.kids.length ∧ ∀ (j : Nat) (y : G) (u : T), gs[j]? = some y → t.kids[j]? = some u → IsG w ax y u := by
  cases h with
  | mk x kids gs hdr row len fine give each => exact ⟨rfl, rfl, rfl, fine, hdr, give, gs, row, len, row.len.trans len, each⟩
/-- It tells the tree in every world that has w's blocks from lo to hi. -/
def StandsG (w : World) (lo hi : Nat) (ax : Int) (x : G) (t : T) : Prop := ∀ W' : World, (∀ k, lo ≤ k → k < hi → W'.heap[k]? = w.heap[k]?) → IsG W' ax x t
theorem StandsG.is {w : World} {lo hi : Nat} {ax : Int} {x : G} {t : T} (h : StandsG w lo hi ax x t) : IsG w ax x t := h w fun _ _ _ => rfl
theorem StandsG.move {w w2 : World} {lo hi : Nat} {ax : Int} {x : G} {t : T} (h : StandsG w lo hi ax x t) (h1 : ∀ k, lo ≤ k → k < hi → w2.heap[k]? = w.heap[k]?) : StandsG w2 lo hi ax x t :=
  fun W' g1 => h W' fun k hl hh => (g1 k hl hh).trans (h1 k hl hh)
theorem StandsG.wide {w : World} {lo hi lo' hi' : Nat} {ax : Int} {x : G} {t : T} (h : StandsG w lo hi ax x t) (hl : lo' ≤ lo) (hh : hi ≤ hi') : StandsG w lo' hi' ax x t :=
  fun W' g1 => h W' fun k hl' hh' => g1 k (by omega) (by omega)
structure GroveG (w : World) (base : Nat) (v : Value) (ax : Int) (gs : List G) (l : List T) : Prop where
  row : OwnG w base v gs
  len : gs.length = l.length
  each : ∀ (j : Nat) (x : G) (t : T), gs[j]? = some x → l[j]? = some t → ∃ lo hi, base ≤ lo ∧ hi ≤ w.heap.size ∧ (∀ g, v.ownBlock = some g → g < lo ∨ hi ≤ g) ∧ StandsG w lo hi ax x t
theorem GroveG.nil (w : World) (base : Nat) (ax : Int) : GroveG w base (.slice none 0 0) ax [] [] := ⟨OwnG.nil w base, rfl, fun j x t hx => by simp at hx⟩
theorem GroveG.kept {w w2 : World} {base : Nat} {v : Value} {ax : Int} {gs : List G} {l : List T} (h : GroveG w base v ax gs l) (hs : w.heap.size ≤ w2.heap.size) (hk : ∀ k, base ≤ k → k < w.heap.size → w2.heap[k]? = w.heap[k]?) : GroveG w2 base v ax gs l :=
  ⟨ownG_kept h.row fun g hg => hk g (ownG_block h.row hg).1 (ownG_block h.row hg).2, h.len, fun j x t hx ht => by
    obtain ⟨lo, hi, a1, a2, a3, a4⟩ := h.each j x t hx ht
    exact ⟨lo, hi, a1, Nat.le_trans a2 hs, a3, a4.move fun k hl hh => hk k (by omega) (by omega)⟩⟩
theorem GroveG.lower {w : World} {base base' : Nat} {v : Value} {ax : Int} {gs : List G} {l : List T} (h : GroveG w base v ax gs l) (hb : base' ≤ base) : GroveG w base' v ax gs l :=
  ⟨h.row.lower hb, h.len, fun j x t hx ht => by
    obtain ⟨lo, hi, a1, a2, a3, a4⟩ := h.each j x t hx ht
    exact ⟨lo, hi, Nat.le_trans hb a1, a2, a3, a4⟩⟩
/-- One more, that the call just made. -/
theorem GroveG.one {wr w2 w2' w3 : World} {base : Nat} {v : Value} {ax : Int} {gs : List G} {l : List T} {d : G} {u : T} {g cap : Nat}
    (h : GroveG wr base v ax gs l) (hb : Below wr.heap.size wr w2) (hb' : Below w2.heap.size w2 w2') (hbase : base ≤ wr.heap.size)
    (hd : StandsG w2 wr.heap.size w2.heap.size ax d u)
    (hown : OwnG w3 base (.slice (some ⟨g, 0, none⟩) (gs.length + 1) cap) (gs ++ [d])) (hgr : w2'.grownBy w3 v.ownBlock) (hpl : v.ownBlock = some g ∨ g = w2'.heap.size) :
    GroveG w3 base (.slice (some ⟨g, 0, none⟩) (gs.length + 1) cap) ax (gs ++ [d]) (l ++ [u]) := by
  have hvb : ∀ k, v.ownBlock = some k → base ≤ k ∧ k < wr.heap.size := fun k hk => ownG_block h.row hk
  have hs := hb.size
  have hs' := hb'.size
  have hs3 := hgr.size
  have hsame : ∀ k, k < w2.heap.size → v.ownBlock ≠ some k → w3.heap[k]? = w2.heap[k]? := fun k hk hne => by
    rw [hgr.block k (by omega) (fun e => hne e.symm)]
    exact hb'.block k hk
  have hgo : ∀ k, (Value.slice (some ⟨g, 0, none⟩) (gs.length + 1) cap).ownBlock = some k → k = g := fun k hk => by cases hk; rfl
  refine ⟨hown, by simp [h.len], fun j x t hx ht => ?_⟩
  rcases Nat.lt_or_ge j gs.length with hj | hj
  · rw [List.getElem?_append_left hj] at hx
    rw [List.getElem?_append_left (by rw [← h.len]; exact hj)] at ht
    obtain ⟨lo, hi, a1, a2, a3, a4⟩ := h.each j x t hx ht
    refine ⟨lo, hi, a1, by omega, fun k hk => ?_, a4.move fun k hl hh => ?_⟩
    · rw [hgo k hk]
      rcases hpl with hp | hp
      · exact a3 g hp
      · right; omega
    · rw [hsame k (by omega) (fun e => by have := a3 k e; omega)]
      exact hb.block k (by omega)
  · rw [List.getElem?_append_right hj] at hx
    rw [List.getElem?_append_right (by rw [← h.len]; exact hj), ← h.len] at ht
    obtain ⟨h0, rfl⟩ : j - gs.length = 0 ∧ d = x := by
      cases hm : j - gs.length with
      | zero => rw [hm] at hx; simp at hx; exact ⟨rfl, hx⟩
      | succ m => rw [hm] at hx; simp at hx
    rw [h0] at ht
    simp at ht; subst ht
    refine ⟨wr.heap.size, w2.heap.size, hbase, by omega, fun k hk => ?_, hd.move fun k hl hh => ?_⟩
    · rw [hgo k hk]
      rcases hpl with hp | hp
      · have := hvb g hp; omega
      · right; omega
    · exact hsame k (by omega) fun e => by have := hvb k e; omega
/-- The giver whose kids they are. -/
theorem GroveG.tree {w : World} {base : Nat} {k : Int} {r : R} {id gv ax : Int} {a : Option Addr} {n cap : Nat} {gs : List G} {l : List T} (h : GroveG w base (.slice a n cap) ax gs l) (hk : 0 ≤ k ∧ k ≤ 255) (hr : r.fits) (hi : fits id) (hg : gv = gvT ax (.node k r id l)) :
    StandsG w base w.heap.size ax ⟨⟨k, r, id, none, 0, 0⟩, gv, a, n, cap⟩ (.node k r id l) := by
  intro W' g1
  refine .mk ⟨⟨k, r, id, none, 0, 0⟩, gv, a, n, cap⟩ l gs ⟨rfl, rfl, rfl⟩ (ownG_kept h.row fun g hg => ?_).row h.len ⟨hk, hr, hi, by simp⟩ hg fun j x t hx ht => ?_
  · have := ownG_block h.row hg
    exact g1 g this.1 this.2
  · obtain ⟨lo, hi, a1, a2, a3, a4⟩ := h.each j x t hx ht
    exact a4 W' fun k hl hh => g1 k (by omega) (by omega)

/-- A box of a giver. -/
def Box9 (w : World) (b : Nat) (x : G) : Prop := w.heap[b]? = some (gbox x)
theorem Box9.up {w w' : World} {b : Nat} {x : G} (h : Box9 w b x) (hb : Below w.heap.size w w') : Box9 w' b x := (hb.block b (lt_of_block h)).trans h
theorem Box9.new (w : World) (x : G) : Box9 (w.alloc (gbox x)) w.heap.size x := heap_alloc_new w _
theorem Box9.cat {w : World} {b : Nat} {x : G} (h : Box9 w b x) : G9 b 0 x w := by
  have h' : w.heap[b]? = some (gbox x) := h
  refine ⟨?_, ?_, ?_, ?_, ?_, ?_, ?_, ?_, ?_⟩ <;> simp [World.cell?, h']
theorem Box9.free {w : World} {b : Nat} {x : G} (h : Box9 w b x) (o : Nat) : w.frozen? ⟨b, o, none⟩ = false := by
  have h' : w.heap[b]? = some (gbox x) := h
  simp [World.frozen?, h']
theorem Box9.give {w : World} {b : Nat} {x : G} (h : Box9 w b x) (m : Int) : Box9 (w.setCell ⟨b, 7, none⟩ (.int .i64 m)) b ⟨x.c, m, x.a, x.n, x.cap⟩ := by
  have h' : w.heap[b]? = some (gbox x) := h
  have h1 := set_block (i := 7) h' (.int .i64 m)
  refine h1.trans ?_
  simp
theorem Box9.kids {w : World} {b : Nat} {x : G} (h : Box9 w b x) (a : Option Addr) (n cap : Nat) : Box9 (w.setCell ⟨b, 8, none⟩ (.slice a n cap)) b ⟨x.c, x.g, a, n, cap⟩ := by
  have h' : w.heap[b]? = some (gbox x) := h
  have h1 := set_block (i := 8) h' (.slice a n cap)
  refine h1.trans ?_
  simp
theorem Box9.row {w : World} {b : Nat} {x : G} (h : Box9 w b x) (a : Option Addr) (n cap : Nat) : Box9 (w.setCell ⟨b, 6, none⟩ (.slice a n cap)) b ⟨⟨x.c.k, x.c.r, x.c.id, a, n, cap⟩, x.g, x.a, x.n, x.cap⟩ := by
  have h' : w.heap[b]? = some (gbox x) := h
  have h1 := set_block (i := 6) h' (.slice a n cap)
  refine h1.trans ?_
  simp
end Go.Proofs.Ytodcabaihhmhnaa
