/- Texts of this seat, 3 in one file. -/
import Derived.Test.YtcdiogifgemjbaaGreatG19
import Derived.Test.YtcdiogifgemjbaaGreatG20
import Derived.Test.YtcdiogifgemjbaaGreatG15
import Derived.Test.YtcdiogifgemjbaaGreatG09
import Derived.Test.YtcdiogifgemjbaaGreatG16
import Derived.Test.YtcdiogifgemjbaaGreatG01
/- The document's answer: does a tree tile, its lines, and which cell doesn't. -/
namespace Go.Proofs.YtcdiogifgemjbaaGreat
open Go.RowKit

theorem well_kind {t : T} (h : wellT t = true) : t.k = 1 ∨ t.k = 2 ∨ t.k = 3 := by
  unfold wellT wellB at h
  simp only [Bool.and_eq_true, Bool.or_eq_true, decide_eq_true_eq] at h
  omega
theorem rmay_well {t u : T} (h : rmayT t = true) (hu : u ∈ preT t) : wellT u = true := by
  unfold rmayT at h
  rw [Bool.and_eq_true] at h
  exact List.all_eq_true.1 h.1 u hu
theorem cutLines_len (r : R) (ax : Int) (ms : List Int) (b : Bool) : (cutLines r ax ms b).length ≤ ms.length := by
  cases b with
  | false => simp [cutLines]
  | true => simp only [cutLines]; split <;> rw [linesL_length] <;> omega
theorem linesT_len (t : T) : (linesT t).length ≤ t.kids.length := by
  unfold linesT
  split
  · simp
  · have := cutLines_len t.r (axT t) (sizesT t) true
    rw [sizes_len] at this
    exact this
def allLines (l : List T) : List R := l.flatMap linesT
theorem allLines_step {l : List T} {k : Nat} {u : T} (h : l[k]? = some u) : allLines (l.take (k + 1)) = allLines (l.take k) ++ linesT u := by
  unfold allLines; rw [List.take_add_one, h]; simp
mutual
theorem pre_kids : ∀ (t u : T), u ∈ preT t → u.kids.length ≤ sz t
  | .node k r i l, u, h => by
    rw [preT] at h
    rw [sz]
    rcases List.mem_cons.1 h with rfl | h
    · have := szL_len l; show l.length ≤ _; omega
    · have := preL_kids l u h; omega
theorem preL_kids : ∀ (l : List T) (u : T), u ∈ preL l → u.kids.length ≤ szL l
  | [], u, h => by rw [preL] at h; cases h
  | t :: l, u, h => by
    rw [preL] at h
    rw [szL]
    rcases List.mem_append.1 h with h | h
    · have := pre_kids t u h; omega
    · have := preL_kids l u h; omega
end
theorem allLines_len {l : List T} {n : Nat} (h : ∀ u ∈ l, u.kids.length ≤ n) : (allLines l).length ≤ l.length * n := by
  induction l with
  | nil => simp [allLines]
  | cons t l ih =>
    have h1 := ih fun u hu => h u (List.mem_cons_of_mem _ hu)
    have h2 := h t (List.mem_cons_self ..)
    have h3 := linesT_len t
    unfold allLines at *
    rw [List.flatMap_cons, List.length_append, List.length_cons, Nat.add_mul]
    omega
theorem Owns.empty (w : World) (base : Nat) (hb : base ≤ w.heap.size) : Owns (w.alloc (.cells #[] 23)) base (.slice (some ⟨w.heap.size, 0, none⟩) 0 0) [] := World.ownsRow_made w #[] 0 hb (Nat.zero_le _) (by simp)

def RCheckSays (t : T) (w : World) (e : Ending) (w' : World) : Prop := ∃ (v : Value) (no pl : Int) (l : List R), e = .returned (.tuple #[v, .int .i64 no, .int .i64 pl]) ∧ RRow w' v l ∧ Below w.heap.size w w' ∧
  ((rmayT t = false ∧ no = 1 ∧ pl = 0 ∧ l = []) ∨ (rmayT t = true ∧ (preT t).all fitB = true ∧ no = 0 ∧ pl = 0 ∧ l = allLines (preT t)) ∨ (rmayT t = true ∧ (preT t).all fitB = false ∧ no = 5 ∧ pl = ((preT t).findIdx fun u => !fitB u : Nat) ∧ l = []))

theorem idx_first {l : List T} {k : Nat} {u : T} (hu : l[k]? = some u) (hf : fitB u = false) (h : ∀ (j : Nat) (x : T), j < k → l[j]? = some x → fitB x = true) : l.findIdx (fun u => !fitB u) = k ∧ l.all fitB = false := by
  have hk := (List.getElem?_eq_some_iff.1 hu).1
  have hue : l[k] = u := (List.getElem?_eq_some_iff.1 hu).2
  constructor
  · rw [List.findIdx_eq hk]
    refine ⟨by rw [hue, hf]; rfl, fun j hj => ?_⟩
    have := h j l[j] hj (List.getElem?_eq_getElem (by omega))
    rw [this]; rfl
  · cases e : l.all fitB with
    | false => rfl
    | true => rw [List.all_eq_true.1 e u (List.mem_of_getElem? hu)] at hf; cases hf

set_option maxRecDepth 100000 in
set_option maxHeartbeats 1600000 in
theorem rcheck_any (t : T) (c : C) (w : World) (hi : Is w c t) (hs : sz t ≤ 20000) : Calls Tryz.prog 36 #[cval c] w (RCheckSays t w) := by
  have B1 : Hid (Below w.heap.size w ((w.alloc (cbox c)).alloc (.cells #[] 23))) := Lib.hid (((Below.refl _ _).alloc (Nat.le_refl _) _).alloc (by simp) _)
  have C1 := Lib.hid ((cbox_new w c).up ((Below.refl _ _).alloc (Nat.le_refl _) (.cells #[] 23)))
  have HMY := Lib.hid (rmayOne_any t c ((w.alloc (cbox c)).alloc (.cells #[] 23)) (by omega) (hi.up B1.out))
  have HI := Lib.hid hi
  have HS := Lib.hid hs
  clear hi hs
  cases hm : rmayT t with
  | false =>
    rw [hm] at HMY
    have HM := Lib.hid hm
    clear hm
    go_enter Tryz.func36, Tryz.ntmps36
    go_wp2_with fail
    refine HMY.out.mono ?_
    rintro e w2 ⟨rfl, hb2⟩
    have HB2 := Lib.hid (B1.out.trans (hb2.mono B1.out.size))
    clear hb2
    go_wp2
    go_ret3
    exact ⟨_, 1, 0, [], rfl, .inl ⟨_, _, rfl, rfl⟩, HB2.out, .inl ⟨HM.out, rfl, rfl, rfl⟩⟩
  | true =>
    rw [hm] at HMY
    have HM := Lib.hid hm
    clear hm
    go_enter Tryz.func36, Tryz.ntmps36
    go_wp2_with fail
    refine HMY.out.mono ?_
    rintro e w2 ⟨rfl, hb2⟩
    have HB2 := Lib.hid (B1.out.trans (hb2.mono B1.out.size))
    obtain ⟨c0, c1, c2, c3, c4, c5, c6⟩ := C1.out.up hb2
    simp only [Nat.zero_add] at c1 c2 c3 c4 c5 c6
    clear hb2
    have HAL := Lib.hid (rall_any w2 (sz t) t c w2 (Nat.le_refl _) (by have := HS.out; omega) (HI.out.up HB2.out) (Below.refl _ _))
    go_wp2_with fail
    refine HAL.out.mono ?_
    rintro e w3 ⟨vl, al, rfl, howl, htl, hb3⟩
    have HT := Lib.hid htl
    have hall : al.length ≤ 20000 := by rw [htl.1, preT_len]; exact HS.out
    have HALN : Hid (al.length = (preT t).length) := Lib.hid htl.1
    have HROW := Lib.hid howl.row
    obtain ⟨aa, capl, rfl⟩ := howl.row.shape
    have HB23 := Lib.hid hb3
    have HB3 := Lib.hid (HB2.out.trans (hb3.mono HB2.out.size))
    have HO := Lib.hid (Owns.empty w3 w3.heap.size (Nat.le_refl _))
    have HB4 : Hid (Below w3.heap.size w3 (w3.alloc (.cells #[] 23))) := (Below.refl _ _).alloc (Nat.le_refl _) _
    clear hb3 howl htl c0 c1 c2 c3 c4 c5 c6
    go_wp2
    go_loopg [7, 21] (al.length + 1) (fun g v i wr => ∃ k : Nat, g + k = al.length + 1 ∧ k ≤ al.length ∧ i = .int .i64 k ∧ Owns wr w3.heap.size v (allLines ((preT t).take k)) ∧ (∀ (j : Nat) (u : T), j < k → (preT t)[j]? = some u → fitB u = true) ∧ Below w3.heap.size w3 wr)
    case atStart => exact ⟨0, by omega, by omega, rfl, HO.out, fun j u hj => by omega, HB4.out⟩
    case round =>
      obtain ⟨k, hg, hk, rfl, hown, hfit, hb⟩ := hrel
      have HG := Lib.hid hg
      have HOW := Lib.hid hown
      have HFT := Lib.hid hfit
      have HB := Lib.hid hb
      clear hg hown hfit hb
      by_cases hlt : k < al.length
      · obtain ⟨x, u, hx, hu, hxu⟩ := HT.out.at hlt
        obtain ⟨b, o, rfl, hf⟩ := HROW.out.place (by omega)
        obtain ⟨c0, c1, c2, c3, c4, c5, c6⟩ := (hf k x hx).up HB.out
        have hki : (k : Int) < (al.length : Int) := by omega
        have hmem := List.mem_of_getElem? hu
        have HKL : Hid (u.kids.length ≤ 20000) := Lib.hid (Nat.le_trans (pre_kids t u hmem) HS.out)
        have HON := Lib.hid (rone_any u x wr (hxu.up (HB23.out.trans (HB.out.mono HB23.out.size))) HKL.out (well_kind (rmay_well HM.out hmem)))
        have HU := Lib.hid hu
        have HST := Lib.hid (allLines_step hu)
        have HLE : Hid ((allLines ((preT t).take k)).length ≤ 400000000) := Lib.hid (by
          have h1 := allLines_len (l := (preT t).take k) (n := 20000) (fun u hu => Nat.le_trans (pre_kids t u (List.mem_of_mem_take hu)) HS.out)
          rw [List.length_take] at h1
          have : min k (preT t).length ≤ 20000 := by omega
          have := Nat.mul_le_mul_right 20000 this
          omega)
        clear hf hx hxu hmem hu
        go_wp2_with fail
        refine HON.out.mono ?_
        rintro e w5 ⟨v5, rfl, hr5, hb5⟩
        have HB5 := Lib.hid (HB.out.trans (hb5.mono HB.out.size))
        have HOW5 := Lib.hid (HOW.out.up hb5)
        clear hb5 c0 c1 c2 c3 c4 c5 c6
        cases hfu : fitB u with
        | true =>
          rw [hfu] at hr5
          have HR5 : Hid (RRow w5 v5 (linesT u)) := Lib.hid hr5
          have HFU := Lib.hid hfu
          have HLL : Hid ((linesT u).length ≤ 20000) := Lib.hid (Nat.le_trans (linesT_len u) HKL.out)
          clear hr5 hfu
          go_wp2_with (at_builtin; refine wpList_append_rects rfl _ _ rfl w3.heap.size _ v5 _ (linesT u) rfl HOW5.out rfl HR5.out (by have := HLE.out; have := HLL.out; omega) w3 HB5.out (Nat.le_refl _) ?_)
          intro v6 w6 ho6 hb6 _ _
          have HO6 := Lib.hid ho6
          have HB6 := Lib.hid hb6
          clear ho6 hb6
          go_wp2
          go_roundg (gk - 1)
          case measure => have := HG.out; omega
          case rel =>
            refine ⟨k + 1, by have := HG.out; omega, by omega, by go_num, by rw [HST.out]; exact HO6.out, fun j a hj ha => ?_, HB6.out⟩
            rcases Nat.lt_or_ge j k with h | h
            · exact HFT.out j a h ha
            · obtain rfl : j = k := by omega
              rw [HU.out] at ha
              cases ha
              exact HFU.out
        | false =>
          have HFF := Lib.hid (idx_first HU.out hfu HFT.out)
          have HBE := Lib.hid (HB3.out.trans (HB5.out.mono HB3.out.size))
          clear hfu hr5
          go_wp2
          go_ret3
          exact ⟨_, 5, k, [], rfl, .inl ⟨_, _, rfl, rfl⟩, HBE.out, .inr (.inr ⟨HM.out, HFF.out.2, rfl, by rw [HFF.out.1], rfl⟩)⟩
      · obtain rfl : k = al.length := by omega
        have hkl : ((al.length : Int) < (al.length : Int)) = False := by simp
        have HAF : Hid ((preT t).all fitB = true) := Lib.hid (by
          rw [List.all_eq_true]
          intro u hu
          obtain ⟨j, hj⟩ := List.getElem?_of_mem hu
          exact HFT.out j u (by have := (List.getElem?_eq_some_iff.1 hj).1; have := HALN.out; omega) hj)
        have HOE : Hid (Owns wr w3.heap.size u7 (allLines (preT t))) := Lib.hid (by
          have h := HOW.out
          rw [List.take_of_length_le (by rw [HALN.out]; exact Nat.le_refl _)] at h
          exact h)
        have HBE := Lib.hid (HB3.out.trans (HB.out.mono HB3.out.size))
        go_wp2
        go_ret3
        exact ⟨_, 0, 0, _, rfl, HOE.out.row, HBE.out, .inr (.inl ⟨HM.out, HAF.out, rfl, rfl, rfl⟩)⟩
end Go.Proofs.YtcdiogifgemjbaaGreat
/- The least size of a tree along an axis, and what it can give: the mathematics. -/
namespace Go.Proofs.YtcdiogifgemjbaaGreat
open Go.RowKit

mutual
def lsT (ax : Int) : T → Int
  | .node k _ _ l => if l.isEmpty then 1 else if alB k ax then lsS ax l + l.length - 1 else lsX ax l
/-- Together. -/
def lsS (ax : Int) : List T → Int
  | [] => 0
  | t :: l => lsT ax t + lsS ax l
/-- The greatest. -/
def lsX (ax : Int) : List T → Int
  | [] => 0
  | t :: l => max (lsT ax t) (lsX ax l)
end
theorem ls_eq (ax : Int) (t : T) : lsT ax t = if t.kids.isEmpty then 1 else if alB t.k ax then lsS ax t.kids + t.kids.length - 1 else lsX ax t.kids := by
  cases t; rw [lsT]; rfl
theorem lsS_append (ax : Int) (a b : List T) : lsS ax (a ++ b) = lsS ax a + lsS ax b := by
  induction a with
  | nil => simp [lsS]
  | cons t l ih => simp only [List.cons_append, lsS, ih]; omega
mutual
theorem ls_pos (ax : Int) : ∀ t, 1 ≤ lsT ax t
  | .node k r i l => by
    rw [lsT]
    cases l with
    | nil => simp
    | cons t l =>
      have h1 := lsS_pos ax (t :: l)
      have h2 := lsX_pos ax (t :: l) (by simp)
      simp only [List.isEmpty_cons, Bool.false_eq_true, if_false]
      split
      · simp only [List.length_cons] at h1 ⊢; omega
      · exact h2
theorem lsS_pos (ax : Int) : ∀ l, (l.length : Int) ≤ lsS ax l
  | [] => by simp [lsS]
  | t :: l => by
    have h1 := ls_pos ax t
    have h2 := lsS_pos ax l
    rw [lsS, List.length_cons]; omega
theorem lsX_pos (ax : Int) : ∀ l, l ≠ [] → 1 ≤ lsX ax l
  | [] => fun h => absurd rfl h
  | t :: l => fun _ => by
    have h1 := ls_pos ax t
    rw [lsX]; omega
end
theorem lsX_nonneg (ax : Int) (l : List T) : 0 ≤ lsX ax l := by
  cases l with
  | nil => simp [lsX]
  | cons t l => have := lsX_pos ax (t :: l) (by simp); omega
theorem lsX_append (ax : Int) (a b : List T) : lsX ax (a ++ b) = max (lsX ax a) (lsX ax b) := by
  induction a with
  | nil => have := lsX_nonneg ax b; simp only [List.nil_append, lsX]; omega
  | cons t l ih => simp only [List.cons_append, lsX, ih]; omega
theorem lsS_step {ax : Int} {l : List T} {k : Nat} {t : T} (h : l[k]? = some t) : lsS ax (l.take (k + 1)) = lsS ax (l.take k) + lsT ax t := by
  rw [List.take_add_one, h, lsS_append]; simp [lsS]
theorem lsX_step {ax : Int} {l : List T} {k : Nat} {t : T} (h : l[k]? = some t) : lsX ax (l.take (k + 1)) = max (lsX ax (l.take k)) (lsT ax t) := by
  rw [List.take_add_one, h, lsX_append]
  have := ls_pos ax t
  simp only [Option.toList, lsX]; omega
mutual
theorem ls_sz (ax : Int) : ∀ t, lsT ax t ≤ 2 * (sz t : Int) - 1
  | .node k r i l => by
    rw [lsT, sz]
    have h1 := lsS_sz ax l
    have h2 := lsX_sz ax l
    split
    · omega
    · split
      · omega
      · omega
theorem lsS_sz (ax : Int) : ∀ l, lsS ax l + (l.length : Int) ≤ 2 * (szL l : Int)
  | [] => by simp [lsS, szL]
  | t :: l => by
    have h1 := ls_sz ax t
    have h2 := lsS_sz ax l
    rw [lsS, szL, List.length_cons]; omega
theorem lsX_sz (ax : Int) : ∀ l, lsX ax l ≤ 2 * (szL l : Int)
  | [] => by simp [lsX, szL]
  | t :: l => by
    have h1 := ls_sz ax t
    have h2 := lsX_sz ax l
    rw [lsX, szL]; omega
end

/-- A tree whose cells without kids are leaves. -/
def okT (t : T) : Prop := ∀ u ∈ preT t, u.kids = [] → u.k = 1
theorem ok_kid {t u : T} {k : Nat} (h : okT t) (hu : t.kids[k]? = some u) : okT u := fun x hx => h x ((pre_sub hu).mem hx)
theorem ok_top {t : T} (h : okT t) : t.kids = [] → t.k = 1 := h t (by rw [preT_eq]; exact List.mem_cons_self ..)
theorem ok_may {t : T} (h : mayT t = true) : okT t := by
  rw [may_is (may_small h)] at h
  intro u hu he
  have hw := rmay_well h hu
  unfold wellT wellB at hw
  simp only [Bool.and_eq_true, Bool.or_eq_true, decide_eq_true_eq] at hw
  rw [he] at hw
  simp at hw
  exact hw.2.1
theorem ls_yes {ax : Int} {t : T} (h : okT t) (ha : alB t.k ax = true) : lsT ax t = lsS ax t.kids + t.kids.length - 1 := by
  rw [ls_eq, if_neg, if_pos ha]
  intro he
  have := ok_top h (by simpa using he)
  rw [this] at ha
  simp [alB] at ha
theorem ls_no {ax : Int} {t : T} (ha : alB t.k ax = false) : lsT ax t = max 1 (lsX ax t.kids) := by
  rw [ls_eq]
  cases hk : t.kids with
  | nil => simp [lsX]; rfl
  | cons u l =>
    have := lsX_pos ax (u :: l) (by simp)
    simp only [List.isEmpty_cons, Bool.false_eq_true, if_false, ha]
    omega

/-- What a tree can give. -/
def gvT (ax : Int) (t : T) : Int := szA t.r ax - lsT ax t
def gvS (ax : Int) (l : List T) : Int := (l.map (gvT ax)).sum
def szS (ax : Int) (l : List T) : Int := (l.map fun u => szA u.r ax).sum
theorem gvS_is (ax : Int) (l : List T) : gvS ax l = szS ax l - lsS ax l := by
  induction l with
  | nil => rfl
  | cons t l ih =>
    unfold gvS szS at *
    rw [List.map_cons, List.sum_cons, List.map_cons, List.sum_cons, ih, lsS]
    unfold gvT
    omega
theorem gvS_step {ax : Int} {l : List T} {k : Nat} {t : T} (h : l[k]? = some t) : gvS ax (l.take (k + 1)) = gvS ax (l.take k) + gvT ax t := by
  unfold gvS; rw [List.take_add_one, h]; simp

theorem may_rect {r : R} (h : mayB r = true) : 0 ≤ r.x ∧ 0 ≤ r.y ∧ 1 ≤ r.w ∧ 1 ≤ r.h ∧ r.x + r.w ≤ 10000 ∧ r.y + r.h ≤ 10000 := by
  have := (mayB_iff r).1 h
  omega
theorem well_rect {t : T} (h : wellT t = true) : mayB t.r = true := by
  unfold wellT wellB at h
  rw [Bool.and_eq_true] at h
  exact h.1

theorem off_sum (ms : List Int) : ∀ n : Int, ms.foldl (fun n m => n + (m + 1)) n = n + ms.sum + ms.length := by
  induction ms with
  | nil => intro n; simp
  | cons m ms ih => intro n; rw [List.foldl_cons, ih, List.sum_cons, List.length_cons]; omega
theorem off_all (ms : List Int) : offS ms ms.length = ms.sum + ms.length := by
  unfold offS; rw [List.take_length, off_sum]; omega
theorem parts_at (o : R) (tb : R → R) (ms : List Int) : ∀ (n k : Nat), k < n → (partsL o tb ms n)[k]? = some (partK o tb ms k)
  | 0, k, h => by omega
  | n + 1, k, h => by
    rw [partsL]
    rcases Nat.lt_or_ge k n with hk | hk
    · rw [List.getElem?_append_left (by rw [partsL_length]; exact hk)]
      exact parts_at o tb ms n k hk
    · obtain rfl : k = n := by omega
      rw [List.getElem?_append_right (by rw [partsL_length]; exact Nat.le_refl _), partsL_length]
      simp

/-- A row or a column that tiles: its kids' sizes. -/
theorem fit_kids {t : T} (hw : wellT t = true) (hf : fitB t = true) (hk : t.k ≠ 1) (ax : Int) (hax : ax = 1 ∨ ax = 2) :
    (alB t.k ax = true → szS ax t.kids + t.kids.length = szA t.r ax + 1) ∧ (alB t.k ax = false → ∀ (j : Nat) (u : T), t.kids[j]? = some u → szA u.r ax = szA t.r ax) := by
  have hkind := well_kind hw
  obtain h1 | ⟨⟨-, hcut⟩, hrects⟩ := (fitB_iff t).1 hf
  · exact absurd h1 hk
  · have hlen : (sizesT t).length = t.kids.length := sizes_len t
    have hat : ∀ (j : Nat) (u : T), t.kids[j]? = some u → (cutParts t.r (axT t) (sizesT t) true)[j]? = some u.r := fun j u hu => by
      rw [← hrects, List.getElem?_map, hu]; rfl
    have hlt : ∀ (j : Nat) (u : T), t.kids[j]? = some u → j < (sizesT t).length := fun j u hu => by
      rw [hlen]; exact (List.getElem?_eq_some_iff.1 hu).1
    rcases hkind with h | h | h
    · exact absurd h hk
    · have ha : axT t = 1 := by unfold axT; rw [if_neg (by omega)]
      have hs : sizesT t = wsT t := by unfold sizesT; rw [if_neg (by omega)]
      rw [ha] at hcut hat
      have hfill : fillP t.r.w (sizesT t) := by
        rcases hcut with ⟨-, h⟩ | ⟨h, -⟩
        · exact h
        · omega
      rcases hax with rfl | rfl
      · refine ⟨fun _ => ?_, fun hn => by rw [h] at hn; simp [alB] at hn⟩
        have h2 := hfill.2
        rw [off_all, hlen, hs] at h2
        exact h2
      · refine ⟨fun hn => by rw [h] at hn; simp [alB] at hn, fun _ j u hu => ?_⟩
        have h3 := hat j u hu
        rw [cutParts, if_pos rfl, parts_at _ _ _ _ _ (hlt j u hu)] at h3
        have h4 := Option.some.inj h3
        rw [← h4]; rfl
    · have ha : axT t = 2 := by unfold axT; rw [if_pos h]
      have hs : sizesT t = hsT t := by unfold sizesT; rw [if_pos h]
      rw [ha] at hcut hat
      have hfill : fillP t.r.h (sizesT t) := by
        rcases hcut with ⟨h, -⟩ | ⟨-, h⟩
        · omega
        · exact h
      rcases hax with rfl | rfl
      · refine ⟨fun hn => by rw [h] at hn; simp [alB] at hn, fun _ j u hu => ?_⟩
        have h3 := hat j u hu
        rw [cutParts, if_neg (by decide), parts_at _ _ _ _ _ (hlt j u hu)] at h3
        have h4 := Option.some.inj h3
        rw [← h4]; rfl
      · refine ⟨fun _ => ?_, fun hn => by rw [h] at hn; simp [alB] at hn⟩
        have h2 := hfill.2
        rw [off_all, hlen, hs] at h2
        exact h2

theorem leaf_ls {t : T} (hw : wellT t = true) (hk : t.k = 1) (ax : Int) : lsT ax t = 1 := by
  unfold wellT wellB at hw
  simp only [Bool.and_eq_true, Bool.or_eq_true, decide_eq_true_eq] at hw
  have hl : t.kids = [] := List.length_eq_zero_iff.1 (by omega)
  rw [ls_eq, hl]; rfl
theorem szS_ge {ax : Int} {l : List T} (h : ∀ u ∈ l, lsT ax u ≤ szA u.r ax) : lsS ax l ≤ szS ax l := by
  induction l with
  | nil => simp [lsS, szS]
  | cons t l ih =>
    have h1 := ih fun u hu => h u (List.mem_cons_of_mem _ hu)
    have h2 := h t (List.mem_cons_self ..)
    unfold szS at *
    rw [List.map_cons, List.sum_cons, lsS]
    omega
theorem lsX_le {ax s : Int} {l : List T} (h : ∀ u ∈ l, lsT ax u ≤ s) (h0 : 0 ≤ s) : lsX ax l ≤ s := by
  induction l with
  | nil => simpa [lsX] using h0
  | cons t l ih =>
    have h1 := ih fun u hu => h u (List.mem_cons_of_mem _ hu)
    have h2 := h t (List.mem_cons_self ..)
    rw [lsX]; omega
theorem szA_pos {r : R} (h : mayB r = true) {ax : Int} (hax : ax = 1 ∨ ax = 2) : 1 ≤ szA r ax ∧ 0 ≤ atA r ax ∧ atA r ax + szA r ax ≤ 10000 := by
  have := may_rect h
  rcases hax with rfl | rfl
  · show 1 ≤ r.w ∧ 0 ≤ r.x ∧ r.x + r.w ≤ 10000; omega
  · show 1 ≤ r.h ∧ 0 ≤ r.y ∧ r.y + r.h ≤ 10000; omega

/-- A tree that tiles is at least as great as its least size. -/
theorem tile_ls {ax : Int} (hax : ax = 1 ∨ ax = 2) (N : Nat) : ∀ t : T, sz t ≤ N → sz t ≤ 20000 → tileB t = true → lsT ax t ≤ szA t.r ax := by
  induction N with
  | zero => intro t h; have := sz_pos t; omega
  | succ N ih =>
    intro t hN hs ht
    obtain ⟨hw, hf⟩ := tile_top hs ht
    have hr := szA_pos (well_rect hw) hax
    have hkid : ∀ u ∈ t.kids, lsT ax u ≤ szA u.r ax := fun u hu => by
      obtain ⟨j, hj⟩ := List.getElem?_of_mem hu
      have := sz_kid hj
      exact ih u (by omega) (by omega) (tile_kid hs ht hj)
    by_cases hk : t.k = 1
    · rw [leaf_ls hw hk]; omega
    · obtain ⟨f1, f2⟩ := fit_kids hw hf hk ax hax
      cases ha : alB t.k ax with
      | true =>
        rw [ls_yes (ok_may (tile_may ht)) ha]
        have h1 := f1 ha
        have h2 := szS_ge hkid
        omega
      | false =>
        rw [ls_no ha]
        have h3 := lsX_le (ax := ax) (s := szA t.r ax) (l := t.kids) (fun u hu => by
          obtain ⟨j, hj⟩ := List.getElem?_of_mem hu
          rw [← f2 ha j u hj]; exact hkid u hu) (by omega)
        omega

/-- What a tree that tiles can give: together, along its kids' own axis. -/
theorem gives_sum {ax : Int} (hax : ax = 1 ∨ ax = 2) {t : T} (hs : sz t ≤ 20000) (ht : tileB t = true) (hk : t.k ≠ 1) (ha : alB t.k ax = true) : gvT ax t = gvS ax t.kids := by
  obtain ⟨hw, hf⟩ := tile_top hs ht
  have h1 := (fit_kids hw hf hk ax hax).1 ha
  rw [gvS_is, gvT, ls_yes (ok_may (tile_may ht)) ha]
  omega
/-- The least of the first ones, ahead of them 10000. -/
def mnK (ax s : Int) (l : List T) (k : Nat) : Int := if k = 0 then 10000 else s - lsX ax (l.take k)
theorem mn_zero (ax s : Int) (l : List T) : mnK ax s l 0 = 10000 := rfl
theorem mn_step {ax s : Int} {l : List T} {k : Nat} {u : T} (h : l[k]? = some u) (hs : s ≤ 10000) (hu : szA u.r ax = s) : mnK ax s l (k + 1) = min (mnK ax s l k) (gvT ax u) := by
  have hp := ls_pos ax u
  unfold mnK gvT
  rw [if_neg (by omega), lsX_step h, hu]
  by_cases hk : k = 0
  · rw [if_pos hk]
    subst hk
    simp only [List.take_zero, lsX]
    omega
  · rw [if_neg hk]
    omega
theorem gives_min {ax : Int} {t : T} (hs : sz t ≤ 20000) (ht : tileB t = true) (hk : t.k ≠ 1) (ha : alB t.k ax = false) : gvT ax t = mnK ax (szA t.r ax) t.kids t.kids.length := by
  obtain ⟨hw, -⟩ := tile_top hs ht
  have hl : 2 ≤ t.kids.length := by
    unfold wellT wellB at hw
    simp only [Bool.and_eq_true, Bool.or_eq_true, decide_eq_true_eq] at hw
    omega
  have hp := lsX_pos ax t.kids (fun e => by rw [e] at hl; simp at hl)
  rw [gvT, mnK, if_neg (by omega), List.take_length, ls_no ha]
  omega
end Go.Proofs.YtcdiogifgemjbaaGreat
/- Shares, round by round: who has given how much behind m askings; one way only; all that they can; evens. No walk. -/
namespace Go.Proofs.YtcdiogifgemjbaaGreat.Sh

/-- How often the i-th of n has been asked behind m askings, one by one, round by round. -/
def vis (n m i : Nat) : Nat := m / n + if i < m % n then 1 else 0
theorem vis_zero (n i : Nat) : vis n 0 i = 0 := by simp [vis]
theorem div_mod_of {n m q s : Nat} (h : m = n * q + s) (hs : s < n) : m / n = q ∧ m % n = s := by
  subst h
  constructor
  · rw [Nat.mul_add_div (by omega), Nat.div_eq_of_lt hs, Nat.add_zero]
  · rw [Nat.mul_add_mod, Nat.mod_eq_of_lt hs]
theorem vis_succ {n m i : Nat} (hi : i < n) : vis n (m + 1) i = vis n m i + if m % n = i then 1 else 0 := by
  have hm := Nat.div_add_mod m n
  have hs := Nat.mod_lt m (show 0 < n by omega)
  generalize hq : m / n = q at hm
  generalize hr : m % n = s at hm hs
  unfold vis
  rw [hq, hr]
  by_cases h : s + 1 < n
  · obtain ⟨h1, h2⟩ := div_mod_of (n := n) (m := m + 1) (q := q) (s := s + 1) (by omega) h
    rw [h1, h2]
    split <;> split <;> split <;> omega
  · obtain ⟨h1, h2⟩ := div_mod_of (n := n) (m := m + 1) (q := q + 1) (s := 0) (by rw [Nat.mul_add]; omega) (by omega)
    rw [h1, h2]
    split <;> split <;> split <;> omega
theorem vis_mono {n m m' i : Nat} (hi : i < n) (h : m ≤ m') : vis n m i ≤ vis n m' i := by
  induction m' with
  | zero => have : m = 0 := by omega
            subst this; exact Nat.le_refl _
  | succ k ih =>
    by_cases hk : m = k + 1
    · subst hk; exact Nat.le_refl _
    · have := ih (by omega)
      rw [vis_succ hi]; omega
theorem vis_round {n r i : Nat} (hi : i < n) : vis n (n * r) i = r := by
  obtain ⟨h1, h2⟩ := div_mod_of (n := n) (m := n * r) (q := r) (s := 0) (by omega) (by omega)
  unfold vis; rw [h1, h2]; simp

/-- What each has given behind m askings; g tells how much each can (none: as much as it is asked). -/
def cap (g : Option (List Nat)) (i v : Nat) : Nat := match g with
  | none => v
  | some l => min (l.getD i 0) v
def out (g : Option (List Nat)) (n m : Nat) : List Nat := (List.range n).map fun i => cap g i (vis n m i)
theorem out_len (g : Option (List Nat)) (n m : Nat) : (out g n m).length = n := by simp [out]
theorem out_at (g : Option (List Nat)) {n m i : Nat} (hi : i < n) : (out g n m)[i]? = some (cap g i (vis n m i)) := by
  simp [out, hi]
theorem cap_mono (g : Option (List Nat)) (i : Nat) {a b : Nat} (h : a ≤ b) : cap g i a ≤ cap g i b := by
  unfold cap; split <;> omega
/-- One asking: it turns one place only. -/
theorem out_other (g : Option (List Nat)) {n m i : Nat} (hi : i < n) (h : m % n ≠ i) : (out g n (m + 1))[i]? = (out g n m)[i]? := by
  rw [out_at g hi, out_at g hi, vis_succ hi, if_neg h, Nat.add_zero]
theorem out_set (g : Option (List Nat)) {n m : Nat} (hn : 0 < n) : out g n (m + 1) = (out g n m).set (m % n) (cap g (m % n) (vis n m (m % n) + 1)) := by
  have hs := Nat.mod_lt m hn
  refine List.ext_getElem? fun i => ?_
  by_cases hi : i < n
  · by_cases h : m % n = i
    · rw [out_at g hi, List.getElem?_set, if_pos h, if_pos (by rw [out_len]; omega), vis_succ hi, if_pos h, h]
    · rw [out_other g hi h, List.getElem?_set, if_neg h]
  · rw [List.getElem?_eq_none (by rw [out_len]; omega), List.getElem?_eq_none (by rw [List.length_set, out_len]; omega)]
theorem sum_set {l : List Nat} {i a b : Nat} (h : l[i]? = some a) : (l.set i b).sum + a = l.sum + b := by
  induction l generalizing i with
  | nil => simp at h
  | cons x l ih =>
    cases i with
    | zero => simp at h; subst h; simp; omega
    | succ i =>
      have := ih (i := i) (by simpa using h)
      simp; omega
theorem out_sum (g : Option (List Nat)) {n m : Nat} (hn : 0 < n) : (out g n (m + 1)).sum + cap g (m % n) (vis n m (m % n)) = (out g n m).sum + cap g (m % n) (vis n m (m % n) + 1) := by
  rw [out_set g hn]
  exact sum_set (out_at g (Nat.mod_lt m hn))
theorem out_zero_sum (g : Option (List Nat)) (n : Nat) : (out g n 0).sum = 0 := by
  have : out g n 0 = (List.range n).map fun _ => 0 := by
    unfold out
    refine List.map_congr_left fun i _ => ?_
    rw [vis_zero]; unfold cap; split <;> omega
  rw [this]
  clear this
  induction n with
  | zero => rfl
  | succ k ih => rw [List.range_succ, List.map_append, List.sum_append, ih]; rfl
/-- As much is given as was asked for, where each gives whatever it is asked. -/
theorem give_sum {n : Nat} (hn : 0 < n) (m : Nat) : (out none n m).sum = m := by
  induction m with
  | zero => exact out_zero_sum none n
  | succ m ih =>
    have := out_sum none (m := m) hn
    unfold cap at this
    simp only at this
    omega
theorem out_mono (g : Option (List Nat)) {n m m' : Nat} (h : m ≤ m') {i : Nat} (hi : i < n) : cap g i (vis n m i) ≤ cap g i (vis n m' i) := cap_mono g i (vis_mono hi h)
theorem sum_le {α : Type} {l : List α} {f h : α → Nat} (hle : ∀ x ∈ l, f x ≤ h x) : (l.map f).sum ≤ (l.map h).sum := by
  induction l with
  | nil => exact Nat.le_refl _
  | cons x l ih =>
    have h1 := hle x (List.mem_cons_self ..)
    have h2 := ih fun y hy => hle y (List.mem_cons_of_mem _ hy)
    simp only [List.map_cons, List.sum_cons]; omega
theorem sum_eq {α : Type} {l : List α} {f h : α → Nat} (hle : ∀ x ∈ l, f x ≤ h x) (he : (l.map f).sum = (l.map h).sum) : ∀ x ∈ l, f x = h x := by
  induction l with
  | nil => intro x hx; cases hx
  | cons y l ih =>
    have h1 := hle y (List.mem_cons_self ..)
    have h2 := sum_le (f := f) (h := h) fun z hz => hle z (List.mem_cons_of_mem _ hz)
    simp only [List.map_cons, List.sum_cons] at he
    intro x hx
    rcases List.mem_cons.1 hx with rfl | hx
    · omega
    · exact ih (fun z hz => hle z (List.mem_cons_of_mem _ hz)) (by omega) x hx
/-- One way only: what is given together tells what each gives. -/
theorem out_one (g : Option (List Nat)) {n m m' : Nat} (h : (out g n m).sum = (out g n m').sum) : out g n m = out g n m' := by
  have key : ∀ a b : Nat, a ≤ b → (out g n a).sum = (out g n b).sum → out g n a = out g n b := fun a b hab he => by
    unfold out at he ⊢
    refine List.map_congr_left fun i hi => ?_
    exact sum_eq (fun i hi => out_mono g hab (List.mem_range.1 hi)) he i hi
  rcases Nat.le_total m m' with hm | hm
  · exact key m m' hm h
  · exact (key m' m hm h.symm).symm
/-- No more than all can give. -/
theorem take_map (l : List Nat) (m : Nat) : out (some l) l.length m = (List.range l.length).map fun i => min (l.getD i 0) (vis l.length m i) := rfl
theorem all_map (l : List Nat) : l = (List.range l.length).map fun i => l.getD i 0 := by
  refine List.ext_getElem? fun i => ?_
  by_cases hi : i < l.length
  · simp [hi]
  · rw [List.getElem?_eq_none (by omega), List.getElem?_eq_none (by simp; omega)]
theorem take_le (l : List Nat) (m : Nat) : (out (some l) l.length m).sum ≤ l.sum := by
  conv => rhs; rw [all_map l]
  rw [take_map]
  exact sum_le fun i _ => Nat.min_le_left _ _
/-- A whole round in which none gave: all gave all they can. -/
theorem take_stuck (l : List Nat) (r : Nat) (h : (out (some l) l.length (l.length * r)).sum = (out (some l) l.length (l.length * (r + 1))).sum) : (out (some l) l.length (l.length * r)).sum = l.sum := by
  have h1 := out_one (some l) h
  rw [take_map, take_map] at h1
  rw [take_map]
  conv => rhs; rw [all_map l]
  congr 1
  refine List.map_congr_left fun i hi => ?_
  have hi' := List.mem_range.1 hi
  have h2 : min (l.getD i 0) (vis l.length (l.length * r) i) = min (l.getD i 0) (vis l.length (l.length * (r + 1)) i) := by
    have := congrArg (fun z : List Nat => z[i]?) h1
    simpa [hi'] using this
  rw [vis_round hi', vis_round hi'] at h2
  rw [vis_round hi']
  omega
/-- Evens: what is given differs by 1 at most. -/
theorem vis_near {n m i k : Nat} : vis n m i ≤ vis n m k + 1 := by
  unfold vis; split <;> split <;> omega
/-- One that gave less than another, by more than 1, gave all it could. -/
theorem take_near {l : List Nat} {m i k : Nat} (h : cap (some l) i (vis l.length m i) + 1 < cap (some l) k (vis l.length m k)) : cap (some l) i (vis l.length m i) = l.getD i 0 := by
  have h1 := vis_near (n := l.length) (m := m) (i := k) (k := i)
  unfold cap at h ⊢
  simp only at h ⊢
  omega
end Go.Proofs.YtcdiogifgemjbaaGreat.Sh
