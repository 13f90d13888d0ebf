/- The document's answer: does a tree tile, its lines, and which cell doesn't. -/
import Derived.Test.YtajhojbnpajelaaAppR
import Derived.Test.YtajhojbnpajelaaROneB
import Derived.Test.YtajhojbnpajelaaRMay
namespace Go.Proofs.Ytajhojbnpajelaa
open Go.RowKit

theorem well_kind {t : T} (h : wellT t = true) : t.k = 1 ∨ t.k = 2 ∨ t.k = 3 := by
  unfold wellT wellB at h
  simp only [Bool.and_eq_true, Bool.or_eq_true, decide_eq_true_eq] at h
  omega
theorem rmay_well {t u : T} (h : rmayT t = true) (hu : u ∈ preT t) : wellT u = true := by
  unfold rmayT at h
  rw [Bool.and_eq_true] at h
  exact List.all_eq_true.1 h.1 u hu
theorem cutLines_len (r : R) (ax : Int) (ms : List Int) (b : Bool) : (cutLines r ax ms b).length ≤ ms.length := by
  cases b with
  | false => simp [cutLines]
  | true => simp only [cutLines]; split <;> rw [linesL_length] <;> omega
theorem linesT_len (t : T) : (linesT t).length ≤ t.kids.length := by
  unfold linesT
  split
  · simp
  · have := cutLines_len t.r (axT t) (sizesT t) true
    rw [sizes_len] at this
    exact this
def allLines (l : List T) : List R := l.flatMap linesT
theorem allLines_step {l : List T} {k : Nat} {u : T} (h : l[k]? = some u) : allLines (l.take (k + 1)) = allLines (l.take k) ++ linesT u := by
  unfold allLines; rw [List.take_add_one, h]; simp
mutual
theorem pre_kids : ∀ (t u : T), u ∈ preT t → u.kids.length ≤ sz t
  | .node k r i l, u, h => by
    rw [preT] at h
    rw [sz]
    rcases List.mem_cons.1 h with rfl | h
    · have := szL_len l; show l.length ≤ _; omega
    · have := preL_kids l u h; omega
theorem preL_kids : ∀ (l : List T) (u : T), u ∈ preL l → u.kids.length ≤ szL l
  | [], u, h => by rw [preL] at h; cases h
  | t :: l, u, h => by
    rw [preL] at h
    rw [szL]
    rcases List.mem_append.1 h with h | h
    · have := pre_kids t u h; omega
    · have := preL_kids l u h; omega
end
theorem allLines_len {l : List T} {n : Nat} (h : ∀ u ∈ l, u.kids.length ≤ n) : (allLines l).length ≤ l.length * n := by
  induction l with
  | nil => simp [allLines]
  | cons t l ih =>
    have h1 := ih fun u hu => h u (List.mem_cons_of_mem _ hu)
    have h2 := h t (List.mem_cons_self ..)
    have h3 := linesT_len t
    unfold allLines at *
    rw [List.flatMap_cons, List.length_append, List.length_cons, Nat.add_mul]
    omega
theorem Owns.empty (w : World) (base : Nat) (hb : base ≤ w.heap.size) : Owns (w.alloc (.cells #[] 23)) base (.slice (some ⟨w.heap.size, 0, none⟩) 0 0) [] := World.ownsRow_made w #[] 0 hb (Nat.zero_le _) (by simp)

def RCheckSays (t : T) (w : World) (e : Ending) (w' : World) : Prop := ∃ (v : Value) (no pl : Int) (l : List R), e = .returned (.tuple #[v, .int .i64 no, .int .i64 pl]) ∧ RRow w' v l ∧ Below w.heap.size w w' ∧
  ((rmayT t = false ∧ no = 1 ∧ pl = 0 ∧ l = []) ∨ (rmayT t = true ∧ (preT t).all fitB = true ∧ no = 0 ∧ pl = 0 ∧ l = allLines (preT t)) ∨ (rmayT t = true ∧ (preT t).all fitB = false ∧ no = 5 ∧ pl = ((preT t).findIdx fun u => !fitB u : Nat) ∧ l = []))

theorem idx_first {l : List T} {k : Nat} {u : T} (hu : l[k]? = some u) (hf : fitB u = false) (h : ∀ (j : Nat) (x : T), j < k → l[j]? = some x → fitB x = true) : l.findIdx (fun u => !fitB u) = k ∧ l.all fitB = false := by
  have hk := (List.getElem?_eq_some_iff.1 hu).1
  have hue : l[k] = u := (List.getElem?_eq_some_iff.1 hu).2
  constructor
  · rw [List.findIdx_eq hk]
    refine ⟨by rw [hue, hf]; rfl, fun j hj => ?_⟩
    have := h j l[j] hj (List.getElem?_eq_getElem (by omega))
    rw [this]; rfl
  · cases e : l.all fitB with
    | false => rfl
    | true => rw [List.all_eq_true.1 e u (List.mem_of_getElem? hu)] at hf; cases hf

set_option maxRecDepth 100000 in
set_option maxHeartbeats 1600000 in
theorem rcheck_any (t : T) (c : C) (w : World) (hi : Is w c t) (hs : sz t ≤ 999) : Calls Try.prog 31 #[cval c] w (RCheckSays t w) := by
  have B1 : Hid (Below w.heap.size w ((w.alloc (cbox c)).alloc (.cells #[] 23))) := Lib.hid (((Below.refl _ _).alloc (Nat.le_refl _) _).alloc (by simp) _)
  have C1 := Lib.hid ((cbox_new w c).up ((Below.refl _ _).alloc (Nat.le_refl _) (.cells #[] 23)))
  have HMY := Lib.hid (rmayOne_any t c ((w.alloc (cbox c)).alloc (.cells #[] 23)) (by omega) (hi.up B1.out))
  have HI := Lib.hid hi
  have HS := Lib.hid hs
  clear hi hs
  cases hm : rmayT t with
  | false =>
    rw [hm] at HMY
    have HM := Lib.hid hm
    clear hm
    go_enter Try.func31, Try.ntmps31
    go_wp2_with fail
    refine HMY.out.mono ?_
    rintro e w2 ⟨rfl, hb2⟩
    have HB2 := Lib.hid (B1.out.trans (hb2.mono B1.out.size))
    clear hb2
    go_wp2
    go_ret3
    exact ⟨_, 1, 0, [], rfl, .inl ⟨_, _, rfl, rfl⟩, HB2.out, .inl ⟨HM.out, rfl, rfl, rfl⟩⟩
  | true =>
    rw [hm] at HMY
    have HM := Lib.hid hm
    clear hm
    go_enter Try.func31, Try.ntmps31
    go_wp2_with fail
    refine HMY.out.mono ?_
    rintro e w2 ⟨rfl, hb2⟩
    have HB2 := Lib.hid (B1.out.trans (hb2.mono B1.out.size))
    obtain ⟨c0, c1, c2, c3, c4, c5, c6⟩ := C1.out.up hb2
    simp only [Nat.zero_add] at c1 c2 c3 c4 c5 c6
    clear hb2
    have HAL := Lib.hid (rall_any w2 (sz t) t c w2 (Nat.le_refl _) (by have := HS.out; omega) (HI.out.up HB2.out) (Below.refl _ _))
    go_wp2_with fail
    refine HAL.out.mono ?_
    rintro e w3 ⟨vl, al, rfl, howl, htl, hb3⟩
    have HT := Lib.hid htl
    have hall : al.length ≤ 999 := by rw [htl.1, preT_len]; exact HS.out
    have HALN : Hid (al.length = (preT t).length) := Lib.hid htl.1
    have HROW := Lib.hid howl.row
    obtain ⟨aa, capl, rfl⟩ := howl.row.shape
    have HB23 := Lib.hid hb3
    have HB3 := Lib.hid (HB2.out.trans (hb3.mono HB2.out.size))
    have HO := Lib.hid (Owns.empty w3 w3.heap.size (Nat.le_refl _))
    have HB4 : Hid (Below w3.heap.size w3 (w3.alloc (.cells #[] 23))) := (Below.refl _ _).alloc (Nat.le_refl _) _
    clear hb3 howl htl c0 c1 c2 c3 c4 c5 c6
    go_wp2
    go_loopg [7, 21] (al.length + 1) (fun g v i wr => ∃ k : Nat, g + k = al.length + 1 ∧ k ≤ al.length ∧ i = .int .i64 k ∧ Owns wr w3.heap.size v (allLines ((preT t).take k)) ∧ (∀ (j : Nat) (u : T), j < k → (preT t)[j]? = some u → fitB u = true) ∧ Below w3.heap.size w3 wr)
    case atStart => exact ⟨0, by omega, by omega, rfl, HO.out, fun j u hj => by omega, HB4.out⟩
    case round =>
      obtain ⟨k, hg, hk, rfl, hown, hfit, hb⟩ := hrel
      have HG := Lib.hid hg
      have HOW := Lib.hid hown
      have HFT := Lib.hid hfit
      have HB := Lib.hid hb
      clear hg hown hfit hb
      by_cases hlt : k < al.length
      · obtain ⟨x, u, hx, hu, hxu⟩ := HT.out.at hlt
        obtain ⟨b, o, rfl, hf⟩ := HROW.out.place (by omega)
        obtain ⟨c0, c1, c2, c3, c4, c5, c6⟩ := (hf k x hx).up HB.out
        have hki : (k : Int) < (al.length : Int) := by omega
        have hmem := List.mem_of_getElem? hu
        have HKL : Hid (u.kids.length ≤ 999) := Lib.hid (Nat.le_trans (pre_kids t u hmem) HS.out)
        have HON := Lib.hid (rone_any u x wr (hxu.up (HB23.out.trans (HB.out.mono HB23.out.size))) HKL.out (well_kind (rmay_well HM.out hmem)))
        have HU := Lib.hid hu
        have HST := Lib.hid (allLines_step hu)
        have HLE : Hid ((allLines ((preT t).take k)).length ≤ 998001) := Lib.hid (by
          have h1 := allLines_len (l := (preT t).take k) (n := 999) (fun u hu => Nat.le_trans (pre_kids t u (List.mem_of_mem_take hu)) HS.out)
          rw [List.length_take] at h1
          have : min k (preT t).length ≤ 999 := by omega
          have := Nat.mul_le_mul_right 999 this
          omega)
        clear hf hx hxu hmem hu
        go_wp2_with fail
        refine HON.out.mono ?_
        rintro e w5 ⟨v5, rfl, hr5, hb5⟩
        have HB5 := Lib.hid (HB.out.trans (hb5.mono HB.out.size))
        have HOW5 := Lib.hid (HOW.out.up hb5)
        clear hb5 c0 c1 c2 c3 c4 c5 c6
        cases hfu : fitB u with
        | true =>
          rw [hfu] at hr5
          have HR5 : Hid (RRow w5 v5 (linesT u)) := Lib.hid hr5
          have HFU := Lib.hid hfu
          have HLL : Hid ((linesT u).length ≤ 999) := Lib.hid (Nat.le_trans (linesT_len u) HKL.out)
          clear hr5 hfu
          go_wp2_with (at_builtin; refine wpList_append_rects rfl _ _ rfl w3.heap.size _ v5 _ (linesT u) rfl HOW5.out rfl HR5.out (by have := HLE.out; have := HLL.out; omega) w3 HB5.out (Nat.le_refl _) ?_)
          intro v6 w6 ho6 hb6 _ _
          have HO6 := Lib.hid ho6
          have HB6 := Lib.hid hb6
          clear ho6 hb6
          go_wp2
          go_roundg (gk - 1)
          case measure => have := HG.out; omega
          case rel =>
            refine ⟨k + 1, by have := HG.out; omega, by omega, by go_num, by rw [HST.out]; exact HO6.out, fun j a hj ha => ?_, HB6.out⟩
            rcases Nat.lt_or_ge j k with h | h
            · exact HFT.out j a h ha
            · obtain rfl : j = k := by omega
              rw [HU.out] at ha
              cases ha
              exact HFU.out
        | false =>
          have HFF := Lib.hid (idx_first HU.out hfu HFT.out)
          have HBE := Lib.hid (HB3.out.trans (HB5.out.mono HB3.out.size))
          clear hfu hr5
          go_wp2
          go_ret3
          exact ⟨_, 5, k, [], rfl, .inl ⟨_, _, rfl, rfl⟩, HBE.out, .inr (.inr ⟨HM.out, HFF.out.2, rfl, by rw [HFF.out.1], rfl⟩)⟩
      · obtain rfl : k = al.length := by omega
        have hkl : ((al.length : Int) < (al.length : Int)) = False := by simp
        have HAF : Hid ((preT t).all fitB = true) := Lib.hid (by
          rw [List.all_eq_true]
          intro u hu
          obtain ⟨j, hj⟩ := List.getElem?_of_mem hu
          exact HFT.out j u (by have := (List.getElem?_eq_some_iff.1 hj).1; have := HALN.out; omega) hj)
        have HOE : Hid (Owns wr w3.heap.size u7 (allLines (preT t))) := Lib.hid (by
          have h := HOW.out
          rw [List.take_of_length_le (by rw [HALN.out]; exact Nat.le_refl _)] at h
          exact h)
        have HBE := Lib.hid (HB3.out.trans (HB.out.mono HB3.out.size))
        go_wp2
        go_ret3
        exact ⟨_, 0, 0, _, rfl, HOE.out.row, HBE.out, .inr (.inl ⟨HM.out, HAF.out, rfl, rfl, rfl⟩)⟩
end Go.Proofs.Ytajhojbnpajelaa
