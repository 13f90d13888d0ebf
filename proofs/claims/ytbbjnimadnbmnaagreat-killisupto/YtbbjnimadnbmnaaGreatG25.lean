/- Texts of this seat, 3 in one file. -/
import Derived.Test.YtbbjnimadnbmnaaGreatG24
import Derived.Test.YtbbjnimadnbmnaaGreatG21
import Derived.IntWalk
/- Both, the elder one and the new one: the document's answer. -/
namespace Go.Proofs.YtbbjnimadnbmnaaGreat
open Go.RowKit

abbrev pairC (c d : C) : Obj := .cells #[.int .u8 c.k, .int .i64 c.r.x, .int .i64 c.r.y, .int .i64 c.r.w, .int .i64 c.r.h, .int .i64 c.id, .slice c.a c.n c.cap, .int .u8 d.k, .int .i64 d.r.x, .int .i64 d.r.y, .int .i64 d.r.w, .int .i64 d.r.h, .int .i64 d.id, .slice d.a d.n d.cap] 26
theorem pair_own (w : World) (base : Nat) (hb : base ≤ w.heap.size) (c d : C) : OwnC (w.alloc (pairC c d)) base (.slice (some ⟨w.heap.size, 0, none⟩) 2 2) [c, d] := by
  refine ⟨by simp [flatC_length], .inr ⟨w.heap.size, 2, _, rfl, hb, heap_alloc_new w _, by simp, by unfold maxLen; omega, rfl, ?_⟩⟩
  rfl

def BothSays (l : List C) (w : World) (e : Ending) (w' : World) : Prop := ∃ v, e = .returned v ∧ OwnC w' w.heap.size v l ∧ Below w.heap.size w w'
theorem both_end {w W : World} {l : List C} {c d x y : C} {n : Nat} (hn : n = W.heap.size + 2) (h : l = [c, d]) (hb : Below w.heap.size w W) : BothSays l w (.returned (.slice (some ⟨n, 0, none⟩) 2 2)) (((W.alloc (cbox x)).alloc (cbox y)).alloc (pairC c d)) := by
  subst h
  have hb2 : Below w.heap.size w ((W.alloc (cbox x)).alloc (cbox y)) := (hb.alloc hb.size _).alloc (by have := hb.size; simp; omega) _
  have hs : ((W.alloc (cbox x)).alloc (cbox y)).heap.size = n := by simp; omega
  have h := pair_own ((W.alloc (cbox x)).alloc (cbox y)) _ hb2.size c d
  rw [hs] at h
  exact ⟨_, rfl, h, hb2.alloc hb2.size _⟩

end Go.Proofs.YtbbjnimadnbmnaaGreat
/- A tree in which a leaf is two: the document's answer. -/
namespace Go.Proofs.YtbbjnimadnbmnaaGreat
open Go.RowKit

abbrev cellW (w : World) (c : C) : World := (w.alloc (cbox c)).alloc zeroBox
theorem cellW_below (w : World) (c : C) : Below w.heap.size w (cellW w c) := ((Below.refl _ _).alloc (Nat.le_refl _) _).alloc (by simp) _
theorem cellW_box (w : World) (c : C) : Box7 (cellW w c) w.heap.size c := (Box7.new w c).up ((Below.refl _ _).alloc (Nat.le_refl _) _)
theorem cellW_zero (w : World) (c : C) : Zero7 (cellW w c) (w.heap.size + 1) := by
  have := zero_new (w.alloc (cbox c))
  simpa using this
theorem cellW_size (w : World) (c : C) : (cellW w c).heap.size = w.heap.size + 2 := by simp

/-- A tree that stands on elder memory and what the call made. -/
def GrSays (E : World → Prop) (t : T) (w : World) (e : Ending) (w' : World) : Prop := ∃ d, e = .returned (cval d) ∧ Stands E w' w.heap.size w'.heap.size d t ∧ Below w.heap.size w w'
theorem gr_of {E : World → Prop} {w w' : World} {t t' : T} {d : C} (he : t' = t) (h : ∀ W, E W → Is W d t) (hb : Below w.heap.size w w') : GrSays E t' w (.returned (cval d)) w' := by
  subst he
  exact ⟨d, rfl, fun W' h0 _ => h W' h0, hb⟩
abbrev endW (w wr : World) (d : C) : World := put7 (wr.setCell ⟨w.heap.size, 6, none⟩ (.slice d.a d.n d.cap)) (w.heap.size + 1) d
theorem endW_other {w wr : World} {d : C} {k : Nat} (h1 : k ≠ w.heap.size) (h2 : k ≠ w.heap.size + 1) : (endW w wr d).heap[k]? = wr.heap[k]? := by
  rw [heap_put7 h2, Below.heap_setCell wr ⟨w.heap.size, 6, none⟩ _ k h1]
theorem endW_size (w wr : World) (d : C) : (endW w wr d).heap.size = wr.heap.size := by rw [size_put7]; simp [World.setCell]
theorem gr_end {E : World → Prop} {w wr : World} {k : Int} {r : R} {id : Int} {a : Option Addr} {cap : Nat} {cs : List C} {l : List T} {t' : T} (he : t' = .node k r id l) (hb : Below w.heap.size w wr) (h : Grove E wr (w.heap.size + 2) (.slice a cs.length cap) cs l) (hk : 0 ≤ k ∧ k ≤ 255) (hr : r.fits) (hi : fits id) (hl : l.length ≤ 1954687338211) :
    GrSays E t' w (.returned (cval ⟨k, r, id, a, cs.length, cap⟩)) (endW w wr ⟨k, r, id, a, cs.length, cap⟩) := by
  subst he
  refine ⟨_, rfl, ?_, below_put7 (hb.setCell (Nat.le_refl _) _) (by omega) _⟩
  have hst := h.tree (k := k) (r := r) (id := id) hk hr hi hl
  exact (hst.move (w2 := endW w wr ⟨k, r, id, a, cs.length, cap⟩) fun j hj _ => endW_other (by omega) (by omega)).wide (by omega) (by rw [endW_size]; exact Nat.le_refl _)

end Go.Proofs.YtbbjnimadnbmnaaGreat
/- The least size of a tree: the program's walk. -/
namespace Go.Proofs.YtbbjnimadnbmnaaGreat
open Go.RowKit

theorem ls_fin {ax : Int} {t : T} (h : okT t) (a : Bool) (ha : alB t.k ax = a) : lsT ax t = if a = true then ((t.kids.length : Int) - 1) + lsS ax t.kids else max 1 (lsX ax t.kids) := by
  cases a with
  | true => rw [ls_yes h ha, if_pos rfl]; omega
  | false => rw [ls_no ha, if_neg (by decide)]

set_option maxRecDepth 100000 in
set_option maxHeartbeats 800000 in
theorem least_any (ax : Int) (N : Nat) : ∀ (t : T) (c : C) (w : World), sz t ≤ N → sz t ≤ 1000000 → okT t → Is w c t →
    Calls Tryz.prog 97 #[cval c, .int .u8 ax] w fun e w' => e = .returned (.int .i64 (lsT ax t)) ∧ Below w.heap.size w w' := by
  induction N with
  | zero => intro t c w h; have := sz_pos t; omega
  | succ N ih =>
    intro t c w hs hm hok hi
    have HR := Lib.hid hi.row
    have HKK := Lib.hid hi.split.1
    have hn := hi.n
    have hfn := hi.fine.2.2.2
    obtain ⟨ck, cr, cid, ca, cn, ccap⟩ := c
    simp only at hn hfn HKK
    subst hn
    clear hi
    have HS := Lib.hid hs
    have HM := Lib.hid hm
    have HOK := Lib.hid hok
    have HIH := Lib.hid ih
    have HKL : Hid (t.kids.length ≤ 1000000) := Lib.hid (kids_le hm)
    have HSL : Hid (szL t.kids ≤ 1000000) := Lib.hid (by have := sz_node t; omega)
    clear hs hm ih hok
    have hkl1 : t.kids.length ≤ 1000000 := HKL.out
    have HFN := Lib.hid (ls_fin (ax := ax) HOK.out _ rfl)
    generalize lsT ax t = ll at HFN ⊢
    go_enter Tryz.func97, Tryz.ntmps97
    go_wp2
    go_loopg [5, 6, 17] (t.kids.length + 1) (fun g s x i wr => ∃ k : Nat, g + k = t.kids.length + 1 ∧ k ≤ t.kids.length ∧ i = .int .i64 k ∧ s = .int .i64 (((t.kids.length : Int) - 1) + lsS ax (t.kids.take k)) ∧ x = .int .i64 (max 1 (lsX ax (t.kids.take k))) ∧ Below (w.alloc (cbox ⟨ck, cr, cid, ca, t.kids.length, ccap⟩)).heap.size (w.alloc (cbox ⟨ck, cr, cid, ca, t.kids.length, ccap⟩)) wr)
    case atStart => exact ⟨0, by omega, by omega, rfl, by simp [lsS], by simp [lsX]; rfl, Below.refl _ _⟩
    case round =>
      obtain ⟨k, hg, hk, rfl, rfl, rfl, hb⟩ := hrel
      have HG := Lib.hid hg
      have HB := Lib.hid hb
      clear hg hb
      by_cases hlt : k < t.kids.length
      · have hlti : (k : Int) < (t.kids.length : Int) := by omega
        obtain ⟨b, o, rfl, hf⟩ := HR.out.place (by omega)
        obtain ⟨u, hu⟩ : ∃ u, t.kids[k]? = some u := ⟨_, List.getElem?_eq_getElem hlt⟩
        obtain ⟨x, hx, hix⟩ := hf k u hu
        clear hf
        obtain ⟨c0, c1, c2, c3, c4, c5, c6⟩ := hx.up (below_one HB.out)
        have HA : Hid (Below wr.heap.size wr (wr.alloc (cbox x))) := (Below.refl _ _).alloc (Nat.le_refl _) _
        have HK := Lib.hid (HIH.out u x (wr.alloc (cbox x)) (by have := HS.out; have := sz_kid hu; omega) (by have := HM.out; have := sz_kid hu; omega) (ok_kid HOK.out hu) ((hix.up (below_one HB.out)).up HA.out))
        have HST := Lib.hid (lsS_step (ax := ax) hu)
        have HXT := Lib.hid (lsX_step (ax := ax) hu)
        have hp1 := ls_pos ax u
        have hp2 : lsT ax u ≤ 2000000 := by have := ls_sz ax u; have := sz_kid hu; have := HM.out; omega
        have hp3 := lsS_pos ax (t.kids.take k)
        have hp4 : lsS ax (t.kids.take k) ≤ 2000000 := by have := lsS_sz ax (t.kids.take k); have := szL_take_le t.kids k; have := HSL.out; omega
        have hp5 := lsX_nonneg ax (t.kids.take k)
        clear hix hu hx
        generalize lsS ax (t.kids.take k) = m at HST hp3 hp4 ⊢
        generalize lsX ax (t.kids.take k) = mx at HXT hp5 ⊢
        generalize lsT ax u = dd at HK HST HXT hp1 hp2
        go_wp2_with fail
        refine HK.out.mono ?_
        rintro e w2 ⟨rfl, hb2⟩
        have HB2 := Lib.hid (HB.out.trans ((below_one hb2).mono HB.out.size))
        clear hb2 c0 c1 c2 c3 c4 c5 c6
        have HMX : Hid (max (max 1 mx) dd = max 1 (lsX ax (t.kids.take (k + 1)))) := Lib.hid (by rw [HXT.out]; omega)
        generalize max (1 : Int) mx = X at HMX ⊢
        obtain ⟨Z, hZ⟩ : ∃ Z : Int, max X dd = Z := ⟨_, rfl⟩
        go_wp2
        go_roundg (gk - 1)
        case measure => have := HG.out; omega
        case rel =>
          refine ⟨k + 1, by have := HG.out; omega, by omega, by go_num, ?_, ?_, HB2.out⟩
          · rw [HST.out, ← Int.add_assoc]
          · rw [← HMX.out, hZ]
      · obtain rfl : k = t.kids.length := by omega
        have hkl : ((t.kids.length : Int) < (t.kids.length : Int)) = False := by simp
        rw [List.take_length]
        have HAL := Lib.hid (along8_any ⟨ck, cr, cid, ca, t.kids.length, ccap⟩ ax wr)
        rw [HKK.out] at HFN
        obtain ⟨c0, c1, c2, c3, c4, c5, c6⟩ := box_at HB.out
        simp only [Nat.zero_add] at c1 c2 c3 c4 c5 c6
        simp only at HAL
        generalize lsS ax t.kids = m at HFN ⊢
        generalize lsX ax t.kids = mx at HFN ⊢
        generalize alB ck ax = a at HAL HFN
        go_wp2_with fail
        refine HAL.out.mono ?_
        rintro e w2 ⟨rfl, hb2⟩
        have HB2 := Lib.hid (HB.out.trans (hb2.mono HB.out.size))
        clear hb2 c0 c1 c2 c3 c4 c5 c6
        cases a with
        | true =>
          have HF2 : Hid (ll = ((t.kids.length : Int) - 1) + m) := Lib.hid (by have := HFN.out; rw [if_pos rfl] at this; exact this)
          clear HFN
          go_wp2
          go_ret
          exact ⟨ret_int HF2.out.symm, below_one HB2.out⟩
        | false =>
          have HF2 : Hid (ll = max 1 mx) := Lib.hid (by have := HFN.out; rw [if_neg (by decide)] at this; exact this)
          clear HFN
          go_wp2
          go_ret
          exact ⟨ret_int HF2.out.symm, below_one HB2.out⟩
end Go.Proofs.YtbbjnimadnbmnaaGreat
