/- How many cells a tree has, as far as some more. -/
import Derived.Test.YtcmkhppkdbdfdaaTree
import Derived.IntWalk
namespace Go.Proofs.Ytcmkhppkdbdfdaa
open Go.RowKit

/-- A number of cells that is right up to 200, and above 200 if there are more. -/
def CntIs (n : Nat) (c : Int) : Prop := fits c ∧ (n ≤ 1099511627776 → 1 ≤ c ∧ c ≤ n ∧ (c ≤ 200 → c = n))
def CntSays (n : Nat) (w : World) (e : Ending) (w' : World) : Prop := ∃ c : Int, e = .returned (.int .i64 c) ∧ CntIs n c ∧ Below w.heap.size w w'

theorem wrap_fits (n : Int) : fits (IntKind.i64.wrap n) := by rw [IntKind.wrap_i64]; unfold fits; omega
theorem cnt_more {m n : Nat} {a b : Int} (ha : CntIs m a) (hb : CntIs n b) (h : a ≤ 200) : CntIs (m + n) (IntKind.i64.wrap (a + b)) := by
  refine ⟨wrap_fits _, fun hs => ?_⟩
  obtain ⟨a1, a2, a3⟩ := ha.2 (by omega)
  obtain ⟨b1, b2, b3⟩ := hb.2 (by omega)
  rw [wrap_id (by omega)]
  omega
theorem cnt_over {m n : Nat} {a : Int} (ha : CntIs m a) (h : 200 < a) (hmn : m ≤ n) : CntIs n a := by
  refine ⟨ha.1, fun hs => ?_⟩
  obtain ⟨a1, a2, a3⟩ := ha.2 (by omega)
  omega

theorem below_one {w w' : World} {o : Obj} (h : Below (w.alloc o).heap.size (w.alloc o) w') : Below w.heap.size w w' := ((Below.refl _ _).alloc (Nat.le_refl _) _).trans (h.mono (by simp))

/-- A box that was laid: its cells are there as long as memory only grows. -/
theorem box_at {w w' : World} {c : C} (h : Below (w.alloc (cbox c)).heap.size (w.alloc (cbox c)) w') : CAt w' w.heap.size 0 c := by
  refine CAt.up (w := w.alloc (cbox c)) ?_ h
  refine ⟨?_, ?_, ?_, ?_, ?_, ?_, ?_⟩ <;> simp

set_option maxRecDepth 100000 in
theorem count_any (N : Nat) : ∀ (t : T) (c : C) (w : World), sz t ≤ N → Is w c t →
    Calls Try.prog 18 #[cval c, .int .i64 200] w (CntSays (sz t) w) := by
  induction N with
  | zero => intro t c w h; have := sz_pos t; omega
  | succ N ih =>
    intro t c w hs hi
    have HI := Lib.hid hi
    have HR := Lib.hid hi.row
    have hn := hi.n
    have hfn := hi.fine.2.2.2
    obtain ⟨ck, cr, cid, ca, cn, ccap⟩ := c
    simp only at hn hfn
    subst hn
    clear hi
    have HS := Lib.hid hs
    clear hs
    have HIH := Lib.hid ih
    clear ih
    go_enter Try.func18, Try.ntmps18
    go_wp2
    go_loopg [5, 10] (t.kids.length + 1) (fun g n i wr => ∃ (k : Nat) (m : Int), g + k = t.kids.length + 1 ∧ k ≤ t.kids.length ∧ i = .int .i64 k ∧ n = .int .i64 m ∧ CntIs (1 + szL (t.kids.take k)) m ∧ Below (w.alloc (cbox ⟨ck, cr, cid, ca, t.kids.length, ccap⟩)).heap.size (w.alloc (cbox ⟨ck, cr, cid, ca, t.kids.length, ccap⟩)) wr)
    case atStart => exact ⟨0, 1, by omega, by omega, rfl, rfl, ⟨by unfold fits; omega, fun _ => by simp [szL]⟩, Below.refl _ _⟩
    case round =>
      obtain ⟨k, m, hg, hk, rfl, rfl, hm, hb⟩ := hrel
      have HG := Lib.hid hg
      have HM := Lib.hid hm
      have HB := Lib.hid hb
      clear hg hm hb
      by_cases hlt : k < t.kids.length
      · by_cases hm2 : 200 < m
        · have d2 : decide (200 < m) = true := decide_eq_true hm2
          go_wp2
          go_ret
          exact ⟨_, rfl, cnt_over HM.out hm2 (by have := szL_take_le t.kids k; rw [sz_node]; omega), below_one HB.out⟩
        · have d2 : decide (200 < m) = false := decide_eq_false hm2
          obtain ⟨b, o, rfl, hf⟩ := HR.out.place (by omega)
          obtain ⟨u, hu⟩ : ∃ u, t.kids[k]? = some u := ⟨_, List.getElem?_eq_getElem hlt⟩
          obtain ⟨x, hx, hix⟩ := hf k u hu
          clear hf
          obtain ⟨c0, c1, c2, c3, c4, c5, c6⟩ := hx.up (below_one HB.out)
          have q6 := (box_at HB.out).2.2.2.2.2.2
          have HK := Lib.hid (HIH.out u x wr (by have := HS.out; have := sz_kid hu; omega) (hix.up (below_one HB.out)))
          have HU := Lib.hid hu
          clear hix hu hx
          go_wp2_with fail
          refine HK.out.mono ?_
          rintro e w2 ⟨mm, rfl, hmm, hb2⟩
          have HM2 := Lib.hid hmm
          have HB2 := Lib.hid hb2
          clear hmm hb2
          go_wp2
          go_roundg (gk - 1)
          case measure => have := HG.out; omega
          case rel =>
            refine ⟨k + 1, _, by have := HG.out; omega, by omega, by go_num, rfl, ?_, HB.out.trans (HB2.out.mono HB.out.size)⟩
            rw [szL_take_succ HU.out, ← Nat.add_assoc]
            have h := cnt_more HM.out HM2.out (by omega)
            rw [IntWalk.i64_left] at h
            exact h
      · obtain rfl : k = t.kids.length := by omega
        have hkl : ((t.kids.length : Int) < (t.kids.length : Int)) = False := by simp
        go_wp2
        go_ret
        refine ⟨_, rfl, ?_, below_one HB.out⟩
        have := HM.out
        rw [List.take_length, ← sz_node] at this
        exact this

def GreatSays (n : Nat) (w : World) (e : Ending) (w' : World) : Prop := ∃ g : Bool, e = .returned (.bool g) ∧ (g = false → n ≤ 1099511627776 → n ≤ 200) ∧ Below w.heap.size w w'

theorem great_any (t : T) (c : C) (w : World) (hi : Is w c t) : Calls Try.prog 10 #[cval c] w (GreatSays (sz t) w) := by
  have HB : Hid (Below w.heap.size w (w.alloc (cbox c))) := (Below.refl _ _).alloc (Nat.le_refl _) _
  have H := Lib.hid (count_any (sz t) t c (w.alloc (cbox c)) (Nat.le_refl _) (hi.up HB.out))
  clear hi
  go_enter Try.func10, Try.ntmps10
  go_wp2_with fail
  refine H.out.mono ?_
  rintro e w2 ⟨m, rfl, hm, hb⟩
  have HM := Lib.hid hm
  have HB2 := Lib.hid hb
  clear hm hb
  go_wp2
  go_ret
  refine ⟨_, rfl, fun hg hs => ?_, below_one HB2.out⟩
  obtain ⟨a1, a2, a3⟩ := HM.out.2 hs
  have := of_decide_eq_false hg
  omega

end Go.Proofs.Ytcmkhppkdbdfdaa
