/- Texts of this seat, 3 in one file. -/
import Derived.Test.YtakofjbjciljjaaG20
import Derived.Test.YtakofjbjciljjaaG22
import Derived.Test.YtakofjbjciljjaaG07
import Derived.Deep.RegionLaw
import Derived.Test.YtakofjbjciljjaaG04
/- Does a tree tile? The document's answer, as a Bool. -/
namespace Go.Proofs.Ytakofjbjciljjaa
open Go.RowKit

/-- Does a tree tile: the document's. -/
theorem rtiles8_any (t : T) (c : C) (w : World) (hi : Is w c t) (hs : sz t ≤ 20000) : Calls Try.prog 15 #[cval c] w fun e w' => e = .returned (.bool (tileB t)) ∧ Below w.heap.size w w' := by
  have HA : Hid (Below w.heap.size w (w.alloc (cbox c))) := (Below.refl _ _).alloc (Nat.le_refl _) _
  have hmi := may_is (t := t) (by omega)
  have HCK : Hid (Calls Try.prog 28 #[cval c] (w.alloc (cbox c)) fun e w' => ∃ (v : Value) (no pl : Int), e = .returned (.tuple #[v, .int .i64 no, .int .i64 pl]) ∧ (no == 0) = tileB t ∧ Below w.heap.size w w') := Lib.hid ((rcheck_any t c (w.alloc (cbox c)) (hi.up HA.out) hs).mono fun e w' h => by
    obtain ⟨v, no, pl, l, h1, -, h3, h4⟩ := h
    refine ⟨v, no, pl, h1, ?_, below_one h3⟩
    unfold tileB
    rw [hmi]
    rcases h4 with ⟨a, rfl, -, -⟩ | ⟨a, b, rfl, -, -⟩ | ⟨a, b, rfl, -, -⟩
    · rw [a]; rfl
    · rw [a, b]; rfl
    · rw [a, b]; rfl)
  clear hi hmi
  generalize tileB t = tb at HCK ⊢
  go_enter Try.func15, Try.ntmps15
  go_wp2_with fail
  refine HCK.out.mono ?_
  rintro e w2 ⟨v, no, pl, rfl, hno, hb2⟩
  have B2 := Lib.hid hb2
  clear hb2
  go_wp2
  go_ret
  exact ⟨by first | (rw [hno]; rfl) | rfl, B2.out⟩
end Go.Proofs.Ytakofjbjciljjaa
/- The program's panes of a tree. -/
namespace Go.Proofs.Ytakofjbjciljjaa
open Go.RowKit

theorem five_set {W : World} {b o bx : Nat} {p : Pn} {u : Value} (h : FiveP W b o p) (hne : b ≠ bx) : FiveP (W.setCell ⟨bx, 0, none⟩ u) b o p := by
  obtain ⟨h1, h2, h3, h4, h5⟩ := h
  have hh : ∀ i v, W.cell? ⟨b, i, none⟩ = some v → (W.setCell ⟨bx, 0, none⟩ u).cell? ⟨b, i, none⟩ = some v := fun i v hv => (World.cell?_of_block (a := ⟨b, i, none⟩) (Below.heap_setCell W ⟨bx, 0, none⟩ u b hne)).trans hv
  exact ⟨hh _ _ h1, hh _ _ h2, hh _ _ h3, hh _ _ h4, hh _ _ h5⟩

set_option maxRecDepth 100000 in
theorem list1_any (b o bx : Nat) (p : Pn) (l : List Pn) (v : Value) (W : World) (h5 : FiveP W b o p) (hb : b < bx) (hv : Box1 W bx v 41) (hown : OwnP W (bx + 1) v l) (hl : l.length + 1 ≤ 1000000) :
    Calls Try.prog 54 #[.pointer (some ⟨b, o, none⟩), .pointer (some ⟨bx, 0, none⟩)] W fun e w' => e = .returned (.tuple #[]) ∧ (∃ v', Box1 w' bx v' 41 ∧ OwnP w' (bx + 1) v' (l ++ [p])) ∧ Below bx W w' := by
  obtain ⟨a, cap, rfl⟩ := hown.row.shape
  have hlt : bx < W.heap.size := lt_of_block hv
  have HV := Lib.hid hv
  have HLN := Lib.hid hl
  have q0 : W.drew.cell? ⟨bx, 0, none⟩ = some (.slice a l.length cap) := cell_of_one hv
  have S0 : Hid (FiveP W.drew b o p) := Lib.hid h5
  have A1 : Hid (Below W.drew.heap.size W.drew (W.drew.alloc (pbox p))) := Lib.hid ((Below.refl _ _).alloc (Nat.le_refl _) _)
  have S1 : Hid (FiveP (W.drew.alloc (pbox p)) b o p) := Lib.hid (S0.out.upB A1.out S0.out.lt)
  have OD : Hid (OwnP (W.drew.alloc (pbox p)) (bx + 1) (.slice a l.length cap) l) := Lib.hid ((show OwnP W.drew (bx + 1) (.slice a l.length cap) l from hown).up A1.out)
  have BD : Hid (Below (bx + 1) W (W.drew.alloc (pbox p))) := Lib.hid ((Below.refl _ W).drew.alloc (by simp; omega) _)
  have hne : b ≠ bx := by omega
  clear hv hown h5
  go_enter Try.func54, Try.ntmps54
  go_wp2_with fail
  have q0' : W.cell? ⟨bx, 0, none⟩ = some (.slice a l.length cap) := q0
  obtain ⟨c1, c2, c3, c4, c5⟩ : FiveP W b o p := S0.out
  have hnx : bx ≠ W.heap.size := by omega
  have hnb : b ≠ W.heap.size := by omega
  go_region_law (
    refine step_append_pane rfl _ _ rfl (bx + 1) (.slice a l.length cap) l W.heap.size p rfl OD.out rfl (pbox_new W.drew p) HLN.out W BD.out hlt ?_
    intro g cap3 w6 hown3 hb3 hgr3 hpl3
    have O6 := Lib.hid hown3
    have B6 := Lib.hid hb3
    have V6 := Lib.hid (show Box1 w6 bx (.slice a l.length cap) 41 from (hb3.block _ (Nat.lt_succ_self _)).trans HV.out)
    have z0 := cell_of_one V6.out
    have z1 := free_of_one V6.out
    have S6 : Hid (FiveP w6 b o p) := Lib.hid (FiveP.upB (w := W) S0.out hb3 (by omega))
    clear hown3 hb3 hgr3 hpl3)
  all_goals
    go_end0
    refine ⟨rfl, ⟨_, one_setCell V6.out, ?_⟩, (B6.out.mono (Nat.le_succ _)).setCell (Nat.le_refl _) _⟩
    have := ownsRow_setCell_below O6.out (a := ⟨bx, 0, none⟩) (Nat.lt_succ_self _) (.slice (some ⟨g, 0, none⟩) (l.length + 1) cap3)
    simpa [OwnP] using this
theorem enters30 : Enters 54 := enters_of Try.func54 (by kernel_rfl) rfl

def PanesRow (l : List Pn) (w : World) (e : Ending) (w' : World) : Prop := ∃ v, e = .returned v ∧ OwnP w' w.heap.size v l ∧ Below w.heap.size w w'

set_option maxRecDepth 100000 in
theorem list_any (t : T) (c : C) (w : World) (hm : sz t ≤ 900000) (hi : Is w c t) : Calls Try.prog 38 #[cval c] w (PanesSays (panesT t) w) := by
  have A0 : Hid (Below w.heap.size w (w.alloc (cbox c))) := (Below.refl _ _).alloc (Nat.le_refl _) _
  have A1 : Hid (Below (w.alloc (cbox c)).heap.size (w.alloc (cbox c)) ((w.alloc (cbox c)).alloc (.cells #[.slice none 0 0] 41))) := (Below.refl _ _).alloc (Nat.le_refl _) _
  obtain ⟨x, hx, hxb, hxo⟩ := (hi.up A0.out).stands w.heap.size 0 (cbox_new w c)
  have hbx : (w.alloc (cbox c)).heap.size = w.heap.size + 1 := by simp
  have H := Lib.hid (feach_any 54 enters30 #[.pointer (some ⟨(w.alloc (cbox c)).heap.size, 0, none⟩)] (fun j W => Below (w.alloc (cbox c)).heap.size (w.alloc (cbox c)) W ∧ ∃ v, Box1 W (w.alloc (cbox c)).heap.size v 41 ∧ OwnP W ((w.alloc (cbox c)).heap.size + 1) v ((panesT t).take j)) (sz t) x t 0 ((w.alloc (cbox c)).alloc (.cells #[.slice none 0 0] 41)) (Nat.le_refl _)
    (fun j W h => (hx.up h.1).lies)
    (fun j a W ha hI => by
      obtain ⟨hb, v, hv, ho⟩ := hI
      have hlen := hx.fives.1
      obtain ⟨p, hp⟩ := get_of hlen.symm (lt_of_get ha)
      have hf := hx.fives.2 j a p ha hp
      rw [Nat.zero_add] at ho ⊢
      refine (list1_any a.1 a.2 _ p _ v W (hf.upB hb hf.lt) hf.lt hv ho (by have := panes_len t; simp; omega)).mono ?_
      rintro e w' ⟨rfl, ⟨v', hv', ho'⟩, hb'⟩
      refine ⟨rfl, hb.trans hb', v', hv', ?_⟩
      rw [List.take_add_one, hp]
      exact ho')
    ⟨A1.out, .slice none 0 0, Box1.new _ _ _, by simpa using OwnP.nil _ _⟩)
  rw [Nat.zero_add, hxb, hxo, hx.fives.1] at H
  simp only [List.take_length] at H
  rw [hbx] at H
  clear hi hx hxb hxo hbx
  go_enter Try.func38, Try.ntmps38
  go_wp2_with fail
  refine H.out.mono ?_
  rintro e w2 ⟨rfl, hb2, v2, hv2, ho2⟩
  have HB2 := Lib.hid (A0.out.trans (hb2.mono (by simp)))
  have HO2 := Lib.hid (ho2.lower (base' := w.heap.size) (by omega))
  have q0 := cell_of_one hv2
  obtain ⟨a2, cap2, rfl⟩ := ho2.row.shape
  clear hb2 ho2 hv2
  go_wp2
  go_ret
  exact ⟨_, rfl, HO2.out, HB2.out⟩
end Go.Proofs.Ytakofjbjciljjaa
/- The first pane with a number: the document's walk, the program's closure. -/
namespace Go.Proofs.Ytakofjbjciljjaa
open Go.RowKit

def idxP (l : List Pn) (id : Int) : Option Nat := l.findIdx? (fun p => decide (p.id = id))
def posP (o : Option Nat) : Int := match o with | some i => (i : Int) | none => -1
theorem idx_some {l : List Pn} {id : Int} {k : Nat} {p : Pn} (hno : ∀ (j : Nat) (q : Pn), j < k → l[j]? = some q → q.id ≠ id) (hk : l[k]? = some p) (hp : p.id = id) : idxP l id = some k := by
  unfold idxP
  rw [List.findIdx?_eq_some_iff_getElem]
  obtain ⟨hlt, rfl⟩ := List.getElem?_eq_some_iff.1 hk
  exact ⟨hlt, by simpa using hp, fun j hj => by simpa using hno j _ hj (List.getElem?_eq_getElem (by omega))⟩
theorem idx_none {l : List Pn} {id : Int} (hno : ∀ (j : Nat) (q : Pn), j < l.length → l[j]? = some q → q.id ≠ id) : idxP l id = none := by
  unfold idxP
  rw [List.findIdx?_eq_none_iff]
  intro q hq
  obtain ⟨j, hj, rfl⟩ := List.getElem_of_mem hq
  simpa using hno j _ hj (List.getElem?_eq_getElem hj)
theorem idx_at {l : List Pn} {id : Int} {k : Nat} (h : idxP l id = some k) : ∃ p, l[k]? = some p ∧ p.id = id ∧ ∀ (j : Nat) (q : Pn), j < k → l[j]? = some q → q.id ≠ id := by
  unfold idxP at h
  rw [List.findIdx?_eq_some_iff_getElem] at h
  obtain ⟨hlt, h1, h2⟩ := h
  refine ⟨l[k], List.getElem?_eq_getElem hlt, by simpa using h1, fun j q hj hq => ?_⟩
  obtain ⟨hlt', rfl⟩ := List.getElem?_eq_some_iff.1 hq
  simpa using h2 j hj
theorem idx_gone {l : List Pn} {id : Int} (h : idxP l id = none) : ∀ q ∈ l, q.id ≠ id := by
  unfold idxP at h
  rw [List.findIdx?_eq_none_iff] at h
  intro q hq
  simpa using h q hq

set_option maxRecDepth 100000 in
theorem rfindP_any (v : Value) (l : List Pn) (id : Int) (w : World) (hr : PRow w v l) (hl : l.length ≤ 1000000) :
    Calls Try.prog 29 #[v, .int .i64 id] w fun e w' => e = .returned (.int .i64 (posP (idxP l id))) ∧ Below w.heap.size w w' := by
  obtain ⟨a, cap, rfl⟩ := hr.shape
  have HR := Lib.hid hr
  clear hr
  go_enter Try.func29, Try.ntmps29
  go_wp2
  go_loopg [8] (l.length + 1) (fun g i wr => ∃ k : Nat, g + k = l.length + 1 ∧ k ≤ l.length ∧ i = .int .i64 k ∧ (∀ (j : Nat) (q : Pn), j < k → l[j]? = some q → q.id ≠ id) ∧ Below w.heap.size w wr)
  case atStart => exact ⟨0, by omega, by omega, rfl, fun j q hj => by omega, Below.refl _ _⟩
  case round =>
    obtain ⟨k, hg, hk, rfl, hno, hb⟩ := hrel
    have HG := Lib.hid hg
    have HNO := Lib.hid hno
    have HB := Lib.hid hb
    clear hg hno hb
    by_cases hlt : k < l.length
    · obtain ⟨b, o, rfl, hf⟩ := HR.out.place (by omega)
      obtain ⟨p, hp⟩ : ∃ p, l[k]? = some p := ⟨_, List.getElem?_eq_getElem hlt⟩
      obtain ⟨c0, -⟩ := (hf k p hp).up HB.out
      clear hf
      have HP := Lib.hid hp
      clear hp
      by_cases he : p.id = id
      · have d1 : (p.id == id) = true := by simpa using he
        have HV := Lib.hid (idx_some HNO.out HP.out he)
        clear he
        go_wp2
        go_ret
        exact ⟨by rw [HV.out]; rfl, HB.out⟩
      · have d1 : (p.id == id) = false := by simpa using he
        have HE := Lib.hid he
        clear he
        go_wp2
        go_roundg (gk - 1)
        case measure => have := HG.out; omega
        case rel =>
          refine ⟨k + 1, by have := HG.out; omega, by omega, by go_num, fun j q hj hq => ?_, HB.out⟩
          rcases Nat.lt_or_ge j k with h | h
          · exact HNO.out j q h hq
          · obtain rfl : j = k := by omega
            rw [HP.out] at hq; cases hq; exact HE.out
    · obtain rfl : k = l.length := by omega
      have hkl : ((l.length : Int) < (l.length : Int)) = False := by simp
      have HV := Lib.hid (idx_none HNO.out)
      go_wp2
      go_ret
      exact ⟨by rw [HV.out]; rfl, HB.out⟩

/-- with: a closure that keeps its number in a box. -/
theorem with_any (id : Int) (w : World) : Calls Try.prog 40 #[.int .i64 id] w fun e w' => e = .returned (.func (.func 55) #[] #[.pointer (some ⟨w.heap.size, 0, none⟩)]) ∧ w' = w.alloc (.cells #[.int .i64 id] 3) := by
  go_enter Try.func40, Try.ntmps40
  go_wp2
  go_ret
  exact ⟨rfl, rfl⟩
theorem with1_any (p : Pn) (id : Int) (b : Nat) (w : World) (hb : Box1 w b (.int .i64 id) 3) :
    Calls Try.prog 55 #[pval p, .pointer (some ⟨b, 0, none⟩)] w fun e w' => e = .returned (.bool (p.id == id)) ∧ Below w.heap.size w w' := by
  have hlt : b < w.heap.size := lt_of_block hb
  have hne : b ≠ w.heap.size := by omega
  have q0 := cell_of_one hb
  go_enter Try.func55, Try.ntmps55
  go_wp2
  go_ret
  exact ⟨rfl, (Below.refl _ _).alloc (Nat.le_refl _) _⟩
theorem enters37 : Enters 55 := enters_of Try.func55 (by kernel_rfl) rfl

set_option maxRecDepth 100000 in
theorem indexP_any (v : Value) (l : List Pn) (id : Int) (b : Nat) (w : World) (hr : PRow w v l) (hl : l.length ≤ 1000000) (hb : Box1 w b (.int .i64 id) 3) :
    Calls Try.prog 39 #[v, .func (.func 55) #[] #[.pointer (some ⟨b, 0, none⟩)]] w fun e w' => e = .returned (.int .i64 (posP (idxP l id))) ∧ Below w.heap.size w w' := by
  have hent : ∀ (args : Array Value) (w : World), (callFunc 55 args).run Try.prog w = .ok (.enter 55 args) w := enters37
  obtain ⟨a, cap, rfl⟩ := hr.shape
  have HR := Lib.hid hr
  have HX := Lib.hid hb
  clear hr hb
  go_enter Try.func39, Try.ntmps39
  go_wp2
  go_loopg [8] (l.length + 1) (fun g i wr => ∃ k : Nat, g + k = l.length + 1 ∧ k ≤ l.length ∧ i = .int .i64 k ∧ (∀ (j : Nat) (q : Pn), j < k → l[j]? = some q → q.id ≠ id) ∧ Below w.heap.size w wr)
  case atStart => exact ⟨0, by omega, by omega, rfl, fun j q hj => by omega, Below.refl _ _⟩
  case round =>
    obtain ⟨k, hg, hk, rfl, hno, hb⟩ := hrel
    have HG := Lib.hid hg
    have HNO := Lib.hid hno
    have HB := Lib.hid hb
    clear hg hno hb
    by_cases hlt : k < l.length
    · obtain ⟨bb, o, rfl, hf⟩ := HR.out.place (by omega)
      obtain ⟨p, hp⟩ : ∃ p, l[k]? = some p := ⟨_, List.getElem?_eq_getElem hlt⟩
      obtain ⟨c0, c1, c2, c3, c4⟩ := (hf k p hp).up HB.out
      clear hf
      have HP := Lib.hid hp
      clear hp
      have HC := Lib.hid (with1_any p id b wr (HX.out.up HB.out))
      by_cases he : p.id = id
      · have d1 : (p.id == id) = true := by simpa using he
        rw [d1] at HC
        have HV := Lib.hid (idx_some HNO.out HP.out he)
        clear he d1
        go_wp2_with fail
        refine HC.out.mono ?_
        rintro e w2 ⟨rfl, hb2⟩
        have HB2 := Lib.hid (HB.out.trans (hb2.mono HB.out.size))
        clear hb2
        go_wp2
        go_ret
        exact ⟨by rw [HV.out]; rfl, HB2.out⟩
      · have d1 : (p.id == id) = false := by simpa using he
        rw [d1] at HC
        have HE := Lib.hid he
        clear he d1
        go_wp2_with fail
        refine HC.out.mono ?_
        rintro e w2 ⟨rfl, hb2⟩
        have HB2 := Lib.hid (HB.out.trans (hb2.mono HB.out.size))
        clear hb2
        go_wp2
        go_roundg (gk - 1)
        case measure => have := HG.out; omega
        case rel =>
          refine ⟨k + 1, by have := HG.out; omega, by omega, by go_num, fun j q hj hq => ?_, HB2.out⟩
          rcases Nat.lt_or_ge j k with h | h
          · exact HNO.out j q h hq
          · obtain rfl : j = k := by omega
            rw [HP.out] at hq; cases hq; exact HE.out
    · obtain rfl : k = l.length := by omega
      have hkl : ((l.length : Int) < (l.length : Int)) = False := by simp
      have HV := Lib.hid (idx_none HNO.out)
      go_wp2
      go_ret
      exact ⟨by rw [HV.out]; rfl, HB.out⟩
end Go.Proofs.Ytakofjbjciljjaa
