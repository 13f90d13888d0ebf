/- The first pane with a number: the document's walk, the program's closure. -/
import Derived.Test.YtlpklpkalcgeaaaPane
import Derived.Test.YtlpklpkalcgeaaaSize
namespace Go.Proofs.Ytlpklpkalcgeaaa
open Go.RowKit

def idxP (l : List Pn) (id : Int) : Option Nat := l.findIdx? (fun p => decide (p.id = id))
def posP (o : Option Nat) : Int := match o with | some i => (i : Int) | none => -1
theorem idx_some {l : List Pn} {id : Int} {k : Nat} {p : Pn} (hno : ∀ (j : Nat) (q : Pn), j < k → l[j]? = some q → q.id ≠ id) (hk : l[k]? = some p) (hp : p.id = id) : idxP l id = some k := by
  unfold idxP
  rw [List.findIdx?_eq_some_iff_getElem]
  obtain ⟨hlt, rfl⟩ := List.getElem?_eq_some_iff.1 hk
  exact ⟨hlt, by simpa using hp, fun j hj => by simpa using hno j _ hj (List.getElem?_eq_getElem (by omega))⟩
theorem idx_none {l : List Pn} {id : Int} (hno : ∀ (j : Nat) (q : Pn), j < l.length → l[j]? = some q → q.id ≠ id) : idxP l id = none := by
  unfold idxP
  rw [List.findIdx?_eq_none_iff]
  intro q hq
  obtain ⟨j, hj, rfl⟩ := List.getElem_of_mem hq
  simpa using hno j _ hj (List.getElem?_eq_getElem hj)
theorem idx_at {l : List Pn} {id : Int} {k : Nat} (h : idxP l id = some k) : ∃ p, l[k]? = some p ∧ p.id = id ∧ ∀ (j : Nat) (q : Pn), j < k → l[j]? = some q → q.id ≠ id := by
  unfold idxP at h
  rw [List.findIdx?_eq_some_iff_getElem] at h
  obtain ⟨hlt, h1, h2⟩ := h
  refine ⟨l[k], List.getElem?_eq_getElem hlt, by simpa using h1, fun j q hj hq => ?_⟩
  obtain ⟨hlt', rfl⟩ := List.getElem?_eq_some_iff.1 hq
  simpa using h2 j hj
theorem idx_gone {l : List Pn} {id : Int} (h : idxP l id = none) : ∀ q ∈ l, q.id ≠ id := by
  unfold idxP at h
  rw [List.findIdx?_eq_none_iff] at h
  intro q hq
  simpa using h q hq

set_option maxRecDepth 100000 in
theorem rfindP_any (v : Value) (l : List Pn) (id : Int) (w : World) (hr : PRow w v l) (hl : l.length ≤ 1000000) :
    Calls Try.prog 12 #[v, .int .i64 id] w fun e w' => e = .returned (.int .i64 (posP (idxP l id))) ∧ Below w.heap.size w w' := by
  obtain ⟨a, cap, rfl⟩ := hr.shape
  have HR := Lib.hid hr
  clear hr
  go_enter Try.func12, Try.ntmps12
  go_wp2
  go_loopg [8] (l.length + 1) (fun g i wr => ∃ k : Nat, g + k = l.length + 1 ∧ k ≤ l.length ∧ i = .int .i64 k ∧ (∀ (j : Nat) (q : Pn), j < k → l[j]? = some q → q.id ≠ id) ∧ Below w.heap.size w wr)
  case atStart => exact ⟨0, by omega, by omega, rfl, fun j q hj => by omega, Below.refl _ _⟩
  case round =>
    obtain ⟨k, hg, hk, rfl, hno, hb⟩ := hrel
    have HG := Lib.hid hg
    have HNO := Lib.hid hno
    have HB := Lib.hid hb
    clear hg hno hb
    by_cases hlt : k < l.length
    · obtain ⟨b, o, rfl, hf⟩ := HR.out.place (by omega)
      obtain ⟨p, hp⟩ : ∃ p, l[k]? = some p := ⟨_, List.getElem?_eq_getElem hlt⟩
      obtain ⟨c0, -⟩ := (hf k p hp).up HB.out
      clear hf
      have HP := Lib.hid hp
      clear hp
      by_cases he : p.id = id
      · have d1 : (p.id == id) = true := by simpa using he
        have HV := Lib.hid (idx_some HNO.out HP.out he)
        clear he
        go_wp2
        go_ret
        exact ⟨by rw [HV.out]; rfl, HB.out⟩
      · have d1 : (p.id == id) = false := by simpa using he
        have HE := Lib.hid he
        clear he
        go_wp2
        go_roundg (gk - 1)
        case measure => have := HG.out; omega
        case rel =>
          refine ⟨k + 1, by have := HG.out; omega, by omega, by go_num, fun j q hj hq => ?_, HB.out⟩
          rcases Nat.lt_or_ge j k with h | h
          · exact HNO.out j q h hq
          · obtain rfl : j = k := by omega
            rw [HP.out] at hq; cases hq; exact HE.out
    · obtain rfl : k = l.length := by omega
      have hkl : ((l.length : Int) < (l.length : Int)) = False := by simp
      have HV := Lib.hid (idx_none HNO.out)
      go_wp2
      go_ret
      exact ⟨by rw [HV.out]; rfl, HB.out⟩

/-- with: a closure that keeps its number in a box. -/
theorem with_any (id : Int) (w : World) : Calls Try.prog 28 #[.int .i64 id] w fun e w' => e = .returned (.func (.func 37) #[] #[.pointer (some ⟨w.heap.size, 0, none⟩)]) ∧ w' = w.alloc (.cells #[.int .i64 id] 3) := by
  go_enter Try.func28, Try.ntmps28
  go_wp2
  go_ret
  exact ⟨rfl, rfl⟩
theorem with1_any (p : Pn) (id : Int) (b : Nat) (w : World) (hb : Box1 w b (.int .i64 id) 3) :
    Calls Try.prog 37 #[pval p, .pointer (some ⟨b, 0, none⟩)] w fun e w' => e = .returned (.bool (p.id == id)) ∧ Below w.heap.size w w' := by
  have hlt : b < w.heap.size := lt_of_block hb
  have hne : b ≠ w.heap.size := by omega
  have q0 := cell_of_one hb
  go_enter Try.func37, Try.ntmps37
  go_wp2
  go_ret
  exact ⟨rfl, (Below.refl _ _).alloc (Nat.le_refl _) _⟩
theorem enters37 : Enters 37 := enters_of Try.func37 (by kernel_rfl) rfl

set_option maxRecDepth 100000 in
theorem indexP_any (v : Value) (l : List Pn) (id : Int) (b : Nat) (w : World) (hr : PRow w v l) (hl : l.length ≤ 1000000) (hb : Box1 w b (.int .i64 id) 3) :
    Calls Try.prog 27 #[v, .func (.func 37) #[] #[.pointer (some ⟨b, 0, none⟩)]] w fun e w' => e = .returned (.int .i64 (posP (idxP l id))) ∧ Below w.heap.size w w' := by
  have hent : ∀ (args : Array Value) (w : World), (callFunc 37 args).run Try.prog w = .ok (.enter 37 args) w := enters37
  obtain ⟨a, cap, rfl⟩ := hr.shape
  have HR := Lib.hid hr
  have HX := Lib.hid hb
  clear hr hb
  go_enter Try.func27, Try.ntmps27
  go_wp2
  go_loopg [8] (l.length + 1) (fun g i wr => ∃ k : Nat, g + k = l.length + 1 ∧ k ≤ l.length ∧ i = .int .i64 k ∧ (∀ (j : Nat) (q : Pn), j < k → l[j]? = some q → q.id ≠ id) ∧ Below w.heap.size w wr)
  case atStart => exact ⟨0, by omega, by omega, rfl, fun j q hj => by omega, Below.refl _ _⟩
  case round =>
    obtain ⟨k, hg, hk, rfl, hno, hb⟩ := hrel
    have HG := Lib.hid hg
    have HNO := Lib.hid hno
    have HB := Lib.hid hb
    clear hg hno hb
    by_cases hlt : k < l.length
    · obtain ⟨bb, o, rfl, hf⟩ := HR.out.place (by omega)
      obtain ⟨p, hp⟩ : ∃ p, l[k]? = some p := ⟨_, List.getElem?_eq_getElem hlt⟩
      obtain ⟨c0, c1, c2, c3, c4⟩ := (hf k p hp).up HB.out
      clear hf
      have HP := Lib.hid hp
      clear hp
      have HC := Lib.hid (with1_any p id b wr (HX.out.up HB.out))
      by_cases he : p.id = id
      · have d1 : (p.id == id) = true := by simpa using he
        rw [d1] at HC
        have HV := Lib.hid (idx_some HNO.out HP.out he)
        clear he d1
        go_wp2_with fail
        refine HC.out.mono ?_
        rintro e w2 ⟨rfl, hb2⟩
        have HB2 := Lib.hid (HB.out.trans (hb2.mono HB.out.size))
        clear hb2
        go_wp2
        go_ret
        exact ⟨by rw [HV.out]; rfl, HB2.out⟩
      · have d1 : (p.id == id) = false := by simpa using he
        rw [d1] at HC
        have HE := Lib.hid he
        clear he d1
        go_wp2_with fail
        refine HC.out.mono ?_
        rintro e w2 ⟨rfl, hb2⟩
        have HB2 := Lib.hid (HB.out.trans (hb2.mono HB.out.size))
        clear hb2
        go_wp2
        go_roundg (gk - 1)
        case measure => have := HG.out; omega
        case rel =>
          refine ⟨k + 1, by have := HG.out; omega, by omega, by go_num, fun j q hj hq => ?_, HB2.out⟩
          rcases Nat.lt_or_ge j k with h | h
          · exact HNO.out j q h hq
          · obtain rfl : j = k := by omega
            rw [HP.out] at hq; cases hq; exact HE.out
    · obtain rfl : k = l.length := by omega
      have hkl : ((l.length : Int) < (l.length : Int)) = False := by simp
      have HV := Lib.hid (idx_none HNO.out)
      go_wp2
      go_ret
      exact ⟨by rw [HV.out]; rfl, HB.out⟩
end Go.Proofs.Ytlpklpkalcgeaaa
