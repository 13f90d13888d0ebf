/- The document's own answers for layer 3: what they read, and Great. -/
import Derived.Test.YtmlmgkaghcnpnaaDoorMem
import Derived.Deep.LoopGhost
namespace Go.Proofs.YtmlmgkaghcnpnaaDoor
open Go.RowKit

/-- A fault in words: its number, its place, the words, the innermost ones first. -/
abbrev FD := Int × Int × List (List ByteArray)

/-- Texts in a slice. -/
abbrev Strs (w : World) (v : Value) (ws : List ByteArray) : Prop := Row w v (ws.map Value.string)
/-- Rows of texts in a slice. -/
def Rows (w : World) (v : Value) (wss : List (List ByteArray)) : Prop :=
  ∃ vs, Row w v vs ∧ vs.length = wss.length ∧ ∀ (i : Nat) (x : Value) (ws : List ByteArray), vs[i]? = some x → wss[i]? = some ws → Strs w x ws
theorem Rows.up {w w' : World} {v : Value} {wss : List (List ByteArray)} (h : Rows w v wss) (hb : Below w.heap.size w w') : Rows w' v wss := by
  obtain ⟨vs, h1, h2, h3⟩ := h
  exact ⟨vs, h1.up hb, h2, fun i x ws hx hw => (h3 i x ws hx hw).up hb⟩

/-- A fault in words, where it lies. -/
def FAt (w : World) (b o : Nat) (f : FD) : Prop :=
  w.cell? ⟨b, o, none⟩ = some (.int .i64 f.1) ∧ w.cell? ⟨b, o + 1, none⟩ = some (.int .i64 f.2.1) ∧ ∃ s, w.cell? ⟨b, o + 2, none⟩ = some s ∧ Rows w s f.2.2
theorem FAt.up {w w' : World} {b o : Nat} {f : FD} (h : FAt w b o f) (hb : Below w.heap.size w w') : FAt w' b o f := by
  obtain ⟨h1, h2, s, h3, h4⟩ := h
  exact ⟨(hb.cell (lt_of_cell h1)).trans h1, (hb.cell (lt_of_cell h2)).trans h2, s, (hb.cell (lt_of_cell h3)).trans h3, h4.up hb⟩
/-- Faults in words in a slice. -/
def FRow (w : World) (v : Value) (fs : List FD) : Prop :=
  (∃ a cap, v = .slice a 0 cap ∧ fs = []) ∨ ∃ b o cap, v = .slice (some ⟨b, o, none⟩) fs.length cap ∧ ∀ (j : Nat) (f : FD), fs[j]? = some f → FAt w b (o + j * 3) f
theorem FRow.up {w w' : World} {v : Value} {fs : List FD} (h : FRow w v fs) (hb : Below w.heap.size w w') : FRow w' v fs := by
  rcases h with h | ⟨b, o, cap, h1, h2⟩
  · exact .inl h
  · exact .inr ⟨b, o, cap, h1, fun j f hf => (h2 j f hf).up hb⟩

def great1 (f : FD) : Bool := decide (10 < f.2.2.length) || f.2.2.any (fun ws => decide (10 < ws.length))
def greatF (fs : List FD) : Bool := decide (20 < fs.length) || fs.any great1

set_option maxRecDepth 100000 in
theorem great_any (v : Value) (fs : List FD) (w : World) (hr : FRow w v fs) :
    Calls Tryd.prog 7 #[v] w fun e w' => e = .returned (.bool (greatF fs)) ∧ w = w' := by
  have hv : ∃ a cap, v = .slice a fs.length cap := by
    rcases hr with ⟨a, cap, rfl, rfl⟩ | ⟨b, o, cap, rfl, -⟩
    · exact ⟨_, _, rfl⟩
    · exact ⟨_, _, rfl⟩
  obtain ⟨a, cap, rfl⟩ := hv
  have HR := Lib.hid hr
  clear hr
  by_cases h20 : 20 < fs.length
  · have d0 : decide ((20 : Int) < (fs.length : Int)) = true := by simp; omega
    have hg : Hid (greatF fs = true) := (by simp [greatF, h20] : greatF fs = true)
    go_enter Tryd.func7, Tryd.ntmps7
    go_wp2
    go_ret
    exact ⟨by rw [hg.out]; rfl, rfl⟩
  · have d0 : decide ((20 : Int) < (fs.length : Int)) = false := by simp; omega
    go_enter Tryd.func7, Tryd.ntmps7
    go_wp2
    go_loopg [10] (fs.length + 1) (fun g i wr => w = wr ∧ ∃ k : Nat, g + k = fs.length + 1 ∧ k ≤ fs.length ∧ i = .int .i64 k ∧ ∀ (j : Nat) (f : FD), j < k → fs[j]? = some f → great1 f = false)
    case atStart => exact ⟨rfl, 0, by omega, by omega, rfl, fun j f hj => by omega⟩
    case round =>
      obtain ⟨rfl, k, hg, hk, rfl, hj⟩ := hrel
      obtain rfl : gk = fs.length + 1 - k := by omega
      have HJ := Lib.hid hj
      clear hj hg
      by_cases hlt : k < fs.length
      · rcases HR.out with ⟨_, _, -, rfl⟩ | ⟨b, o, cap', he, hf⟩
        · simp at hlt
        obtain ⟨rfl, rfl⟩ : a = some ⟨b, o, none⟩ ∧ cap = cap' := by cases he; exact ⟨rfl, rfl⟩
        obtain ⟨f, hfk⟩ : ∃ f, fs[k]? = some f := ⟨_, List.getElem?_eq_getElem hlt⟩
        obtain ⟨c0, c1, s, c2, hrows⟩ := hf k f hfk
        obtain ⟨vs, hrow, hvl, hvs⟩ := hrows
        obtain ⟨a2, cap2, rfl, hn2, hc2⟩ := hrow
        have HV : Hid (vs.length = f.2.2.length ∧ (a2 = none → vs = [] ∧ cap2 = 0) ∧ (∀ (x : Addr), a2 = some x → ∀ (j : Nat) (u : Value), vs[j]? = some u → w.cell? (x.add j) = some u) ∧ (∀ (i : Nat) (x : Value) (ws : List ByteArray), vs[i]? = some x → f.2.2[i]? = some ws → Strs w x ws) ∧ fs[k]? = some f) := ⟨hvl, hn2, hc2, hvs, hfk⟩
        clear hf hfk hvl hn2 hc2 hvs c0 c1 he
        by_cases h10 : 10 < vs.length
        · have d1 : decide ((10 : Int) < (vs.length : Int)) = true := by simp; omega
          have hgr : Hid (greatF fs = true) := (by
            have h1 : great1 f = true := by
              have := HV.out.1
              simp only [great1, Bool.or_eq_true, decide_eq_true_eq]
              left; omega
            simp only [greatF, Bool.or_eq_true, List.any_eq_true]
            right; exact ⟨f, List.mem_of_getElem? HV.out.2.2.2.2, h1⟩ : greatF fs = true)
          go_wp2
          go_ret
          exact ⟨by rw [hgr.out]; rfl, rfl⟩
        · have d1 : decide ((10 : Int) < (vs.length : Int)) = false := by simp; omega
          go_wp2
          go_loopg [26] (vs.length + 1) (fun g i wr => w = wr ∧ ∃ m : Nat, g + m = vs.length + 1 ∧ m ≤ vs.length ∧ i = .int .i64 m ∧ ∀ (j : Nat) (ws : List ByteArray), j < m → f.2.2[j]? = some ws → ¬ 10 < ws.length)
          case atStart => exact ⟨rfl, 0, by omega, by omega, rfl, fun j ws hj => by omega⟩
          case round =>
            obtain ⟨rfl, m, hm, hml, rfl, hmj⟩ := hrel
            have HM : Hid (gk + m = vs.length + 1 ∧ ∀ (j : Nat) (ws : List ByteArray), j < m → f.2.2[j]? = some ws → ¬ 10 < ws.length) := ⟨hm, hmj⟩
            clear hm hmj
            by_cases hmt : m < vs.length
            · obtain ⟨b2, o2, rfl, hcell⟩ := row_at HV.out.2.1 HV.out.2.2.1 (by omega)
              obtain ⟨x, hx⟩ : ∃ x, vs[m]? = some x := ⟨_, List.getElem?_eq_getElem hmt⟩
              obtain ⟨ws, hws⟩ : ∃ ws, f.2.2[m]? = some ws := ⟨_, List.getElem?_eq_getElem (by have := HV.out.1; omega)⟩
              have hcx := hcell m x hx
              obtain ⟨a3, cap3, hxe, -, -⟩ := HV.out.2.2.2.1 m x ws hx hws
              rw [List.length_map] at hxe
              subst hxe
              have HW := Lib.hid hws
              clear hcell hx hws
              by_cases hw10 : 10 < ws.length
              · have d2 : decide ((10 : Int) < (ws.length : Int)) = true := by simp; omega
                have hgr : Hid (greatF fs = true) := (by
                  have h1 : great1 f = true := by
                    simp only [great1, Bool.or_eq_true, decide_eq_true_eq, List.any_eq_true]
                    right; exact ⟨ws, List.mem_of_getElem? HW.out, hw10⟩
                  simp only [greatF, Bool.or_eq_true, List.any_eq_true]
                  right; exact ⟨f, List.mem_of_getElem? HV.out.2.2.2.2, h1⟩ : greatF fs = true)
                go_wp2
                go_ret
                exact ⟨by rw [hgr.out]; rfl, rfl⟩
              · have d2 : decide ((10 : Int) < (ws.length : Int)) = false := by simp; omega
                go_wp2
                go_roundg (gk - 1)
                case measure => have := HM.out.1; omega
                case rel =>
                  refine ⟨rfl, m + 1, ?_, by omega, by go_num, fun j ws' hj hj2 => ?_⟩
                  · have := HM.out.1; omega
                  · rcases Nat.lt_or_ge j m with h | h
                    · exact HM.out.2 j ws' h hj2
                    · obtain rfl : j = m := by omega
                      rw [HW.out] at hj2; cases hj2; exact hw10
            · go_wp2
              go_roundg (fs.length - k)
              case measure => omega
              case rel =>
                refine ⟨rfl, k + 1, ?_, by omega, by go_num, fun j f' hj hj2 => ?_⟩
                · omega
                · rcases Nat.lt_or_ge j k with h | h
                  · exact HJ.out j f' h hj2
                  · obtain rfl : j = k := by omega
                    rw [HV.out.2.2.2.2] at hj2
                    cases hj2
                    have h1 := HV.out.1
                    simp only [great1, Bool.or_eq_false_iff, decide_eq_false_iff_not, List.any_eq_false, decide_eq_true_eq]
                    refine ⟨by omega, fun ws hws => ?_⟩
                    obtain ⟨i, hi, rfl⟩ := List.getElem_of_mem hws
                    exact HM.out.2 i _ (by omega) (List.getElem?_eq_getElem hi)
      · have hgr : Hid (greatF fs = false) := (by
          simp only [greatF, Bool.or_eq_false_iff, decide_eq_false_iff_not, List.any_eq_false]
          refine ⟨h20, fun f hf => ?_⟩
          obtain ⟨i, hi, rfl⟩ := List.getElem_of_mem hf
          rw [HJ.out i _ (by omega) (List.getElem?_eq_getElem hi)]
          simp : greatF fs = false)
        go_wp2
        go_ret
        exact ⟨by rw [hgr.out]; rfl, rfl⟩
end Go.Proofs.YtmlmgkaghcnpnaaDoor
