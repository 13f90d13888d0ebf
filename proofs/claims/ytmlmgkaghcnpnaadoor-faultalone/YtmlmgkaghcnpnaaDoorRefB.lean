/- The document's own answers for layer 3: Same, Words, First, Many, Has. -/
import Derived.Test.YtmlmgkaghcnpnaaDoorRefA
import Derived.Test.YtmlmgkaghcnpnaaDoorErrA
namespace Go.Proofs.YtmlmgkaghcnpnaaDoor
open Go.RowKit

theorem strs_at {xs : List ByteArray} {k : Nat} (h : k < xs.length) : (xs.map Value.string)[k]? = some (.string xs[k]) := by
  simp [h]

set_option maxRecDepth 100000 in
/-- The same words? -/
theorem same_any (v1 v2 : Value) (xs ys : List ByteArray) (w : World) (h1 : Strs w v1 xs) (h2 : Strs w v2 ys) (hlen : xs.length ≤ 1000000) :
    Calls Tryd.prog 12 #[v1, v2] w fun e w' => e = .returned (.bool (decide (xs = ys))) ∧ Below w.heap.size w w' := by
  obtain ⟨a1, c1, rfl, hn1, hc1⟩ := h1
  obtain ⟨a2, c2, rfl, hn2, hc2⟩ := h2
  rw [List.length_map, List.length_map]
  have H1 := Lib.hid (And.intro hn1 hc1)
  have H2 := Lib.hid (And.intro hn2 hc2)
  clear hn1 hc1 hn2 hc2
  by_cases hl : xs.length = ys.length
  · have d0 : ((xs.length : Int) != (ys.length : Int)) = false := by simp [hl]
    have HL := Lib.hid hl
    have d1 : ((xs.length : Int) ≤ 1000000) := by omega
    clear hl
    go_enter Tryd.func12, Tryd.ntmps12
    go_wp2
    go_loopg [13] (xs.length + 1) (fun g i wr => ∃ k : Nat, g + k = xs.length + 1 ∧ k ≤ xs.length ∧ i = .int .i64 k ∧ (∀ (j : Nat), j < k → xs[j]? = ys[j]?) ∧ Below w.heap.size w wr)
    case atStart => exact ⟨0, by omega, by omega, rfl, fun j hj => by omega, Below.refl _ _⟩
    case round =>
      obtain ⟨k, hg, hk, rfl, hj, hb⟩ := hrel
      have HB : Hid (Below w.heap.size w wr ∧ (∀ (j : Nat), j < k → xs[j]? = ys[j]?) ∧ gk + k = xs.length + 1) := ⟨hb, hj, hg⟩
      clear hb hj hg
      by_cases hlt : k < xs.length
      · obtain ⟨b1, o1, rfl, hcell1⟩ := row_at H1.out.1 H1.out.2 (by simp; omega)
        have hlt2 : k < ys.length := by have := HL.out; omega
        obtain ⟨b2, o2, rfl, hcell2⟩ := row_at H2.out.1 H2.out.2 (by simp; omega)
        have e1 := hcell1 k _ (strs_at hlt)
        have e2 := hcell2 k _ (strs_at hlt2)
        have f1 := (HB.out.1.cell (lt_of_cell e1)).trans e1
        have f2 := (HB.out.1.cell (lt_of_cell e2)).trans e2
        obtain ⟨x, hx⟩ : ∃ x, x = xs[k] := ⟨_, rfl⟩
        obtain ⟨y, hy⟩ : ∃ y, y = ys[k] := ⟨_, rfl⟩
        rw [← hx] at f1
        rw [← hy] at f2
        have hi2 : (k : Int) < (ys.length : Int) := by omega
        have HX : Hid (xs[k]? = some x ∧ ys[k]? = some y) := ⟨by rw [hx]; exact List.getElem?_eq_getElem hlt, by rw [hy]; exact List.getElem?_eq_getElem hlt2⟩
        clear e1 e2 hcell1 hcell2 hx hy
        go_wp2
        go_region
        have hbd : Hid (Below w.heap.size w wr.drew) := HB.out.1.drew
        generalize wr.drew = w1 at *
        by_cases hxy : x = y
        · have d2 : (!(x.toList == y.toList)) = false := by simp [hxy]
          rw [d2]
          go_wp2
          go_roundg (gk - 1)
          case measure => have := HB.out.2.2; omega
          case rel =>
            refine ⟨k + 1, ?_, by omega, by go_num, fun j hj => ?_, hbd.out⟩
            · have := HB.out.2.2; omega
            · rcases Nat.lt_or_ge j k with h | h
              · exact HB.out.2.1 j h
              · obtain rfl : j = k := by omega
                rw [HX.out.1, HX.out.2, hxy]
        · have d2 : (!(x.toList == y.toList)) = true := by
            rw [Bool.not_eq_true', beq_eq_false_iff_ne]
            intro e
            rw [Lib.toList_data, Lib.toList_data] at e
            exact hxy (ByteArray.ext (Array.ext' e))
          have hne : Hid (decide (xs = ys) = false) := (by
            simp only [decide_eq_false_iff_not]
            intro e
            have h1 := HX.out.1
            rw [e, HX.out.2] at h1
            exact hxy (Option.some.inj h1).symm : decide (xs = ys) = false)
          rw [d2]
          go_wp2
          go_ret
          exact ⟨by rw [hne.out]; rfl, hbd.out⟩
      · have hall : Hid (decide (xs = ys) = true) := (by
          simp only [decide_eq_true_eq]
          apply List.ext_getElem?
          intro j
          rcases Nat.lt_or_ge j xs.length with h | h
          · exact HB.out.2.1 j (by omega)
          · rw [List.getElem?_eq_none h, List.getElem?_eq_none (by have := HL.out; omega)] : decide (xs = ys) = true)
        go_wp2
        go_ret
        exact ⟨by rw [hall.out]; rfl, HB.out.1⟩
  · have d0 : ((xs.length : Int) != (ys.length : Int)) = true := by rw [bne_iff_ne]; omega
    have hne : Hid (decide (xs = ys) = false) := (by
      simp only [decide_eq_false_iff_not]
      intro e
      exact hl (by rw [e]) : decide (xs = ys) = false)
    clear hl
    go_enter Tryd.func12, Tryd.ntmps12
    go_wp2
    go_ret
    exact ⟨by rw [hne.out]; rfl, Below.refl _ _⟩

/-- All words, the outermost ones first. -/
def rwords (f : FD) : List ByteArray := if f.1 = 0 then [] else f.2.2.reverse.flatten

theorem rev_step (l : List (List ByteArray)) (k : Nat) (x : List ByteArray) (h : l[k]? = some x) : (l.take (k + 1)).reverse.flatten = x ++ (l.take k).reverse.flatten := by
  obtain ⟨hk, rfl⟩ := List.getElem?_eq_some_iff.1 h
  rw [List.take_succ_eq_append_getElem hk, List.reverse_append]
  simp
theorem flat_le (l : List (List ByteArray)) (h : ∀ x ∈ l, x.length ≤ 10) : l.flatten.length ≤ l.length * 10 := by
  induction l with
  | nil => simp
  | cons a r ih =>
    have h1 := h a (by simp)
    have h2 := ih (fun x hx => h x (by simp [hx]))
    simp only [List.flatten_cons, List.length_append, List.length_cons]
    omega
theorem great1_parts {f : FD} (h : great1 f = false) : f.2.2.length ≤ 10 ∧ ∀ x ∈ f.2.2, x.length ≤ 10 := by
  simp only [great1, Bool.or_eq_false_iff, decide_eq_false_iff_not, List.any_eq_false, decide_eq_true_eq] at h
  exact ⟨by omega, fun x hx => by have := h.2 x hx; omega⟩
theorem rev_le {f : FD} (h : great1 f = false) (k : Nat) : ((f.2.2.take k).reverse.flatten).length ≤ 100 := by
  obtain ⟨h1, h2⟩ := great1_parts h
  have h3 := flat_le (f.2.2.take k).reverse (fun x hx => h2 x (List.mem_of_mem_take (List.mem_reverse.1 hx)))
  have h4 := List.length_take_le k f.2.2
  rw [List.length_reverse, List.length_take] at h3
  omega
theorem strs_one (ws : List ByteArray) : ∀ u ∈ ws.map Value.string, u.oneCell' = true := fun u hu => by
  obtain ⟨s, -, rfl⟩ := List.mem_map.1 hu
  rfl

set_option maxRecDepth 100000 in
theorem rwords_any (sl : Value) (f : FD) (w : World) (hr : Rows w sl f.2.2) (hg : great1 f = false) :
    Calls Tryd.prog 14 #[.agg #[.int .i64 f.1, .int .i64 f.2.1, sl]] w fun e w' => ∃ r, e = .returned r ∧ Strs w' r (rwords f) ∧ Below w.heap.size w w' := by
  obtain ⟨e0, k0, wss⟩ := f
  simp only at hr ⊢
  obtain ⟨vs, hrow, hvl, hvs⟩ := hr
  obtain ⟨a2, cap2, rfl, hn2, hc2⟩ := hrow
  have hlen := (great1_parts hg).1
  have hlv : vs.length ≤ 10 := by simp only at hlen; omega
  have HV : Hid (vs.length = wss.length ∧ (a2 = none → vs = [] ∧ cap2 = 0) ∧ (∀ (x : Addr), a2 = some x → ∀ (j : Nat) (u : Value), vs[j]? = some u → w.cell? (x.add j) = some u) ∧ (∀ (i : Nat) (x : Value) (ws : List ByteArray), vs[i]? = some x → wss[i]? = some ws → Strs w x ws) ∧ great1 (e0, k0, wss) = false) := ⟨hvl, hn2, hc2, hvs, hg⟩
  clear hvl hn2 hc2 hvs hg hlen
  have hb2 : Below w.heap.size w ((w.alloc (.cells #[.int .i64 e0, .int .i64 k0, .slice a2 vs.length cap2] 24)).alloc (.cells #[] 9)) := ((Below.refl w.heap.size w).alloc (by simp) _).alloc (by simp) _
  have hmade : ((w.alloc (.cells #[.int .i64 e0, .int .i64 k0, .slice a2 vs.length cap2] 24)).alloc (.cells #[] 9)).ownsRow w.heap.size 9 1 (.slice (some ⟨w.heap.size + 1, 0, none⟩) 0 0) 0 [] := by
    have h := World.ownsRow_made (e := 9) (size := 1) (w.alloc (.cells #[.int .i64 e0, .int .i64 k0, .slice a2 vs.length cap2] 24)) #[] 0 (show w.heap.size ≤ _ by simp) (by decide) rfl
    simpa using h
  by_cases he : e0 = 0
  · subst he
    have HM : Hid (((w.alloc (.cells #[.int .i64 0, .int .i64 k0, .slice a2 vs.length cap2] 24)).alloc (.cells #[] 9)).ownsRow w.heap.size 9 1 (.slice (some ⟨w.heap.size + 1, 0, none⟩) 0 0) 0 [] ∧ Below w.heap.size w ((w.alloc (.cells #[.int .i64 0, .int .i64 k0, .slice a2 vs.length cap2] 24)).alloc (.cells #[] 9))) := ⟨hmade, hb2⟩
    clear hmade hb2
    go_enter Tryd.func14, Tryd.ntmps14
    go_wp2
    go_loopg [3, 9] (vs.length + 1) (fun g l i wr => ∃ k : Nat, g + k = vs.length + 1 ∧ k ≤ vs.length ∧ i = .int .i64 k ∧ l = .slice (some ⟨w.heap.size + 1, 0, none⟩) 0 0 ∧ ((w.alloc (.cells #[.int .i64 0, .int .i64 k0, .slice a2 vs.length cap2] 24)).alloc (.cells #[] 9)) = wr)
    case atStart => exact ⟨0, by omega, by omega, rfl, rfl, rfl⟩
    case round =>
      obtain ⟨k, hg, hk, rfl, rfl, rfl⟩ := hrel
      by_cases hlt : k < vs.length
      · go_wp2
        go_roundg (gk - 1)
        case measure => omega
        case rel => exact ⟨k + 1, by omega, by omega, by go_num, rfl, rfl⟩
      · go_wp2
        go_ret
        refine ⟨_, rfl, ?_, HM.out.2⟩
        rw [rwords, if_pos rfl]
        exact Row.of_owns HM.out.1
  · have d0 : (e0 != 0) = true := by simp [he]
    go_enter Tryd.func14, Tryd.ntmps14
    go_wp2
    go_loopg [3, 9] (vs.length + 1) (fun g l i wr => ∃ k : Nat, g + k = vs.length + 1 ∧ k ≤ vs.length ∧ i = .int .i64 k ∧ wr.ownsRow w.heap.size 9 1 l (((wss.take k).reverse.flatten).map Value.string).length (((wss.take k).reverse.flatten).map Value.string) ∧ Below w.heap.size w wr
      ∧ wr.cell? ⟨w.heap.size, 0, none⟩ = some (.int .i64 e0) ∧ wr.cell? ⟨w.heap.size, 2, none⟩ = some (.slice a2 vs.length cap2))
    case atStart => exact ⟨0, by omega, by omega, rfl, hmade, hb2, cell_up (by simp) _, cell_up (by simp) _⟩
    case round =>
      obtain ⟨k, hg, hk, rfl, hown, hb, hc0, hc2⟩ := hrel
      have HB : Hid (Below w.heap.size w wr ∧ gk + k = vs.length + 1 ∧ wr.ownsRow w.heap.size 9 1 u3 (((wss.take k).reverse.flatten).map Value.string).length (((wss.take k).reverse.flatten).map Value.string) ∧ wr.cell? ⟨w.heap.size, 0, none⟩ = some (.int .i64 e0) ∧ wr.cell? ⟨w.heap.size, 2, none⟩ = some (.slice a2 vs.length cap2)) := ⟨hb, hg, hown, hc0, hc2⟩
      clear hb hg hown
      by_cases hlt : k < vs.length
      · obtain ⟨b2, o2, rfl, hcell⟩ := row_at HV.out.2.1 HV.out.2.2.1 (by omega)
        obtain ⟨x, hx⟩ : ∃ x, vs[k]? = some x := ⟨_, List.getElem?_eq_getElem hlt⟩
        obtain ⟨ws, hws⟩ : ∃ ws, wss[k]? = some ws := ⟨_, List.getElem?_eq_getElem (by have := HV.out.1; omega)⟩
        have hcx := (HB.out.1.cell (lt_of_cell (hcell k x hx))).trans (hcell k x hx)
        have hst := HV.out.2.2.2.1 k x ws hx hws
        have HS := Lib.hid hst
        obtain ⟨a3, cap3, rfl, -, -⟩ := hst
        rw [List.length_map] at hcx HS
        have HW := Lib.hid hws
        clear hcell hx hws
        have hc2' := cell_up hc2 (.cells #[] 9)
        have hcx' := cell_up hcx (.cells #[] 9)
        have hwl : ws.length ≤ 10 := (great1_parts HV.out.2.2.2.2).2 ws (List.mem_of_getElem? HW.out)
        have hrl := rev_le HV.out.2.2.2.2 k
        simp only at hrl
        have HL : Hid ((ws.map Value.string).length + (((wss.take k).reverse.flatten).map Value.string).length ≤ 1000000 ∧ ([] : List Value).length + (ws.map Value.string).length ≤ 1000000) := ⟨by rw [List.length_map, List.length_map]; omega, by rw [List.length_map, List.length_nil]; omega⟩
        clear hwl hrl
        have hba : Hid (Below wr.heap.size wr (wr.alloc (.cells #[] 9))) := (Below.refl wr.heap.size wr).alloc (Nat.le_refl _) _
        go_wp2_with (first
          | (at_builtin; refine wpList_append_row rfl (.tmp 15) (.tmp 20) 36 rfl wr.heap.size 9 (.string ByteArray.empty) 16 Tryd.underlying36 info9 rfl _ _ [] (ws.map Value.string) rfl (World.ownsRow_made wr #[] 0 (Nat.le_refl _) (by decide) rfl) rfl ((HS.out.up HB.out.1).up hba.out) (strs_one ws) HL.out.2 (by decide) wr hba.out (Nat.le_refl _) ?_; intro v1 w1 hown1 hb1)
          | (at_builtin; refine wpList_append_row rfl (.tmp 21) (.tmp 22) 36 rfl wr.heap.size 9 (.string ByteArray.empty) 16 Tryd.underlying36 info9 rfl _ _ (ws.map Value.string) (((wss.take k).reverse.flatten).map Value.string) rfl hown1 rfl ((Row.of_owns HB.out.2.2.1).up hb1) (strs_one _) HL.out.1 (by decide) wr hb1 (Nat.le_refl _) ?_; intro v2 w2 hown2 hb2))
        go_roundg (gk - 1)
        case measure => have := HB.out.2.1; omega
        case rel =>
          refine ⟨k + 1, ?_, by omega, by go_num, ?_, HB.out.1.trans (hb2.mono HB.out.1.size), (hb2.cell (lt_of_cell HB.out.2.2.2.1)).trans HB.out.2.2.2.1, (hb2.cell (lt_of_cell HB.out.2.2.2.2)).trans HB.out.2.2.2.2⟩
          · have := HB.out.2.1; omega
          · rw [rev_step wss k ws HW.out, List.map_append]
            exact owns_base hown2 HB.out.1.size
      · go_wp2
        go_ret
        refine ⟨_, rfl, ?_, HB.out.1⟩
        have h1 := Row.of_owns HB.out.2.2.1
        have h2 := HV.out.1
        rw [List.take_of_length_le (by omega)] at h1
        rw [rwords, if_neg he]
        exact h1
end Go.Proofs.YtmlmgkaghcnpnaaDoor
