/- The laws' made and awake. -/
import Derived.Test.YtmlmgkaghcnpnaaDoorEnds
import Derived.Test.YtmlmgkaghcnpnaaDoorRefB
namespace Go.Proofs.YtmlmgkaghcnpnaaDoor
open Go.RowKit

theorem row_lit (w : World) (xs : List Value) (ty : TypeId) (n : Nat) (hn : n = xs.length) : Row (w.alloc (.cells xs.toArray ty)) (.slice (some ⟨w.heap.size, 0, none⟩) n n) xs := by
  subst hn
  refine ⟨some ⟨w.heap.size, 0, none⟩, xs.length, rfl, fun h => (by cases h), fun x hx j u hu => ?_⟩
  cases hx
  have hadd : (⟨w.heap.size, 0, none⟩ : Addr).add j = ⟨w.heap.size, j, none⟩ := by unfold Addr.add; split <;> simp_all
  rw [hadd, cell_of_row _ _ _ _ _ (0, 0) (heap_alloc_new w _)]
  simpa using hu

set_option maxRecDepth 100000 in
theorem made_none (sl : Value) (k0 : Int) (wss : List (List ByteArray)) (w : World) (hr : Rows w sl wss) (hg : wss.length ≤ 10) :
    Calls Tryd.prog 9 #[.agg #[.int .i64 0, .int .i64 k0, sl]] w fun e w' => e = .returned .nilIface ∧ Below w.heap.size w w' := by
  obtain ⟨vs, hrow, hvl, hvs⟩ := hr
  obtain ⟨a2, cap2, rfl, hn2, hc2⟩ := hrow
  have hlv : vs.length ≤ 10 := by omega
  have HV : Hid (vs.length = wss.length ∧ (a2 = none → vs = [] ∧ cap2 = 0) ∧ (∀ (x : Addr), a2 = some x → ∀ (j : Nat) (u : Value), vs[j]? = some u → w.cell? (x.add j) = some u) ∧ (∀ (i : Nat) (x : Value) (ws : List ByteArray), vs[i]? = some x → wss[i]? = some ws → Strs w x ws)) := ⟨hvl, hn2, hc2, hvs⟩
  clear hvl hn2 hc2 hvs hg
  have hb2 : Hid (Below w.heap.size w (w.alloc (.cells #[.int .i64 0, .int .i64 k0, .slice a2 vs.length cap2] 24))) := (Below.refl w.heap.size w).alloc (by simp) _
  go_enter Tryd.func9, Tryd.ntmps9
  go_wp2_with (go_at_call 21; refine (new_ok k0 _).mono ?_; rintro e w1 ⟨rfl, rfl⟩)
  go_loopg [3, 4] (vs.length + 1) (fun g v i wr => ∃ k : Nat, g + k = vs.length + 1 ∧ k ≤ vs.length ∧ i = .int .i64 k ∧ v = .nilIface ∧ (w.alloc (.cells #[.int .i64 0, .int .i64 k0, .slice a2 vs.length cap2] 24)) = wr)
  case atStart => exact ⟨0, by omega, by omega, rfl, rfl, rfl⟩
  case round =>
    obtain ⟨k, hgk, hk, rfl, rfl, rfl⟩ := hrel
    by_cases hlt : k < vs.length
    · obtain ⟨b2, o2, rfl, hcell⟩ := row_at HV.out.2.1 HV.out.2.2.1 (by omega)
      obtain ⟨x, hx⟩ : ∃ x, vs[k]? = some x := ⟨_, List.getElem?_eq_getElem hlt⟩
      obtain ⟨ws, hws⟩ : ∃ ws, wss[k]? = some ws := ⟨_, List.getElem?_eq_getElem (by have := HV.out.1; omega)⟩
      have hcx := (hb2.out.cell (lt_of_cell (hcell k x hx))).trans (hcell k x hx)
      obtain ⟨a3, cap3, rfl, -, -⟩ := HV.out.2.2.2 k x ws hx hws
      rw [List.length_map] at hcx
      clear hcell hx hws
      go_wp2_with (go_at_call 15; refine (in_nil _ _ ⟨_, _, _, rfl⟩).mono ?_; rintro e w1 ⟨rfl, rfl⟩)
      go_roundg (gk - 1)
      case measure => omega
      case rel => exact ⟨k + 1, by omega, by omega, by go_num, rfl, rfl⟩
    · go_wp2
      go_ret
      exact ⟨rfl, hb2.out⟩

set_option maxRecDepth 100000 in
theorem made_some (sl : Value) (e0 k0 : Int) (wss : List (List ByteArray)) (w : World) (hr : Rows w sl wss) (hg : great1 (e0, k0, wss) = false) (he : ¬ e0 = 0) :
    Calls Tryd.prog 9 #[.agg #[.int .i64 e0, .int .i64 k0, sl]] w fun e w' => ∃ v bot, e = .returned v ∧ ErrOf w' v ((rwords (e0, k0, wss)).map Value.string) bot ∧ IsFault w' bot e0 k0 ∧ Below w.heap.size w w' := by
  obtain ⟨vs, hrow, hvl, hvs⟩ := hr
  obtain ⟨a2, cap2, rfl, hn2, hc2⟩ := hrow
  have hlen := (great1_parts hg).1
  have hlv : vs.length ≤ 10 := by simp only at hlen; omega
  have HV : Hid (vs.length = wss.length ∧ (a2 = none → vs = [] ∧ cap2 = 0) ∧ (∀ (x : Addr), a2 = some x → ∀ (j : Nat) (u : Value), vs[j]? = some u → w.cell? (x.add j) = some u) ∧ (∀ (i : Nat) (x : Value) (ws : List ByteArray), vs[i]? = some x → wss[i]? = some ws → Strs w x ws) ∧ great1 (e0, k0, wss) = false) := ⟨hvl, hn2, hc2, hvs, hg⟩
  clear hvl hn2 hc2 hvs hg hlen
  have hb2 : Hid (Below w.heap.size w (w.alloc (.cells #[.int .i64 e0, .int .i64 k0, .slice a2 vs.length cap2] 24))) := (Below.refl w.heap.size w).alloc (by simp) _
  have HC : Hid ((w.alloc (.cells #[.int .i64 e0, .int .i64 k0, .slice a2 vs.length cap2] 24)).cell? ⟨w.heap.size, 2, none⟩ = some (.slice a2 vs.length cap2)) := (by simp : (w.alloc (.cells #[.int .i64 e0, .int .i64 k0, .slice a2 vs.length cap2] 24)).cell? ⟨w.heap.size, 2, none⟩ = some (.slice a2 vs.length cap2))
  go_enter Tryd.func9, Tryd.ntmps9
  go_wp2_with (go_at_call 21; refine (new_some e0 k0 _ he).mono ?_; rintro e w1 ⟨v1, rfl, hf1, hb1⟩; have HF := Lib.hid hf1; have H1 := Lib.hid hb1; obtain ⟨b1, rfl, -, -⟩ := hf1; clear hb1)
  go_loopg [3, 4] (vs.length + 1) (fun g v i wr => ∃ k : Nat, g + k = vs.length + 1 ∧ k ≤ vs.length ∧ i = .int .i64 k ∧ ErrOf wr v (((wss.take k).reverse.flatten).map Value.string) (.iface 52 (.pointer (some ⟨b1, 0, none⟩))) ∧ Below w1.heap.size w1 wr)
  case atStart => exact ⟨0, by omega, by omega, rfl, ⟨[], rfl, rfl⟩, Below.refl _ _⟩
  case round =>
    obtain ⟨k, hgk, hk, rfl, hE, hb⟩ := hrel
    obtain ⟨tv, xv, rfl⟩ := hE.iface
    have HB : Hid (Below w1.heap.size w1 wr ∧ ErrOf wr (.iface tv xv) (((wss.take k).reverse.flatten).map Value.string) (.iface 52 (.pointer (some ⟨b1, 0, none⟩)))) := ⟨hb, hE⟩
    have hb12 : Hid (Below w.heap.size w wr) := (hb2.out.trans (H1.out.mono hb2.out.size)).trans (hb.mono (Nat.le_trans hb2.out.size H1.out.size))
    have hc2 := (hb.cell (Nat.lt_of_lt_of_le (lt_of_cell HC.out) H1.out.size)).trans ((H1.out.cell (lt_of_cell HC.out)).trans HC.out)
    clear hb hE
    by_cases hlt : k < vs.length
    · obtain ⟨b2, o2, rfl, hcell⟩ := row_at HV.out.2.1 HV.out.2.2.1 (by omega)
      obtain ⟨x, hx⟩ : ∃ x, vs[k]? = some x := ⟨_, List.getElem?_eq_getElem hlt⟩
      obtain ⟨ws, hws⟩ : ∃ ws, wss[k]? = some ws := ⟨_, List.getElem?_eq_getElem (by have := HV.out.1; omega)⟩
      have hcx := (hb12.out.cell (lt_of_cell (hcell k x hx))).trans (hcell k x hx)
      have hst := HV.out.2.2.2.1 k x ws hx hws
      have HS := Lib.hid hst
      obtain ⟨a3, cap3, rfl, -, -⟩ := hst
      rw [List.length_map] at hcx HS
      have HW := Lib.hid hws
      have hwl : Hid ((ws.map Value.string).length ≤ 100000) := (by have := (great1_parts HV.out.2.2.2.2).2 ws (List.mem_of_getElem? HW.out); rw [List.length_map]; omega : (ws.map Value.string).length ≤ 100000)
      clear hcell hx hws
      go_wp2_with (go_at_call 15; refine (in_any _ _ _ (ws.map Value.string) _ _ _ HB.out.2 (HS.out.up hb12.out) (strs_one ws) hwl.out).mono ?_; rintro e w2 ⟨v2, rfl, hE2, hb3⟩)
      go_roundg (gk - 1)
      case measure => omega
      case rel =>
        refine ⟨k + 1, by omega, by omega, by go_num, ?_, HB.out.1.trans (hb3.mono HB.out.1.size)⟩
        rw [rev_step wss k ws HW.out, List.map_append]
        exact hE2
    · go_wp2
      go_ret
      refine ⟨_, _, rfl, ?_, HF.out.up HB.out.1, hb12.out⟩
      have h1 := HB.out.2
      have h2 := HV.out.1
      rw [List.take_of_length_le (by omega)] at h1
      rw [rwords, if_neg he]
      exact h1
end Go.Proofs.YtmlmgkaghcnpnaaDoor
