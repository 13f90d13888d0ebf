/- fault.joined: the errors that were joined. -/
import Derived.Test.YtmlmgkaghcnpnaaDoorErrA
namespace Go.Proofs.YtmlmgkaghcnpnaaDoor
open Go.RowKit

theorem unwrapS_any (b : Nat) (sl : Value) (xs : List Value) (w : World) (hc : w.cell? ⟨b, 0, none⟩ = some sl) (hr : Row w sl xs) (h1 : ∀ u ∈ xs, u.oneCell' = true) (hlen : xs.length ≤ 100000) :
    Calls Tryd.prog 73 #[.pointer (some ⟨b, 0, none⟩)] w fun e w' => ∃ v, e = .returned v ∧ w'.ownsRow w.heap.size 29 1 v xs.length xs ∧ Below w.heap.size w w' := by
  have hS := Lib.hid (cloneE_any sl xs w hr h1 hlen)
  obtain ⟨a, cap, rfl, -, -⟩ := hr
  clear h1
  go_enter Tryd.func73, Tryd.ntmps73
  go_wp2_with (go_at_call 74; refine hS.out.mono ?_; rintro e w1 ⟨v, rfl, hown, hb⟩)
  go_ret
  exact ⟨_, rfl, hown, hb⟩

theorem joined1_any (s t : Addr) (b : Nat) (old sl : Value) (xs : List Value) (w : World) (hs : w.cell? s = some (.iface 66 (.pointer (some ⟨b, 0, none⟩)))) (ht : w.cell? t = some old) (hf : w.frozen? t = false) (hc : w.cell? ⟨b, 0, none⟩ = some sl) (hr : Row w sl xs) (h1 : ∀ u ∈ xs, u.oneCell' = true) (hlen : xs.length ≤ 100000) :
    Calls Tryd.prog 46 #[.pointer (some s), .pointer (some t)] w fun e w' => e = .returned (.tuple #[]) ∧ ∃ v u, w' = u.setCell t v ∧ u.ownsRow w.heap.size 29 1 v xs.length xs ∧ Below w.heap.size w u := by
  have hS := Lib.hid (unwrapS_any b sl xs w hc hr h1 hlen)
  have mU := Tryd.methodUnwrapS
  have htl := lt_of_cell ht
  clear hc hr h1
  go_enter Tryd.func46, Tryd.ntmps46
  go_wp2_with (go_at_call 73; refine hS.out.mono ?_; rintro e w1 ⟨v, rfl, hown, hb⟩; obtain ⟨a1, c1, rfl, -, -⟩ := Row.of_owns hown; have ht' := (hb.cell htl).trans ht; have hf' := (hb.frozen htl).trans hf)
  go_end0
  exact ⟨rfl, _, _, rfl, hown, hb⟩

theorem joined_any (b : Nat) (sl : Value) (xs : List Value) (w : World) (hc : w.cell? ⟨b, 0, none⟩ = some sl) (hr : Row w sl xs) (h1 : ∀ u ∈ xs, u.oneCell' = true) (hlen : xs.length ≤ 100000) :
    Calls Tryd.prog 33 #[.iface 66 (.pointer (some ⟨b, 0, none⟩))] w fun e w' => ∃ v, e = .returned v ∧ Row w' v xs ∧ Below w.heap.size w w' := by
  have hmf : ∀ (fn : Fn) (first cap : Array Value) (w : World), (Instr.makeFunc fn first cap).run Tryd.prog w = .ok (.func fn first cap) w := fun _ _ _ _ => rfl
  have hb2 : Below w.heap.size w ((w.alloc (.cells #[.iface 66 (.pointer (some ⟨b, 0, none⟩))] 73)).alloc (.cells #[.slice none 0 0] 40)) := ((Below.refl w.heap.size w).alloc (by simp) _).alloc (by simp) _
  have hS := Lib.hid (calmly_any 46 #[.pointer (some ⟨w.heap.size, 0, none⟩), .pointer (some ⟨w.heap.size + 1, 0, none⟩)] ((w.alloc (.cells #[.iface 66 (.pointer (some ⟨b, 0, none⟩))] 73)).alloc (.cells #[.slice none 0 0] 40)) _ enters46
    (joined1_any ⟨w.heap.size, 0, none⟩ ⟨w.heap.size + 1, 0, none⟩ b (.slice none 0 0) sl xs _ (cell_up (cell_new _ _ _) _) (by simp [go_sem]) (by simp [go_sem]) ((hb2.cell (lt_of_cell hc)).trans hc) (hr.up hb2) h1 hlen))
  have HB := Lib.hid hb2
  have ht0 : ((w.alloc (.cells #[.iface 66 (.pointer (some ⟨b, 0, none⟩))] 73)).alloc (.cells #[.slice none 0 0] 40)).cell? ⟨w.heap.size + 1, 0, none⟩ = some (.slice none 0 0) := by simp [go_sem]
  have hf0 : ((w.alloc (.cells #[.iface 66 (.pointer (some ⟨b, 0, none⟩))] 73)).alloc (.cells #[.slice none 0 0] 40)).frozen? ⟨w.heap.size + 1, 0, none⟩ = false := by simp [go_sem]
  have HT := Lib.hid (And.intro ht0 hf0)
  clear hc hr h1 hb2 ht0 hf0
  go_enter Tryd.func33, Tryd.ntmps33
  go_wp2_with (go_at_call 39; refine hS.out.mono ?_; rintro e w1 ⟨rfl, v, u, rfl, hown, hb⟩; obtain ⟨a1, c1, rfl, -, -⟩ := Row.of_owns hown; have ht' := (hb.cell (lt_of_cell HT.out.1)).trans HT.out.1; have hf' := (hb.frozen (lt_of_cell HT.out.1)).trans HT.out.2)
  refine bodyPost_ret (v := .slice a1 xs.length c1) (by simp [results, Tryd.results33, go_sem, ht']) rfl ⟨_, rfl, ?_, ?_⟩
  · exact Row.of_owns (ownsRow_setCell_below (ownsRow_setCell_below hown (by simp) _) (by simp) _)
  · exact ((HB.out.trans (hb.mono (HB.out.size))).setCell (by simp) _).setCell (by simp) _
end Go.Proofs.YtmlmgkaghcnpnaaDoor
