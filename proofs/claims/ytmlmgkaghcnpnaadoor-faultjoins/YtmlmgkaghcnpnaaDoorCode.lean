/- fault.Code, At and Is. -/
import Derived.Test.YtmlmgkaghcnpnaaDoorTell
namespace Go.Proofs.YtmlmgkaghcnpnaaDoor
open Go.RowKit

theorem hit_cell {w w' : World} {t : Addr} {old v : Value} (h : Hit w w' t v) (ht : w.cell? t = some old) : w'.cell? t = some v := by
  obtain ⟨u, hu, rfl⟩ := h
  exact World.cell?_setCell_same _ _ _ ((hu.cell (lt_of_cell ht)).trans ht)
theorem hit_below {w0 w w' : World} {t : Addr} {v : Value} (h : Hit w w' t v) (hb : Below w0.heap.size w0 w) (ht : w0.heap.size ≤ t.block) : Below w0.heap.size w0 w' := by
  obtain ⟨u, hu, rfl⟩ := h
  exact (hb.trans (hu.mono hb.size)).setCell ht _

theorem code_nil (w : World) : Calls Tryd.prog 11 #[.nilIface] w fun e w' => e = .returned (.int .i64 0) ∧ w' = w := by
  have e1 := eqlNone
  go_enter Tryd.func11, Tryd.ntmps11
  go_wp2
  go_ret
  exact ⟨rfl, rfl⟩

/-- Where the walk through the error comes to a number, Code is it. -/
theorem code_of (tv : TypeId) (xv : Value) (n : Int) (w : World)
    (hS : ∀ (t : Addr) (w1 : World), Below w.heap.size w w1 → w1.cell? t = some (.int .i64 10) → w1.frozen? t = false → Calls Tryd.prog 22 #[.iface tv xv, .func (.func 25) #[] #[.pointer (some t)]] w1 fun e w' => e = .returned (.bool true) ∧ Hit w1 w' t (.int .i64 n)) :
    Calls Tryd.prog 11 #[.iface tv xv] w fun e w' => e = .returned (.int .i64 n) ∧ Below w.heap.size w w' := by
  have e1 := eqlSome
  have hmf : ∀ (fn : Fn) (first cap : Array Value) (w : World), (Instr.makeFunc fn first cap).run Tryd.prog w = .ok (.func fn first cap) w := fun _ _ _ _ => rfl
  have hb := (Below.refl w.heap.size w).alloc (Nat.le_refl _) (.cells #[.int .i64 10] 33)
  have H := Lib.hid (hS ⟨w.heap.size, 0, none⟩ (w.alloc (.cells #[.int .i64 10] 33)) hb (cell_new _ _ _) (free_new _ _ _))
  have HB := Lib.hid hb
  clear hS hb
  go_enter Tryd.func11, Tryd.ntmps11
  go_wp2_with (go_at_call 22; refine H.out.mono ?_; rintro e w1 ⟨rfl, hq⟩; have HQ := Lib.hid hq; have hc := hit_cell hq (cell_new _ _ _); clear hq)
  go_ret
  exact ⟨rfl, hit_below HQ.out HB.out (Nat.le_refl _)⟩

/-- some, of nil. -/
theorem some_nil (f : Value) (w : World) (hf : ∃ F c, f = .func (.func F) #[] #[c]) : Calls Tryd.prog 22 #[.nilIface, f] w fun e w' => e = .returned (.bool false) ∧ Below w.heap.size w w' := by
  have nN := neqNone
  obtain ⟨F, c, rfl⟩ := hf
  go_enter Tryd.func22, Tryd.ntmps22
  go_wp2
  refine wp_loop_rounds 1 ?_
  rw [rounds_succ]
  go_wp2
  go_ret
  exact ⟨rfl, (Below.refl w.heap.size w).alloc (Nat.le_refl _) _⟩

theorem at_some (tv : TypeId) (xv : Value) (b : Nat) (k : Int) (w : World) (hk : w.cell? ⟨b, 1, none⟩ = some (.int .i64 k))
    (hS : ∀ (t : Addr) (w1 : World), Below w.heap.size w w1 → w1.cell? t = some (.pointer none) → w1.frozen? t = false → Calls Tryd.prog 22 #[.iface tv xv, .func (.func 23) #[] #[.pointer (some t)]] w1 fun e w' => e = .returned (.bool true) ∧ Hit w1 w' t (.pointer (some ⟨b, 0, none⟩))) :
    Calls Tryd.prog 10 #[.iface tv xv] w fun e w' => e = .returned (.tuple #[.int .i64 k, .bool true]) ∧ Below w.heap.size w w' := by
  have hmf : ∀ (fn : Fn) (first cap : Array Value) (w : World), (Instr.makeFunc fn first cap).run Tryd.prog w = .ok (.func fn first cap) w := fun _ _ _ _ => rfl
  have hb := (Below.refl w.heap.size w).alloc (Nat.le_refl _) (.cells #[.pointer none] 52)
  have H := Lib.hid (hS ⟨w.heap.size, 0, none⟩ (w.alloc (.cells #[.pointer none] 52)) hb (cell_new _ _ _) (free_new _ _ _))
  have HB := Lib.hid hb
  have HK := Lib.hid hk
  clear hS hb hk
  go_enter Tryd.func10, Tryd.ntmps10
  go_wp2_with (go_at_call 22; refine H.out.mono ?_; rintro e w1 ⟨rfl, hq⟩; have HQ := Lib.hid (hit_below hq HB.out (Nat.le_refl _)); have hc := hit_cell hq (cell_new _ _ _); have hk' := (HQ.out.cell (lt_of_cell HK.out)).trans HK.out; clear hq)
  all_goals go_ret2
  all_goals exact ⟨rfl, HQ.out⟩

theorem at_none (v : Value) (w : World) (hsh : v = .nilIface ∨ ∃ t y, v = .iface t y)
    (hS : ∀ (t : Addr) (w1 : World), Below w.heap.size w w1 → Calls Tryd.prog 22 #[v, .func (.func 23) #[] #[.pointer (some t)]] w1 fun e w' => e = .returned (.bool false) ∧ Below w1.heap.size w1 w') :
    Calls Tryd.prog 10 #[v] w fun e w' => e = .returned (.tuple #[.int .i64 0, .bool false]) ∧ Below w.heap.size w w' := by
  have hmf : ∀ (fn : Fn) (first cap : Array Value) (w : World), (Instr.makeFunc fn first cap).run Tryd.prog w = .ok (.func fn first cap) w := fun _ _ _ _ => rfl
  have hb := (Below.refl w.heap.size w).alloc (Nat.le_refl _) (.cells #[.pointer none] 52)
  have H := Lib.hid (hS ⟨w.heap.size, 0, none⟩ (w.alloc (.cells #[.pointer none] 52)) hb)
  have HB := Lib.hid hb
  clear hS hb
  rcases hsh with rfl | ⟨tv, xv, rfl⟩
  · go_enter Tryd.func10, Tryd.ntmps10
    go_wp2_with (go_at_call 22; refine H.out.mono ?_; rintro e w1 ⟨rfl, hq⟩; have HQ := Lib.hid hq; clear hq)
    all_goals go_ret2
    all_goals exact ⟨rfl, HB.out.trans (HQ.out.mono HB.out.size)⟩
  · go_enter Tryd.func10, Tryd.ntmps10
    go_wp2_with (go_at_call 22; refine H.out.mono ?_; rintro e w1 ⟨rfl, hq⟩; have HQ := Lib.hid hq; clear hq)
    all_goals go_ret2
    all_goals exact ⟨rfl, HB.out.trans (HQ.out.mono HB.out.size)⟩

theorem is_of (v sl : Value) (y : Bool) (w : World) (hsh : v = .nilIface ∨ ∃ t y, v = .iface t y) (hsl : ∃ a n c, sl = .slice a n c)
    (hS : ∀ (t : Addr) (w1 : World), Below w.heap.size w w1 → w1.cell? t = some sl → Calls Tryd.prog 22 #[v, .func (.func 28) #[] #[.pointer (some t)]] w1 fun e w' => e = .returned (.bool y) ∧ Below w1.heap.size w1 w') :
    Calls Tryd.prog 19 #[v, sl] w fun e w' => e = .returned (.bool y) ∧ Below w.heap.size w w' := by
  have hmf : ∀ (fn : Fn) (first cap : Array Value) (w : World), (Instr.makeFunc fn first cap).run Tryd.prog w = .ok (.func fn first cap) w := fun _ _ _ _ => rfl
  have hb := (Below.refl w.heap.size w).alloc (Nat.le_refl _) (.cells #[sl] 48)
  have H := Lib.hid (hS ⟨w.heap.size, 0, none⟩ (w.alloc (.cells #[sl] 48)) hb (cell_new _ _ _))
  have HB := Lib.hid hb
  clear hS hb
  obtain ⟨a, n, c, rfl⟩ := hsl
  rcases hsh with rfl | ⟨tv, xv, rfl⟩
  · go_enter Tryd.func19, Tryd.ntmps19
    go_wp2_with (go_at_call 22; refine H.out.mono ?_; rintro e w1 ⟨rfl, hq⟩; have HQ := Lib.hid hq; clear hq)
    go_ret
    exact ⟨rfl, HB.out.trans (HQ.out.mono HB.out.size)⟩
  · go_enter Tryd.func19, Tryd.ntmps19
    go_wp2_with (go_at_call 22; refine H.out.mono ?_; rintro e w1 ⟨rfl, hq⟩; have HQ := Lib.hid hq; clear hq)
    go_ret
    exact ⟨rfl, HB.out.trans (HQ.out.mono HB.out.size)⟩
end Go.Proofs.YtmlmgkaghcnpnaaDoor
