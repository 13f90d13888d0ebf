/- What an error that Check made tells: its number and its place. -/
import Derived.Test.YtibjpkicchdomaaDoorAsB
import Derived.Test.YtibjpkicchdomaaDoorCheck
import Derived.LoopN
namespace Go.Proofs.YtibjpkicchdomaaDoor
open Go.RowKit

theorem et_up {w w' : World} (h : Er.EtLaid w) (hb : Below w.heap.size w w') : Er.EtLaid w' := (hb.cell (lt_of_cell h)).trans h
theorem hit_up {w w1 w' : World} {t : Addr} {v : Value} (hb : Below w.heap.size w w1) (h : Er.Hit w1 w' t v) : Er.Hit w w' t v := by
  obtain ⟨u, hu, rfl⟩ := h
  exact ⟨u, hb.trans (hu.mono hb.size), rfl⟩
theorem hit_cellD {w w' : World} {t : Addr} {old v : Value} (h : Er.Hit w w' t v) (ht : w.cell? t = some old) : w'.cell? t = some v := by
  obtain ⟨u, hu, rfl⟩ := h
  exact World.cell?_setCell_same _ _ _ ((hu.cell (lt_of_cell ht)).trans ht)
theorem hit_belowD {w0 w w' : World} {t : Addr} {v : Value} (h : Er.Hit w w' t v) (hb : Below w0.heap.size w0 w) (ht : w0.heap.size ≤ t.block) : Below w0.heap.size w0 w' := by
  obtain ⟨u, hu, rfl⟩ := h
  exact (hb.trans (hu.mono hb.size)).setCell ht _
theorem cellD_new (w : World) (v : Value) (ty : TypeId) : (w.alloc (.cells #[v] ty)).cell? ⟨w.heap.size, 0, none⟩ = some v := by simp
theorem freeD_new (w : World) (v : Value) (ty : TypeId) : (w.alloc (.cells #[v] ty)).frozen? ⟨w.heap.size, 0, none⟩ = false := by
  have h := heap_alloc_new w (.cells #[v] ty)
  simp only [World.frozen?]
  rw [h]
  simp
theorem neqS (u : TypeId) (x : Value) (w : World) : (binOp .neq 30 (.iface u x) .nilIface).run Tryd.prog w = .ok (.bool true) w := by kernel_rfl
theorem neqN (w : World) : (binOp .neq 30 .nilIface .nilIface).run Tryd.prog w = .ok (.bool false) w := by kernel_rfl
theorem eqlS (u : TypeId) (x : Value) (w : World) : (binOp .eql 30 (.iface u x) .nilIface).run Tryd.prog w = .ok (.bool false) w := by kernel_rfl
theorem eqlN (w : World) : (binOp .eql 30 .nilIface .nilIface).run Tryd.prog w = .ok (.bool true) w := by kernel_rfl
theorem asF_E (v : Value) (w : World) : (Instr.typeAssert (.iface 49 v) 30 37 true).run Tryd.prog w = .ok (.tuple #[.int .i64 0, .bool false]) w := by kernel_rfl
theorem asF_F (v : Value) (w : World) : (Instr.typeAssert (.iface 49 v) 30 49 true).run Tryd.prog w = .ok (.tuple #[v, .bool true]) w := by kernel_rfl
theorem entersC1 : Enters 26 := enters_of Tryd.func26 (by kernel_rfl) rfl
theorem entersA1 : Enters 24 := enters_of Tryd.func24 (by kernel_rfl) rfl

theorem codeF1 (b : Nat) (n : Int) (t : Addr) (old : Value) (w : World) (h : w.cell? ⟨b, 0, none⟩ = some (.int .i64 n)) (hg : Er.EtLaid w) (ht : w.cell? t = some old) (hf : w.frozen? t = false) :
    Calls Tryd.prog 26 #[.iface 49 (.pointer (some ⟨b, 0, none⟩)), .pointer (some t)] w fun e w' => e = .returned (.bool true) ∧ Er.Hit w w' t (.int .i64 n) := by
  have hS := Lib.hid (Er.as_fault_code b 0 n t old w hg h ht hf)
  clear hg ht hf h
  go_enter Tryd.func26, Tryd.ntmps26
  go_wp2_with (go_at_call 25; refine hS.out.mono ?_; rintro e w1 ⟨rfl, hq⟩)
  go_ret
  exact ⟨rfl, hq⟩
theorem atF1 (b : Nat) (t : Addr) (old : Value) (w : World) (hg : Er.EtLaid w) (ht : w.cell? t = some old) (hf : w.frozen? t = false) :
    Calls Tryd.prog 24 #[.iface 49 (.pointer (some ⟨b, 0, none⟩)), .pointer (some t)] w fun e w' => e = .returned (.bool true) ∧ Er.Hit w w' t (.pointer (some ⟨b, 0, none⟩)) := by
  have hS := Lib.hid (Er.as_fault_at ⟨b, 0, none⟩ t old w hg ht hf)
  clear hg ht hf
  go_enter Tryd.func24, Tryd.ntmps24
  go_wp2_with (go_at_call 25; refine hS.out.mono ?_; rintro e w1 ⟨rfl, hq⟩)
  go_ret
  exact ⟨rfl, hq⟩

set_option maxRecDepth 100000 in
/-- some, at a fault: it is asked. -/
theorem someF (F : Nat) (hE : Enters F) (c : Value) (b : Nat) (w : World) (Q : World → Prop) (hF : ∀ w1, Below w.heap.size w w1 → Calls Tryd.prog F #[.iface 49 (.pointer (some ⟨b, 0, none⟩)), c] w1 fun e w' => e = .returned (.bool true) ∧ Q w') :
    Calls Tryd.prog 23 #[.iface 49 (.pointer (some ⟨b, 0, none⟩)), .func (.func F) #[] #[c]] w fun e w' => e = .returned (.bool true) ∧ Q w' := by
  have HF := Lib.hid hF
  clear hF
  have nS := neqS
  have b2 := asF_E
  have d2 := asF_F
  have hent : ∀ (args : Array Value) (w : World), (callFunc F args).run Tryd.prog w = .ok (.enter F args) w := hE
  have HA : Hid (Below w.heap.size w (w.alloc (.cells #[.func (.func F) #[] #[c]] 53))) := (Below.refl _ _).alloc (Nat.le_refl _) _
  go_enter Tryd.func23, Tryd.ntmps23
  go_wp2
  refine wp_loop_rounds 1 ?_
  rw [rounds_succ]
  go_wp2
  refine (HF.out _ HA.out).mono ?_
  rintro e w2 ⟨rfl, hq⟩
  have HQ := Lib.hid hq
  clear hq
  go_wp2
  go_ret
  exact ⟨rfl, HQ.out⟩
theorem someN (f : Value) (w : World) (hf : ∃ F c, f = .func (.func F) #[] #[c]) : Calls Tryd.prog 23 #[.nilIface, f] w fun e w' => e = .returned (.bool false) ∧ Below w.heap.size w w' := by
  have nN := neqN
  obtain ⟨F, c, rfl⟩ := hf
  go_enter Tryd.func23, Tryd.ntmps23
  go_wp2
  refine wp_loop_rounds 1 ?_
  rw [rounds_succ]
  go_wp2
  go_ret
  exact ⟨rfl, (Below.refl w.heap.size w).alloc (Nat.le_refl _) _⟩

theorem codeN (w : World) : Calls Tryd.prog 9 #[.nilIface] w fun e w' => e = .returned (.int .i64 0) ∧ Below w.heap.size w w' := by
  have e1 := eqlN
  go_enter Tryd.func9, Tryd.ntmps9
  go_wp2
  go_ret
  exact ⟨rfl, Below.refl _ _⟩
theorem codeF (b : Nat) (n : Int) (w : World) (h : w.cell? ⟨b, 0, none⟩ = some (.int .i64 n)) (hg : Er.EtLaid w) : Calls Tryd.prog 9 #[.iface 49 (.pointer (some ⟨b, 0, none⟩))] w fun e w' => e = .returned (.int .i64 n) ∧ Below w.heap.size w w' := by
  have e1 := eqlS
  have hmf : ∀ (fn : Fn) (first cap : Array Value) (w : World), (Instr.makeFunc fn first cap).run Tryd.prog w = .ok (.func fn first cap) w := fun _ _ _ _ => rfl
  have hb := (Below.refl w.heap.size w).alloc (Nat.le_refl _) (.cells #[.int .i64 10] 37)
  have H := Lib.hid (someF 26 entersC1 (.pointer (some ⟨w.heap.size, 0, none⟩)) b (w.alloc (.cells #[.int .i64 10] 37)) (fun w' => Er.Hit (w.alloc (.cells #[.int .i64 10] 37)) w' ⟨w.heap.size, 0, none⟩ (.int .i64 n)) (fun w1 h1 =>
    (codeF1 b n ⟨w.heap.size, 0, none⟩ (.int .i64 10) w1 ((h1.cell (Nat.lt_of_lt_of_le (lt_of_cell h) hb.size)).trans ((hb.cell (lt_of_cell h)).trans h)) (et_up (et_up hg hb) h1) ((h1.cell (lt_of_cell (cellD_new w _ _))).trans (cellD_new w _ _)) ((h1.frozen (lt_of_cell (cellD_new w (.int .i64 10) 37))).trans (freeD_new w _ _))).mono fun e w' ⟨h1', h2'⟩ => ⟨h1', hit_up h1 h2'⟩))
  have HB := Lib.hid hb
  clear hb hg h
  go_enter Tryd.func9, Tryd.ntmps9
  go_wp2_with (go_at_call 23; refine H.out.mono ?_; rintro e w1 ⟨rfl, hq⟩; have HQ := Lib.hid hq; have hc := hit_cellD hq (cellD_new _ _ _); clear hq)
  go_ret
  exact ⟨rfl, hit_belowD HQ.out HB.out (Nat.le_refl _)⟩
theorem atN (w : World) : Calls Tryd.prog 8 #[.nilIface] w fun e w' => e = .returned (.tuple #[.int .i64 0, .bool false]) ∧ Below w.heap.size w w' := by
  have hmf : ∀ (fn : Fn) (first cap : Array Value) (w : World), (Instr.makeFunc fn first cap).run Tryd.prog w = .ok (.func fn first cap) w := fun _ _ _ _ => rfl
  have hb := (Below.refl w.heap.size w).alloc (Nat.le_refl _) (.cells #[.pointer none] 49)
  have H := Lib.hid (someN (.func (.func 24) #[] #[.pointer (some ⟨w.heap.size, 0, none⟩)]) (w.alloc (.cells #[.pointer none] 49)) ⟨_, _, rfl⟩)
  have HB := Lib.hid hb
  clear hb
  go_enter Tryd.func8, Tryd.ntmps8
  go_wp2_with (go_at_call 23; refine H.out.mono ?_; rintro e w1 ⟨rfl, hq⟩; have HQ := Lib.hid hq; clear hq)
  all_goals go_ret2
  all_goals exact ⟨rfl, HB.out.trans (HQ.out.mono HB.out.size)⟩
theorem atF (b : Nat) (k : Int) (w : World) (hk : w.cell? ⟨b, 1, none⟩ = some (.int .i64 k)) (hg : Er.EtLaid w) : Calls Tryd.prog 8 #[.iface 49 (.pointer (some ⟨b, 0, none⟩))] w fun e w' => e = .returned (.tuple #[.int .i64 k, .bool true]) ∧ Below w.heap.size w w' := by
  have hmf : ∀ (fn : Fn) (first cap : Array Value) (w : World), (Instr.makeFunc fn first cap).run Tryd.prog w = .ok (.func fn first cap) w := fun _ _ _ _ => rfl
  have hb := (Below.refl w.heap.size w).alloc (Nat.le_refl _) (.cells #[.pointer none] 49)
  have H := Lib.hid (someF 24 entersA1 (.pointer (some ⟨w.heap.size, 0, none⟩)) b (w.alloc (.cells #[.pointer none] 49)) (fun w' => Er.Hit (w.alloc (.cells #[.pointer none] 49)) w' ⟨w.heap.size, 0, none⟩ (.pointer (some ⟨b, 0, none⟩))) (fun w1 h1 =>
    (atF1 b ⟨w.heap.size, 0, none⟩ (.pointer none) w1 (et_up (et_up hg hb) h1) ((h1.cell (lt_of_cell (cellD_new w _ _))).trans (cellD_new w _ _)) ((h1.frozen (lt_of_cell (cellD_new w (.pointer none) 49))).trans (freeD_new w _ _))).mono fun e w' ⟨h1', h2'⟩ => ⟨h1', hit_up h1 h2'⟩))
  have HB := Lib.hid hb
  have HK := Lib.hid hk
  clear hb hg hk
  go_enter Tryd.func8, Tryd.ntmps8
  go_wp2_with (go_at_call 23; refine H.out.mono ?_; rintro e w1 ⟨rfl, hq⟩; have HQ := Lib.hid (hit_belowD hq HB.out (Nat.le_refl _)); have hc := hit_cellD hq (cellD_new _ _ _); have hk' := (HQ.out.cell (lt_of_cell HK.out)).trans HK.out; clear hq)
  all_goals go_ret2
  all_goals exact ⟨rfl, HQ.out⟩
end Go.Proofs.YtibjpkicchdomaaDoor
