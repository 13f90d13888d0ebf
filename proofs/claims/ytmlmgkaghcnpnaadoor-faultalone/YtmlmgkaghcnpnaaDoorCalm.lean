/- calmly, inner: what an error holds, asked without a panic. -/
import Derived.Test.YtmlmgkaghcnpnaaDoorAsB
import Derived.Defers
import Derived.Recover
namespace Go.Proofs.YtmlmgkaghcnpnaaDoor
open Go.RowKit Go.Extern.Stop Go.Stop Go.Extern

/-- The deferred closure of calmly, where nothing panics: it turns nothing. -/
theorem catch_idle (w : World) :
    CallsD Tryd.prog 49 #[] .returning w fun e u' w' => e = .returned (.tuple #[]) ∧ u' = .returning ∧ w' = w := by
  refine callsD_of_wpS Tryd.func49 rfl fun c₀ cs hu => ?_
  apply wpS_region
  simp [wpOpsS, go_sem, recoverD, hu, Tryd.ntmps49]
  cases c₀
  simp_all [bodyPostS, results, Tryd.results49]

/-- A function that has a body is entered. -/
def Enters (F : Nat) : Prop := ∀ (args : Array Value) (w : World), (callFunc F args).run Tryd.prog w = .ok (.enter F args) w

/-- calmly calls what it was given, once. -/
theorem calmly_any (F : Nat) (caps : Array Value) (w : World) (Q : World → Prop) (hE : Enters F) (hF : Calls Tryd.prog F caps w fun e w' => e = .returned (.tuple #[]) ∧ Q w') :
    Calls Tryd.prog 39 #[.func (.func F) #[] caps] w fun e w' => e = .returned (.tuple #[]) ∧ Q w' := by
  have hmf : ∀ (fn : Fn) (first cap : Array Value) (w : World), (Instr.makeFunc fn first cap).run Tryd.prog w = .ok (.func fn first cap) w := fun _ _ _ _ => rfl
  have hent : ∀ (args : Array Value) (w : World), (callFunc F args).run Tryd.prog w = .ok (.enter F args) w := hE
  go_enter_defers Tryd.func39, Tryd.ntmps39
  go_wp2
  refine hF.mono ?_
  rintro e w1 ⟨rfl, hq⟩
  go_wp2
  refine leaves_cons (f := 49) (args := #[]) (by simp) (by simp [go_sem]) ?_
  refine (catch_idle _).mono ?_
  rintro e u' w'' ⟨rfl, rfl, rfl⟩
  simp [Leaves, settle, results, Tryd.results39, go_sem]
  exact hq
theorem enters40 : Enters 40 := fun args w => by kernel_rfl
theorem enters46 : Enters 46 := fun args w => by kernel_rfl
theorem enters23 : Enters 23 := fun args w => by kernel_rfl
theorem enters25 : Enters 25 := fun args w => by kernel_rfl
theorem enters28 : Enters 28 := fun args w => by kernel_rfl
theorem enters34 : Enters 34 := fun args w => by kernel_rfl
theorem enters30 : Enters 30 := fun args w => by kernel_rfl

/-- What errors.Unwrap answers: what is in one, a fault's number; nil of a number and of several. -/
inductive Holds (w : World) : Value → Value → Prop
  | put (b : Nat) (t : TypeId) (x : Value) (h : w.cell? ⟨b, 1, none⟩ = some (.iface t x)) : Holds w (.iface 60 (.pointer (some ⟨b, 0, none⟩))) (.iface t x)
  | fault (b : Nat) (n : Int) (h : w.cell? ⟨b, 0, none⟩ = some (.int .i64 n)) : Holds w (.iface 52 (.pointer (some ⟨b, 0, none⟩))) (.iface 33 (.int .i64 n))
  | errno (n : Int) : Holds w (.iface 33 (.int .i64 n)) .nilIface
  | several (a : Option Addr) : Holds w (.iface 66 (.pointer a)) .nilIface

theorem unwrap_any (v x : Value) (w : World) (h : Holds w v x) :
    Calls Tryd.prog 41 #[v] w fun e w' => e = .returned x ∧ w' = w := by
  have h1 := Tryd.unwrapP
  have h2 := Tryd.unwrapF
  have h3 := Tryd.noUnwrapE
  have h4 := Tryd.noUnwrapS
  have m1 := Tryd.methodUnwrapP
  have m2 := Tryd.methodUnwrapF
  cases h with
  | put b t x h =>
    go_enter Tryd.func41, Tryd.ntmps41
    go_wp2
    go_ret
    exact ⟨rfl, rfl⟩
  | fault b n h =>
    go_enter Tryd.func41, Tryd.ntmps41
    go_wp2
    go_ret
    exact ⟨rfl, rfl⟩
  | errno n =>
    go_enter Tryd.func41, Tryd.ntmps41
    go_wp2
    go_ret
    exact ⟨rfl, rfl⟩
  | several a =>
    go_enter Tryd.func41, Tryd.ntmps41
    go_wp2
    go_ret
    exact ⟨rfl, rfl⟩

theorem Holds.below {w w' : World} {v x : Value} (h : Holds w v x) (hb : Below w.heap.size w w') : Holds w' v x := by
  cases h with
  | put b t x h => exact .put b t x ((hb.cell (lt_of_cell h)).trans h)
  | fault b n h => exact .fault b n ((hb.cell (lt_of_cell h)).trans h)
  | errno n => exact .errno n
  | several a => exact .several a

theorem Holds.shape {w : World} {v x : Value} (h : Holds w v x) : (∃ t y, v = .iface t y) ∧ (x = .nilIface ∨ ∃ t y, x = .iface t y) := by
  cases h with
  | put b t x h => exact ⟨⟨_, _, rfl⟩, .inr ⟨_, _, rfl⟩⟩
  | fault b n h => exact ⟨⟨_, _, rfl⟩, .inr ⟨_, _, rfl⟩⟩
  | errno n => exact ⟨⟨_, _, rfl⟩, .inl rfl⟩
  | several a => exact ⟨⟨_, _, rfl⟩, .inl rfl⟩

/-- The closure that inner hands to calmly. -/
theorem inner1_any (s t : Addr) (v x old : Value) (w : World) (h : Holds w v x) (hs : w.cell? s = some v) (ht : w.cell? t = some old) (hf : w.frozen? t = false) :
    Calls Tryd.prog 40 #[.pointer (some s), .pointer (some t)] w fun e w' => e = .returned (.tuple #[]) ∧ w' = w.setCell t x := by
  obtain ⟨⟨tv, yv, rfl⟩, hx⟩ := h.shape
  rcases hx with rfl | ⟨tx, yx, rfl⟩
  · go_enter Tryd.func40, Tryd.ntmps40
    go_wp2_with (go_at_call 41; refine (unwrap_any _ _ w h).mono ?_; rintro e w1 ⟨rfl, rfl⟩)
    go_end0
    exact ⟨rfl, rfl⟩
  · go_enter Tryd.func40, Tryd.ntmps40
    go_wp2_with (go_at_call 41; refine (unwrap_any _ _ w h).mono ?_; rintro e w1 ⟨rfl, rfl⟩)
    go_end0
    exact ⟨rfl, rfl⟩

theorem free_new (w : World) (v : Value) (ty : TypeId) : (w.alloc (.cells #[v] ty)).frozen? ⟨w.heap.size, 0, none⟩ = false := by simp [go_sem]

theorem inner_any (v x : Value) (w : World) (h : Holds w v x) :
    Calls Tryd.prog 26 #[v] w fun e w' => e = .returned x ∧ Below w.heap.size w w' := by
  have hmf : ∀ (fn : Fn) (first cap : Array Value) (w : World), (Instr.makeFunc fn first cap).run Tryd.prog w = .ok (.func fn first cap) w := fun _ _ _ _ => rfl
  obtain ⟨⟨tv, yv, rfl⟩, hx⟩ := h.shape
  have hb2 : Below w.heap.size w ((w.alloc (.cells #[.iface tv yv] 29)).alloc (.cells #[.nilIface] 29)) := ((Below.refl w.heap.size w).alloc (by simp) _).alloc (by simp) _
  have hc := calmly_any 40 #[.pointer (some ⟨w.heap.size, 0, none⟩), .pointer (some ⟨w.heap.size + 1, 0, none⟩)] ((w.alloc (.cells #[.iface tv yv] 29)).alloc (.cells #[.nilIface] 29)) _ enters40
    (inner1_any ⟨w.heap.size, 0, none⟩ ⟨w.heap.size + 1, 0, none⟩ _ x .nilIface _ (h.below hb2) (cell_up (cell_new _ _ _) _) (by simp [go_sem]) (by simp [go_sem]))
  rcases hx with rfl | ⟨tx, yx, rfl⟩
  · go_enter Tryd.func26, Tryd.ntmps26
    go_wp2_with (go_at_call 39; refine hc.mono ?_; rintro e w1 ⟨rfl, rfl⟩)
    refine bodyPost_ret (v := .nilIface) (by simp [results, Tryd.results26, go_sem]) rfl ⟨rfl, hb2⟩
  · go_enter Tryd.func26, Tryd.ntmps26
    go_wp2_with (go_at_call 39; refine hc.mono ?_; rintro e w1 ⟨rfl, rfl⟩)
    refine bodyPost_ret (v := .iface tx yx) (by simp [results, Tryd.results26, go_sem]) rfl ⟨rfl, ?_⟩
    exact (((Below.refl w.heap.size w).alloc (by simp) _).alloc (by simp) _)
end Go.Proofs.YtmlmgkaghcnpnaaDoor
