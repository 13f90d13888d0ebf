/- fault.Code, At and Is: what an error tells. -/
import Derived.Test.YtmlmgkaghcnpnaaDoorSomeS
import Derived.Test.YtmlmgkaghcnpnaaDoorIdxN
import Derived.Test.YtmlmgkaghcnpnaaDoorIsB
namespace Go.Proofs.YtmlmgkaghcnpnaaDoor
open Go.RowKit

theorem EtLaid.up {w w' : World} (h : EtLaid w) (hb : Below w.heap.size w w') : EtLaid w' := (hb.cell (lt_of_cell h)).trans h
theorem Hit.up {w w1 w' : World} {t : Addr} {v : Value} (hb : Below w.heap.size w w1) (h : Hit w1 w' t v) : Hit w w' t v := by
  obtain ⟨u, hu, rfl⟩ := h
  exact ⟨u, hb.trans (hu.mono hb.size), rfl⟩

/-- The number that an error tells. -/
def Tells (w : World) (bot : Value) (n : Int) : Prop := bot = .iface 33 (.int .i64 n) ∨ ∃ b, bot = .iface 52 (.pointer (some ⟨b, 0, none⟩)) ∧ w.cell? ⟨b, 0, none⟩ = some (.int .i64 n)
theorem Tells.up {w w' : World} {bot : Value} {n : Int} (h : Tells w bot n) (hb : Below w.heap.size w w') : Tells w' bot n := by
  rcases h with rfl | ⟨b, rfl, h⟩
  · exact .inl rfl
  · exact .inr ⟨b, rfl, (hb.cell (lt_of_cell h)).trans h⟩
theorem Tells.plain {w : World} {bot : Value} {n : Int} (h : Tells w bot n) : Plain bot := by
  rcases h with rfl | ⟨b, rfl, h⟩
  · exact .inl ⟨n, rfl⟩
  · exact .inr ⟨b, rfl⟩

theorem code1_any (bot : Value) (n : Int) (t : Addr) (old : Value) (w : World) (hb : Tells w bot n) (hg : EtLaid w) (ht : w.cell? t = some old) (hf : w.frozen? t = false) :
    Calls Tryd.prog 25 #[bot, .pointer (some t)] w fun e w' => e = .returned (.bool true) ∧ Hit w w' t (.int .i64 n) := by
  rcases hb with rfl | ⟨b, rfl, h⟩
  · have hS := Lib.hid (as_errno_code n t old w hg ht hf)
    clear hg ht hf
    go_enter Tryd.func25, Tryd.ntmps25
    go_wp2_with (go_at_call 24; refine hS.out.mono ?_; rintro e w1 ⟨rfl, hq⟩)
    go_ret
    exact ⟨rfl, hq⟩
  · have hS := Lib.hid (as_fault_code b 0 n t old w hg h ht hf)
    clear hg ht hf h
    go_enter Tryd.func25, Tryd.ntmps25
    go_wp2_with (go_at_call 24; refine hS.out.mono ?_; rintro e w1 ⟨rfl, hq⟩)
    go_ret
    exact ⟨rfl, hq⟩
theorem code_does (bot : Value) (n : Int) (t : Addr) (old : Value) (w : World) (hb : Tells w bot n) (hg : EtLaid w) (ht : w.cell? t = some old) (hf : w.frozen? t = false) :
    Does 25 (.pointer (some t)) bot w true (fun w' => Hit w w' t (.int .i64 n)) := fun w1 h1 =>
  (code1_any bot n t old w1 (hb.up h1) (hg.up h1) ((h1.cell (lt_of_cell ht)).trans ht) ((h1.frozen (lt_of_cell ht)).trans hf)).mono
    (fun _ _ ⟨e1, e2⟩ => ⟨e1, fun _ => e2.up h1, fun h => by cases h⟩)

theorem at1_fault (b : Nat) (t : Addr) (old : Value) (w : World) (hg : EtLaid w) (ht : w.cell? t = some old) (hf : w.frozen? t = false) :
    Calls Tryd.prog 23 #[.iface 52 (.pointer (some ⟨b, 0, none⟩)), .pointer (some t)] w fun e w' => e = .returned (.bool true) ∧ Hit w w' t (.pointer (some ⟨b, 0, none⟩)) := by
  have hS := Lib.hid (as_fault_at ⟨b, 0, none⟩ t old w hg ht hf)
  clear hg ht hf
  go_enter Tryd.func23, Tryd.ntmps23
  go_wp2_with (go_at_call 24; refine hS.out.mono ?_; rintro e w1 ⟨rfl, hq⟩)
  go_ret
  exact ⟨rfl, hq⟩
theorem at1_errno (n : Int) (t : Addr) (w : World) (hg : EtLaid w) :
    Calls Tryd.prog 23 #[.iface 33 (.int .i64 n), .pointer (some t)] w fun e w' => e = .returned (.bool false) ∧ Below w.heap.size w w' := by
  have hS := Lib.hid (as_errno_at n t w hg)
  clear hg
  go_enter Tryd.func23, Tryd.ntmps23
  go_wp2_with (go_at_call 24; refine hS.out.mono ?_; rintro e w1 ⟨rfl, hq⟩)
  go_ret
  exact ⟨rfl, hq⟩
theorem at_does_fault (b : Nat) (t : Addr) (old : Value) (w : World) (hg : EtLaid w) (ht : w.cell? t = some old) (hf : w.frozen? t = false) :
    Does 23 (.pointer (some t)) (.iface 52 (.pointer (some ⟨b, 0, none⟩))) w true (fun w' => Hit w w' t (.pointer (some ⟨b, 0, none⟩))) := fun w1 h1 =>
  (at1_fault b t old w1 (hg.up h1) ((h1.cell (lt_of_cell ht)).trans ht) ((h1.frozen (lt_of_cell ht)).trans hf)).mono
    (fun _ _ ⟨e1, e2⟩ => ⟨e1, fun _ => e2.up h1, fun h => by cases h⟩)
theorem at_does_errno (n : Int) (t : Addr) (w : World) (Q : World → Prop) (hg : EtLaid w) :
    Does 23 (.pointer (some t)) (.iface 33 (.int .i64 n)) w false Q := fun w1 h1 =>
  (at1_errno n t w1 (hg.up h1)).mono (fun _ _ ⟨e1, e2⟩ => ⟨e1, fun h => (by cases h), fun _ => e2⟩)

/-- Whether one is the number that is asked for. -/
theorem is11_any (bot : Value) (n m : Int) (t : Addr) (w : World) (hb : Tells w bot n) (ht : w.cell? t = some bot) :
    Calls Tryd.prog 30 #[.int .i64 m, .pointer (some t)] w fun e w' => e = .returned (.bool (decide (n = m))) ∧ w' = w := by
  rcases hb with rfl | ⟨b, rfl, h⟩
  · have hS := Lib.hid (is_errno n m w)
    go_enter Tryd.func30, Tryd.ntmps30
    generalize decide (n = m) = y at hS ⊢
    go_wp2_with (go_at_call 31; refine hS.out.mono ?_; rintro e w1 ⟨rfl, rfl⟩)
    go_ret
    exact ⟨rfl, rfl⟩
  · have hS := Lib.hid (is_fault b 0 n m w h)
    clear h
    go_enter Tryd.func30, Tryd.ntmps30
    generalize decide (n = m) = y at hS ⊢
    go_wp2_with (go_at_call 31; refine hS.out.mono ?_; rintro e w1 ⟨rfl, rfl⟩)
    go_ret
    exact ⟨rfl, rfl⟩

theorem is1_any (bot : Value) (n : Int) (ms : List Int) (t : Addr) (sl : Value) (w : World) (hb : Tells w bot n) (ht : w.cell? t = some sl) (hr : Row w sl (ms.map (Value.int .i64))) (hlen : ms.length ≤ 100000) :
    Calls Tryd.prog 28 #[bot, .pointer (some t)] w fun e w' => e = .returned (.bool ((ms.map (fun m => decide (n = m))).any id)) ∧ Below w.heap.size w w' := by
  have hb2 : Below w.heap.size w (w.alloc (.cells #[bot] 29)) := (Below.refl w.heap.size w).alloc (by simp) _
  obtain ⟨wb, hwb⟩ : ∃ wb, wb = w.alloc (.cells #[bot] 29) := ⟨_, rfl⟩
  have hcb : wb.cell? ⟨w.heap.size, 0, none⟩ = some bot := by rw [hwb]; exact cell_new _ _ _
  have hlb : w.heap.size < wb.heap.size := by rw [hwb]; simp
  rw [← hwb] at hb2
  have hD : ∀ (k : Nat) (x : Value) (a : Bool), (∀ j, j < k → (ms.map (fun m => decide (n = m)))[j]? = some false) → (ms.map (Value.int .i64))[k]? = some x → (ms.map (fun m => decide (n = m)))[k]? = some a → ∀ w1, Below wb.heap.size wb w1 → Calls Tryd.prog 30 #[x, .pointer (some ⟨w.heap.size, 0, none⟩)] w1 fun e w' => e = .returned (.bool a) ∧ (a = true → Below wb.heap.size wb w') ∧ (a = false → Below wb.heap.size wb w') := by
    intro k x a _ hx ha w1 h1
    simp only [List.getElem?_map, Option.map_eq_some_iff] at hx ha
    obtain ⟨m, hm, rfl⟩ := hx
    obtain ⟨m', hm', rfl⟩ := ha
    obtain rfl : m = m' := by rw [hm] at hm'; exact Option.some.inj hm'
    refine (is11_any bot n m ⟨w.heap.size, 0, none⟩ w1 ((hb.up hb2).up h1) ((h1.cell hlb).trans hcb)).mono ?_
    rintro e w' ⟨rfl, rfl⟩
    exact ⟨rfl, fun _ => h1, fun _ => h1⟩
  have hS := Lib.hid (containsN_any 30 enters30 (.pointer (some ⟨w.heap.size, 0, none⟩)) sl (ms.map (Value.int .i64)) (ms.map (fun m => decide (n = m))) wb wb (fun w' => Below wb.heap.size wb w') (Below.refl _ _) (hr.up hb2) (by simp) (by simpa using hlen)
    (fun u hu => by obtain ⟨m, -, rfl⟩ := List.mem_map.1 hu; exact ⟨m, rfl⟩) hD)
  clear hD hcb hlb
  subst hwb
  have HB := Lib.hid hb2
  have ht' := (hb2.cell (lt_of_cell ht)).trans ht
  have hmf : ∀ (fn : Fn) (first cap : Array Value) (w : World), (Instr.makeFunc fn first cap).run Tryd.prog w = .ok (.func fn first cap) w := fun _ _ _ _ => rfl
  generalize (ms.map (fun m => decide (n = m))).any id = y at hS ⊢
  generalize ms.map (Value.int .i64) = xs at hS hr
  obtain ⟨a, cap, rfl, -, -⟩ := hr
  have hshape : ∃ tb xb, bot = .iface tb xb := by
    rcases hb with rfl | ⟨b, rfl, h⟩
    · exact ⟨_, _, rfl⟩
    · exact ⟨_, _, rfl⟩
  obtain ⟨tb, xb, rfl⟩ := hshape
  clear hb hb2
  go_enter Tryd.func28, Tryd.ntmps28
  go_wp2_with (go_at_call 29; refine hS.out.mono ?_; rintro e w1 ⟨rfl, hq, hq2⟩; have HQ := Lib.hid (And.intro hq hq2); clear hq hq2)
  go_ret
  refine ⟨rfl, ?_⟩
  cases y with
  | true => exact HB.out.trans ((HQ.out.1 rfl).mono HB.out.size)
  | false => exact HB.out.trans ((HQ.out.2 rfl).mono HB.out.size)
theorem is_does (bot : Value) (n : Int) (ms : List Int) (t : Addr) (sl : Value) (w : World) (hb : Tells w bot n) (ht : w.cell? t = some sl) (hr : Row w sl (ms.map (Value.int .i64))) (hlen : ms.length ≤ 100000) :
    Does 28 (.pointer (some t)) bot w ((ms.map (fun m => decide (n = m))).any id) (fun w' => Below w.heap.size w w') := fun w1 h1 =>
  (is1_any bot n ms t sl w1 (hb.up h1) ((h1.cell (lt_of_cell ht)).trans ht) (hr.up h1) hlen).mono (fun _ _ ⟨e1, e2⟩ => ⟨e1, fun _ => h1.trans (e2.mono h1.size), fun _ => e2⟩)
end Go.Proofs.YtmlmgkaghcnpnaaDoor
