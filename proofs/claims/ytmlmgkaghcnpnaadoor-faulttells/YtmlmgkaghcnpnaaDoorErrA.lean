/- What an error is in memory: the words it was put in, and what it is at the bottom. New, slices.Clone, In. -/
import Derived.Test.YtmlmgkaghcnpnaaDoorCalm
import Derived.Test.YtmlmgkaghcnpnaaDoorMem
import Derived.Deep.LoopGhost
namespace Go.Proofs.YtmlmgkaghcnpnaaDoor
open Go.RowKit

/-- From v to bot through errors in which others are, with these words. -/
def Chain (w : World) : Value → List (List Value) → Value → Prop
  | v, [], bot => v = bot
  | v, ws :: r, bot => ∃ b sl t x, v = .iface 60 (.pointer (some ⟨b, 0, none⟩)) ∧ w.cell? ⟨b, 0, none⟩ = some sl ∧ Row w sl ws ∧ (∀ u ∈ ws, u.oneCell' = true) ∧ w.cell? ⟨b, 1, none⟩ = some (.iface t x) ∧ Chain w (.iface t x) r bot

theorem Chain.up {w w' : World} (hb : Below w.heap.size w w') : ∀ {cs : List (List Value)} {v bot : Value}, Chain w v cs bot → Chain w' v cs bot
  | [], _, _, h => h
  | _ :: _, _, _, ⟨b, sl, t, x, h1, h2, h3, h4, h5, h6⟩ => ⟨b, sl, t, x, h1, (hb.cell (lt_of_cell h2)).trans h2, h3.up hb, h4, (hb.cell (lt_of_cell h5)).trans h5, Chain.up hb h6⟩

/-- The error v, put in these words (the outermost ones first), is bot at the bottom. -/
def ErrOf (w : World) (v : Value) (ws : List Value) (bot : Value) : Prop := ∃ cs, Chain w v cs bot ∧ cs.flatten = ws
theorem ErrOf.up {w w' : World} {v bot : Value} {ws : List Value} (h : ErrOf w v ws bot) (hb : Below w.heap.size w w') : ErrOf w' v ws bot := by
  obtain ⟨cs, h1, h2⟩ := h
  exact ⟨cs, h1.up hb, h2⟩
theorem ErrOf.iface {w : World} {v : Value} {ws : List Value} {t : TypeId} {x : Value} (h : ErrOf w v ws (.iface t x)) : ∃ t' x', v = .iface t' x' := by
  obtain ⟨cs, h1, h2⟩ := h
  cases cs with
  | nil => exact ⟨_, _, h1⟩
  | cons a r =>
    obtain ⟨b, sl, t, x, h1, _⟩ := h1
    exact ⟨_, _, h1⟩

theorem info9 : (Tryd.prog.info? 9).map (fun i => (i.zero, i.size, i.bytes)) = some (some (.string ByteArray.empty), 1, 16) := by kernel_rfl
theorem info29 : (Tryd.prog.info? 29).map (fun i => (i.zero, i.size, i.bytes)) = some (some .nilIface, 1, 16) := by kernel_rfl
theorem info33 : (Tryd.prog.info? 33).map (fun i => (i.zero, i.size, i.bytes)) = some (some (.int .i64 0), 1, 8) := by kernel_rfl

theorem neqSome (u : TypeId) (x : Value) (w : World) : (binOp .neq 29 (.iface u x) .nilIface).run Tryd.prog w = .ok (.bool true) w := by kernel_rfl
theorem neqNone (w : World) : (binOp .neq 29 .nilIface .nilIface).run Tryd.prog w = .ok (.bool false) w := by kernel_rfl
theorem eqlSome (u : TypeId) (x : Value) (w : World) : (binOp .eql 29 (.iface u x) .nilIface).run Tryd.prog w = .ok (.bool false) w := by kernel_rfl
theorem eqlNone (w : World) : (binOp .eql 29 .nilIface .nilIface).run Tryd.prog w = .ok (.bool true) w := by kernel_rfl

theorem as33_60 (v : Value) (w : World) : (Instr.typeAssert (.iface 33 v) 29 60 true).run Tryd.prog w = .ok (.tuple #[.pointer none, .bool false]) w := by kernel_rfl
theorem as33_33 (v : Value) (w : World) : (Instr.typeAssert (.iface 33 v) 29 33 true).run Tryd.prog w = .ok (.tuple #[v, .bool true]) w := by kernel_rfl
theorem as33_52 (v : Value) (w : World) : (Instr.typeAssert (.iface 33 v) 29 52 true).run Tryd.prog w = .ok (.tuple #[.pointer none, .bool false]) w := by kernel_rfl
theorem as52_60 (v : Value) (w : World) : (Instr.typeAssert (.iface 52 v) 29 60 true).run Tryd.prog w = .ok (.tuple #[.pointer none, .bool false]) w := by kernel_rfl
theorem as52_33 (v : Value) (w : World) : (Instr.typeAssert (.iface 52 v) 29 33 true).run Tryd.prog w = .ok (.tuple #[.int .i64 0, .bool false]) w := by kernel_rfl
theorem as52_52 (v : Value) (w : World) : (Instr.typeAssert (.iface 52 v) 29 52 true).run Tryd.prog w = .ok (.tuple #[v, .bool true]) w := by kernel_rfl
theorem as60_60 (v : Value) (w : World) : (Instr.typeAssert (.iface 60 v) 29 60 true).run Tryd.prog w = .ok (.tuple #[v, .bool true]) w := by kernel_rfl
theorem as60_33 (v : Value) (w : World) : (Instr.typeAssert (.iface 60 v) 29 33 true).run Tryd.prog w = .ok (.tuple #[.int .i64 0, .bool false]) w := by kernel_rfl
theorem as60_52 (v : Value) (w : World) : (Instr.typeAssert (.iface 60 v) 29 52 true).run Tryd.prog w = .ok (.tuple #[.pointer none, .bool false]) w := by kernel_rfl
theorem as66_60 (v : Value) (w : World) : (Instr.typeAssert (.iface 66 v) 29 60 true).run Tryd.prog w = .ok (.tuple #[.pointer none, .bool false]) w := by kernel_rfl
theorem as66_33 (v : Value) (w : World) : (Instr.typeAssert (.iface 66 v) 29 33 true).run Tryd.prog w = .ok (.tuple #[.int .i64 0, .bool false]) w := by kernel_rfl
theorem as66_52 (v : Value) (w : World) : (Instr.typeAssert (.iface 66 v) 29 52 true).run Tryd.prog w = .ok (.tuple #[.pointer none, .bool false]) w := by kernel_rfl

/-- A fault of these in memory. -/
def IsFault (w : World) (v : Value) (n k : Int) : Prop := ∃ b, v = .iface 52 (.pointer (some ⟨b, 0, none⟩)) ∧ w.cell? ⟨b, 0, none⟩ = some (.int .i64 n) ∧ w.cell? ⟨b, 1, none⟩ = some (.int .i64 k)
theorem IsFault.up {w w' : World} {v : Value} {n k : Int} (h : IsFault w v n k) (hb : Below w.heap.size w w') : IsFault w' v n k := by
  obtain ⟨b, h1, h2, h3⟩ := h
  exact ⟨b, h1, (hb.cell (lt_of_cell h2)).trans h2, (hb.cell (lt_of_cell h3)).trans h3⟩

theorem new_ok (k : Int) (w : World) : Calls Tryd.prog 21 #[.int .i64 0, .int .i64 k] w fun e w' => e = .returned .nilIface ∧ w' = w := by
  go_enter Tryd.func21, Tryd.ntmps21
  go_wp2
  go_ret
  exact ⟨rfl, rfl⟩
theorem new_some (n k : Int) (w : World) (hn : ¬ n = 0) : Calls Tryd.prog 21 #[.int .i64 n, .int .i64 k] w fun e w' => ∃ v, e = .returned v ∧ IsFault w' v n k ∧ Below w.heap.size w w' := by
  go_enter Tryd.func21, Tryd.ntmps21
  go_wp2
  go_ret
  exact ⟨_, rfl, ⟨_, rfl, by simp, by simp⟩, (Below.refl w.heap.size w).alloc (by simp) _⟩

theorem cloneS_any (sl : Value) (us : List Value) (w : World) (hr : Row w sl us) (h1 : ∀ u ∈ us, u.oneCell' = true) (hlen : us.length ≤ 100000) :
    Calls Tryd.prog 27 #[sl] w fun e w' => ∃ v, e = .returned v ∧ w'.ownsRow w.heap.size 9 1 v us.length us ∧ Below w.heap.size w w' := by
  have hH : Hid (Row w sl us ∧ (∀ u ∈ us, u.oneCell' = true) ∧ us.length ≤ 100000) := ⟨hr, h1, hlen⟩
  clear h1 hlen
  obtain ⟨a, cap, rfl, h0, hc⟩ := hr
  have hnil := @Lib.run_eql_slice_nil Tryd.prog
  cases a with
  | none =>
    obtain ⟨rfl, rfl⟩ := h0 rfl
    clear hc h0
    go_enter Tryd.func27, Tryd.ntmps27
    go_wp2
    go_ret
    exact ⟨_, rfl, World.ownsRow_nil _ _ _ _, Below.refl _ _⟩
  | some a =>
    clear hc h0
    go_enter Tryd.func27, Tryd.ntmps27
    go_wp2_with (at_builtin; refine wpList_append_row rfl _ _ 36 rfl w.heap.size 9 (.string ByteArray.empty) 16 Tryd.underlying36 info9 rfl _ _ [] us rfl (World.ownsRow_made w #[] 0 (Nat.le_refl _) (by decide) rfl) rfl (hH.out.1.up ((Below.refl w.heap.size w).alloc (Nat.le_refl _) _)) hH.out.2.1 (Nat.le_trans (Nat.le_of_eq (Nat.zero_add _)) (Nat.le_trans hH.out.2.2 (by decide))) (by decide) w ((Below.refl w.heap.size w).alloc (Nat.le_refl _) _) (Nat.le_refl _) ?_; intro v' w1 hown hb1)
    go_ret
    exact ⟨_, rfl, hown, hb1⟩

theorem cloneE_any (sl : Value) (us : List Value) (w : World) (hr : Row w sl us) (h1 : ∀ u ∈ us, u.oneCell' = true) (hlen : us.length ≤ 100000) :
    Calls Tryd.prog 74 #[sl] w fun e w' => ∃ v, e = .returned v ∧ w'.ownsRow w.heap.size 29 1 v us.length us ∧ Below w.heap.size w w' := by
  have hH : Hid (Row w sl us ∧ (∀ u ∈ us, u.oneCell' = true) ∧ us.length ≤ 100000) := ⟨hr, h1, hlen⟩
  clear h1 hlen
  obtain ⟨a, cap, rfl, h0, hc⟩ := hr
  have hnil := @Lib.run_eql_slice_nil Tryd.prog
  cases a with
  | none =>
    obtain ⟨rfl, rfl⟩ := h0 rfl
    clear hc h0
    go_enter Tryd.func74, Tryd.ntmps74
    go_wp2
    go_ret
    exact ⟨_, rfl, World.ownsRow_nil _ _ _ _, Below.refl _ _⟩
  | some a =>
    clear hc h0
    go_enter Tryd.func74, Tryd.ntmps74
    go_wp2_with (at_builtin; refine wpList_append_row rfl _ _ 40 rfl w.heap.size 29 .nilIface 16 Tryd.underlying40 info29 rfl _ _ [] us rfl (World.ownsRow_made w #[] 0 (Nat.le_refl _) (by decide) rfl) rfl (hH.out.1.up ((Below.refl w.heap.size w).alloc (Nat.le_refl _) _)) hH.out.2.1 (Nat.le_trans (Nat.le_of_eq (Nat.zero_add _)) (Nat.le_trans hH.out.2.2 (by decide))) (by decide) w ((Below.refl w.heap.size w).alloc (Nat.le_refl _) _) (Nat.le_refl _) ?_; intro v' w1 hown hb1)
    go_ret
    exact ⟨_, rfl, hown, hb1⟩

/-- nil stays nil. -/
theorem in_nil (sl : Value) (w : World) (hs : ∃ a n c, sl = .slice a n c) : Calls Tryd.prog 15 #[.nilIface, sl] w fun e w' => e = .returned .nilIface ∧ w' = w := by
  obtain ⟨a, n, c, rfl⟩ := hs
  go_enter Tryd.func15, Tryd.ntmps15
  go_wp2
  go_ret
  exact ⟨rfl, rfl⟩

theorem put_step {w w1 : World} {sl : Value} {us ws : List Value} {tv : TypeId} {xv bot : Value} (hb1 : Below w.heap.size w w1) (hE : ErrOf w (.iface tv xv) ws bot) (hr : Row w1 sl us) (h1 : ∀ u ∈ us, u.oneCell' = true) :
    ErrOf (w1.alloc (.cells #[sl, .iface tv xv] 63)) (.iface 60 (.pointer (some ⟨w1.heap.size, 0, none⟩))) (us ++ ws) bot := by
  obtain ⟨cs, hc, rfl⟩ := hE
  have hb2 : Below w1.heap.size w1 (w1.alloc (.cells #[sl, .iface tv xv] 63)) := (Below.refl _ _).alloc (Nat.le_refl _) _
  exact ⟨us :: cs, ⟨w1.heap.size, sl, tv, xv, rfl, by simp, hr.up hb2, h1, by simp, (hc.up hb1).up hb2⟩, rfl⟩

/-- An error, put in words (in none it is itself). -/
theorem in_any (v sl : Value) (ws us : List Value) (t : TypeId) (x : Value) (w : World) (he : ErrOf w v ws (.iface t x)) (hr : Row w sl us) (h1 : ∀ u ∈ us, u.oneCell' = true) (hlen : us.length ≤ 100000) :
    Calls Tryd.prog 15 #[v, sl] w fun e w' => ∃ v', e = .returned v' ∧ ErrOf w' v' (us ++ ws) (.iface t x) ∧ Below w.heap.size w w' := by
  obtain ⟨tv, xv, rfl⟩ := he.iface
  have hH : Hid (Row w sl us ∧ (∀ u ∈ us, u.oneCell' = true) ∧ us.length ≤ 100000) := ⟨hr, h1, hlen⟩
  have hE : Hid (ErrOf w (.iface tv xv) ws (.iface t x)) := he
  clear h1 he
  obtain ⟨a, cap, rfl, h0, hc⟩ := hr
  clear h0 hc
  by_cases hz : us.length = 0
  · obtain rfl : us = [] := List.length_eq_zero_iff.1 hz
    clear hz
    simp only [List.length_nil]
    go_enter Tryd.func15, Tryd.ntmps15
    go_wp2
    go_ret
    exact ⟨_, rfl, by simpa using hE.out, Below.refl _ _⟩
  · have hz' : ((us.length : Int) == 0) = false := by simpa using hz
    go_enter Tryd.func15, Tryd.ntmps15
    go_wp2_with (go_at_call 27; refine (cloneS_any _ us _ hH.out.1 hH.out.2.1 hH.out.2.2).mono ?_; rintro e w1 ⟨v1, rfl, hown, hb1⟩; obtain ⟨a1, c1, rfl, -, -⟩ := Row.of_owns hown)
    go_ret
    exact ⟨_, rfl, put_step hb1 hE.out (Row.of_owns hown) hH.out.2.1, hb1.alloc hb1.size _⟩
end Go.Proofs.YtmlmgkaghcnpnaaDoor
