/- fault.some: the numbers and faults of which an error is made, asked one behind the other. -/
import Derived.Test.YtmlmgkaghcnpnaaDoorWords
namespace Go.Proofs.YtmlmgkaghcnpnaaDoor
open Go.RowKit

/-- What a closure F (that caught c) answers when it is asked for bot, in a world that nothing but grew: ans; if it is true, Q holds then; if not, nothing was turned. -/
def Does (F : Nat) (c bot : Value) (w : World) (ans : Bool) (Q : World → Prop) : Prop :=
  ∀ w1, Below w.heap.size w w1 → Calls Tryd.prog F #[bot, c] w1 fun e w' => e = .returned (.bool ans) ∧ (ans = true → Q w') ∧ (ans = false → Below w1.heap.size w1 w')

theorem Does.up {F : Nat} {c bot : Value} {w w' : World} {ans : Bool} {Q : World → Prop} (h : Does F c bot w ans Q) (hb : Below w.heap.size w w') : Does F c bot w' ans Q :=
  fun w1 h1 => h w1 (hb.trans (h1.mono hb.size))

/-- A number, or a fault. -/
def Plain (bot : Value) : Prop := (∃ n, bot = .iface 33 (.int .i64 n)) ∨ (∃ b, bot = .iface 52 (.pointer (some ⟨b, 0, none⟩)))

set_option maxRecDepth 100000 in
/-- some, at a number or a fault in words. -/
theorem some_bot (F : Nat) (hE : Enters F) (c v bot : Value) (ws : List Value) (w : World) (ans : Bool) (Q : World → Prop) (he : ErrOf w v ws bot)
    (hbot : Plain bot) (hF : Does F c bot w ans Q) :
    Calls Tryd.prog 22 #[v, .func (.func F) #[] #[c]] w fun e w' => e = .returned (.bool ans) ∧ (ans = true → Q w') ∧ (ans = false → Below w.heap.size w w') := by
  obtain ⟨cs0, hc0, hf0⟩ := he
  clear hf0
  have HF : Hid (Does F c bot w ans Q) := hF
  clear hF
  have nS := neqSome
  have nN := neqNone
  have b1 := as33_33
  have b2 := as52_33
  have b3 := as60_33
  have d2 := as52_52
  have d3 := as60_52
  have j3 := Tryd.noJointP
  have hent : ∀ (args : Array Value) (w : World), (callFunc F args).run Tryd.prog w = .ok (.enter F args) w := hE
  go_enter Tryd.func22, Tryd.ntmps22
  go_wp2
  go_loopg [0] (cs0.length + 1) (fun k v wr => ∃ cs, k = cs.length + 1 ∧ Chain w v cs bot ∧ wr.cell? ⟨w.heap.size, 0, none⟩ = some (.func (.func F) #[] #[c]) ∧ w.heap.size < wr.heap.size ∧ Below w.heap.size w wr)
  case atStart => exact ⟨cs0, rfl, hc0, cell_new _ _ _, by simp, (Below.refl w.heap.size w).alloc (Nat.le_refl _) _⟩
  case round =>
    obtain ⟨cs, rfl, hc, hcell, hsz, hb⟩ := hrel
    have HO : Hid (Below w.heap.size w wr ∧ w.heap.size < wr.heap.size) := ⟨hb, hsz⟩
    clear hb hsz hc0
    cases cs with
    | cons us cs =>
      obtain ⟨b, sl, t, x, rfl, h0, hr, h1, h2, hc⟩ := hc
      have HI : Hid (w.cell? ⟨b, 1, none⟩ = some (.iface t x) ∧ Chain w (.iface t x) cs bot ∧ wr.cell? ⟨w.heap.size, 0, none⟩ = some (.func (.func F) #[] #[c])) := ⟨h2, hc, hcell⟩
      clear hr h1 h2 hc h0
      go_wp2_with (go_at_call 26; refine (inner_any _ _ _ ((Holds.put b t x HI.out.1).below HO.out.1)).mono ?_; rintro e w2 ⟨rfl, hb2⟩)
      go_roundg (cs.length + 1)
      case measure => simp
      case rel => exact ⟨cs, rfl, HI.out.2.1, (hb2.cell HO.out.2).trans HI.out.2.2, Nat.lt_of_lt_of_le HO.out.2 hb2.size, HO.out.1.trans (hb2.mono HO.out.1.size)⟩
    | nil =>
      obtain rfl : _ = bot := hc
      rcases hbot with ⟨n, rfl⟩ | ⟨b, rfl⟩
      · go_wp2
        refine (HF.out _ HO.out.1).mono ?_
        rintro e w2 ⟨rfl, hq, hq2⟩
        have HQ : Hid ((ans = true → Q w2) ∧ (ans = false → Below wr.heap.size wr w2)) := ⟨hq, hq2⟩
        clear hq hq2
        go_wp2
        go_ret
        exact ⟨rfl, HQ.out.1, fun h => HO.out.1.trans ((HQ.out.2 h).mono HO.out.1.size)⟩
      · go_wp2
        refine (HF.out _ HO.out.1).mono ?_
        rintro e w2 ⟨rfl, hq, hq2⟩
        have HQ : Hid ((ans = true → Q w2) ∧ (ans = false → Below wr.heap.size wr w2)) := ⟨hq, hq2⟩
        clear hq hq2
        go_wp2
        go_ret
        exact ⟨rfl, HQ.out.1, fun h => HO.out.1.trans ((HQ.out.2 h).mono HO.out.1.size)⟩

/-- The closure that asks some for a part. -/
theorem some1_any (F : Nat) (hE : Enters F) (c v bot : Value) (ws : List Value) (t : Addr) (w : World) (ans : Bool) (Q : World → Prop) (he : ErrOf w v ws bot) (hbot : Plain bot) (ht : w.cell? t = some (.func (.func F) #[] #[c])) (hF : Does F c bot w ans Q) :
    Calls Tryd.prog 34 #[v, .pointer (some t)] w fun e w' => e = .returned (.bool ans) ∧ (ans = true → Q w') ∧ (ans = false → Below w.heap.size w w') := by
  have hS := Lib.hid (some_bot F hE c v bot ws w ans Q he hbot hF)
  have hsh : ∃ t' x', v = .iface t' x' := by
    rcases hbot with ⟨n, rfl⟩ | ⟨b, rfl⟩
    · exact he.iface
    · exact he.iface
  obtain ⟨tv, xv, rfl⟩ := hsh
  clear hF he hbot
  go_enter Tryd.func34, Tryd.ntmps34
  go_wp2_with (go_at_call 22; refine hS.out.mono ?_; rintro e w1 ⟨rfl, hq⟩; have hQ := Lib.hid hq; clear hq)
  go_ret
  exact ⟨rfl, hQ.out⟩
end Go.Proofs.YtmlmgkaghcnpnaaDoor
