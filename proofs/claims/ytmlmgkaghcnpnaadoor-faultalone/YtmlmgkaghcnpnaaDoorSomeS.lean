/- fault.some, at several that were joined. -/
import Derived.Test.YtmlmgkaghcnpnaaDoorSome
import Derived.Test.YtmlmgkaghcnpnaaDoorJoined
import Derived.Test.YtmlmgkaghcnpnaaDoorIdxE
namespace Go.Proofs.YtmlmgkaghcnpnaaDoor
open Go.RowKit

/-- A part of what was joined: an error in words, a number or a fault at the bottom, and what F answers of it. -/
def Part (F : Nat) (c : Value) (w : World) (Q : World → Prop) (p : Value) (a : Bool) : Prop := ∃ ws bot, ErrOf w p ws bot ∧ Plain bot ∧ Does F c bot w a Q
theorem Part.up {F : Nat} {c : Value} {w w' : World} {Q : World → Prop} {p : Value} {a : Bool} (h : Part F c w Q p a) (hb : Below w.heap.size w w') : Part F c w' Q p a := by
  obtain ⟨ws, bot, h1, h2, h3⟩ := h
  exact ⟨ws, bot, h1.up hb, h2, h3.up hb⟩
set_option maxRecDepth 100000 in
theorem some_several (F : Nat) (hE : Enters F) (c v : Value) (b : Nat) (sl : Value) (xs : List Value) (ans : List Bool) (ws : List Value) (w : World) (Q : World → Prop) (he : ErrOf w v ws (.iface 66 (.pointer (some ⟨b, 0, none⟩))))
    (hc : w.cell? ⟨b, 0, none⟩ = some sl) (hr : Row w sl xs) (hl : xs.length = ans.length) (hlen : xs.length ≤ 100000) (hsh : ∀ u ∈ xs, ∃ t y, u = .iface t y) (hP : ∀ (k : Nat) (x : Value) (a : Bool), (∀ j, j < k → ans[j]? = some false) → xs[k]? = some x → ans[k]? = some a → Part F c w Q x a) :
    Calls Tryd.prog 22 #[v, .func (.func F) #[] #[c]] w fun e w' => e = .returned (.bool (ans.any id)) ∧ (ans.any id = true → Q w') ∧ (ans.any id = false → Below w.heap.size w w') := by
  have h1 : ∀ u ∈ xs, u.oneCell' = true := fun u hu => by
    obtain ⟨t, y, rfl⟩ := hsh u hu
    rfl
  have HJ : Hid (w.cell? ⟨b, 0, none⟩ = some sl ∧ Row w sl xs ∧ (∀ u ∈ xs, u.oneCell' = true) ∧ (∀ u ∈ xs, ∃ t y, u = .iface t y) ∧ xs.length = ans.length ∧ xs.length ≤ 100000 ∧ (∀ (k : Nat) (x : Value) (a : Bool), (∀ j, j < k → ans[j]? = some false) → xs[k]? = some x → ans[k]? = some a → Part F c w Q x a)) := ⟨hc, hr, h1, hsh, hl, hlen, hP⟩
  obtain ⟨cs0, hc0, hf0⟩ := he
  clear hf0 hc hr h1 hsh hl hlen hP
  have nS := neqSome
  have nN := neqNone
  have b3 := as60_33
  have b4 := as66_33
  have d3 := as60_52
  have d4 := as66_52
  have j3 := Tryd.noJointP
  have j4 := Tryd.jointS
  have hmf : ∀ (fn : Fn) (first cap : Array Value) (w : World), (Instr.makeFunc fn first cap).run Tryd.prog w = .ok (.func fn first cap) w := fun _ _ _ _ => rfl
  go_enter Tryd.func22, Tryd.ntmps22
  go_wp2
  go_loopg [0] (cs0.length + 1) (fun k v wr => ∃ cs, k = cs.length + 1 ∧ Chain w v cs (.iface 66 (.pointer (some ⟨b, 0, none⟩))) ∧ wr.cell? ⟨w.heap.size, 0, none⟩ = some (.func (.func F) #[] #[c]) ∧ w.heap.size < wr.heap.size ∧ Below w.heap.size w wr)
  case atStart => exact ⟨cs0, rfl, hc0, cell_new _ _ _, by simp, (Below.refl w.heap.size w).alloc (Nat.le_refl _) _⟩
  case round =>
    obtain ⟨cs, rfl, hc, hcell, hsz, hb⟩ := hrel
    have HO : Hid (Below w.heap.size w wr ∧ w.heap.size < wr.heap.size ∧ wr.cell? ⟨w.heap.size, 0, none⟩ = some (.func (.func F) #[] #[c])) := ⟨hb, hsz, hcell⟩
    clear hb hsz hc0
    cases cs with
    | cons us cs =>
      obtain ⟨b', sl', t, x, rfl, h0, hr, h1, h2, hc⟩ := hc
      have HI : Hid (w.cell? ⟨b', 1, none⟩ = some (.iface t x) ∧ Chain w (.iface t x) cs (.iface 66 (.pointer (some ⟨b, 0, none⟩)))) := ⟨h2, hc⟩
      clear hr h1 h2 hc h0
      go_wp2_with (go_at_call 26; refine (inner_any _ _ _ ((Holds.put b' t x HI.out.1).below HO.out.1)).mono ?_; rintro e w2 ⟨rfl, hb2⟩)
      go_roundg (cs.length + 1)
      case measure => simp
      case rel => exact ⟨cs, rfl, HI.out.2, (hb2.cell HO.out.2.1).trans HO.out.2.2, Nat.lt_of_lt_of_le HO.out.2.1 hb2.size, HO.out.1.trans (hb2.mono HO.out.1.size)⟩
    | nil =>
      obtain rfl : _ = Value.iface 66 (.pointer (some ⟨b, 0, none⟩)) := hc
      go_wp2_with (first
        | (go_at_call 33; refine (joined_any b sl xs _ ((HO.out.1.cell (lt_of_cell HJ.out.1)).trans HJ.out.1) (HJ.out.2.1.up HO.out.1) HJ.out.2.2.1 HJ.out.2.2.2.2.2.1).mono ?_; rintro e w2 ⟨v2, rfl, hr2, hb2⟩; have HR := Lib.hid hr2; have H2 := Lib.hid hb2; clear hb2; obtain ⟨a2, c2, rfl, -, -⟩ := hr2)
        | (go_at_call 32; refine (containsE_any 34 enters34 _ _ xs ans _ w2 Q (Below.refl _ _) HR.out HJ.out.2.2.2.2.1 HJ.out.2.2.2.2.2.1 HJ.out.2.2.2.1 ?_).mono ?_))
      · intro k x a hj hx ha w1 h1
        have hbw2 : Below w.heap.size w w2 := HO.out.1.trans (H2.out.mono HO.out.1.size)
        have hbw1 := hbw2.trans (h1.mono hbw2.size)
        obtain ⟨ws, bot, p1, p2, p3⟩ := (HJ.out.2.2.2.2.2.2 k x a hj hx ha).up hbw1
        have ht : w1.cell? ⟨w.heap.size, 0, none⟩ = some (.func (.func F) #[] #[c]) := (h1.cell (Nat.lt_of_lt_of_le HO.out.2.1 H2.out.size)).trans ((H2.out.cell HO.out.2.1).trans HO.out.2.2)
        exact (some1_any F hE c x bot ws _ w1 a Q p1 p2 ht p3).mono (fun e w' ⟨h1', h2', h3'⟩ => ⟨h1', h2', fun h => h1.trans ((h3' h).mono h1.size)⟩)
      · rintro e w3 ⟨rfl, hq, hq2⟩
        have hbw2 : Below w.heap.size w w2 := HO.out.1.trans (H2.out.mono HO.out.1.size)
        have HQ : Hid ((ans.any id = true → Q w3) ∧ (ans.any id = false → Below w.heap.size w w3)) := ⟨hq, fun h => hbw2.trans ((hq2 h).mono hbw2.size)⟩
        clear hq hq2 hbw2 hcell
        go_wp2
        go_ret
        exact ⟨rfl, HQ.out⟩
end Go.Proofs.YtmlmgkaghcnpnaaDoor
