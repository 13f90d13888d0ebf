/- fault.Words: the words with which an error was put in others. -/
import Derived.Test.YtmlmgkaghcnpnaaDoorErrA
namespace Go.Proofs.YtmlmgkaghcnpnaaDoor
open Go.RowKit

/-- What an error may be at the bottom: a number, a fault, several. -/
inductive Bot (w : World) : Value → Prop
  | errno (n : Int) : Bot w (.iface 33 (.int .i64 n))
  | fault (b : Nat) (n k : Int) (h0 : w.cell? ⟨b, 0, none⟩ = some (.int .i64 n)) (h1 : w.cell? ⟨b, 1, none⟩ = some (.int .i64 k)) : Bot w (.iface 52 (.pointer (some ⟨b, 0, none⟩)))
  | several (b : Nat) : Bot w (.iface 66 (.pointer (some ⟨b, 0, none⟩)))
theorem Bot.up {w w' : World} {v : Value} (h : Bot w v) (hb : Below w.heap.size w w') : Bot w' v := by
  cases h with
  | errno n => exact .errno n
  | fault b n k h0 h1 => exact .fault b n k ((hb.cell (lt_of_cell h0)).trans h0) ((hb.cell (lt_of_cell h1)).trans h1)
  | several b => exact .several b

/-- So far these words were met, and the rest is still to come, in at most k rounds. -/
def WRel (ws : List Value) (bot : Value) (k : Nat) (v : Value) (done : List Value) (w : World) : Prop :=
  (∃ cs, k = cs.length + 3 ∧ Chain w v cs bot ∧ done ++ cs.flatten = ws) ∨ (k = 2 ∧ (∃ n, v = .iface 33 (.int .i64 n)) ∧ done = ws) ∨ (k = 1 ∧ v = .nilIface ∧ done = ws)

set_option maxRecDepth 100000 in
theorem words_any (v : Value) (ws : List Value) (bot : Value) (w : World) (he : ErrOf w v ws bot) (hbot : Bot w bot) (hlen : ws.length ≤ 100000) :
    Calls Tryd.prog 13 #[v] w fun e w' => ∃ r, e = .returned r ∧ Row w' r ws ∧ Below w.heap.size w w' := by
  obtain ⟨cs0, hc0, hf0⟩ := he
  have HB : Hid (Bot w bot ∧ ws.length ≤ 100000) := ⟨hbot, hlen⟩
  clear hbot hlen
  have nS := neqSome
  have nN := neqNone
  have a1 := as33_60
  have a2 := as52_60
  have a3 := as60_60
  have a4 := as66_60
  go_enter Tryd.func13, Tryd.ntmps13
  go_wp2
  go_loopg [0, 3] (cs0.length + 3) (fun k v l wr => ∃ done, WRel ws bot k v done w ∧ wr.ownsRow w.heap.size 9 1 l done.length done ∧ Below w.heap.size w wr)
  case atStart => exact ⟨[], .inl ⟨cs0, rfl, hc0, by simpa using hf0⟩, World.ownsRow_nil _ _ _ _, Below.refl _ _⟩
  case round =>
    obtain ⟨done, hW, hown, hb⟩ := hrel
    have HO : Hid (wr.ownsRow w.heap.size 9 1 u3 done.length done ∧ Below w.heap.size w wr) := ⟨hown, hb⟩
    clear hown hb hc0 hf0
    rcases hW with ⟨cs, rfl, hc, hd⟩ | ⟨rfl, ⟨n, rfl⟩, rfl⟩ | ⟨rfl, rfl, rfl⟩
    · cases cs with
      | cons us cs =>
        obtain ⟨b, sl, t, x, rfl, h0, hr, h1, h2, hc⟩ := hc
        have h0' := (HO.out.2.cell (lt_of_cell h0)).trans h0
        obtain ⟨sa, sc, rfl, -, -⟩ := id hr
        have HD : Hid (done ++ us ++ cs.flatten = ws) := by rw [List.append_assoc]; exact hd
        have hl : done.length + us.length ≤ 1000000 := by
          have := congrArg List.length HD.out
          have := HB.out.2
          simp only [List.length_append] at *
          omega
        have HI : Hid (Row w (.slice sa us.length sc) us ∧ (∀ u ∈ us, u.oneCell' = true) ∧ w.cell? ⟨b, 1, none⟩ = some (.iface t x) ∧ Chain w (.iface t x) cs bot ∧ done.length + us.length ≤ 1000000) := ⟨hr, h1, h2, hc, hl⟩
        clear hr h1 h2 hc hd hl h0
        go_wp2_with (first
          | (at_builtin; refine wpList_append_row rfl _ _ 36 rfl w.heap.size 9 (.string ByteArray.empty) 16 Tryd.underlying36 info9 rfl _ _ done us rfl HO.out.1 rfl (HI.out.1.up HO.out.2) HI.out.2.1 HI.out.2.2.2.2 (by decide) w HO.out.2 (Nat.le_refl _) ?_; intro v' w1 hown' hb1)
          | (go_at_call 26; refine (inner_any _ _ _ ((Holds.put b t x HI.out.2.2.1).below hb1)).mono ?_; rintro e w2 ⟨rfl, hb2⟩))
        go_roundg (cs.length + 3)
        case measure => simp
        case rel => exact ⟨done ++ us, .inl ⟨cs, rfl, HI.out.2.2.2.1, HD.out⟩, owns_up hown' hb2, hb1.trans (hb2.mono hb1.size)⟩
      | nil =>
        obtain rfl : _ = bot := hc
        have HD : Hid (done = ws) := (by simpa using hd : done = ws)
        clear hd
        have hbt := HB.out.1
        clear HB
        cases hbt with
        | errno n =>
          go_wp2_with (go_at_call 26; refine (inner_any _ _ _ (Holds.errno n)).mono ?_; rintro e w2 ⟨rfl, hb2⟩)
          go_roundg 1
          case measure => simp
          case rel => exact ⟨done, .inr (.inr ⟨rfl, rfl, HD.out⟩), owns_up HO.out.1 hb2, HO.out.2.trans (hb2.mono HO.out.2.size)⟩
        | fault b n k h0 h1 =>
          have HF : Hid (w.cell? ⟨b, 0, none⟩ = some (.int .i64 n)) := h0
          clear h0 h1
          go_wp2_with (go_at_call 26; refine (inner_any _ _ _ ((Holds.fault b n HF.out).below HO.out.2)).mono ?_; rintro e w2 ⟨rfl, hb2⟩)
          go_roundg 2
          case measure => simp
          case rel => exact ⟨done, .inr (.inl ⟨rfl, ⟨n, rfl⟩, HD.out⟩), owns_up HO.out.1 hb2, HO.out.2.trans (hb2.mono HO.out.2.size)⟩
        | several b =>
          go_wp2_with (go_at_call 26; refine (inner_any _ _ _ (Holds.several _)).mono ?_; rintro e w2 ⟨rfl, hb2⟩)
          go_roundg 1
          case measure => simp
          case rel => exact ⟨done, .inr (.inr ⟨rfl, rfl, HD.out⟩), owns_up HO.out.1 hb2, HO.out.2.trans (hb2.mono HO.out.2.size)⟩
    · go_wp2_with (go_at_call 26; refine (inner_any _ _ _ (Holds.errno n)).mono ?_; rintro e w2 ⟨rfl, hb2⟩)
      go_roundg 1
      case measure => simp
      case rel => exact ⟨_, .inr (.inr ⟨rfl, rfl, rfl⟩), owns_up HO.out.1 hb2, HO.out.2.trans (hb2.mono HO.out.2.size)⟩
    · go_wp2
      go_ret
      exact ⟨_, rfl, Row.of_owns HO.out.1, HO.out.2⟩

/-- Of nil there are none. -/
theorem words_nil (w : World) : Calls Tryd.prog 13 #[.nilIface] w fun e w' => ∃ r, e = .returned r ∧ Row w' r [] ∧ Below w.heap.size w w' := by
  have nN := neqNone
  go_enter Tryd.func13, Tryd.ntmps13
  go_wp2
  refine wp_loop_rounds 1 ?_
  rw [rounds_succ]
  go_wp2
  go_ret
  exact ⟨_, rfl, ⟨none, 0, rfl, fun _ => ⟨rfl, rfl⟩, fun _ h => by cases h⟩, Below.refl _ _⟩
end Go.Proofs.YtmlmgkaghcnpnaaDoor
