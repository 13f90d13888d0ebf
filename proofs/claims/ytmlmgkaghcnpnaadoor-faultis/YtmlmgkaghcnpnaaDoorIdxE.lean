/- slices.IndexFunc and ContainsFunc, at errors. -/
import Derived.Test.YtmlmgkaghcnpnaaDoorWords
namespace Go.Proofs.YtmlmgkaghcnpnaaDoor
open Go.RowKit

set_option maxRecDepth 100000 in
/-- The place of the first of these of which the closure says yes; -1, if there is none. -/
theorem indexE_any (F : Nat) (hE : Enters F) (c sl : Value) (xs : List Value) (ans : List Bool) (w w0 : World) (Q : World → Prop) (hw : Below w0.heap.size w0 w) (hr : Row w0 sl xs) (hl : xs.length = ans.length) (hlen : xs.length ≤ 100000)
    (hsh : ∀ u ∈ xs, ∃ t y, u = .iface t y)
    (hD : ∀ (k : Nat) (x : Value) (a : Bool), (∀ j, j < k → ans[j]? = some false) → xs[k]? = some x → ans[k]? = some a → ∀ w1, Below w0.heap.size w0 w1 → Calls Tryd.prog F #[x, c] w1 fun e w' => e = .returned (.bool a) ∧ (a = true → Q w') ∧ (a = false → Below w0.heap.size w0 w')) :
    Calls Tryd.prog 45 #[sl, .func (.func F) #[] #[c]] w fun e w' => ∃ r : Int, e = .returned (.int .i64 r) ∧ (ans.any id = true → 0 ≤ r ∧ Q w') ∧ (ans.any id = false → r < 0 ∧ Below w0.heap.size w0 w') := by
  obtain ⟨a, cap, rfl, h0, hc⟩ := hr
  have HD := Lib.hid hD
  have HW := Lib.hid hw
  have HC := Lib.hid hc
  have H0 := Lib.hid h0
  have HS := Lib.hid hsh
  have HL := Lib.hid hl
  clear hD hw hc h0 hsh hl
  have hent : ∀ (args : Array Value) (w : World), (callFunc F args).run Tryd.prog w = .ok (.enter F args) w := hE
  go_enter Tryd.func45, Tryd.ntmps45
  go_wp2
  go_loopg [8] (xs.length + 1) (fun g i wr => ∃ k : Nat, g + k = xs.length + 1 ∧ k ≤ xs.length ∧ i = .int .i64 k ∧ (∀ j, j < k → ans[j]? = some false) ∧ Below w0.heap.size w0 wr)
  case atStart => exact ⟨0, by omega, by omega, rfl, fun j hj => by omega, HW.out⟩
  case round =>
    obtain ⟨k, hg, hk, rfl, hj, hb⟩ := hrel
    have HB : Hid (Below w0.heap.size w0 wr ∧ (∀ j, j < k → ans[j]? = some false) ∧ gk + k = xs.length + 1) := ⟨hb, hj, hg⟩
    clear hb hj hg
    by_cases hlt : k < xs.length
    · obtain ⟨b, o, rfl, hcell⟩ := row_at H0.out HC.out (by omega)
      obtain ⟨u, hu⟩ : ∃ u, xs[k]? = some u := ⟨_, List.getElem?_eq_getElem hlt⟩
      obtain ⟨y, hy⟩ : ∃ y, ans[k]? = some y := ⟨_, List.getElem?_eq_getElem (by have := HL.out; omega)⟩
      have hcu := (HB.out.1.cell (lt_of_cell (hcell k u hu))).trans (hcell k u hu)
      have hun := HS.out u (List.mem_of_getElem? hu)
      have HU : Hid (xs[k]? = some u ∧ ans[k]? = some y) := ⟨hu, hy⟩
      clear hcell hu hy
      obtain ⟨tu, yu, rfl⟩ := hun
      cases y with
      | true =>
        go_wp2
        refine (HD.out k _ _ HB.out.2.1 HU.out.1 HU.out.2 _ HB.out.1).mono ?_
        rintro e w2 ⟨rfl, hq, -⟩
        have hq' : Hid (Q w2) := hq rfl
        clear hq
        go_wp2
        go_ret
        refine ⟨_, rfl, fun _ => ⟨by omega, hq'.out⟩, fun hn => ?_⟩
        have := List.any_eq_false.1 hn true (List.mem_of_getElem? HU.out.2)
        simp at this
      | false =>
        go_wp2
        refine (HD.out k _ _ HB.out.2.1 HU.out.1 HU.out.2 _ HB.out.1).mono ?_
        rintro e w2 ⟨rfl, -, hq⟩
        have hq' : Hid (Below w0.heap.size w0 w2) := hq rfl
        clear hq
        go_wp2
        go_roundg (gk - 1)
        case measure => have := HB.out.2.2; omega
        case rel =>
          refine ⟨k + 1, ?_, by omega, by go_num, fun j hj => ?_, hq'.out⟩
          · have := HB.out.2.2; omega
          · rcases Nat.lt_or_ge j k with h | h
            · exact HB.out.2.1 j h
            · obtain rfl : j = k := by omega
              exact HU.out.2
    · have hkl : ((k : Int) < (xs.length : Int)) = False := by simp; omega
      go_wp2
      go_ret
      have hall : ans.any id = false := by
        rw [List.any_eq_false]
        intro y hy
        obtain ⟨j, hj1, hj2⟩ := List.getElem_of_mem hy
        have h3 := HB.out.2.1 j (by have := HL.out; omega)
        rw [List.getElem?_eq_getElem hj1] at h3
        rw [← hj2]
        simpa using h3
      refine ⟨_, rfl, fun h => ?_, fun _ => ⟨by decide, HB.out.1⟩⟩
      rw [hall] at h; cases h

/-- Whether the closure says yes of one of these. -/
theorem containsE_any (F : Nat) (hE : Enters F) (c sl : Value) (xs : List Value) (ans : List Bool) (w w0 : World) (Q : World → Prop) (hw : Below w0.heap.size w0 w) (hr : Row w0 sl xs) (hl : xs.length = ans.length) (hlen : xs.length ≤ 100000)
    (hsh : ∀ u ∈ xs, ∃ t y, u = .iface t y)
    (hD : ∀ (k : Nat) (x : Value) (a : Bool), (∀ j, j < k → ans[j]? = some false) → xs[k]? = some x → ans[k]? = some a → ∀ w1, Below w0.heap.size w0 w1 → Calls Tryd.prog F #[x, c] w1 fun e w' => e = .returned (.bool a) ∧ (a = true → Q w') ∧ (a = false → Below w0.heap.size w0 w')) :
    Calls Tryd.prog 32 #[sl, .func (.func F) #[] #[c]] w fun e w' => e = .returned (.bool (ans.any id)) ∧ (ans.any id = true → Q w') ∧ (ans.any id = false → Below w0.heap.size w0 w') := by
  have hI := indexE_any F hE c sl xs ans w w0 Q hw hr hl hlen hsh hD
  generalize ans.any id = y at hI ⊢
  have HI := Lib.hid hI
  clear hI hD hsh
  obtain ⟨a, cap, rfl, -, -⟩ := hr
  clear hl
  cases y with
  | true =>
    go_enter Tryd.func32, Tryd.ntmps32
    go_wp2_with (go_at_call 45; refine HI.out.mono ?_; rintro e w1 ⟨r, rfl, h1, -⟩; have h2 := (h1 rfl).1; have h3 := Lib.hid (h1 rfl).2; clear h1)
    go_ret
    exact ⟨rfl, fun _ => h3.out, fun h => by cases h⟩
  | false =>
    go_enter Tryd.func32, Tryd.ntmps32
    go_wp2_with (go_at_call 45; refine HI.out.mono ?_; rintro e w1 ⟨r, rfl, -, h1⟩; have h2 : decide (0 ≤ r) = false := decide_eq_false (by have := (h1 rfl).1; omega); have h3 := Lib.hid (h1 rfl).2; clear h1)
    go_ret
    exact ⟨rfl, fun h => (by cases h), fun _ => h3.out⟩
end Go.Proofs.YtmlmgkaghcnpnaaDoor
