/- The document's own answers for layer 3: First, Many, Has. -/
import Derived.Test.YtmlmgkaghcnpnaaDoorRefA
namespace Go.Proofs.YtmlmgkaghcnpnaaDoor
open Go.RowKit

theorem frow_shape {w : World} {v : Value} {fs : List FD} (hr : FRow w v fs) : ∃ a cap, v = .slice a fs.length cap := by
  rcases hr with ⟨a, cap, rfl, rfl⟩ | ⟨b, o, cap, rfl, -⟩
  · exact ⟨_, _, rfl⟩
  · exact ⟨_, _, rfl⟩
theorem frow_at {w : World} {a : Option Addr} {cap : Nat} {fs : List FD} (hr : FRow w (.slice a fs.length cap) fs) (hp : 0 < fs.length) : ∃ b o, a = some ⟨b, o, none⟩ ∧ ∀ (j : Nat) (f : FD), fs[j]? = some f → FAt w b (o + j * 3) f := by
  rcases hr with ⟨_, _, -, rfl⟩ | ⟨b, o, cap', he, hf⟩
  · simp at hp
  · obtain ⟨rfl, rfl⟩ : a = some ⟨b, o, none⟩ ∧ cap = cap' := by cases he; exact ⟨rfl, rfl⟩
    exact ⟨b, o, rfl, hf⟩

/-- The place of the first one that is an error; -1. -/
def firstF : List FD → Nat → Int
  | [], _ => -1
  | f :: r, n => if f.1 = 0 then firstF r (n + 1) else n

theorem first_drop (fs : List FD) (k : Nat) (h : k < fs.length) : firstF (fs.drop k) k = if fs[k].1 = 0 then firstF (fs.drop (k + 1)) (k + 1) else k := by
  rw [List.drop_eq_getElem_cons h]; rfl

set_option maxRecDepth 100000 in
theorem first_any (v : Value) (fs : List FD) (w : World) (hr : FRow w v fs) (hlen : fs.length ≤ 20) :
    Calls Tryd.prog 17 #[v] w fun e w' => e = .returned (.int .i64 (firstF fs 0)) ∧ w = w' := by
  obtain ⟨a, cap, rfl⟩ := frow_shape hr
  have HR := Lib.hid hr
  clear hr
  go_enter Tryd.func17, Tryd.ntmps17
  go_wp2
  go_loopg [6] (fs.length + 1) (fun g i wr => w = wr ∧ ∃ k : Nat, g + k = fs.length + 1 ∧ k ≤ fs.length ∧ i = .int .i64 k ∧ firstF fs 0 = firstF (fs.drop k) k)
  case atStart => exact ⟨rfl, 0, by omega, by omega, rfl, rfl⟩
  case round =>
    obtain ⟨rfl, k, hg, hk, rfl, hj⟩ := hrel
    have HJ := Lib.hid hj
    clear hj
    by_cases hlt : k < fs.length
    · obtain ⟨b, o, rfl, hf⟩ := frow_at HR.out (by omega)
      obtain ⟨c0, -, -⟩ := hf k _ (List.getElem?_eq_getElem hlt)
      have HF := Lib.hid (first_drop fs k hlt)
      obtain ⟨x, hx⟩ : ∃ x, x = fs[k].1 := ⟨_, rfl⟩
      rw [← hx] at c0
      have HX := Lib.hid hx
      clear hf hx
      by_cases hz : x = 0
      · have d0 : (x != 0) = false := by simp [hz]
        have hz' := Lib.hid hz
        clear hz
        go_wp2
        go_roundg (gk - 1)
        case measure => omega
        case rel =>
          refine ⟨rfl, k + 1, by omega, by omega, by go_num, ?_⟩
          rw [HJ.out, HF.out, if_pos (by rw [← HX.out]; exact hz'.out)]
      · have d0 : (x != 0) = true := by simp [hz]
        have hz' := Lib.hid hz
        clear hz
        go_wp2
        go_ret
        refine ⟨?_, rfl⟩
        rw [HJ.out, HF.out, if_neg (by rw [← HX.out]; exact hz'.out)]
        rfl
    · obtain rfl : k = fs.length := by omega
      go_wp2
      go_ret
      refine ⟨?_, rfl⟩
      rw [HJ.out, List.drop_length]
      rfl

def manyF (fs : List FD) : Nat := fs.countP (fun f => f.1 != 0)

set_option maxRecDepth 100000 in
theorem many_any (v : Value) (fs : List FD) (w : World) (hr : FRow w v fs) (hlen : fs.length ≤ 20) :
    Calls Tryd.prog 18 #[v] w fun e w' => e = .returned (.int .i64 (manyF fs : Int)) ∧ w = w' := by
  obtain ⟨a, cap, rfl⟩ := frow_shape hr
  have HR := Lib.hid hr
  clear hr
  go_enter Tryd.func18, Tryd.ntmps18
  go_wp2
  go_loopg [3, 7] (fs.length + 1) (fun g n i wr => w = wr ∧ ∃ k m : Nat, g + k = fs.length + 1 ∧ k ≤ fs.length ∧ i = .int .i64 k ∧ n = .int .i64 m ∧ m ≤ k ∧ m = manyF (fs.take k))
  case atStart => exact ⟨rfl, 0, 0, by omega, by omega, rfl, rfl, by omega, rfl⟩
  case round =>
    obtain ⟨rfl, k, m, hg, hk, rfl, rfl, hmk, hj⟩ := hrel
    have HJ := Lib.hid hj
    clear hj
    by_cases hlt : k < fs.length
    · obtain ⟨b, o, rfl, hf⟩ := frow_at HR.out (by omega)
      obtain ⟨c0, -, -⟩ := hf k _ (List.getElem?_eq_getElem hlt)
      have HF : Hid (manyF (fs.take (k + 1)) = manyF (fs.take k) + if (fs[k].1 != 0) = true then 1 else 0) := (by
        rw [manyF, List.take_succ_eq_append_getElem hlt, List.countP_append, List.countP_singleton]; rfl : manyF (fs.take (k + 1)) = manyF (fs.take k) + if (fs[k].1 != 0) = true then 1 else 0)
      obtain ⟨x, hx⟩ : ∃ x, x = fs[k].1 := ⟨_, rfl⟩
      rw [← hx] at c0
      have HX := Lib.hid hx
      clear hf hx
      by_cases hz : x = 0
      · have d0 : (x != 0) = false := by simp [hz]
        have hz' := Lib.hid d0
        clear hz
        go_wp2
        go_roundg (gk - 1)
        case measure => omega
        case rel =>
          refine ⟨rfl, k + 1, m, by omega, by omega, by go_num, rfl, by omega, ?_⟩
          rw [HF.out, ← HX.out, hz'.out, HJ.out]; simp
      · have d0 : (x != 0) = true := by simp [hz]
        have hz' := Lib.hid d0
        clear hz
        go_wp2
        go_roundg (gk - 1)
        case measure => omega
        case rel =>
          refine ⟨rfl, k + 1, m + 1, by omega, by omega, by go_num, by go_num, by omega, ?_⟩
          rw [HF.out, ← HX.out, hz'.out, HJ.out]; simp
    · obtain rfl : k = fs.length := by omega
      go_wp2
      go_ret
      refine ⟨?_, rfl⟩
      rw [List.take_length] at HJ
      rw [← HJ.out]
      rfl

def hasF (fs : List FD) (e : Int) : Bool := fs.any (fun f => decide (f.1 = e ∧ e ≠ 0))

set_option maxRecDepth 100000 in
theorem has_any (v : Value) (fs : List FD) (n : Int) (w : World) (hr : FRow w v fs) (hlen : fs.length ≤ 20) :
    Calls Tryd.prog 20 #[v, .int .i64 n] w fun e w' => e = .returned (.bool (hasF fs n)) ∧ w = w' := by
  obtain ⟨a, cap, rfl⟩ := frow_shape hr
  have HR := Lib.hid hr
  clear hr
  go_enter Tryd.func20, Tryd.ntmps20
  go_wp2
  go_loopg [8] (fs.length + 1) (fun g i wr => w = wr ∧ ∃ k : Nat, g + k = fs.length + 1 ∧ k ≤ fs.length ∧ i = .int .i64 k ∧ ∀ (j : Nat) (f : FD), j < k → fs[j]? = some f → ¬ (f.1 = n ∧ n ≠ 0))
  case atStart => exact ⟨rfl, 0, by omega, by omega, rfl, fun j f h => by omega⟩
  case round =>
    obtain ⟨rfl, k, hg, hk, rfl, hj⟩ := hrel
    have HJ := Lib.hid hj
    clear hj
    by_cases hlt : k < fs.length
    · obtain ⟨b, o, rfl, hf⟩ := frow_at HR.out (by omega)
      obtain ⟨c0, -, -⟩ := hf k _ (List.getElem?_eq_getElem hlt)
      obtain ⟨x, hx⟩ : ∃ x, x = fs[k].1 := ⟨_, rfl⟩
      rw [← hx] at c0
      have HX := Lib.hid hx
      clear hf hx
      have step : ¬ (x = n ∧ n ≠ 0) → ∀ (j : Nat) (f : FD), j < k + 1 → fs[j]? = some f → ¬ (f.1 = n ∧ n ≠ 0) := fun hne j f hj hf => by
        rcases Nat.lt_or_ge j k with h | h
        · exact HJ.out j f h hf
        · obtain rfl : j = k := by omega
          rw [List.getElem?_eq_getElem hlt] at hf
          cases hf
          rw [← HX.out]
          exact hne
      by_cases hz : x = n
      · by_cases hn : n = 0
        · have HS := Lib.hid (step (fun h => h.2 hn))
          have d0 : (x == n) = true := by simp [hz]
          have d1 : (n != 0) = false := by simp [hn]
          clear hz hn step
          go_wp2
          go_roundg (gk - 1)
          case measure => omega
          case rel => exact ⟨rfl, k + 1, by omega, by omega, by go_num, HS.out⟩
        · have d0 : (x == n) = true := by simp [hz]
          have d1 : (n != 0) = true := by simp [hn]
          have HA : Hid (hasF fs n = true) := (by
            simp only [hasF, List.any_eq_true, decide_eq_true_eq]
            exact ⟨fs[k], List.getElem_mem hlt, by rw [← HX.out]; exact hz, hn⟩ : hasF fs n = true)
          clear hz hn step
          go_wp2
          go_ret
          exact ⟨by rw [HA.out]; rfl, rfl⟩
      · have HS := Lib.hid (step (fun h => hz h.1))
        have d0 : (x == n) = false := by simp [hz]
        clear hz step
        go_wp2
        go_roundg (gk - 1)
        case measure => omega
        case rel => exact ⟨rfl, k + 1, by omega, by omega, by go_num, HS.out⟩
    · have HA : Hid (hasF fs n = false) := (by
        simp only [hasF, List.any_eq_false, decide_eq_true_eq]
        intro f hf
        obtain ⟨i, hi, rfl⟩ := List.getElem_of_mem hf
        exact HJ.out i _ (by omega) (List.getElem?_eq_getElem hi) : hasF fs n = false)
      go_wp2
      go_ret
      exact ⟨by rw [HA.out]; rfl, rfl⟩
end Go.Proofs.YtmlmgkaghcnpnaaDoor
