/- A cut across: the parts, and what is between them. -/
import Derived.Test.YtajhojbnpajelaaTwo
namespace Go.Proofs.Ytajhojbnpajelaa
open Go.RowKit

/-- Numbers in a slice. -/
def IRow (w : World) (v : Value) (ms : List Int) : Prop :=
  (∃ a cap, v = .slice a 0 cap ∧ ms = []) ∨ ∃ b o cap, v = .slice (some ⟨b, o, none⟩) ms.length cap ∧ ∀ (j : Nat) (m : Int), ms[j]? = some m → w.cell? ⟨b, o + j, none⟩ = some (.int .i64 m)
theorem IRow.up {w w' : World} {v : Value} {ms : List Int} (h : IRow w v ms) (hb : Below w.heap.size w w') : IRow w' v ms := by
  rcases h with h | ⟨b, o, cap, h1, h2⟩
  · exact .inl h
  · exact .inr ⟨b, o, cap, h1, fun j m hm => (hb.cell (lt_of_cell (h2 j m hm))).trans (h2 j m hm)⟩
theorem IRow.shape {w : World} {v : Value} {ms : List Int} (hr : IRow w v ms) : ∃ a cap, v = .slice a ms.length cap := by
  rcases hr with ⟨a, cap, rfl, rfl⟩ | ⟨b, o, cap, rfl, -⟩
  · exact ⟨_, _, rfl⟩
  · exact ⟨_, _, rfl⟩
theorem IRow.place {w : World} {a : Option Addr} {cap : Nat} {ms : List Int} (hr : IRow w (.slice a ms.length cap) ms) (hp : 0 < ms.length) : ∃ b o, a = some ⟨b, o, none⟩ ∧ ∀ (j : Nat) (m : Int), ms[j]? = some m → w.cell? ⟨b, o + j, none⟩ = some (.int .i64 m) := by
  rcases hr with ⟨_, _, -, rfl⟩ | ⟨b, o, cap', he, hf⟩
  · simp at hp
  · obtain ⟨rfl, rfl⟩ : a = some ⟨b, o, none⟩ ∧ cap = cap' := by cases he; exact ⟨rfl, rfl⟩
    exact ⟨b, o, rfl, hf⟩

/-- Where the k-th size begins. -/
def offS (ms : List Int) (k : Nat) : Int := (ms.take k).foldl (fun n m => n + (m + 1)) 0
theorem off_succ {ms : List Int} {k : Nat} {m : Int} (h : ms[k]? = some m) : offS ms (k + 1) = offS ms k + (m + 1) := by
  unfold offS; rw [List.take_add_one, h, List.foldl_append]; rfl
theorem off_zero (ms : List Int) : offS ms 0 = 0 := rfl
/-- Where the first k sizes end. -/
def endS (ms : List Int) : Nat → Int
  | 0 => 0
  | k + 1 => offS ms (k + 1) - 1
theorem end_zero (ms : List Int) : endS ms 0 = 0 := rfl
theorem end_pos (ms : List Int) {k : Nat} (h : 0 < k) : endS ms k + 1 = offS ms k := by
  cases k with
  | zero => omega
  | succ k => simp only [endS]; omega
theorem end_succ {ms : List Int} {k : Nat} {m : Int} (h : ms[k]? = some m) : endS ms (k + 1) = offS ms k + m := by
  simp only [endS, off_succ h]; omega

/-- The first n sizes are ones that lie in a width. -/
def fitS (whole : Int) (ms : List Int) (n : Nat) : Prop := ∀ k m, k < n → ms[k]? = some m → 1 ≤ m ∧ offS ms k + m ≤ whole
theorem off_nonneg {whole : Int} {ms : List Int} {n : Nat} (h : fitS whole ms n) : ∀ k, k ≤ n → k ≤ ms.length → k ≤ offS ms k := by
  intro k
  induction k with
  | zero => intro _ _; simp [off_zero]
  | succ k ih =>
    intro h1 h2
    have hm := List.getElem?_eq_getElem (show k < ms.length by omega)
    have := h k _ (by omega) hm
    have := ih (by omega) (by omega)
    rw [off_succ hm]
    omega
/-- They, with what is between them, are just a width. -/
def fillP (whole : Int) (ms : List Int) : Prop := fitS whole ms ms.length ∧ offS ms ms.length = whole + 1

def turnR (r : R) : R := ⟨r.y, r.x, r.h, r.w⟩
theorem turn_turn (r : R) : turnR (turnR r) = r := rfl

theorem ident_any (r : R) (w : World) : Calls Try.prog 62 #[val r] w fun e w' => e = .returned (val (id r)) ∧ Below w.heap.size w w' := by
  have B1 : Hid (Below w.heap.size w ((w.alloc (box r)).alloc (box r))) := ((Below.refl _ _).alloc (Nat.le_refl _) _).alloc (by simp) _
  go_enter Try.func62, Try.ntmps62
  go_wp2
  (try simp only [Exit.inBlock, Exit.then])
  refine bodyPost_ret (results_cell_row rfl _ _ (w.heap.size + 1) 23 _ (0, 0) _ rfl (heap_alloc2_new w (box r) (box (id r))) Try.underlying23 rfl (by kernel_rfl)) rfl ?_
  exact ⟨rfl, B1.out⟩
theorem turn_any (r : R) (w : World) : Calls Try.prog 63 #[val r] w fun e w' => e = .returned (val (turnR r)) ∧ Below w.heap.size w w' := by
  have B1 : Hid (Below w.heap.size w ((w.alloc (box r)).alloc (box (turnR r)))) := ((Below.refl _ _).alloc (Nat.le_refl _) _).alloc (by simp) _
  go_enter Try.func63, Try.ntmps63
  go_wp2
  (try simp only [Exit.inBlock, Exit.then])
  refine bodyPost_ret (results_cell_row rfl _ _ (w.heap.size + 1) 23 _ (0, 0) _ rfl (heap_alloc2_new w (box r) (box (turnR r))) Try.underlying23 rfl (by kernel_rfl)) rfl ?_
  exact ⟨rfl, B1.out⟩

def FillSays (whole : Int) (ms : List Int) (e : Ending) : Prop := ∃ b : Bool, e = .returned (.bool b) ∧ (b = true ↔ fillP whole ms)

set_option maxRecDepth 100000 in
theorem fill_any (whole : Int) (v : Value) (ms : List Int) (w : World) (hr : IRow w v ms) (hlen : ms.length ≤ 1000) (h0 : 1 ≤ whole) (h1 : whole ≤ 10000) :
    Calls Try.prog 64 #[.int .i64 whole, v] w fun e w' => FillSays whole ms e ∧ w = w' := by
  obtain ⟨a, cap, rfl⟩ := hr.shape
  have HR := Lib.hid hr
  clear hr
  have hw : IntKind.i64.wrap (whole + 1) = whole + 1 := wrap_id (by omega)
  go_enter Try.func64, Try.ntmps64
  go_wp2
  go_loopg [5, 12] (ms.length + 1) (fun g s i wr => w = wr ∧ ∃ k : Nat, g + k = ms.length + 1 ∧ k ≤ ms.length ∧ i = .int .i64 k ∧ s = .int .i64 (whole + 1 - offS ms k) ∧ fitS whole ms k)
  case atStart => exact ⟨rfl, 0, by omega, by omega, rfl, by simp [off_zero], fun k m hk => by omega⟩
  case round =>
    obtain ⟨rfl, k, hg, hk, rfl, rfl, hfit⟩ := hrel
    have HB : Hid (fitS whole ms k ∧ gk + k = ms.length + 1) := ⟨hfit, hg⟩
    have hoff := off_nonneg hfit k (Nat.le_refl _) hk
    have hoff2 : offS ms k ≤ whole + 1 := by
      rcases Nat.eq_zero_or_pos k with h | h
      · subst h; rw [off_zero]; omega
      · obtain ⟨j, rfl⟩ : ∃ j, k = j + 1 := ⟨k - 1, by omega⟩
        have hm := List.getElem?_eq_getElem (show j < ms.length by omega)
        have := hfit j _ (by omega) hm
        rw [off_succ hm]; omega
    clear hfit hg
    by_cases hlt : k < ms.length
    · obtain ⟨m, hm⟩ : ∃ m, ms[k]? = some m := ⟨_, List.getElem?_eq_getElem hlt⟩
      obtain ⟨b, o, rfl, hat⟩ := HR.out.place (by omega)
      have c0 := hat k m hm
      have HM := Lib.hid hm
      have HS := Lib.hid (off_succ hm)
      clear hat hm
      obtain ⟨f, hf⟩ : ∃ f, whole + 1 - offS ms k = f := ⟨_, rfl⟩
      rw [hf]
      have HF := Lib.hid hf
      have hfb : 0 ≤ f ∧ f ≤ whole + 1 := by omega
      clear hf hoff hoff2
      by_cases h2 : m < 1
      · have d1 : decide (m < 1) = true := decide_eq_true h2
        go_wp2
        go_ret
        refine ⟨⟨false, rfl, ?_⟩, rfl⟩
        simp only [Bool.false_eq_true, false_iff]
        intro h
        have := h.1 k m hlt HM.out
        omega
      · have d1 : decide (m < 1) = false := decide_eq_false h2
        by_cases h3 : f ≤ m
        · have d2 : decide (f ≤ m) = true := decide_eq_true h3
          go_wp2
          go_ret
          refine ⟨⟨false, rfl, ?_⟩, rfl⟩
          simp only [Bool.false_eq_true, false_iff]
          intro h
          have := h.1 k m hlt HM.out
          have := HF.out
          omega
        · have d2 : decide (f ≤ m) = false := decide_eq_false h3
          have s1 : IntKind.i64.wrap (m + 1) = m + 1 := wrap_id (by omega)
          have s2 : IntKind.i64.wrap (f - (m + 1)) = f - (m + 1) := wrap_id (by omega)
          go_wp2
          go_roundg (gk - 1)
          case measure => have := HB.out.2; omega
          case rel =>
            refine ⟨rfl, k + 1, ?_, by omega, by go_num, ?_, ?_⟩
            · have := HB.out.2; omega
            · rw [HS.out, ← HF.out]
              exact congrArg (Value.int .i64) (by omega)
            · intro j m' hj hm'
              rcases Nat.lt_or_ge j k with h | h
              · exact HB.out.1 j m' h hm'
              · obtain rfl : j = k := by omega
                have := HM.out.symm.trans hm'
                obtain rfl := Option.some.inj this
                have := HF.out
                omega
    · obtain rfl : k = ms.length := by omega
      have hkl : ((ms.length : Int) < (ms.length : Int)) = False := by simp
      obtain ⟨f, hf⟩ : ∃ f, whole + 1 - offS ms ms.length = f := ⟨_, rfl⟩
      rw [hf]
      have HF := Lib.hid hf
      clear hf
      by_cases hz : f = 0
      · subst hz
        go_wp2
        go_ret
        refine ⟨⟨true, rfl, ?_⟩, rfl⟩
        simp only [true_iff]
        exact ⟨HB.out.1, by have := HF.out; omega⟩
      · have d : (f == 0) = false := by rw [beq_eq_false_iff_ne]; exact hz
        go_wp2
        go_ret
        refine ⟨⟨false, rfl, ?_⟩, rfl⟩
        simp only [Bool.false_eq_true, false_iff]
        intro h
        have := h.2
        have := HF.out
        omega
end Go.Proofs.Ytajhojbnpajelaa
