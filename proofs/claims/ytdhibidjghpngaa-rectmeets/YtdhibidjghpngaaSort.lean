/- From top to bottom: rectangles sorted by their first line. -/
import Derived.Test.YtdhibidjghpngaaOwn
import Derived.Test.YtdhibidjghpngaaShelfG
namespace Go.Proofs.Ytdhibidjghpngaa
open Go.RowKit

def cmpI (x y : Int) : Int := if x < y then -1 else if y < x then 1 else 0

theorem compare_any (x y : Int) (w : World) : Calls Try.prog 28 #[.int .i64 x, .int .i64 y] w fun e w' => e = .returned (.int .i64 (cmpI x y)) ∧ w = w' := by
  by_cases h1 : x < y
  · have hv : Hid (cmpI x y = -1) := if_pos h1
    go_enter Try.func28, Try.ntmps28
    go_wp2
    go_ret
    exact ⟨by rw [hv.out]; rfl, rfl⟩
  · by_cases h2 : y < x
    · have hv : Hid (cmpI x y = 1) := (by rw [cmpI, if_neg h1, if_pos h2] : cmpI x y = 1)
      go_enter Try.func28, Try.ntmps28
      go_wp2
      go_ret
      exact ⟨by rw [hv.out]; rfl, rfl⟩
    · have hv : Hid (cmpI x y = 0) := (by rw [cmpI, if_neg h1, if_neg h2] : cmpI x y = 0)
      go_enter Try.func28, Try.ntmps28
      go_wp2
      go_ret
      exact ⟨by rw [hv.out]; rfl, rfl⟩

def cfY (a b : R) : Int := cmpI a.y b.y

theorem ltY (a b : R) : ltOf cfY a b = decide (a.y < b.y) := by
  unfold ltOf cfY cmpI
  by_cases h1 : a.y < b.y
  · simp [h1]
  · by_cases h2 : b.y < a.y <;> simp [h1, h2]
theorem swoY : Sort.SWO (ltOf cfY) where
  irrefl x := by rw [ltY]; simp
  trans x y z h1 h2 := by rw [ltY] at *; simp at *; omega
  ntrans x y z h1 h2 := by rw [ltY] at *; simp at *; omega

theorem byY_any (a b : R) (W : World) : Calls Try.prog 27 #[val a, val b] W fun e w' => e = .returned (.int .i64 (cfY a b)) ∧ ∃ q os', w' = Sort.grow (W.drewN q) os' := by
  have hcon := fun W' => Lib.hid (compare_any a.y b.y W')
  show Calls Try.prog 27 #[val a, val b] W fun e w' => e = .returned (.int .i64 (cmpI a.y b.y)) ∧ ∃ q os', w' = Sort.grow (W.drewN q) os'
  generalize cmpI a.y b.y = r at hcon ⊢
  go_enter Try.func27, Try.ntmps27
  go_wp2_with fail
  refine (hcon _).out.mono ?_
  rintro e w' ⟨rfl, rfl⟩
  go_wp2
  go_ret
  exact ⟨rfl, 0, _, by rw [Sort.alloc_eq_grow, Sort.alloc_eq_grow, Sort.grow_grow]; rfl⟩

theorem cmpLaysY (blk off size : Nat) (w : World) : CmpLays Try.prog 27 #[] enc 4 cfY blk off size w := fun _ _ _ _ x y => byY_any x y _
theorem enters27 : Enters 27 := enters_of Try.func27 (by kernel_rfl) rfl

theorem holds_owns {w : World} {base : Nat} {g cap : Nat} {l : List R} (h : Owns w base (.slice (some ⟨g, 0, none⟩) l.length cap) l) : Sort.HoldsK enc 4 w g 0 l.toArray := by
  intro j hj
  have hj' : j < l.length * 4 := by simpa using hj
  have h4 : j / 4 < l.length := by omega
  have hm : j % 4 < 4 := Nat.mod_lt _ (by omega)
  rw [Sort.get_flatK _ _ _ _ (by simpa using hj')]
  have hr := List.getElem?_eq_getElem h4
  have hf := flat_get l (j / 4) (j % 4) _ hr hm
  rw [show j / 4 * 4 + j % 4 = j by omega] at hf
  have he : l.toArray[j / 4]! = l[j / 4] := by simp [h4]
  have hc := h.cells (g := g) rfl j _ (hf.trans (List.getElem?_eq_getElem (show j % 4 < (enc l[j / 4]).length from hm)))
  rw [Go.WideShapes.add_plain] at hc
  refine ⟨?_, ?_⟩
  · rw [hc, he, id, getElem!_pos (enc l[j / 4]) (j % 4) hm]; rfl
  · rcases h.2 with ⟨h0, -⟩ | ⟨g', cap', cur, hv, -, hg, -⟩
    · cases h0
    · cases hv
      simp [World.frozen?, hg]

theorem rrow_holds {w : World} {g cap : Nat} {d : Array R} (h : Sort.HoldsK enc 4 w g 0 d) : RRow w (.slice (some ⟨g, 0, none⟩) d.size cap) d.toList := by
  refine .inr ⟨g, 0, cap, by simp, fun j r hj => ?_⟩
  have hj' : j < d.size := by
    rcases Nat.lt_or_ge j d.size with h1 | h1
    · exact h1
    · rw [List.getElem?_eq_none (by simpa using h1)] at hj; cases hj
  have he : d[j]! = r := by
    rw [getElem!_pos d j hj']
    rw [Array.getElem?_toList, Array.getElem?_eq_getElem hj'] at hj
    exact Option.some.inj hj
  have hc : ∀ c, (hc : c < 4) → w.cell? ⟨g, 0 + j * 4 + c, none⟩ = some (enc r)[c]! := fun c hc => by
    rw [← he]; exact (h.cell hj' hc).1
  exact ⟨hc 0 (by omega), hc 1 (by omega), hc 2 (by omega), hc 3 (by omega)⟩

theorem sortWorld_grown (w : World) (g n : Nat) (d : Array R) (os : Array Obj) : w.grownBy (sortWorldK enc 4 w g 0 n d os) (some g) := by
  refine ⟨rfl, rfl, rfl, ?_, fun k hk hne => ?_⟩
  · simp [sortWorldK, Sort.grow, Sort.putRowK, Sort.putRow, Sort.mapBlock, Sort.ahead]
  · have hne' : g ≠ k := fun h => hne (by rw [h])
    simp only [sortWorldK, Sort.grow, Sort.putRowK, Sort.putRow, Sort.mapBlock, Sort.ahead]
    rw [Array.getElem?_append_left (by simpa using hk), Array.getElem?_modify, if_neg hne']

theorem sort_any (v : Value) (l : List R) (base : Nat) (w : World) (ho : Owns w base v l) (hp : 0 < l.length) (hlen : l.length ≤ 100000) :
    Calls Try.prog 26 #[v, .func (.func 27) #[] #[]] w fun e w' => e = .returned (.tuple #[]) ∧ ∃ l', l'.Perm l ∧ l'.Pairwise (fun a b => a.y ≤ b.y) ∧ RRow w' v l' ∧ w.grownBy w' v.ownBlock := by
  have hlt := ho.lt
  rcases ho.2 with ⟨-, hn⟩ | ⟨g, cap, cur, rfl, hb, hg, hn, hm, hs, ht⟩
  · omega
  have hH := holds_owns ho
  have hcon := AnyQ.slices_SortFunc Try.sortL 4 Try.isAgg29 Try.sizeOf29 enc (fun _ => rfl) (fun x v hv => by simp [enc] at hv; rcases hv with rfl | rfl | rfl | rfl <;> rfl) cfY swoY 27 #[] g 0 cap l.toArray w enters27 (cmpLaysY g 0 _ w) hH (hlt g rfl).2 (by simp; omega)
  rw [List.size_toArray] at hcon
  refine hcon.mono ?_
  rintro e w' ⟨rfl, d', n, os, hp', hs', rfl⟩
  have hsz : d'.size = l.length := by simpa using hp'.1
  have hH' : Sort.HoldsK enc 4 (sortWorldK enc 4 w g 0 n d' os) g 0 d' := holdsK_sortWorldK enc 4 w g 0 n l.toArray d' os (hlt g rfl).2 hH (by simpa using hp'.1)
  refine ⟨rfl, d'.toList, ?_, ?_, ?_, sortWorld_grown w g n d' os⟩
  · have := hp'.2.2
    rw [← hsz] at this
    simpa [List.take_of_length_le (Nat.le_of_eq hsz.symm)] using this
  · rw [List.pairwise_iff_getElem]
    intro i j hi hj hij
    have := hs' i j (by omega) hij (by simp at hj; omega)
    rw [ltY] at this
    simp at hi hj
    simp [hi, hj] at this ⊢
    omega
  · have := rrow_holds (cap := cap) hH'
    rw [hsz] at this
    exact this
end Go.Proofs.Ytdhibidjghpngaa
