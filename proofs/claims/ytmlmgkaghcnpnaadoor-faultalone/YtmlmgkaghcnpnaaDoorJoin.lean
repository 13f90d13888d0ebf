/- fault.Join: one error of several. -/
import Derived.Test.YtmlmgkaghcnpnaaDoorErrA
namespace Go.Proofs.YtmlmgkaghcnpnaaDoor
open Go.RowKit

/-- Is this an error, not nil? -/
def isErr : Value → Bool | .nilIface => false | _ => true

theorem row_one (w : World) (v : Value) (ty : TypeId) : Row (w.alloc (.cells #[v] ty)) (.slice (some ⟨w.heap.size, 0, none⟩) 1 1) [v] := by
  refine ⟨some ⟨w.heap.size, 0, none⟩, 1, rfl, fun h => (by cases h), fun x hx j u hu => ?_⟩
  cases hx
  cases j with
  | zero => simp at hu; subst hu; simp [Addr.add]
  | succ j => simp at hu

theorem take_filter (vs : List Value) (k : Nat) (v : Value) (h : vs[k]? = some v) : (vs.take (k + 1)).filter isErr = (vs.take k).filter isErr ++ (if isErr v then [v] else []) := by
  obtain ⟨hk, rfl⟩ := List.getElem?_eq_some_iff.1 h
  rw [List.take_succ_eq_append_getElem hk, List.filter_append]
  congr 1
  cases hv : isErr vs[k] <;> simp [List.filter, hv]

set_option maxRecDepth 100000 in
theorem join_any (sl : Value) (vs : List Value) (w : World) (hr : Row w sl vs) (hsh : ∀ u ∈ vs, u = .nilIface ∨ ∃ t y, u = .iface t y) (hlen : vs.length ≤ 100000) :
    Calls Tryd.prog 16 #[sl] w fun e w' => ∃ v, e = .returned v ∧ Below w.heap.size w w' ∧
      (vs.filter isErr = [] → v = .nilIface) ∧ (∀ x, vs.filter isErr = [x] → v = x) ∧ (2 ≤ (vs.filter isErr).length → ∃ b s, v = .iface 66 (.pointer (some ⟨b, 0, none⟩)) ∧ w'.cell? ⟨b, 0, none⟩ = some s ∧ Row w' s (vs.filter isErr)) := by
  obtain ⟨a, cap, rfl, h0, hc⟩ := hr
  have HC := Lib.hid hc
  have H0 := Lib.hid h0
  have HS := Lib.hid hsh
  clear hc h0 hsh
  have nS := neqSome
  have nN := neqNone
  go_enter Tryd.func16, Tryd.ntmps16
  go_wp2
  go_loopg [3, 8] (vs.length + 1) (fun g l i wr => ∃ k : Nat, g + k = vs.length + 1 ∧ k ≤ vs.length ∧ i = .int .i64 k ∧ wr.ownsRow w.heap.size 29 1 l ((vs.take k).filter isErr).length ((vs.take k).filter isErr) ∧ Below w.heap.size w wr)
  case atStart => exact ⟨0, by omega, by omega, rfl, World.ownsRow_nil _ _ _ _, Below.refl _ _⟩
  case round =>
    obtain ⟨k, hg, hk, rfl, hown, hb⟩ := hrel
    have HB : Hid (Below w.heap.size w wr ∧ wr.ownsRow w.heap.size 29 1 u3 ((vs.take k).filter isErr).length ((vs.take k).filter isErr) ∧ gk + k = vs.length + 1) := ⟨hb, hown, hg⟩
    clear hb hown hg
    by_cases hlt : k < vs.length
    · obtain ⟨b, o, rfl, hcell⟩ := row_at H0.out HC.out (by omega)
      obtain ⟨u, hu⟩ : ∃ u, vs[k]? = some u := ⟨_, List.getElem?_eq_getElem hlt⟩
      have hcu := (HB.out.1.cell (lt_of_cell (hcell k u hu))).trans (hcell k u hu)
      have hun := HS.out u (List.mem_of_getElem? hu)
      have HT := Lib.hid (take_filter vs k u hu)
      clear hcell hu
      rcases hun with rfl | ⟨tu, yu, rfl⟩
      · go_wp2
        go_roundg (gk - 1)
        case measure => have := HB.out.2.2; omega
        case rel =>
          refine ⟨k + 1, ?_, by omega, by go_num, ?_, HB.out.1⟩
          · have := HB.out.2.2; omega
          · rw [HT.out]; simpa [isErr] using HB.out.2.1
      · have hl : Hid (((vs.take k).filter isErr).length + 1 ≤ 1000000) := (by
          have h1 := List.length_filter_le isErr (vs.take k)
          have h2 := List.length_take_le k vs
          omega : ((vs.take k).filter isErr).length + 1 ≤ 1000000)
        go_wp2_with (at_builtin; refine wpList_append_row rfl _ _ 40 rfl w.heap.size 29 .nilIface 16 Tryd.underlying40 info29 rfl _ _ ((vs.take k).filter isErr) [.iface tu yu] rfl (HB.out.2.1.alloc _) rfl (row_one _ _ _) (fun u hu => by rw [List.mem_singleton.1 hu]; rfl) hl.out (by decide) w (HB.out.1.alloc HB.out.1.size _) (Nat.le_refl _) ?_; intro v' w1 hown' hb1)
        go_roundg (gk - 1)
        case measure => have := HB.out.2.2; omega
        case rel =>
          refine ⟨k + 1, ?_, by omega, by go_num, ?_, hb1⟩
          · have := HB.out.2.2; omega
          · rw [HT.out]; simpa [isErr] using hown'
    · obtain rfl : k = vs.length := by omega
      have HO : Hid (wr.ownsRow w.heap.size 29 1 u3 (vs.filter isErr).length (vs.filter isErr)) := by
        have := HB.out.2.1
        rwa [List.take_length] at this
      obtain ⟨xs, hxs⟩ : ∃ xs, xs = vs.filter isErr := ⟨_, rfl⟩
      rw [← hxs] at HO
      have HX := Lib.hid hxs
      clear hxs
      have HR := Lib.hid (Row.of_owns HO.out)
      obtain ⟨a3, c3, rfl, hn3, hc3⟩ := Row.of_owns HO.out
      rcases xs with _ | ⟨x, _ | ⟨y, r⟩⟩
      · clear hn3 hc3
        go_wp2
        go_ret
        refine ⟨_, rfl, HB.out.1, fun _ => rfl, fun x hx => ?_, fun h => ?_⟩
        · rw [← HX.out] at hx; cases hx
        · rw [← HX.out] at h; simp at h
      · obtain ⟨b, o, rfl, hcell⟩ := row_at hn3 hc3 (by simp)
        have hcx : wr.cell? ⟨b, o, none⟩ = some x := hcell 0 x rfl
        have hxs : Hid (∃ t y, x = .iface t y) := (by
          have hm : x ∈ vs.filter isErr := by rw [← HX.out]; simp
          have h2 := List.mem_filter.1 hm
          rcases HS.out x h2.1 with rfl | h
          · simp [isErr] at h2
          · exact h : ∃ t y, x = .iface t y)
        obtain ⟨tx, yx, rfl⟩ := hxs.out
        clear hn3 hc3 hcell hxs
        simp only [List.length_cons, List.length_nil, Nat.zero_add]
        go_wp2
        go_ret
        refine ⟨_, rfl, HB.out.1, fun hx => ?_, fun x hx => ?_, fun h => ?_⟩
        · rw [← HX.out] at hx; cases hx
        · rw [← HX.out] at hx; cases hx; rfl
        · rw [← HX.out] at h; simp at h
      · clear hn3 hc3
        simp only [List.length_cons]
        have z0 : ((r.length : Int) + 1 + 1 == 0) = false := by rw [beq_eq_false_iff_ne]; omega
        have z1 : ((r.length : Int) + 1 + 1 == 1) = false := by rw [beq_eq_false_iff_ne]; omega
        go_wp2
        go_ret
        refine ⟨_, rfl, HB.out.1.alloc HB.out.1.size _, fun hx => ?_, fun x hx => ?_, fun _ => ⟨_, _, rfl, cell_new _ _ _, ?_⟩⟩
        · rw [← HX.out] at hx; cases hx
        · rw [← HX.out] at hx; cases hx
        · rw [← HX.out]
          exact HR.out.up ((Below.refl _ _).alloc (Nat.le_refl _) _)
end Go.Proofs.YtmlmgkaghcnpnaaDoor
