/- Apart: do no two share a cell? -/
import Derived.Test.YtdhibidjghpngaaSwMath
import Derived.Test.YtdhibidjghpngaaSort
import Derived.Shelf.SlSortCmp.NoneTotal
import Derived.Laws.MakeOwn
namespace Go.Proofs.Ytdhibidjghpngaa
open Go.RowKit

theorem sorted_any (v : Value) (l : List R) (base : Nat) (w : World) (ho : Owns w base v l) (hlen : l.length ≤ 100000) :
    Calls Try.prog 26 #[v, .func (.func 27) #[] #[]] w fun e w' => e = .returned (.tuple #[]) ∧ ∃ l', l'.Perm l ∧ l'.Pairwise (fun a b => a.y ≤ b.y) ∧ RRow w' v l' ∧ w.grownBy w' v.ownBlock := by
  rcases Nat.eq_zero_or_pos l.length with h0 | hp
  · have hl : l = [] := List.length_eq_zero_iff.1 h0
    subst hl
    obtain ⟨a, cap, hv⟩ := ho.row.shape
    have hr := ho.row
    subst hv
    have hcon := AnyF.slices_SortFunc_none Try.sortL a cap (.func (.func 27) #[] #[]) w
    refine hcon.mono ?_
    rintro e w' ⟨rfl, rfl⟩
    exact ⟨rfl, [], .refl _, .nil, hr, World.grownBy.refl _ _⟩
  · exact sort_any v l base w ho hp hlen

theorem madeZ (n : Nat) (hn : (n : Int) ≤ 9223372036854775807) : ∃ Z : Array Value, Z.size = n ∧ (∀ x, x < n → Z[x]? = some (.int .i64 0)) ∧ ∀ w : World, (8 * n ≤ 281474976710656) → (Instr.makeSlice 35 (.int .i64 (n : Int)) (.int .i64 (n : Int))).run Try.prog w = .ok (.slice (some ⟨w.heap.size, 0, none⟩) n n) (w.alloc (.cells Z 3)) := by
  obtain ⟨i0, hi, hz0, hz1, hz2⟩ := info_parts (P := Try.prog) (e := 3) (z := .int .i64 0) (size := 1) (bytes := 8) (by kernel_rfl)
  refine ⟨madeCells (Value.int .i64 0).cells n, size_madeCells _ _, fun x hx => ?_, fun w hb => ?_⟩
  · simp [madeCells, hx, Value.cells, Nat.mod_one]
  · have h := run_make (P := Try.prog) w 35 3 i0 (.int .i64 0) Try.underlying35 hi hz0 .i64 .i64 (n : Int) (n : Int) (by omega) (by omega) (by rw [hz2]; omega) (by omega)
    rw [hz1, Nat.mul_one, Int.toNat_natCast] at h
    exact h

theorem enters29 : Enters 29 := enters_of Try.func29 (by kernel_rfl) rfl

/-- The columns' first free lines, as they are laid. -/
theorem free_new {w : World} {Z : Array Value} (hZ : ∀ x, x < 10000 → Z[x]? = some (.int .i64 0)) : FreeAt (w.alloc (.cells Z 3)) w.heap.size (fun _ => 0) := fun x hx => by
  have hh : (w.alloc (.cells Z 3)).heap[w.heap.size]? = some (.cells Z 3 (0, 0)) := heap_alloc_new w _
  refine ⟨?_, ?_⟩
  · rw [cell_of_row _ _ _ _ _ _ hh]
    exact hZ x hx
  · simp only [World.frozen?, hh]
    simp

theorem sweeps_any (l l' : List R) (hp : l'.Perm l) (hm : mays l = true) (hs : l'.Pairwise (fun a b => a.y ≤ b.y)) (hlen : l.length ≤ 100000) (v : Value) (fb fx : Nat) (w : World) (hr : RRow w v l') (hv : ∀ a n c, v = .slice (some a) n c → some a.block ≠ some fb) (hne : fx ≠ fb)
    (hfx : w.cell? ⟨fx, 0, none⟩ = some (.slice (some ⟨fb, 0, none⟩) 10000 10000)) (hf : FreeAt w fb (fun _ => 0)) :
    Calls Try.prog 22 #[v, .func (.func 29) #[] #[.pointer (some ⟨fx, 0, none⟩)]] w fun e w' => e = .returned (.bool (apartB l)) ∧ w.grownBy w' (some fb) := by
  have hm' : ∀ r ∈ l', mayB r = true := fun r hr => List.all_eq_true.1 hm r (hp.mem_iff.1 hr)
  have hJ : Judge 29 #[.pointer (some ⟨fx, 0, none⟩)] l' (some fb) (fun k W => W.cell? ⟨fx, 0, none⟩ = some (.slice (some ⟨fb, 0, none⟩) 10000 10000) ∧ FreeAt W fb (frK l' k)) (ansS l') := fun k r W hk hI => by
    refine (sweep_any r (frK l' k) fb fx W (hm' r (List.mem_of_getElem? hk)) hI.1 hne hI.2).mono ?_
    rintro e w' ⟨rfl, hg, hok⟩
    rw [ansS_at hk]
    exact ⟨rfl, hg, fun h => ⟨hg.cell hI.1 (by intro h; exact hne (Option.some.inj h)), by rw [frK_succ hk]; exact hok h⟩⟩
  have h := all_any 29 enters29 #[.pointer (some ⟨fx, 0, none⟩)] l' (some fb) _ (ansS l') hJ (fun k W W' h hb => ⟨(hb.cell (lt_of_cell h.1)).trans h.1, h.2.up hb⟩) v w hr hv (fun k hk => by cases hk; exact lt_of_cell (hf 0 (by omega)).1) (by rw [hp.length_eq]; exact hlen) ⟨hfx, hf⟩
  rw [sweep_all l l' hp hm hs] at h
  exact h.mono fun e w' ⟨h1, h2, _⟩ => ⟨h1, h2⟩

set_option maxRecDepth 100000 in
set_option maxHeartbeats 1600000 in
theorem apart_any (v : Value) (l : List R) (w : World) (hr : RRow w v l) (hlen : l.length ≤ 100000) (hf : fitsAll l) :
    Calls Try.prog 10 #[v] w fun e w' => e = .returned (.bool (apartB l)) ∧ Below w.heap.size w w' := by
  have HM := Lib.hid (may_any v l w hr hlen hf)
  have HR := Lib.hid hr
  obtain ⟨Z, hZs, hZ, hmake⟩ := madeZ 10000 (by decide)
  have hmk : ∀ w : World, (Instr.makeSlice 35 (.int .i64 10000) (.int .i64 10000)).run Try.prog w = .ok (.slice (some ⟨w.heap.size, 0, none⟩) 10000 10000) (w.alloc (.cells Z 3)) := fun w => hmake w (by decide)
  have HZ : Hid (Z.size = 10000 ∧ ∀ x, x < 10000 → Z[x]? = some (.int .i64 0)) := ⟨hZs, hZ⟩
  obtain ⟨a, cap, rfl⟩ := hr.shape
  clear hr hf hmake hZs hZ
  rcases bool_cases (mays l) with hm | hm
  case inr =>
    have hv : Hid (apartB l = false) := (by rw [apartB, hm]; rfl : apartB l = false)
    rw [hm] at HM
    go_enter Try.func10, Try.ntmps10
    go_wp2_with fail
    refine HM.out.mono ?_
    rintro e w2 ⟨rfl, hb2⟩
    have B2 := Lib.hid hb2
    clear hb2
    go_wp2
    go_ret
    exact ⟨by rw [hv.out]; rfl, B2.out⟩
  rw [hm] at HM
  go_enter Try.func10, Try.ntmps10
  go_wp2_with fail
  refine HM.out.mono ?_
  rintro e w2 ⟨rfl, hb2⟩
  have B2 := Lib.hid hb2
  clear hb2
  go_wp2_with fail
  refine (clone_any _ l w2 (HR.out.up B2.out) hlen).mono ?_
  rintro e w3 ⟨v3, rfl, ho3, hb3⟩
  have O3 := Lib.hid ho3
  have B3 := Lib.hid (B2.out.trans (hb3.mono B2.out.size))
  have S3 := Lib.hid hb3.size
  clear ho3 hb3
  go_wp2_with fail
  refine (sorted_any v3 l _ w3 O3.out hlen).mono ?_
  rintro e w4 ⟨rfl, l', hp', hs', hr4, hg4⟩
  have P4 := Lib.hid hp'
  have Q4 := Lib.hid hs'
  have R4 := Lib.hid hr4
  have G4 := Lib.hid hg4
  have B4 : Hid (Below w.heap.size w w4) := B3.out.grown hg4 B3.out.size (fun k hk => Nat.le_trans B2.out.size (O3.out.lt k hk).1)
  clear hp' hs' hr4 hg4
  go_wp2_with fail
  have A4 : Hid (Below w4.heap.size w4 ((w4.alloc (.cells Z 3)).alloc (.cells #[.slice (some ⟨w4.heap.size, 0, none⟩) 10000 10000] 35))) := ((Below.refl _ _).alloc (Nat.le_refl _) _).alloc (by simp) _
  have F4 : Hid (FreeAt ((w4.alloc (.cells Z 3)).alloc (.cells #[.slice (some ⟨w4.heap.size, 0, none⟩) 10000 10000] 35)) w4.heap.size (fun _ => 0)) := (free_new HZ.out.2).up ((Below.refl _ _).alloc (Nat.le_refl _) _)
  refine (sweeps_any l l' P4.out hm Q4.out hlen v3 w4.heap.size (w4.heap.size + 1) _ (R4.out.up A4.out) ?hv (by omega) ?hc F4.out).mono ?_
  case hv =>
    rintro a n c rfl h
    have h1 := (O3.out.lt a.block rfl).2
    have h2 := G4.out.size
    have := Option.some.inj h
    omega
  case hc =>
    have h := cell_of_row (w4.alloc (.cells Z 3) |>.alloc (.cells #[.slice (some ⟨w4.heap.size, 0, none⟩) 10000 10000] 35)) (w4.alloc (.cells Z 3)).heap.size 0 _ _ _ (heap_alloc_new _ _)
    rw [World.size_alloc] at h
    exact h
  rintro e w5 ⟨rfl, hg5⟩
  have B5 : Hid (Below w.heap.size w w5) := (B4.out.trans (A4.out.mono B4.out.size)).grown hg5 (Nat.le_trans B4.out.size A4.out.size) (fun k hk => by cases hk; exact B4.out.size)
  clear hg5
  go_wp2
  go_ret
  exact ⟨rfl, B5.out⟩
end Go.Proofs.Ytdhibidjghpngaa
