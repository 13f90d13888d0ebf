/- How many cells trees have, together. -/
import Derived.Test.YtibjpkicchdomaaEach
namespace Go.Proofs.Ytibjpkicchdomaa
open Go.RowKit

theorem wrap_more (n : Nat) : wrap64 (wrap64 (n : Int) + 1) = wrap64 ((n + 1 : Nat) : Int) := by unfold wrap64; omega
theorem wrap_small {n : Nat} (h : n ≤ 1099511627776) : wrap64 (n : Int) = n := by unfold wrap64; omega

/-- A box of one cell. -/
abbrev Box1 (w : World) (b : Nat) (v : Value) (t : TypeId) : Prop := w.heap[b]? = some (.cells #[v] t (0, 0))
theorem Box1.up {w w' : World} {b : Nat} {v : Value} {t : TypeId} (h : Box1 w b v t) (hb : Below w.heap.size w w') : Box1 w' b v t := (hb.block b (lt_of_block h)).trans h
theorem Box1.new (w : World) (v : Value) (t : TypeId) : Box1 (w.alloc (.cells #[v] t)) w.heap.size v t := by
  show (w.heap.push _)[w.heap.size]? = _
  simp

def sizeI (w0 : World) (s : Nat) (W : World) : Prop := Below w0.heap.size w0 W ∧ Box1 W w0.heap.size (.int .i64 (wrap64 (s : Int))) 3
theorem sizeM (w0 : World) : Mach w0 (fun (_ : Nat) _ k => k = w0.heap.size) (sizeI w0) :=
  ⟨fun _ W _ _ h _ hk => by have := lt_of_block h.2; have hk' : W.heap.size = w0.heap.size := hk; omega, fun _ _ h => h.1, fun _ _ _ h hb => ⟨h.1.trans (hb.mono h.1.size), h.2.up hb⟩⟩

theorem fr_set {σ : Type} {own : σ → Option Obj → Nat → Prop} {s s1 s2 : σ} {W w1 : World} (h : Fr own s W s1 w1) (b : Nat) (v : Value) (hb : ∀ o, own s o b) (hs : ∀ k, own s2 (w1.setCell ⟨b, 0, none⟩ v).heap[k]? k → own s W.heap[k]? k ∨ W.heap.size ≤ k) : Fr own s W s2 (w1.setCell ⟨b, 0, none⟩ v) :=
  ⟨h.os, h.tape, h.output, by simpa [World.setCell] using h.size, fun k hk hn => (Below.heap_setCell w1 ⟨b, 0, none⟩ v k (fun e => hn (by subst e; exact hb _))).trans (h.block k hk hn), hs⟩

theorem size1_does (w0 : World) (M : Nat) (t : T) : Does (fun _ => M) w0 (fun (_ : Nat) _ k => k = w0.heap.size) (sizeI w0) 53 #[.pointer (some ⟨w0.heap.size, 0, none⟩)] (fun s _ => s + 1) t := by
  intro s c W _ hi hI
  have HI := Lib.hid hI
  have hlt : w0.heap.size < W.heap.size := lt_of_block hI.2
  have hne : w0.heap.size ≠ W.heap.size := by omega
  have q0 := cell_of_one hI.2
  have q1 := free_of_one hI.2
  clear hi hI
  show Calls Try.prog 53 #[cval c, .pointer (some ⟨w0.heap.size, 0, none⟩)] W _
  go_enter Try.func53, Try.ntmps53
  go_wp2
  go_end0
  rw [wrap_more]
  have hset : Below w0.heap.size w0 (W.setCell ⟨w0.heap.size, 0, none⟩ (.int .i64 (wrap64 ((s + 1 : Nat) : Int)))) := HI.out.1.setCell (Nat.le_refl _) _
  exact ⟨rfl, ⟨hset.alloc hset.size _, Box1.up (one_setCell HI.out.2) ((Below.refl _ _).alloc (Nat.le_refl _) _)⟩, Fr.trans (own := fun (_ : Nat) _ k => k = w0.heap.size) (s := s) (s1 := s + 1) (s2 := s + 1) (fr_set (own := fun (_ : Nat) _ k => k = w0.heap.size) (s := s) (s1 := s) (Fr.of (Below.refl _ _)) _ _ (fun _ => rfl) (fun k hk => .inl hk)) (Fr.of ((Below.refl _ _).alloc (Nat.le_refl _) _))⟩

theorem enters35 : Enters 53 := enters_of Try.func53 (by kernel_rfl) rfl

mutual
theorem doT_size (s : Nat) : ∀ t, doT (fun s (_ : T) => s + 1) s t = s + sz t
  | .node k r i l => by rw [doT, doL_size (s + 1) l, sz]; omega
theorem doL_size (s : Nat) : ∀ l, doL (fun s (_ : T) => s + 1) s l = s + szL l
  | [] => by rw [doL, szL]; rfl
  | t :: l => by rw [doL, doT_size s t, doL_size (s + sz t) l, szL]; omega
end

set_option maxRecDepth 100000 in
theorem size_any (v : Value) (l : List T) (w : World) (hr : TRow w v l) (hl : l.length ≤ 1954687338211) :
    Calls Try.prog 31 #[v] w fun e w' => e = .returned (.int .i64 (wrap64 (szL l : Nat))) ∧ Below w.heap.size w w' := by
  have hI : sizeI w 0 (w.alloc (.cells #[.int .i64 0] 3)) := ⟨(Below.refl _ _).alloc (Nat.le_refl _) _, by rw [wrap_small (by omega)]; exact Box1.new _ _ _⟩
  have H := Lib.hid (each_any (sizeM w) 53 enters35 _ (fun s _ => s + 1) l (fun _ => szL l) (fun _ _ => by omega) (size1_does w (szL l)) 0 _ v (Nat.le_refl _) (RowIn.of (sizeM w) hr hl) hI)
  obtain ⟨a, cap, rfl⟩ := hr.shape
  clear hr hI
  rw [doL_size, Nat.zero_add] at H
  generalize szL l = n at H ⊢
  go_enter Try.func31, Try.ntmps31
  go_wp2_with fail
  refine H.out.mono ?_
  rintro e w2 ⟨rfl, hi2, hfr2⟩
  have HI2 := Lib.hid hi2
  clear hi2 hfr2
  have q0 := cell_of_one HI2.out.2
  go_wp2
  go_ret
  exact ⟨rfl, HI2.out.1⟩
end Go.Proofs.Ytibjpkicchdomaa
