/- The document's example. -/
import Derived.Test.YtajhojbnpajelaaRAsks
import Derived.Deep.Cut
namespace Go.Proofs.Ytajhojbnpajelaa
open Go.RowKit

abbrev rA : R := ⟨0, 0, 3, 2⟩
abbrev rB : R := ⟨4, 0, 3, 2⟩
abbrev rC : R := ⟨0, 0, 7, 2⟩
abbrev aT : T := .node 1 rA 1 []
abbrev bT : T := .node 1 rB 2 []
abbrev cT : T := .node 2 rC 0 [aT, bT]
abbrev nT : T := .node 0 ⟨0, 0, 0, 0⟩ 0 []
abbrev aC : C := ⟨1, rA, 1, none, 0, 0⟩
abbrev bC : C := ⟨1, rB, 2, none, 0, 0⟩
abbrev cC (g : Nat) : C := ⟨2, rC, 0, some ⟨g, 0, none⟩, 2, 2⟩
abbrev nC : C := ⟨0, ⟨0, 0, 0, 0⟩, 0, none, 0, 0⟩
abbrev pairBox (c d : C) : Obj := .cells #[.int .u8 c.k, .int .i64 c.r.x, .int .i64 c.r.y, .int .i64 c.r.w, .int .i64 c.r.h, .int .i64 c.id, .slice c.a c.n c.cap, .int .u8 d.k, .int .i64 d.r.x, .int .i64 d.r.y, .int .i64 d.r.w, .int .i64 d.r.h, .int .i64 d.id, .slice d.a d.n d.cap] 26

theorem fit_a : fitB aT = true := (fitB_iff _).2 (.inl rfl)
theorem fit_b : fitB bT = true := (fitB_iff _).2 (.inl rfl)
theorem fit_c : fitB cT = true := by
  refine (fitB_iff _).2 (.inr ⟨⟨by decide, .inl ⟨by decide, ⟨fun k m hk hm => ?_, by decide⟩⟩⟩, by decide⟩)
  have hk2 : k < 2 := hk
  match k, hk2 with
  | 0, _ =>
    have : some 3 = some m := hm
    cases this
    decide
  | 1, _ =>
    have : some 3 = some m := hm
    cases this
    decide
theorem pre_c : preT cT = [cT, aT, bT] := by simp [preT, preL]
theorem pre_a : preT aT = [aT] := by simp [preT, preL]
theorem pre_b : preT bT = [bT] := by simp [preT, preL]
theorem tile_a : tileB aT = true := by
  unfold tileB; rw [pre_a, show mayT aT = true by decide]; simp [fit_a]
theorem tile_b : tileB bT = true := by
  unfold tileB; rw [pre_b, show mayT bT = true by decide]; simp [fit_b]
theorem tile_c : tileB cT = true := by
  unfold tileB; rw [pre_c, show mayT cT = true by decide]; simp [fit_a, fit_b, fit_c]
theorem tile_n : tileB nT = false := by
  unfold tileB; rw [show mayT nT = false by decide]; rfl
theorem fitsN (n : Int) (h : -1000 ≤ n ∧ n ≤ 1000) : fits n := ⟨by omega, by omega⟩
theorem a_is (w : World) : Is w aC aT := .mk aC [] [] (.inl ⟨_, _, rfl, rfl⟩) rfl ⟨⟨by decide, by decide⟩, ⟨fitsN _ (by decide), fitsN _ (by decide), fitsN _ (by decide), fitsN _ (by decide)⟩, fitsN _ (by decide), by decide⟩ (fun j x t hx => by simp at hx)
theorem b_is (w : World) : Is w bC bT := .mk bC [] [] (.inl ⟨_, _, rfl, rfl⟩) rfl ⟨⟨by decide, by decide⟩, ⟨fitsN _ (by decide), fitsN _ (by decide), fitsN _ (by decide), fitsN _ (by decide)⟩, fitsN _ (by decide), by decide⟩ (fun j x t hx => by simp at hx)
theorem n_is (w : World) : Is w nC nT := .mk nC [] [] (.inl ⟨_, _, rfl, rfl⟩) rfl ⟨⟨by decide, by decide⟩, ⟨fitsN _ (by decide), fitsN _ (by decide), fitsN _ (by decide), fitsN _ (by decide)⟩, fitsN _ (by decide), by decide⟩ (fun j x t hx => by simp at hx)
theorem pair_row (w : World) (c d : C) : CRow (w.alloc (pairBox c d)) (.slice (some ⟨w.heap.size, 0, none⟩) 2 2) [c, d] := by
  refine .inr ⟨w.heap.size, 0, 2, rfl, fun j x hx => ?_⟩
  match j with
  | 0 => simp at hx; subst hx; refine ⟨?_, ?_, ?_, ?_, ?_, ?_, ?_⟩ <;> simp
  | 1 => simp at hx; subst hx; refine ⟨?_, ?_, ?_, ?_, ?_, ?_, ?_⟩ <;> simp
  | j + 2 => simp at hx
theorem pair_trow {w : World} {c d : C} {t u : T} (hc : Is w c t) (hd : Is w d u) : TRow (w.alloc (pairBox c d)) (.slice (some ⟨w.heap.size, 0, none⟩) 2 2) [t, u] := by
  have al : Below w.heap.size w (w.alloc (pairBox c d)) := (Below.refl _ _).alloc (Nat.le_refl _) _
  refine ⟨[c, d], pair_row w c d, rfl, fun j x y hx hy => ?_⟩
  match j with
  | 0 => simp at hx hy; subst hx; subst hy; exact hc.up al
  | 1 => simp at hx hy; subst hx; subst hy; exact hd.up al
  | j + 2 => simp at hx
theorem c_is (w : World) : Is (w.alloc (pairBox aC bC)) (cC w.heap.size) cT := by
  obtain ⟨cs, h1, h2, h3⟩ := pair_trow (a_is w) (b_is w)
  exact .mk (cC w.heap.size) [aT, bT] cs h1 h2 ⟨⟨by simp, by simp⟩, ⟨fitsN _ (by simp), fitsN _ (by simp), fitsN _ (by simp), fitsN _ (by simp)⟩, fitsN _ (by simp), by simp⟩ h3
abbrev awW (w : World) : World := (((w.alloc (cbox aC)).alloc (cbox bC)).alloc (pairBox aC bC)).alloc (cbox (cC (w.heap.size + 2)))
structure AwSt (w W : World) : Prop where
  below : Below w.heap.size w W
  a : CAt W w.heap.size 0 aC
  b : CAt W (w.heap.size + 1) 0 bC
  c : CAt W (w.heap.size + 3) 0 (cC (w.heap.size + 2))
  is : Is W (cC (w.heap.size + 2)) cT
theorem AwSt.up {w W W' : World} (h : AwSt w W) (hb : Below W.heap.size W W') : AwSt w W' := ⟨h.below.trans (hb.mono h.below.size), h.a.up hb, h.b.up hb, h.c.up hb, h.is.up hb⟩
theorem awSt (w : World) : AwSt w (awW w) := by
  have al : ∀ (x : World) (o : Obj), Below x.heap.size x (x.alloc o) := fun x o => (Below.refl _ _).alloc (Nat.le_refl _) _
  have e1 : (w.alloc (cbox aC)).heap.size = w.heap.size + 1 := by simp
  have e2 : ((w.alloc (cbox aC)).alloc (cbox bC)).heap.size = w.heap.size + 2 := by simp
  have e3 : (((w.alloc (cbox aC)).alloc (cbox bC)).alloc (pairBox aC bC)).heap.size = w.heap.size + 3 := by simp
  have hb := cbox_new (w.alloc (cbox aC)) bC
  rw [e1] at hb
  have hi := c_is ((w.alloc (cbox aC)).alloc (cbox bC))
  rw [e2] at hi
  have hc := cbox_new (((w.alloc (cbox aC)).alloc (cbox bC)).alloc (pairBox aC bC)) (cC (w.heap.size + 2))
  rw [e3] at hc
  exact ⟨((((Below.refl _ _).alloc (Nat.le_refl _) _).alloc (by simp) _).alloc (by simp; omega) _).alloc (by simp; omega) _, (((cbox_new w aC).up (al _ _)).up (al _ _)).up (al _ _), (hb.up (al _ _)).up (al _ _), hc, hi.up (al _ _)⟩


theorem may_c : mayT cT = true := tile_may tile_c
theorem sz_c : sz cT = 3 := by simp [sz, szL]
theorem ls1_c : lsT 1 cT = 3 := by simp [lsT, lsS, alB]
theorem ls2_c : lsT 2 cT = 1 := by simp [lsT, lsX, alB]; rfl
theorem le1_c : leT 1 cT = 3 := by rw [le_yes may_c rfl, ls1_c]
theorem le2_c : leT 2 cT = 1 := by rw [le_yes may_c rfl, ls2_c]
theorem gi1_c : giT 1 cT = 4 := by rw [gi_yes tile_c rfl, gvT, ls1_c]; rfl

set_option maxRecDepth 100000 in
set_option maxHeartbeats 1600000 in
theorem awake8_any (w : World) : Calls Try.prog 8 #[] w fun e w' => e = .returned (.bool true) ∧ Below w.heap.size w w' := by
  have S0 := Lib.hid (awSt w)
  have H1 := Lib.hid (fun W (h : AwSt w W) => lst_any cT _ 1 W h.is)
  rw [le1_c] at H1
  have H2 := Lib.hid (fun W (h : AwSt w W) => lst_any cT _ 2 W h.is)
  rw [le2_c] at H2
  have H3 := Lib.hid (fun W (h : AwSt w W) => giv_any cT _ 1 W h.is (fun _ => by rw [sz_c]; decide))
  rw [gi1_c] at H3
  go_enter Try.func8, Try.ntmps8
  go_upto_region 4 with (fail)
  change Code.wp _ _ _ _ (awW w)
  generalize awW w = W at S0 ⊢
  obtain ⟨c0, c1, c2, c3, c4, c5, c6⟩ := S0.out.c
  simp only [Nat.zero_add] at c1 c2 c3 c4 c5 c6
  go_wp2_with fail
  refine (H1.out W S0.out).mono ?_
  rintro e w2 ⟨rfl, hb2⟩
  have S2 := Lib.hid (S0.out.up hb2)
  clear hb2 c0 c1 c2 c3 c4 c5 c6
  obtain ⟨c0, c1, c2, c3, c4, c5, c6⟩ := S2.out.c
  simp only [Nat.zero_add] at c1 c2 c3 c4 c5 c6
  go_wp2_with fail
  refine (H2.out w2 S2.out).mono ?_
  rintro e w3 ⟨rfl, hb3⟩
  have S3 := Lib.hid (S2.out.up hb3)
  clear hb3 c0 c1 c2 c3 c4 c5 c6
  obtain ⟨c0, c1, c2, c3, c4, c5, c6⟩ := S3.out.c
  simp only [Nat.zero_add] at c1 c2 c3 c4 c5 c6
  go_wp2_with fail
  refine (H3.out w3 S3.out).mono ?_
  rintro e w4 ⟨rfl, hb4⟩
  have S4 := Lib.hid (S3.out.up hb4)
  clear hb4 c0 c1 c2 c3 c4 c5 c6
  go_wp2
  go_ret
  exact ⟨rfl, S4.out.below⟩
end Go.Proofs.Ytajhojbnpajelaa
