/- Texts of this seat, 3 in one file. -/
import Derived.Test.YtodcabaihhmhnaaG08
import Derived.Test.YtodcabaihhmhnaaG09
import Derived.Test.YtodcabaihhmhnaaG30
import Derived.Test.YtodcabaihhmhnaaG19
import Derived.Test.YtodcabaihhmhnaaG23
import Derived.Deep.Cut
/- A leaf with a number: the program's find, and whether a number is free. -/
namespace Go.Proofs.Ytodcabaihhmhnaa
open Go.RowKit

set_option maxRecDepth 100000 in
theorem results_c3 {fn : Func} {p u u2 : Tmp} (h : fn.results = #[.cell p 26, .tmp u, .tmp u2]) (tmps : Array Value) (w : World) (g : Nat) (c : C) (hp : tmps.getD p undef = .pointer (some ⟨g, 0, none⟩)) (hg : Box7 w g c) :
    (results fn tmps).run Try.prog w = .ok (.tuple #[cval c, tmps.getD u undef, tmps.getD u2 undef]) w := by
  have hg' : w.heap[g]? = some (cbox c) := hg
  have hl := run_loadVar_row (P := Try.prog) w g 26 26 _ (0, 0) _ hg' Try.underlying26 rfl (by kernel_rfl)
  have hp' : tmps[p]?.getD undef = .pointer (some ⟨g, 0, none⟩) := by simpa using hp
  simp only [results, h]
  simp [Sem.run_bind, asAddr, Result.andThen]
  rw [hp']
  simp [hl]

/-- Numbers in a row that the call made. -/
def PRow (w : World) (base : Nat) (v : Value) (p : List Int) : Prop := Row w v (ints p) ∧ (∀ a n cap, v = .slice (some a) n cap → ∃ g, a = ⟨g, 0, none⟩ ∧ base ≤ g) ∧ ∀ a n cap, v = .slice a n cap → n ≤ cap
theorem PRow.up {w w' : World} {base : Nat} {v : Value} {p : List Int} (h : PRow w base v p) (hb : Below w.heap.size w w') : PRow w' base v p := ⟨h.1.up hb, h.2⟩
theorem PRow.lower {w : World} {base base' : Nat} {v : Value} {p : List Int} (h : PRow w base v p) (hb : base' ≤ base) : PRow w base' v p := ⟨h.1, fun a n cap e => by obtain ⟨g, h1, h2⟩ := h.2.1 a n cap e; exact ⟨g, h1, by omega⟩, h.2.2⟩
theorem PRow.kept {w w' : World} {base : Nat} {v : Value} {p : List Int} (h : PRow w base v p) (hk : ∀ g, base ≤ g → w'.heap[g]? = w.heap[g]?) : PRow w' base v p := by
  refine ⟨?_, h.2⟩
  obtain ⟨a, n, rfl, h0, h1⟩ := h.1
  refine ⟨a, n, rfl, h0, fun x hx j u hu => ?_⟩
  subst hx
  obtain ⟨g, rfl, hg⟩ := h.2.1 x _ _ rfl
  have := h1 _ rfl j u hu
  rw [Go.WideShapes.add_plain] at this ⊢
  exact (World.cell?_of_block (a := ⟨g, 0 + j, none⟩) (hk g hg)).trans this

def FindO (r : Option (List Int)) (w : World) (e : Ending) (w' : World) : Prop :=
  Below w.heap.size w w' ∧ match r with
  | some p => ∃ a cap, e = .returned (.tuple #[.slice a p.length cap, .bool true]) ∧ PRow w' w.heap.size (.slice a p.length cap) p
  | none => e = .returned (.tuple #[.slice none 0 0, .bool false])
set_option maxRecDepth 100000 in
theorem findO_any (id : Int) (t : T) (c : C) (w : World) (hs : sz t ≤ 1000000) (hi : Is w c t) : Calls Try.prog 29 #[cval c, .int .i64 id] w (FindO (findT id t) w) := by
  have HA : Hid (Below w.heap.size w (w.alloc (cbox c))) := (Below.refl _ _).alloc (Nat.le_refl _) _
  have H := Lib.hid (way_any id (sz t) t c (w.alloc (cbox c)) (Nat.le_refl _) hs (hi.up HA.out))
  have HS := Lib.hid hs
  clear hi hs
  cases hf : findT id t with
  | none =>
    rw [hf] at H
    clear hf
    go_enter Try.func29, Try.ntmps29
    go_wp2_with fail
    refine H.out.mono ?_
    rintro e w2 ⟨hb, rfl⟩
    have HB := Lib.hid hb
    clear hb
    go_wp2_with fail
    refine (Try.slices_Reverse_int_empty none 0 w2).mono ?_
    rintro e w3 ⟨rfl, hw⟩
    rw [hw]
    clear hw w3
    go_wp2
    go_ret2
    exact ⟨below_one HB.out, rfl⟩
  | some p =>
    rw [hf] at H
    have HL := Lib.hid (show p.length ≤ 1000000 by have := findT_len id p t hf; have := HS.out; omega)
    clear hf
    go_enter Try.func29, Try.ntmps29
    go_wp2_with fail
    refine H.out.mono ?_
    rintro e w2 ⟨hb, v, rfl, hown⟩
    have HB := Lib.hid hb
    have HO := Lib.hid hown
    have HFAR : Hid (∀ a n cap, v = .slice (some a) n cap → ∃ g, a = ⟨g, 0, none⟩ ∧ w.heap.size ≤ g) := Lib.hid fun a n cap e => by
      rcases hown.2 with ⟨h0, -⟩ | ⟨g, cap', cur, h0, hg, -⟩
      · rw [h0] at e; cases e
      · rw [h0] at e; cases e; exact ⟨g, rfl, by simp at hg; omega⟩
    have HCP : Hid (∀ a n cap, v = .slice a n cap → n ≤ cap) := Lib.hid fun a n cap e => by
      rcases hown.2 with ⟨h0, -⟩ | ⟨g, cap', cur, h0, -, -, hn, -⟩
      · rw [h0] at e; cases e; exact Nat.le_refl _
      · rw [h0] at e; cases e; exact hn
    clear hb hown
    go_wp2_with fail
    refine (rev_any v p _ w2 HO.out HL.out).mono ?_
    rintro e w3 ⟨rfl, hr, hb⟩
    have HR := Lib.hid hr
    have HB3 := Lib.hid (HB.out.trans hb)
    clear hr hb
    obtain ⟨a, cap, rfl⟩ := row_shape HR.out
    go_wp2
    go_ret2
    exact ⟨below_one HB3.out, a, cap, rfl, HR.out, HFAR.out, HCP.out⟩

set_option maxRecDepth 100000 in
theorem atO_any (t u : T) (c : C) (v : Value) (p : List Int) (w : World) (hi : Is w c t) (hr : Row w v (ints p)) (hl : p.length ≤ 1000000) (hat : atT t p = some u) : Calls Try.prog 35 #[cval c, v] w fun e w' => ∃ d S, e = .returned (.tuple #[cval d, .bool true]) ∧ OwnT w' w.heap.size d u S ∧ S.Nodup ∧ Below w.heap.size w w' := by
  have B1 : Hid (Below w.heap.size w ((w.alloc (cbox c)).alloc zeroBox)) := ((Below.refl _ _).alloc (Nat.le_refl _) _).alloc (by simp) _
  have Z1 : Hid (Zero7 ((w.alloc (cbox c)).alloc zeroBox) (w.heap.size + 1)) := Lib.hid (by
    have := zero_new (w.alloc (cbox c))
    simpa using this)
  have HC := Lib.hid (follow_any w t c v p ((w.alloc (cbox c)).alloc zeroBox) B1.out hi hr hl)
  obtain ⟨a, cap, rfl⟩ := row_shape hr
  clear hi hr
  have HC2 : Hid (Calls Try.prog 41 #[cval c, .slice a p.length cap] ((w.alloc (cbox c)).alloc zeroBox) fun e w' => ∃ y, e = .returned (.tuple #[cval y, .bool true]) ∧ Is w y u ∧ Below ((w.alloc (cbox c)).alloc zeroBox).heap.size ((w.alloc (cbox c)).alloc zeroBox) w') := HC.out.mono fun e w' h => by
    unfold FollowSays at h; rw [hat] at h
    obtain ⟨hb, y, h1, h2⟩ := h
    exact ⟨y, h1, h2, hb⟩
  clear HC hat
  go_enter Try.func35, Try.ntmps35
  go_wp2_with fail
  refine HC2.out.mono ?_
  rintro e w2 ⟨y, rfl, hiy, hb2⟩
  have HB2 := Lib.hid (B1.out.trans (hb2.mono B1.out.size))
  have HZ2 := Lib.hid (zero_up Z1.out hb2)
  have HA : Hid (Below w2.heap.size w2 (w2.alloc (cbox y))) := (Below.refl _ _).alloc (Nat.le_refl _) _
  have HF := Lib.hid (fresh_any (sz u) u y (w2.alloc (cbox y)) (Nat.le_refl _) ((hiy.up HB2.out).up HA.out))
  clear hiy hb2
  go_wp2_with fail
  refine HF.out.mono ?_
  rintro e w3 ⟨d, S3, rfl, hown, hnd, hb3⟩
  have HO := Lib.hid hown
  have HND := Lib.hid hnd
  have HB3 := Lib.hid (HB2.out.trans ((below_one hb3).mono HB2.out.size))
  have HZ3 := Lib.hid (zero_up HZ2.out (below_one hb3))
  have HSZ : Hid (w.heap.size + 2 ≤ w2.heap.size) := Lib.hid (by have := lt_of_block HZ2.out; omega)
  obtain ⟨⟨z0, z1, z2, z3, z4, z5, z6⟩, f0, f1, f2, f3, f4, f5, f6⟩ := zero_parts HZ3.out
  clear hown hb3 hnd
  go_wp2
  (try simp only [Exit.inBlock, Exit.then])
  refine bodyPost_ret (results_cell2 rfl _ _ (w.heap.size + 1) d rfl ((Box7.of_zero HZ3.out).put d)) rfl ?_
  refine ⟨d, S3, rfl, ?_, HND.out, below_put7 HB3.out (by omega) d⟩
  refine (HO.out.frame fun k hk => ?_).lower (by have := HSZ.out; simp; omega)
  have := (HO.out.ge k hk).1
  have := HSZ.out
  simp at *
  exact heap_put7 (by omega)

def freeB (id : Int) (t : T) : Bool := (decide (0 ≤ id) && decide (id ≤ 2147483647)) && !(findT id t).isSome
/-- A leaf, the path to it, and whether there is one. -/
def PfSays (id : Int) (t : T) (w : World) (e : Ending) (w' : World) : Prop :=
  Below w.heap.size w w' ∧ match findT id t with
  | some p => ∃ d u a cap, e = .returned (.tuple #[cval d, .slice a p.length cap, .bool true]) ∧ atT t p = some u ∧ (∃ S, OwnT w' w.heap.size d u S) ∧ PRow w' w.heap.size (.slice a p.length cap) p
  | none => e = .returned (.tuple #[cval noC, .slice none 0 0, .bool false])
theorem pf_no {id : Int} {t : T} {w w' : World} (h : findT id t = none) (hb : Below w.heap.size w w') : PfSays id t w (.returned (.tuple #[cval noC, .slice none 0 0, .bool false])) w' := by
  unfold PfSays; rw [h]; exact ⟨hb, rfl⟩
theorem pf_yes {id : Int} {t u : T} {p : List Int} {w w' : World} {d : C} {a : Option Addr} {cap : Nat} (h : findT id t = some p) (hu : atT t p = some u) (hi : ∃ S, OwnT w' w.heap.size d u S) (hr : PRow w' w.heap.size (.slice a p.length cap) p) (hb : Below w.heap.size w w') : PfSays id t w (.returned (.tuple #[cval d, .slice a p.length cap, .bool true])) w' := by
  unfold PfSays; rw [h]; exact ⟨hb, d, u, a, cap, rfl, hu, hi, hr⟩

end Go.Proofs.Ytodcabaihhmhnaa
/- A place in a tree of one's own, and what the tree is if another one stands there. -/
namespace Go.Proofs.Ytodcabaihhmhnaa
open Go.RowKit

def HasRow (w : World) (base : Nat) (y : C) : Prop := ∃ cs, OwnC w base (.slice y.a y.n y.cap) cs

structure PlaceAt (W : World) (base B : Nat) (t : T) (q : List Int) (b o : Nat) (u : T) (x : C) (S : List Nat) (cur : Array Value) : Prop where
  cat : CAt W b o x
  own : OwnT W base x u S
  nodup : S.Nodup
  out : b ∉ S
  ge : base ≤ b
  blk : W.heap[b]? = some (.cells cur 26 (0, 0))
  path : atT t q = some u
  ctx : ∀ (w' : World) (y : C) (u' : T), (∀ k, base ≤ k → k < W.heap.size → k ∉ S → k ≠ b → w'.heap[k]? = W.heap[k]?) → w'.heap[b]? = some (.cells (setO cur o y) 26 (0, 0)) → Is w' y u' → HasRow w' base y →
    ∃ z t', putT u' t q = some t' ∧ CAt w' B 0 z ∧ Is w' z t' ∧ HasRow w' base z
def Place (W : World) (base B : Nat) (t : T) (q : List Int) (b o : Nat) (u : T) : Prop := ∃ x S cur, PlaceAt W base B t q b o u x S cur

theorem place_top {W : World} {base B : Nat} {t : T} {x : C} {S : List Nat} (hx : Box7 W B x) (ho : OwnT W base x t S) (hn : S.Nodup) (hout : B ∉ S) (hge : base ≤ B) : Place W base B t [] B 0 t := by
  have hb : W.heap[B]? = some (cbox x) := hx
  refine ⟨x, S, _, hx.cat, ho, hn, hout, hge, hb, rfl, fun w' y u' _ hbl hi hr => ?_⟩
  exact ⟨y, u', rfl, cat_of_block hbl (by simp), hi, hr⟩

theorem OwnT.cases' {w : World} {base : Nat} {c : C} {t : T} {S : List Nat} (h : OwnT w base c t S) : ∃ (cs : List C) (Ss : List (List Nat)), OwnC w base (.slice c.a c.n c.cap) cs ∧ cs.length = t.kids.length ∧ Ss.length = t.kids.length ∧ c.fine ∧ t.k = c.k ∧ t.r = c.r ∧ t.id = c.id ∧ S = blk (.slice c.a c.n c.cap) ++ Ss.flatten ∧
    ∀ (j : Nat) (x : C) (u : T) (S' : List Nat), cs[j]? = some x → t.kids[j]? = some u → Ss[j]? = some S' → OwnT w base x u S' := by
  cases h with
  | mk c kids cs Ss fine row len slen each => exact ⟨cs, Ss, row, len, slen, fine, rfl, rfl, rfl, rfl, each⟩

/-- One step further. -/
theorem place_step {W : World} {base B : Nat} {t u u2 : T} {q : List Int} {b o : Nat} {j : Nat} (h : Place W base B t q b o u) (hk : u.kids[j]? = some u2) :
    ∃ (x : C) (g : Nat), CAt W b o x ∧ x.a = some ⟨g, 0, none⟩ ∧ x.n = u.kids.length ∧ Place W base B t (q ++ [(j : Int)]) g (j * 7) u2 := by
  obtain ⟨x, S, cur, h⟩ := h
  obtain ⟨cs, Ss, row, len, slen, fine, e1, e2, e3, rfl, each⟩ := h.own.cases'
  have hjl := (List.getElem?_eq_some_iff.1 hk).1
  have hxn : x.n = u.kids.length := h.own.is.n
  obtain ⟨g, cap, hv, hbg, hgl⟩ := row.form (by omega)
  have hxa : x.a = some ⟨g, 0, none⟩ := by injection hv
  have hjc : j < cs.length := by omega
  have hxc := List.getElem?_eq_getElem hjc
  have hSj := List.getElem?_eq_getElem (show j < Ss.length by omega)
  have hown2 := each j _ u2 _ hxc hk hSj
  have hkid : kidAt u (j : Int) = some u2 := by unfold kidAt; rw [if_pos (by omega)]; simpa using hk
  have hblk : blk (.slice x.a x.n x.cap) = [g] := by rw [hxa]; rfl
  have hgS : g ∈ blk (.slice x.a x.n x.cap) ++ Ss.flatten := List.mem_append_left _ (by rw [hblk]; simp)
  have hbne : b ≠ g := fun e => h.out (e ▸ hgS)
  have hnd := List.nodup_append.1 h.nodup
  have hgn : g ∉ Ss.flatten := fun hm => hnd.2.2 g (by rw [hblk]; simp) g hm rfl
  have hrow2 : OwnC W base (.slice (some ⟨g, 0, none⟩) x.n x.cap) cs := by rw [← hxa]; exact row
  obtain ⟨curg, hcurg⟩ : ∃ curg, W.heap[g]? = some (.cells curg 26 (0, 0)) := by
    rcases hrow2.2 with ⟨h0, -⟩ | ⟨g', cap', cur', he, _, hgg, _⟩
    · cases h0
    · have e : g = g' := by injection he with e1 e2 e3; injection e1 with e1; injection e1
      subst e; exact ⟨cur', hgg⟩
  have hcat : CAt W g (j * 7) cs[j] := cat_of_flat (hrow2.cells (g := g) rfl) j _ hxc
  refine ⟨x, g, h.cat, hxa, hxn, cs[j], Ss[j], curg, hcat, hown2, flat_one_nodup hnd.2.1 hSj, fun hm => hgn (mem_flat.2 ⟨j, _, hSj, hm⟩), hbg, hcurg, ?_, fun w' y u' hsame hbl hi hr => ?_⟩
  · rw [atT_append, h.path]
    simp only [atT, hkid]
  · have hrw : OwnC w' base (.slice x.a x.n x.cap) (cs.set j y) := by
      rw [hxa]
      exact own_put hrow2 hjc (by rw [hbl, putO_block hcurg y])
    have hbB : w'.heap[b]? = some (.cells (setO cur o x) 26 (0, 0)) := by
      rw [hsame b h.ge (lt_of_block h.blk) (fun hm => h.out (List.mem_append_right _ (mem_flat.2 ⟨j, _, hSj, hm⟩))) hbne, h.blk, setO_same h.blk h.cat]
    have hix : Is w' x (setKid u j u') := by
      unfold setKid
      rw [e1, e2, e3]
      refine .mk x (u.kids.set j u') (cs.set j y) hrw.row (by rw [List.length_set, List.length_set]; exact len) fine fun i a c' ha hc' => ?_
      by_cases hij : j = i
      · subst hij
        rw [List.getElem?_set_self hjc] at ha
        rw [List.getElem?_set_self hjl] at hc'
        cases ha; cases hc'
        exact hi
      · rw [List.getElem?_set_ne hij] at ha hc'
        have hil : i < Ss.length := by rw [slen]; exact (List.getElem?_eq_some_iff.1 hc').1
        have hSi := List.getElem?_eq_getElem hil
        have hoi := each i a c' _ ha hc' hSi
        refine (hoi.frame fun m hm => hsame m (hoi.ge m hm).1 (hoi.ge m hm).2 (fun hmj => hij ?_) (fun e => hgn (mem_flat.2 ⟨i, _, hSi, e ▸ hm⟩))).is
        exact (flat_disj hnd.2.1 hSi hSj hm hmj).symm
    obtain ⟨z, t', hp, hz⟩ := h.ctx w' x (setKid u j u') (fun m hm0 hm hmS hmb => hsame m hm0 hm (fun hmj => hmS (List.mem_append_right _ (mem_flat.2 ⟨j, _, hSj, hmj⟩))) (fun e => hmS (e ▸ hgS))) hbB hix ⟨_, hrw⟩
    exact ⟨z, t', by rw [put_append h.path hkid]; exact hp, hz⟩
theorem cat_inj {w : World} {b o : Nat} {c d : C} (h : CAt w b o c) (g : CAt w b o d) : c = d := by
  obtain ⟨h0, h1, h2, h3, h4, h5, h6⟩ := h
  obtain ⟨g0, g1, g2, g3, g4, g5, g6⟩ := g
  obtain ⟨ck, ⟨x, y, z, v⟩, ci, ca, cn, cc⟩ := c
  obtain ⟨dk, ⟨x', y', z', v'⟩, di, da, dn, dc⟩ := d
  simp only at *
  rw [h0] at g0; rw [h1] at g1; rw [h2] at g2; rw [h3] at g3; rw [h4] at g4; rw [h5] at g5; rw [h6] at g6
  cases g0; cases g1; cases g2; cases g3; cases g4; cases g5; cases g6
  rfl
end Go.Proofs.Ytodcabaihhmhnaa
/- The tree in which a kid stands at a path: the program's answer. -/
namespace Go.Proofs.Ytodcabaihhmhnaa
open Go.RowKit

def PutSays (r : Option T) (w : World) (e : Ending) (w' : World) : Prop := ∃ z, e = .returned (.tuple #[cval z, .bool r.isSome]) ∧ Is w' z (r.getD zT) ∧ HasRow w' w.heap.size z ∧ Below w.heap.size w w'
theorem put_none {r : Option T} {w w' : World} {e : Ending} (h : r = none) (he : e = .returned (.tuple #[cval zC, .bool false])) (hb : Below w.heap.size w w') : PutSays r w e w' := by
  subst h; exact ⟨zC, he, zero_is w', ⟨[], OwnC.nil _ _⟩, hb⟩
theorem put_some {r : Option T} {u : T} {w w' : World} {e : Ending} {z : C} (h : r = some u) (he : e = .returned (.tuple #[cval z, .bool true])) (hi : Is w' z u) (hr : HasRow w' w.heap.size z) (hb : Below w.heap.size w w') : PutSays r w e w' := by
  subst h; exact ⟨z, he, hi, hr, hb⟩
abbrev putW (w : World) (c k : C) : World := ((w.alloc (cbox c)).alloc (cbox k)).alloc zeroBox

theorem below_putO {B : Nat} {w w' : World} (h : Below B w w') {b : Nat} (hb : B ≤ b) (o : Nat) (c : C) : Below B w (putO w' b o c) := ((((((h.setCell hb _).setCell hb _).setCell hb _).setCell hb _).setCell hb _).setCell hb _).setCell hb _
theorem size_putO (w : World) (b o : Nat) (c : C) : (putO w b o c).heap.size = w.heap.size := by simp [World.setCell]

theorem free_of_block {w : World} {b : Nat} {cs : Array Value} {t : TypeId} (h : w.heap[b]? = some (.cells cs t (0, 0))) (o : Nat) : w.frozen? ⟨b, o, none⟩ = false := by simp [World.frozen?, h]

/-- What is there behind the last stores. -/
theorem put_end {W w4 : World} {base B rb : Nat} {t u kt : T} {p : List Int} {b o : Nat} {kd : C} {S4 : List Nat} (hp : Place W base B t p b o u) (hb : Below W.heap.size W w4) (hk : OwnT w4 W.heap.size kd kt S4) (hbase : base ≤ W.heap.size) (hB : base ≤ B) (hr : rb < base) :
    ∃ z t', putT kt t p = some t' ∧ CAt (putO w4 b o kd) B 0 z ∧ Is (put7 (putO w4 b o kd) rb z) z t' ∧ HasRow (put7 (putO w4 b o kd) rb z) base z := by
  obtain ⟨x, S, cur, h⟩ := hp
  have hbW : b < W.heap.size := lt_of_block h.blk
  have hblk4 : w4.heap[b]? = some (.cells cur 26 (0, 0)) := (hb.block b hbW).trans h.blk
  have key : ∀ w' : World, (∀ k, base ≤ k → k ≠ b → w'.heap[k]? = w4.heap[k]?) → w'.heap[b]? = some (.cells (setO cur o kd) 26 (0, 0)) → ∃ z t', putT kt t p = some t' ∧ CAt w' B 0 z ∧ Is w' z t' ∧ HasRow w' base z := fun w' hs hbl => by
    have hkd : OwnT w' W.heap.size kd kt S4 := hk.frame fun m hm => hs m (by have := (hk.ge m hm).1; omega) (by have := (hk.ge m hm).1; omega)
    obtain ⟨cs, Ss, row, -⟩ := hkd.cases'
    exact h.ctx w' kd kt (fun m hm0 hm _ hmb => (hs m hm0 hmb).trans (hb.block m hm)) hbl hkd.is ⟨cs, row.lower hbase⟩
  obtain ⟨z, t', h1, h2, -, -⟩ := key (putO w4 b o kd) (fun m _ hmb => putO_other hmb) (putO_block hblk4 kd)
  obtain ⟨z', t'', g1, g2, g3, g4⟩ := key (put7 (putO w4 b o kd) rb z) (fun m hm0 hmb => by rw [heap_put7 (by omega), putO_other hmb]) (by rw [heap_put7 (by have := h.ge; omega)]; exact putO_block hblk4 kd)
  have hz : z' = z := by
    have h2' : CAt (put7 (putO w4 b o kd) rb z) B 0 z := by
      obtain ⟨q0, q1, q2, q3, q4, q5, q6⟩ := h2
      have hh : ∀ i, (put7 (putO w4 b o kd) rb z).cell? ⟨B, i, none⟩ = (putO w4 b o kd).cell? ⟨B, i, none⟩ := fun i => World.cell?_of_block (a := ⟨B, i, none⟩) (heap_put7 (show B ≠ rb by omega))
      exact ⟨(hh _).trans q0, (hh _).trans q1, (hh _).trans q2, (hh _).trans q3, (hh _).trans q4, (hh _).trans q5, (hh _).trans q6⟩
    exact cat_inj g2 h2'
  subst hz
  rw [h1] at g1
  cases g1
  exact ⟨z', t', h1, h2, g3, g4⟩

set_option maxRecDepth 100000 in
set_option maxHeartbeats 4000000 in
theorem put_any (t kt : T) (c k : C) (v : Value) (p : List Int) (w : World) (hi : Is w c t) (hk : Is w k kt) (hr : Row w v (ints p)) (hl : p.length ≤ 1000000) : Calls Try.prog 24 #[cval c, cval k, v] w (PutSays (putT kt t p) w) := by
  have B1 : Hid (Below w.heap.size w (putW w c k)) := (((Below.refl _ _).alloc (Nat.le_refl _) _).alloc (by simp) _).alloc (by simp; omega) _
  have al : ∀ (x : World) (o : Obj), Below x.heap.size x (x.alloc o) := fun x o => (Below.refl _ _).alloc (Nat.le_refl _) _
  have C1 : Hid (Box7 (putW w c k) w.heap.size c) := Lib.hid (((Box7.new w c).up (al _ _)).up (al _ _))
  have K1 : Hid (Box7 (putW w c k) (w.heap.size + 1) k) := Lib.hid (by
    have := (Box7.new (w.alloc (cbox c)) k).up (al _ zeroBox)
    simpa using this)
  have Z1 : Hid (Zero7 (putW w c k) (w.heap.size + 2)) := Lib.hid (by
    have := zero_new ((w.alloc (cbox c)).alloc (cbox k))
    simpa using this)
  clear al
  have HC := Lib.hid (follow_any w t c v p (putW w c k) B1.out hi hr hl)
  have HI := Lib.hid hi
  have HKT := Lib.hid hk
  have HR := Lib.hid hr
  obtain ⟨a, cap, rfl⟩ := row_shape hr
  clear hi hr hk
  cases hat : atT t p with
  | none =>
    have hpn : Hid (putT kt t p = none) := Lib.hid (by
      have := put_at (kid := kt) (p := p) (t := t)
      rw [hat] at this
      cases h : putT kt t p with
      | none => rfl
      | some x => rw [h] at this; cases this)
    have HC2 : Hid (Calls Try.prog 41 #[cval c, .slice a p.length cap] (putW w c k) fun e w' => ∃ y : C, e = .returned (.tuple #[cval y, .bool false]) ∧ Below (putW w c k).heap.size (putW w c k) w') := HC.out.mono fun e w' h => by
      unfold FollowSays at h; rw [hat] at h
      obtain ⟨hb, y, h1⟩ := h
      exact ⟨y, h1, hb⟩
    clear HC hat
    go_enter Try.func24, Try.ntmps24
    go_wp2_with fail
    refine HC2.out.mono ?_
    rintro e w2 ⟨y, rfl, hb2⟩
    have HB2 := Lib.hid (B1.out.trans (hb2.mono B1.out.size))
    have HZ2 := Lib.hid (zero_up Z1.out hb2)
    have hlt := lt_of_block HZ2.out
    have hne : w.heap.size + 2 ≠ w2.heap.size := by omega
    obtain ⟨⟨z0, z1, z2, z3, z4, z5, z6⟩, f0, f1, f2, f3, f4, f5, f6⟩ := zero_parts HZ2.out
    clear hb2
    go_wp2
    (try simp only [Exit.inBlock, Exit.then])
    have HA : Below (put7 w2 (w.heap.size + 2) zC).heap.size (put7 w2 (w.heap.size + 2) zC) ((put7 w2 (w.heap.size + 2) zC).alloc (cbox y)) := (Below.refl _ _).alloc (Nat.le_refl _) _
    refine bodyPost_ret (results_cell2 rfl _ ((put7 w2 (w.heap.size + 2) zC).alloc (cbox y)) (w.heap.size + 2) zC rfl (((Box7.of_zero HZ2.out).put zC).up HA)) rfl ?_
    refine put_none hpn.out rfl ?_
    have hbp := below_put7 HB2.out (show w.heap.size ≤ w.heap.size + 2 by omega) zC
    exact hbp.trans (HA.mono hbp.size)
  | some uu =>
    have HC2 : Hid (Calls Try.prog 41 #[cval c, .slice a p.length cap] (putW w c k) fun e w' => ∃ y : C, e = .returned (.tuple #[cval y, .bool true]) ∧ Below (putW w c k).heap.size (putW w c k) w') := HC.out.mono fun e w' h => by
      unfold FollowSays at h; rw [hat] at h
      obtain ⟨hb, y, h1, -⟩ := h
      exact ⟨y, h1, hb⟩
    have HAT := Lib.hid hat
    clear HC hat
    go_enter Try.func24, Try.ntmps24
    go_wp2_with fail
    refine HC2.out.mono ?_
    rintro e w2 ⟨y, rfl, hb2⟩
    have A2 : Hid (Below w2.heap.size w2 (w2.alloc (cbox y))) := (Below.refl _ _).alloc (Nat.le_refl _) _
    have hb2a := hb2.trans (A2.out.mono hb2.size)
    have HB2 := Lib.hid (B1.out.trans (hb2a.mono B1.out.size))
    have C2 := Lib.hid (C1.out.up hb2)
    have K2 := Lib.hid (K1.out.up hb2a)
    have Z2 := Lib.hid (zero_up Z1.out hb2a)
    obtain ⟨c0, c1, c2, c3, c4, c5, c6⟩ := C2.out.cat
    simp only [Nat.zero_add] at c1 c2 c3 c4 c5 c6
    have hlt2 : w.heap.size < w2.heap.size := lt_of_block C2.out
    have HZL : Hid (w.heap.size + 3 ≤ w2.heap.size) := Lib.hid (by have := hb2.size; simpa using this)
    have hne2 : w.heap.size ≠ w2.heap.size := by omega
    have HF := Lib.hid (fresh_any (sz t) t c (w2.alloc (cbox y)) (Nat.le_refl _) (HI.out.up HB2.out))
    clear hb2 hb2a
    go_wp2_with fail
    refine HF.out.mono ?_
    rintro e w3 ⟨d, S3, rfl, hown, hnd, hb3⟩
    have A3 : Hid (Below w3.heap.size w3 (w3.alloc (cbox d))) := (Below.refl _ _).alloc (Nat.le_refl _) _
    have hb3a := hb3.trans (A3.out.mono hb3.size)
    have HB3 := Lib.hid (HB2.out.trans (hb3a.mono HB2.out.size))
    have K3 := Lib.hid (K2.out.up hb3a)
    have Z3 := Lib.hid (zero_up Z2.out hb3a)
    have hsz3 : (w2.alloc (cbox y)).heap.size ≤ w3.heap.size := hb3.size
    have HPL := Lib.hid (place_top (Box7.new w3 d) (hown.up A3.out) hnd (fun hm => by have := (hown.ge _ hm).2; omega) hsz3)
    have HS3 : Hid (w2.heap.size + 1 ≤ w3.heap.size) := Lib.hid (by simpa using hsz3)
    clear hown hnd hb3 hb3a hsz3 c0 c1 c2 c3 c4 c5 c6
    go_wp2
    go_loopg [11, 27] (p.length + 1) (fun g pl i wr => ∃ (n b o : Nat) (u : T), g + n = p.length + 1 ∧ n ≤ p.length ∧ i = .int .i64 n ∧ pl = .pointer (some ⟨b, o, none⟩) ∧ Place (w3.alloc (cbox d)) (w2.alloc (cbox y)).heap.size w3.heap.size t (p.take n) b o u ∧ wr = w3.alloc (cbox d))
    case atStart => exact ⟨0, w3.heap.size, 0, t, by omega, by omega, rfl, rfl, by simpa using HPL.out, rfl⟩
    case round =>
      obtain ⟨n, b, o, u, hg, hn, rfl, rfl, hpl, hwr⟩ := hrel
      rw [hwr]
      clear hwr
      have HG := Lib.hid hg
      have HP := Lib.hid hpl
      clear hg hpl
      by_cases hlt : n < p.length
      · have hlti : (n : Int) < (p.length : Int) := by omega
        obtain ⟨m, hm⟩ : ∃ m, p[n]? = some m := ⟨_, List.getElem?_eq_getElem hlt⟩
        obtain ⟨pb, po, rfl, hf⟩ := int_at HR.out (by omega)
        have p0 := (HB3.out.cell (lt_of_cell (hf n m hm))).trans (hf n m hm)
        clear hf
        obtain ⟨u2, hu2⟩ : ∃ u2, kidAt u m = some u2 := by
          obtain ⟨x', S', cur', hpp⟩ := HP.out
          cases hkk : kidAt u m with
          | some u2 => exact ⟨u2, rfl⟩
          | none =>
            have h1 := atT_stop ((atT_step hpp.path hm).trans hkk)
            rw [HAT.out] at h1; cases h1
        obtain ⟨j, rfl, hj⟩ := kid_some hu2
        obtain ⟨x, g, hcx, hxa, hxn, hpl2⟩ := place_step HP.out hj
        have hjl := (List.getElem?_eq_some_iff.1 hj).1
        have hjli : (j : Int) < (u.kids.length : Int) := by omega
        have x6 := hcx.2.2.2.2.2.2
        rw [hxa, hxn] at x6
        have HP2 := Lib.hid hpl2
        have HTK := Lib.hid (take_snoc hm)
        clear hcx hxa hxn hpl2 hm hu2 hj
        go_wp2
        go_roundg (gk - 1)
        case measure => have := HG.out; omega
        case rel => exact ⟨n + 1, g, j * 7, u2, by have := HG.out; omega, by omega, by go_num, by first | rfl | simp, by rw [HTK.out]; exact HP2.out, rfl⟩
      · obtain rfl : n = p.length := by omega
        have hkl : ((p.length : Int) < (p.length : Int)) = False := by simp
        have HPE : Hid (Place (w3.alloc (cbox d)) (w2.alloc (cbox y)).heap.size w3.heap.size t p b o u) := Lib.hid (by have := HP.out; rw [List.take_length] at this; exact this)
        obtain ⟨q0, q1, q2, q3, q4, q5, q6⟩ := K3.out.cat
        simp only [Nat.zero_add] at q1 q2 q3 q4 q5 q6
        have HF4 := Lib.hid (fresh_any (sz kt) kt k (w3.alloc (cbox d)) (Nat.le_refl _) (HKT.out.up HB3.out))
        go_wp2_with fail
        refine HF4.out.mono ?_
        rintro e w4 ⟨kd, S4, rfl, hown4, -, hb4⟩
        have hend := put_end (rb := w.heap.size + 2) HPE.out hb4 hown4 (by have := HS3.out; simp; omega) (by have := HS3.out; simp; omega) (by have := HZL.out; simp; omega)
        obtain ⟨z, t', hp1, hp2, hp3, hp4⟩ := hend
        have HP1 := Lib.hid hp1
        have HP2 := Lib.hid hp2
        have HP3 := Lib.hid hp3
        have HP4 := Lib.hid hp4
        have HB4 := Lib.hid (HB3.out.trans (hb4.mono HB3.out.size))
        have Z4 := Lib.hid (zero_up Z3.out hb4)
        obtain ⟨x, S, cur, hpa⟩ := HPE.out
        have hbge : (w2.alloc (cbox y)).heap.size ≤ b := hpa.ge
        have hbW := lt_of_block hpa.blk
        obtain ⟨x0, x1, x2, x3, x4, x5, x6⟩ := hpa.cat.up hb4
        have hbk4 : w4.heap[b]? = some (.cells cur 26 (0, 0)) := (hb4.block b hbW).trans hpa.blk
        have f0 := free_of_block hbk4 o
        have f1 := free_of_block hbk4 (o + 1)
        have f2 := free_of_block hbk4 (o + 2)
        have f3 := free_of_block hbk4 (o + 3)
        have f4 := free_of_block hbk4 (o + 4)
        have f5 := free_of_block hbk4 (o + 5)
        have f6 := free_of_block hbk4 (o + 6)
        have HBG : Hid (w.heap.size + 3 ≤ b) := Lib.hid (by have := HZL.out; simp at hbge; omega)
        have ZO : Hid (Zero7 (putO w4 b o kd) (w.heap.size + 2)) := Lib.hid ((putO_other (by have := HBG.out; omega)).trans Z4.out)
        have BO : Hid (Below w.heap.size w (putO w4 b o kd)) := Lib.hid (below_putO HB4.out (by have := HBG.out; omega) o kd)
        clear hp1 hp2 hp3 hp4 hown4 hb4 hpa hbge hbk4 q0 q1 q2 q3 q4 q5 q6
        go_upto_region 12 with (fail)
        change Code.wp _ _ _ _ (putO w4 b o kd)
        generalize putO w4 b o kd = w5 at HP2 HP3 HP4 ZO BO ⊢
        clear x0 x1 x2 x3 x4 x5 x6 f0 f1 f2 f3 f4 f5 f6
        obtain ⟨c0, c1, c2, c3, c4, c5, c6⟩ := HP2.out
        simp only [Nat.zero_add] at c1 c2 c3 c4 c5 c6
        obtain ⟨⟨z0, z1, z2, z3, z4, z5, z6⟩, f0, f1, f2, f3, f4, f5, f6⟩ := zero_parts ZO.out
        go_wp2
        (try simp only [Exit.inBlock, Exit.then])
        refine bodyPost_ret (results_cell2 rfl _ (put7 w5 (w.heap.size + 2) z) (w.heap.size + 2) z rfl ((Box7.of_zero ZO.out).put z)) rfl ?_
        obtain ⟨cs, hcs⟩ := HP4.out
        exact put_some HP1.out rfl HP3.out ⟨cs, hcs.lower (by have := HZL.out; simp; omega)⟩ (below_put7 BO.out (by omega) z)
end Go.Proofs.Ytodcabaihhmhnaa
