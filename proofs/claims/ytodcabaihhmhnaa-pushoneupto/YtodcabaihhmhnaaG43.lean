/- Texts of this seat, 3 in one file. -/
import Derived.Test.YtodcabaihhmhnaaG31
import Derived.Test.YtodcabaihhmhnaaG32
import Derived.Test.YtodcabaihhmhnaaG38
import Derived.Test.YtodcabaihhmhnaaG42
import Derived.Test.YtodcabaihhmhnaaG36
import Derived.Test.YtodcabaihhmhnaaG23
/- A frame in memory: its box; its kids in a row that is written into. No walk. -/
namespace Go.Proofs.Ytodcabaihhmhnaa
open Go.RowKit Sh

/-- Nothing but block g was written. -/
def Mv (g : Nat) (w w' : World) : Prop := w.grownBy w' (some g)
theorem Mv.refl (g : Nat) (w : World) : Mv g w w := ⟨rfl, rfl, rfl, Nat.le_refl _, fun _ _ _ => rfl⟩
theorem Mv.size {g : Nat} {w w' : World} (h : Mv g w w') : w.heap.size ≤ w'.heap.size := World.grownBy.size h
theorem Mv.at {g : Nat} {w w' : World} (h : Mv g w w') (k : Nat) (hk : k < w.heap.size) (hne : k ≠ g) : w'.heap[k]? = w.heap[k]? := World.grownBy.block h k hk (fun e => hne (Option.some.inj e))
theorem Mv.trans {g : Nat} {a b c : World} (h : Mv g a b) (k : Mv g b c) : Mv g a c :=
  ⟨k.os.trans h.os, k.tape.trans h.tape, k.output.trans h.output, Nat.le_trans h.size k.size, fun j hj hne => (k.block j (Nat.lt_of_lt_of_le hj h.size) hne).trans (h.block j hj hne)⟩
theorem Mv.of {g : Nat} {w w' : World} (h : Below w.heap.size w w') : Mv g w w' := ⟨h.os, h.tape, h.output, h.size, fun k hk _ => h.block k hk⟩
theorem Mv.then {g : Nat} {a w w' : World} (h : Mv g a w) (hb : Below w.heap.size w w') : Mv g a w' := h.trans (Mv.of hb)
theorem Mv.low {g : Nat} {w w' : World} (h : Mv g w w') {B : Nat} (hg : B ≤ g) (hB : B ≤ w.heap.size) : Below B w w' :=
  ⟨h.os, h.tape, h.output, h.size, fun k hk => h.at k (by omega) (by omega)⟩
theorem Mv.set {g : Nat} {a w : World} (h : Mv g a w) (i : Nat) (u : Value) : Mv g a (w.setCell ⟨g, i, none⟩ u) :=
  h.trans ⟨rfl, rfl, rfl, by simp [World.setCell], fun k _ hne => Below.heap_setCell w ⟨g, i, none⟩ u k (fun e => hne (by rw [e]))⟩
theorem Mv.putO {g : Nat} {a w : World} (h : Mv g a w) (o : Nat) (y : C) : Mv g a (putO w g o y) :=
  ((((((h.set _ _).set _ _).set _ _).set _ _).set _ _).set _ _).set _ _

/-- A frame, as it lies: its cell, its axis, its path, the place of the cell that is pushed. -/
structure Fm where
  c : C
  ax : Int
  pa : Option Addr
  pn : Nat
  pcap : Nat
  p : Int
abbrev fmval (x : Fm) : Value := .agg #[.int .u8 x.c.k, .int .i64 x.c.r.x, .int .i64 x.c.r.y, .int .i64 x.c.r.w, .int .i64 x.c.r.h, .int .i64 x.c.id, .slice x.c.a x.c.n x.c.cap, .int .u8 x.ax, .slice x.pa x.pn x.pcap, .int .i64 x.p]
abbrev fmbox (x : Fm) : Obj := .cells #[.int .u8 x.c.k, .int .i64 x.c.r.x, .int .i64 x.c.r.y, .int .i64 x.c.r.w, .int .i64 x.c.r.h, .int .i64 x.c.id, .slice x.c.a x.c.n x.c.cap, .int .u8 x.ax, .slice x.pa x.pn x.pcap, .int .i64 x.p] 52
abbrev noFm : Fm := ⟨noC, 0, none, 0, 0, 0⟩
abbrev F10 (b : Nat) (x : Fm) (w : World) : Prop :=
  w.cell? ⟨b, 0, none⟩ = some (.int .u8 x.c.k) ∧ w.cell? ⟨b, 1, none⟩ = some (.int .i64 x.c.r.x) ∧ w.cell? ⟨b, 2, none⟩ = some (.int .i64 x.c.r.y) ∧ w.cell? ⟨b, 3, none⟩ = some (.int .i64 x.c.r.w) ∧ w.cell? ⟨b, 4, none⟩ = some (.int .i64 x.c.r.h) ∧ w.cell? ⟨b, 5, none⟩ = some (.int .i64 x.c.id) ∧ w.cell? ⟨b, 6, none⟩ = some (.slice x.c.a x.c.n x.c.cap) ∧ w.cell? ⟨b, 7, none⟩ = some (.int .u8 x.ax) ∧ w.cell? ⟨b, 8, none⟩ = some (.slice x.pa x.pn x.pcap) ∧ w.cell? ⟨b, 9, none⟩ = some (.int .i64 x.p)
def BoxF (w : World) (b : Nat) (x : Fm) : Prop := w.heap[b]? = some (fmbox x)
theorem BoxF.up {w w' : World} {b : Nat} {x : Fm} (h : BoxF w b x) (hb : Below w.heap.size w w') : BoxF w' b x := (hb.block b (lt_of_block h)).trans h
theorem BoxF.mv {g : Nat} {w w' : World} {b : Nat} {x : Fm} (h : BoxF w b x) (m : Mv g w w') (hne : b ≠ g) : BoxF w' b x := (m.at b (lt_of_block h) hne).trans h
theorem BoxF.new (w : World) (x : Fm) : BoxF (w.alloc (fmbox x)) w.heap.size x := heap_alloc_new w _
theorem BoxF.parts {w : World} {b : Nat} {x : Fm} (h : BoxF w b x) : F10 b x w := by
  have h' : w.heap[b]? = some (fmbox x) := h
  refine ⟨?_, ?_, ?_, ?_, ?_, ?_, ?_, ?_, ?_, ?_⟩ <;> simp [World.cell?, h']
theorem BoxF.free {w : World} {b : Nat} {x : Fm} (h : BoxF w b x) (o : Nat) : w.frozen? ⟨b, o, none⟩ = false := by
  have h' : w.heap[b]? = some (fmbox x) := h
  simp [World.frozen?, h']
theorem BoxF.drew {w : World} {b : Nat} {x : Fm} (h : BoxF w b x) : BoxF w.drew b x := h
abbrev putF (w : World) (b : Nat) (x : Fm) : World := (((put7 w b x.c).setCell ⟨b, 7, none⟩ (.int .u8 x.ax)).setCell ⟨b, 8, none⟩ (.slice x.pa x.pn x.pcap)).setCell ⟨b, 9, none⟩ (.int .i64 x.p)
theorem BoxF.put {w : World} {b : Nat} {x : Fm} (h : BoxF w b x) (y : Fm) : BoxF (putF w b y) b y := by
  have h' : w.heap[b]? = some (fmbox x) := h
  have h1 := set_block (i := 0) h' (.int .u8 y.c.k)
  have h2 := set_block (i := 1) h1 (.int .i64 y.c.r.x)
  have h3 := set_block (i := 2) h2 (.int .i64 y.c.r.y)
  have h4 := set_block (i := 3) h3 (.int .i64 y.c.r.w)
  have h5 := set_block (i := 4) h4 (.int .i64 y.c.r.h)
  have h6 := set_block (i := 5) h5 (.int .i64 y.c.id)
  have h7 := set_block (i := 6) h6 (.slice y.c.a y.c.n y.c.cap)
  have h8 := set_block (i := 7) h7 (.int .u8 y.ax)
  have h9 := set_block (i := 8) h8 (.slice y.pa y.pn y.pcap)
  have h10 := set_block (i := 9) h9 (.int .i64 y.p)
  refine h10.trans ?_
  simp
theorem heap_putF {w : World} {b k : Nat} {x : Fm} (h : k ≠ b) : (putF w b x).heap[k]? = w.heap[k]? := by
  unfold putF
  rw [Below.heap_setCell _ ⟨b, 9, none⟩ _ k h, Below.heap_setCell _ ⟨b, 8, none⟩ _ k h, Below.heap_setCell _ ⟨b, 7, none⟩ _ k h, heap_put7 h]
theorem size_putF (w : World) (b : Nat) (x : Fm) : (putF w b x).heap.size = w.heap.size := by simp [World.setCell]
theorem below_putF {B : Nat} {w w' : World} (h : Below B w w') {b : Nat} (hb : B ≤ b) (x : Fm) : Below B w (putF w' b x) := (((below_put7 h hb _).setCell hb _).setCell hb _).setCell hb _

/-- A kid: it stands as long as the call's blocks do, but for the kids' row. -/
def KSt (W : World) (base kg : Nat) (x : C) (u : T) : Prop := ∀ W' : World, (∀ m, base ≤ m → m < W.heap.size → m ≠ kg → W'.heap[m]? = W.heap[m]?) → Is W' x u
theorem KSt.is {W : World} {base kg : Nat} {x : C} {u : T} (h : KSt W base kg x u) : Is W x u := h W fun _ _ _ _ => rfl
theorem KSt.mv {W W2 : World} {base kg : Nat} {x : C} {u : T} (h : KSt W base kg x u) (m : Mv kg W W2) : KSt W2 base kg x u :=
  fun W' hW => h W' fun k hb hk hne => (hW k hb (Nat.lt_of_lt_of_le hk m.size) hne).trans (m.at k hk hne)
/-- The kids of a frame. -/
structure PK (base kg L cap : Nat) (cs : List C) (l : List T) (W : World) : Prop where
  ge : base ≤ kg
  row : OwnC W base (.slice (some ⟨kg, 0, none⟩) L cap) cs
  len : cs.length = l.length
  ll : l.length = L
  each : ∀ (j : Nat) (x : C) (u : T), cs[j]? = some x → l[j]? = some u → KSt W base kg x u
theorem PK.up {base kg L cap : Nat} {cs : List C} {l : List T} {W W' : World} (h : PK base kg L cap cs l W) (hb : Below W.heap.size W W') : PK base kg L cap cs l W' :=
  ⟨h.ge, h.row.up hb, h.len, h.ll, fun j x u hx hu => (h.each j x u hx hu).mv (Mv.of hb)⟩
theorem PK.lt {base kg L cap : Nat} {cs : List C} {l : List T} {W : World} (h : PK base kg L cap cs l W) : kg < W.heap.size := (own_block h.row rfl).2
theorem PK.cell {base kg L cap : Nat} {cs : List C} {l : List T} {W : World} (h : PK base kg L cap cs l W) {j : Nat} {x : C} (hx : cs[j]? = some x) : CAt W kg (j * 7) x := cat_of_flat (h.row.cells (g := kg) rfl) j x hx
theorem PK.free {base kg L cap : Nat} {cs : List C} {l : List T} {W : World} (h : PK base kg L cap cs l W) (o : Nat) : W.frozen? ⟨kg, o, none⟩ = false := by
  rcases h.row.2 with ⟨h0, -⟩ | ⟨g', cap', cur, h0, hb, hg, -⟩
  · cases h0
  · cases h0; simp [World.frozen?, hg]
/-- One kid is another one. -/
theorem PK.set {base kg L cap lo k : Nat} {cs : List C} {l : List T} {W W2 : World} {y : C} {v : T} (h : PK base kg L cap cs l W) (hb : Below W.heap.size W W2) (hk : k < l.length) (hlo : W.heap.size ≤ lo) (hbase : base ≤ W.heap.size) (hs : Stands (fun _ => True) W2 lo W2.heap.size y v) :
    PK base kg L cap (cs.set k y) (l.set k v) (putO W2 kg (k * 7) y) := by
  have hlt := h.lt
  have h2 := h.up hb
  refine ⟨h.ge, own_put h2.row (by rw [h.len]; exact hk) rfl, by simp [h.len], by simp [h.ll], fun j x u hx hu => ?_⟩
  by_cases hj : k = j
  · subst hj
    rw [List.getElem?_set_self (by rw [h.len]; exact hk)] at hx
    rw [List.getElem?_set_self hk] at hu
    cases hx; cases hu
    intro W' hW
    exact hs W' trivial fun m hm hm2 => (hW m (by omega) (by rw [size_putO]; exact hm2) (by omega)).trans (putO_other (by omega))
  · rw [List.getElem?_set_ne hj] at hx hu
    intro W' hW
    exact h2.each j x u hx hu W' fun m hm hm2 hne => (hW m hm (by rw [size_putO]; exact hm2) hne).trans (putO_other hne)
/-- The cell whose kids they are. -/
theorem PK.is {base kg L cap : Nat} {cs : List C} {l : List T} {W : World} {k id : Int} {r : R} (h : PK base kg L cap cs l W) (hk : 0 ≤ k ∧ k ≤ 255) (hr : r.fits) (hi : fits id) (hL : L ≤ 1000000) : Is W ⟨k, r, id, some ⟨kg, 0, none⟩, L, cap⟩ (.node k r id l) :=
  .mk ⟨k, r, id, some ⟨kg, 0, none⟩, L, cap⟩ l cs h.row.row h.len ⟨hk, hr, hi, by show L ≤ _; omega⟩ fun j x u hx hu => (h.each j x u hx hu).is
/-- A tree of the call's own has such kids. -/
theorem pk_of {w : World} {base : Nat} {d : C} {t : T} {S : List Nat} (h : OwnT w base d t S) (hn : S.Nodup) (h0 : 0 < t.kids.length) : ∃ kg cs, d.a = some ⟨kg, 0, none⟩ ∧ d.n = t.kids.length ∧ (t.k = d.k ∧ t.r = d.r ∧ t.id = d.id) ∧ d.fine ∧ PK base kg t.kids.length d.cap cs t.kids w := by
  obtain ⟨cs, Ss, row, len, slen, fine, e1, e2, e3, rfl, each⟩ := h.cases'
  obtain ⟨kg, cap', hval, hkb, hkl⟩ := row.form (by omega)
  have hxn := h.is.n
  have hxa : d.a = some ⟨kg, 0, none⟩ := by injection hval
  refine ⟨kg, cs, hxa, hxn, ⟨e1, e2, e3⟩, fine, hkb, by rw [hxa, hxn] at row; exact row, len, rfl, fun j x u hx hu => ?_⟩
  have hjl : j < Ss.length := by rw [slen]; exact (List.getElem?_eq_some_iff.1 hu).1
  have hS := List.getElem?_eq_getElem hjl
  have ho := each j x u _ hx hu hS
  intro W' hW
  refine (ho.frame fun m hm => hW m (ho.ge m hm).1 (ho.ge m hm).2 fun e => ?_).is
  subst e
  refine (List.nodup_append.1 hn).2.2 m ?_ m (mem_flat.2 ⟨j, _, hS, hm⟩) rfl
  unfold blk; rw [hxa]; simp [Value.ownBlock]
end Go.Proofs.Ytodcabaihhmhnaa
/- A kid of the frame is adjusted: resize. -/
namespace Go.Proofs.Ytodcabaihhmhnaa
open Go.RowKit Sh

/-- A kid in a box of its own. -/
structure Kb (w : World) (k : Nat) (d : C) (t : T) (W : World) : Prop where
  below : Below w.heap.size w W
  far : w.heap.size ≤ k
  box : Box7 W k d
  is : Is W d t
theorem kb_put {w W W4 : World} {k : Nat} {d : C} {t : T} {S : List Nat} (h : Below w.heap.size w W) (hz : ZL w W k) (hz4 : ZL w W4 k) (ho : OwnT W W4.heap.size d t S) : Kb w k d t (put7 W k d) :=
  ⟨below_put7 h hz.2 d, hz.2, (Box7.of_zero hz.1).put d, (ho.frame fun m hm => heap_put7 (by have := (ho.ge m hm).1; have := lt_of_block hz4.1; omega)).is⟩
theorem kb_new {w W : World} {n : Nat} {d : C} {t : T} {S : List Nat} (h : Below w.heap.size w W) (ho : OwnT W n d t S) : Kb w W.heap.size d t (W.alloc (cbox d)) :=
  ⟨bl_al h _, h.size, Box7.new W d, ho.is.up ((Below.refl _ _).alloc (Nat.le_refl _) _)⟩

def RzSays (base kg L cap : Nat) (l' : List T) (w : World) (e : Ending) (w' : World) : Prop :=
  e = .returned (.tuple #[]) ∧ Mv kg w w' ∧ ∃ cs', PK base kg L cap cs' l' w'

/-- What is read in the first statement, in the second. -/
def RzA (fb kg o L cap : Nat) (x y : Int) (u : C) (W : World) : Prop :=
  (W.cell? ⟨fb, 6, none⟩ = some (.slice (some ⟨kg, 0, none⟩) L cap) ∧ W.cell? ⟨fb, 1, none⟩ = some (.int .i64 x) ∧ W.cell? ⟨fb, 2, none⟩ = some (.int .i64 y)) ∧ W.cell? ⟨kg, o, none⟩ = some (.int .u8 u.k) ∧ W.cell? ⟨kg, o + 1, none⟩ = some (.int .i64 u.r.x) ∧ W.cell? ⟨kg, o + 2, none⟩ = some (.int .i64 u.r.y) ∧ W.cell? ⟨kg, o + 3, none⟩ = some (.int .i64 u.r.w) ∧ W.cell? ⟨kg, o + 4, none⟩ = some (.int .i64 u.r.h) ∧ W.cell? ⟨kg, o + 5, none⟩ = some (.int .i64 u.id) ∧ W.cell? ⟨kg, o + 6, none⟩ = some (.slice u.a u.n u.cap)

set_option maxHeartbeats 2000000 in
set_option maxRecDepth 100000 in
theorem resize_any (x : Fm) (base kg L cap k : Nat) (b : Int) (cs : List C) (l : List T) (u : T) (w : World) (hk : PK base kg L cap cs l w) (hxa : x.c.a = some ⟨kg, 0, none⟩) (hxn : x.c.n = L) (hxc : x.c.cap = cap) (hu : l[k]? = some u) (hL : L ≤ 1000000) (hxf : x.c.fine) (hs : sz u ≤ 990) (hbf : fits b)
    (haj : ajE x.ax b (setT x.c.r.x x.c.r.y u) = 0) (haT : ajT x.ax b (setT x.c.r.x x.c.r.y u) = rsT x.c.r.x x.c.r.y x.ax b u) (hbase : base ≤ w.heap.size) :
    Calls Try.prog 55 #[fmval x, .int .i64 (k : Int), .int .i64 b] w (RzSays base kg L cap (rsL x.c.r.x x.c.r.y x.ax b k l) w) := by
  obtain ⟨⟨fk, fr, fid, fa, fn, fcap⟩, ax, pa, pn, pcap, p⟩ := x
  simp only at hxa hxn hxc hxf haj haT
  subst hxa hxn hxc
  have hkl := (List.getElem?_eq_some_iff.1 hu).1
  have hll := hk.ll
  have hcl := hk.len
  obtain ⟨uc, huc⟩ : ∃ y, cs[k]? = some y := ⟨_, List.getElem?_eq_getElem (by omega)⟩
  have B1 : Below w.heap.size w (w.alloc (fmbox ⟨⟨fk, fr, fid, some ⟨kg, 0, none⟩, fn, fcap⟩, ax, pa, pn, pcap, p⟩)) := (Below.refl _ _).alloc (Nat.le_refl _) _
  have P1 := Lib.hid (hk.up B1)
  have F1 := Lib.hid (BoxF.new w ⟨⟨fk, fr, fid, some ⟨kg, 0, none⟩, fn, fcap⟩, ax, pa, pn, pcap, p⟩)
  have BB := Lib.hid B1
  have HIU := Lib.hid ((hk.each k uc u huc hu).is.up B1)
  have HXF := Lib.hid hxf
  have HS := Lib.hid hs
  have HLT : Hid (w.heap.size < (w.alloc (fmbox ⟨⟨fk, fr, fid, some ⟨kg, 0, none⟩, fn, fcap⟩, ax, pa, pn, pcap, p⟩)).heap.size) := Lib.hid (by simp)
  have HKW := Lib.hid hk.lt
  have HBASE := Lib.hid hbase
  have HU := Lib.hid hu
  have HKL := Lib.hid hkl
  have HUC := Lib.hid huc
  have hki : (k : Int) < (fn : Int) := by omega
  have hki0 : (0 : Int) ≤ (k : Int) := by omega
  have HREL : Hid (rsL fr.x fr.y ax b k l = l.set k (rsT fr.x fr.y ax b u)) := Lib.hid (rsL_at hu)
  have hadj : ∀ (d : C) (W : World), Is W d (setT fr.x fr.y u) → Calls Try.prog 69 #[cval d, .int .u8 ax, .int .i64 b] W fun e w' => ∃ d', e = .returned (.tuple #[cval d', .int .i64 0]) ∧ Stands (fun _ => True) w' W.heap.size w'.heap.size d' (rsT fr.x fr.y ax b u) ∧ Below W.heap.size W w' := fun d W hI => by
    refine (adjust_any (setT fr.x fr.y u) d ax b W (by rw [setT_sz]; exact hs) hI hbf).mono ?_
    rintro e w' ⟨d', he, hst, hb⟩
    rw [haj] at he hst
    rw [if_pos rfl, haT] at hst
    exact ⟨d', he, hst, hb⟩
  have HADJ := Lib.hid hadj
  clear hadj haj haT hk hu huc hs hbf hxf hkl hll hcl hbase B1
  go_enter Try.func55, Try.ntmps55
  go_wp2_with fail
  change Code.wp _ _ _ _ (w.alloc (fmbox ⟨⟨fk, fr, fid, some ⟨kg, 0, none⟩, fn, fcap⟩, ax, pa, pn, pcap, p⟩))
  generalize w.alloc (fmbox ⟨⟨fk, fr, fid, some ⟨kg, 0, none⟩, fn, fcap⟩, ax, pa, pn, pcap, p⟩) = w2 at P1 F1 BB HIU HLT ⊢
  have HX1 : Hid (∀ W, Below w2.heap.size w2 W → RzA w.heap.size kg (k * 7) fn fcap fr.x fr.y uc W) := Lib.hid fun W hb => by
    obtain ⟨-, a1, a2, -, -, -, a6, -⟩ := (F1.out.up hb).parts
    obtain ⟨q0, q1, q2, q3, q4, q5, q6⟩ := (P1.out.up hb).cell HUC.out
    exact ⟨⟨a6, a1, a2⟩, q0, q1, q2, q3, q4, q5, q6⟩
  have HSET := Lib.hid (fun (W : World) (hb : Below w2.heap.size w2 W) => set_any (sz u) u uc fr.x fr.y W (Nat.le_refl _) HXF.out.2.1.1 HXF.out.2.1.2.1 (HIU.out.up hb))
  have D0 : Hid (Below w2.heap.size w2 w2.drew) := Lib.hid (Below.refl _ _).drew
  have Dz : Hid (Below w2.heap.size w2 (w2.alloc zeroBox).drew) := Lib.hid (bl_al (Below.refl _ _) _).drew
  have Dy : Hid (Below w2.heap.size w2 (w2.drew.alloc zeroBox)) := Lib.hid (bl_al D0.out _)
  have ZZ : Hid (ZL w2 (w2.alloc zeroBox).drew w2.heap.size) := Lib.hid (zl_drew (Below.refl _ _))
  have ZY : Hid (ZL w2 (w2.drew.alloc zeroBox) w2.drew.heap.size) := Lib.hid (zl_new D0.out)
  go_wp2_with fail
  go_region_held3 (fun W => (W.cell? ⟨w.heap.size, 6, none⟩ = some (.slice (some ⟨kg, 0, none⟩) fn fcap) ∧ W.cell? ⟨w.heap.size, 1, none⟩ = some (.int .i64 fr.x) ∧ W.cell? ⟨w.heap.size, 2, none⟩ = some (.int .i64 fr.y)) ∧ W.cell? ⟨kg, k * 7, none⟩ = some (.int .u8 uc.k) ∧ W.cell? ⟨kg, k * 7 + 1, none⟩ = some (.int .i64 uc.r.x) ∧ W.cell? ⟨kg, k * 7 + 2, none⟩ = some (.int .i64 uc.r.y) ∧ W.cell? ⟨kg, k * 7 + 3, none⟩ = some (.int .i64 uc.r.w) ∧ W.cell? ⟨kg, k * 7 + 4, none⟩ = some (.int .i64 uc.r.h) ∧ W.cell? ⟨kg, k * 7 + 5, none⟩ = some (.int .i64 uc.id) ∧ W.cell? ⟨kg, k * 7 + 6, none⟩ = some (.slice uc.a uc.n uc.cap)) (exact HX1.out _ (by first | with_reducible exact D0.out | with_reducible exact Dz.out | with_reducible exact Dy.out | with_reducible exact L5.out | with_reducible exact bl_al L5.out _ | with_reducible exact P5.out))
    (first
      | (go_at_call 25; (with_reducible refine (HSET.out _ (by first | with_reducible exact D0.out | with_reducible exact Dz.out | with_reducible exact Dy.out)).mono ?_); rintro e w5 ⟨d5, S5, rfl, hown5, -, hb5⟩; have L5 := Lib.hid (bl_up (by first | with_reducible exact D0.out | with_reducible exact Dz.out | with_reducible exact Dy.out) hb5); have O5 := Lib.hid hown5; (first | ((with_reducible have Z5 := Lib.hid (ZZ.out.up hb5)); have ZM := Lib.hid ZZ.out; have P5 := Lib.hid (below_put7 L5.out Z5.out.2 d5); obtain ⟨⟨z0, z1, z2, z3, z4, z5, z6⟩, f0, f1, f2, f3, f4, f5, f6⟩ := zero_parts Z5.out.1) | ((with_reducible have Z5 := Lib.hid (ZY.out.up hb5)); have ZM := Lib.hid ZY.out; have P5 := Lib.hid (below_put7 L5.out Z5.out.2 d5); obtain ⟨⟨z0, z1, z2, z3, z4, z5, z6⟩, f0, f1, f2, f3, f4, f5, f6⟩ := zero_parts Z5.out.1) | ((with_reducible have Z5 := Lib.hid ((zl_new L5.out))); have N5 := Lib.hid True.intro)); clear hown5 hb5))
  all_goals (rename_i hh9; clear hh9)
  all_goals first
    | (have P0 := Lib.hid (kb_put L5.out Z5.out ZM.out O5.out); change Exit.then _ _ _ _ (put7 w5 _ d5); generalize put7 w5 _ d5 = w8 at P0 ⊢; (with_reducible have P : Hid (Kb w2 w2.heap.size d5 (setT fr.x fr.y u) w8) := P0); clear P0; generalize w2.heap.size = bk at P ⊢)
    | (have P := Lib.hid (kb_new L5.out O5.out); generalize w5.alloc (cbox d5) = w8 at P ⊢; generalize w5.heap.size = bk at P ⊢)
  all_goals (try clear z0 z1 z2 z3 z4 z5 z6 f0 f1 f2 f3 f4 f5 f6)
  all_goals (try clear L5 O5 Z5 ZM P5)
  all_goals (try clear L5 O5 Z5 N5)
  all_goals
    clear HX1 HSET D0 Dz Dy ZZ ZY HIU HS
    have HX2 : Hid (∀ W, W.heap[w.heap.size]? = w8.heap[w.heap.size]? → W.heap[bk]? = w8.heap[bk]? → (W.cell? ⟨w.heap.size, 6, none⟩ = some (.slice (some ⟨kg, 0, none⟩) fn fcap) ∧ W.cell? ⟨w.heap.size, 7, none⟩ = some (.int .u8 ax)) ∧ C7 bk d5 W) := Lib.hid fun W hf hb => by
      have F8 := F1.out.up P.out.below
      obtain ⟨-, -, -, -, -, -, a6, a7, -, -⟩ := BoxF.parts (show BoxF W w.heap.size ⟨⟨fk, fr, fid, some ⟨kg, 0, none⟩, fn, fcap⟩, ax, pa, pn, pcap, p⟩ from hf.trans F8)
      exact ⟨⟨a6, a7⟩, c7_of (show Box7 W bk d5 from hb.trans P.out.box).cat⟩
    have X8 := Lib.hid (HX2.out w8.drew rfl rfl)
    have I8 : Hid (Is w8.drew d5 (setT fr.x fr.y u)) := Lib.hid (P.out.is.up (Below.refl _ _).drew)
    have D8 : Hid (Below w2.heap.size w2 w8.drew) := Lib.hid P.out.below.drew
    have HN1 : Hid (kg ≠ w.heap.size ∧ kg ≠ bk ∧ kg < w2.heap.size ∧ w.heap.size < w8.heap.size ∧ bk < w8.heap.size) := Lib.hid (by
      have h1 := HKW.out
      have h2 := HLT.out
      have h3 := P.out.far
      have h4 := P.out.below.size
      have h5 := lt_of_block P.out.box
      omega)
    go_wp2_with fail
    go_region_held3 (fun W => (W.cell? ⟨w.heap.size, 6, none⟩ = some (.slice (some ⟨kg, 0, none⟩) fn fcap) ∧ W.cell? ⟨w.heap.size, 7, none⟩ = some (.int .u8 ax)) ∧ W.cell? ⟨bk, 0, none⟩ = some (.int .u8 d5.k) ∧ W.cell? ⟨bk, 1, none⟩ = some (.int .i64 d5.r.x) ∧ W.cell? ⟨bk, 2, none⟩ = some (.int .i64 d5.r.y) ∧ W.cell? ⟨bk, 3, none⟩ = some (.int .i64 d5.r.w) ∧ W.cell? ⟨bk, 4, none⟩ = some (.int .i64 d5.r.h) ∧ W.cell? ⟨bk, 5, none⟩ = some (.int .i64 d5.id) ∧ W.cell? ⟨bk, 6, none⟩ = some (.slice d5.a d5.n d5.cap)) (first | with_reducible exact X8.out | with_reducible exact X6.out | with_reducible exact X7.out)
      (first
        | (go_at_call 69; (with_reducible refine (HADJ.out d5 _ I8.out).mono ?_); rintro e w6 ⟨d6, rfl, hst6, hb6⟩; have B6 := Lib.hid (bl_up D8.out hb6); have ST6 := Lib.hid hst6; have X6 := Lib.hid (HX2.out w6 (hb6.block _ HN1.out.2.2.2.1) (hb6.block _ HN1.out.2.2.2.2)); have X7 := Lib.hid (HX2.out (putO w6 kg (k * 7) d6) ((putO_other HN1.out.1.symm).trans (hb6.block _ HN1.out.2.2.2.1)) ((putO_other HN1.out.2.1.symm).trans (hb6.block _ HN1.out.2.2.2.2))); have P6 := Lib.hid (P1.out.up B6.out); obtain ⟨x0, x1, x2, x3, x4, x5, x6⟩ := P6.out.cell HUC.out; have f0 := P6.out.free (k * 7); have f1 := P6.out.free (k * 7 + 1); have f2 := P6.out.free (k * 7 + 2); have f3 := P6.out.free (k * 7 + 3); have f4 := P6.out.free (k * 7 + 4); have f5 := P6.out.free (k * 7 + 5); have f6 := P6.out.free (k * 7 + 6); clear hst6 hb6))
    rename_i hh9
    clear hh9
    change bodyPost _ _ _ _ _ (putO w6 kg (k * 7) d6)
    have FIN : Hid (Mv kg w (putO w6 kg (k * 7) d6) ∧ ∃ cs', PK base kg fn fcap cs' (rsL fr.x fr.y ax b k l) (putO w6 kg (k * 7) d6)) := Lib.hid (by
      rw [HREL.out]
      refine ⟨((Mv.of BB.out).then B6.out).putO (k * 7) d6, _, P1.out.set B6.out HKL.out ?_ (Nat.le_trans HBASE.out (Nat.le_of_lt HLT.out)) ST6.out⟩
      exact P.out.below.size)
    generalize putO w6 kg (k * 7) d6 = w9 at FIN ⊢
    clear x0 x1 x2 x3 x4 x5 x6 f0 f1 f2 f3 f4 f5 f6
    go_end0
    exact ⟨rfl, FIN.out⟩
end Go.Proofs.Ytodcabaihhmhnaa
/- Some kids give to another one: give. -/
namespace Go.Proofs.Ytodcabaihhmhnaa
open Go.RowKit Sh

/-- Numbers of kids. -/
def natL (l : List Nat) : List Int := l.map fun (k : Nat) => (k : Int)
theorem natL_len (l : List Nat) : (natL l).length = l.length := by simp [natL]
theorem gvP_yes {x y ax m n : Int} {q k : Nat} {ks : List Nat} {l : List T} (h : gmN ax m k l = n) (h0 : 0 < n) : gvP x y ax q (k :: ks) l m = gvP x y ax q ks (rsL x y ax n q (rsL x y ax (-n) k l)) (m - n) := by
  subst h; rw [gvP, if_pos h0]
theorem gvP_no {x y ax m : Int} {q k : Nat} {ks : List Nat} {l : List T} (h : ¬ 0 < gmN ax m k l) : gvP x y ax q (k :: ks) l m = gvP x y ax q ks l m := by rw [gvP, if_neg h]
theorem row_mv {kg : Nat} {w w' : World} {a : Option Addr} {n cap b o j : Nat} {v : Value} (m : Mv kg w w') (hb : b ≠ kg) (h : w.cell? ⟨b, o + j, none⟩ = some v) (_ : a = some ⟨b, o, none⟩) (_ : n = n) (_ : cap = cap) : w'.cell? ⟨b, o + j, none⟩ = some v :=
  (World.cell?_of_block (a := ⟨b, o + j, none⟩) (m.at b (lt_of_cell h) hb)).trans h

def GiSays (base kg L cap : Nat) (r : List T × Int) (m : Int) (w : World) (e : Ending) (w' : World) : Prop :=
  e = .returned (.int .i64 (m - r.2)) ∧ Mv kg w w' ∧ ∃ cs', PK base kg L cap cs' r.1 w'

set_option maxHeartbeats 4000000 in
set_option maxRecDepth 100000 in
theorem give_any (x : Fm) (base kg L cap q N : Nat) (gl : List Nat) (ga : Option Addr) (gcap : Nat) (m W0 cr : Int) (cs : List C) (l : List T) (w : World) (hk : PK base kg L cap cs l w) (hxa : x.c.a = some ⟨kg, 0, none⟩) (hxn : x.c.n = L) (hxc : x.c.cap = cap) (hL : L ≤ 1000000) (hxf : x.c.fine) (hax : x.ax = 1 ∨ x.ax = 2)
    (hinv : PpInv x.ax W0 cr N L l) (hrm : Rm x.c.r.x x.c.r.y x.ax W0 cr) (hw0 : W0 ≤ 10000) (hgl : ∀ k ∈ gl, k < L ∧ k ≠ q) (hql : q < L) (hgn : gl.length ≤ 1000000) (hrow : Row w (.slice ga gl.length gcap) (ints (natL gl))) (hfar : ∀ b o, ga = some ⟨b, o, none⟩ → b ≠ kg) (hm : 0 ≤ m) (hm2 : fits m) (hbase : base ≤ w.heap.size) :
    Calls Try.prog 40 #[fmval x, .slice ga gl.length gcap, .int .i64 (q : Int), .int .i64 m] w (GiSays base kg L cap (gvP x.c.r.x x.c.r.y x.ax q gl l m) m w) := by
  obtain ⟨⟨fk, fr, fid, fa, fn, fcap⟩, ax, pa, pn, pcap, p⟩ := x
  simp only at hxa hxn hxc hxf hax hinv hrm
  subst hxa hxn hxc
  have B1 : Below w.heap.size w (w.alloc (fmbox ⟨⟨fk, fr, fid, some ⟨kg, 0, none⟩, fn, fcap⟩, ax, pa, pn, pcap, p⟩)) := (Below.refl _ _).alloc (Nat.le_refl _) _
  have P1 := Lib.hid (hk.up B1)
  have F1 := Lib.hid (BoxF.new w ⟨⟨fk, fr, fid, some ⟨kg, 0, none⟩, fn, fcap⟩, ax, pa, pn, pcap, p⟩)
  have BB := Lib.hid B1
  have HLT : Hid (w.heap.size < (w.alloc (fmbox ⟨⟨fk, fr, fid, some ⟨kg, 0, none⟩, fn, fcap⟩, ax, pa, pn, pcap, p⟩)).heap.size) := Lib.hid (by simp)
  have HKW := Lib.hid hk.lt
  have HXF := Lib.hid hxf
  have HAX := Lib.hid hax
  have HRM := Lib.hid hrm
  have HGL := Lib.hid hgl
  have HBASE := Lib.hid hbase
  have HINV := Lib.hid hinv
  have hrow2 := hrow.up B1
  have hfits := hm2
  unfold fits at hfits
  have HFITS := Lib.hid hfits
  clear hk hxf hax hinv hrm hgl B1 hbase hrow hm2
  have w1 : IntKind.i64.wrap m = m := wrap_id (by omega)
  go_enter Try.func40, Try.ntmps40
  go_upto_region 1 with (fail)
  change Code.wp _ _ _ _ (w.alloc (fmbox ⟨⟨fk, fr, fid, some ⟨kg, 0, none⟩, fn, fcap⟩, ax, pa, pn, pcap, p⟩))
  generalize w.alloc (fmbox ⟨⟨fk, fr, fid, some ⟨kg, 0, none⟩, fn, fcap⟩, ax, pa, pn, pcap, p⟩) = w2 at P1 F1 BB HLT hrow2 ⊢
  have HR := Lib.hid hrow2
  clear hrow2
  go_wp2
  go_loopg [9, 16] (gl.length + 1) (fun g lf i wr => ∃ (j : Nat) (cs' : List C) (l' : List T) (m' : Int), g + j = gl.length + 1 ∧ j ≤ gl.length ∧ i = .int .i64 j ∧ lf = .int .i64 m' ∧ Mv kg w2 wr ∧ PK base kg fn fcap cs' l' wr ∧ PpInv ax W0 cr N fn l' ∧ 0 ≤ m' ∧ m' ≤ m ∧ gvP fr.x fr.y ax q (gl.drop j) l' m' = gvP fr.x fr.y ax q gl l m)
  case atStart => exact ⟨0, cs, l, m, by omega, by omega, rfl, rfl, Mv.refl _ _, P1.out, HINV.out, hm, Int.le_refl _, rfl⟩
  case round =>
    obtain ⟨j, cs', l', m', hg, hj, rfl, rfl, hmv, hpk, hpi, h0, hmm, heq⟩ := hrel
    have HG := Lib.hid hg
    have HM := Lib.hid hmv
    have HP := Lib.hid hpk
    have HI := Lib.hid hpi
    have HE := Lib.hid heq
    have HF : Hid (BoxF wr w.heap.size ⟨⟨fk, fr, fid, some ⟨kg, 0, none⟩, fn, fcap⟩, ax, pa, pn, pcap, p⟩) := Lib.hid (F1.out.mv hmv (by have := HKW.out; omega))
    clear hg hmv hpk hpi heq
    by_cases hlt : j < gl.length
    · have hlti : (j : Int) < (gl.length : Int) := by omega
      obtain ⟨k, hk⟩ : ∃ k, gl[j]? = some k := ⟨_, List.getElem?_eq_getElem hlt⟩
      obtain ⟨gb, go, rfl, hf⟩ := int_at HR.out (by rw [natL_len]; omega)
      have hfb := hfar gb go rfl
      have hc := hf j (k : Int) (by unfold natL; rw [List.getElem?_map, hk]; rfl)
      have p0 : wr.cell? ⟨gb, go + j, none⟩ = some (.int .i64 (k : Int)) := (World.cell?_of_block (a := ⟨gb, go + j, none⟩) (HM.out.at gb (lt_of_cell hc) hfb)).trans hc
      have hkq := HGL.out k (List.mem_of_getElem? hk)
      have hdrop : gl.drop j = k :: gl.drop (j + 1) := by rw [List.drop_eq_getElem_cons hlt, (List.getElem?_eq_some_iff.1 hk).2]
      obtain ⟨u, hu⟩ : ∃ u, l'[k]? = some u := ⟨_, List.getElem?_eq_getElem (by rw [HP.out.ll]; exact hkq.1)⟩
      obtain ⟨v, hv⟩ : ∃ v, l'[q]? = some v := ⟨_, List.getElem?_eq_getElem (by rw [HP.out.ll]; exact hql)⟩
      obtain ⟨uc, huc⟩ : ∃ y, cs'[k]? = some y := ⟨_, List.getElem?_eq_getElem (by rw [HP.out.len, HP.out.ll]; exact hkq.1)⟩
      have hki : (k : Int) < (fn : Int) := by have := hkq.1; omega
      have hki0 : (0 : Int) ≤ (k : Int) := by omega
      have hus := HI.out.kids k u hu
      have hub := gv_bounds HAX.out (by omega) hus.1
      have hgm : gmN ax m' k l' = min (gvT ax u) m' := by unfold gmN; rw [getD_at hu]
      have HU := Lib.hid hu
      have HV := Lib.hid hv
      have HUC := Lib.hid huc
      have HUS := Lib.hid hus
      have HDR := Lib.hid hdrop
      have HGM := Lib.hid hgm
      have HKQ := Lib.hid hkq
      have HGI := Lib.hid (fun (W : World) (h : Below wr.heap.size wr W) => giv_any u uc ax W ((HP.out.each k uc u huc hu).is.up h) (fun _ => by omega))
      rw [gi_yes hus.1 ((axB_iff ax).2 HAX.out)] at HGI
      clear hf hc hk hu hv huc hus hdrop hgm hfb
      go_wp2_with fail
      have HX : Hid (∀ W, Below wr.heap.size wr W → (W.cell? ⟨w.heap.size, 6, none⟩ = some (.slice (some ⟨kg, 0, none⟩) fn fcap) ∧ W.cell? ⟨w.heap.size, 7, none⟩ = some (.int .u8 ax)) ∧ W.cell? ⟨kg, k * 7, none⟩ = some (.int .u8 uc.k) ∧ W.cell? ⟨kg, k * 7 + 1, none⟩ = some (.int .i64 uc.r.x) ∧ W.cell? ⟨kg, k * 7 + 2, none⟩ = some (.int .i64 uc.r.y) ∧ W.cell? ⟨kg, k * 7 + 3, none⟩ = some (.int .i64 uc.r.w) ∧ W.cell? ⟨kg, k * 7 + 4, none⟩ = some (.int .i64 uc.r.h) ∧ W.cell? ⟨kg, k * 7 + 5, none⟩ = some (.int .i64 uc.id) ∧ W.cell? ⟨kg, k * 7 + 6, none⟩ = some (.slice uc.a uc.n uc.cap)) := Lib.hid fun W hb => by
        obtain ⟨-, -, -, -, -, -, a6, a7, -, -⟩ := (HF.out.up hb).parts
        obtain ⟨q0, q1, q2, q3, q4, q5, q6⟩ := (HP.out.up hb).cell HUC.out
        exact ⟨⟨a6, a7⟩, q0, q1, q2, q3, q4, q5, q6⟩
      have D0 : Hid (Below wr.heap.size wr wr.drew) := Lib.hid (Below.refl _ _).drew
      by_cases hpos : 0 < min (gvT ax u) m'
      · obtain ⟨n, hn⟩ : ∃ n, min (gvT ax u) m' = n := ⟨_, rfl⟩
        rw [hn] at hpos HGM
        have d1 : decide (0 < n) = true := decide_eq_true hpos
        have hnb : n ≤ gvT ax u ∧ n ≤ m' := by omega
        have hwn : IntKind.i64.wrap (-n) = -n := wrap_id (by omega)
        have hwm : IntKind.i64.wrap (m' - n) = m' - n := wrap_id (by have := HFITS.out; omega)
        have HMV := Lib.hid (mvP_inv HAX.out HRM.out HI.out hw0 HU.out HV.out HKQ.out.2 (by omega) hnb.1)
        have hs1 := rsT_is HAX.out HRM.out HI.out HU.out HMV.out.1 (Int.le_refl _) (by omega)
        have hs2 := rsT_is HAX.out HRM.out HMV.out.2.1 HMV.out.2.2.1 HMV.out.2.2.2.1 (by omega) (by omega)
        have hvs := HI.out.kids q v HV.out
        have HR1 := Lib.hid (fun (W : World) (h : PK base kg fn fcap cs' l' W) (hb : base ≤ W.heap.size) => resize_any ⟨⟨fk, fr, fid, some ⟨kg, 0, none⟩, fn, fcap⟩, ax, pa, pn, pcap, p⟩ base kg fn fcap k (-n) cs' l' u W h rfl rfl rfl HU.out hL HXF.out HUS.out.2.1 (show fits (-n) by unfold fits; omega) hs1.2.1 hs1.2.2.1 hb)
        have HR2 := Lib.hid (fun (cs2 : List C) (W : World) (h : PK base kg fn fcap cs2 (rsL fr.x fr.y ax (-n) k l') W) (hb : base ≤ W.heap.size) => resize_any ⟨⟨fk, fr, fid, some ⟨kg, 0, none⟩, fn, fcap⟩, ax, pa, pn, pcap, p⟩ base kg fn fcap q n cs2 (rsL fr.x fr.y ax (-n) k l') v W h rfl rfl rfl HMV.out.2.2.1 hL HXF.out hvs.2.1 (show fits n by unfold fits; omega) hs2.2.1 hs2.2.2.1 hb)
        have HE2 : Hid (gvP fr.x fr.y ax q (gl.drop (j + 1)) (rsL fr.x fr.y ax n q (rsL fr.x fr.y ax (-n) k l')) (m' - n) = gvP fr.x fr.y ax q gl l m) := Lib.hid (by
          have h := HE.out
          rw [HDR.out, gvP_yes HGM.out hpos] at h
          exact h)
        have HB0 : Hid (base ≤ wr.heap.size) := Lib.hid (Nat.le_trans HBASE.out (Nat.le_trans (Nat.le_of_lt HLT.out) HM.out.size))
        clear hs1 hs2 hvs
        go_region_held3 (fun W => (W.cell? ⟨w.heap.size, 6, none⟩ = some (.slice (some ⟨kg, 0, none⟩) fn fcap) ∧ W.cell? ⟨w.heap.size, 7, none⟩ = some (.int .u8 ax)) ∧ W.cell? ⟨kg, k * 7, none⟩ = some (.int .u8 uc.k) ∧ W.cell? ⟨kg, k * 7 + 1, none⟩ = some (.int .i64 uc.r.x) ∧ W.cell? ⟨kg, k * 7 + 2, none⟩ = some (.int .i64 uc.r.y) ∧ W.cell? ⟨kg, k * 7 + 3, none⟩ = some (.int .i64 uc.r.w) ∧ W.cell? ⟨kg, k * 7 + 4, none⟩ = some (.int .i64 uc.r.h) ∧ W.cell? ⟨kg, k * 7 + 5, none⟩ = some (.int .i64 uc.id) ∧ W.cell? ⟨kg, k * 7 + 6, none⟩ = some (.slice uc.a uc.n uc.cap)) (exact HX.out _ (by first | with_reducible exact D0.out | with_reducible exact L4.out))
          (first
            | (go_at_call 38; (with_reducible refine (HGI.out _ D0.out).mono ?_); rintro e w4 ⟨rfl, hb4⟩; have L4 := Lib.hid (bl_up D0.out hb4); clear hb4))
        rename_i hh9
        clear hh9
        have P4 := Lib.hid (HP.out.up L4.out)
        have F4 := Lib.hid (HF.out.up L4.out)
        have M4 := Lib.hid (HM.out.then L4.out)
        have B4 := Lib.hid (Nat.le_trans HB0.out L4.out.size)
        clear HX D0 HGI
        obtain ⟨a0, a1, a2, a3, a4, a5, a6, a7, a8, a9⟩ := F4.out.parts
        go_wp2_with fail
        refine (HR1.out w4 P4.out B4.out).mono ?_
        rintro e w5 ⟨rfl, hm5, cs5, hp5⟩
        have P5 := Lib.hid hp5
        have F5 := Lib.hid (F4.out.mv hm5 (by have := HKW.out; omega))
        have M5 := Lib.hid (M4.out.trans hm5)
        have B5 := Lib.hid (Nat.le_trans B4.out hm5.size)
        clear hm5 hp5 a0 a1 a2 a3 a4 a5 a6 a7 a8 a9
        obtain ⟨a0, a1, a2, a3, a4, a5, a6, a7, a8, a9⟩ := F5.out.parts
        go_wp2_with fail
        refine (HR2.out cs5 w5 P5.out B5.out).mono ?_
        rintro e w6 ⟨rfl, hm6, cs6, hp6⟩
        have P6 := Lib.hid hp6
        have M6 := Lib.hid (M5.out.trans hm6)
        clear hm6 hp6 a0 a1 a2 a3 a4 a5 a6 a7 a8 a9
        go_wp2
        go_roundg (gk - 1)
        case measure => have := HG.out; omega
        case rel => exact ⟨j + 1, cs6, _, m' - n, by have := HG.out; omega, by omega, by go_num, by first | rfl | (rw [hwm]), M6.out, P6.out, HMV.out.2.2.2.2, by omega, by omega, HE2.out⟩
      · obtain ⟨n, hn⟩ : ∃ n, min (gvT ax u) m' = n := ⟨_, rfl⟩
        rw [hn] at hpos HGM
        have d1 : decide (0 < n) = false := decide_eq_false hpos
        have HE2 : Hid (gvP fr.x fr.y ax q (gl.drop (j + 1)) l' m' = gvP fr.x fr.y ax q gl l m) := Lib.hid (by
          have h := HE.out
          rw [HDR.out, gvP_no (by rw [HGM.out]; exact hpos)] at h
          exact h)
        go_region_held3 (fun W => (W.cell? ⟨w.heap.size, 6, none⟩ = some (.slice (some ⟨kg, 0, none⟩) fn fcap) ∧ W.cell? ⟨w.heap.size, 7, none⟩ = some (.int .u8 ax)) ∧ W.cell? ⟨kg, k * 7, none⟩ = some (.int .u8 uc.k) ∧ W.cell? ⟨kg, k * 7 + 1, none⟩ = some (.int .i64 uc.r.x) ∧ W.cell? ⟨kg, k * 7 + 2, none⟩ = some (.int .i64 uc.r.y) ∧ W.cell? ⟨kg, k * 7 + 3, none⟩ = some (.int .i64 uc.r.w) ∧ W.cell? ⟨kg, k * 7 + 4, none⟩ = some (.int .i64 uc.r.h) ∧ W.cell? ⟨kg, k * 7 + 5, none⟩ = some (.int .i64 uc.id) ∧ W.cell? ⟨kg, k * 7 + 6, none⟩ = some (.slice uc.a uc.n uc.cap)) (exact HX.out _ (by first | with_reducible exact D0.out | with_reducible exact L4.out))
          (first
            | (go_at_call 38; (with_reducible refine (HGI.out _ D0.out).mono ?_); rintro e w4 ⟨rfl, hb4⟩; have L4 := Lib.hid (bl_up D0.out hb4); clear hb4))
        rename_i hh9
        clear hh9
        have P4 := Lib.hid (HP.out.up L4.out)
        have M4 := Lib.hid (HM.out.then L4.out)
        clear HX D0 HGI
        go_wp2
        go_roundg (gk - 1)
        case measure => have := HG.out; omega
        case rel => exact ⟨j + 1, cs', l', m', by have := HG.out; omega, by omega, by go_num, rfl, M4.out, P4.out, HI.out, h0, hmm, HE2.out⟩
    · obtain rfl : j = gl.length := by omega
      have hjl : ((gl.length : Int) < (gl.length : Int)) = False := by simp
      have hww : IntKind.i64.wrap (m - m') = m - m' := wrap_id (by have := HFITS.out; omega)
      have HE2 : Hid (gvP fr.x fr.y ax q gl l m = (l', m')) := Lib.hid (by have h := HE.out; rw [List.drop_length] at h; rw [← h]; rfl)
      go_wp2
      go_ret
      exact ⟨by rw [HE2.out]; rfl, (Mv.of BB.out).trans HM.out, cs', by rw [HE2.out]; exact HP.out⟩
end Go.Proofs.Ytodcabaihhmhnaa
