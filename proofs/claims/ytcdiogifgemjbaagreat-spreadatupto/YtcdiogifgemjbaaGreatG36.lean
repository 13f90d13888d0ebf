/- Texts of this seat, 3 in one file. -/
import Derived.Test.YtcdiogifgemjbaaGreatG21
import Derived.Test.YtcdiogifgemjbaaGreatG06
import Derived.Test.YtcdiogifgemjbaaGreatG23
import Derived.Deep.RegionLaw
import Derived.Test.YtcdiogifgemjbaaGreatG28
import Derived.Test.YtcdiogifgemjbaaGreatG30
import Derived.Test.YtcdiogifgemjbaaGreatG22
import Derived.Test.YtcdiogifgemjbaaGreatShelf
/- Givers: cells with what they can give, as they lie in memory, and as trees; rows of them. No walk. -/
namespace Go.Proofs.YtcdiogifgemjbaaGreat
open Go.RowKit

structure G where
  c : C
  g : Int
  a : Option Addr
  n : Nat
  cap : Nat
deriving Inhabited
def encG (x : G) : List Value := [.int .u8 x.c.k, .int .i64 x.c.r.x, .int .i64 x.c.r.y, .int .i64 x.c.r.w, .int .i64 x.c.r.h, .int .i64 x.c.id, .slice x.c.a x.c.n x.c.cap, .int .i64 x.g, .slice x.a x.n x.cap]
abbrev gval (x : G) : Value := .agg #[.int .u8 x.c.k, .int .i64 x.c.r.x, .int .i64 x.c.r.y, .int .i64 x.c.r.w, .int .i64 x.c.r.h, .int .i64 x.c.id, .slice x.c.a x.c.n x.c.cap, .int .i64 x.g, .slice x.a x.n x.cap]
abbrev gbox (x : G) : Obj := .cells #[.int .u8 x.c.k, .int .i64 x.c.r.x, .int .i64 x.c.r.y, .int .i64 x.c.r.w, .int .i64 x.c.r.h, .int .i64 x.c.id, .slice x.c.a x.c.n x.c.cap, .int .i64 x.g, .slice x.a x.n x.cap] 82
abbrev G9 (b o : Nat) (x : G) (w : World) : Prop :=
  w.cell? ⟨b, o, none⟩ = some (.int .u8 x.c.k) ∧ w.cell? ⟨b, o + 1, none⟩ = some (.int .i64 x.c.r.x) ∧ w.cell? ⟨b, o + 2, none⟩ = some (.int .i64 x.c.r.y) ∧ w.cell? ⟨b, o + 3, none⟩ = some (.int .i64 x.c.r.w) ∧ w.cell? ⟨b, o + 4, none⟩ = some (.int .i64 x.c.r.h) ∧ w.cell? ⟨b, o + 5, none⟩ = some (.int .i64 x.c.id) ∧ w.cell? ⟨b, o + 6, none⟩ = some (.slice x.c.a x.c.n x.c.cap) ∧ w.cell? ⟨b, o + 7, none⟩ = some (.int .i64 x.g) ∧ w.cell? ⟨b, o + 8, none⟩ = some (.slice x.a x.n x.cap)
theorem g9_up {b o : Nat} {x : G} {w w' : World} (h : G9 b o x w) (hb : Below w.heap.size w w') : G9 b o x w' := by
  obtain ⟨a0, a1, a2, a3, a4, a5, a6, a7, a8⟩ := h
  exact ⟨(hb.cell (lt_of_cell a0)).trans a0, (hb.cell (lt_of_cell a1)).trans a1, (hb.cell (lt_of_cell a2)).trans a2, (hb.cell (lt_of_cell a3)).trans a3, (hb.cell (lt_of_cell a4)).trans a4, (hb.cell (lt_of_cell a5)).trans a5, (hb.cell (lt_of_cell a6)).trans a6, (hb.cell (lt_of_cell a7)).trans a7, (hb.cell (lt_of_cell a8)).trans a8⟩

def flatG (l : List G) : List Value := l.flatMap encG
theorem flatG_length (l : List G) : (flatG l).length = l.length * 9 := by
  induction l with
  | nil => rfl
  | cons r l ih => simp only [flatG, List.flatMap_cons, List.length_append] at *; rw [ih]; simp [encG]; omega
theorem flatG_append (a b : List G) : flatG (a ++ b) = flatG a ++ flatG b := by simp [flatG]
theorem flatG_one (c : G) : flatG [c] = encG c := by simp [flatG]
theorem flatG_get (l : List G) (j i : Nat) (c : G) (hj : l[j]? = some c) (hi : i < 9) : (flatG l)[j * 9 + i]? = (encG c)[i]? := by
  induction l generalizing j with
  | nil => simp at hj
  | cons q l ih =>
    have he : flatG (q :: l) = encG q ++ flatG l := by simp [flatG]
    rw [he]
    have hq : (encG q).length = 9 := rfl
    cases j with
    | zero =>
      simp at hj; subst hj
      rw [List.getElem?_append_left (by omega)]
      simp
    | succ j =>
      rw [List.getElem?_append_right (by omega), hq, show (j + 1) * 9 + i - 9 = j * 9 + i by omega]
      exact ih j (by simpa using hj)
theorem flatG_oneCell (l : List G) : ∀ u ∈ flatG l, u.oneCell' = true := by
  intro u hu
  simp only [flatG, List.mem_flatMap] at hu
  obtain ⟨r, -, hr⟩ := hu
  simp [encG] at hr
  rcases hr with rfl | rfl | rfl | rfl | rfl | rfl | rfl | rfl | rfl <;> rfl

/-- A row of the call's own. -/
def OwnG (w : World) (base : Nat) (v : Value) (l : List G) : Prop := w.ownsRow base 82 9 v l.length (flatG l)
theorem OwnG.up {w w' : World} {base : Nat} {v : Value} {l : List G} (h : OwnG w base v l) (hb : Below w.heap.size w w') : OwnG w' base v l := owns_up h hb
theorem OwnG.lower {w : World} {base base' : Nat} {v : Value} {l : List G} (h : OwnG w base v l) (hb : base' ≤ base) : OwnG w base' v l := owns_base h hb
theorem OwnG.nil (w : World) (base : Nat) : OwnG w base (.slice none 0 0) [] := World.ownsRow_nil w base _ _
theorem ownG_block {w : World} {base : Nat} {v : Value} {l : List G} (h : OwnG w base v l) {g : Nat} (hg : v.ownBlock = some g) : base ≤ g ∧ g < w.heap.size := h.lt g hg
theorem ownG_kept {w w' : World} {base : Nat} {v : Value} {l : List G} (h : OwnG w base v l) (hk : ∀ g, v.ownBlock = some g → w'.heap[g]? = w.heap[g]?) : OwnG w' base v l := by
  refine ⟨h.1, ?_⟩
  rcases h.2 with hn | ⟨g, cap, cur, rfl, hg0, hg, rest⟩
  · exact .inl hn
  · exact .inr ⟨g, cap, cur, rfl, hg0, (hk g rfl).trans hg, rest⟩
/-- Givers in a slice. -/
def GRow (w : World) (v : Value) (l : List G) : Prop :=
  (∃ a cap, v = .slice a 0 cap ∧ l = []) ∨ ∃ b o cap, v = .slice (some ⟨b, o, none⟩) l.length cap ∧ ∀ (j : Nat) (c : G), l[j]? = some c → G9 b (o + j * 9) c w
theorem GRow.up {w w' : World} {v : Value} {l : List G} (h : GRow w v l) (hb : Below w.heap.size w w') : GRow w' v l := by
  rcases h with h | ⟨b, o, cap, h1, h2⟩
  · exact .inl h
  · exact .inr ⟨b, o, cap, h1, fun j f hf => g9_up (h2 j f hf) hb⟩
theorem GRow.shape {w : World} {v : Value} {l : List G} (hr : GRow w v l) : ∃ a cap, v = .slice a l.length cap := by
  rcases hr with ⟨a, cap, rfl, rfl⟩ | ⟨b, o, cap, rfl, -⟩
  · exact ⟨_, _, rfl⟩
  · exact ⟨_, _, rfl⟩
theorem GRow.len {w : World} {a : Option Addr} {n cap : Nat} {l : List G} (hr : GRow w (.slice a n cap) l) : n = l.length := by
  obtain ⟨a', cap', h⟩ := hr.shape
  cases h; rfl
theorem GRow.place {w : World} {a : Option Addr} {n cap : Nat} {l : List G} (hr : GRow w (.slice a n cap) l) (hp : 0 < l.length) : ∃ b o, a = some ⟨b, o, none⟩ ∧ ∀ (j : Nat) (c : G), l[j]? = some c → G9 b (o + j * 9) c w := by
  rcases hr with ⟨_, _, -, rfl⟩ | ⟨b, o, cap', he, hf⟩
  · simp at hp
  · obtain ⟨rfl, rfl⟩ : a = some ⟨b, o, none⟩ ∧ cap = cap' := by cases he; exact ⟨rfl, rfl⟩
    exact ⟨b, o, rfl, hf⟩
theorem g9_of_flat {w : World} {g : Nat} {l : List G} (h : ∀ j u, (flatG l)[j]? = some u → w.cell? ((⟨g, 0, none⟩ : Addr).add j) = some u) (j : Nat) (c : G) (hj : l[j]? = some c) : G9 g (0 + j * 9) c w := by
  have hc : ∀ i, i < 9 → ∀ u, (encG c)[i]? = some u → w.cell? ⟨g, 0 + j * 9 + i, none⟩ = some u := fun i hi u hu => by
    have := h (j * 9 + i) u (by rw [flatG_get l j i c hj hi]; exact hu)
    rw [Go.WideShapes.add_plain, Nat.zero_add] at this
    rw [Nat.zero_add]
    exact this
  exact ⟨hc 0 (by omega) _ rfl, hc 1 (by omega) _ rfl, hc 2 (by omega) _ rfl, hc 3 (by omega) _ rfl, hc 4 (by omega) _ rfl, hc 5 (by omega) _ rfl, hc 6 (by omega) _ rfl, hc 7 (by omega) _ rfl, hc 8 (by omega) _ rfl⟩
theorem OwnG.row {w : World} {base : Nat} {v : Value} {l : List G} (h : OwnG w base v l) : GRow w v l := by
  rcases h.2 with ⟨rfl, hn⟩ | ⟨g, cap, cur, rfl, hb, hg, hn, hm, hs, ht⟩
  · exact .inl ⟨_, _, rfl, List.length_eq_zero_iff.1 hn⟩
  · exact .inr ⟨g, 0, cap, rfl, fun j r hj => g9_of_flat (h.cells (g := g) rfl) j r hj⟩

abbrev zeroG : Value := .agg #[.int .u8 0, .int .i64 0, .int .i64 0, .int .i64 0, .int .i64 0, .int .i64 0, .slice none 0 0, .int .i64 0, .slice none 0 0]
set_option maxRecDepth 100000 in
theorem infoG : (Tryz.prog.info? 82).map (fun i => (i.zero, i.size, i.bytes)) = some (some zeroG, 9, 104) := by kernel_rfl
theorem grow_cells {w : World} {b : Nat} {x : G} (h : G9 b 0 x w) : ∀ j u, (flatG [x])[j]? = some u → w.cell? ((⟨b, 0, none⟩ : Addr).add j) = some u := by
  intro j u hu
  obtain ⟨a0, a1, a2, a3, a4, a5, a6, a7, a8⟩ := h
  rw [flatG_one] at hu
  rw [Go.WideShapes.add_plain]
  match j with
  | 0 => simp [encG] at hu; subst hu; exact a0
  | 1 => simp [encG] at hu; subst hu; exact a1
  | 2 => simp [encG] at hu; subst hu; exact a2
  | 3 => simp [encG] at hu; subst hu; exact a3
  | 4 => simp [encG] at hu; subst hu; exact a4
  | 5 => simp [encG] at hu; subst hu; exact a5
  | 6 => simp [encG] at hu; subst hu; exact a6
  | 7 => simp [encG] at hu; subst hu; exact a7
  | 8 => simp [encG] at hu; subst hu; exact a8
  | j + 9 => simp [encG] at hu
set_option maxRecDepth 100000 in
/-- append(own.., giver): what is owned then is both; where it lies. -/
theorem wpList_append_giver {w : World} {ops : Array Oper} {rest : List Oper} {o : Oper} {a : Act} {Q : Exit → Act → World → Prop} (hgd : o.guard = none) (s x : Operand)
    (ho : o.op = .call { callee := .builtin .append, args := #[s, x], argTypes := #[80, 80] })
    (base : Nat) (v : Value) (xs : List G) (g0 : Nat) (d : G) (hs : a.eval s = v) (hown : OwnG w base v xs) (hx : a.eval x = .slice (some ⟨g0, 0, none⟩) 1 1) (hrow : G9 g0 0 d w)
    (h63 : xs.length + 1 ≤ 1000000) (w0 : World) (hb : Below base w0 w) (hbase0 : base ≤ w0.heap.size)
    (h : ∀ g cap w', OwnG w' base (.slice (some ⟨g, 0, none⟩) (xs.length + 1) cap) (xs ++ [d]) → Below base w0 w' → w.grownBy w' v.ownBlock → (v.ownBlock = some g ∨ g = w.heap.size) → wpList Tryz.prog ops Q rest (a.put o.dst (.slice (some ⟨g, 0, none⟩) (xs.length + 1) cap)) w') : wpList Tryz.prog ops Q (o :: rest) a w := by
  have hbase : base ≤ w.heap.size := Nat.le_trans hbase0 hb.size
  obtain ⟨i, hi, hz0, hz2, hz3⟩ := info_parts infoG
  refine wpList_append_lies w hgd s x 80 ho base 82 i zeroG 9 104 Tryz.underlying80 hi hz0 hz2 hz3 rfl (by decide) v xs.length (flatG xs) hs hown ⟨g0, 0, none⟩ 1 1 (flatG [d]) hx (flatG_length _) (grow_cells hrow) (flatG_oneCell _) (by decide) (by unfold maxLen; omega) (by omega) hbase w.heap.size rfl ?_
  intro g cap' w' g1 g2 g3 _
  refine h g cap' w' ?_ (hb.grown g2 hbase (fun k hk => (hown.lt k hk).1)) g2 g3
  rw [← flatG_append] at g1
  have hl : (xs ++ [d]).length = xs.length + 1 := by simp
  unfold OwnG
  rw [hl]; exact g1

/-- The tree that a giver tells. -/
inductive IsG (w : World) (ax : Int) : G → T → Prop
  | mk (x : G) (kids : List T) (gs : List G) (hdr : x.c.a = none ∧ x.c.n = 0 ∧ x.c.cap = 0) (row : GRow w (.slice x.a x.n x.cap) gs) (len : gs.length = kids.length) (fine : x.c.fine) (give : x.g = gvT ax (.node x.c.k x.c.r x.c.id kids)) (each : ∀ (j : Nat) (y : G) (t : T), gs[j]? = some y → kids[j]? = some t → IsG w ax y t) : IsG w ax x (.node x.c.k x.c.r x.c.id kids)
theorem IsG.up {w w' : World} {ax : Int} {x : G} {t : T} (h : IsG w ax x t) (hb : Below w.heap.size w w') : IsG w' ax x t := by
  induction h with
  | mk x kids gs hdr row len fine give each ih => exact .mk x kids gs hdr (row.up hb) len fine give ih
theorem IsG.split {w : World} {ax : Int} {x : G} {t : T} (h : IsG w ax x t) : t.k = x.c.k ∧ t.r = x.c.r ∧ t.id = x.c.id ∧ x.c.fine ∧ (x.c.a = none ∧ x.c.n = 0 ∧ x.c.cap = 0) ∧ x.g = gvT ax t ∧ ∃ gs, GRow w (.slice x.a x.n x.cap) gs ∧ gs.length = t.kids.length ∧ x.n = t.kids.length ∧ ∀ (j : Nat) (y : G) (u : T), gs[j]? = some y → t.kids[j]? = some u → IsG w ax y u := by
  cases h with
  | mk x kids gs hdr row len fine give each => exact ⟨rfl, rfl, rfl, fine, hdr, give, gs, row, len, row.len.trans len, each⟩
/-- It tells the tree in every world that has w's blocks from lo to hi. -/
def StandsG (w : World) (lo hi : Nat) (ax : Int) (x : G) (t : T) : Prop := ∀ W' : World, (∀ k, lo ≤ k → k < hi → W'.heap[k]? = w.heap[k]?) → IsG W' ax x t
theorem StandsG.is {w : World} {lo hi : Nat} {ax : Int} {x : G} {t : T} (h : StandsG w lo hi ax x t) : IsG w ax x t := h w fun _ _ _ => rfl
theorem StandsG.move {w w2 : World} {lo hi : Nat} {ax : Int} {x : G} {t : T} (h : StandsG w lo hi ax x t) (h1 : ∀ k, lo ≤ k → k < hi → w2.heap[k]? = w.heap[k]?) : StandsG w2 lo hi ax x t :=
  fun W' g1 => h W' fun k hl hh => (g1 k hl hh).trans (h1 k hl hh)
theorem StandsG.wide {w : World} {lo hi lo' hi' : Nat} {ax : Int} {x : G} {t : T} (h : StandsG w lo hi ax x t) (hl : lo' ≤ lo) (hh : hi ≤ hi') : StandsG w lo' hi' ax x t :=
  fun W' g1 => h W' fun k hl' hh' => g1 k (by omega) (by omega)
structure GroveG (w : World) (base : Nat) (v : Value) (ax : Int) (gs : List G) (l : List T) : Prop where
  row : OwnG w base v gs
  len : gs.length = l.length
  each : ∀ (j : Nat) (x : G) (t : T), gs[j]? = some x → l[j]? = some t → ∃ lo hi, base ≤ lo ∧ hi ≤ w.heap.size ∧ (∀ g, v.ownBlock = some g → g < lo ∨ hi ≤ g) ∧ StandsG w lo hi ax x t
theorem GroveG.nil (w : World) (base : Nat) (ax : Int) : GroveG w base (.slice none 0 0) ax [] [] := ⟨OwnG.nil w base, rfl, fun j x t hx => by simp at hx⟩
theorem GroveG.kept {w w2 : World} {base : Nat} {v : Value} {ax : Int} {gs : List G} {l : List T} (h : GroveG w base v ax gs l) (hs : w.heap.size ≤ w2.heap.size) (hk : ∀ k, base ≤ k → k < w.heap.size → w2.heap[k]? = w.heap[k]?) : GroveG w2 base v ax gs l :=
  ⟨ownG_kept h.row fun g hg => hk g (ownG_block h.row hg).1 (ownG_block h.row hg).2, h.len, fun j x t hx ht => by
    obtain ⟨lo, hi, a1, a2, a3, a4⟩ := h.each j x t hx ht
    exact ⟨lo, hi, a1, Nat.le_trans a2 hs, a3, a4.move fun k hl hh => hk k (by omega) (by omega)⟩⟩
theorem GroveG.lower {w : World} {base base' : Nat} {v : Value} {ax : Int} {gs : List G} {l : List T} (h : GroveG w base v ax gs l) (hb : base' ≤ base) : GroveG w base' v ax gs l :=
  ⟨h.row.lower hb, h.len, fun j x t hx ht => by
    obtain ⟨lo, hi, a1, a2, a3, a4⟩ := h.each j x t hx ht
    exact ⟨lo, hi, Nat.le_trans hb a1, a2, a3, a4⟩⟩
/-- One more, that the call just made. -/
theorem GroveG.one {wr w2 w2' w3 : World} {base : Nat} {v : Value} {ax : Int} {gs : List G} {l : List T} {d : G} {u : T} {g cap : Nat}
    (h : GroveG wr base v ax gs l) (hb : Below wr.heap.size wr w2) (hb' : Below w2.heap.size w2 w2') (hbase : base ≤ wr.heap.size)
    (hd : StandsG w2 wr.heap.size w2.heap.size ax d u)
    (hown : OwnG w3 base (.slice (some ⟨g, 0, none⟩) (gs.length + 1) cap) (gs ++ [d])) (hgr : w2'.grownBy w3 v.ownBlock) (hpl : v.ownBlock = some g ∨ g = w2'.heap.size) :
    GroveG w3 base (.slice (some ⟨g, 0, none⟩) (gs.length + 1) cap) ax (gs ++ [d]) (l ++ [u]) := by
  have hvb : ∀ k, v.ownBlock = some k → base ≤ k ∧ k < wr.heap.size := fun k hk => ownG_block h.row hk
  have hs := hb.size
  have hs' := hb'.size
  have hs3 := hgr.size
  have hsame : ∀ k, k < w2.heap.size → v.ownBlock ≠ some k → w3.heap[k]? = w2.heap[k]? := fun k hk hne => by
    rw [hgr.block k (by omega) (fun e => hne e.symm)]
    exact hb'.block k hk
  have hgo : ∀ k, (Value.slice (some ⟨g, 0, none⟩) (gs.length + 1) cap).ownBlock = some k → k = g := fun k hk => by cases hk; rfl
  refine ⟨hown, by simp [h.len], fun j x t hx ht => ?_⟩
  rcases Nat.lt_or_ge j gs.length with hj | hj
  · rw [List.getElem?_append_left hj] at hx
    rw [List.getElem?_append_left (by rw [← h.len]; exact hj)] at ht
    obtain ⟨lo, hi, a1, a2, a3, a4⟩ := h.each j x t hx ht
    refine ⟨lo, hi, a1, by omega, fun k hk => ?_, a4.move fun k hl hh => ?_⟩
    · rw [hgo k hk]
      rcases hpl with hp | hp
      · exact a3 g hp
      · right; omega
    · rw [hsame k (by omega) (fun e => by have := a3 k e; omega)]
      exact hb.block k (by omega)
  · rw [List.getElem?_append_right hj] at hx
    rw [List.getElem?_append_right (by rw [← h.len]; exact hj), ← h.len] at ht
    obtain ⟨h0, rfl⟩ : j - gs.length = 0 ∧ d = x := by
      cases hm : j - gs.length with
      | zero => rw [hm] at hx; simp at hx; exact ⟨rfl, hx⟩
      | succ m => rw [hm] at hx; simp at hx
    rw [h0] at ht
    simp at ht; subst ht
    refine ⟨wr.heap.size, w2.heap.size, hbase, by omega, fun k hk => ?_, hd.move fun k hl hh => ?_⟩
    · rw [hgo k hk]
      rcases hpl with hp | hp
      · have := hvb g hp; omega
      · right; omega
    · exact hsame k (by omega) fun e => by have := hvb k e; omega
/-- The giver whose kids they are. -/
theorem GroveG.tree {w : World} {base : Nat} {k : Int} {r : R} {id gv ax : Int} {a : Option Addr} {n cap : Nat} {gs : List G} {l : List T} (h : GroveG w base (.slice a n cap) ax gs l) (hk : 0 ≤ k ∧ k ≤ 255) (hr : r.fits) (hi : fits id) (hg : gv = gvT ax (.node k r id l)) :
    StandsG w base w.heap.size ax ⟨⟨k, r, id, none, 0, 0⟩, gv, a, n, cap⟩ (.node k r id l) := by
  intro W' g1
  refine .mk ⟨⟨k, r, id, none, 0, 0⟩, gv, a, n, cap⟩ l gs ⟨rfl, rfl, rfl⟩ (ownG_kept h.row fun g hg => ?_).row h.len ⟨hk, hr, hi, by simp⟩ hg fun j x t hx ht => ?_
  · have := ownG_block h.row hg
    exact g1 g this.1 this.2
  · obtain ⟨lo, hi, a1, a2, a3, a4⟩ := h.each j x t hx ht
    exact a4 W' fun k hl hh => g1 k (by omega) (by omega)

/-- A box of a giver. -/
def Box9 (w : World) (b : Nat) (x : G) : Prop := w.heap[b]? = some (gbox x)
theorem Box9.up {w w' : World} {b : Nat} {x : G} (h : Box9 w b x) (hb : Below w.heap.size w w') : Box9 w' b x := (hb.block b (lt_of_block h)).trans h
theorem Box9.new (w : World) (x : G) : Box9 (w.alloc (gbox x)) w.heap.size x := heap_alloc_new w _
theorem Box9.cat {w : World} {b : Nat} {x : G} (h : Box9 w b x) : G9 b 0 x w := by
  have h' : w.heap[b]? = some (gbox x) := h
  refine ⟨?_, ?_, ?_, ?_, ?_, ?_, ?_, ?_, ?_⟩ <;> simp [World.cell?, h']
theorem Box9.free {w : World} {b : Nat} {x : G} (h : Box9 w b x) (o : Nat) : w.frozen? ⟨b, o, none⟩ = false := by
  have h' : w.heap[b]? = some (gbox x) := h
  simp [World.frozen?, h']
theorem Box9.give {w : World} {b : Nat} {x : G} (h : Box9 w b x) (m : Int) : Box9 (w.setCell ⟨b, 7, none⟩ (.int .i64 m)) b ⟨x.c, m, x.a, x.n, x.cap⟩ := by
  have h' : w.heap[b]? = some (gbox x) := h
  have h1 := set_block (i := 7) h' (.int .i64 m)
  refine h1.trans ?_
  simp
theorem Box9.kids {w : World} {b : Nat} {x : G} (h : Box9 w b x) (a : Option Addr) (n cap : Nat) : Box9 (w.setCell ⟨b, 8, none⟩ (.slice a n cap)) b ⟨x.c, x.g, a, n, cap⟩ := by
  have h' : w.heap[b]? = some (gbox x) := h
  have h1 := set_block (i := 8) h' (.slice a n cap)
  refine h1.trans ?_
  simp
theorem Box9.row {w : World} {b : Nat} {x : G} (h : Box9 w b x) (a : Option Addr) (n cap : Nat) : Box9 (w.setCell ⟨b, 6, none⟩ (.slice a n cap)) b ⟨⟨x.c.k, x.c.r, x.c.id, a, n, cap⟩, x.g, x.a, x.n, x.cap⟩ := by
  have h' : w.heap[b]? = some (gbox x) := h
  have h1 := set_block (i := 6) h' (.slice a n cap)
  refine h1.trans ?_
  simp
end Go.Proofs.YtcdiogifgemjbaaGreat
/- weigh: what each cell of a tree can give. -/
namespace Go.Proofs.YtcdiogifgemjbaaGreat
open Go.RowKit

abbrev zG : G := ⟨⟨0, ⟨0, 0, 0, 0⟩, 0, none, 0, 0⟩, 0, none, 0, 0⟩
abbrev put9 (w : World) (b : Nat) (x : G) : World := ((((((((w.setCell ⟨b, 0, none⟩ (.int .u8 x.c.k)).setCell ⟨b, 1, none⟩ (.int .i64 x.c.r.x)).setCell ⟨b, 2, none⟩ (.int .i64 x.c.r.y)).setCell ⟨b, 3, none⟩ (.int .i64 x.c.r.w)).setCell ⟨b, 4, none⟩ (.int .i64 x.c.r.h)).setCell ⟨b, 5, none⟩ (.int .i64 x.c.id)).setCell ⟨b, 6, none⟩ (.slice x.c.a x.c.n x.c.cap)).setCell ⟨b, 7, none⟩ (.int .i64 x.g)).setCell ⟨b, 8, none⟩ (.slice x.a x.n x.cap)
theorem heap_put9 {w : World} {b k : Nat} {x : G} (h : k ≠ b) : (put9 w b x).heap[k]? = w.heap[k]? := by
  unfold put9
  rw [Below.heap_setCell _ ⟨b, 8, none⟩ _ k h, Below.heap_setCell _ ⟨b, 7, none⟩ _ k h, Below.heap_setCell _ ⟨b, 6, none⟩ _ k h, Below.heap_setCell _ ⟨b, 5, none⟩ _ k h, Below.heap_setCell _ ⟨b, 4, none⟩ _ k h, Below.heap_setCell _ ⟨b, 3, none⟩ _ k h, Below.heap_setCell _ ⟨b, 2, none⟩ _ k h, Below.heap_setCell _ ⟨b, 1, none⟩ _ k h, Below.heap_setCell _ ⟨b, 0, none⟩ _ k h]
theorem size_put9 (w : World) (b : Nat) (x : G) : (put9 w b x).heap.size = w.heap.size := by simp [World.setCell]
theorem below_put9 {B : Nat} {w w' : World} (h : Below B w w') {b : Nat} (hb : B ≤ b) (x : G) : Below B w (put9 w' b x) := ((((((((h.setCell hb _).setCell hb _).setCell hb _).setCell hb _).setCell hb _).setCell hb _).setCell hb _).setCell hb _).setCell hb _
theorem Box9.put {w : World} {b : Nat} {y : G} (h : Box9 w b y) (x : G) : Box9 (put9 w b x) b x := by
  have h' : w.heap[b]? = some (gbox y) := h
  have h1 := set_block (i := 0) h' (.int .u8 x.c.k)
  have h2 := set_block (i := 1) h1 (.int .i64 x.c.r.x)
  have h3 := set_block (i := 2) h2 (.int .i64 x.c.r.y)
  have h4 := set_block (i := 3) h3 (.int .i64 x.c.r.w)
  have h5 := set_block (i := 4) h4 (.int .i64 x.c.r.h)
  have h6 := set_block (i := 5) h5 (.int .i64 x.c.id)
  have h7 := set_block (i := 6) h6 (.slice x.c.a x.c.n x.c.cap)
  have h8 := set_block (i := 7) h7 (.int .i64 x.g)
  have h9 := set_block (i := 8) h8 (.slice x.a x.n x.cap)
  refine h9.trans ?_
  simp
theorem c7_put9 {b k : Nat} {c : C} {x : G} {W : World} (h : C7 b c W) (h1 : b ≠ k) : C7 b c (put9 W k x) := by
  have g1 : ∀ o, (put9 W k x).cell? ⟨b, o, none⟩ = W.cell? ⟨b, o, none⟩ := fun o => World.cell?_of_block (a := ⟨b, o, none⟩) (heap_put9 h1)
  obtain ⟨a0, a1, a2, a3, a4, a5, a6⟩ := h
  exact ⟨(g1 _).trans a0, (g1 _).trans a1, (g1 _).trans a2, (g1 _).trans a3, (g1 _).trans a4, (g1 _).trans a5, (g1 _).trans a6⟩
theorem c7_alloc {b : Nat} {c : C} {W : World} (h : C7 b c W) (o : Obj) : C7 b c (W.alloc o) := by
  have hb : Below W.heap.size W (W.alloc o) := (Below.refl _ _).alloc (Nat.le_refl _) _
  obtain ⟨a0, a1, a2, a3, a4, a5, a6⟩ := h
  exact ⟨(hb.cell (lt_of_cell a0)).trans a0, (hb.cell (lt_of_cell a1)).trans a1, (hb.cell (lt_of_cell a2)).trans a2, (hb.cell (lt_of_cell a3)).trans a3, (hb.cell (lt_of_cell a4)).trans a4, (hb.cell (lt_of_cell a5)).trans a5, (hb.cell (lt_of_cell a6)).trans a6⟩
theorem g9_parts {w : World} {b : Nat} {x : G} (h : Box9 w b x) : (w.cell? ⟨b, 0, none⟩ = some (.int .u8 x.c.k) ∧ w.cell? ⟨b, 1, none⟩ = some (.int .i64 x.c.r.x) ∧ w.cell? ⟨b, 2, none⟩ = some (.int .i64 x.c.r.y) ∧ w.cell? ⟨b, 3, none⟩ = some (.int .i64 x.c.r.w) ∧ w.cell? ⟨b, 4, none⟩ = some (.int .i64 x.c.r.h) ∧ w.cell? ⟨b, 5, none⟩ = some (.int .i64 x.c.id) ∧ w.cell? ⟨b, 6, none⟩ = some (.slice x.c.a x.c.n x.c.cap) ∧ w.cell? ⟨b, 7, none⟩ = some (.int .i64 x.g) ∧ w.cell? ⟨b, 8, none⟩ = some (.slice x.a x.n x.cap)) ∧
    (w.frozen? ⟨b, 0, none⟩ = false ∧ w.frozen? ⟨b, 1, none⟩ = false ∧ w.frozen? ⟨b, 2, none⟩ = false ∧ w.frozen? ⟨b, 3, none⟩ = false ∧ w.frozen? ⟨b, 4, none⟩ = false ∧ w.frozen? ⟨b, 5, none⟩ = false ∧ w.frozen? ⟨b, 6, none⟩ = false ∧ w.frozen? ⟨b, 7, none⟩ = false ∧ w.frozen? ⟨b, 8, none⟩ = false) := by
  obtain ⟨a0, a1, a2, a3, a4, a5, a6, a7, a8⟩ := h.cat
  simp only [Nat.zero_add] at a1 a2 a3 a4 a5 a6 a7 a8
  exact ⟨⟨a0, a1, a2, a3, a4, a5, a6, a7, a8⟩, h.free 0, h.free 1, h.free 2, h.free 3, h.free 4, h.free 5, h.free 6, h.free 7, h.free 8⟩
theorem results_g1 {fn : Func} {p : Tmp} (h : fn.results = #[.cell p 82]) (tmps : Array Value) (w : World) (g : Nat) (x : G) (hp : tmps.getD p undef = .pointer (some ⟨g, 0, none⟩)) (hg : Box9 w g x) :
    (results fn tmps).run Tryz.prog w = .ok (gval x) w :=
  results_cell_row h tmps w g 82 _ (0, 0) _ hp hg Tryz.underlying82 rfl (by kernel_rfl)

/-- What the call keeps: its tree's box, its answer's, its giver's. -/
structure WSt (w : World) (c : C) (bg : Nat) (x : G) (W : World) : Prop where
  below : Below w.heap.size w W
  box : Box7 W w.heap.size c
  zero : Box9 W (w.heap.size + 1) zG
  giv : Box9 W bg x
  far : w.heap.size + 1 < bg
theorem WSt.up {w W W' : World} {c : C} {bg : Nat} {x : G} (h : WSt w c bg x W) (hb : Below W.heap.size W W') : WSt w c bg x W' := ⟨h.below.trans (hb.mono h.below.size), h.box.up hb, h.zero.up hb, h.giv.up hb, h.far⟩
abbrev weW (w : World) (c : C) : World := (w.alloc (cbox c)).alloc (gbox zG)
structure W0St (w : World) (c : C) (W : World) : Prop where
  below : Below w.heap.size w W
  box : Box7 W w.heap.size c
  zero : Box9 W (w.heap.size + 1) zG
  size : w.heap.size + 2 ≤ W.heap.size
theorem W0St.up {w W W' : World} {c : C} (h : W0St w c W) (hb : Below W.heap.size W W') : W0St w c W' := ⟨h.below.trans (hb.mono h.below.size), h.box.up hb, h.zero.up hb, Nat.le_trans h.size hb.size⟩
theorem W0St.start (w : World) (c : C) : W0St w c (weW w c) := by
  have h2 : Below (w.alloc (cbox c)).heap.size (w.alloc (cbox c)) (weW w c) := (Below.refl _ _).alloc (Nat.le_refl _) _
  refine ⟨((Below.refl _ _).alloc (Nat.le_refl _) _).alloc (by simp) _, (Box7.new w c).up h2, ?_, by simp⟩
  have := Box9.new (w.alloc (cbox c)) zG
  simpa using this
theorem wst_new {w W : World} {c : C} (h : W0St w c W) (x : G) : WSt w c W.heap.size x (W.alloc (gbox x)) :=
  have hb : Below W.heap.size W (W.alloc (gbox x)) := (Below.refl _ _).alloc (Nat.le_refl _) _
  ⟨(h.up hb).below, (h.up hb).box, (h.up hb).zero, Box9.new W x, by have := h.size; omega⟩
theorem wst_put {w W : World} {c : C} {b : Nat} (h : W0St w c W) (hz : Box9 W b zG) (hb : w.heap.size + 1 < b) (x : G) : WSt w c b x (put9 W b x) :=
  ⟨below_put9 h.below (by omega) x, (heap_put9 (by omega)).trans h.box, (heap_put9 (by omega)).trans h.zero, hz.put x, hb⟩
theorem WSt.upB {w W W' : World} {c : C} {bg : Nat} {x : G} (h : WSt w c bg x W) (hb : Below (bg + 1) W W') : WSt w c bg x W' := by
  have hf := h.far
  exact ⟨h.below.trans (hb.mono (by omega)), (hb.block _ (by omega)).trans h.box, (hb.block _ (by omega)).trans h.zero, (hb.block _ (by omega)).trans h.giv, hf⟩
theorem wst_row {w W : World} {c : C} {b : Nat} {x : G} (h : WSt w c b x W) (a : Option Addr) (n cap : Nat) : WSt w c b ⟨⟨x.c.k, x.c.r, x.c.id, a, n, cap⟩, x.g, x.a, x.n, x.cap⟩ (W.setCell ⟨b, 6, none⟩ (.slice a n cap)) := by
  have hf := h.far
  exact ⟨h.below.setCell (by show w.heap.size ≤ b; omega) _, (Below.heap_setCell W ⟨b, 6, none⟩ _ _ (by show w.heap.size ≠ b; omega)).trans h.box, (Below.heap_setCell W ⟨b, 6, none⟩ _ _ (by show w.heap.size + 1 ≠ b; omega)).trans h.zero, h.giv.row a n cap, hf⟩
theorem wst_kids {w W : World} {c : C} {b : Nat} {x : G} (h : WSt w c b x W) (a : Option Addr) (n cap : Nat) : WSt w c b ⟨x.c, x.g, a, n, cap⟩ (W.setCell ⟨b, 8, none⟩ (.slice a n cap)) := by
  have hf := h.far
  exact ⟨h.below.setCell (by show w.heap.size ≤ b; omega) _, (Below.heap_setCell W ⟨b, 8, none⟩ _ _ (by show w.heap.size ≠ b; omega)).trans h.box, (Below.heap_setCell W ⟨b, 8, none⟩ _ _ (by show w.heap.size + 1 ≠ b; omega)).trans h.zero, h.giv.kids a n cap, hf⟩
theorem wst_give {w W : World} {c : C} {b : Nat} {x : G} (h : WSt w c b x W) (m : Int) : WSt w c b ⟨x.c, m, x.a, x.n, x.cap⟩ (W.setCell ⟨b, 7, none⟩ (.int .i64 m)) := by
  have hf := h.far
  exact ⟨h.below.setCell (by show w.heap.size ≤ b; omega) _, (Below.heap_setCell W ⟨b, 7, none⟩ _ _ (by show w.heap.size ≠ b; omega)).trans h.box, (Below.heap_setCell W ⟨b, 7, none⟩ _ _ (by show w.heap.size + 1 ≠ b; omega)).trans h.zero, h.giv.give m, hf⟩

theorem gvS_in {ax : Int} (hax : ax = 1 ∨ ax = 2) {l : List T} (h : ∀ u ∈ l, sz u ≤ 20000 ∧ tileB u = true) : 0 ≤ gvS ax l ∧ gvS ax l ≤ 10000 * (l.length : Int) := by
  induction l with
  | nil => simp [gvS]
  | cons t l ih =>
    have h1 := ih fun u hu => h u (List.mem_cons_of_mem _ hu)
    have h2 := h t (List.mem_cons_self ..)
    have h3 := gv_bounds hax h2.1 h2.2
    unfold gvS at *
    rw [List.map_cons, List.sum_cons, List.length_cons]
    omega

/-- What weigh answers. -/
def WeSays (ax : Int) (t : T) (w : World) (e : Ending) (w' : World) : Prop := ∃ x, e = .returned (gval x) ∧ StandsG w' w.heap.size w'.heap.size ax x t ∧ Below w.heap.size w w'
theorem we_end {ax : Int} {t : T} {w W : World} {c : C} {bg : Nat} {k : Int} {r : R} {id gv : Int} {a : Option Addr} {cap : Nat} {gs : List G} {l : List T} (he : t = .node k r id l) (h : WSt w c bg ⟨⟨k, r, id, none, 0, 0⟩, gv, a, gs.length, cap⟩ W) (hg : GroveG W (bg + 1) (.slice a gs.length cap) ax gs l) (hk : 0 ≤ k ∧ k ≤ 255) (hr : r.fits) (hi : fits id) (hgv : gv = gvT ax (.node k r id l)) :
    WeSays ax t w (.returned (gval ⟨⟨k, r, id, none, 0, 0⟩, gv, a, gs.length, cap⟩)) (put9 W (w.heap.size + 1) ⟨⟨k, r, id, none, 0, 0⟩, gv, a, gs.length, cap⟩) := by
  subst he
  have hf := h.far
  refine ⟨_, rfl, ?_, below_put9 h.below (by omega) _⟩
  rw [size_put9]
  exact ((hg.tree hk hr hi hgv).move (w2 := put9 W (w.heap.size + 1) ⟨⟨k, r, id, none, 0, 0⟩, gv, a, gs.length, cap⟩) fun j hj _ => heap_put9 (by omega)).wide (by omega) (Nat.le_refl _)

set_option maxHeartbeats 4000000 in
set_option maxRecDepth 100000 in
theorem weigh_any (ax : Int) (hax : ax = 1 ∨ ax = 2) (N : Nat) : ∀ (t : T) (c : C) (w : World), sz t ≤ N → sz t ≤ 990 → tileB t = true → Is w c t → Calls Tryz.prog 54 #[cval c, .int .u8 ax] w (WeSays ax t w) := by
  induction N with
  | zero => intro t c w h; have := sz_pos t; omega
  | succ N ih =>
    intro t c w hs hm ht hi
    have HAX := Lib.hid hax
    have HI := Lib.hid hi
    have HFINE := Lib.hid hi.fine
    have HR := Lib.hid hi.row
    have hn := hi.n
    have htr := hi.split.2.1
    have htk := hi.split.1
    have hti := hi.split.2.2.1
    have hfn : t.kids.length ≤ 990 := by have := sz_node t; have := szL_len t.kids; omega
    obtain ⟨ck, cr, cid, ca, cn, ccap⟩ := c
    simp only at hn htr htk hti
    subst hn
    have HETA := Lib.hid (show t = .node ck cr cid t.kids by rw [← htk, ← htr, ← hti]; exact T.eta t)
    have hwell := may_rect (well_rect (tile_top (by omega) ht).1)
    rw [htr] at hwell
    have hsz := szA_pos (well_rect (tile_top (show sz t ≤ 20000 by omega) ht).1) hax
    rw [htr] at hsz
    have hws : IntKind.i64.wrap (szA cr ax - 1) = szA cr ax - 1 := wrap_id (by omega)
    have HKT : Hid (∀ (j : Nat) (u : T), t.kids[j]? = some u → sz u ≤ 20000 ∧ tileB u = true ∧ 0 ≤ gvT ax u ∧ gvT ax u ≤ 10000 ∧ (alB ck ax = false → gvT ax u = szA cr ax - lsT ax u)) := Lib.hid fun j u hj => by
      have h1 := sz_kid hj
      have h2 := tile_kid (by omega) ht hj
      have h3 := gv_bounds hax (show sz u ≤ 20000 by omega) h2
      refine ⟨by omega, h2, h3.1, h3.2, fun ha => ?_⟩
      have hk : t.k ≠ 1 := fun h => by
        have := leaf_none (by omega) ht h
        rw [this] at hj; simp at hj
      have h4 := (fit_kids (tile_top (by omega) ht).1 (tile_top (by omega) ht).2 hk ax hax).2 (by rw [htk]; exact ha) j u hj
      unfold gvT
      rw [h4, htr]
    have HSUM : Hid (alB ck ax = true → gvT ax t = gvS ax t.kids) := Lib.hid fun ha => gives_sum hax (by omega) ht (fun h => by rw [htk] at h; rw [al_not h] at ha; cases ha) (by rw [htk]; exact ha)
    have HMIN : Hid (alB ck ax = false → gvT ax t = szA cr ax - max 1 (lsX ax t.kids)) := Lib.hid fun ha => by
      unfold gvT
      rw [ls_no (by rw [htk]; exact ha), htr]
    have HS := Lib.hid hs
    have HM := Lib.hid hm
    have HIH := Lib.hid ih
    clear hi hs hm ht ih htr htk hti hwell hsz hax
    have D0 : Hid (W0St w ⟨ck, cr, cid, ca, t.kids.length, ccap⟩ (weW w ⟨ck, cr, cid, ca, t.kids.length, ccap⟩).drew) := Lib.hid ((W0St.start w _).up (Below.refl _ _).drew)
    have Dz : Hid (W0St w ⟨ck, cr, cid, ca, t.kids.length, ccap⟩ ((weW w ⟨ck, cr, cid, ca, t.kids.length, ccap⟩).alloc (gbox zG)).drew) := Lib.hid ((W0St.start w _).up ((Below.refl _ _).alloc (Nat.le_refl _) _).drew)
    have ZZ : Hid (Box9 ((weW w ⟨ck, cr, cid, ca, t.kids.length, ccap⟩).alloc (gbox zG)).drew (w.heap.size + 2) zG) := Lib.hid (by
      have h := Box9.new (weW w ⟨ck, cr, cid, ca, t.kids.length, ccap⟩) zG
      have h2 : (weW w ⟨ck, cr, cid, ca, t.kids.length, ccap⟩).heap.size = w.heap.size + 2 := by simp
      rw [h2] at h
      exact h)
    have X0 := Lib.hid (c7_of D0.out.box.cat)
    have X0z := Lib.hid (c7_of Dz.out.box.cat)
    go_enter Tryz.func54, Tryz.ntmps54
    go_wp2_with fail
    go_region_held3 (fun W => W.cell? ⟨w.heap.size, 0, none⟩ = some (.int .u8 ck) ∧ W.cell? ⟨w.heap.size, 1, none⟩ = some (.int .i64 cr.x) ∧ W.cell? ⟨w.heap.size, 2, none⟩ = some (.int .i64 cr.y) ∧ W.cell? ⟨w.heap.size, 3, none⟩ = some (.int .i64 cr.w) ∧ W.cell? ⟨w.heap.size, 4, none⟩ = some (.int .i64 cr.h) ∧ W.cell? ⟨w.heap.size, 5, none⟩ = some (.int .i64 cid) ∧ W.cell? ⟨w.heap.size, 6, none⟩ = some (.slice ca t.kids.length ccap)) (first | with_reducible exact X0.out | with_reducible exact X0z.out | with_reducible exact X1.out | with_reducible exact X2.out | with_reducible exact c7_alloc X0.out _ | with_reducible exact c7_alloc X1.out _)
      (first
        | (go_at_call 34; (with_reducible refine (lsize_any cr ax (weW w ⟨ck, cr, cid, ca, t.kids.length, ccap⟩).drew).mono ?_); rintro e w1 ⟨rfl, hb1⟩; have D1 := Lib.hid (D0.out.up hb1); have X1 := Lib.hid (c7_of D1.out.box.cat); have NZ := Lib.hid True.intro; clear hb1)
        | (go_at_call 34; (with_reducible refine (lsize_any cr ax ((weW w ⟨ck, cr, cid, ca, t.kids.length, ccap⟩).alloc (gbox zG)).drew).mono ?_); rintro e w1 ⟨rfl, hb1⟩; have D1 := Lib.hid (Dz.out.up hb1); have X1 := Lib.hid (c7_of D1.out.box.cat); have Z1 := Lib.hid (ZZ.out.up hb1); have X2 := Lib.hid (c7_put9 (k := w.heap.size + 2) (x := ⟨⟨ck, cr, cid, ca, t.kids.length, ccap⟩, szA cr ax - 1, none, 0, 0⟩) X1.out (by omega)); obtain ⟨⟨z0, z1, z2, z3, z4, z5, z6, z7, z8⟩, f0, f1, f2, f3, f4, f5, f6, f7, f8⟩ := g9_parts Z1.out; clear hb1))
    · have P := Lib.hid (wst_new D1.out ⟨⟨ck, cr, cid, ca, t.kids.length, ccap⟩, szA cr ax - 1, none, 0, 0⟩)
      rename_i hh
      clear hh
      generalize w1.alloc (gbox ⟨⟨ck, cr, cid, ca, t.kids.length, ccap⟩, szA cr ax - 1, none, 0, 0⟩) = W at P ⊢
      generalize w1.heap.size = bg at P ⊢
      have hfar := P.out.far
      have hn1 : w.heap.size ≠ bg := by omega
      have hn2 : bg ≠ w.heap.size := by omega
      have P2 := Lib.hid (wst_row P.out none 0 0)
      obtain ⟨⟨s0, s1, s2, s3, s4, s5, s6, s7, s8⟩, e0, e1, e2, e3, e4, e5, e6, e7, e8⟩ := g9_parts P.out.giv
      obtain ⟨c0, c1, c2, c3, c4, c5, c6⟩ := c7_of P.out.box.cat
      go_wp2
      go_loopg [6, 22] (t.kids.length + 1) (fun g v i wr => ∃ (k : Nat) (gs : List G) (m : Int) (a : Option Addr) (cap : Nat), g + k = t.kids.length + 1 ∧ k ≤ t.kids.length ∧ i = .int .i64 k ∧ v = .int .i64 (gvS ax (t.kids.take k)) ∧ WSt w ⟨ck, cr, cid, ca, t.kids.length, ccap⟩ bg ⟨⟨ck, cr, cid, none, 0, 0⟩, m, a, gs.length, cap⟩ wr ∧ GroveG wr (bg + 1) (.slice a gs.length cap) ax gs (t.kids.take k) ∧ (alB ck ax = false → m = szA cr ax - max 1 (lsX ax (t.kids.take k))))
      case atStart => exact ⟨0, [], szA cr ax - 1, none, 0, by omega, by omega, rfl, by simp [gvS], P2.out, by simpa using GroveG.nil _ (bg + 1) ax, fun _ => by simp [lsX]; omega⟩
      case round =>
        clear s0 s1 s2 s3 s4 s5 s6 s7 s8 e0 e1 e2 e3 e4 e5 e6 e7 e8 c0 c1 c2 c3 c4 c5 c6
        obtain ⟨k, gs, m, a, cap, hg, hk, rfl, rfl, hw, hgr, hmn⟩ := hrel
        have HG := Lib.hid hg
        have HW := Lib.hid hw
        have HF := Lib.hid hgr
        have HMN := Lib.hid hmn
        clear hg hw hgr hmn
        by_cases hlt : k < t.kids.length
        · have hlti : (k : Int) < (t.kids.length : Int) := by omega
          obtain ⟨bb, o, rfl, hf⟩ := HR.out.place (by omega)
          obtain ⟨u, hu⟩ : ∃ u, t.kids[k]? = some u := ⟨_, List.getElem?_eq_getElem hlt⟩
          obtain ⟨z, hz, hiz⟩ := hf k u hu
          clear hf
          have hba : Below wr.heap.size wr (wr.alloc (cbox z)) := (Below.refl _ _).alloc (Nat.le_refl _) _
          have HBA := Lib.hid hba
          have HK := Lib.hid (HIH.out u z (wr.alloc (cbox z)) (by have := HS.out; have := sz_kid hu; omega) (by have := HM.out; have := sz_kid hu; omega) (HKT.out k u hu).2.1 ((hiz.up HW.out.below).up hba))
          have HU := Lib.hid hu
          have HKU := Lib.hid (HKT.out k u hu)
          obtain ⟨c0, c1, c2, c3, c4, c5, c6⟩ := hz.up HW.out.below
          obtain ⟨s0, s1, s2, s3, s4, s5, s6⟩ := c7_of HW.out.box.cat
          clear hiz hz hu hba
          go_wp2_with fail
          refine HK.out.mono ?_
          rintro e w2 ⟨d, rfl, hst, hb2⟩
          have HST := Lib.hid (hst.wide (lo' := wr.heap.size) (by simp) (Nat.le_refl _))
          have HDG := Lib.hid (hst.is.split.2.2.2.2.2.1)
          have HB2 := Lib.hid (HBA.out.trans (hb2.mono HBA.out.size))
          have HW2 := Lib.hid ((HW.out.up HBA.out).up hb2)
          clear hst hb2 c0 c1 c2 c3 c4 c5 c6 s0 s1 s2 s3 s4 s5 s6
          have HAL : Hid (Below w2.heap.size w2 ((w2.alloc (gbox d)).alloc (gbox d))) := Lib.hid (((Below.refl _ _).alloc (Nat.le_refl _) _).alloc (by simp) _)
          have HW3 : Hid (WSt w ⟨ck, cr, cid, some ⟨bb, o, none⟩, t.kids.length, ccap⟩ bg ⟨⟨ck, cr, cid, none, 0, 0⟩, m, a, gs.length, cap⟩ (w2.alloc (gbox d))) := Lib.hid (HW2.out.up ((Below.refl _ _).alloc (Nat.le_refl _) _))
          have HK4 : Hid (Box9 ((w2.alloc (gbox d)).alloc (gbox d)) w2.heap.size d) := Lib.hid ((Box9.new w2 d).up ((Below.refl _ _).alloc (Nat.le_refl _) _))
          have HBR : Hid (Below (bg + 1) wr ((w2.alloc (gbox d)).alloc (gbox d))) := Lib.hid ((HB2.out.trans (HAL.out.mono HB2.out.size)).mono (lt_of_block HW.out.giv))
          have HOW : Hid (OwnG ((w2.alloc (gbox d)).alloc (gbox d)) (bg + 1) (.slice a gs.length cap) gs) := Lib.hid (HF.out.row.up (HB2.out.trans (HAL.out.mono HB2.out.size)))
          have HG9 : Hid (G9 (w2.heap.size + 1) 0 d ((w2.alloc (gbox d)).alloc (gbox d))) := Lib.hid (by
            have h := (Box9.new (w2.alloc (gbox d)) d).cat
            have e : (w2.alloc (gbox d)).heap.size = w2.heap.size + 1 := by simp
            rw [e] at h
            exact h)
          have HLG : Hid (gs.length + 1 ≤ 1000000) := Lib.hid (by have := HF.out.len; rw [List.length_take] at this; omega)
          have HOB : Hid (∀ g, (Value.slice a gs.length cap).ownBlock = some g → g < wr.heap.size) := Lib.hid fun g hg => (ownG_block HF.out.row hg).2
          obtain ⟨⟨s0, s1, s2, s3, s4, s5, s6, s7, s8⟩, e0, e1, e2, e3, e4, e5, e6, e7, e8⟩ := g9_parts HW3.out.giv
          go_wp2_with (at_builtin; refine wpList_append_giver rfl _ _ rfl (bg + 1) _ gs _ d rfl HOW.out rfl HG9.out HLG.out wr HBR.out (lt_of_block HW.out.giv) ?_; intro g5 cap5 w5 hown5 hb5 hgr5 hpl5; have hw5 := Lib.hid (HW.out.upB hb5); have HK5 : Hid (Box9 w5 w2.heap.size d) := Lib.hid ((hgr5.block _ (by simp; omega) (fun e => by have := HOB.out _ e.symm; have := HB2.out.size; omega)).trans HK4.out); have HF5 := Lib.hid (HF.out.one HB2.out HAL.out (lt_of_block HW.out.giv) HST.out hown5 hgr5 hpl5); clear hown5 hb5 hgr5 hpl5 s0 s1 s2 s3 s4 s5 s6 s7 s8 e0 e1 e2 e3 e4 e5 e6 e7 e8; obtain ⟨⟨s0, s1, s2, s3, s4, s5, s6, s7, s8⟩, e0, e1, e2, e3, e4, e5, e6, e7, e8⟩ := g9_parts hw5.out.giv; obtain ⟨⟨q0, q1, q2, q3, q4, q5, q6, q7, q8⟩, -⟩ := g9_parts HK5.out; have hn3 : w2.heap.size ≠ bg := Nat.ne_of_gt (lt_of_block HW2.out.giv); have hn4 : bg ≠ w2.heap.size := Nat.ne_of_lt (lt_of_block HW2.out.giv))
          go_wp2
          go_roundg (gk - 1)
          case measure => have := HG.out; omega
          case rel =>
            have hgi := gvS_in HAX.out (l := t.kids.take k) (fun y hy => by
              obtain ⟨j, hj⟩ := List.getElem?_of_mem (List.mem_of_mem_take hy)
              exact ⟨(HKT.out j y hj).1, (HKT.out j y hj).2.1⟩)
            have hlk : ((t.kids.take k).length : Int) ≤ 990 := by rw [List.length_take]; omega
            have hgu := HKU.out
            refine ⟨k + 1, gs ++ [d], min m d.g, some ⟨g5, 0, none⟩, cap5, by have := HG.out; omega, by omega, by go_num, ?_, ?_, ?_, ?_⟩
            · rw [gvS_step HU.out, ← wrapE, HDG.out, wrap_id (by omega)]
            · simpa using wst_give (wst_kids hw5.out (some ⟨g5, 0, none⟩) (gs.length + 1) cap5) (min m d.g)
            · rw [take_snoc HU.out]
              have h6 := HF5.out.kept (w2 := (w5.setCell ⟨bg, 8, none⟩ (.slice (some ⟨g5, 0, none⟩) (gs.length + 1) cap5)).setCell ⟨bg, 7, none⟩ (.int .i64 (min m d.g))) (by simp [World.setCell]) fun j hj _ => by
                rw [Below.heap_setCell _ ⟨bg, 7, none⟩ _ j (by show j ≠ bg; omega), Below.heap_setCell _ ⟨bg, 8, none⟩ _ j (by show j ≠ bg; omega)]
              simpa using h6
            · intro ha
              rw [HMN.out ha, lsX_step HU.out, HDG.out, hgu.2.2.2.2 ha]
              omega
        · obtain rfl : k = t.kids.length := by omega
          have hkl : ((t.kids.length : Int) < (t.kids.length : Int)) = False := by simp
          have HFA : Hid (GroveG wr (bg + 1) (.slice a gs.length cap) ax gs t.kids) := Lib.hid (by have h := HF.out; rw [List.take_length] at h; exact h)
          have HMA : Hid (alB ck ax = false → m = szA cr ax - max 1 (lsX ax t.kids)) := Lib.hid (by have h := HMN.out; rw [List.take_length] at h; exact h)
          rw [List.take_length]
          obtain ⟨c0, c1, c2, c3, c4, c5, c6⟩ := c7_of HW.out.box.cat
          go_wp2_with fail
          refine (along8_any ⟨ck, cr, cid, ca, t.kids.length, ccap⟩ ax wr).mono ?_
          rintro e w2 ⟨rfl, hb2⟩
          have HW2 := Lib.hid (HW.out.up hb2)
          have HF2 := Lib.hid (HFA.out.kept hb2.size fun j _ hj => hb2.block j hj)
          clear hb2 c0 c1 c2 c3 c4 c5 c6
          obtain ⟨⟨s0, s1, s2, s3, s4, s5, s6, s7, s8⟩, e0, e1, e2, e3, e4, e5, e6, e7, e8⟩ := g9_parts HW2.out.giv
          obtain ⟨⟨z0, z1, z2, z3, z4, z5, z6, z7, z8⟩, f0, f1, f2, f3, f4, f5, f6, f7, f8⟩ := g9_parts HW2.out.zero
          have hn5 : w.heap.size + 1 ≠ bg := by omega
          have hn6 : bg ≠ w.heap.size + 1 := by omega
          cases hal : alB ck ax with
          | true =>
            have HGV := Lib.hid (show gvS ax t.kids = gvT ax (.node ck cr cid t.kids) by rw [← HSUM.out hal]; exact congrArg (gvT ax) HETA.out)
            have HW3 := Lib.hid (wst_give HW2.out (gvS ax t.kids))
            have HF3 := Lib.hid (HF2.out.kept (w2 := w2.setCell ⟨bg, 7, none⟩ (.int .i64 (gvS ax t.kids))) (by simp [World.setCell]) fun j hj _ => Below.heap_setCell _ ⟨bg, 7, none⟩ _ j (by show j ≠ bg; omega))
            generalize gvS ax t.kids = sm at HGV HW3 HF3 ⊢
            go_wp2
            (try simp only [Exit.inBlock, Exit.then])
            refine bodyPost_ret (results_g1 rfl _ _ (w.heap.size + 1) ⟨⟨ck, cr, cid, none, 0, 0⟩, sm, a, gs.length, cap⟩ rfl (HW3.out.zero.put ⟨⟨ck, cr, cid, none, 0, 0⟩, sm, a, gs.length, cap⟩)) rfl ?_
            exact we_end HETA.out HW3.out HF3.out HFINE.out.1 HFINE.out.2.1 HFINE.out.2.2.1 HGV.out
          | false =>
            have HGV := Lib.hid (show m = gvT ax (.node ck cr cid t.kids) by rw [HMA.out hal, ← HMIN.out hal]; exact congrArg (gvT ax) HETA.out)
            go_wp2
            (try simp only [Exit.inBlock, Exit.then])
            refine bodyPost_ret (results_g1 rfl _ _ (w.heap.size + 1) ⟨⟨ck, cr, cid, none, 0, 0⟩, m, a, gs.length, cap⟩ rfl (HW2.out.zero.put ⟨⟨ck, cr, cid, none, 0, 0⟩, m, a, gs.length, cap⟩)) rfl ?_
            exact we_end HETA.out HW2.out HF2.out HFINE.out.1 HFINE.out.2.1 HFINE.out.2.2.1 HGV.out
    · have P : Hid (WSt w ⟨ck, cr, cid, ca, t.kids.length, ccap⟩ (w.heap.size + 1 + 1) ⟨⟨ck, cr, cid, ca, t.kids.length, ccap⟩, szA cr ax - 1, none, 0, 0⟩ (put9 w1 (w.heap.size + 1 + 1) ⟨⟨ck, cr, cid, ca, t.kids.length, ccap⟩, szA cr ax - 1, none, 0, 0⟩)) := Lib.hid (wst_put D1.out Z1.out (by omega) ⟨⟨ck, cr, cid, ca, t.kids.length, ccap⟩, szA cr ax - 1, none, 0, 0⟩)
      rename_i hh
      clear hh
      change Exit.then _ _ _ _ (put9 w1 (w.heap.size + 1 + 1) ⟨⟨ck, cr, cid, ca, t.kids.length, ccap⟩, szA cr ax - 1, none, 0, 0⟩)
      generalize put9 w1 (w.heap.size + 1 + 1) ⟨⟨ck, cr, cid, ca, t.kids.length, ccap⟩, szA cr ax - 1, none, 0, 0⟩ = W at P ⊢
      generalize w.heap.size + 1 + 1 = bg at P ⊢
      have hfar := P.out.far
      have hn1 : w.heap.size ≠ bg := by omega
      have hn2 : bg ≠ w.heap.size := by omega
      have P2 := Lib.hid (wst_row P.out none 0 0)
      obtain ⟨⟨s0, s1, s2, s3, s4, s5, s6, s7, s8⟩, e0, e1, e2, e3, e4, e5, e6, e7, e8⟩ := g9_parts P.out.giv
      obtain ⟨c0, c1, c2, c3, c4, c5, c6⟩ := c7_of P.out.box.cat
      go_wp2
      go_loopg [6, 22] (t.kids.length + 1) (fun g v i wr => ∃ (k : Nat) (gs : List G) (m : Int) (a : Option Addr) (cap : Nat), g + k = t.kids.length + 1 ∧ k ≤ t.kids.length ∧ i = .int .i64 k ∧ v = .int .i64 (gvS ax (t.kids.take k)) ∧ WSt w ⟨ck, cr, cid, ca, t.kids.length, ccap⟩ bg ⟨⟨ck, cr, cid, none, 0, 0⟩, m, a, gs.length, cap⟩ wr ∧ GroveG wr (bg + 1) (.slice a gs.length cap) ax gs (t.kids.take k) ∧ (alB ck ax = false → m = szA cr ax - max 1 (lsX ax (t.kids.take k))))
      case atStart => exact ⟨0, [], szA cr ax - 1, none, 0, by omega, by omega, rfl, by simp [gvS], P2.out, by simpa using GroveG.nil _ (bg + 1) ax, fun _ => by simp [lsX]; omega⟩
      case round =>
        clear s0 s1 s2 s3 s4 s5 s6 s7 s8 e0 e1 e2 e3 e4 e5 e6 e7 e8 c0 c1 c2 c3 c4 c5 c6
        obtain ⟨k, gs, m, a, cap, hg, hk, rfl, rfl, hw, hgr, hmn⟩ := hrel
        have HG := Lib.hid hg
        have HW := Lib.hid hw
        have HF := Lib.hid hgr
        have HMN := Lib.hid hmn
        clear hg hw hgr hmn
        by_cases hlt : k < t.kids.length
        · have hlti : (k : Int) < (t.kids.length : Int) := by omega
          obtain ⟨bb, o, rfl, hf⟩ := HR.out.place (by omega)
          obtain ⟨u, hu⟩ : ∃ u, t.kids[k]? = some u := ⟨_, List.getElem?_eq_getElem hlt⟩
          obtain ⟨z, hz, hiz⟩ := hf k u hu
          clear hf
          have hba : Below wr.heap.size wr (wr.alloc (cbox z)) := (Below.refl _ _).alloc (Nat.le_refl _) _
          have HBA := Lib.hid hba
          have HK := Lib.hid (HIH.out u z (wr.alloc (cbox z)) (by have := HS.out; have := sz_kid hu; omega) (by have := HM.out; have := sz_kid hu; omega) (HKT.out k u hu).2.1 ((hiz.up HW.out.below).up hba))
          have HU := Lib.hid hu
          have HKU := Lib.hid (HKT.out k u hu)
          obtain ⟨c0, c1, c2, c3, c4, c5, c6⟩ := hz.up HW.out.below
          obtain ⟨s0, s1, s2, s3, s4, s5, s6⟩ := c7_of HW.out.box.cat
          clear hiz hz hu hba
          go_wp2_with fail
          refine HK.out.mono ?_
          rintro e w2 ⟨d, rfl, hst, hb2⟩
          have HST := Lib.hid (hst.wide (lo' := wr.heap.size) (by simp) (Nat.le_refl _))
          have HDG := Lib.hid (hst.is.split.2.2.2.2.2.1)
          have HB2 := Lib.hid (HBA.out.trans (hb2.mono HBA.out.size))
          have HW2 := Lib.hid ((HW.out.up HBA.out).up hb2)
          clear hst hb2 c0 c1 c2 c3 c4 c5 c6 s0 s1 s2 s3 s4 s5 s6
          have HAL : Hid (Below w2.heap.size w2 ((w2.alloc (gbox d)).alloc (gbox d))) := Lib.hid (((Below.refl _ _).alloc (Nat.le_refl _) _).alloc (by simp) _)
          have HW3 : Hid (WSt w ⟨ck, cr, cid, some ⟨bb, o, none⟩, t.kids.length, ccap⟩ bg ⟨⟨ck, cr, cid, none, 0, 0⟩, m, a, gs.length, cap⟩ (w2.alloc (gbox d))) := Lib.hid (HW2.out.up ((Below.refl _ _).alloc (Nat.le_refl _) _))
          have HK4 : Hid (Box9 ((w2.alloc (gbox d)).alloc (gbox d)) w2.heap.size d) := Lib.hid ((Box9.new w2 d).up ((Below.refl _ _).alloc (Nat.le_refl _) _))
          have HBR : Hid (Below (bg + 1) wr ((w2.alloc (gbox d)).alloc (gbox d))) := Lib.hid ((HB2.out.trans (HAL.out.mono HB2.out.size)).mono (lt_of_block HW.out.giv))
          have HOW : Hid (OwnG ((w2.alloc (gbox d)).alloc (gbox d)) (bg + 1) (.slice a gs.length cap) gs) := Lib.hid (HF.out.row.up (HB2.out.trans (HAL.out.mono HB2.out.size)))
          have HG9 : Hid (G9 (w2.heap.size + 1) 0 d ((w2.alloc (gbox d)).alloc (gbox d))) := Lib.hid (by
            have h := (Box9.new (w2.alloc (gbox d)) d).cat
            have e : (w2.alloc (gbox d)).heap.size = w2.heap.size + 1 := by simp
            rw [e] at h
            exact h)
          have HLG : Hid (gs.length + 1 ≤ 1000000) := Lib.hid (by have := HF.out.len; rw [List.length_take] at this; omega)
          have HOB : Hid (∀ g, (Value.slice a gs.length cap).ownBlock = some g → g < wr.heap.size) := Lib.hid fun g hg => (ownG_block HF.out.row hg).2
          obtain ⟨⟨s0, s1, s2, s3, s4, s5, s6, s7, s8⟩, e0, e1, e2, e3, e4, e5, e6, e7, e8⟩ := g9_parts HW3.out.giv
          go_wp2_with (at_builtin; refine wpList_append_giver rfl _ _ rfl (bg + 1) _ gs _ d rfl HOW.out rfl HG9.out HLG.out wr HBR.out (lt_of_block HW.out.giv) ?_; intro g5 cap5 w5 hown5 hb5 hgr5 hpl5; have hw5 := Lib.hid (HW.out.upB hb5); have HK5 : Hid (Box9 w5 w2.heap.size d) := Lib.hid ((hgr5.block _ (by simp; omega) (fun e => by have := HOB.out _ e.symm; have := HB2.out.size; omega)).trans HK4.out); have HF5 := Lib.hid (HF.out.one HB2.out HAL.out (lt_of_block HW.out.giv) HST.out hown5 hgr5 hpl5); clear hown5 hb5 hgr5 hpl5 s0 s1 s2 s3 s4 s5 s6 s7 s8 e0 e1 e2 e3 e4 e5 e6 e7 e8; obtain ⟨⟨s0, s1, s2, s3, s4, s5, s6, s7, s8⟩, e0, e1, e2, e3, e4, e5, e6, e7, e8⟩ := g9_parts hw5.out.giv; obtain ⟨⟨q0, q1, q2, q3, q4, q5, q6, q7, q8⟩, -⟩ := g9_parts HK5.out; have hn3 : w2.heap.size ≠ bg := Nat.ne_of_gt (lt_of_block HW2.out.giv); have hn4 : bg ≠ w2.heap.size := Nat.ne_of_lt (lt_of_block HW2.out.giv))
          go_wp2
          go_roundg (gk - 1)
          case measure => have := HG.out; omega
          case rel =>
            have hgi := gvS_in HAX.out (l := t.kids.take k) (fun y hy => by
              obtain ⟨j, hj⟩ := List.getElem?_of_mem (List.mem_of_mem_take hy)
              exact ⟨(HKT.out j y hj).1, (HKT.out j y hj).2.1⟩)
            have hlk : ((t.kids.take k).length : Int) ≤ 990 := by rw [List.length_take]; omega
            have hgu := HKU.out
            refine ⟨k + 1, gs ++ [d], min m d.g, some ⟨g5, 0, none⟩, cap5, by have := HG.out; omega, by omega, by go_num, ?_, ?_, ?_, ?_⟩
            · rw [gvS_step HU.out, ← wrapE, HDG.out, wrap_id (by omega)]
            · simpa using wst_give (wst_kids hw5.out (some ⟨g5, 0, none⟩) (gs.length + 1) cap5) (min m d.g)
            · rw [take_snoc HU.out]
              have h6 := HF5.out.kept (w2 := (w5.setCell ⟨bg, 8, none⟩ (.slice (some ⟨g5, 0, none⟩) (gs.length + 1) cap5)).setCell ⟨bg, 7, none⟩ (.int .i64 (min m d.g))) (by simp [World.setCell]) fun j hj _ => by
                rw [Below.heap_setCell _ ⟨bg, 7, none⟩ _ j (by show j ≠ bg; omega), Below.heap_setCell _ ⟨bg, 8, none⟩ _ j (by show j ≠ bg; omega)]
              simpa using h6
            · intro ha
              rw [HMN.out ha, lsX_step HU.out, HDG.out, hgu.2.2.2.2 ha]
              omega
        · obtain rfl : k = t.kids.length := by omega
          have hkl : ((t.kids.length : Int) < (t.kids.length : Int)) = False := by simp
          have HFA : Hid (GroveG wr (bg + 1) (.slice a gs.length cap) ax gs t.kids) := Lib.hid (by have h := HF.out; rw [List.take_length] at h; exact h)
          have HMA : Hid (alB ck ax = false → m = szA cr ax - max 1 (lsX ax t.kids)) := Lib.hid (by have h := HMN.out; rw [List.take_length] at h; exact h)
          rw [List.take_length]
          obtain ⟨c0, c1, c2, c3, c4, c5, c6⟩ := c7_of HW.out.box.cat
          go_wp2_with fail
          refine (along8_any ⟨ck, cr, cid, ca, t.kids.length, ccap⟩ ax wr).mono ?_
          rintro e w2 ⟨rfl, hb2⟩
          have HW2 := Lib.hid (HW.out.up hb2)
          have HF2 := Lib.hid (HFA.out.kept hb2.size fun j _ hj => hb2.block j hj)
          clear hb2 c0 c1 c2 c3 c4 c5 c6
          obtain ⟨⟨s0, s1, s2, s3, s4, s5, s6, s7, s8⟩, e0, e1, e2, e3, e4, e5, e6, e7, e8⟩ := g9_parts HW2.out.giv
          obtain ⟨⟨z0, z1, z2, z3, z4, z5, z6, z7, z8⟩, f0, f1, f2, f3, f4, f5, f6, f7, f8⟩ := g9_parts HW2.out.zero
          have hn5 : w.heap.size + 1 ≠ bg := by omega
          have hn6 : bg ≠ w.heap.size + 1 := by omega
          cases hal : alB ck ax with
          | true =>
            have HGV := Lib.hid (show gvS ax t.kids = gvT ax (.node ck cr cid t.kids) by rw [← HSUM.out hal]; exact congrArg (gvT ax) HETA.out)
            have HW3 := Lib.hid (wst_give HW2.out (gvS ax t.kids))
            have HF3 := Lib.hid (HF2.out.kept (w2 := w2.setCell ⟨bg, 7, none⟩ (.int .i64 (gvS ax t.kids))) (by simp [World.setCell]) fun j hj _ => Below.heap_setCell _ ⟨bg, 7, none⟩ _ j (by show j ≠ bg; omega))
            generalize gvS ax t.kids = sm at HGV HW3 HF3 ⊢
            go_wp2
            (try simp only [Exit.inBlock, Exit.then])
            refine bodyPost_ret (results_g1 rfl _ _ (w.heap.size + 1) ⟨⟨ck, cr, cid, none, 0, 0⟩, sm, a, gs.length, cap⟩ rfl (HW3.out.zero.put ⟨⟨ck, cr, cid, none, 0, 0⟩, sm, a, gs.length, cap⟩)) rfl ?_
            exact we_end HETA.out HW3.out HF3.out HFINE.out.1 HFINE.out.2.1 HFINE.out.2.2.1 HGV.out
          | false =>
            have HGV := Lib.hid (show m = gvT ax (.node ck cr cid t.kids) by rw [HMA.out hal, ← HMIN.out hal]; exact congrArg (gvT ax) HETA.out)
            go_wp2
            (try simp only [Exit.inBlock, Exit.then])
            refine bodyPost_ret (results_g1 rfl _ _ (w.heap.size + 1) ⟨⟨ck, cr, cid, none, 0, 0⟩, m, a, gs.length, cap⟩ rfl (HW2.out.zero.put ⟨⟨ck, cr, cid, none, 0, 0⟩, m, a, gs.length, cap⟩)) rfl ?_
            exact we_end HETA.out HW2.out HF2.out HFINE.out.1 HFINE.out.2.1 HFINE.out.2.2.1 HGV.out
end Go.Proofs.YtcdiogifgemjbaaGreat
/- slices.Repeat of one number. -/
namespace Go.Proofs.YtcdiogifgemjbaaGreat
open Go.RowKit

theorem repl_splice (q : Int) (n k m : Nat) (hk : k + m ≤ n) : splice (ints (List.replicate k q ++ List.replicate (n - k) 0)) k (ints (List.replicate m q)) = ints (List.replicate (k + m) q ++ List.replicate (n - (k + m)) 0) := by
  unfold splice
  simp only [ints_append, ints_rep]
  rw [List.length_replicate, List.take_append_of_le_length (by simp), List.take_of_length_le (by simp), List.drop_append]
  simp only [List.length_replicate, List.drop_replicate]
  rw [show k - (k + m) = 0 by omega, show n - k - (k + m - k) = n - (k + m) by omega, List.replicate_zero, List.nil_append, ← List.append_assoc, List.replicate_append_replicate]
theorem blk_copy {w : World} {g : Nat} {l : List Int} (h : IBlk w g l) (ty : TypeId) (off dLen dCap : Nat) (b o sLen sCap : Nat) (cs : List Int) (hn : cs.length = Nat.min sLen dLen) (hsrc : ∀ (j : Nat) (m : Int), cs[j]? = some m → w.cell? ⟨b, o + j, none⟩ = some (.int .i64 m)) (hfit : off + cs.length ≤ l.length) (B : Nat) (w0 : World) (hb : Below B w0 w) (hBg : B ≤ g) :
    ∃ W, (Builtin.copy_ #[27, 27] ty #[.slice (some ⟨g, off, none⟩) dLen dCap, .slice (some ⟨b, o, none⟩) sLen sCap]).run Tryz.prog w = .ok (.int .i64 cs.length) W ∧ W.heap[g]? = some (.cells (splice (ints l) off (ints cs)).toArray 3 (0, 0)) ∧ Below B w0 W := by
  have hsz : ((Tryz.prog.info? 3).map (·.size)) = some 1 := by kernel_rfl
  have hr := run_copy_row (P := Tryz.prog) w 27 27 ty 3 g off dLen dCap ⟨b, o, none⟩ sLen sCap (ints l).toArray 3 (ints cs) Tryz.underlying27 hsz h (by rw [ints_length]; exact hn) (fun j u hu => ?_) (by simp [ints_length]; exact hfit) (ints_one cs)
  · rw [ints_length] at hr
    refine ⟨_, hr, ?_, below_setRow hb hBg _⟩
    rw [setRow_heap w g _ _ 3 _ h]
    simp [splice, ints_length]
  · unfold ints at hu
    rw [List.getElem?_map, Option.map_eq_some_iff] at hu
    obtain ⟨m, hm, rfl⟩ := hu
    rw [Go.WideShapes.add_plain]
    exact hsrc j m hm

set_option maxRecDepth 100000 in
theorem repeat_any (q : Int) (n : Nat) (v : Value) (w : World) (hv : Row w v (ints [q])) (hn : 1 ≤ n) (hn2 : n ≤ 1000000) :
    Calls Tryz.prog 85 #[v, .int .i64 n] w fun e w' => ∃ g, e = .returned (.slice (some ⟨g, 0, none⟩) n n) ∧ w.heap.size ≤ g ∧ IBlk w' g (List.replicate n q) ∧ Below w.heap.size w w' := by
  obtain ⟨a, cap, rfl⟩ := row_shape hv
  have HV := Lib.hid hv
  clear hv
  have HM : Hid (Calls Tryz.prog 91 #[.int .u64 1, .int .u64 n] w fun e w' => e = .returned (.tuple #[.int .u64 0, .int .u64 n]) ∧ w' = w) := Lib.hid (by
    have := Tryz.bits_Mul 1 n (by omega) (by omega) w
    rw [Nat.one_mul, Nat.div_eq_of_lt (by omega), Nat.mod_eq_of_lt (by omega)] at this
    exact this)
  have hmk := made_ints n (by omega)
  obtain ⟨b, o, rfl, hf⟩ := int_at HV.out (by simp)
  have HQ := Lib.hid (hf 0 q rfl)
  clear hf
  simp only [List.length_singleton]
  go_enter Tryz.func85, Tryz.ntmps85
  go_wp2_with fail
  refine HM.out.mono ?_
  rintro e w2 ⟨rfl, hw2⟩
  rw [hw2]
  clear hw2 w2
  have N0 := Lib.hid (show IBlk (w.alloc (.cells (ints (List.replicate n 0)).toArray 3)) w.heap.size (List.replicate n 0) from heap_alloc_new w _)
  have B0 : Hid (Below w.heap.size w (w.alloc (.cells (ints (List.replicate n 0)).toArray 3))) := Lib.hid ((Below.refl _ _).alloc (Nat.le_refl _) _)
  obtain ⟨W1, hcp, hW1, hBW1⟩ := blk_copy N0.out 3 0 n n b o 1 cap [q] (by show 1 = min 1 n; omega) (fun j m hm => by
    cases j with
    | zero => simp at hm; subst hm; exact (B0.out.cell (lt_of_cell HQ.out)).trans HQ.out
    | succ j => simp at hm) (by simp; omega) w.heap.size w B0.out (Nat.le_refl _)
  have HN1 : Hid (IBlk W1 w.heap.size (List.replicate 1 q ++ List.replicate (n - 1) 0)) := Lib.hid (by
    have := repl_splice q n 0 1 (by omega)
    simp only [List.replicate_zero, List.nil_append, Nat.sub_zero, Nat.zero_add, show List.replicate 1 q = [q] from rfl] at this
    rw [this] at hW1
    exact hW1)
  have HB1 := Lib.hid hBW1
  clear hW1 hBW1
  have hcp' : (Builtin.copy_ #[27, 27] 3 #[.slice (some ⟨w.heap.size, 0, none⟩) n n, .slice (some ⟨b, o, none⟩) 1 cap]).run Tryz.prog (w.alloc (.cells (ints (List.replicate n 0)).toArray 3)) = .ok (.int .i64 1) W1 := hcp
  clear hcp
  go_wp2
  clear hcp' hmk
  go_loopg [8] n (fun g i wr => ∃ k : Nat, n - k ≤ g ∧ 1 ≤ k ∧ k ≤ n ∧ i = .int .i64 k ∧ IBlk wr w.heap.size (List.replicate k q ++ List.replicate (n - k) 0) ∧ Below w.heap.size w wr)
  case atStart => exact ⟨1, by omega, by omega, by omega, rfl, HN1.out, HB1.out⟩
  case round =>
    obtain ⟨k, hg, hk1, hk, rfl, hblk, hb⟩ := hrel
    have HG := Lib.hid hg
    have HK := Lib.hid hblk
    have HB := Lib.hid hb
    clear hg hblk hb
    by_cases hlt : k < n
    · have hlti : (k : Int) < (n : Int) := by omega
      have hne : (n = k) = False := by simp; omega
      obtain ⟨m, hm⟩ : ∃ m, m = min k (n - k) := ⟨_, rfl⟩
      have KD := Lib.hid (show IBlk wr.drew w.heap.size (List.replicate k q ++ List.replicate (n - k) 0) from HK.out)
      obtain ⟨W2, hcp, hW2, hBW2⟩ := blk_copy KD.out 3 k (n - k) (n - k) w.heap.size 0 k n (List.replicate m q) (by rw [List.length_replicate]; exact hm) (fun j x hx => by
        rw [Nat.zero_add]
        refine KD.out.cell ?_
        have hj : j < m := by
          rcases Nat.lt_or_ge j m with h | h
          · exact h
          · rw [List.getElem?_eq_none (by simpa using h)] at hx; cases hx
        rw [List.getElem?_append_left (by simp; omega)]
        rw [List.getElem?_replicate, if_pos hj] at hx
        rw [List.getElem?_replicate, if_pos (by omega)]; exact hx) (by simp; omega) w.heap.size w HB.out.drew (Nat.le_refl _)
      rw [repl_splice q n k m (by omega)] at hW2
      rw [List.length_replicate] at hcp
      have HN2 : Hid (IBlk W2 w.heap.size (List.replicate (k + m) q ++ List.replicate (n - (k + m)) 0)) := Lib.hid hW2
      have HB2 := Lib.hid hBW2
      clear hW2 hBW2
      go_wp2
      go_region
      go_wp2
      go_roundg (gk - 1)
      case measure => have := HG.out; omega
      case rel => exact ⟨k + m, by have := HG.out; omega, by omega, by omega, by rw [hm]; go_num, HN2.out, HB2.out⟩
    · obtain rfl : k = n := by omega
      have hkl : ((k : Int) < (k : Int)) = False := by simp
      go_wp2
      go_ret
      refine ⟨w.heap.size, rfl, Nat.le_refl _, ?_, HB.out⟩
      have := HK.out
      rw [Nat.sub_self, List.replicate_zero, List.append_nil] at this
      exact this
end Go.Proofs.YtcdiogifgemjbaaGreat
