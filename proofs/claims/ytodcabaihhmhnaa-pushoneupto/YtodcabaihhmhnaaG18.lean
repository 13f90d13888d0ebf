/- Texts of this seat, 3 in one file. -/
import Derived.Test.YtodcabaihhmhnaaG09
import Derived.Test.YtodcabaihhmhnaaG10
import Derived.Test.YtodcabaihhmhnaaG07
import Derived.Test.YtodcabaihhmhnaaG17
import Derived.Test.YtodcabaihhmhnaaG06
import Derived.Test.YtodcabaihhmhnaaG05
/- A leaf that becomes two: the document's answer, in words. No walk. -/
namespace Go.Proofs.Ytodcabaihhmhnaa
open Go.RowKit

abbrev noC : C := ⟨0, ⟨0, 0, 0, 0⟩, 0, none, 0, 0⟩
abbrev noT : T := .node 0 ⟨0, 0, 0, 0⟩ 0 []
theorem no_fits : (⟨0, 0, 0, 0⟩ : R).fits := ⟨by simp [fits], by simp [fits], by simp [fits], by simp [fits]⟩
theorem no_is (w : World) : Is w noC noT :=
  .mk noC [] [] (.inl ⟨_, _, rfl, rfl⟩) rfl ⟨⟨by simp, by simp⟩, no_fits, by simp [fits], by simp⟩ (fun j x t hx => by simp at hx)

/-- The leaf with a number. -/
def lfB (id : Int) (t : T) : Bool := t.id == id
def lfF (id : Int) (t : T) : Option T := ((preT t).filter leafB).find? (lfB id)

mutual
def inT (id ax : Int) (l : List T) : T → T
  | .node k r i ks => if k = 1 then (if i = id then .node (ax + 1) r 0 l else .node k r i ks) else .node k r i (inL id ax l k ks)
def inL (id ax : Int) (l : List T) (k : Int) : List T → List T
  | [] => []
  | t :: ts => (if t.k = 1 ∧ t.id = id ∧ alB k ax = true then l else [inT id ax l t]) ++ inL id ax l k ts
end
theorem inT_eq (id ax : Int) (l : List T) (t : T) : inT id ax l t = if t.k = 1 then (if t.id = id then .node (ax + 1) t.r 0 l else t) else .node t.k t.r t.id (inL id ax l t.k t.kids) := by
  cases t; rw [inT]; rfl
theorem inL_append (id ax : Int) (l : List T) (k : Int) (a b : List T) : inL id ax l k (a ++ b) = inL id ax l k a ++ inL id ax l k b := by
  induction a with
  | nil => simp [inL]
  | cons t a ih => simp only [List.cons_append, inL, ih, List.append_assoc]
def inK (id ax : Int) (l : List T) (k : Int) (t : T) : List T := if t.k = 1 ∧ t.id = id ∧ alB k ax = true then l else [inT id ax l t]
theorem inL_step {id ax : Int} {l : List T} {k : Int} {ts : List T} {j : Nat} {t : T} (h : ts[j]? = some t) : inL id ax l k (ts.take (j + 1)) = inL id ax l k (ts.take j) ++ inK id ax l k t := by
  rw [List.take_add_one, h, inL_append]; simp [inL, inK]
mutual
theorem inT_sz (id ax : Int) (l : List T) (hl : szL l = 2) : ∀ t, sz (inT id ax l t) ≤ 3 * sz t
  | .node k r i ks => by
    rw [inT]
    have h1 := inL_sz id ax l hl k ks
    split
    · split
      · rw [sz, sz, hl]; omega
      · omega
    · rw [sz, sz]; omega
theorem inL_sz (id ax : Int) (l : List T) (hl : szL l = 2) (k : Int) : ∀ ts, szL (inL id ax l k ts) ≤ 3 * szL ts
  | [] => by simp [inL, szL]
  | t :: ts => by
    rw [inL, szL_append, szL]
    have h1 := inT_sz id ax l hl t
    have h2 := inL_sz id ax l hl k ts
    have h3 := sz_pos t
    split
    · rw [hl]; omega
    · simp only [szL]; omega
end
theorem inL_len (id ax : Int) (l : List T) (k : Int) (ts : List T) : (inL id ax l k ts).length ≤ ts.length * (l.length + 1) := by
  induction ts with
  | nil => simp [inL]
  | cons t ts ih =>
    rw [inL, List.length_append, List.length_cons, Nat.add_mul]
    split
    · omega
    · simp only [List.length_cons, List.length_nil]; omega

/-- Both. -/
def cutR (r : R) (ax n : Int) : R := if ax = 1 then ⟨r.x, r.y, n, r.h⟩ else ⟨r.x, r.y, r.w, n⟩
def twoL (r : R) (id ax a b fresh : Int) (ahead : Bool) : List T := if ahead = true then [.node 1 (cutR r ax b) fresh [], .node 1 (cutR r ax a) id []] else [.node 1 (cutR r ax a) id [], .node 1 (cutR r ax b) fresh []]
abbrev bareC (r : R) (id : Int) : C := ⟨1, r, id, none, 0, 0⟩
def twoC (r : R) (id ax a b fresh : Int) (ahead : Bool) : List C := if ahead = true then [bareC (cutR r ax b) fresh, bareC (cutR r ax a) id] else [bareC (cutR r ax a) id, bareC (cutR r ax b) fresh]
def bothT (t : T) (ax z fresh : Int) (ahead : Bool) : List T := twoL t.r t.id ax (szA t.r ax - 1 - spB (szA t.r ax) z) (spB (szA t.r ax) z) fresh ahead
theorem twoL_sz (r : R) (id ax a b fresh : Int) (ahead : Bool) : szL (twoL r id ax a b fresh ahead) = 2 := by
  unfold twoL; split <;> simp [szL, sz]
theorem twoL_len (r : R) (id ax a b fresh : Int) (ahead : Bool) : (twoL r id ax a b fresh ahead).length = 2 := by
  unfold twoL; split <;> rfl
theorem twoC_len (r : R) (id ax a b fresh : Int) (ahead : Bool) : (twoC r id ax a b fresh ahead).length = 2 := by
  unfold twoC; split <;> rfl
theorem cutR_fits {r : R} {ax n : Int} (h : r.fits) (hn : fits n) : (cutR r ax n).fits := by
  obtain ⟨h1, h2, h3, h4⟩ := h
  unfold cutR; split
  · exact ⟨h1, h2, hn, h4⟩
  · exact ⟨h1, h2, h3, hn⟩
theorem bare_is (w : World) {r : R} {id : Int} (hr : r.fits) (hi : fits id) : Is w (bareC r id) (.node 1 r id []) :=
  .mk (bareC r id) [] [] (.inl ⟨_, _, rfl, rfl⟩) rfl ⟨⟨by simp, by simp⟩, hr, hi, by simp⟩ (fun j x t hx => by simp at hx)
theorem two_tops (w : World) {r : R} {id ax a b fresh : Int} {ahead : Bool} (hr : r.fits) (hi : fits id) (ha : fits a) (hb : fits b) (hf : fits fresh) : Tops w (twoC r id ax a b fresh ahead) (twoL r id ax a b fresh ahead) := by
  have h1 := Tops.one (bare_is w (cutR_fits (ax := ax) hr ha) hi)
  have h2 := Tops.one (bare_is w (cutR_fits (ax := ax) hr hb) hf)
  unfold twoC twoL
  split
  · exact h2.append h1
  · exact h1.append h2

/-- What the document answers: the error's number, the tree. -/
noncomputable def spE (t : T) (id ax z fresh : Int) (ahead : Bool) : Int :=
  if tileB t = true ∧ axB ax = true ∧ 0 ≤ z ∧ 0 ≤ fresh ∧ fresh ≤ 2147483647 then
    if (lfF fresh t).isSome = true then 1 else
    match lfF id t with
    | none => 6
    | some u => if szA u.r ax < 3 then 7 else if 20000 < sz (inT id ax (bothT u ax z fresh ahead) t) then 8 else 0
  else 1
noncomputable def spT (t : T) (id ax z fresh : Int) (ahead : Bool) : T :=
  match lfF id t with
  | none => noT
  | some u => setT t.r.x t.r.y (inT id ax (bothT u ax z fresh ahead) t)
def SpSays (t : T) (id ax z fresh : Int) (ahead : Bool) (kind : IntKind) (w : World) (e : Ending) (w' : World) : Prop :=
  ∃ d, e = .returned (.tuple #[cval d, .int kind (spE t id ax z fresh ahead)]) ∧ Is w' d (if spE t id ax z fresh ahead = 0 then spT t id ax z fresh ahead else noT) ∧ Below w.heap.size w w'
end Go.Proofs.Ytodcabaihhmhnaa
/- Trees that stand as long as certain blocks do; rows of such trees, how they are made, added to. No walk. -/
namespace Go.Proofs.Ytodcabaihhmhnaa
open Go.RowKit

theorem block_size {W W' : World} {n : Nat} (hn : n ≤ W.heap.size) (h : ∀ k, k < n → W'.heap[k]? = W.heap[k]?) : n ≤ W'.heap.size := by
  rcases Nat.eq_zero_or_pos n with h0 | h0
  · omega
  · have h1 := h (n - 1) (by omega)
    rw [Array.getElem?_eq_getElem (show n - 1 < W.heap.size by omega)] at h1
    have := (Array.getElem?_eq_some_iff.1 h1).1
    omega
theorem crow_same {w w' : World} {v : Value} {cs : List C} (h : CRow w v cs) (hk : ∀ b, b < w.heap.size → w'.heap[b]? = w.heap[b]?) : CRow w' v cs := by
  have h2 : Below w.heap.size w { w with heap := w'.heap } := ⟨rfl, rfl, rfl, block_size (Nat.le_refl _) hk, hk⟩
  have h3 : CRow { w with heap := w'.heap } v cs := h.up h2
  exact h3
theorem Is.same {w w' : World} {c : C} {t : T} (h : Is w c t) (hk : ∀ b, b < w.heap.size → w'.heap[b]? = w.heap[b]?) : Is w' c t := by
  induction h with
  | mk c kids cs row len fine each ih => exact .mk c kids cs (crow_same row hk) len fine ih

/-- The elder memory stands. -/
def Eld (w0 W : World) : Prop := ∀ k, k < w0.heap.size → W.heap[k]? = w0.heap[k]?
theorem Eld.of {w0 W : World} (h : Below w0.heap.size w0 W) : Eld w0 W := h.block
theorem Eld.up {w0 W W' : World} (h : Eld w0 W) (hb : Below W.heap.size W W') : Eld w0 W' := fun k hk => by
  have h1 := h k hk
  rw [Array.getElem?_eq_getElem hk] at h1
  exact (hb.block k (Array.getElem?_eq_some_iff.1 h1).1).trans (h k hk)

/-- It is the tree in every world that is so, and has w's blocks from lo to hi. -/
def Stands (E : World → Prop) (w : World) (lo hi : Nat) (d : C) (t : T) : Prop := ∀ W' : World, E W' → (∀ k, lo ≤ k → k < hi → W'.heap[k]? = w.heap[k]?) → Is W' d t
theorem Stands.is {E : World → Prop} {w : World} {lo hi : Nat} {d : C} {t : T} (h : Stands E w lo hi d t) (hE : E w) : Is w d t := h w hE (fun _ _ _ => rfl)
theorem Stands.of {E : World → Prop} {w0 w : World} {lo hi : Nat} {d : C} {t : T} (h : Is w0 d t) (hE : ∀ W, E W → Eld w0 W) : Stands E w lo hi d t :=
  fun W' h0 _ => h.same (hE W' h0)
theorem Stands.move {E : World → Prop} {w w2 : World} {lo hi : Nat} {d : C} {t : T} (h : Stands E w lo hi d t) (h1 : ∀ k, lo ≤ k → k < hi → w2.heap[k]? = w.heap[k]?) : Stands E w2 lo hi d t :=
  fun W' g0 g1 => h W' g0 fun k hl hh => (g1 k hl hh).trans (h1 k hl hh)
theorem Stands.wide {E : World → Prop} {w : World} {lo hi lo' hi' : Nat} {d : C} {t : T} (h : Stands E w lo hi d t) (hl : lo' ≤ lo) (hh : hi ≤ hi') : Stands E w lo' hi' d t :=
  fun W' g0 g1 => h W' g0 fun k hl' hh' => g1 k (by omega) (by omega)
theorem Stands.up {E : World → Prop} {w w2 : World} {lo hi : Nat} {d : C} {t : T} (h : Stands E w lo hi d t) (hb : Below w.heap.size w w2) (hh : hi ≤ w.heap.size) : Stands E w2 lo hi d t :=
  h.move fun k _ hk => hb.block k (by omega)
/-- A leaf whose row is none stands everywhere. -/
theorem Stands.leaf {E : World → Prop} {w : World} {lo hi : Nat} {k : Int} {r : R} {id : Int} (hk : 0 ≤ k ∧ k ≤ 255) (hr : r.fits) (hi' : fits id) : Stands E w lo hi ⟨k, r, id, none, 0, 0⟩ (.node k r id []) :=
  fun _ _ _ => .mk ⟨k, r, id, none, 0, 0⟩ [] [] (.inl ⟨_, _, rfl, rfl⟩) rfl ⟨hk, hr, hi', by simp⟩ (fun j x t hx => by simp at hx)

/-- Trees in a row of the call's own; each stands as long as the elder ones do, and some blocks from base on, the row's own not among them. -/
structure Grove (E : World → Prop) (w : World) (base : Nat) (v : Value) (cs : List C) (l : List T) : Prop where
  row : OwnC w base v cs
  len : cs.length = l.length
  each : ∀ (j : Nat) (x : C) (t : T), cs[j]? = some x → l[j]? = some t → ∃ lo hi, base ≤ lo ∧ hi ≤ w.heap.size ∧ (∀ g, v.ownBlock = some g → g < lo ∨ hi ≤ g) ∧ Stands E w lo hi x t
theorem Grove.empty (E : World → Prop) (w : World) (base : Nat) (hb : base ≤ w.heap.size) : Grove E (w.alloc (.cells #[] 26)) base (.slice (some ⟨w.heap.size, 0, none⟩) 0 0) [] [] := ⟨OwnC.empty w base hb, rfl, fun j x t hx => by simp at hx⟩
theorem Grove.nil (E : World → Prop) (w : World) (base : Nat) : Grove E w base (.slice none 0 0) [] [] := ⟨OwnC.nil w base, rfl, fun j x t hx => by simp at hx⟩
theorem Grove.up {E : World → Prop} {w w2 : World} {base : Nat} {v : Value} {cs : List C} {l : List T} (h : Grove E w base v cs l) (hb : Below w.heap.size w w2) : Grove E w2 base v cs l :=
  ⟨h.row.up hb, h.len, fun j x t hx ht => by
    obtain ⟨lo, hi, a1, a2, a3, a4⟩ := h.each j x t hx ht
    exact ⟨lo, hi, a1, Nat.le_trans a2 hb.size, a3, a4.up hb a2⟩⟩
/-- Some more. -/
theorem Grove.add {E : World → Prop} {wr w2 w2' w3 : World} {base : Nat} {v : Value} {cs ds : List C} {l us : List T} {g cap : Nat}
    (h : Grove E wr base v cs l) (hb : Below wr.heap.size wr w2) (hb' : Below w2.heap.size w2 w2') (hdl : ds.length = us.length)
    (hd : ∀ (j : Nat) (x : C) (u : T), ds[j]? = some x → us[j]? = some u → ∃ lo hi, base ≤ lo ∧ (wr.heap.size ≤ lo ∨ hi ≤ lo) ∧ hi ≤ w2.heap.size ∧ Stands E w2 lo hi x u)
    (hown : OwnC w3 base (.slice (some ⟨g, 0, none⟩) (cs ++ ds).length cap) (cs ++ ds)) (hgr : w2'.grownBy w3 v.ownBlock) (hpl : v.ownBlock = some g ∨ g = w2'.heap.size) :
    Grove E w3 base (.slice (some ⟨g, 0, none⟩) (cs ++ ds).length cap) (cs ++ ds) (l ++ us) := by
  have hvb : ∀ k, v.ownBlock = some k → base ≤ k ∧ k < wr.heap.size := fun k hk => own_block h.row hk
  have hs := hb.size
  have hs' := hb'.size
  have hs3 := hgr.size
  have hsame : ∀ k, k < w2.heap.size → v.ownBlock ≠ some k → w3.heap[k]? = w2.heap[k]? := fun k hk hne => by
    rw [hgr.block k (by omega) (fun e => hne e.symm)]
    exact hb'.block k hk
  have hgo : ∀ k, (Value.slice (some ⟨g, 0, none⟩) (cs ++ ds).length cap).ownBlock = some k → k = g := fun k hk => by cases hk; rfl
  refine ⟨hown, by simp [h.len, hdl], fun j x t hx ht => ?_⟩
  rcases Nat.lt_or_ge j cs.length with hj | hj
  · rw [List.getElem?_append_left hj] at hx
    rw [List.getElem?_append_left (by rw [← h.len]; exact hj)] at ht
    obtain ⟨lo, hi, a1, a2, a3, a4⟩ := h.each j x t hx ht
    refine ⟨lo, hi, a1, by omega, fun k hk => ?_, a4.move fun k hl hh => ?_⟩
    · rw [hgo k hk]
      rcases hpl with hp | hp
      · exact a3 g hp
      · right; omega
    · rw [hsame k (by omega) (fun e => by have := a3 k e; omega)]
      exact hb.block k (by omega)
  · rw [List.getElem?_append_right hj] at hx
    rw [List.getElem?_append_right (by rw [← h.len]; exact hj), ← h.len] at ht
    obtain ⟨lo, hi, a1, a2, a3, a4⟩ := hd _ x t hx ht
    refine ⟨lo, hi, a1, by omega, fun k hk => ?_, a4.move fun k hl hh => ?_⟩
    · rw [hgo k hk]
      rcases hpl with hp | hp
      · have := hvb g hp; omega
      · right; omega
    · exact hsame k (by omega) fun e => by have := hvb k e; omega
/-- One more, that the call just made. -/
theorem Grove.one {E : World → Prop} {wr w2 w2' w3 : World} {base : Nat} {v : Value} {cs : List C} {l : List T} {d : C} {u : T} {g cap : Nat}
    (h : Grove E wr base v cs l) (hb : Below wr.heap.size wr w2) (hb' : Below w2.heap.size w2 w2') (hbase : base ≤ wr.heap.size)
    (hd : Stands E w2 wr.heap.size w2.heap.size d u)
    (hown : OwnC w3 base (.slice (some ⟨g, 0, none⟩) (cs ++ [d]).length cap) (cs ++ [d])) (hgr : w2'.grownBy w3 v.ownBlock) (hpl : v.ownBlock = some g ∨ g = w2'.heap.size) :
    Grove E w3 base (.slice (some ⟨g, 0, none⟩) (cs ++ [d]).length cap) (cs ++ [d]) (l ++ [u]) := by
  refine h.add hb hb' rfl (fun j x y hx hy => ?_) hown hgr hpl
  cases j with
  | zero => simp at hx hy; subst hx; subst hy; exact ⟨_, _, hbase, .inl (Nat.le_refl _), Nat.le_refl _, hd⟩
  | succ j => simp at hx
/-- The cell whose kids they are. -/
theorem Grove.tree {E : World → Prop} {w : World} {base : Nat} {k : Int} {r : R} {id : Int} {a : Option Addr} {n cap : Nat} {cs : List C} {l : List T} (h : Grove E w base (.slice a n cap) cs l) (hk : 0 ≤ k ∧ k ≤ 255) (hr : r.fits) (hi : fits id) (hl : l.length ≤ 1954687338211) :
    Stands E w base w.heap.size ⟨k, r, id, a, n, cap⟩ (.node k r id l) := by
  intro W' g0 g1
  have hn : n = cs.length := h.row.row.len
  refine .mk ⟨k, r, id, a, n, cap⟩ l cs (ownC_kept h.row fun g hg => ?_).row h.len ⟨hk, hr, hi, by show n ≤ _; rw [hn, h.len]; exact hl⟩ fun j x t hx ht => ?_
  · have := own_block h.row hg
    exact g1 g this.1 this.2
  · obtain ⟨lo, hi, a1, a2, a3, a4⟩ := h.each j x t hx ht
    exact a4 W' g0 fun k hl hh => g1 k (by omega) (by omega)
end Go.Proofs.Ytodcabaihhmhnaa
/- The leaf with a number: the document's answer. -/
namespace Go.Proofs.Ytodcabaihhmhnaa
open Go.RowKit

set_option maxRecDepth 100000 in
theorem results_c2 {fn : Func} {p u : Tmp} (h : fn.results = #[.cell p 26, .tmp u]) (tmps : Array Value) (w : World) (g : Nat) (c : C) (hp : tmps.getD p undef = .pointer (some ⟨g, 0, none⟩)) (hg : Box7 w g c) :
    (results fn tmps).run Try.prog w = .ok (.tuple #[cval c, tmps.getD u undef]) w := by
  have hg' : w.heap[g]? = some (cbox c) := hg
  have hl := run_loadVar_row (P := Try.prog) w g 26 26 _ (0, 0) _ hg' Try.underlying26 rfl (by kernel_rfl)
  rw [results_cell_tmp h, hp]
  simp [asAddr, hl, Result.andThen]

/-- A tree, and whether there is one. -/
def LfSays (r : Option T) (w : World) (e : Ending) (w' : World) : Prop := ∃ d, e = .returned (.tuple #[cval d, .bool r.isSome]) ∧ Is w' d (r.getD noT) ∧ Below w.heap.size w w'
theorem lf_yes {r : Option T} {u : T} {w w' : World} {d : C} (h : r = some u) (hi : Is w' d u) (hb : Below w.heap.size w w') : LfSays r w (.returned (.tuple #[cval d, .bool true])) w' := by subst h; exact ⟨d, rfl, hi, hb⟩
theorem lf_no {r : Option T} {w w' : World} (h : r = none) (hb : Below w.heap.size w w') : LfSays r w (.returned (.tuple #[cval noC, .bool false])) w' := by subst h; exact ⟨noC, rfl, no_is w', hb⟩

theorem find_first {l : List T} {k : Nat} {u : T} {p : T → Bool} (hno : ∀ (j : Nat) (x : T), j < k → l[j]? = some x → p x = false) (hu : l[k]? = some u) (hp : p u = true) : l.find? p = some u := by
  induction l generalizing k with
  | nil => simp at hu
  | cons x l ih =>
    cases k with
    | zero => simp at hu; subst hu; rw [List.find?_cons_of_pos hp]
    | succ k =>
      have h0 := hno 0 x (by omega) rfl
      rw [List.find?_cons_of_neg (by rw [h0]; decide)]
      exact ih (k := k) (fun j y hj hy => hno (j + 1) y (by omega) (by simpa using hy)) (by simpa using hu)
theorem find_never {l : List T} {p : T → Bool} (hno : ∀ (j : Nat) (x : T), j < l.length → l[j]? = some x → p x = false) : l.find? p = none := by
  rw [List.find?_eq_none]
  intro x hx
  obtain ⟨j, hj, rfl⟩ := List.getElem_of_mem hx
  rw [hno j _ hj (List.getElem?_eq_getElem hj)]
  decide

end Go.Proofs.Ytodcabaihhmhnaa
