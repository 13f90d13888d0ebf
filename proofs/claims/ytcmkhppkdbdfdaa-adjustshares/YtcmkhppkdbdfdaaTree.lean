/- Cells of layouts, as they lie in memory, and as trees. -/
import Derived.Test.YtcmkhppkdbdfdaaAll
namespace Go.Proofs.Ytcmkhppkdbdfdaa
open Go.RowKit

/-- A tree. -/
inductive T where
  | node (k : Int) (r : R) (id : Int) (kids : List T)
deriving Inhabited
namespace T
def k : T → Int | .node k _ _ _ => k
def r : T → R | .node _ r _ _ => r
def id : T → Int | .node _ _ i _ => i
def kids : T → List T | .node _ _ _ l => l
theorem eta (t : T) : t = .node t.k t.r t.id t.kids := by cases t; rfl
end T

mutual
def sz : T → Nat
  | .node _ _ _ l => 1 + szL l
def szL : List T → Nat
  | [] => 0
  | t :: l => sz t + szL l
end
theorem sz_node (t : T) : sz t = 1 + szL t.kids := by cases t; rw [sz]; rfl
theorem sz_pos (t : T) : 1 ≤ sz t := by rw [sz_node]; omega
theorem szL_append (a b : List T) : szL (a ++ b) = szL a + szL b := by
  induction a with
  | nil => simp [szL]
  | cons t l ih => simp only [List.cons_append, szL, ih]; omega
theorem szL_take_succ {l : List T} {k : Nat} {t : T} (h : l[k]? = some t) : szL (l.take (k + 1)) = szL (l.take k) + sz t := by
  rw [List.take_add_one, h, szL_append]; simp [szL]
theorem szL_take_le (l : List T) (k : Nat) : szL (l.take k) ≤ szL l := by
  have := szL_append (l.take k) (l.drop k)
  rw [List.take_append_drop] at this; omega
theorem szL_mem {l : List T} {k : Nat} {t : T} (h : l[k]? = some t) : sz t ≤ szL l := by
  have := szL_take_succ h
  have := szL_take_le l (k + 1)
  omega
theorem sz_kid {t u : T} {k : Nat} (h : t.kids[k]? = some u) : sz u < sz t := by
  have := szL_mem h
  rw [sz_node t]; omega
theorem szL_len (l : List T) : l.length ≤ szL l := by
  induction l with
  | nil => simp
  | cons t l ih => have := sz_pos t; simp only [szL, List.length_cons]; omega

/-- A cell, as it lies in memory. -/
structure C where
  k : Int
  r : R
  id : Int
  a : Option Addr
  n : Nat
  cap : Nat
deriving Inhabited

def encC (c : C) : List Value := [.int .u8 c.k, .int .i64 c.r.x, .int .i64 c.r.y, .int .i64 c.r.w, .int .i64 c.r.h, .int .i64 c.id, .slice c.a c.n c.cap]
abbrev cval (c : C) : Value := .agg #[.int .u8 c.k, .int .i64 c.r.x, .int .i64 c.r.y, .int .i64 c.r.w, .int .i64 c.r.h, .int .i64 c.id, .slice c.a c.n c.cap]
abbrev cbox (c : C) : Obj := .cells #[.int .u8 c.k, .int .i64 c.r.x, .int .i64 c.r.y, .int .i64 c.r.w, .int .i64 c.r.h, .int .i64 c.id, .slice c.a c.n c.cap] 33

def CAt (w : World) (b o : Nat) (c : C) : Prop :=
  w.cell? ⟨b, o, none⟩ = some (.int .u8 c.k) ∧ w.cell? ⟨b, o + 1, none⟩ = some (.int .i64 c.r.x) ∧ w.cell? ⟨b, o + 2, none⟩ = some (.int .i64 c.r.y) ∧ w.cell? ⟨b, o + 3, none⟩ = some (.int .i64 c.r.w) ∧ w.cell? ⟨b, o + 4, none⟩ = some (.int .i64 c.r.h) ∧ w.cell? ⟨b, o + 5, none⟩ = some (.int .i64 c.id) ∧ w.cell? ⟨b, o + 6, none⟩ = some (.slice c.a c.n c.cap)
theorem CAt.lt {w : World} {b o : Nat} {c : C} (h : CAt w b o c) : b < w.heap.size := lt_of_cell h.1
theorem CAt.upB {base : Nat} {w w' : World} {b o : Nat} {c : C} (h : CAt w b o c) (hb : Below base w w') (hl : b < base) : CAt w' b o c := by
  obtain ⟨h1, h2, h3, h4, h5, h6, h7⟩ := h
  exact ⟨(hb.cell hl).trans h1, (hb.cell hl).trans h2, (hb.cell hl).trans h3, (hb.cell hl).trans h4, (hb.cell hl).trans h5, (hb.cell hl).trans h6, (hb.cell hl).trans h7⟩
theorem CAt.up {w w' : World} {b o : Nat} {c : C} (h : CAt w b o c) (hb : Below w.heap.size w w') : CAt w' b o c := h.upB hb h.lt

/-- Cells in a slice. -/
def CRow (w : World) (v : Value) (l : List C) : Prop :=
  (∃ a cap, v = .slice a 0 cap ∧ l = []) ∨ ∃ b o cap, v = .slice (some ⟨b, o, none⟩) l.length cap ∧ ∀ (j : Nat) (c : C), l[j]? = some c → CAt w b (o + j * 7) c
theorem CRow.up {w w' : World} {v : Value} {l : List C} (h : CRow w v l) (hb : Below w.heap.size w w') : CRow w' v l := by
  rcases h with h | ⟨b, o, cap, h1, h2⟩
  · exact .inl h
  · exact .inr ⟨b, o, cap, h1, fun j f hf => (h2 j f hf).up hb⟩
theorem CRow.shape {w : World} {v : Value} {l : List C} (hr : CRow w v l) : ∃ a cap, v = .slice a l.length cap := by
  rcases hr with ⟨a, cap, rfl, rfl⟩ | ⟨b, o, cap, rfl, -⟩
  · exact ⟨_, _, rfl⟩
  · exact ⟨_, _, rfl⟩
theorem CRow.len {w : World} {a : Option Addr} {n cap : Nat} {l : List C} (hr : CRow w (.slice a n cap) l) : n = l.length := by
  obtain ⟨a', cap', h⟩ := hr.shape
  cases h; rfl
theorem CRow.place {w : World} {a : Option Addr} {n cap : Nat} {l : List C} (hr : CRow w (.slice a n cap) l) (hp : 0 < l.length) : ∃ b o, a = some ⟨b, o, none⟩ ∧ ∀ (j : Nat) (c : C), l[j]? = some c → CAt w b (o + j * 7) c := by
  rcases hr with ⟨_, _, -, rfl⟩ | ⟨b, o, cap', he, hf⟩
  · simp at hp
  · obtain ⟨rfl, rfl⟩ : a = some ⟨b, o, none⟩ ∧ cap = cap' := by cases he; exact ⟨rfl, rfl⟩
    exact ⟨b, o, rfl, hf⟩

def C.fine (c : C) : Prop := (0 ≤ c.k ∧ c.k ≤ 255) ∧ c.r.fits ∧ fits c.id ∧ c.n ≤ 1954687338211

/-- The tree that a cell is the top of. -/
inductive Is (w : World) : C → T → Prop
  | mk (c : C) (kids : List T) (cs : List C) (row : CRow w (.slice c.a c.n c.cap) cs) (len : cs.length = kids.length) (fine : c.fine) (each : ∀ (j : Nat) (x : C) (t : T), cs[j]? = some x → kids[j]? = some t → Is w x t) : Is w c (.node c.k c.r c.id kids)

theorem Is.up {w w' : World} {c : C} {t : T} (h : Is w c t) (hb : Below w.heap.size w w') : Is w' c t := by
  induction h with
  | mk c kids cs row len fine each ih => exact .mk c kids cs (row.up hb) len fine ih
theorem Is.split {w : World} {c : C} {t : T} (h : Is w c t) : t.k = c.k ∧ t.r = c.r ∧ t.id = c.id ∧ c.fine ∧ ∃ cs, CRow w (.slice c.a c.n c.cap) cs ∧ cs.length = t.kids.length ∧ c.n = t.kids.length ∧ ∀ (j : Nat) (x : C) (u : T), cs[j]? = some x → t.kids[j]? = some u → Is w x u := by
  cases h with
  | mk c kids cs row len fine each => exact ⟨rfl, rfl, rfl, fine, cs, row, len, row.len.trans len, each⟩

/-- Trees in a slice. -/
def TRow (w : World) (v : Value) (l : List T) : Prop := ∃ cs, CRow w v cs ∧ cs.length = l.length ∧ ∀ (j : Nat) (x : C) (u : T), cs[j]? = some x → l[j]? = some u → Is w x u
theorem TRow.up {w w' : World} {v : Value} {l : List T} (h : TRow w v l) (hb : Below w.heap.size w w') : TRow w' v l := by
  obtain ⟨cs, h1, h2, h3⟩ := h
  exact ⟨cs, h1.up hb, h2, fun j x u hx hu => (h3 j x u hx hu).up hb⟩
theorem TRow.shape {w : World} {v : Value} {l : List T} (hr : TRow w v l) : ∃ a cap, v = .slice a l.length cap := by
  obtain ⟨cs, h1, h2, h3⟩ := hr
  rw [← h2]; exact h1.shape
theorem TRow.len {w : World} {a : Option Addr} {n cap : Nat} {l : List T} (hr : TRow w (.slice a n cap) l) : n = l.length := by
  obtain ⟨a', cap', h⟩ := hr.shape
  cases h; rfl
theorem TRow.place {w : World} {a : Option Addr} {n cap : Nat} {l : List T} (hr : TRow w (.slice a n cap) l) (hp : 0 < l.length) : ∃ b o, a = some ⟨b, o, none⟩ ∧ ∀ (j : Nat) (t : T), l[j]? = some t → ∃ c, CAt w b (o + j * 7) c ∧ Is w c t := by
  obtain ⟨cs, h1, h2, h3⟩ := hr
  obtain ⟨b, o, rfl, hf⟩ := h1.place (by omega)
  refine ⟨b, o, rfl, fun j t ht => ?_⟩
  have hj : j < cs.length := by
    rw [h2]
    rcases Nat.lt_or_ge j l.length with h | h
    · exact h
    · rw [List.getElem?_eq_none h] at ht; cases ht
  exact ⟨cs[j], hf j _ (List.getElem?_eq_getElem hj), h3 j _ t (List.getElem?_eq_getElem hj) ht⟩
theorem Is.row {w : World} {c : C} {t : T} (h : Is w c t) : TRow w (.slice c.a c.n c.cap) t.kids := by
  obtain ⟨-, -, -, -, cs, h1, h2, -, h3⟩ := h.split
  exact ⟨cs, h1, h2, h3⟩
theorem Is.n {w : World} {c : C} {t : T} (h : Is w c t) : c.n = t.kids.length := h.row.len
theorem Is.fine {w : World} {c : C} {t : T} (h : Is w c t) : c.fine := h.split.2.2.2.1
theorem Is.len {w : World} {c : C} {t : T} (h : Is w c t) : t.kids.length ≤ 1954687338211 := by
  have := h.fine.2.2.2
  rw [h.n] at this
  exact this
end Go.Proofs.Ytcmkhppkdbdfdaa
