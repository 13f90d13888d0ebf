/- Texts of this seat, 3 in one file. -/
import Derived.Test.YtcdiogifgemjbaaGreatG01
import Derived.OwnWalk
import Derived.Maps.AppendAt
import Derived.IntWalk
/- Rows of rectangles; what is asked of all of them. -/
namespace Go.Proofs.YtcdiogifgemjbaaGreat
open Go.RowKit

def Enters (F : Nat) : Prop := ∀ (args : Array Value) (w : World), (callFunc F args).run Tryz.prog w = .ok (.enter F args) w

theorem lt_of_cell {w : World} {a : Addr} {v : Value} (h : w.cell? a = some v) : a.block < w.heap.size := World.block_lt_of_cell? w a h

/-- A rectangle, where it lies. -/
def RAt (w : World) (b o : Nat) (r : R) : Prop :=
  w.cell? ⟨b, o, none⟩ = some (.int .i64 r.x) ∧ w.cell? ⟨b, o + 1, none⟩ = some (.int .i64 r.y) ∧ w.cell? ⟨b, o + 2, none⟩ = some (.int .i64 r.w) ∧ w.cell? ⟨b, o + 3, none⟩ = some (.int .i64 r.h)
theorem RAt.up {w w' : World} {b o : Nat} {r : R} (h : RAt w b o r) (hb : Below w.heap.size w w') : RAt w' b o r := by
  obtain ⟨h1, h2, h3, h4⟩ := h
  exact ⟨(hb.cell (lt_of_cell h1)).trans h1, (hb.cell (lt_of_cell h2)).trans h2, (hb.cell (lt_of_cell h3)).trans h3, (hb.cell (lt_of_cell h4)).trans h4⟩
theorem RAt.grown {w w' : World} {b o : Nat} {r : R} {row : Option Nat} (h : RAt w b o r) (hb : w.grownBy w' row) (hne : some b ≠ row) : RAt w' b o r := by
  obtain ⟨h1, h2, h3, h4⟩ := h
  exact ⟨hb.cell h1 hne, hb.cell h2 hne, hb.cell h3 hne, hb.cell h4 hne⟩

/-- Rectangles in a slice. -/
def RRow (w : World) (v : Value) (l : List R) : Prop :=
  (∃ a cap, v = .slice a 0 cap ∧ l = []) ∨ ∃ b o cap, v = .slice (some ⟨b, o, none⟩) l.length cap ∧ ∀ (j : Nat) (r : R), l[j]? = some r → RAt w b (o + j * 4) r
theorem RRow.up {w w' : World} {v : Value} {l : List R} (h : RRow w v l) (hb : Below w.heap.size w w') : RRow w' v l := by
  rcases h with h | ⟨b, o, cap, h1, h2⟩
  · exact .inl h
  · exact .inr ⟨b, o, cap, h1, fun j f hf => (h2 j f hf).up hb⟩
theorem RRow.shape {w : World} {v : Value} {l : List R} (hr : RRow w v l) : ∃ a cap, v = .slice a l.length cap := by
  rcases hr with ⟨a, cap, rfl, rfl⟩ | ⟨b, o, cap, rfl, -⟩
  · exact ⟨_, _, rfl⟩
  · exact ⟨_, _, rfl⟩
theorem RRow.place {w : World} {a : Option Addr} {cap : Nat} {l : List R} (hr : RRow w (.slice a l.length cap) l) (hp : 0 < l.length) : ∃ b o, a = some ⟨b, o, none⟩ ∧ ∀ (j : Nat) (r : R), l[j]? = some r → RAt w b (o + j * 4) r := by
  rcases hr with ⟨_, _, -, rfl⟩ | ⟨b, o, cap', he, hf⟩
  · simp at hp
  · obtain ⟨rfl, rfl⟩ : a = some ⟨b, o, none⟩ ∧ cap = cap' := by cases he; exact ⟨rfl, rfl⟩
    exact ⟨b, o, rfl, hf⟩

theorem Below.gb {w w' : World} (h : Below w.heap.size w w') (row : Option Nat) : w.grownBy w' row := ⟨h.os, h.tape, h.output, h.size, fun k hk _ => h.block k hk⟩
theorem gb_below {w w' : World} (h : w.grownBy w' none) : Below w.heap.size w w' := ⟨h.os, h.tape, h.output, h.size, fun k hk => h.block k hk (by simp)⟩

/-- Are the first n so? -/
def allB (ans : Nat → Bool) : Nat → Bool
  | 0 => true
  | n + 1 => allB ans n && ans n
theorem allB_iff (ans : Nat → Bool) (n : Nat) : allB ans n = true ↔ ∀ k, k < n → ans k = true := by
  induction n with
  | zero => simp [allB]
  | succ n ih =>
    rw [allB, Bool.and_eq_true, ih]
    constructor
    · intro ⟨h1, h2⟩ k hk
      rcases Nat.lt_or_ge k n with h | h
      · exact h1 k h
      · obtain rfl : k = n := by omega
        exact h2
    · exact fun h => ⟨fun k hk => h k (by omega), h n (by omega)⟩
theorem allB_false {ans : Nat → Bool} {n k : Nat} (hk : k < n) (h : ans k = false) : allB ans n = false := by
  cases e : allB ans n with
  | false => rfl
  | true => rw [(allB_iff ans n).1 e k hk] at h; cases h

/-- What is asked of a closure that is asked one rectangle after the other: it may turn one row of memory (row), and lay blocks. -/
def Judge (F : Nat) (lb : Array Value) (l : List R) (row : Option Nat) (I : Nat → World → Prop) (ans : Nat → Bool) : Prop :=
  ∀ (k : Nat) (r : R) (W : World), l[k]? = some r → I k W → Calls Tryz.prog F (#[val r] ++ lb) W fun e w' => e = .returned (.bool (ans k)) ∧ W.grownBy w' row ∧ (ans k = true → I (k + 1) w')

theorem alone_any (F : Nat) (hE : Enters F) (lb : Array Value) (l : List R) (row : Option Nat) (I : Nat → World → Prop) (ans : Nat → Bool) (hJ : Judge F lb l row I ans) (hup : ∀ k W W', I k W → Below W.heap.size W W' → I k W')
    (k : Nat) (r : R) (bx : Nat) (W : World) (hr : l[k]? = some r) (hI : I k W) (hc : W.cell? ⟨bx, 0, none⟩ = some (.func (.func F) #[] lb)) :
    Calls Tryz.prog 97 #[val r, .pointer (some ⟨bx, 0, none⟩)] W fun e w' => e = .returned (.bool (!ans k)) ∧ W.grownBy w' row ∧ (ans k = true → I (k + 1) w') := by
  have hent : ∀ (args : Array Value) (w : World), (callFunc F args).run Tryz.prog w = .ok (.enter F args) w := hE
  have HB : Hid (Below W.heap.size W (W.alloc (.cells #[.int .i64 r.x, .int .i64 r.y, .int .i64 r.w, .int .i64 r.h] 23))) := (Below.refl _ _).alloc (Nat.le_refl _) _
  have hb : bx < W.heap.size := lt_of_cell hc
  have hne : bx ≠ W.heap.size := by omega
  have hJ' := Lib.hid (hJ k r _ hr (hup k _ _ hI HB.out))
  clear hI
  clear hJ hr
  generalize ans k = a at hJ' ⊢
  go_enter Tryz.func97, Tryz.ntmps97
  go_wp2
  refine hJ'.out.mono ?_
  rintro e w2 ⟨rfl, hg, hi⟩
  have HG := Lib.hid hg
  have HI := Lib.hid hi
  clear hg hi
  cases a
  · go_wp2
    go_ret
    exact ⟨rfl, (Below.gb HB.out row).trans HG.out, by first | exact HI.out | exact HI.out trivial | exact fun _ => HI.out trivial⟩
  · go_wp2
    go_ret
    exact ⟨rfl, (Below.gb HB.out row).trans HG.out, by first | exact HI.out | exact HI.out trivial | exact fun _ => HI.out trivial⟩

set_option maxRecDepth 100000 in
theorem index_any (F : Nat) (hE : Enters F) (lb : Array Value) (l : List R) (row : Option Nat) (I : Nat → World → Prop) (ans : Nat → Bool) (hJ : Judge F lb l row I ans) (hup : ∀ k W W', I k W → Below W.heap.size W W' → I k W')
    (v : Value) (bx : Nat) (w : World) (hr : RRow w v l) (hrow : ∀ a n c, v = .slice (some a) n c → some a.block ≠ row) (hlen : l.length ≤ 100000) (hI : I 0 w) (hc : w.cell? ⟨bx, 0, none⟩ = some (.func (.func F) #[] lb)) (hbx : some bx ≠ row) :
    Calls Tryz.prog 104 #[v, .func (.func 97) #[] #[.pointer (some ⟨bx, 0, none⟩)]] w fun e w' => ∃ n : Int, e = .returned (.int .i64 n) ∧ decide (0 ≤ n) = !allB ans l.length ∧ w.grownBy w' row ∧ (allB ans l.length = true → I l.length w') := by
  obtain ⟨a, cap, rfl⟩ := hr.shape
  have HR := Lib.hid hr
  have HI := Lib.hid hI
  have HC := Lib.hid hc
  have HJ := Lib.hid hJ
  have HU := Lib.hid hup
  have HRow := Lib.hid hrow
  clear hr hI hc hJ hup hrow
  go_enter Tryz.func104, Tryz.ntmps104
  go_wp2
  go_loopg [8] (l.length + 1) (fun g i wr => ∃ k : Nat, g + k = l.length + 1 ∧ k ≤ l.length ∧ i = .int .i64 k ∧ allB ans k = true ∧ w.grownBy wr row ∧ I k wr)
  case atStart => exact ⟨0, by omega, by omega, rfl, rfl, World.grownBy.refl _ _, HI.out⟩
  case round =>
    obtain ⟨k, hg, hk, rfl, ha, hgr, hik⟩ := hrel
    have HB : Hid (w.grownBy wr row ∧ allB ans k = true ∧ gk + k = l.length + 1 ∧ I k wr) := ⟨hgr, ha, hg, hik⟩
    clear hgr ha hg hik
    by_cases hlt : k < l.length
    · obtain ⟨b, o, rfl, hf⟩ := HR.out.place (by omega)
      obtain ⟨r, hfk⟩ : ∃ r, l[k]? = some r := ⟨_, List.getElem?_eq_getElem hlt⟩
      obtain ⟨c0, c1, c2, c3⟩ := (hf k r hfk).grown HB.out.1 (HRow.out _ _ _ rfl)
      have HK := Lib.hid (alone_any F hE lb l row I ans HJ.out HU.out k r bx wr hfk HB.out.2.2.2 (HB.out.1.cell HC.out hbx))
      clear hf
      have HF := Lib.hid hfk
      clear hfk
      cases hak : ans k with
      | true =>
        rw [hak] at HK
        go_wp2_with fail
        refine HK.out.mono ?_
        rintro e w2 ⟨rfl, hg2, hi2⟩
        have HG2 := Lib.hid hg2
        have HI2 := Lib.hid (hi2 (by trivial))
        clear hg2 hi2
        go_wp2
        go_roundg (gk - 1)
        case measure => have := HB.out.2.2.1; omega
        case rel =>
          refine ⟨k + 1, ?_, by omega, by go_num, ?_, HB.out.1.trans HG2.out, HI2.out⟩
          · have := HB.out.2.2.1; omega
          · rw [allB, HB.out.2.1, hak]; rfl
      | false =>
        rw [hak] at HK
        go_wp2_with fail
        refine HK.out.mono ?_
        rintro e w2 ⟨rfl, hg2, -⟩
        have HG2 := Lib.hid hg2
        clear hg2
        go_wp2
        go_ret
        refine ⟨_, rfl, ?_, HB.out.1.trans HG2.out, fun h => ?_⟩
        · rw [allB_false hlt hak, decide_eq_true (by omega)]; rfl
        · rw [allB_false hlt hak] at h; cases h
    · obtain rfl : k = l.length := by omega
      have hkl : ((l.length : Int) < (l.length : Int)) = False := by simp
      go_wp2
      go_ret
      exact ⟨_, rfl, by rw [HB.out.2.1]; rfl, HB.out.1, fun _ => HB.out.2.2.2⟩

set_option maxRecDepth 100000 in
theorem contains_any (F : Nat) (hE : Enters F) (lb : Array Value) (l : List R) (row : Option Nat) (I : Nat → World → Prop) (ans : Nat → Bool) (hJ : Judge F lb l row I ans) (hup : ∀ k W W', I k W → Below W.heap.size W W' → I k W')
    (v : Value) (bx : Nat) (w : World) (hr : RRow w v l) (hrow : ∀ a n c, v = .slice (some a) n c → some a.block ≠ row) (hlen : l.length ≤ 100000) (hI : I 0 w) (hc : w.cell? ⟨bx, 0, none⟩ = some (.func (.func F) #[] lb)) (hbx : some bx ≠ row) :
    Calls Tryz.prog 96 #[v, .func (.func 97) #[] #[.pointer (some ⟨bx, 0, none⟩)]] w fun e w' => e = .returned (.bool (!allB ans l.length)) ∧ w.grownBy w' row ∧ (allB ans l.length = true → I l.length w') := by
  obtain ⟨a, cap, hv⟩ := hr.shape
  have H := Lib.hid (index_any F hE lb l row I ans hJ hup v bx w hr hrow hlen hI hc hbx)
  subst hv
  clear hr hrow hI hc hJ hup
  go_enter Tryz.func96, Tryz.ntmps96
  go_wp2_with fail
  refine H.out.mono ?_
  rintro e w2 ⟨n, rfl, hn, hg, hi⟩
  have HG := Lib.hid hg
  have HI := Lib.hid hi
  clear hg hi
  go_wp2
  go_ret
  exact ⟨rfl, HG.out, HI.out⟩

set_option maxRecDepth 100000 in
/-- all: is the closure's word true of all of them, one behind the other? -/
theorem all_any (F : Nat) (hE : Enters F) (lb : Array Value) (l : List R) (row : Option Nat) (I : Nat → World → Prop) (ans : Nat → Bool) (hJ : Judge F lb l row I ans) (hup : ∀ k W W', I k W → Below W.heap.size W W' → I k W')
    (v : Value) (w : World) (hr : RRow w v l) (hrow : ∀ a n c, v = .slice (some a) n c → some a.block ≠ row) (hsz : ∀ k, row = some k → k < w.heap.size) (hlen : l.length ≤ 100000) (hI : I 0 w) :
    Calls Tryz.prog 88 #[v, .func (.func F) #[] lb] w fun e w' => e = .returned (.bool (allB ans l.length)) ∧ w.grownBy w' row ∧ (allB ans l.length = true → I l.length w') := by
  obtain ⟨a, cap, hv⟩ := hr.shape
  have HB : Hid (Below w.heap.size w (w.alloc (.cells #[.func (.func F) #[] lb] 97))) := (Below.refl _ _).alloc (Nat.le_refl _) _
  have H := Lib.hid (contains_any F hE lb l row I ans hJ hup v w.heap.size (w.alloc (.cells #[.func (.func F) #[] lb] 97)) (hr.up HB.out) hrow hlen (hup _ _ _ hI HB.out) (by simp) (by intro h; have := hsz _ h.symm; omega))
  subst hv
  clear hr hrow hI hJ hup
  generalize allB ans l.length = b at H ⊢
  go_enter Tryz.func88, Tryz.ntmps88
  go_wp2_with fail
  refine H.out.mono ?_
  rintro e w2 ⟨rfl, hg, hi⟩
  have HG := Lib.hid hg
  have HI := Lib.hid hi
  clear hg hi
  cases b
  · go_wp2
    go_ret
    exact ⟨rfl, (Below.gb HB.out row).trans HG.out, by first | exact HI.out | exact HI.out trivial | exact fun _ => HI.out trivial⟩
  · go_wp2
    go_ret
    exact ⟨rfl, (Below.gb HB.out row).trans HG.out, by first | exact HI.out | exact HI.out trivial | exact fun _ => HI.out trivial⟩

theorem enters23 : Enters 89 := enters_of Tryz.func89 (by kernel_rfl) rfl

def mays (l : List R) : Bool := l.all mayB
def fitsAll (l : List R) : Prop := ∀ r ∈ l, r.fits
theorem allB_all (p : R → Bool) (l : List R) (ans : Nat → Bool) (h : ∀ k r, l[k]? = some r → ans k = p r) : allB ans l.length = l.all p := by
  rw [Bool.eq_iff_iff, allB_iff, List.all_eq_true]
  constructor
  · intro h1 r hr
    obtain ⟨k, hk, rfl⟩ := List.getElem_of_mem hr
    rw [← h k _ (List.getElem?_eq_getElem hk)]
    exact h1 k hk
  · intro h1 k hk
    rw [h k _ (List.getElem?_eq_getElem hk)]
    exact h1 _ (List.getElem_mem hk)

/-- all, of a closure that turns nothing. -/
theorem allp_any (F : Nat) (hE : Enters F) (lb : Array Value) (l : List R) (p : R → Bool) (v : Value) (w : World) (hr : RRow w v l) (hlen : l.length ≤ 100000)
    (hp : ∀ r ∈ l, ∀ W, Below w.heap.size w W → Calls Tryz.prog F (#[val r] ++ lb) W fun e w' => e = .returned (.bool (p r)) ∧ Below W.heap.size W w') :
    Calls Tryz.prog 88 #[v, .func (.func F) #[] lb] w fun e w' => e = .returned (.bool (l.all p)) ∧ Below w.heap.size w w' := by
  let ans : Nat → Bool := fun k => match l[k]? with | some r => p r | none => false
  have hans : ∀ k r, l[k]? = some r → ans k = p r := fun k r h => by simp only [ans, h]
  have hJ : Judge F lb l none (fun _ W => Below w.heap.size w W) ans := fun k r W hk hI => by
    rw [hans k r hk]
    refine (hp r (List.mem_of_getElem? hk) W hI).mono ?_
    rintro e w' ⟨rfl, hb⟩
    exact ⟨rfl, Below.gb hb none, fun _ => hI.trans (hb.mono hI.size)⟩
  have := all_any F hE lb l none (fun _ W => Below w.heap.size w W) ans hJ (fun k W W' h hb => h.trans (hb.mono h.size)) v w hr (fun a n c _ => by simp) (fun k h => by simp at h) hlen (Below.refl _ _)
  rw [allB_all p l ans hans] at this
  exact this.mono fun e w' ⟨h1, h2, _⟩ => ⟨h1, gb_below h2⟩

set_option maxRecDepth 100000 in
theorem may_any (v : Value) (l : List R) (w : World) (hr : RRow w v l) (hlen : l.length ≤ 100000) (hf : fitsAll l) :
    Calls Tryz.prog 80 #[v] w fun e w' => e = .returned (.bool (mays l)) ∧ Below w.heap.size w w' := by
  obtain ⟨a, cap, hv⟩ := hr.shape
  have H := Lib.hid (allp_any 89 enters23 #[] l mayB v w hr hlen (fun r hr W _ => may1_any r W (hf r hr)))
  subst hv
  clear hr hf
  go_enter Tryz.func80, Tryz.ntmps80
  go_wp2_with fail
  refine H.out.mono ?_
  rintro e w2 ⟨rfl, hb⟩
  have HB := Lib.hid hb
  clear hb
  go_wp2
  go_ret
  exact ⟨rfl, HB.out⟩
end Go.Proofs.YtcdiogifgemjbaaGreat
/- Cells of layouts, as they lie in memory, and as trees. -/
namespace Go.Proofs.YtcdiogifgemjbaaGreat
open Go.RowKit

/-- A tree. -/
inductive T where
  | node (k : Int) (r : R) (id : Int) (kids : List T)
deriving Inhabited
namespace T
def k : T → Int | .node k _ _ _ => k
def r : T → R | .node _ r _ _ => r
def id : T → Int | .node _ _ i _ => i
def kids : T → List T | .node _ _ _ l => l
theorem eta (t : T) : t = .node t.k t.r t.id t.kids := by cases t; rfl
end T

mutual
def sz : T → Nat
  | .node _ _ _ l => 1 + szL l
def szL : List T → Nat
  | [] => 0
  | t :: l => sz t + szL l
end
theorem sz_node (t : T) : sz t = 1 + szL t.kids := by cases t; rw [sz]; rfl
theorem sz_pos (t : T) : 1 ≤ sz t := by rw [sz_node]; omega
theorem szL_append (a b : List T) : szL (a ++ b) = szL a + szL b := by
  induction a with
  | nil => simp [szL]
  | cons t l ih => simp only [List.cons_append, szL, ih]; omega
theorem szL_take_succ {l : List T} {k : Nat} {t : T} (h : l[k]? = some t) : szL (l.take (k + 1)) = szL (l.take k) + sz t := by
  rw [List.take_add_one, h, szL_append]; simp [szL]
theorem szL_take_le (l : List T) (k : Nat) : szL (l.take k) ≤ szL l := by
  have := szL_append (l.take k) (l.drop k)
  rw [List.take_append_drop] at this; omega
theorem szL_mem {l : List T} {k : Nat} {t : T} (h : l[k]? = some t) : sz t ≤ szL l := by
  have := szL_take_succ h
  have := szL_take_le l (k + 1)
  omega
theorem sz_kid {t u : T} {k : Nat} (h : t.kids[k]? = some u) : sz u < sz t := by
  have := szL_mem h
  rw [sz_node t]; omega
theorem szL_len (l : List T) : l.length ≤ szL l := by
  induction l with
  | nil => simp
  | cons t l ih => have := sz_pos t; simp only [szL, List.length_cons]; omega

/-- A cell, as it lies in memory. -/
structure C where
  k : Int
  r : R
  id : Int
  a : Option Addr
  n : Nat
  cap : Nat
deriving Inhabited

def encC (c : C) : List Value := [.int .u8 c.k, .int .i64 c.r.x, .int .i64 c.r.y, .int .i64 c.r.w, .int .i64 c.r.h, .int .i64 c.id, .slice c.a c.n c.cap]
abbrev cval (c : C) : Value := .agg #[.int .u8 c.k, .int .i64 c.r.x, .int .i64 c.r.y, .int .i64 c.r.w, .int .i64 c.r.h, .int .i64 c.id, .slice c.a c.n c.cap]
abbrev cbox (c : C) : Obj := .cells #[.int .u8 c.k, .int .i64 c.r.x, .int .i64 c.r.y, .int .i64 c.r.w, .int .i64 c.r.h, .int .i64 c.id, .slice c.a c.n c.cap] 26

def CAt (w : World) (b o : Nat) (c : C) : Prop :=
  w.cell? ⟨b, o, none⟩ = some (.int .u8 c.k) ∧ w.cell? ⟨b, o + 1, none⟩ = some (.int .i64 c.r.x) ∧ w.cell? ⟨b, o + 2, none⟩ = some (.int .i64 c.r.y) ∧ w.cell? ⟨b, o + 3, none⟩ = some (.int .i64 c.r.w) ∧ w.cell? ⟨b, o + 4, none⟩ = some (.int .i64 c.r.h) ∧ w.cell? ⟨b, o + 5, none⟩ = some (.int .i64 c.id) ∧ w.cell? ⟨b, o + 6, none⟩ = some (.slice c.a c.n c.cap)
theorem CAt.lt {w : World} {b o : Nat} {c : C} (h : CAt w b o c) : b < w.heap.size := lt_of_cell h.1
theorem CAt.upB {base : Nat} {w w' : World} {b o : Nat} {c : C} (h : CAt w b o c) (hb : Below base w w') (hl : b < base) : CAt w' b o c := by
  obtain ⟨h1, h2, h3, h4, h5, h6, h7⟩ := h
  exact ⟨(hb.cell hl).trans h1, (hb.cell hl).trans h2, (hb.cell hl).trans h3, (hb.cell hl).trans h4, (hb.cell hl).trans h5, (hb.cell hl).trans h6, (hb.cell hl).trans h7⟩
theorem CAt.up {w w' : World} {b o : Nat} {c : C} (h : CAt w b o c) (hb : Below w.heap.size w w') : CAt w' b o c := h.upB hb h.lt

/-- Cells in a slice. -/
def CRow (w : World) (v : Value) (l : List C) : Prop :=
  (∃ a cap, v = .slice a 0 cap ∧ l = []) ∨ ∃ b o cap, v = .slice (some ⟨b, o, none⟩) l.length cap ∧ ∀ (j : Nat) (c : C), l[j]? = some c → CAt w b (o + j * 7) c
theorem CRow.up {w w' : World} {v : Value} {l : List C} (h : CRow w v l) (hb : Below w.heap.size w w') : CRow w' v l := by
  rcases h with h | ⟨b, o, cap, h1, h2⟩
  · exact .inl h
  · exact .inr ⟨b, o, cap, h1, fun j f hf => (h2 j f hf).up hb⟩
theorem CRow.shape {w : World} {v : Value} {l : List C} (hr : CRow w v l) : ∃ a cap, v = .slice a l.length cap := by
  rcases hr with ⟨a, cap, rfl, rfl⟩ | ⟨b, o, cap, rfl, -⟩
  · exact ⟨_, _, rfl⟩
  · exact ⟨_, _, rfl⟩
theorem CRow.len {w : World} {a : Option Addr} {n cap : Nat} {l : List C} (hr : CRow w (.slice a n cap) l) : n = l.length := by
  obtain ⟨a', cap', h⟩ := hr.shape
  cases h; rfl
theorem CRow.place {w : World} {a : Option Addr} {n cap : Nat} {l : List C} (hr : CRow w (.slice a n cap) l) (hp : 0 < l.length) : ∃ b o, a = some ⟨b, o, none⟩ ∧ ∀ (j : Nat) (c : C), l[j]? = some c → CAt w b (o + j * 7) c := by
  rcases hr with ⟨_, _, -, rfl⟩ | ⟨b, o, cap', he, hf⟩
  · simp at hp
  · obtain ⟨rfl, rfl⟩ : a = some ⟨b, o, none⟩ ∧ cap = cap' := by cases he; exact ⟨rfl, rfl⟩
    exact ⟨b, o, rfl, hf⟩

def C.fine (c : C) : Prop := (0 ≤ c.k ∧ c.k ≤ 255) ∧ c.r.fits ∧ fits c.id ∧ c.n ≤ 1954687338211

/-- The tree that a cell is the top of. -/
inductive Is (w : World) : C → T → Prop
  | mk (c : C) (kids : List T) (cs : List C) (row : CRow w (.slice c.a c.n c.cap) cs) (len : cs.length = kids.length) (fine : c.fine) (each : ∀ (j : Nat) (x : C) (t : T), cs[j]? = some x → kids[j]? = some t → Is w x t) : Is w c (.node c.k c.r c.id kids)

theorem Is.up {w w' : World} {c : C} {t : T} (h : Is w c t) (hb : Below w.heap.size w w') : Is w' c t := by
  induction h with
  | mk c kids cs row len fine each ih => exact .mk c kids cs (row.up hb) len fine ih
theorem Is.split {w : World} {c : C} {t : T} (h : Is w c t) : t.k = c.k ∧ t.r = c.r ∧ t.id = c.id ∧ c.fine ∧ ∃ cs, CRow w (.slice c.a c.n c.cap) cs ∧ cs.length = t.kids.length ∧ c.n = t.kids.length ∧ ∀ (j : Nat) (x : C) (u : T), cs[j]? = some x → t.kids[j]? = some u → Is w x u := by
  cases h with
  | mk c kids cs row len fine each => exact ⟨rfl, rfl, rfl, fine, cs, row, len, row.len.trans len, each⟩

/-- Trees in a slice. -/
def TRow (w : World) (v : Value) (l : List T) : Prop := ∃ cs, CRow w v cs ∧ cs.length = l.length ∧ ∀ (j : Nat) (x : C) (u : T), cs[j]? = some x → l[j]? = some u → Is w x u
theorem TRow.up {w w' : World} {v : Value} {l : List T} (h : TRow w v l) (hb : Below w.heap.size w w') : TRow w' v l := by
  obtain ⟨cs, h1, h2, h3⟩ := h
  exact ⟨cs, h1.up hb, h2, fun j x u hx hu => (h3 j x u hx hu).up hb⟩
theorem TRow.shape {w : World} {v : Value} {l : List T} (hr : TRow w v l) : ∃ a cap, v = .slice a l.length cap := by
  obtain ⟨cs, h1, h2, h3⟩ := hr
  rw [← h2]; exact h1.shape
theorem TRow.len {w : World} {a : Option Addr} {n cap : Nat} {l : List T} (hr : TRow w (.slice a n cap) l) : n = l.length := by
  obtain ⟨a', cap', h⟩ := hr.shape
  cases h; rfl
theorem TRow.place {w : World} {a : Option Addr} {n cap : Nat} {l : List T} (hr : TRow w (.slice a n cap) l) (hp : 0 < l.length) : ∃ b o, a = some ⟨b, o, none⟩ ∧ ∀ (j : Nat) (t : T), l[j]? = some t → ∃ c, CAt w b (o + j * 7) c ∧ Is w c t := by
  obtain ⟨cs, h1, h2, h3⟩ := hr
  obtain ⟨b, o, rfl, hf⟩ := h1.place (by omega)
  refine ⟨b, o, rfl, fun j t ht => ?_⟩
  have hj : j < cs.length := by
    rw [h2]
    rcases Nat.lt_or_ge j l.length with h | h
    · exact h
    · rw [List.getElem?_eq_none h] at ht; cases ht
  exact ⟨cs[j], hf j _ (List.getElem?_eq_getElem hj), h3 j _ t (List.getElem?_eq_getElem hj) ht⟩
theorem Is.row {w : World} {c : C} {t : T} (h : Is w c t) : TRow w (.slice c.a c.n c.cap) t.kids := by
  obtain ⟨-, -, -, -, cs, h1, h2, -, h3⟩ := h.split
  exact ⟨cs, h1, h2, h3⟩
theorem Is.n {w : World} {c : C} {t : T} (h : Is w c t) : c.n = t.kids.length := h.row.len
theorem Is.fine {w : World} {c : C} {t : T} (h : Is w c t) : c.fine := h.split.2.2.2.1
theorem Is.len {w : World} {c : C} {t : T} (h : Is w c t) : t.kids.length ≤ 1954687338211 := by
  have := h.fine.2.2.2
  rw [h.n] at this
  exact this
end Go.Proofs.YtcdiogifgemjbaaGreat
/- How many cells a tree has, as far as some more. -/
namespace Go.Proofs.YtcdiogifgemjbaaGreat
open Go.RowKit

/-- A number of cells that is right up to 200, and above 200 if there are more. -/
def CntIs (n : Nat) (c : Int) : Prop := fits c ∧ (n ≤ 1099511627776 → 1 ≤ c ∧ c ≤ n ∧ (c ≤ 200 → c = n))
def CntSays (n : Nat) (w : World) (e : Ending) (w' : World) : Prop := ∃ c : Int, e = .returned (.int .i64 c) ∧ CntIs n c ∧ Below w.heap.size w w'

theorem wrap_fits (n : Int) : fits (IntKind.i64.wrap n) := by rw [IntKind.wrap_i64]; unfold fits; omega
theorem cnt_more {m n : Nat} {a b : Int} (ha : CntIs m a) (hb : CntIs n b) (h : a ≤ 200) : CntIs (m + n) (IntKind.i64.wrap (a + b)) := by
  refine ⟨wrap_fits _, fun hs => ?_⟩
  obtain ⟨a1, a2, a3⟩ := ha.2 (by omega)
  obtain ⟨b1, b2, b3⟩ := hb.2 (by omega)
  rw [wrap_id (by omega)]
  omega
theorem cnt_over {m n : Nat} {a : Int} (ha : CntIs m a) (h : 200 < a) (hmn : m ≤ n) : CntIs n a := by
  refine ⟨ha.1, fun hs => ?_⟩
  obtain ⟨a1, a2, a3⟩ := ha.2 (by omega)
  omega

theorem below_one {w w' : World} {o : Obj} (h : Below (w.alloc o).heap.size (w.alloc o) w') : Below w.heap.size w w' := ((Below.refl _ _).alloc (Nat.le_refl _) _).trans (h.mono (by simp))

/-- A box that was laid: its cells are there as long as memory only grows. -/
theorem box_at {w w' : World} {c : C} (h : Below (w.alloc (cbox c)).heap.size (w.alloc (cbox c)) w') : CAt w' w.heap.size 0 c := by
  refine CAt.up (w := w.alloc (cbox c)) ?_ h
  refine ⟨?_, ?_, ?_, ?_, ?_, ?_, ?_⟩ <;> simp

set_option maxRecDepth 100000 in
theorem count_any (N : Nat) : ∀ (t : T) (c : C) (w : World), sz t ≤ N → Is w c t →
    Calls Tryz.prog 12 #[cval c, .int .i64 200] w (CntSays (sz t) w) := by
  induction N with
  | zero => intro t c w h; have := sz_pos t; omega
  | succ N ih =>
    intro t c w hs hi
    have HI := Lib.hid hi
    have HR := Lib.hid hi.row
    have hn := hi.n
    have hfn := hi.fine.2.2.2
    obtain ⟨ck, cr, cid, ca, cn, ccap⟩ := c
    simp only at hn hfn
    subst hn
    clear hi
    have HS := Lib.hid hs
    clear hs
    have HIH := Lib.hid ih
    clear ih
    go_enter Tryz.func12, Tryz.ntmps12
    go_wp2
    go_loopg [5, 10] (t.kids.length + 1) (fun g n i wr => ∃ (k : Nat) (m : Int), g + k = t.kids.length + 1 ∧ k ≤ t.kids.length ∧ i = .int .i64 k ∧ n = .int .i64 m ∧ CntIs (1 + szL (t.kids.take k)) m ∧ Below (w.alloc (cbox ⟨ck, cr, cid, ca, t.kids.length, ccap⟩)).heap.size (w.alloc (cbox ⟨ck, cr, cid, ca, t.kids.length, ccap⟩)) wr)
    case atStart => exact ⟨0, 1, by omega, by omega, rfl, rfl, ⟨by unfold fits; omega, fun _ => by simp [szL]⟩, Below.refl _ _⟩
    case round =>
      obtain ⟨k, m, hg, hk, rfl, rfl, hm, hb⟩ := hrel
      have HG := Lib.hid hg
      have HM := Lib.hid hm
      have HB := Lib.hid hb
      clear hg hm hb
      by_cases hlt : k < t.kids.length
      · by_cases hm2 : 200 < m
        · have d2 : decide (200 < m) = true := decide_eq_true hm2
          go_wp2
          go_ret
          exact ⟨_, rfl, cnt_over HM.out hm2 (by have := szL_take_le t.kids k; rw [sz_node]; omega), below_one HB.out⟩
        · have d2 : decide (200 < m) = false := decide_eq_false hm2
          obtain ⟨b, o, rfl, hf⟩ := HR.out.place (by omega)
          obtain ⟨u, hu⟩ : ∃ u, t.kids[k]? = some u := ⟨_, List.getElem?_eq_getElem hlt⟩
          obtain ⟨x, hx, hix⟩ := hf k u hu
          clear hf
          obtain ⟨c0, c1, c2, c3, c4, c5, c6⟩ := hx.up (below_one HB.out)
          have q6 := (box_at HB.out).2.2.2.2.2.2
          have HK := Lib.hid (HIH.out u x wr (by have := HS.out; have := sz_kid hu; omega) (hix.up (below_one HB.out)))
          have HU := Lib.hid hu
          clear hix hu hx
          go_wp2_with fail
          refine HK.out.mono ?_
          rintro e w2 ⟨mm, rfl, hmm, hb2⟩
          have HM2 := Lib.hid hmm
          have HB2 := Lib.hid hb2
          clear hmm hb2
          go_wp2
          go_roundg (gk - 1)
          case measure => have := HG.out; omega
          case rel =>
            refine ⟨k + 1, _, by have := HG.out; omega, by omega, by go_num, rfl, ?_, HB.out.trans (HB2.out.mono HB.out.size)⟩
            rw [szL_take_succ HU.out, ← Nat.add_assoc]
            have h := cnt_more HM.out HM2.out (by omega)
            rw [IntWalk.i64_left] at h
            exact h
      · obtain rfl : k = t.kids.length := by omega
        have hkl : ((t.kids.length : Int) < (t.kids.length : Int)) = False := by simp
        go_wp2
        go_ret
        refine ⟨_, rfl, ?_, below_one HB.out⟩
        have := HM.out
        rw [List.take_length, ← sz_node] at this
        exact this

def GreatSays (n : Nat) (w : World) (e : Ending) (w' : World) : Prop := ∃ g : Bool, e = .returned (.bool g) ∧ (g = false → n ≤ 1099511627776 → n ≤ 200) ∧ Below w.heap.size w w'

theorem great_any (t : T) (c : C) (w : World) (hi : Is w c t) : Calls Tryz.prog 4 #[cval c] w (GreatSays (sz t) w) := by
  have HB : Hid (Below w.heap.size w (w.alloc (cbox c))) := (Below.refl _ _).alloc (Nat.le_refl _) _
  have H := Lib.hid (count_any (sz t) t c (w.alloc (cbox c)) (Nat.le_refl _) (hi.up HB.out))
  clear hi
  go_enter Tryz.func4, Tryz.ntmps4
  go_wp2_with fail
  refine H.out.mono ?_
  rintro e w2 ⟨m, rfl, hm, hb⟩
  have HM := Lib.hid hm
  have HB2 := Lib.hid hb
  clear hm hb
  go_wp2
  go_ret
  refine ⟨_, rfl, fun hg hs => ?_, below_one HB2.out⟩
  obtain ⟨a1, a2, a3⟩ := HM.out.2 hs
  have := of_decide_eq_false hg
  omega

end Go.Proofs.YtcdiogifgemjbaaGreat
