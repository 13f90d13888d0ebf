/- Texts of this seat, 3 in one file. -/
import Derived.Test.YtcdiogifgemjbaaGreatG03
import Derived.Deep.AppendLies
/- Rows of cells in memory of the call's own: how they are made, added to. -/
namespace Go.Proofs.YtcdiogifgemjbaaGreat
open Go.RowKit

def flatC (l : List C) : List Value := l.flatMap encC
theorem flatC_length (l : List C) : (flatC l).length = l.length * 7 := by
  induction l with
  | nil => rfl
  | cons r l ih => simp only [flatC, List.flatMap_cons, List.length_append] at *; rw [ih]; simp [encC]; omega
theorem flatC_append (a b : List C) : flatC (a ++ b) = flatC a ++ flatC b := by simp [flatC]
theorem flatC_one (c : C) : flatC [c] = encC c := by simp [flatC]
theorem flatC_get (l : List C) (j i : Nat) (c : C) (hj : l[j]? = some c) (hi : i < 7) : (flatC l)[j * 7 + i]? = (encC c)[i]? := by
  induction l generalizing j with
  | nil => simp at hj
  | cons q l ih =>
    have he : flatC (q :: l) = encC q ++ flatC l := by simp [flatC]
    rw [he]
    have hq : (encC q).length = 7 := rfl
    cases j with
    | zero =>
      simp at hj; subst hj
      rw [List.getElem?_append_left (by omega)]
      simp
    | succ j =>
      rw [List.getElem?_append_right (by omega), hq, show (j + 1) * 7 + i - 7 = j * 7 + i by omega]
      exact ih j (by simpa using hj)
theorem flatC_oneCell (l : List C) : ∀ u ∈ flatC l, u.oneCell' = true := by
  intro u hu
  simp only [flatC, List.mem_flatMap] at hu
  obtain ⟨r, -, hr⟩ := hu
  simp [encC] at hr
  rcases hr with rfl | rfl | rfl | rfl | rfl | rfl | rfl <;> rfl

/-- A row of the call's own. -/
def OwnC (w : World) (base : Nat) (v : Value) (l : List C) : Prop := w.ownsRow base 26 7 v l.length (flatC l)

theorem cat_of_flat {w : World} {g : Nat} {l : List C} (h : ∀ j u, (flatC l)[j]? = some u → w.cell? ((⟨g, 0, none⟩ : Addr).add j) = some u) (j : Nat) (c : C) (hj : l[j]? = some c) : CAt w g (j * 7) c := by
  have hc : ∀ i, i < 7 → ∀ u, (encC c)[i]? = some u → w.cell? ⟨g, j * 7 + i, none⟩ = some u := fun i hi u hu => by
    have := h (j * 7 + i) u (by rw [flatC_get l j i c hj hi]; exact hu)
    rw [Go.WideShapes.add_plain, Nat.zero_add] at this
    exact this
  exact ⟨hc 0 (by omega) _ rfl, hc 1 (by omega) _ rfl, hc 2 (by omega) _ rfl, hc 3 (by omega) _ rfl, hc 4 (by omega) _ rfl, hc 5 (by omega) _ rfl, hc 6 (by omega) _ rfl⟩
theorem OwnC.row {w : World} {base : Nat} {v : Value} {l : List C} (h : OwnC w base v l) : CRow w v l := by
  rcases h.2 with ⟨rfl, hn⟩ | ⟨g, cap, cur, rfl, hb, hg, hn, hm, hs, ht⟩
  · exact .inl ⟨_, _, rfl, List.length_eq_zero_iff.1 hn⟩
  · exact .inr ⟨g, 0, cap, rfl, fun j r hj => by rw [Nat.zero_add]; exact cat_of_flat (h.cells (g := g) rfl) j r hj⟩
theorem OwnC.up {w w' : World} {base : Nat} {v : Value} {l : List C} (h : OwnC w base v l) (hb : Below w.heap.size w w') : OwnC w' base v l := owns_up h hb
theorem OwnC.lower {w : World} {base base' : Nat} {v : Value} {l : List C} (h : OwnC w base v l) (hb : base' ≤ base) : OwnC w base' v l := owns_base h hb
theorem OwnC.nil (w : World) (base : Nat) : OwnC w base (.slice none 0 0) [] := World.ownsRow_nil w base _ _
theorem OwnC.empty (w : World) (base : Nat) (hb : base ≤ w.heap.size) : OwnC (w.alloc (.cells #[] 26)) base (.slice (some ⟨w.heap.size, 0, none⟩) 0 0) [] := World.ownsRow_made w #[] 0 hb (Nat.zero_le _) (by simp)
theorem OwnC.one (w : World) (base : Nat) (hb : base ≤ w.heap.size) (c : C) : OwnC (w.alloc (cbox c)) base (.slice (some ⟨w.heap.size, 0, none⟩) 1 1) [c] := by
  refine ⟨by simp [flatC_length], .inr ⟨w.heap.size, 1, _, rfl, hb, heap_alloc_new w _, by simp, by unfold maxLen; omega, rfl, ?_⟩⟩
  rw [flatC_one]; rfl

abbrev zeroC : Value := .agg #[.int .u8 0, .int .i64 0, .int .i64 0, .int .i64 0, .int .i64 0, .int .i64 0, .slice none 0 0]
theorem infoC : (Tryz.prog.info? 26).map (fun i => (i.zero, i.size, i.bytes)) = some (some zeroC, 7, 72) := by kernel_rfl

theorem crow_cells {w : World} {a : Option Addr} {n cap : Nat} {l : List C} (h : CRow w (.slice a n cap) l) (hp : 0 < l.length) : ∃ ad, a = some ad ∧ ∀ j u, (flatC l)[j]? = some u → w.cell? (ad.add j) = some u := by
  obtain ⟨b, o, rfl, hf⟩ := h.place hp
  refine ⟨⟨b, o, none⟩, rfl, fun j u hu => ?_⟩
  have hj : j / 7 < l.length := by
    rcases Nat.lt_or_ge j (flatC l).length with h1 | h1
    · rw [flatC_length] at h1; omega
    · rw [List.getElem?_eq_none h1] at hu; cases hu
  have hr := List.getElem?_eq_getElem hj
  have hc : j % 7 < 7 := Nat.mod_lt _ (by omega)
  have e : j / 7 * 7 + j % 7 = j := by omega
  have h1 := flatC_get l (j / 7) (j % 7) _ hr hc
  rw [e, hu] at h1
  obtain ⟨a0, a1, a2, a3, a4, a5, a6⟩ := hf _ _ hr
  rw [Go.WideShapes.add_plain]
  generalize hm : j % 7 = m at *
  have e' : o + j = o + j / 7 * 7 + m := by omega
  rw [e']
  match m, hc with
  | 0, _ => simp [encC] at h1; rw [h1]; exact a0
  | 1, _ => simp [encC] at h1; rw [h1]; exact a1
  | 2, _ => simp [encC] at h1; rw [h1]; exact a2
  | 3, _ => simp [encC] at h1; rw [h1]; exact a3
  | 4, _ => simp [encC] at h1; rw [h1]; exact a4
  | 5, _ => simp [encC] at h1; rw [h1]; exact a5
  | 6, _ => simp [encC] at h1; rw [h1]; exact a6

/-- append(own.., cells...): what is owned then is both; where it lies. -/
theorem wpList_append_cells {w : World} {ops : Array Oper} {rest : List Oper} {o : Oper} {a : Act} {Q : Exit → Act → World → Prop} (hgd : o.guard = none) (s x : Operand)
    (ho : o.op = .call { callee := .builtin .append, args := #[s, x], argTypes := #[24, 24] })
    (base : Nat) (v src : Value) (xs news : List C) (hs : a.eval s = v) (hown : OwnC w base v xs) (hx : a.eval x = src) (hrow : CRow w src news) (hp : 0 < news.length)
    (h63 : xs.length + news.length ≤ 1954687338211) (w0 : World) (hb : Below base w0 w) (hbase0 : base ≤ w0.heap.size)
    (h : ∀ g cap w', OwnC w' base (.slice (some ⟨g, 0, none⟩) (xs ++ news).length cap) (xs ++ news) → Below base w0 w' → w.grownBy w' v.ownBlock → (v.ownBlock = some g ∨ g = w.heap.size) → wpList Tryz.prog ops Q rest (a.put o.dst (.slice (some ⟨g, 0, none⟩) (xs ++ news).length cap)) w') : wpList Tryz.prog ops Q (o :: rest) a w := by
  have hbase : base ≤ w.heap.size := Nat.le_trans hbase0 hb.size
  obtain ⟨i, hi, hz0, hz2, hz3⟩ := info_parts infoC
  obtain ⟨ad', cap, rfl⟩ := hrow.shape
  obtain ⟨ad, rfl, hc⟩ := crow_cells hrow hp
  refine wpList_append_lies w hgd s x 24 ho base 26 i zeroC 7 72 Tryz.underlying24 hi hz0 hz2 hz3 rfl (by decide) v xs.length (flatC xs) hs hown ad news.length cap (flatC news) hx (flatC_length _) hc (flatC_oneCell _) hp (by unfold maxLen; omega) (by omega) hbase w.heap.size rfl ?_
  intro g cap' w' g1 g2 g3 _
  rw [← List.length_append] at g1 ⊢
  exact h g cap' w' (by rw [← flatC_append] at g1; exact g1) (hb.grown g2 hbase (fun k hk => (hown.lt k hk).1)) g2 g3
end Go.Proofs.YtcdiogifgemjbaaGreat
/- The document's row of a tree's cells, of its leaves, of their numbers. -/
namespace Go.Proofs.YtcdiogifgemjbaaGreat
open Go.RowKit

mutual
def preT : T → List T
  | .node k r i l => .node k r i l :: preL l
def preL : List T → List T
  | [] => []
  | t :: l => preT t ++ preL l
end
theorem preT_eq (t : T) : preT t = t :: preL t.kids := by cases t; rw [preT]; rfl
theorem preL_append (a b : List T) : preL (a ++ b) = preL a ++ preL b := by
  induction a with
  | nil => simp [preL]
  | cons t l ih => simp only [List.cons_append, preL, ih, List.append_assoc]
theorem preL_step {l : List T} {k : Nat} {t : T} (h : l[k]? = some t) : preL (l.take (k + 1)) = preL (l.take k) ++ preT t := by
  rw [List.take_add_one, h, preL_append]; simp [preL]
mutual
theorem preT_len : ∀ t, (preT t).length = sz t
  | .node _ _ _ l => by rw [preT, sz, List.length_cons, preL_len l]; omega
theorem preL_len : ∀ l, (preL l).length = szL l
  | [] => by simp [preL, szL]
  | t :: l => by rw [preL, szL, List.length_append, preT_len t, preL_len l]
end

/-- Cells that are the tops of trees, one by one. -/
def Tops (w : World) (cs : List C) (l : List T) : Prop := cs.length = l.length ∧ ∀ (j : Nat) (x : C) (u : T), cs[j]? = some x → l[j]? = some u → Is w x u
theorem Tops.up {w w' : World} {cs : List C} {l : List T} (h : Tops w cs l) (hb : Below w.heap.size w w') : Tops w' cs l := ⟨h.1, fun j x u hx hu => (h.2 j x u hx hu).up hb⟩
theorem Tops.append {w : World} {cs ds : List C} {l m : List T} (h : Tops w cs l) (g : Tops w ds m) : Tops w (cs ++ ds) (l ++ m) := by
  refine ⟨by simp [h.1, g.1], fun j x u hx hu => ?_⟩
  rcases Nat.lt_or_ge j cs.length with hj | hj
  · rw [List.getElem?_append_left hj] at hx
    rw [List.getElem?_append_left (by rw [← h.1]; exact hj)] at hu
    exact h.2 j x u hx hu
  · rw [List.getElem?_append_right hj] at hx
    rw [List.getElem?_append_right (by rw [← h.1]; exact hj), ← h.1] at hu
    exact g.2 _ x u hx hu
theorem Tops.one {w : World} {c : C} {t : T} (h : Is w c t) : Tops w [c] [t] := by
  refine ⟨rfl, fun j x u hx hu => ?_⟩
  cases j with
  | zero => simp at hx hu; subst hx; subst hu; exact h
  | succ j => simp at hx
theorem Tops.nil (w : World) : Tops w [] [] := ⟨rfl, fun j x u hx => by simp at hx⟩
theorem Tops.at {w : World} {cs : List C} {l : List T} (h : Tops w cs l) {j : Nat} (hj : j < cs.length) : ∃ c t, cs[j]? = some c ∧ l[j]? = some t ∧ Is w c t := by
  have h1 := List.getElem?_eq_getElem hj
  have h2 := List.getElem?_eq_getElem (show j < l.length by rw [← h.1]; exact hj)
  exact ⟨_, _, h1, h2, h.2 j _ _ h1 h2⟩

/-- A new row of cells, the tops of these trees, which lie in w0. -/
def RowSays (l : List T) (w0 w : World) (e : Ending) (w' : World) : Prop :=
  ∃ v cs, e = .returned v ∧ OwnC w' w.heap.size v cs ∧ Tops w0 cs l ∧ Below w.heap.size w w'

set_option maxRecDepth 100000 in
theorem rall_any (w0 : World) (N : Nat) : ∀ (t : T) (c : C) (w : World), sz t ≤ N → sz t ≤ 1000000 → Is w0 c t → Below w0.heap.size w0 w → Calls Tryz.prog 5 #[cval c] w (RowSays (preT t) w0 w) := by
  induction N with
  | zero => intro t c w h; have := sz_pos t; omega
  | succ N ih =>
    intro t c w hs hm hi hb0
    have HB0 := Lib.hid hb0
    have HI := Lib.hid hi
    have HR := Lib.hid (hi.row.up hb0)
    have HR0 := Lib.hid hi.row
    clear hb0
    have hn := hi.n
    have hfn := hi.fine.2.2.2
    obtain ⟨ck, cr, cid, ca, cn, ccap⟩ := c
    simp only at hn hfn
    subst hn
    clear hi
    have HS := Lib.hid hs
    have HM := Lib.hid hm
    have HIH := Lib.hid ih
    clear hs hm ih
    go_enter Tryz.func5, Tryz.ntmps5
    go_wp2
    go_loopg [3, 10] (t.kids.length + 1) (fun g v i wr => ∃ (k : Nat) (cs : List C), g + k = t.kids.length + 1 ∧ k ≤ t.kids.length ∧ i = .int .i64 k ∧ OwnC wr (w.heap.size + 1) v cs ∧ Tops w0 cs (t :: preL (t.kids.take k)) ∧ Below (w.alloc (cbox ⟨ck, cr, cid, ca, t.kids.length, ccap⟩)).heap.size (w.alloc (cbox ⟨ck, cr, cid, ca, t.kids.length, ccap⟩)) wr)
    case atStart =>
      refine ⟨0, [⟨ck, cr, cid, ca, t.kids.length, ccap⟩], by omega, by omega, rfl, ?_, by simpa [preL] using Tops.one HI.out, (Below.refl _ _).alloc (Nat.le_refl _) _⟩
      have := OwnC.one (w.alloc (cbox ⟨ck, cr, cid, ca, t.kids.length, ccap⟩)) (w.heap.size + 1) (by simp) ⟨ck, cr, cid, ca, t.kids.length, ccap⟩
      simpa using this
    case round =>
      obtain ⟨k, cs, hg, hk, rfl, hown, htops, hb⟩ := hrel
      have HG := Lib.hid hg
      have HB := Lib.hid hb
      have HO := Lib.hid hown
      have HT := Lib.hid htops
      clear hg hb hown htops
      by_cases hlt : k < t.kids.length
      · obtain ⟨b, o, rfl, hf⟩ := HR0.out.place (by omega)
        obtain ⟨u, hu⟩ : ∃ u, t.kids[k]? = some u := ⟨_, List.getElem?_eq_getElem hlt⟩
        obtain ⟨x, hx, hix⟩ := hf k u hu
        clear hf
        have HB00 := Lib.hid (HB0.out.trans ((below_one HB.out).mono HB0.out.size))
        obtain ⟨c0, c1, c2, c3, c4, c5, c6⟩ := hx.up HB00.out
        have q6 := (box_at HB.out).2.2.2.2.2.2
        have HK := Lib.hid (HIH.out u x wr (by have := HS.out; have := sz_kid hu; omega) (by have := HM.out; have := sz_kid hu; omega) hix HB00.out)
        have HST := Lib.hid (preL_step hu)
        have HSZ := Lib.hid (show szL (t.kids.take (k + 1)) < 1000000 by have := HM.out; have := sz_node t; have := szL_take_le t.kids (k + 1); omega)
        have HU := Lib.hid hu
        clear hix hu hx
        go_wp2_with fail
        refine HK.out.mono ?_
        rintro e w2 ⟨v2, ds, rfl, hown2, htops2, hb2⟩
        have HB2 := Lib.hid (HB.out.trans (hb2.mono HB.out.size))
        have HO1 := Lib.hid (HO.out.up hb2)
        have HO2 := Lib.hid hown2
        have HT2 := Lib.hid htops2
        obtain ⟨a2, cap2, rfl⟩ := hown2.row.shape
        clear hb2 hown2 htops2 c0 c1 c2 c3 c4 c5 c6 q6
        have hdl : ds.length = sz u := by rw [HT2.out.1, preT_len]
        have hcl : cs.length = 1 + szL (t.kids.take k) := by rw [HT.out.1, List.length_cons, preL_len]; omega
        have hp : 0 < ds.length := by rw [hdl]; exact sz_pos u
        have hlen : cs.length + ds.length ≤ 1954687338211 := by
          have := HSZ.out
          rw [szL_take_succ HU.out] at this
          omega
        have HLL := Lib.hid hlen
        have HPP := Lib.hid hp
        clear hdl hcl hp hlen
        go_wp2_with (at_builtin; refine wpList_append_cells rfl _ _ rfl (w.heap.size + 1) _ _ cs ds rfl HO1.out rfl HO2.out.row HPP.out HLL.out w2 (Below.refl _ _) (by have := HB2.out.size; simp at this; omega) ?_; intro g cap3 w3 hown3 hb3 hgr3 hpl3)
        have HO3 := Lib.hid hown3
        have HB3 := Lib.hid (HB2.out.trans (show Below (w.alloc (cbox ⟨ck, cr, cid, some ⟨b, o, none⟩, t.kids.length, ccap⟩)).heap.size w2 w3 by simpa using hb3))
        have HG3 := Lib.hid hgr3
        clear hown3 hb3 hgr3 hpl3
        go_wp2
        go_roundg (gk - 1)
        case measure => have := HG.out; omega
        case rel =>
          refine ⟨k + 1, cs ++ ds, by have := HG.out; omega, by omega, by go_num, by rw [← List.length_append]; exact HO3.out, ?_, HB3.out⟩
          rw [HST.out, ← List.cons_append]
          exact HT.out.append HT2.out
      · obtain rfl : k = t.kids.length := by omega
        have hkl : ((t.kids.length : Int) < (t.kids.length : Int)) = False := by simp
        go_wp2
        go_ret
        refine ⟨_, cs, rfl, HO.out.lower (by omega), ?_, below_one HB.out⟩
        have := HT.out
        rw [List.take_length, ← preT_eq] at this
        exact this
end Go.Proofs.YtcdiogifgemjbaaGreat
/- The document's row of a tree's leaves. -/
namespace Go.Proofs.YtcdiogifgemjbaaGreat
open Go.RowKit

def leafB (t : T) : Bool := t.k == 1
theorem filter_step {l : List T} {k : Nat} {t : T} (p : T → Bool) (h : l[k]? = some t) : (l.take (k + 1)).filter p = (l.take k).filter p ++ (if p t then [t] else []) := by
  rw [List.take_add_one, h, List.filter_append]
  cases hp : p t <;> simp [hp]

theorem CAt.grown {w w' : World} {b o : Nat} {c : C} {row : Option Nat} (h : CAt w b o c) (hb : w.grownBy w' row) (hne : some b ≠ row) : CAt w' b o c := by
  obtain ⟨h1, h2, h3, h4, h5, h6, h7⟩ := h
  exact ⟨hb.cell h1 hne, hb.cell h2 hne, hb.cell h3 hne, hb.cell h4 hne, hb.cell h5 hne, hb.cell h6 hne, hb.cell h7 hne⟩

/-- A row of one's own that is added to: it lies in one block, or in one that came later. -/
def OwnLater (w2 : World) (b : Nat) (v : Value) : Prop := v.ownBlock = some b ∨ ∃ g, v.ownBlock = some g ∧ w2.heap.size ≤ g
theorem later_gb {w2 wr w' : World} {b : Nat} {v : Value} (hb : b < w2.heap.size) (hl : OwnLater w2 b v) (h : w2.grownBy wr (some b)) (g : wr.grownBy w' v.ownBlock) : w2.grownBy w' (some b) := by
  rcases hl with hl | ⟨x, hl, hx⟩
  · rw [hl] at g; exact h.trans g
  · rw [hl] at g
    refine ⟨g.os.trans h.os, g.tape.trans h.tape, g.output.trans h.output, Nat.le_trans h.size g.size, fun k hk hne => ?_⟩
    exact (g.block k (Nat.lt_of_lt_of_le hk h.size) (fun e => by cases e; omega)).trans (h.block k hk hne)
theorem gb_alloc {w2 wr : World} {b : Nat} (h : w2.grownBy wr (some b)) (o : Obj) : w2.grownBy (wr.alloc o) (some b) := h.trans (Below.gb ((Below.refl _ _).alloc (Nat.le_refl _) _) _)

set_option maxRecDepth 100000 in
theorem rleaves_any (w0 : World) (t : T) (c : C) (w : World) (hm : sz t ≤ 1000000) (hi : Is w0 c t) (hb0 : Below w0.heap.size w0 w) : Calls Tryz.prog 72 #[cval c] w (RowSays ((preT t).filter leafB) w0 w) := by
  have B1 : Hid (Below w.heap.size w ((w.alloc (cbox c)).alloc (.cells #[] 26))) := ((Below.refl _ _).alloc (Nat.le_refl _) _).alloc (by simp) _
  have H := Lib.hid (rall_any w0 (sz t) t c ((w.alloc (cbox c)).alloc (.cells #[] 26)) (Nat.le_refl _) hm hi (hb0.trans (B1.out.mono hb0.size)))
  have HE : Hid (OwnC ((w.alloc (cbox c)).alloc (.cells #[] 26)) (w.heap.size + 1) (.slice (some ⟨w.heap.size + 1, 0, none⟩) 0 0) []) := by
    have := OwnC.empty (w.alloc (cbox c)) (w.heap.size + 1) (by simp)
    exact Lib.hid (by simpa using this)
  have HM := Lib.hid hm
  clear hi hb0 hm
  go_enter Tryz.func72, Tryz.ntmps72
  go_wp2_with fail
  refine H.out.mono ?_
  rintro e w2 ⟨vl, al, rfl, howl, htl, hb2⟩
  have hsz2 : w.heap.size + 2 ≤ w2.heap.size := by have := hb2.size; simpa using this
  have HT := Lib.hid htl
  have hal : al.length = sz t := by rw [htl.1, preT_len]
  have hp : 0 < al.length := by rw [hal]; exact sz_pos t
  obtain ⟨gl, capl, hvl, hgl, hgl2⟩ := howl.form hp
  have hgl' : w.heap.size + 2 ≤ gl := by simpa using hgl
  have HROW : Hid (∀ (j : Nat) (x : C), al[j]? = some x → CAt w2 gl (j * 7) x) := fun j x hx => by
    rw [hvl] at howl
    exact cat_of_flat (howl.cells (g := gl) rfl) j x hx
  subst hvl
  have HOE := Lib.hid (HE.out.up hb2)
  have HB2 := Lib.hid (B1.out.trans (hb2.mono B1.out.size))
  have hall : al.length ≤ 1000000 := by rw [hal]; exact HM.out
  clear hb2 howl htl hgl hal
  go_wp2
  go_loopg [3, 11] (al.length + 1) (fun g v i wr => ∃ (k : Nat) (cs : List C), g + k = al.length + 1 ∧ k ≤ al.length ∧ i = .int .i64 k ∧ OwnC wr (w.heap.size + 1) v cs ∧ Tops w0 cs (((preT t).take k).filter leafB) ∧ OwnLater w2 (w.heap.size + 1) v ∧ w2.grownBy wr (some (w.heap.size + 1)))
  case atStart => exact ⟨0, [], by omega, by omega, rfl, HOE.out, by simpa using Tops.nil w0, .inl rfl, World.grownBy.refl _ _⟩
  case round =>
    obtain ⟨k, cs, hg, hk, rfl, hown, htops, hlat, hgr⟩ := hrel
    have HG := Lib.hid hg
    have HO := Lib.hid hown
    have HTS := Lib.hid htops
    have HLT := Lib.hid hlat
    have HGR := Lib.hid hgr
    clear hg hown htops hlat hgr
    by_cases hlt : k < al.length
    · obtain ⟨x, u, hx, hu, hxu⟩ := HT.out.at hlt
      obtain ⟨c0, c1, c2, c3, c4, c5, c6⟩ := (HROW.out k x hx).grown HGR.out (by intro e; cases e; omega)
      have htk := hxu.split.1
      have HST := Lib.hid (filter_step leafB hu)
      have HXU := Lib.hid hxu
      clear hxu hx hu
      cases hk1 : (x.k == 1) with
      | true =>
        have hlf : Hid (leafB u = true) := Lib.hid (by rw [leafB, htk]; exact hk1)
        clear htk
        have hcl : cs.length + [x].length ≤ 1954687338211 := by
          have h1 := HTS.out.1
          have h2 := List.length_filter_le leafB ((preT t).take k)
          have h3 : ((preT t).take k).length ≤ k := List.length_take_le _ _
          simp; omega
        have HCL := Lib.hid hcl
        clear hcl
        go_wp2_with (at_builtin; refine wpList_append_cells rfl _ _ rfl (w.heap.size + 1) u3 _ cs [x] rfl (HO.out.up ((Below.refl _ _).alloc (Nat.le_refl _) (cbox x))) rfl (OwnC.one wr 0 (Nat.zero_le _) x).row (by simp) HCL.out wr ((Below.refl _ _).alloc (by have := HGR.out.size; omega) _) (by have := HGR.out.size; omega) ?_; intro g cap3 w3 hown3 hb3 hgr3 hpl3)
        have HO3 := Lib.hid hown3
        have HG3 := Lib.hid (later_gb (by omega) HLT.out (gb_alloc HGR.out (cbox x)) hgr3)
        have HL3 : Hid (OwnLater w2 (w.heap.size + 1) (.slice (some ⟨g, 0, none⟩) (cs ++ [x]).length cap3)) := by
          rcases hpl3 with h | h
          · rcases HLT.out with h2 | ⟨y, h2, h3⟩
            · rw [h2] at h; cases h; exact .inl rfl
            · rw [h2] at h; cases h; exact .inr ⟨_, rfl, h3⟩
          · refine .inr ⟨g, rfl, ?_⟩
            rw [h]; have := HGR.out.size; simp; omega
        clear hown3 hb3 hgr3 hpl3
        go_wp2
        go_roundg (gk - 1)
        case measure => have := HG.out; omega
        case rel =>
          refine ⟨k + 1, cs ++ [x], by have := HG.out; omega, by omega, by go_num, by simpa using HO3.out, ?_, by simpa using HL3.out, HG3.out⟩
          rw [HST.out, hlf.out, if_pos rfl]
          exact HTS.out.append (Tops.one HXU.out)
      | false =>
        have hlf : Hid (leafB u = false) := Lib.hid (by rw [leafB, htk]; exact hk1)
        clear htk
        go_wp2
        go_roundg (gk - 1)
        case measure => have := HG.out; omega
        case rel =>
          refine ⟨k + 1, cs, by have := HG.out; omega, by omega, by go_num, HO.out, ?_, HLT.out, HGR.out⟩
          rw [HST.out, hlf.out]
          simpa using HTS.out
    · obtain rfl : k = al.length := by omega
      have hkl : ((al.length : Int) < (al.length : Int)) = False := by simp
      go_wp2
      go_ret
      refine ⟨_, cs, rfl, HO.out.lower (by omega), ?_, ?_⟩
      · have := HTS.out
        rw [List.take_of_length_le (by rw [← HT.out.1]; omega)] at this
        exact this
      · exact HB2.out.trans ⟨HGR.out.os, HGR.out.tape, HGR.out.output, HGR.out.size, fun j hj => HGR.out.block j (by omega) (by intro e; cases e; omega)⟩
end Go.Proofs.YtcdiogifgemjbaaGreat
