/- Texts of this seat, 3 in one file. -/
import Derived.Test.YtakofjbjciljjaaGreatG03
import Derived.Test.YtakofjbjciljjaaGreatG07
import Derived.Test.YtakofjbjciljjaaGreatG08
import Derived.Test.YtakofjbjciljjaaGreatG09
/- Are two rows of numbers the same? And a leaf. -/
namespace Go.Proofs.YtakofjbjciljjaaGreat
open Go.RowKit

theorem int_at {w : World} {a : Option Addr} {cap n : Nat} {p : List Int} (h : Row w (.slice a n cap) (ints p)) (hp : 0 < p.length) : ∃ b o, a = some ⟨b, o, none⟩ ∧ ∀ (j : Nat) (m : Int), p[j]? = some m → w.cell? ⟨b, o + j, none⟩ = some (.int .i64 m) := by
  obtain ⟨a', cap', he, h0, hc⟩ := h
  cases he
  obtain ⟨b, o, h1, h2⟩ := row_at h0 hc (by rw [ints_length]; exact hp)
  exact ⟨b, o, h1, fun j m hm => h2 j _ (by simp [ints, hm])⟩
theorem row_shape {w : World} {v : Value} {p : List Int} (h : Row w v (ints p)) : ∃ a cap, v = .slice a p.length cap := by
  obtain ⟨a, cap, he, -⟩ := h
  exact ⟨a, cap, by rw [he, ints_length]⟩

def eqI (p q : List Int) : Bool := decide (p = q)
theorem eqI_len {p q : List Int} (h : p.length ≠ q.length) : eqI p q = false := by
  unfold eqI; rw [decide_eq_false]; exact fun e => h (congrArg _ e)
theorem eqI_no {p q : List Int} {k : Nat} {a b : Int} (ha : p[k]? = some a) (hb : q[k]? = some b) (h : a ≠ b) : eqI p q = false := by
  unfold eqI; rw [decide_eq_false]; intro e; subst e; rw [ha] at hb; cases hb; exact h rfl
theorem eqI_yes {p q : List Int} (hl : p.length = q.length) (h : ∀ (k : Nat) (a b : Int), p[k]? = some a → q[k]? = some b → a = b) : eqI p q = true := by
  unfold eqI
  rw [decide_eq_true]
  refine List.ext_getElem? fun k => ?_
  rcases Nat.lt_or_ge k p.length with hk | hk
  · have h1 := List.getElem?_eq_getElem hk
    have h2 := List.getElem?_eq_getElem (show k < q.length by omega)
    rw [h1, h2, h k _ _ h1 h2]
  · rw [List.getElem?_eq_none hk, List.getElem?_eq_none (by omega)]

set_option maxRecDepth 100000 in
theorem ints_any (v1 v2 : Value) (p q : List Int) (w : World) (h1 : Row w v1 (ints p)) (h2 : Row w v2 (ints q)) (hl : p.length ≤ 1000000) :
    Calls Tryz.prog 11 #[v1, v2] w fun e w' => e = .returned (.bool (eqI p q)) ∧ Below w.heap.size w w' := by
  obtain ⟨a1, cap1, rfl⟩ := row_shape h1
  obtain ⟨a2, cap2, rfl⟩ := row_shape h2
  have H1 := Lib.hid h1
  have H2 := Lib.hid h2
  clear h1 h2
  by_cases hlen : p.length = q.length
  · have d0 : ((p.length : Int) != (q.length : Int)) = false := by simp; omega
    have HLEN := Lib.hid hlen
    rw [← hlen] at H2
    rw [← hlen] at d0
    rw [← hlen]
    clear hlen
    go_enter Tryz.func11, Tryz.ntmps11
    go_wp2
    go_loopg [13] (p.length + 1) (fun g i wr => ∃ k : Nat, g + k = p.length + 1 ∧ k ≤ p.length ∧ i = .int .i64 k ∧ (∀ (j : Nat) (a b : Int), j < k → p[j]? = some a → q[j]? = some b → a = b) ∧ Below w.heap.size w wr)
    case atStart => exact ⟨0, by omega, by omega, rfl, fun j t u hj => by omega, Below.refl _ _⟩
    case round =>
      obtain ⟨k, hg, hk, rfl, hsame, hb⟩ := hrel
      have HG := Lib.hid hg
      have HSM := Lib.hid hsame
      have HB := Lib.hid hb
      clear hg hsame hb
      by_cases hlt : k < p.length
      · obtain ⟨a, ha⟩ : ∃ a, p[k]? = some a := ⟨_, List.getElem?_eq_getElem hlt⟩
        obtain ⟨b, hb⟩ : ∃ b, q[k]? = some b := ⟨_, List.getElem?_eq_getElem (by have := HLEN.out; omega)⟩
        obtain ⟨b1, o1, rfl, hf1⟩ := int_at H1.out (by omega)
        obtain ⟨b2, o2, rfl, hf2⟩ := int_at H2.out (by have := HLEN.out; omega)
        have c0 := (HB.out.cell (lt_of_cell (hf1 k a ha))).trans (hf1 k a ha)
        have e0 := (HB.out.cell (lt_of_cell (hf2 k b hb))).trans (hf2 k b hb)
        clear hf1 hf2
        have HT := Lib.hid ha
        have HU := Lib.hid hb
        clear ha hb
        by_cases hab : a = b
        · subst hab
          have d1 : (a != a) = false := by simp
          go_wp2
          go_quiet (fail)
          go_wp2
          go_roundg (gk - 1)
          case measure => have := HG.out; omega
          case rel =>
            refine ⟨k + 1, by have := HG.out; omega, by omega, by go_num, fun j x y hj hx hy => ?_, ⟨HB.out.os, HB.out.tape, HB.out.output, HB.out.size, HB.out.block⟩⟩
            rcases Nat.lt_or_ge j k with h | h
            · exact HSM.out j x y h hx hy
            · obtain rfl : j = k := by omega
              rw [HT.out] at hx; rw [HU.out] at hy
              cases hx; cases hy; rfl
        · have d1 : (a != b) = true := by simpa using hab
          have d2 : (a == b) = false := by simpa using hab
          have HST := Lib.hid (eqI_no HT.out HU.out hab)
          go_wp2
          go_quiet (fail)
          go_wp2
          go_ret
          exact ⟨by rw [HST.out]; rfl, ⟨HB.out.os, HB.out.tape, HB.out.output, HB.out.size, HB.out.block⟩⟩
      · obtain rfl : k = p.length := by omega
        have hkl : ((p.length : Int) < (p.length : Int)) = False := by simp
        have HST := Lib.hid (eqI_yes HLEN.out (fun k a b ha hb => HSM.out k a b (by
          rcases Nat.lt_or_ge k p.length with h | h
          · exact h
          · rw [List.getElem?_eq_none h] at ha; cases ha) ha hb))
        go_wp2
        go_ret
        exact ⟨by rw [HST.out]; rfl, HB.out⟩
  · have d0 : ((p.length : Int) != (q.length : Int)) = true := by simp; omega
    have d1 : (p.length == q.length) = false := by simpa using hlen
    have HV := Lib.hid (eqI_len hlen)
    go_enter Tryz.func11, Tryz.ntmps11
    go_wp2
    go_ret
    exact ⟨by rw [HV.out]; rfl, Below.refl _ _⟩

/-- A leaf, as it lies. -/
abbrev leafC (r : R) (id : Int) : C := ⟨1, r, id, none, 0, 0⟩
theorem leaf_is (r : R) (id : Int) (w : World) (hr : r.fits) (hi : fits id) : Is w (leafC r id) (.node 1 r id []) :=
  .mk (leafC r id) [] [] (.inl ⟨_, _, rfl, rfl⟩) rfl ⟨⟨by simp, by simp⟩, hr, hi, by simp⟩ (fun j x t hx => by simp at hx)
end Go.Proofs.YtakofjbjciljjaaGreat
/- The document's row of the leaves' numbers. -/
namespace Go.Proofs.YtakofjbjciljjaaGreat
open Go.RowKit

/-- A row of numbers of the call's own. -/
def OwnI (w : World) (base : Nat) (v : Value) (l : List Int) : Prop := w.ownsRow base 3 1 v l.length (ints l)
theorem OwnI.row {w : World} {base : Nat} {v : Value} {l : List Int} (h : OwnI w base v l) : Row w v (ints l) := Row.of_owns h
theorem OwnI.up {w w' : World} {base : Nat} {v : Value} {l : List Int} (h : OwnI w base v l) (hb : Below w.heap.size w w') : OwnI w' base v l := owns_up h hb
theorem OwnI.lower {w : World} {base base' : Nat} {v : Value} {l : List Int} (h : OwnI w base v l) (hb : base' ≤ base) : OwnI w base' v l := owns_base h hb
theorem OwnI.empty (w : World) (base : Nat) (hb : base ≤ w.heap.size) : OwnI (w.alloc (.cells #[] 3)) base (.slice (some ⟨w.heap.size, 0, none⟩) 0 0) [] := World.ownsRow_made w #[] 0 hb (Nat.zero_le _) (by simp)
theorem OwnI.nil (w : World) (base : Nat) : OwnI w base (.slice none 0 0) [] := World.ownsRow_nil w base _ _

/-- append(own.., numbers...): what is owned then is both; where it lies. -/
theorem wpList_append_ints {w : World} {ops : Array Oper} {rest : List Oper} {o : Oper} {a : Act} {Q : Exit → Act → World → Prop} (hgd : o.guard = none) (s x : Operand)
    (ho : o.op = .call { callee := .builtin .append, args := #[s, x], argTypes := #[27, 27] })
    (base : Nat) (v src : Value) (xs news : List Int) (hs : a.eval s = v) (hown : OwnI w base v xs) (hx : a.eval x = src) (hrow : Row w src (ints news)) (hp : 0 < news.length)
    (h63 : xs.length + news.length ≤ 1954687338211) (w0 : World) (hb : Below base w0 w) (hbase0 : base ≤ w0.heap.size)
    (h : ∀ g cap w', OwnI w' base (.slice (some ⟨g, 0, none⟩) (xs ++ news).length cap) (xs ++ news) → Below base w0 w' → w.grownBy w' v.ownBlock → (v.ownBlock = some g ∨ g = w.heap.size) → wpList Tryz.prog ops Q rest (a.put o.dst (.slice (some ⟨g, 0, none⟩) (xs ++ news).length cap)) w') : wpList Tryz.prog ops Q (o :: rest) a w := by
  have hbase : base ≤ w.heap.size := Nat.le_trans hbase0 hb.size
  obtain ⟨i, hi, hz0, hz2, hz3⟩ := info_parts infoI
  obtain ⟨ad', cap, rfl⟩ := row_shape hrow
  obtain ⟨a', cap', he, h0, hc⟩ := hrow
  rw [ints_length] at he
  cases he
  cases ad' with
  | none => have := (h0 rfl).1; rw [← List.length_eq_zero_iff, ints_length] at this; omega
  | some ad =>
    refine wpList_append_lies w hgd s x 27 ho base 3 i (.int .i64 0) 1 8 Tryz.underlying27 hi hz0 hz2 hz3 rfl (by decide) v xs.length (ints xs) hs hown ad news.length cap (ints news) hx (by rw [ints_length, Nat.mul_one]) (hc ad rfl) (ints_one _) hp (by unfold maxLen; omega) (by omega) hbase w.heap.size rfl ?_
    intro g cap' w' g1 g2 g3 _
    rw [← List.length_append] at g1 ⊢
    exact h g cap' w' (by rw [← ints_append] at g1; exact g1) (hb.grown g2 hbase (fun k hk => (hown.lt k hk).1)) g2 g3

def idsT (t : T) : List Int := ((preT t).filter leafB).map T.id
def IdsSays (l : List Int) (w : World) (e : Ending) (w' : World) : Prop := ∃ v, e = .returned v ∧ OwnI w' w.heap.size v l ∧ Below w.heap.size w w'

set_option maxRecDepth 100000 in
theorem rids_any (t : T) (c : C) (w : World) (hm : sz t ≤ 1000000) (hi : Is w c t) : Calls Tryz.prog 12 #[cval c] w (IdsSays (idsT t) w) := by
  have B1 : Hid (Below w.heap.size w ((w.alloc (cbox c)).alloc (.cells #[] 3))) := ((Below.refl _ _).alloc (Nat.le_refl _) _).alloc (by simp) _
  have H := Lib.hid (rleaves_any w t c ((w.alloc (cbox c)).alloc (.cells #[] 3)) hm hi B1.out)
  have HE : Hid (OwnI ((w.alloc (cbox c)).alloc (.cells #[] 3)) (w.heap.size + 1) (.slice (some ⟨w.heap.size + 1, 0, none⟩) 0 0) []) := by
    have := OwnI.empty (w.alloc (cbox c)) (w.heap.size + 1) (by simp)
    exact Lib.hid (by simpa using this)
  have HM := Lib.hid (show ((preT t).filter leafB).length ≤ 1000000 by have := List.length_filter_le leafB (preT t); rw [preT_len] at this; omega)
  unfold idsT
  generalize (preT t).filter leafB = ls at H HM ⊢
  clear hi hm
  go_enter Tryz.func12, Tryz.ntmps12
  go_wp2_with fail
  refine H.out.mono ?_
  rintro e w2 ⟨vl, al, rfl, howl, htl, hb2⟩
  have hsz2 : w.heap.size + 2 ≤ w2.heap.size := by have := hb2.size; simpa using this
  have HT := Lib.hid htl
  have hall : al.length ≤ 1000000 := by rw [htl.1]; exact HM.out
  have HROW := Lib.hid howl
  obtain ⟨aa, capl, rfl⟩ := howl.row.shape
  have HOE := Lib.hid (HE.out.up hb2)
  have HB2 := Lib.hid (B1.out.trans (hb2.mono B1.out.size))
  clear hb2 howl htl
  go_wp2
  go_loopg [3, 11] (al.length + 1) (fun g v i wr => ∃ (k : Nat), g + k = al.length + 1 ∧ k ≤ al.length ∧ i = .int .i64 k ∧ OwnI wr (w.heap.size + 1) v ((ls.take k).map T.id) ∧ OwnLater w2 (w.heap.size + 1) v ∧ w2.grownBy wr (some (w.heap.size + 1)))
  case atStart => exact ⟨0, by omega, by omega, rfl, by simpa using HOE.out, .inl rfl, World.grownBy.refl _ _⟩
  case round =>
    obtain ⟨k, hg, hk, rfl, hown, hlat, hgr⟩ := hrel
    have HG := Lib.hid hg
    have HO := Lib.hid hown
    have HLT := Lib.hid hlat
    have HGR := Lib.hid hgr
    clear hg hown hlat hgr
    by_cases hlt : k < al.length
    · obtain ⟨x, u, hx, hu, hxu⟩ := HT.out.at hlt
      obtain ⟨gl, capl', hvl, hgl, hgl2⟩ := HROW.out.form (by omega)
      have haa : aa = some ⟨gl, 0, none⟩ := by cases hvl; rfl
      subst haa
      have hgl' : w.heap.size + 2 ≤ gl := by simpa using hgl
      obtain ⟨c0, c1, c2, c3, c4, c5, c6⟩ := (cat_of_flat (HROW.out.cells (g := gl) rfl) k x hx).grown HGR.out (by intro e; cases e; omega)
      have hti := hxu.split.2.2.1
      have HST : Hid ((ls.take (k + 1)).map T.id = (ls.take k).map T.id ++ [x.id]) := Lib.hid (by rw [List.take_add_one, hu]; simp [hti])
      clear hxu hx hu hti hvl hgl
      have hcl : ((ls.take k).map T.id).length + [x.id].length ≤ 1954687338211 := by
        have h3 : (ls.take k).length ≤ k := List.length_take_le _ _
        simp; omega
      have HCL := Lib.hid hcl
      clear hcl
      go_wp2_with (at_builtin; refine wpList_append_ints rfl _ _ rfl (w.heap.size + 1) u3 _ ((ls.take k).map T.id) [x.id] rfl (HO.out.up ((Below.refl _ _).alloc (Nat.le_refl _) _)) rfl (row_one wr (.int .i64 x.id) 3) (by simp) HCL.out wr ((Below.refl _ _).alloc (by have := HGR.out.size; omega) _) (by have := HGR.out.size; omega) ?_; intro g cap3 w3 hown3 hb3 hgr3 hpl3)
      have HO3 := Lib.hid hown3
      have HG3 := Lib.hid (later_gb (by omega) HLT.out (gb_alloc HGR.out _) hgr3)
      have HL3 : Hid (OwnLater w2 (w.heap.size + 1) (.slice (some ⟨g, 0, none⟩) (((ls.take k).map T.id) ++ [x.id]).length cap3)) := by
        rcases hpl3 with h | h
        · rcases HLT.out with h2 | ⟨y, h2, h3⟩
          · rw [h2] at h; cases h; exact .inl rfl
          · rw [h2] at h; cases h; exact .inr ⟨_, rfl, h3⟩
        · refine .inr ⟨g, rfl, ?_⟩
          rw [h]; have := HGR.out.size; simp; omega
      clear hown3 hb3 hgr3 hpl3
      go_wp2
      go_roundg (gk - 1)
      case measure => have := HG.out; omega
      case rel =>
        refine ⟨k + 1, by have := HG.out; omega, by omega, by go_num, ?_, by simpa using HL3.out, HG3.out⟩
        rw [HST.out]
        simpa using HO3.out
    · obtain rfl : k = al.length := by omega
      have hkl : ((al.length : Int) < (al.length : Int)) = False := by simp
      go_wp2
      go_ret
      refine ⟨_, rfl, ?_, ?_⟩
      · have := HO.out.lower (base' := w.heap.size) (by omega)
        rw [List.take_of_length_le (by rw [← HT.out.1]; omega)] at this
        exact this
      · exact HB2.out.trans ⟨HGR.out.os, HGR.out.tape, HGR.out.output, HGR.out.size, fun j hj => HGR.out.block j (by omega) (by intro e; cases e; omega)⟩
end Go.Proofs.YtakofjbjciljjaaGreat
/- The numbers of the leaves of trees, in order: the program's answer. -/
namespace Go.Proofs.YtakofjbjciljjaaGreat
open Go.RowKit

def lvOwn (B : Nat) (_ : Nat × List Int) (o : Option Obj) (k : Nat) : Prop := k = B ∨ (B < k ∧ ∃ cs fr, o = some (.cells cs 3 fr))
structure lvI (w0 : World) (s : Nat × List Int) (W : World) : Prop where
  below : Below w0.heap.size w0 W
  room : s.2.length + s.1 ≤ 1000000
  box : ∃ v, Box1 W w0.heap.size v 27 ∧ OwnI W (w0.heap.size + 1) v s.2
def lvStep (s : Nat × List Int) (t : T) : Nat × List Int := (s.1 - 1, if leafB t then s.2 ++ [t.id] else s.2)

theorem lvM (w0 : World) : Mach w0 (lvOwn w0.heap.size) (lvI w0) := by
  refine ⟨fun s W cs t h ht ho => ?_, fun s W h => h.below, fun s W W' h hb => ⟨h.below.trans (hb.mono h.below.size), h.room, ?_⟩⟩
  · obtain ⟨v, hv, -⟩ := h.box
    have := lt_of_block hv
    rcases ho with h1 | ⟨-, cs', fr, h2⟩
    · omega
    · cases h2; exact ht rfl
  · obtain ⟨v, hv, ho⟩ := h.box
    exact ⟨v, hv.up hb, ho.up hb⟩

theorem heap_set' {w : World} {b : Nat} {v : Value} {k : Nat} (h : k ≠ b) : (w.setCell ⟨b, 0, none⟩ v).heap[k]? = w.heap[k]? := Below.heap_setCell w ⟨b, 0, none⟩ v k h
theorem own_typed {W : World} {base : Nat} {v : Value} {l : List Int} (h : OwnI W base v l) {g : Nat} (hg : v.ownBlock = some g) : base ≤ g ∧ ∃ cs fr, W.heap[g]? = some (.cells cs 3 fr) := by
  rcases h.2 with ⟨rfl, -⟩ | ⟨g', cap, cur, rfl, hb, hg', -⟩
  · cases hg
  · cases hg; exact ⟨hb, cur, (0, 0), hg'⟩

/-- What turned: the box, and the row that it holds. -/
theorem lv_frame {B : Nat} {s s' : Nat × List Int} {W W1 w1 : World} {v : Value} {l : List Int} (hown : OwnI W (B + 1) v l) (h1 : Below W.heap.size W W1) (h2 : W1.grownBy w1 v.ownBlock) (x : Value) (_ : B < W.heap.size) :
    Fr (lvOwn B) s W s' (w1.setCell ⟨B, 0, none⟩ x) := by
  have hsame : ∀ k, k < W.heap.size → k ≠ B → v.ownBlock ≠ some k → (w1.setCell ⟨B, 0, none⟩ x).heap[k]? = W.heap[k]? := fun k hk hkb hne => by
    rw [heap_set' hkb, h2.block k (Nat.lt_of_lt_of_le hk h1.size) (fun e => hne e.symm), h1.block k hk]
  refine ⟨h2.os.trans h1.os, h2.tape.trans h1.tape, h2.output.trans h1.output, ?_, fun k hk hn => ?_, fun k hk => ?_⟩
  · have := h1.size; have := h2.size; simp [World.setCell]; omega
  · refine hsame k hk (fun e => hn (.inl e)) fun e => hn ?_
    obtain ⟨hg1, cs, fr, hg2⟩ := own_typed hown e
    exact .inr ⟨by omega, cs, fr, hg2⟩
  · rcases Nat.lt_or_ge k W.heap.size with h | h
    · refine .inl ?_
      rcases hk with hk | ⟨hk1, cs, fr, hk2⟩
      · exact .inl hk
      · by_cases e : v.ownBlock = some k
        · obtain ⟨hg1, cs', fr', hg2⟩ := own_typed hown e
          exact .inr ⟨hk1, cs', fr', hg2⟩
        · rw [hsame k h (by omega) e] at hk2
          exact .inr ⟨hk1, cs, fr, hk2⟩
    · exact .inr h

set_option maxRecDepth 100000 in
theorem leaves1_does (w0 : World) (t : T) : Does (fun s => s.1) w0 (lvOwn w0.heap.size) (lvI w0) 40 #[.pointer (some ⟨w0.heap.size, 0, none⟩)] lvStep t := by
  rintro ⟨r, l⟩ c W hsz hi hI
  show Calls Tryz.prog 40 #[cval c, .pointer (some ⟨w0.heap.size, 0, none⟩)] W _
  obtain ⟨v, hv, hown⟩ := hI.box
  have hlt : w0.heap.size < W.heap.size := lt_of_block hv
  have hne : w0.heap.size ≠ W.heap.size := by omega
  have HI := Lib.hid hI
  have HO := Lib.hid hown
  have HV := Lib.hid hv
  obtain ⟨a, cap, rfl⟩ := row_shape hown.row
  have hr1 : 1 ≤ r := by have := sz_pos t; simp only at hsz; omega
  have htk := hi.split.1
  have hti := hi.split.2.2.1
  have HA : Hid (Below W.heap.size W (W.alloc (cbox c))) := (Below.refl _ _).alloc (Nat.le_refl _) _
  simp only at hown hv
  cases hk1 : (c.k == 1) with
  | true =>
    have hst : Hid (lvStep (r, l) t = (r - 1, l ++ [c.id])) := Lib.hid (by rw [lvStep, leafB, htk, hk1, hti]; rfl)
    rw [hst.out]
    have q0 := cell_of_one hv
    have HLN : Hid (l.length + [c.id].length ≤ 1954687338211) := Lib.hid (by have := hI.room; simp at *; omega)
    have HRM : Hid ((l ++ [c.id]).length + (r - 1) ≤ 1000000) := Lib.hid (by have := hI.room; simp at *; omega)
    have HRO : Hid (Row ((W.alloc (cbox c)).alloc (.cells #[.int .i64 c.id] 3)) (.slice (some ⟨W.heap.size + 1, 0, none⟩) 1 1) (ints [c.id])) := Lib.hid (by
      have := row_one (W.alloc (cbox c)) (.int .i64 c.id) 3
      show Row _ _ [.int .i64 c.id]
      simpa using this)
    clear hi hI hown hv htk hti hsz hst
    go_enter Tryz.func40, Tryz.ntmps40
    go_wp2_with (at_builtin; refine wpList_append_ints rfl _ _ rfl (w0.heap.size + 1) (.slice a l.length cap) _ l [c.id] rfl (((HO.out.up HA.out)).up ((Below.refl _ _).alloc (Nat.le_refl _) _)) rfl HRO.out (by simp) HLN.out W (((Below.refl _ _).alloc (by omega) _).alloc (by simp; omega) _) (by omega) ?_; intro g cap3 w3 hown3 hb3 hgr3 hpl3; have HO3 := Lib.hid hown3; have HB3 := Lib.hid hb3; have HG3 := Lib.hid hgr3; have HV3 := Lib.hid (show Box1 w3 w0.heap.size (.slice a l.length cap) 27 from (hb3.block _ (Nat.lt_succ_self _)).trans HV.out); have z0 := cell_of_one HV3.out; have z1 := free_of_one HV3.out; clear hown3 hb3 hgr3 hpl3)
    go_end0
    refine ⟨rfl, ⟨?_, HRM.out, _, one_setCell HV3.out, ?_⟩, lv_frame HO.out (((Below.refl _ _).alloc (Nat.le_refl _) _).alloc (by simp) _) HG3.out _ hlt⟩
    · exact HI.out.below.trans ((HB3.out.mono (Nat.le_succ _)).setCell (Nat.le_refl _) _)
    · have := ownsRow_setCell_below HO3.out (a := ⟨w0.heap.size, 0, none⟩) (Nat.lt_succ_self _) (.slice (some ⟨g, 0, none⟩) (l ++ [c.id]).length cap3)
      simpa [OwnI] using this
  | false =>
    have hst : Hid (lvStep (r, l) t = (r - 1, l)) := Lib.hid (by rw [lvStep, leafB, htk, hk1]; rfl)
    rw [hst.out]
    clear hi hI hown hv htk hti hsz hst
    go_enter Tryz.func40, Tryz.ntmps40
    go_wp2
    go_end0
    have h1 := HI.out
    refine ⟨rfl, ⟨h1.below.trans (HA.out.mono h1.below.size), by have := h1.room; simp at *; omega, _, HV.out.up HA.out, HO.out.up HA.out⟩, ?_⟩
    have := Fr.of (own := lvOwn w0.heap.size) (s := (r, l)) HA.out
    exact ⟨this.os, this.tape, this.output, this.size, this.block, this.own⟩

def idsL (l : List T) : List Int := ((preL l).filter leafB).map T.id
mutual
theorem doT_lv (s : Nat × List Int) : ∀ t, (doT lvStep s t).2 = s.2 ++ ((preT t).filter leafB).map T.id
  | .node k r i l => by
    rw [doT, doL_lv (lvStep s (.node k r i l)) l, preT, List.filter_cons]
    simp only [lvStep]
    cases h : leafB (.node k r i l) <;> simp
theorem doL_lv (s : Nat × List Int) : ∀ l, (doL lvStep s l).2 = s.2 ++ ((preL l).filter leafB).map T.id
  | [] => by rw [doL, preL]; simp
  | t :: l => by rw [doL, doL_lv (doT lvStep s t) l, doT_lv s t, preL]; simp
end
theorem entersLv : Enters 40 := enters_of Tryz.func40 (by kernel_rfl) rfl

def IntsSays (l : List Int) (w : World) (e : Ending) (w' : World) : Prop := ∃ v, e = .returned v ∧ Row w' v (ints l) ∧ Below w.heap.size w w'

set_option maxRecDepth 100000 in
theorem leaves_any (v : Value) (l : List T) (w : World) (hr : TRow w v l) (hl : szL l ≤ 1000000) : Calls Tryz.prog 25 #[v] w (IntsSays (idsL l) w) := by
  have hI : lvI w (szL l, []) (w.alloc (.cells #[.slice none 0 0] 27)) := ⟨(Below.refl _ _).alloc (Nat.le_refl _) _, by simpa using hl, .slice none 0 0, Box1.new _ _ _, OwnI.nil _ _⟩
  have H := Lib.hid (each_any (lvM w) 40 entersLv _ lvStep l (fun s => s.1) (fun s t => by simp only [lvStep]; omega) (leaves1_does w) (szL l, []) _ v (Nat.le_refl _) (RowIn.of (lvM w) hr (by have := szL_len l; omega)) hI)
  obtain ⟨a, cap, rfl⟩ := hr.shape
  clear hr hI
  have hids : (doL lvStep (szL l, []) l).2 = idsL l := by rw [doL_lv]; simp [idsL]
  generalize doL lvStep (szL l, []) l = st at H hids
  obtain ⟨rr, ids⟩ := st
  simp only at hids
  subst hids
  go_enter Tryz.func25, Tryz.ntmps25
  go_wp2_with fail
  refine H.out.mono ?_
  rintro e w2 ⟨rfl, hi2, hfr2⟩
  obtain ⟨v2, hv2, ho2⟩ := hi2.box
  have HB2 := Lib.hid hi2.below
  have HO2 := Lib.hid ho2
  have q0 := cell_of_one hv2
  obtain ⟨a2, cap2, rfl⟩ := row_shape ho2.row
  clear hi2 hfr2 ho2 hv2
  go_wp2
  go_ret
  exact ⟨_, rfl, HO2.out.row, HB2.out⟩
end Go.Proofs.YtakofjbjciljjaaGreat
