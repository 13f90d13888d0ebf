/- The document's row of the leaves' numbers. -/
import Derived.Test.YtlpklpkalcgeaaaRLeaves
import Derived.Test.YtlpklpkalcgeaaaInts
namespace Go.Proofs.Ytlpklpkalcgeaaa
open Go.RowKit

/-- A row of numbers of the call's own. -/
def OwnI (w : World) (base : Nat) (v : Value) (l : List Int) : Prop := w.ownsRow base 3 1 v l.length (ints l)
theorem OwnI.row {w : World} {base : Nat} {v : Value} {l : List Int} (h : OwnI w base v l) : Row w v (ints l) := Row.of_owns h
theorem OwnI.up {w w' : World} {base : Nat} {v : Value} {l : List Int} (h : OwnI w base v l) (hb : Below w.heap.size w w') : OwnI w' base v l := owns_up h hb
theorem OwnI.lower {w : World} {base base' : Nat} {v : Value} {l : List Int} (h : OwnI w base v l) (hb : base' ≤ base) : OwnI w base' v l := owns_base h hb
theorem OwnI.empty (w : World) (base : Nat) (hb : base ≤ w.heap.size) : OwnI (w.alloc (.cells #[] 3)) base (.slice (some ⟨w.heap.size, 0, none⟩) 0 0) [] := World.ownsRow_made w #[] 0 hb (Nat.zero_le _) (by simp)
theorem OwnI.nil (w : World) (base : Nat) : OwnI w base (.slice none 0 0) [] := World.ownsRow_nil w base _ _

/-- append(own.., numbers...): what is owned then is both; where it lies. -/
theorem wpList_append_ints {w : World} {ops : Array Oper} {rest : List Oper} {o : Oper} {a : Act} {Q : Exit → Act → World → Prop} (hgd : o.guard = none) (s x : Operand)
    (ho : o.op = .call { callee := .builtin .append, args := #[s, x], argTypes := #[38, 38] })
    (base : Nat) (v src : Value) (xs news : List Int) (hs : a.eval s = v) (hown : OwnI w base v xs) (hx : a.eval x = src) (hrow : Row w src (ints news)) (hp : 0 < news.length)
    (h63 : xs.length + news.length ≤ 1954687338211) (w0 : World) (hb : Below base w0 w) (hbase0 : base ≤ w0.heap.size)
    (h : ∀ g cap w', OwnI w' base (.slice (some ⟨g, 0, none⟩) (xs ++ news).length cap) (xs ++ news) → Below base w0 w' → w.grownBy w' v.ownBlock → (v.ownBlock = some g ∨ g = w.heap.size) → wpList Try.prog ops Q rest (a.put o.dst (.slice (some ⟨g, 0, none⟩) (xs ++ news).length cap)) w') : wpList Try.prog ops Q (o :: rest) a w := by
  have hbase : base ≤ w.heap.size := Nat.le_trans hbase0 hb.size
  obtain ⟨i, hi, hz0, hz2, hz3⟩ := info_parts infoI
  obtain ⟨ad', cap, rfl⟩ := row_shape hrow
  obtain ⟨a', cap', he, h0, hc⟩ := hrow
  rw [ints_length] at he
  cases he
  cases ad' with
  | none => have := (h0 rfl).1; rw [← List.length_eq_zero_iff, ints_length] at this; omega
  | some ad =>
    refine wpList_append_lies w hgd s x 38 ho base 3 i (.int .i64 0) 1 8 Try.underlying38 hi hz0 hz2 hz3 rfl (by decide) v xs.length (ints xs) hs hown ad news.length cap (ints news) hx (by rw [ints_length, Nat.mul_one]) (hc ad rfl) (ints_one _) hp (by unfold maxLen; omega) (by omega) hbase w.heap.size rfl ?_
    intro g cap' w' g1 g2 g3 _
    rw [← List.length_append] at g1 ⊢
    exact h g cap' w' (by rw [← ints_append] at g1; exact g1) (hb.grown g2 hbase (fun k hk => (hown.lt k hk).1)) g2 g3

def idsT (t : T) : List Int := ((preT t).filter leafB).map T.id
def IdsSays (l : List Int) (w : World) (e : Ending) (w' : World) : Prop := ∃ v, e = .returned v ∧ OwnI w' w.heap.size v l ∧ Below w.heap.size w w'

set_option maxRecDepth 100000 in
theorem rids_any (t : T) (c : C) (w : World) (hm : sz t ≤ 1000000) (hi : Is w c t) : Calls Try.prog 16 #[cval c] w (IdsSays (idsT t) w) := by
  have B1 : Hid (Below w.heap.size w ((w.alloc (cbox c)).alloc (.cells #[] 3))) := ((Below.refl _ _).alloc (Nat.le_refl _) _).alloc (by simp) _
  have H := Lib.hid (rleaves_any w t c ((w.alloc (cbox c)).alloc (.cells #[] 3)) hm hi B1.out)
  have HE : Hid (OwnI ((w.alloc (cbox c)).alloc (.cells #[] 3)) (w.heap.size + 1) (.slice (some ⟨w.heap.size + 1, 0, none⟩) 0 0) []) := by
    have := OwnI.empty (w.alloc (cbox c)) (w.heap.size + 1) (by simp)
    exact Lib.hid (by simpa using this)
  have HM := Lib.hid (show ((preT t).filter leafB).length ≤ 1000000 by have := List.length_filter_le leafB (preT t); rw [preT_len] at this; omega)
  unfold idsT
  generalize (preT t).filter leafB = ls at H HM ⊢
  clear hi hm
  go_enter Try.func16, Try.ntmps16
  go_wp2_with fail
  refine H.out.mono ?_
  rintro e w2 ⟨vl, al, rfl, howl, htl, hb2⟩
  have hsz2 : w.heap.size + 2 ≤ w2.heap.size := by have := hb2.size; simpa using this
  have HT := Lib.hid htl
  have hall : al.length ≤ 1000000 := by rw [htl.1]; exact HM.out
  have HROW := Lib.hid howl
  obtain ⟨aa, capl, rfl⟩ := howl.row.shape
  have HOE := Lib.hid (HE.out.up hb2)
  have HB2 := Lib.hid (B1.out.trans (hb2.mono B1.out.size))
  clear hb2 howl htl
  go_wp2
  go_loopg [3, 11] (al.length + 1) (fun g v i wr => ∃ (k : Nat), g + k = al.length + 1 ∧ k ≤ al.length ∧ i = .int .i64 k ∧ OwnI wr (w.heap.size + 1) v ((ls.take k).map T.id) ∧ OwnLater w2 (w.heap.size + 1) v ∧ w2.grownBy wr (some (w.heap.size + 1)))
  case atStart => exact ⟨0, by omega, by omega, rfl, by simpa using HOE.out, .inl rfl, World.grownBy.refl _ _⟩
  case round =>
    obtain ⟨k, hg, hk, rfl, hown, hlat, hgr⟩ := hrel
    have HG := Lib.hid hg
    have HO := Lib.hid hown
    have HLT := Lib.hid hlat
    have HGR := Lib.hid hgr
    clear hg hown hlat hgr
    by_cases hlt : k < al.length
    · obtain ⟨x, u, hx, hu, hxu⟩ := HT.out.at hlt
      obtain ⟨gl, capl', hvl, hgl, hgl2⟩ := HROW.out.form (by omega)
      have haa : aa = some ⟨gl, 0, none⟩ := by cases hvl; rfl
      subst haa
      have hgl' : w.heap.size + 2 ≤ gl := by simpa using hgl
      obtain ⟨c0, c1, c2, c3, c4, c5, c6⟩ := (cat_of_flat (HROW.out.cells (g := gl) rfl) k x hx).grown HGR.out (by intro e; cases e; omega)
      have hti := hxu.split.2.2.1
      have HST : Hid ((ls.take (k + 1)).map T.id = (ls.take k).map T.id ++ [x.id]) := Lib.hid (by rw [List.take_add_one, hu]; simp [hti])
      clear hxu hx hu hti hvl hgl
      have hcl : ((ls.take k).map T.id).length + [x.id].length ≤ 1954687338211 := by
        have h3 : (ls.take k).length ≤ k := List.length_take_le _ _
        simp; omega
      have HCL := Lib.hid hcl
      clear hcl
      go_wp2_with (at_builtin; refine wpList_append_ints rfl _ _ rfl (w.heap.size + 1) u3 _ ((ls.take k).map T.id) [x.id] rfl (HO.out.up ((Below.refl _ _).alloc (Nat.le_refl _) _)) rfl (row_one wr (.int .i64 x.id) 3) (by simp) HCL.out wr ((Below.refl _ _).alloc (by have := HGR.out.size; omega) _) (by have := HGR.out.size; omega) ?_; intro g cap3 w3 hown3 hb3 hgr3 hpl3)
      have HO3 := Lib.hid hown3
      have HG3 := Lib.hid (later_gb (by omega) HLT.out (gb_alloc HGR.out _) hgr3)
      have HL3 : Hid (OwnLater w2 (w.heap.size + 1) (.slice (some ⟨g, 0, none⟩) (((ls.take k).map T.id) ++ [x.id]).length cap3)) := by
        rcases hpl3 with h | h
        · rcases HLT.out with h2 | ⟨y, h2, h3⟩
          · rw [h2] at h; cases h; exact .inl rfl
          · rw [h2] at h; cases h; exact .inr ⟨_, rfl, h3⟩
        · refine .inr ⟨g, rfl, ?_⟩
          rw [h]; have := HGR.out.size; simp; omega
      clear hown3 hb3 hgr3 hpl3
      go_wp2
      go_roundg (gk - 1)
      case measure => have := HG.out; omega
      case rel =>
        refine ⟨k + 1, by have := HG.out; omega, by omega, by go_num, ?_, by simpa using HL3.out, HG3.out⟩
        rw [HST.out]
        simpa using HO3.out
    · obtain rfl : k = al.length := by omega
      have hkl : ((al.length : Int) < (al.length : Int)) = False := by simp
      go_wp2
      go_ret
      refine ⟨_, rfl, ?_, ?_⟩
      · have := HO.out.lower (base' := w.heap.size) (by omega)
        rw [List.take_of_length_le (by rw [← HT.out.1]; omega)] at this
        exact this
      · exact HB2.out.trans ⟨HGR.out.os, HGR.out.tape, HGR.out.output, HGR.out.size, fun j hj => HGR.out.block j (by omega) (by intro e; cases e; omega)⟩
end Go.Proofs.Ytlpklpkalcgeaaa
