/- Texts of this seat, 3 in one file. -/
import Derived.Test.YtodcabaihhmhnaaG40
import Derived.Test.YtodcabaihhmhnaaG39
import Derived.Test.YtodcabaihhmhnaaG28
import Derived.Test.YtodcabaihhmhnaaG05
import Derived.Deep.RegionLaw
/- Shares, the program's walk. -/
namespace Go.Proofs.Ytodcabaihhmhnaa
open Go.RowKit Sh

theorem row_nil (w : World) : Row w (.slice none 0 0) (ints []) := ⟨none, 0, rfl, fun _ => ⟨rfl, rfl⟩, fun x hx => by cases hx⟩
theorem sh_no {b : Int} {gs : List Int} {w w' : World} (hb : Below w.heap.size w w') (h : ¬ okS b gs) : ShSays b gs w (.returned (.tuple #[.slice none 0 0, .bool false])) w' := ⟨hb, .inr ⟨h, _, rfl, row_nil _⟩⟩

set_option maxRecDepth 100000 in
theorem shares_any (b : Int) (v : Value) (gs : List Int) (w : World) (hv : Row w v (ints gs)) (hb : fits b) (hl : gs.length ≤ 1000) :
    Calls Try.prog 94 #[.int .i64 b, v] w (ShSays b gs w) := by
  have HB := Lib.hid (Below.refl w.heap.size w)
  obtain ⟨hb1, hb2⟩ := hb
  obtain ⟨a, cap, rfl⟩ := row_shape hv
  have HV := Lib.hid hv
  clear hv
  by_cases h0 : gs.length = 0
  · have HN : Hid (¬ okS b gs) := Lib.hid fun h => h.1 (List.length_eq_zero_iff.1 h0)
    rw [h0]
    clear HV h0 hl
    go_enter Try.func94, Try.ntmps94
    go_wp2
    go_ret2
    exact sh_no HB.out HN.out
  have d0 : ((gs.length : Int) == 0) = false := by rw [beq_eq_false_iff_ne]; omega
  have hne : gs ≠ [] := fun h => h0 (by rw [h]; rfl)
  by_cases h1 : b < -2147483647
  · have d1 : decide (b < -2147483647) = true := decide_eq_true h1
    have HN : Hid (¬ okS b gs) := Lib.hid fun h => by have := h.2.2.1; omega
    go_enter Try.func94, Try.ntmps94
    go_wp2
    go_ret2
    exact sh_no HB.out HN.out
  have d1 : decide (b < -2147483647) = false := decide_eq_false h1
  by_cases h2 : 2147483647 < b
  · have d2 : decide (2147483647 < b) = true := decide_eq_true h2
    have HN : Hid (¬ okS b gs) := Lib.hid fun h => by have := h.2.2.2.1; omega
    go_enter Try.func94, Try.ntmps94
    go_wp2
    go_ret2
    exact sh_no HB.out HN.out
  have d2 : decide (2147483647 < b) = false := decide_eq_false h2
  have HC := Lib.hid (containsI_any _ gs w HV.out (by omega))
  cases hbad : anyBad gs with
  | true =>
    rw [hbad] at HC
    have HN : Hid (¬ okS b gs) := Lib.hid fun h => anyBad_yes hbad h.2.1
    clear hbad
    go_enter Try.func94, Try.ntmps94
    go_wp2_with fail
    refine HC.out.mono ?_
    rintro e w1 ⟨rfl, hw1⟩
    rw [hw1]
    clear hw1 w1
    go_wp2
    go_ret2
    exact sh_no HB.out HN.out
  | false =>
    rw [hbad] at HC
    have HGD := Lib.hid (anyBad_no hbad)
    clear hbad
    by_cases hneg : b < 0
    · have d3 : decide (b < 0) = true := decide_eq_true hneg
      obtain ⟨need, hneed⟩ : ∃ need : Nat, -b = (need : Int) := ⟨(-b).toNat, by omega⟩
      have HNT := Lib.hid (show (-b).toNat = need by omega)
      have HL := Lib.hid (show (gs.map Int.toNat).length = gs.length by simp)
      have HS := Lib.hid (shrink_any need (gs.map Int.toNat) (.slice a gs.length cap) w (by rw [← natI_of HGD.out]; exact HV.out) (goodN_of HGD.out) (by omega) (by rw [HL.out]; exact hl))
      have HNE := Lib.hid hne
      clear hne
      go_enter Try.func94, Try.ntmps94
      go_wp2_with fail
      refine HC.out.mono ?_
      rintro e w1 ⟨rfl, hw1⟩
      rw [hw1]
      clear hw1 w1
      go_wp2_with fail
      refine HS.out.mono ?_
      rintro e w2 ⟨hb3, hres⟩
      have HB3 := Lib.hid hb3
      clear hb3
      rcases hres with ⟨hle, v', m, rfl, hsum, hrow⟩ | ⟨hgt, rfl⟩
      · have HLE := Lib.hid hle
        have HSM := Lib.hid hsum
        have HRW := Lib.hid hrow
        clear hle hsum hrow
        go_wp2
        go_ret2
        refine ⟨HB3.out, .inl ⟨⟨HNE.out, HGD.out, by omega, by omega, fun _ => by rw [HNT.out]; exact HLE.out⟩, v', _, rfl, .inr ⟨hneg, m, rfl, ?_⟩, ?_⟩⟩
        · have := HSM.out; rw [HL.out] at this; rw [this, HNT.out]
        · have := HRW.out; rw [HL.out] at this; exact this
      · have HGT := Lib.hid hgt
        clear hgt
        go_wp2
        go_ret2
        exact sh_no HB3.out fun h => by have := h.2.2.2.2 hneg; rw [HNT.out] at this; have := HGT.out; omega
    · have d3 : decide (b < 0) = false := decide_eq_false hneg
      obtain ⟨m, rfl⟩ : ∃ m : Nat, b = (m : Int) := ⟨b.toNat, by omega⟩
      have HS := Lib.hid (grow_any m gs.length w (by omega) (by omega) (by omega))
      have HNE := Lib.hid hne
      clear hne
      go_enter Try.func94, Try.ntmps94
      go_wp2_with fail
      refine HC.out.mono ?_
      rintro e w1 ⟨rfl, hw1⟩
      rw [hw1]
      clear hw1 w1
      go_wp2_with fail
      refine HS.out.mono ?_
      rintro e w2 ⟨g, rfl, hgw, hblk, hb3⟩
      have HB3 := Lib.hid hb3
      have HBK := Lib.hid hblk
      clear hb3 hblk
      go_wp2
      go_ret2
      refine ⟨HB3.out, .inl ⟨⟨HNE.out, HGD.out, by omega, by omega, fun h => by omega⟩, _, natI (out none gs.length m), rfl, .inl ⟨by omega, by simp⟩, ?_⟩⟩
      exact HBK.out.row _ _ (by rw [natI_length, out_len])
end Go.Proofs.Ytodcabaihhmhnaa
/- How much each kid of a giver is asked for. -/
namespace Go.Proofs.Ytodcabaihhmhnaa
open Go.RowKit Sh

/-- A row of numbers, one for each kid. -/
def GsSays (ax b : Int) (t : T) (w : World) (e : Ending) (w' : World) : Prop :=
  (alB t.k ax = true → ∃ l, ShIs b (t.kids.map (gvT ax)) l) ∧ ∃ v l, e = .returned v ∧ Row w' v (ints l) ∧ l.length = t.kids.length ∧ (∀ j, j < t.kids.length → l[j]? = some (shF t.k ax b (t.kids.map (gvT ax)) j)) ∧ Below w.heap.size w w'
theorem gs_flat {ax b : Int} {t : T} {w w' : World} {v : Value} (ha : alB t.k ax = false) (hr : Row w' v (ints (List.replicate t.kids.length b))) (hb : Below w.heap.size w w') : GsSays ax b t w (.returned v) w' := by
  refine ⟨(fun h => by rw [ha] at h; cases h), v, _, rfl, hr, by simp, (fun j hj => ?_), hb⟩
  rw [List.getElem?_replicate, if_pos hj]
  unfold shF
  rw [if_neg (by rw [ha]; decide)]
theorem gs_along {ax b : Int} {t : T} {w w' : World} {v : Value} {l : List Int} (ha : alB t.k ax = true) (hl : ShIs b (t.kids.map (gvT ax)) l) (hr : Row w' v (ints l)) (hb : Below w.heap.size w w') : GsSays ax b t w (.returned v) w' := by
  have hlen : l.length = t.kids.length := by rw [hl.len, List.length_map]
  refine ⟨(fun _ => ⟨l, hl⟩), v, l, rfl, hr, hlen, (fun j hj => ?_), hb⟩
  have hj' : j < l.length := by omega
  unfold shF
  rw [if_pos ha, shL_of hl, List.getD_eq_getElem?_getD, List.getElem?_eq_getElem hj']
  rfl
/-- A giver whose kids are those of a tree. -/
def GsIn (w : World) (ax : Int) (x : G) (t : T) : Prop := t.k = x.c.k ∧ (x.c.a = none ∧ x.c.n = 0 ∧ x.c.cap = 0) ∧ ∃ gs, GRow w (.slice x.a x.n x.cap) gs ∧ gs.length = t.kids.length ∧ x.n = t.kids.length ∧ ∀ (j : Nat) (y : G) (u : T), gs[j]? = some y → t.kids[j]? = some u → y.g = gvT ax u
set_option maxHeartbeats 4000000 in
set_option maxRecDepth 100000 in
theorem gshares_any (ax b : Int) (hax : ax = 1 ∨ ax = 2) (t : T) (x : G) (w : World) (hm : sz t ≤ 990) (ht : tileB t = true) (hb : canB ax b t) (hi : GsIn w ax x t) : Calls Try.prog 88 #[gval x, .int .u8 ax, .int .i64 b] w (GsSays ax b t w) := by
  have hfn : t.kids.length ≤ 990 := by have := sz_node t; have := szL_len t.kids; omega
  have hbf : fits b := by unfold canB at hb; have := (gv_bounds hax (show sz t ≤ 20000 by omega) ht).2; unfold fits; omega
  have HBF := Lib.hid hbf
  have HOK : Hid (alB t.k ax = true → okS b (t.kids.map (gvT ax))) := Lib.hid fun h => can_ok hax (by omega) ht hb h
  obtain ⟨e1, ⟨h1, h2, h3⟩, gs, hrow, hlen, hn, heach⟩ := hi
  obtain ⟨⟨ck, cr, cid, ca, cn, ccap⟩, xg, xa, xn, xcap⟩ := x
  simp only at e1 h1 h2 h3 hn
  subst h1 h2 h3 hn
  have HROW := Lib.hid hrow
  have HLEN := Lib.hid hlen
  have HGV : Hid (∀ (j : Nat) (y : G) (u : T), gs[j]? = some y → t.kids[j]? = some u → y.g = gvT ax u) := Lib.hid heach
  have HK := Lib.hid e1
  clear hb hbf ht hrow hlen heach
  have BX : Hid (Box9 (w.alloc (gbox ⟨⟨ck, cr, cid, none, 0, 0⟩, xg, xa, t.kids.length, xcap⟩)) w.heap.size ⟨⟨ck, cr, cid, none, 0, 0⟩, xg, xa, t.kids.length, xcap⟩) := Lib.hid (Box9.new w _)
  have B1 : Hid (Below w.heap.size w (w.alloc (gbox ⟨⟨ck, cr, cid, none, 0, 0⟩, xg, xa, t.kids.length, xcap⟩))) := Lib.hid ((Below.refl _ _).alloc (Nat.le_refl _) _)
  have HAL := Lib.hid (fun W => along8_any ⟨ck, cr, cid, none, 0, 0⟩ ax W)
  go_enter Try.func88, Try.ntmps88
  go_wp2_with fail
  refine (HAL.out _).mono ?_
  rintro e w2 ⟨rfl, hb2⟩
  have B2 := Lib.hid (B1.out.trans (hb2.mono B1.out.size))
  have BX2 := Lib.hid (BX.out.up hb2)
  clear hb2
  obtain ⟨⟨s0, s1, s2, s3, s4, s5, s6, s7, s8⟩, -⟩ := g9_parts BX2.out
  cases hal : alB ck ax with
  | false =>
    have hba : Below w2.heap.size w2 (w2.alloc (.cells #[.int .i64 b] 3)) := (Below.refl _ _).alloc (Nat.le_refl _) _
    have HR1 := Lib.hid (row_one w2 (.int .i64 b) 3)
    have B3 := Lib.hid (B2.out.trans (hba.mono B2.out.size))
    obtain ⟨⟨t0, t1, t2, t3, t4, t5, t6, t7, t8⟩, -⟩ := g9_parts (BX2.out.up hba)
    clear hba
    have hak : alB t.k ax = false := by rw [HK.out]; exact hal
    have HAK := Lib.hid hak
    clear hak
    rcases Nat.eq_zero_or_pos t.kids.length with h0 | h0
    · rw [h0] at s8 t8
      rw [h0]
      go_wp2_with fail
      refine (repeat_zero b _ _ HR1.out).mono ?_
      rintro e w4 ⟨rfl, hb4⟩
      have B4 := Lib.hid (B3.out.trans (hb4.mono B3.out.size))
      have HR4 : Hid (Row w4 (.slice (some ⟨(w2.alloc (.cells #[.int .i64 b] 3)).heap.size, 0, none⟩) 0 0) (ints (List.replicate t.kids.length b))) := Lib.hid (by
        rw [h0]
        exact ⟨some ⟨_, 0, none⟩, 0, rfl, (fun h => by cases h), fun x hx j u hu => by simp [ints] at hu⟩)
      clear hb4
      go_wp2
      go_ret
      exact gs_flat HAK.out (by simpa using HR4.out) B4.out
    · have HREP := Lib.hid (fun W v (hv : Row W v (ints [b])) => repeat_any b t.kids.length v W hv h0 (by omega))
      go_wp2_with fail
      refine (HREP.out _ _ HR1.out).mono ?_
      rintro e w4 ⟨g4, rfl, -, hblk, hb4⟩
      have B4 := Lib.hid (B3.out.trans (hb4.mono B3.out.size))
      have HR4 := Lib.hid (hblk.row t.kids.length t.kids.length (by simp))
      clear hblk hb4
      go_wp2
      go_ret
      exact gs_flat HAK.out (by simpa using HR4.out) B4.out
  | true =>
    have hak : alB t.k ax = true := by rw [HK.out]; exact hal
    have hok := HOK.out hak
    have HAK := Lib.hid hak
    clear hak
    go_wp2
    go_loopg [7, 26] (t.kids.length + 1) (fun g v i wr => ∃ (k : Nat), g + k = t.kids.length + 1 ∧ k ≤ t.kids.length ∧ i = .int .i64 k ∧ OwnI wr w2.heap.size v ((t.kids.take k).map (gvT ax)) ∧ Below w2.heap.size w2 wr)
    case atStart => exact ⟨0, by omega, by omega, rfl, by simpa using OwnI.nil w2 w2.heap.size, Below.refl _ _⟩
    case round =>
      clear s0 s1 s2 s3 s4 s5 s6 s7 s8
      obtain ⟨k, hg, hk, rfl, hown, hb⟩ := hrel
      have HG := Lib.hid hg
      have HO := Lib.hid hown
      have HB := Lib.hid hb
      clear hg hown hb
      have HBW := Lib.hid (B2.out.trans (HB.out.mono B2.out.size))
      by_cases hlt : k < t.kids.length
      · have hlti : (k : Int) < (t.kids.length : Int) := by omega
        obtain ⟨b3, o3, rfl, hf⟩ := HROW.out.place (by rw [HLEN.out]; omega)
        obtain ⟨u, hu⟩ : ∃ u, t.kids[k]? = some u := ⟨_, List.getElem?_eq_getElem hlt⟩
        obtain ⟨y, hy⟩ : ∃ y, gs[k]? = some y := ⟨_, List.getElem?_eq_getElem (by rw [HLEN.out]; exact hlt)⟩
        have HYG := Lib.hid (HGV.out k y u hy hu)
        have HTAKE := Lib.hid (show (t.kids.take (k + 1)).map (gvT ax) = (t.kids.take k).map (gvT ax) ++ [y.g] by rw [take_snoc hu, List.map_append, HYG.out]; rfl)
        obtain ⟨c0, c1, c2, c3, c4, c5, c6, c7, c8⟩ := g9_up (hf k y hy) HBW.out
        have HAA : Hid (Below wr.heap.size wr ((wr.alloc (gbox y)).alloc (.cells #[.int .i64 y.g] 3))) := Lib.hid (((Below.refl _ _).alloc (Nat.le_refl _) _).alloc (by simp) _)
        have HR1 := Lib.hid (row_one (wr.alloc (gbox y)) (.int .i64 y.g) 3)
        have HCL : Hid (((t.kids.take k).map (gvT ax)).length + [y.g].length ≤ 1954687338211) := Lib.hid (by simp; omega)
        have HWI : Hid ((wr.alloc (gbox y)).heap.size = wr.heap.size + 1) := Lib.hid (by simp)
        rw [HWI.out] at HR1
        clear hf hu hy
        go_wp2_with (at_builtin; refine wpList_append_ints rfl _ _ rfl w2.heap.size u7 _ ((t.kids.take k).map (gvT ax)) [y.g] rfl (HO.out.up HAA.out) rfl HR1.out (by simp) HCL.out w2 (HB.out.trans (HAA.out.mono HB.out.size)) (Nat.le_refl _) ?_; intro g6 cap6 w6 hown6 hb6 hgr6 hpl6)
        have O6 := Lib.hid hown6
        have B6 := Lib.hid hb6
        clear hown6 hb6 hgr6 hpl6
        go_wp2
        go_roundg (gk - 1)
        case measure => have := HG.out; omega
        case rel =>
          refine ⟨k + 1, by have := HG.out; omega, by omega, by go_num, ?_, B6.out⟩
          rw [HTAKE.out]
          have hmin : min k t.kids.length = k := by omega
          have h6 := O6.out
          simp only [List.length_append, List.length_map, List.length_take, hmin, List.length_cons, List.length_nil] at h6
          simpa [hmin] using h6
      · obtain rfl : k = t.kids.length := by omega
        have hkl : ((t.kids.length : Int) < (t.kids.length : Int)) = False := by simp
        have HO1 : Hid (OwnI wr w2.heap.size u7 (t.kids.map (gvT ax))) := Lib.hid (by have := HO.out; rw [List.take_length] at this; exact this)
        have HSH := Lib.hid (shares_any b u7 (t.kids.map (gvT ax)) wr HO1.out.row HBF.out (by rw [List.length_map]; omega))
        go_wp2_with fail
        refine HSH.out.mono ?_
        rintro e w4 ⟨hb4, hcase⟩
        rcases hcase with ⟨-, v4, l4, rfl, hl4, hrow4⟩ | ⟨hno, -⟩
        · have HL4 := Lib.hid hl4
          have HR4 := Lib.hid hrow4
          have B4 := Lib.hid (HBW.out.trans (hb4.mono HBW.out.size))
          clear hl4 hrow4 hb4
          go_wp2
          go_ret
          exact gs_along HAK.out HL4.out HR4.out B4.out
        · exact absurd hok hno
end Go.Proofs.Ytodcabaihhmhnaa
/- One cell more in a row of the call's own, in a statement that draws its order. -/
namespace Go.Proofs.Ytodcabaihhmhnaa
open Go.RowKit

theorem step_append_cell {w : World} {ops : Array Oper} {o : Oper} {a : Act} {K : Act → World → Prop} {Q : Exit → Act → World → Prop} {E : Prop} (hgd : o.guard = none) (s x : Operand)
    (ho : o.op = .call { callee := .builtin .append, args := #[s, x], argTypes := #[24, 24] })
    (base : Nat) (v src : Value) (xs : List C) (d : C) (hs : a.eval s = v) (hown : OwnC w base v xs) (hx : a.eval x = src) (hrow : CRow w src [d])
    (h63 : xs.length + 1 ≤ 1954687338211) (w0 : World) (hb : Below base w0 w) (hbase0 : base ≤ w0.heap.size)
    (h : ∀ g cap w', OwnC w' base (.slice (some ⟨g, 0, none⟩) (xs.length + 1) cap) (xs ++ [d]) → Below base w0 w' → w.grownBy w' v.ownBlock → (v.ownBlock = some g ∨ g = w.heap.size) → K (a.put o.dst (.slice (some ⟨g, 0, none⟩) (xs.length + 1) cap)) w') :
    if Region.wanted o (yielded ops a.tmps) = true then Oper.wp Try.prog o a w K Q else E := by
  have hbase : base ≤ w.heap.size := Nat.le_trans hbase0 hb.size
  obtain ⟨i, hi, hz0, hz2, hz3⟩ := info_parts infoC
  obtain ⟨ad', cap, rfl⟩ := hrow.shape
  obtain ⟨ad, rfl, hc⟩ := crow_cells hrow (by simp)
  refine step_append_lies w hgd s x 24 ho base 26 i zeroC 7 72 Try.underlying24 hi hz0 hz2 hz3 rfl (by decide) v xs.length (flatC xs) hs hown ad 1 cap (flatC [d]) hx (flatC_length _) hc (flatC_oneCell _) (by decide) (by unfold maxLen; omega) (by omega) hbase w.heap.size rfl ?_
  intro g cap' w' g1 g2 g3 _
  refine h g cap' w' ?_ (hb.grown g2 hbase (fun k hk => (hown.lt k hk).1)) g2 g3
  rw [← flatC_append] at g1
  have hl : (xs ++ [d]).length = xs.length + 1 := by simp
  unfold OwnC
  rw [hl]; exact g1
end Go.Proofs.Ytodcabaihhmhnaa
