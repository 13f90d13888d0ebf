/- Texts of this seat, 3 in one file. -/
import Derived.Test.YtakofjbjciljjaaGreatG17
import Derived.Deep.AppendLies
import Derived.Test.YtakofjbjciljjaaGreatG16
import Derived.Deep.RegionHeld3
/- Does a cell tile, and what is between its kids? -/
namespace Go.Proofs.YtakofjbjciljjaaGreat
open Go.RowKit

/-- A cell tiles: a leaf, or its kids are what it is cut into. -/
def fitsP (t : T) : Prop := t.k = 1 ∨ (cutP t.r (axT t) (sizesT t) ∧ t.kids.map T.r = cutParts t.r (axT t) (sizesT t) true)
noncomputable def fitB (t : T) : Bool := @decide (fitsP t) (Classical.propDecidable _)
theorem fitB_iff (t : T) : fitB t = true ↔ fitsP t := by unfold fitB; simp
theorem fitB_of {t : T} {b : Bool} (h : b = true ↔ fitsP t) : b = fitB t := by
  rw [Bool.eq_iff_iff, h, fitB_iff]
def linesT (t : T) : List R := if t.k = 1 then [] else cutLines t.r (axT t) (sizesT t) true
def linesB (t : T) (b : Bool) : List R := if b = true then linesT t else []
def BtwSays (t : T) (w : World) (e : Ending) (w' : World) : Prop := ∃ v, e = .returned (.tuple #[v, .bool (fitB t)]) ∧ RRow w' v (linesB t (fitB t)) ∧ Below w.heap.size w w'
theorem btw_no {t : T} {w w' : World} {e : Ending} {v : Value} (h : ¬ fitsP t) (he : e = .returned (.tuple #[v, .bool false])) (hr : RRow w' v []) (hb : Below w.heap.size w w') : BtwSays t w e w' := by
  have : fitB t = false := by
    rw [← Bool.not_eq_true, fitB_iff]; exact h
  exact ⟨v, by rw [this]; exact he, by rw [this]; exact hr, hb⟩
theorem btw_yes {t : T} {w w' : World} {e : Ending} {v : Value} (h : fitsP t) (he : e = .returned (.tuple #[v, .bool true])) (hr : RRow w' v (linesT t)) (hb : Below w.heap.size w w') : BtwSays t w e w' := by
  have : fitB t = true := (fitB_iff t).2 h
  exact ⟨v, by rw [this]; exact he, by rw [this]; exact hr, hb⟩
theorem RRow.nil (w : World) : RRow w (.slice none 0 0) [] := .inl ⟨_, _, rfl, rfl⟩
theorem sizes_len (t : T) : (sizesT t).length = t.kids.length := by unfold sizesT; split; exact hs_len t; exact ws_len t

set_option maxRecDepth 100000 in
set_option maxHeartbeats 1600000 in
theorem between_any (t : T) (c : C) (w : World) (hi : Is w c t) (hl : t.kids.length ≤ 20000) : Calls Tryz.prog 56 #[cval c] w (BtwSays t w) := by
  have HA : Hid (Below w.heap.size w (w.alloc (cbox c))) := (Below.refl _ _).alloc (Nat.le_refl _) _
  have HC := Lib.hid (cbox_new w c)
  have hck : t.k = c.k := hi.split.1
  have hcr : t.r = c.r := hi.split.2.1
  have HI := Lib.hid hi
  have hfine := hi.fine
  have HRF := Lib.hid hfine.2.1
  have HL := Lib.hid hl
  clear hi hfine
  by_cases h1 : c.k = 1
  · have d1 : (c.k == 1) = true := by simpa using h1
    have HF : Hid (fitsP t) := Lib.hid (.inl (by rw [hck]; exact h1))
    have HLN : Hid (linesT t = []) := Lib.hid (by unfold linesT; rw [if_pos (by rw [hck]; exact h1)])
    clear hck hcr h1
    go_enter Tryz.func56, Tryz.ntmps56
    go_wp2
    go_ret2
    exact btw_yes HF.out rfl (by rw [HLN.out]; exact RRow.nil _) HA.out
  · have d1 : (c.k == 1) = false := by simpa using h1
    have HNK : Hid (¬ t.k = 1) := Lib.hid (by rw [hck]; exact h1)
    have HCR := Lib.hid hcr
    have HAL := Lib.hid (along_any t c (w.alloc (cbox c)) (HI.out.up HA.out) HL.out)
    clear hck h1 hcr
    go_enter Tryz.func56, Tryz.ntmps56
    go_wp2_with fail
    refine HAL.out.mono ?_
    rintro e w2 ⟨v2, rfl, hr2, hb2⟩
    have HB2 := Lib.hid (HA.out.trans (hb2.mono HA.out.size))
    have C2 := Lib.hid (HC.out.up hb2)
    have HCT := Lib.hid (cut_any c.r (axT t) v2 (sizesT t) w2 HRF.out hr2 (by rw [sizes_len]; have := HL.out; omega))
    obtain ⟨c0, c1, c2, c3, c4, c5, c6⟩ := C2.out
    simp only [Nat.zero_add] at c1 c2 c3 c4 c5 c6
    clear hb2 hr2
    go_wp2_with fail
    refine HCT.out.mono ?_
    rintro e w3 ⟨v3, v4, b, rfl, hbi, hr3, hr4, hb3⟩
    have HB3 := Lib.hid (HB2.out.trans (hb3.mono HB2.out.size))
    have C3 := Lib.hid (C2.out.up hb3)
    have HBI := Lib.hid hbi
    have HR3 := Lib.hid hr3
    have HR4 := Lib.hid hr4
    clear hb3 hbi hr3 hr4 c0 c1 c2 c3 c4 c5 c6
    obtain ⟨c0, c1, c2, c3, c4, c5, c6⟩ := C3.out
    simp only [Nat.zero_add] at c1 c2 c3 c4 c5 c6
    cases b with
    | false =>
      have HF : Hid (¬ fitsP t) := Lib.hid (by
        rintro (h | ⟨h, -⟩)
        · exact HNK.out h
        · rw [HCR.out] at h
          have := HBI.out.2 h; cases this)
      go_wp2
      go_ret2
      exact btw_no HF.out rfl (RRow.nil _) HB3.out
    | true =>
      have HCP := Lib.hid (HBI.out.1 rfl)
      have HEQ := Lib.hid (equalR_any t.kids (cutParts c.r (axT t) (sizesT t) true) (.slice c.a c.n c.cap) v3 w3 (HI.out.row.up HB3.out) HR3.out HI.out.len)
      go_wp2_with fail
      refine HEQ.out.mono ?_
      rintro e w4 ⟨rfl, hb4⟩
      have HB4 := Lib.hid (HB3.out.trans (hb4.mono HB3.out.size))
      have HR5 := Lib.hid (HR4.out.up hb4)
      clear hb4 c0 c1 c2 c3 c4 c5 c6
      by_cases hq : t.kids.map T.r = cutParts c.r (axT t) (sizesT t) true
      · have HF : Hid (fitsP t) := Lib.hid (.inr (by rw [HCR.out]; exact ⟨HCP.out, hq⟩))
        have HLN : Hid (linesT t = cutLines c.r (axT t) (sizesT t) true) := Lib.hid (by unfold linesT; rw [if_neg HNK.out, HCR.out])
        rw [decide_eq_true hq]
        clear hq
        go_wp2
        go_ret2
        exact btw_yes HF.out rfl (by rw [HLN.out]; exact HR5.out) HB4.out
      · have HF : Hid (¬ fitsP t) := Lib.hid (by
          rintro (h | ⟨-, h⟩)
          · exact HNK.out h
          · rw [HCR.out] at h; exact hq h)
        rw [decide_eq_false hq]
        clear hq
        go_wp2
        go_ret2
        exact btw_no HF.out rfl (RRow.nil _) HB4.out
end Go.Proofs.YtakofjbjciljjaaGreat
/- Rectangles, many or none, added to a row of one's own. -/
namespace Go.Proofs.YtakofjbjciljjaaGreat
open Go.RowKit

theorem runR_zero {w : World} {base : Nat} {v : Value} {l : List R} (h : Owns w base v l) (ty : TypeId) (a : Option Addr) (c : Nat) : (Builtin.append_ #[59, 59] ty #[v, .slice a 0 c]).run Tryz.prog w = .ok v w := by
  obtain ⟨i, hi, hz0, hz1, hz2⟩ := rinfo
  have ht := Tryz.underlying59
  have hz : ∀ ad : Addr, (loadCells ad 0).run Tryz.prog w = .ok #[] w := fun ad => by first | rfl | simp [loadCells]
  rcases h.2 with ⟨rfl, hn⟩ | ⟨g, cap, cur, rfl, -, -, hnc, -⟩
  · cases a <;> simp [Builtin.append_, run_underlying ht, sizeOf, typeInfo, hi, Builtin.lenOf, Builtin.firstCells, hz]
  · cases a <;> simp [Builtin.append_, run_underlying ht, sizeOf, typeInfo, hi, Builtin.lenOf, Builtin.firstCells, hnc, storeCells, hz]

theorem rrow_cells {w : World} {a : Option Addr} {cap : Nat} {l : List R} (h : RRow w (.slice a l.length cap) l) (hp : 0 < l.length) : ∃ ad, a = some ad ∧ ∀ j u, (flat l)[j]? = some u → w.cell? (ad.add j) = some u := by
  obtain ⟨b, o, rfl, hf⟩ := h.place hp
  exact ⟨⟨b, o, none⟩, rfl, rat_cells hf⟩

/-- append(own.., rectangles...): what is owned then is both; where it lies. -/
theorem wpList_append_rects {w : World} {ops : Array Oper} {rest : List Oper} {o : Oper} {a : Act} {Q : Exit → Act → World → Prop} (hgd : o.guard = none) (s x : Operand)
    (ho : o.op = .call { callee := .builtin .append, args := #[s, x], argTypes := #[59, 59] })
    (base : Nat) (v src : Value) (xs news : List R) (hs : a.eval s = v) (hown : Owns w base v xs) (hx : a.eval x = src) (hrow : RRow w src news)
    (h63 : xs.length + news.length ≤ 1000000000) (w0 : World) (hb : Below base w0 w) (hbase0 : base ≤ w0.heap.size)
    (h : ∀ v' w', Owns w' base v' (xs ++ news) → Below base w0 w' → w.grownBy w' v.ownBlock → (v'.ownBlock = v.ownBlock ∨ v'.ownBlock = some w.heap.size) → wpList Tryz.prog ops Q rest (a.put o.dst v') w') : wpList Tryz.prog ops Q (o :: rest) a w := by
  have hbase : base ≤ w.heap.size := Nat.le_trans hbase0 hb.size
  obtain ⟨i, hi, hz0, hz1, hz2⟩ := rinfo
  obtain ⟨ad', cap, rfl⟩ := hrow.shape
  rcases Nat.eq_zero_or_pos news.length with h0 | hp
  · have hn : news = [] := List.length_eq_zero_iff.1 h0
    subst hn
    refine wpList_plain hgd fun K hK => ?_
    unfold Oper.wp execOp
    simp only [ho, resolve, invoke, builtin, Sem.run_bind, Sem.run_pure, Result.andThen_ok, List.map_toArray, List.map_cons, List.map_nil, hs, hx]
    rw [show ([] : List R).length = 0 from rfl, runR_zero hown]
    refine hK _ _ (h v w (by simpa using hown) hb ?_ (.inl rfl))
    exact ⟨rfl, rfl, rfl, Nat.le_refl _, fun _ _ _ => rfl⟩
  · obtain ⟨ad, rfl, hc⟩ := rrow_cells hrow hp
    refine wpList_append_lies w hgd s x 59 ho base 23 i zeroR 4 32 Tryz.underlying59 hi hz0 hz1 hz2 rfl (by decide) v xs.length (flat xs) hs hown ad news.length cap (flat news) hx (flat_length _) hc (flat_oneCell _) hp (by unfold maxLen; omega) (by omega) hbase w.heap.size rfl ?_
    intro g cap' w' g1 g2 g3 _
    have g1' : Owns w' base (.slice (some ⟨g, 0, none⟩) (xs.length + news.length) cap') (xs ++ news) := by
      have : w'.ownsRow base 23 4 (.slice (some ⟨g, 0, none⟩) (xs.length + news.length) cap') (xs ++ news).length (flat (xs ++ news)) := by
        rw [flat_append, List.length_append]; exact g1
      exact this
    refine h _ w' g1' (hb.grown g2 hbase (fun k hk => (hown.lt k hk).1)) g2 ?_
    rcases g3 with g3 | g3
    · exact .inl (by rw [g3]; rfl)
    · exact .inr (by rw [g3]; rfl)
end Go.Proofs.YtakofjbjciljjaaGreat
/- The document's own cut. -/
namespace Go.Proofs.YtakofjbjciljjaaGreat
open Go.RowKit

theorem Two.drew {w : World} {base : Nat} {v1 : Value} {l1 : List R} {v2 : Value} {l2 : List R} (h : Two w base v1 l1 v2 l2) : Two w.drew base v1 l1 v2 l2 := ⟨h.own1, h.own2, h.ne⟩
theorem two_new {w : World} : Two ((w.alloc (.cells #[] 23)).alloc (.cells #[] 23)) w.heap.size (.slice (some ⟨w.heap.size, 0, none⟩) 0 0) [] (.slice (some ⟨w.heap.size + 1, 0, none⟩) 0 0) [] := by
  refine ⟨?_, ?_, fun k h1 h2 => ?_⟩
  · exact Owns.up (World.ownsRow_made w #[] 0 (Nat.le_refl _) (Nat.zero_le _) (by simp)) ((Below.refl _ _).alloc (Nat.le_refl _) _)
  · have := World.ownsRow_made (base := w.heap.size) (e := 23) (size := 4) (w.alloc (.cells #[] 23)) #[] 0 (by simp) (Nat.zero_le _) (by simp)
    rw [World.size_alloc] at this
    exact this
  · simp [Value.ownBlock] at h1 h2
    omega

theorem c5_of {w : World} {q b j : Nat} {r : R} {m : Int} (h : RAt w q 0 r) (hm : w.cell? ⟨b, j, none⟩ = some (.int .i64 m)) :
    w.cell? ⟨q, 0, none⟩ = some (.int .i64 r.x) ∧ w.cell? ⟨q, 1, none⟩ = some (.int .i64 r.y) ∧ w.cell? ⟨q, 2, none⟩ = some (.int .i64 r.w) ∧ w.cell? ⟨q, 3, none⟩ = some (.int .i64 r.h) ∧ w.cell? ⟨b, j, none⟩ = some (.int .i64 m) := by
  obtain ⟨h0, h1, h2, h3⟩ := h
  simp only [Nat.zero_add] at h1 h2 h3
  exact ⟨h0, h1, h2, h3, hm⟩

theorem fill_none {whole : Int} (h : 1 ≤ whole) : ¬ fillP whole [] := fun h' => by
  have := h'.2
  simp [offS] at this
  omega
theorem rcut_no {r : R} {ax : Int} {ms : List Int} {w w' : World} {b c b' c' : Nat} (h : ¬ cutP r ax ms) (hb : Below w.heap.size w w') : CutSays r ax ms w (.returned (.tuple #[.slice (some ⟨b, c, none⟩) 0 0, .slice (some ⟨b', c', none⟩) 0 0, .bool false])) w' :=
  ⟨_, _, false, rfl, by simp [h], .inl ⟨_, _, rfl, rfl⟩, .inl ⟨_, _, rfl, rfl⟩, hb⟩

set_option maxRecDepth 100000 in
set_option maxHeartbeats 1600000 in
/-- .. where it can't be. -/
theorem rcut_not (r : R) (ax : Int) (v : Value) (ms : List Int) (w : World) (hf : r.fits) (hr : IRow w v ms) (hax : 0 ≤ ax ∧ ax ≤ 255) (hno : ¬ (mayB r = true ∧ (ax = 1 ∨ ax = 2) ∧ 0 < ms.length)) :
    Calls Tryz.prog 73 #[val r, .int .u8 ax, v] w fun e w' => CutSays r ax ms w e w' := by
  obtain ⟨a, cap, rfl⟩ := hr.shape
  have B1 : Hid (Below w.heap.size w ((w.alloc (box r)).alloc (.cells #[] 23))) := ((Below.refl _ _).alloc (Nat.le_refl _) _).alloc (by simp) _
  have H := Lib.hid (rmay_any r ((w.alloc (box r)).alloc (.cells #[] 23)) hf)
  have hn : Hid (¬ cutP r ax ms) := fun h => by
    refine hno ⟨h.1, ?_, ?_⟩
    · rcases h.2 with h | h
      · exact .inl h.1
      · exact .inr h.1
    · have hb := (mayB_iff r).1 h.1
      rcases Nat.eq_zero_or_pos ms.length with h0 | h0
      · rw [List.length_eq_zero_iff.1 h0] at h
        rcases h.2 with h | h
        · exact absurd h.2 (fill_none (by omega))
        · exact absurd h.2 (fill_none (by omega))
      · exact h0
  clear hr hf
  rcases bool_cases (mayB r) with hm | hm
  case inr =>
    rw [hm] at H
    go_enter Tryz.func73, Tryz.ntmps73
    go_wp2_with fail
    refine H.out.mono ?_
    rintro e w2 ⟨rfl, hb2⟩
    have B2 := Lib.hid (B1.out.trans (hb2.mono B1.out.size))
    clear hb2
    go_wp2
    go_ret3
    exact rcut_no hn.out B2.out
  rw [hm] at H
  by_cases h1 : ax < 1
  · have d1 : decide (ax < 1) = true := decide_eq_true h1
    go_enter Tryz.func73, Tryz.ntmps73
    go_wp2_with fail
    refine H.out.mono ?_
    rintro e w2 ⟨rfl, hb2⟩
    have B2 := Lib.hid (B1.out.trans (hb2.mono B1.out.size))
    clear hb2
    go_wp2
    go_ret3
    exact rcut_no hn.out B2.out
  have d1 : decide (ax < 1) = false := decide_eq_false h1
  by_cases h2 : 2 < ax
  · have d2 : decide (2 < ax) = true := decide_eq_true h2
    go_enter Tryz.func73, Tryz.ntmps73
    go_wp2_with fail
    refine H.out.mono ?_
    rintro e w2 ⟨rfl, hb2⟩
    have B2 := Lib.hid (B1.out.trans (hb2.mono B1.out.size))
    clear hb2
    go_wp2
    go_ret3
    exact rcut_no hn.out B2.out
  have d2 : decide (2 < ax) = false := decide_eq_false h2
  have h0 : ms.length = 0 := by
    rcases Nat.eq_zero_or_pos ms.length with h0 | h0
    · exact h0
    · exact absurd ⟨hm, by omega, h0⟩ hno
  clear hno
  go_enter Tryz.func73, Tryz.ntmps73
  go_wp2_with fail
  refine H.out.mono ?_
  rintro e w2 ⟨rfl, hb2⟩
  have B2 := Lib.hid (B1.out.trans (hb2.mono B1.out.size))
  clear hb2
  go_wp2
  go_ret3
  exact rcut_no hn.out B2.out
end Go.Proofs.YtakofjbjciljjaaGreat
