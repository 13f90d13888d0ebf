/- Texts of this seat, 3 in one file. -/
import Derived.Test.YtakofjbjciljjaaGreatG08
import Derived.Test.YtakofjbjciljjaaGreatG02
import Derived.Test.YtakofjbjciljjaaGreatG04
import Derived.OneCell
/- Trees and where they stand. -/
namespace Go.Proofs.YtakofjbjciljjaaGreat
open Go.RowKit

/-- A tree, and where its cells stand. -/
inductive IsL (w : World) : L → C → T → Prop
  | mk (b o : Nat) (c : C) (ts : List T) (xs : List L) (cs : List C) (cat : CAt w b o c) (fine : c.fine) (cn : c.n = ts.length) (xl : xs.length = ts.length) (cl : cs.length = ts.length)
      (place : ∀ (j : Nat) (y : L), xs[j]? = some y → ∃ kb ko, c.a = some ⟨kb, ko, none⟩ ∧ y.b = kb ∧ y.o = ko + j * 7)
      (each : ∀ (j : Nat) (y : L) (x : C) (u : T), xs[j]? = some y → cs[j]? = some x → ts[j]? = some u → IsL w y x u) : IsL w (.node b o xs) c (.node c.k c.r c.id ts)
theorem IsL.cat {w : World} {x : L} {c : C} {t : T} (h : IsL w x c t) : CAt w x.b x.o c := by cases h; assumption
theorem get_of {α : Type} {l : List α} {n j : Nat} (hl : l.length = n) (hj : j < n) : ∃ x, l[j]? = some x := ⟨_, List.getElem?_eq_getElem (by omega)⟩
theorem lt_of_get {α : Type} {l : List α} {j : Nat} {x : α} (h : l[j]? = some x) : j < l.length := (List.getElem?_eq_some_iff.1 h).1
theorem IsL.lies {w : World} {x : L} {c : C} {t : T} (h : IsL w x c t) : Lies w x t := by
  induction h with
  | mk b o c ts xs cs cat fine cn xl cl place each ih =>
    obtain ⟨h0, -, -, -, -, -, h6⟩ := cat
    rw [cn] at h6
    refine .mk b o c.k c.r c.id ts xs c.a c.cap h0 h6 xl (by rw [← cn]; exact fine.2.2.2) place fun j y u hy hu => ?_
    obtain ⟨x, hx⟩ := get_of cl (show j < ts.length by rw [← xl]; exact lt_of_get hy)
    exact ih j y x u hy hx hu
theorem IsL.is {w : World} {x : L} {c : C} {t : T} (h : IsL w x c t) : Is w c t := by
  induction h with
  | mk b o c ts xs cs cat fine cn xl cl place each ih =>
    refine .mk c ts cs ?_ cl fine fun j x u hx hu => ?_
    · rw [cn, ← cl]
      rcases Nat.eq_zero_or_pos cs.length with h0 | hp
      · rw [h0]; exact .inl ⟨_, _, rfl, List.length_eq_zero_iff.1 h0⟩
      · obtain ⟨y0, hy0⟩ := get_of xl (show 0 < ts.length by omega)
        obtain ⟨kb, ko, ha, -⟩ := place 0 y0 hy0
        rw [ha]
        refine .inr ⟨kb, ko, c.cap, rfl, fun j x hx => ?_⟩
        have hj := lt_of_get hx
        obtain ⟨y, hy⟩ := get_of xl (show j < ts.length by omega)
        obtain ⟨u, hu⟩ := get_of rfl (show j < ts.length by omega)
        obtain ⟨kb', ko', ha', hb', ho'⟩ := place j y hy
        rw [ha] at ha'; cases ha'
        have := (each j y x u hy hx hu).cat
        rw [hb', ho'] at this
        exact this
    · obtain ⟨y, hy⟩ := get_of xl (lt_of_get hu)
      exact ih j y x u hy hx hu
theorem IsL.up {w w' : World} {x : L} {c : C} {t : T} (h : IsL w x c t) (hb : Below w.heap.size w w') : IsL w' x c t := by
  induction h with
  | mk b o c ts xs cs cat fine cn xl cl place each ih => exact .mk b o c ts xs cs (cat.up hb) fine cn xl cl place ih

theorem pick_lt {α : Type} [Inhabited α] {n : Nat} {Q : Nat → α → Prop} (h : ∀ i, i < n → ∃ x, Q i x) : ∃ l : List α, l.length = n ∧ ∀ (j : Nat) (x : α), l[j]? = some x → Q j x := by
  induction n with
  | zero => exact ⟨[], rfl, fun j x hx => by simp at hx⟩
  | succ n ih =>
    obtain ⟨l, hl, hq⟩ := ih fun i hi => h i (by omega)
    obtain ⟨x, hx⟩ := h n (by omega)
    refine ⟨l ++ [x], by simp [hl], fun j y hy => ?_⟩
    rcases Nat.lt_trichotomy j l.length with hj | hj | hj
    · rw [List.getElem?_append_left hj] at hy; exact hq j y hy
    · subst hj; simp at hy; subst hy; rw [hl]; exact hx
    · rw [List.getElem?_eq_none (by simp; omega)] at hy; cases hy
theorem Is.stands {w : World} {c : C} {t : T} (h : Is w c t) : ∀ (b o : Nat), CAt w b o c → ∃ x, IsL w x c t ∧ x.b = b ∧ x.o = o := by
  induction h with
  | mk c ts cs row len fine each ih =>
    intro b o hc
    have hn : c.n = cs.length := row.len
    rcases Nat.eq_zero_or_pos cs.length with h0 | hp
    · have hts : ts = [] := List.length_eq_zero_iff.1 (by omega)
      have hcs : cs = [] := List.length_eq_zero_iff.1 h0
      subst hts; subst hcs
      exact ⟨.node b o [], .mk b o c [] [] [] hc fine (by simpa using hn) rfl rfl (fun j y hy => by simp at hy) (fun j y x u hy => by simp at hy), rfl, rfl⟩
    · obtain ⟨kb, ko, ha, hf⟩ := row.place hp
      obtain ⟨xs, hxl, hxs⟩ := pick_lt (n := ts.length) (Q := fun j y => ∀ (x : C) (u : T), cs[j]? = some x → ts[j]? = some u → IsL w y x u ∧ y.b = kb ∧ y.o = ko + j * 7) fun j hj => by
        obtain ⟨x, hx⟩ := get_of len hj
        obtain ⟨u, hu⟩ := get_of rfl hj
        obtain ⟨y, h1, h2, h3⟩ := ih j x u hx hu kb (ko + j * 7) (hf j x hx)
        exact ⟨y, fun x' u' hx' hu' => by rw [hx] at hx'; rw [hu] at hu'; cases hx'; cases hu'; exact ⟨h1, h2, h3⟩⟩
      refine ⟨.node b o xs, .mk b o c ts xs cs hc fine (by rw [hn, len]) hxl len (fun j y hy => ?_) (fun j y x u hy hx hu => (hxs j y hy x u hx hu).1), rfl, rfl⟩
      have hj : j < ts.length := by rw [← hxl]; exact lt_of_get hy
      obtain ⟨x, hx⟩ := get_of len hj
      obtain ⟨u, hu⟩ := get_of rfl hj
      exact ⟨kb, ko, ha, (hxs j y hy x u hx hu).2⟩

/-- What of a cell is a pane's. -/
abbrev FiveP (W : World) (b o : Nat) (p : Pn) : Prop := W.cell? ⟨b, o + 1, none⟩ = some (.int .i64 p.r.x) ∧ W.cell? ⟨b, o + 2, none⟩ = some (.int .i64 p.r.y) ∧ W.cell? ⟨b, o + 3, none⟩ = some (.int .i64 p.r.w) ∧ W.cell? ⟨b, o + 4, none⟩ = some (.int .i64 p.r.h) ∧ W.cell? ⟨b, o + 5, none⟩ = some (.int .i64 p.id)
theorem FiveP.upB {base : Nat} {w w' : World} {b o : Nat} {p : Pn} (h : FiveP w b o p) (hb : Below base w w') (hl : b < base) : FiveP w' b o p := by
  obtain ⟨h1, h2, h3, h4, h5⟩ := h
  exact ⟨(hb.cell hl).trans h1, (hb.cell hl).trans h2, (hb.cell hl).trans h3, (hb.cell hl).trans h4, (hb.cell hl).trans h5⟩
theorem FiveP.lt {w : World} {b o : Nat} {p : Pn} (h : FiveP w b o p) : b < w.heap.size := lt_of_cell h.1
def Fives (w : World) (ads : List (Nat × Nat)) (ps : List Pn) : Prop := ads.length = ps.length ∧ ∀ (j : Nat) (a : Nat × Nat) (p : Pn), ads[j]? = some a → ps[j]? = some p → FiveP w a.1 a.2 p
theorem Fives.nil (w : World) : Fives w [] [] := ⟨rfl, fun j a p ha => by simp at ha⟩
theorem Fives.one {w : World} {a : Nat × Nat} {p : Pn} (h : FiveP w a.1 a.2 p) : Fives w [a] [p] := ⟨rfl, fun j a' p' ha hp => by
  cases j with
  | zero => simp at ha hp; subst ha; subst hp; exact h
  | succ j => simp at ha⟩
theorem Fives.append {w : World} {ads bs : List (Nat × Nat)} {ps qs : List Pn} (h : Fives w ads ps) (g : Fives w bs qs) : Fives w (ads ++ bs) (ps ++ qs) := by
  refine ⟨by simp [h.1, g.1], fun j a p ha hp => ?_⟩
  rcases Nat.lt_or_ge j ads.length with hj | hj
  · rw [List.getElem?_append_left hj] at ha
    rw [List.getElem?_append_left (by rw [← h.1]; exact hj)] at hp
    exact h.2 j a p ha hp
  · rw [List.getElem?_append_right hj] at ha
    rw [List.getElem?_append_right (by rw [← h.1]; exact hj), ← h.1] at hp
    exact g.2 _ a p ha hp
def panesL (l : List T) : List Pn := ((preL l).filter leafB).map paneT
theorem panesT_eq (t : T) : panesT t = (if t.k = 1 then [paneT t] else []) ++ panesL t.kids := by
  unfold panesT panesL
  rw [preT_eq, List.filter_cons]
  by_cases h : t.k = 1
  · rw [if_pos h, if_pos (by simpa [leafB] using h)]; rfl
  · rw [if_neg h, if_neg (by simpa [leafB] using h)]; rfl
theorem panesL_cons (t : T) (l : List T) : panesL (t :: l) = panesT t ++ panesL l := by
  unfold panesT panesL
  rw [preL, List.filter_append, List.map_append]
theorem fives_list {w : World} : ∀ (xs : List L) (ts : List T), xs.length = ts.length → (∀ (j : Nat) (y : L) (u : T), xs[j]? = some y → ts[j]? = some u → Fives w (lfT y u) (panesT u)) → Fives w (lfL xs ts) (panesL ts)
  | [], [], _, _ => by rw [lfL_nil]; exact Fives.nil w
  | x :: xs, t :: ts, hl, h => by
    rw [lfL, panesL_cons]
    exact (h 0 x t rfl rfl).append (fives_list xs ts (by simpa using hl) fun j y u hy hu => h (j + 1) y u (by simpa using hy) (by simpa using hu))
  | [], _ :: _, hl, _ => by simp at hl
  | _ :: _, [], hl, _ => by simp at hl
theorem IsL.fives {w : World} {x : L} {c : C} {t : T} (h : IsL w x c t) : Fives w (lfT x t) (panesT t) := by
  induction h with
  | mk b o c ts xs cs cat fine cn xl cl place each ih =>
    rw [lfT_eq, panesT_eq]
    refine Fives.append ?_ (fives_list xs ts xl fun j y u hy hu => ?_)
    · show Fives w (if c.k = 1 then [(b, o)] else []) (if c.k = 1 then [paneT (.node c.k c.r c.id ts)] else [])
      split
      · exact Fives.one (five_of cat)
      · exact Fives.nil w
    · obtain ⟨x, hx⟩ := get_of cl (lt_of_get hu)
      exact ih j y x u hy hx hu
theorem panes_len (t : T) : (panesT t).length ≤ sz t := by
  unfold panesT
  rw [List.length_map, ← preT_len]
  exact List.length_filter_le _ _
end Go.Proofs.YtakofjbjciljjaaGreat
/- One rectangle in a row of its own: may it be? -/
namespace Go.Proofs.YtakofjbjciljjaaGreat
open Go.RowKit

abbrev box (r : R) : Obj := .cells #[.int .i64 r.x, .int .i64 r.y, .int .i64 r.w, .int .i64 r.h] 23
theorem rat_new (w : World) (r : R) : RAt (w.alloc (box r)) w.heap.size 0 r := by
  refine ⟨?_, ?_, ?_, ?_⟩ <;> simp
theorem rrow_one (w : World) (r : R) : RRow (w.alloc (box r)) (.slice (some ⟨w.heap.size, 0, none⟩) 1 1) [r] := by
  refine .inr ⟨w.heap.size, 0, 1, rfl, fun j q hq => ?_⟩
  cases j with
  | zero => simp at hq; subst hq; simpa using rat_new w r
  | succ j => simp at hq

def hasB (r : R) (x y : Int) : Bool := mayB r && decide (r.x ≤ x) && decide (x < r.x + r.w) && decide (r.y ≤ y) && decide (y < r.y + r.h)
theorem bool_cases (b : Bool) : b = true ∨ b = false := by cases b <;> simp
theorem mays_one (r : R) : mays [r] = mayB r := by simp [mays]
theorem fits_one {r : R} (h : r.fits) : fitsAll [r] := fun q hq => by simp at hq; subst hq; exact h

/-- May, of one. -/
theorem may_one (r : R) (w : World) (hr : r.fits) (n : Nat) (hn : n = w.heap.size) :
    Calls Tryz.prog 93 #[.slice (some ⟨n, 0, none⟩) 1 1] (w.alloc (box r)) fun e w' => e = .returned (.bool (mayB r)) ∧ Below w.heap.size w w' := by
  subst hn
  refine (may_any _ [r] _ (rrow_one w r) (by simp) (fits_one hr)).mono ?_
  rintro e w' ⟨rfl, hb⟩
  exact ⟨by rw [mays_one], ((Below.refl _ _).alloc (Nat.le_refl _) _).trans (hb.mono (by simp))⟩

end Go.Proofs.YtakofjbjciljjaaGreat
/- May a cell be, whatever the others are? -/
namespace Go.Proofs.YtakofjbjciljjaaGreat
open Go.RowKit

def wellB (k : Int) (r : R) (id : Int) (n : Nat) : Bool := mayB r && ((decide (k = 1) && (decide (0 ≤ id ∧ id ≤ 2147483647) && decide (n = 0))) || ((decide (k = 2) || decide (k = 3)) && (decide (id = 0) && decide (2 ≤ n))))
def wellC (c : C) : Bool := wellB c.k c.r c.id c.n
def wellT (t : T) : Bool := wellB t.k t.r t.id t.kids.length
theorem well_is {w : World} {c : C} {t : T} (h : Is w c t) : wellC c = wellT t := by
  obtain ⟨h1, h2, h3, -, cs, -, -, h4, -⟩ := h.split
  rw [wellC, wellT, h1, h2, h3, h4]

set_option maxRecDepth 100000 in
theorem well_any (c : C) (w : World) (hf : c.fine) : Calls Tryz.prog 92 #[cval c] w fun e w' => e = .returned (.bool (wellC c)) ∧ Below w.heap.size w w' := by
  obtain ⟨ck, cr, cid, ca, cn, ccap⟩ := c
  have HA : Hid (Below w.heap.size w (w.alloc (cbox ⟨ck, cr, cid, ca, cn, ccap⟩))) := (Below.refl _ _).alloc (Nat.le_refl _) _
  have H := Lib.hid (may_one cr (w.alloc (cbox ⟨ck, cr, cid, ca, cn, ccap⟩)) hf.2.1 (w.heap.size + 1) (by simp))
  have hk := hf.1
  have hn := hf.2.2.2
  simp only at hk hn
  clear hf
  show Calls Tryz.prog 92 _ w fun e w' => e = .returned (.bool (wellB ck cr cid cn)) ∧ Below w.heap.size w w'
  cases hm : mayB cr with
  | false =>
    rw [hm] at H
    have hv := Lib.hid (show wellB ck cr cid cn = false by rw [wellB, hm]; rfl)
    clear hm
    go_enter Tryz.func92, Tryz.ntmps92
    go_wp2_with fail
    refine H.out.mono ?_
    rintro e w2 ⟨rfl, hb⟩
    have HB := Lib.hid hb
    clear hb
    go_wp2
    go_ret
    exact ⟨by rw [hv.out]; rfl, below_one HB.out⟩
  | true =>
    rw [hm] at H
    by_cases k1 : ck = 1
    · subst k1
      by_cases h0 : 0 ≤ cid
      · by_cases h1 : cid ≤ 2147483647
        · by_cases h2 : cn = 0
          · subst h2
            have d0 : decide (0 ≤ cid) = true := decide_eq_true h0
            have d1 : decide (cid ≤ 2147483647) = true := decide_eq_true h1
            have hv := Lib.hid (show wellB 1 cr cid 0 = true by rw [wellB, hm]; simp <;> omega)
            clear hm
            go_enter Tryz.func92, Tryz.ntmps92
            go_wp2_with fail
            refine H.out.mono ?_
            rintro e w2 ⟨rfl, hb⟩
            have HB := Lib.hid hb
            clear hb
            obtain ⟨q0, q1, q2, q3, q4, q5, q6⟩ := box_at HB.out
            go_wp2
            go_ret
            exact ⟨by rw [hv.out]; rfl, below_one HB.out⟩
          · have d2 : ((cn : Int) == 0) = false := by rw [beq_eq_false_iff_ne]; omega
            have d0 : decide (0 ≤ cid) = true := decide_eq_true h0
            have d1 : decide (cid ≤ 2147483647) = true := decide_eq_true h1
            have hv := Lib.hid (show wellB 1 cr cid cn = false by rw [wellB, hm]; simp <;> omega)
            clear hm
            go_enter Tryz.func92, Tryz.ntmps92
            go_wp2_with fail
            refine H.out.mono ?_
            rintro e w2 ⟨rfl, hb⟩
            have HB := Lib.hid hb
            clear hb
            obtain ⟨q0, q1, q2, q3, q4, q5, q6⟩ := box_at HB.out
            go_wp2
            go_ret
            exact ⟨by rw [hv.out]; rfl, below_one HB.out⟩
        · have d1 : decide (cid ≤ 2147483647) = false := decide_eq_false h1
          have d0 : decide (0 ≤ cid) = true := decide_eq_true h0
          have hv := Lib.hid (show wellB 1 cr cid cn = false by rw [wellB, hm]; simp <;> omega)
          clear hm
          go_enter Tryz.func92, Tryz.ntmps92
          go_wp2_with fail
          refine H.out.mono ?_
          rintro e w2 ⟨rfl, hb⟩
          have HB := Lib.hid hb
          clear hb
          obtain ⟨q0, q1, q2, q3, q4, q5, q6⟩ := box_at HB.out
          go_wp2
          go_ret
          exact ⟨by rw [hv.out]; rfl, below_one HB.out⟩
      · have d0 : decide (0 ≤ cid) = false := decide_eq_false h0
        have hv := Lib.hid (show wellB 1 cr cid cn = false by rw [wellB, hm]; simp <;> omega)
        clear hm
        go_enter Tryz.func92, Tryz.ntmps92
        go_wp2_with fail
        refine H.out.mono ?_
        rintro e w2 ⟨rfl, hb⟩
        have HB := Lib.hid hb
        clear hb
        obtain ⟨q0, q1, q2, q3, q4, q5, q6⟩ := box_at HB.out
        go_wp2
        go_ret
        exact ⟨by rw [hv.out]; rfl, below_one HB.out⟩
    by_cases k2 : ck = 2
    · subst k2
      by_cases h0 : cid = 0
      · subst h0
        by_cases h1 : 2 ≤ cn
        · have d1 : decide (2 ≤ (cn : Int)) = true := decide_eq_true (by omega)
          have d2 : decide (2 ≤ cn) = true := decide_eq_true h1
          have hv := Lib.hid (show wellB 2 cr 0 cn = true by rw [wellB, hm]; simp <;> omega)
          clear hm
          go_enter Tryz.func92, Tryz.ntmps92
          go_wp2_with fail
          refine H.out.mono ?_
          rintro e w2 ⟨rfl, hb⟩
          have HB := Lib.hid hb
          clear hb
          obtain ⟨q0, q1, q2, q3, q4, q5, q6⟩ := box_at HB.out
          go_wp2
          go_ret
          exact ⟨by rw [hv.out]; rfl, below_one HB.out⟩
        · have d1 : decide (2 ≤ (cn : Int)) = false := decide_eq_false (by omega)
          have d2 : decide (2 ≤ cn) = false := decide_eq_false h1
          have hv := Lib.hid (show wellB 2 cr 0 cn = false by rw [wellB, hm]; simp <;> omega)
          clear hm
          go_enter Tryz.func92, Tryz.ntmps92
          go_wp2_with fail
          refine H.out.mono ?_
          rintro e w2 ⟨rfl, hb⟩
          have HB := Lib.hid hb
          clear hb
          obtain ⟨q0, q1, q2, q3, q4, q5, q6⟩ := box_at HB.out
          go_wp2
          go_ret
          exact ⟨by rw [hv.out]; rfl, below_one HB.out⟩
      · have d0 : (cid == 0) = false := by rw [beq_eq_false_iff_ne]; omega
        have hv := Lib.hid (show wellB 2 cr cid cn = false by rw [wellB, hm]; simp <;> omega)
        clear hm
        go_enter Tryz.func92, Tryz.ntmps92
        go_wp2_with fail
        refine H.out.mono ?_
        rintro e w2 ⟨rfl, hb⟩
        have HB := Lib.hid hb
        clear hb
        obtain ⟨q0, q1, q2, q3, q4, q5, q6⟩ := box_at HB.out
        go_wp2
        go_ret
        exact ⟨by rw [hv.out]; rfl, below_one HB.out⟩
    by_cases k3 : ck = 3
    · subst k3
      by_cases h0 : cid = 0
      · subst h0
        by_cases h1 : 2 ≤ cn
        · have d1 : decide (2 ≤ (cn : Int)) = true := decide_eq_true (by omega)
          have d2 : decide (2 ≤ cn) = true := decide_eq_true h1
          have hv := Lib.hid (show wellB 3 cr 0 cn = true by rw [wellB, hm]; simp <;> omega)
          clear hm
          go_enter Tryz.func92, Tryz.ntmps92
          go_wp2_with fail
          refine H.out.mono ?_
          rintro e w2 ⟨rfl, hb⟩
          have HB := Lib.hid hb
          clear hb
          obtain ⟨q0, q1, q2, q3, q4, q5, q6⟩ := box_at HB.out
          go_wp2
          go_ret
          exact ⟨by rw [hv.out]; rfl, below_one HB.out⟩
        · have d1 : decide (2 ≤ (cn : Int)) = false := decide_eq_false (by omega)
          have d2 : decide (2 ≤ cn) = false := decide_eq_false h1
          have hv := Lib.hid (show wellB 3 cr 0 cn = false by rw [wellB, hm]; simp <;> omega)
          clear hm
          go_enter Tryz.func92, Tryz.ntmps92
          go_wp2_with fail
          refine H.out.mono ?_
          rintro e w2 ⟨rfl, hb⟩
          have HB := Lib.hid hb
          clear hb
          obtain ⟨q0, q1, q2, q3, q4, q5, q6⟩ := box_at HB.out
          go_wp2
          go_ret
          exact ⟨by rw [hv.out]; rfl, below_one HB.out⟩
      · have d0 : (cid == 0) = false := by rw [beq_eq_false_iff_ne]; omega
        have hv := Lib.hid (show wellB 3 cr cid cn = false by rw [wellB, hm]; simp <;> omega)
        clear hm
        go_enter Tryz.func92, Tryz.ntmps92
        go_wp2_with fail
        refine H.out.mono ?_
        rintro e w2 ⟨rfl, hb⟩
        have HB := Lib.hid hb
        clear hb
        obtain ⟨q0, q1, q2, q3, q4, q5, q6⟩ := box_at HB.out
        go_wp2
        go_ret
        exact ⟨by rw [hv.out]; rfl, below_one HB.out⟩
    have e1 : (ck == 1) = false := by rw [beq_eq_false_iff_ne]; omega
    have e2 : (ck == 2) = false := by rw [beq_eq_false_iff_ne]; omega
    have e3 : (ck == 3) = false := by rw [beq_eq_false_iff_ne]; omega
    have hv := Lib.hid (show wellB ck cr cid cn = false by rw [wellB, hm]; simp <;> omega)
    clear hm
    go_enter Tryz.func92, Tryz.ntmps92
    go_wp2_with fail
    refine H.out.mono ?_
    rintro e w2 ⟨rfl, hb⟩
    have HB := Lib.hid hb
    clear hb
    obtain ⟨q0, q1, q2, q3, q4, q5, q6⟩ := box_at HB.out
    go_wp2
    go_ret
    exact ⟨by rw [hv.out]; rfl, below_one HB.out⟩
end Go.Proofs.YtakofjbjciljjaaGreat
