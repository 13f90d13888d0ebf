/- Texts of this seat, 3 in one file. -/
import Derived.Test.YthnoogmjlkgnbaaDoorG02
import Derived.Test.YthnoogmjlkgnbaaDoorG12
import Derived.Deep.AppendLies
import Derived.Test.YthnoogmjlkgnbaaDoorG10
import Derived.Deep.RegionHeld3
/- How deep a tree is: the program's answer and the document's. -/
namespace Go.Proofs.YthnoogmjlkgnbaaDoor
open Go.RowKit

mutual
def depthT : T → Nat
  | .node _ _ _ l => 1 + depthL l
def depthL : List T → Nat
  | [] => 0
  | t :: l => max (depthT t) (depthL l)
end
theorem depthT_eq (t : T) : depthT t = 1 + depthL t.kids := by cases t; rw [depthT]; rfl
theorem depthL_append (a b : List T) : depthL (a ++ b) = max (depthL a) (depthL b) := by
  induction a with
  | nil => simp [depthL]
  | cons t l ih => simp only [List.cons_append, depthL, ih]; omega
theorem depthL_step {l : List T} {k : Nat} {t : T} (h : l[k]? = some t) : depthL (l.take (k + 1)) = max (depthL (l.take k)) (depthT t) := by
  rw [List.take_add_one, h, depthL_append]; simp [depthL]
mutual
theorem depthT_sz : ∀ t, depthT t ≤ sz t
  | .node _ _ _ l => by rw [depthT, sz]; have := depthL_sz l; omega
theorem depthL_sz : ∀ l, depthL l ≤ szL l
  | [] => by simp [depthL]
  | t :: l => by rw [depthL, szL]; have := depthT_sz t; have := depthL_sz l; omega
end

set_option maxRecDepth 100000 in
theorem depth_any (N : Nat) : ∀ (t : T) (c : C) (w : World), sz t ≤ N → sz t ≤ 1000000 → Is w c t →
    Calls Tryd.prog 21 #[cval c] w fun e w' => e = .returned (.int .i64 (depthT t : Nat)) ∧ Below w.heap.size w w' := by
  induction N with
  | zero => intro t c w h; have := sz_pos t; omega
  | succ N ih =>
    intro t c w hs hm hi
    have HR := Lib.hid hi.row
    have hn := hi.n
    have hfn := hi.fine.2.2.2
    obtain ⟨ck, cr, cid, ca, cn, ccap⟩ := c
    simp only at hn hfn
    subst hn
    clear hi
    have HS := Lib.hid hs
    have HM := Lib.hid hm
    have HIH := Lib.hid ih
    clear hs hm ih
    go_enter Tryd.func21, Tryd.ntmps21
    go_wp2
    go_loopg [3, 9] (t.kids.length + 1) (fun g n i wr => ∃ k : Nat, g + k = t.kids.length + 1 ∧ k ≤ t.kids.length ∧ i = .int .i64 k ∧ n = .int .i64 ((depthL (t.kids.take k) : Nat) : Int) ∧ Below w.heap.size w wr)
    case atStart => exact ⟨0, by omega, by omega, rfl, by simp [depthL], (Below.refl _ _).alloc (Nat.le_refl _) _⟩
    case round =>
      obtain ⟨k, hg, hk, rfl, rfl, hb⟩ := hrel
      have HG := Lib.hid hg
      have HB := Lib.hid hb
      clear hg hb
      by_cases hlt : k < t.kids.length
      · obtain ⟨b, o, rfl, hf⟩ := HR.out.place (by omega)
        obtain ⟨u, hu⟩ : ∃ u, t.kids[k]? = some u := ⟨_, List.getElem?_eq_getElem hlt⟩
        obtain ⟨x, hx, hix⟩ := hf k u hu
        clear hf
        obtain ⟨c0, c1, c2, c3, c4, c5, c6⟩ := hx.up HB.out
        have HA : Hid (Below wr.heap.size wr (wr.alloc (cbox x))) := (Below.refl _ _).alloc (Nat.le_refl _) _
        have HK := Lib.hid (HIH.out u x (wr.alloc (cbox x)) (by have := HS.out; have := sz_kid hu; omega) (by have := HM.out; have := sz_kid hu; omega) ((hix.up HB.out).up HA.out))
        have HST := Lib.hid (depthL_step hu)
        clear hix hu hx
        generalize depthL (t.kids.take k) = m at HST ⊢
        generalize depthT u = dd at HK HST
        go_wp2_with fail
        refine HK.out.mono ?_
        rintro e w2 ⟨rfl, hb2⟩
        have HB2 := Lib.hid hb2
        clear hb2
        by_cases hmd : m ≤ dd
        · have e1 : max (m : Int) (dd : Int) = dd := by omega
          go_wp2
          go_roundg (gk - 1)
          case measure => have := HG.out; omega
          case rel => exact ⟨k + 1, by have := HG.out; omega, by omega, by go_num, by rw [HST.out]; congr 1; omega, HB.out.trans ((below_one HB2.out).mono HB.out.size)⟩
        · have e1 : max (m : Int) (dd : Int) = m := by omega
          go_wp2
          go_roundg (gk - 1)
          case measure => have := HG.out; omega
          case rel => exact ⟨k + 1, by have := HG.out; omega, by omega, by go_num, by rw [HST.out]; congr 1; omega, HB.out.trans ((below_one HB2.out).mono HB.out.size)⟩
      · obtain rfl : k = t.kids.length := by omega
        have hkl : ((t.kids.length : Int) < (t.kids.length : Int)) = False := by simp
        rw [List.take_length]
        have hd := Lib.hid (depthT_eq t)
        have hle : depthL t.kids ≤ 1000000 := by have := depthL_sz t.kids; have := HM.out; have := sz_node t; omega
        go_wp2
        go_ret
        refine ⟨ret_int ?_, HB.out⟩
        rw [hd.out]; omega

set_option maxRecDepth 100000 in
theorem rdepth_any (N : Nat) : ∀ (t : T) (c : C) (w : World), sz t ≤ N → sz t ≤ 1000000 → Is w c t →
    Calls Tryd.prog 23 #[cval c] w fun e w' => e = .returned (.int .i64 (depthT t : Nat)) ∧ Below w.heap.size w w' := by
  induction N with
  | zero => intro t c w h; have := sz_pos t; omega
  | succ N ih =>
    intro t c w hs hm hi
    have HR := Lib.hid hi.row
    have hn := hi.n
    have hfn := hi.fine.2.2.2
    obtain ⟨ck, cr, cid, ca, cn, ccap⟩ := c
    simp only at hn hfn
    subst hn
    clear hi
    have HS := Lib.hid hs
    have HM := Lib.hid hm
    have HIH := Lib.hid ih
    clear hs hm ih
    go_enter Tryd.func23, Tryd.ntmps23
    go_wp2
    go_loopg [3, 8] (t.kids.length + 1) (fun g n i wr => ∃ k : Nat, g + k = t.kids.length + 1 ∧ k ≤ t.kids.length ∧ i = .int .i64 k ∧ n = .int .i64 ((depthL (t.kids.take k) : Nat) : Int) ∧ Below (w.alloc (cbox ⟨ck, cr, cid, ca, t.kids.length, ccap⟩)).heap.size (w.alloc (cbox ⟨ck, cr, cid, ca, t.kids.length, ccap⟩)) wr)
    case atStart => exact ⟨0, by omega, by omega, rfl, by simp [depthL], Below.refl _ _⟩
    case round =>
      obtain ⟨k, hg, hk, rfl, rfl, hb⟩ := hrel
      have HG := Lib.hid hg
      have HB := Lib.hid hb
      clear hg hb
      by_cases hlt : k < t.kids.length
      · obtain ⟨b, o, rfl, hf⟩ := HR.out.place (by omega)
        obtain ⟨u, hu⟩ : ∃ u, t.kids[k]? = some u := ⟨_, List.getElem?_eq_getElem hlt⟩
        obtain ⟨x, hx, hix⟩ := hf k u hu
        clear hf
        obtain ⟨c0, c1, c2, c3, c4, c5, c6⟩ := hx.up (below_one HB.out)
        have q6 := (box_at HB.out).2.2.2.2.2.2
        have HX := Lib.hid (hx.up (below_one HB.out))
        have HIX := Lib.hid (hix.up (below_one HB.out))
        have HK := Lib.hid (fun W (h : Is W x u) => HIH.out u x W (by have := HS.out; have := sz_kid hu; omega) (by have := HM.out; have := sz_kid hu; omega) h)
        have HST := Lib.hid (depthL_step hu)
        clear hix hu hx
        generalize depthL (t.kids.take k) = m at HST ⊢
        generalize depthT u = dd at HK HST
        go_wp2_with fail
        refine (HK.out wr HIX.out).mono ?_
        rintro e w2 ⟨rfl, hb2⟩
        have HB2 := Lib.hid (HB.out.trans (hb2.mono HB.out.size))
        have HIX2 := Lib.hid (HIX.out.up hb2)
        obtain ⟨e0, e1, e2, e3, e4, e5, e6⟩ := HX.out.up hb2
        have p6 := (box_at HB2.out).2.2.2.2.2.2
        clear hb2 c0 c1 c2 c3 c4 c5 c6 q6
        by_cases hmd : m < dd
        · have d1 : decide ((m : Int) < (dd : Int)) = true := decide_eq_true (by omega)
          have d2 : decide (m < dd) = true := decide_eq_true hmd
          go_wp2_with fail
          refine (HK.out w2 HIX2.out).mono ?_
          rintro e w3 ⟨rfl, hb3⟩
          have HB3 := Lib.hid (HB2.out.trans (hb3.mono HB2.out.size))
          clear hb3
          go_wp2
          go_roundg (gk - 1)
          case measure => have := HG.out; omega
          case rel => exact ⟨k + 1, by have := HG.out; omega, by omega, by go_num, by rw [HST.out]; congr 1; omega, HB3.out⟩
        · have d1 : decide ((m : Int) < (dd : Int)) = false := decide_eq_false (by omega)
          have d2 : decide (m < dd) = false := decide_eq_false hmd
          go_wp2
          go_roundg (gk - 1)
          case measure => have := HG.out; omega
          case rel => exact ⟨k + 1, by have := HG.out; omega, by omega, by go_num, by rw [HST.out]; congr 1; omega, HB2.out⟩
      · obtain rfl : k = t.kids.length := by omega
        have hkl : ((t.kids.length : Int) < (t.kids.length : Int)) = False := by simp
        rw [List.take_length]
        have hd := Lib.hid (depthT_eq t)
        have hle : depthL t.kids ≤ 1000000 := by have := depthL_sz t.kids; have := HM.out; have := sz_node t; omega
        go_wp2
        go_ret
        refine ⟨ret_int ?_, below_one HB.out⟩
        rw [hd.out]; omega
end Go.Proofs.YthnoogmjlkgnbaaDoor
/- Rectangles, many or none, added to a row of one's own. -/
namespace Go.Proofs.YthnoogmjlkgnbaaDoor
open Go.RowKit

theorem runR_zero {w : World} {base : Nat} {v : Value} {l : List R} (h : Owns w base v l) (ty : TypeId) (a : Option Addr) (c : Nat) : (Builtin.append_ #[51, 51] ty #[v, .slice a 0 c]).run Tryd.prog w = .ok v w := by
  obtain ⟨i, hi, hz0, hz1, hz2⟩ := rinfo
  have ht := Tryd.underlying51
  have hz : ∀ ad : Addr, (loadCells ad 0).run Tryd.prog w = .ok #[] w := fun ad => by first | rfl | simp [loadCells]
  rcases h.2 with ⟨rfl, hn⟩ | ⟨g, cap, cur, rfl, -, -, hnc, -⟩
  · cases a <;> simp [Builtin.append_, run_underlying ht, sizeOf, typeInfo, hi, Builtin.lenOf, Builtin.firstCells, hz]
  · cases a <;> simp [Builtin.append_, run_underlying ht, sizeOf, typeInfo, hi, Builtin.lenOf, Builtin.firstCells, hnc, storeCells, hz]

theorem rrow_cells {w : World} {a : Option Addr} {cap : Nat} {l : List R} (h : RRow w (.slice a l.length cap) l) (hp : 0 < l.length) : ∃ ad, a = some ad ∧ ∀ j u, (flat l)[j]? = some u → w.cell? (ad.add j) = some u := by
  obtain ⟨b, o, rfl, hf⟩ := h.place hp
  exact ⟨⟨b, o, none⟩, rfl, rat_cells hf⟩

/-- append(own.., rectangles...): what is owned then is both; where it lies. -/
theorem wpList_append_rects {w : World} {ops : Array Oper} {rest : List Oper} {o : Oper} {a : Act} {Q : Exit → Act → World → Prop} (hgd : o.guard = none) (s x : Operand)
    (ho : o.op = .call { callee := .builtin .append, args := #[s, x], argTypes := #[51, 51] })
    (base : Nat) (v src : Value) (xs news : List R) (hs : a.eval s = v) (hown : Owns w base v xs) (hx : a.eval x = src) (hrow : RRow w src news)
    (h63 : xs.length + news.length ≤ 1000000) (w0 : World) (hb : Below base w0 w) (hbase0 : base ≤ w0.heap.size)
    (h : ∀ v' w', Owns w' base v' (xs ++ news) → Below base w0 w' → w.grownBy w' v.ownBlock → (v'.ownBlock = v.ownBlock ∨ v'.ownBlock = some w.heap.size) → wpList Tryd.prog ops Q rest (a.put o.dst v') w') : wpList Tryd.prog ops Q (o :: rest) a w := by
  have hbase : base ≤ w.heap.size := Nat.le_trans hbase0 hb.size
  obtain ⟨i, hi, hz0, hz1, hz2⟩ := rinfo
  obtain ⟨ad', cap, rfl⟩ := hrow.shape
  rcases Nat.eq_zero_or_pos news.length with h0 | hp
  · have hn : news = [] := List.length_eq_zero_iff.1 h0
    subst hn
    refine wpList_plain hgd fun K hK => ?_
    unfold Oper.wp execOp
    simp only [ho, resolve, invoke, builtin, Sem.run_bind, Sem.run_pure, Result.andThen_ok, List.map_toArray, List.map_cons, List.map_nil, hs, hx]
    rw [show ([] : List R).length = 0 from rfl, runR_zero hown]
    refine hK _ _ (h v w (by simpa using hown) hb ?_ (.inl rfl))
    exact ⟨rfl, rfl, rfl, Nat.le_refl _, fun _ _ _ => rfl⟩
  · obtain ⟨ad, rfl, hc⟩ := rrow_cells hrow hp
    refine wpList_append_lies w hgd s x 51 ho base 23 i zeroR 4 32 Tryd.underlying51 hi hz0 hz1 hz2 rfl (by decide) v xs.length (flat xs) hs hown ad news.length cap (flat news) hx (flat_length _) hc (flat_oneCell _) hp (by unfold maxLen; omega) (by omega) hbase w.heap.size rfl ?_
    intro g cap' w' g1 g2 g3 _
    have g1' : Owns w' base (.slice (some ⟨g, 0, none⟩) (xs.length + news.length) cap') (xs ++ news) := by
      have : w'.ownsRow base 23 4 (.slice (some ⟨g, 0, none⟩) (xs.length + news.length) cap') (xs ++ news).length (flat (xs ++ news)) := by
        rw [flat_append, List.length_append]; exact g1
      exact this
    refine h _ w' g1' (hb.grown g2 hbase (fun k hk => (hown.lt k hk).1)) g2 ?_
    rcases g3 with g3 | g3
    · exact .inl (by rw [g3]; rfl)
    · exact .inr (by rw [g3]; rfl)
end Go.Proofs.YthnoogmjlkgnbaaDoor
/- The document's own cut. -/
namespace Go.Proofs.YthnoogmjlkgnbaaDoor
open Go.RowKit

theorem Two.drew {w : World} {base : Nat} {v1 : Value} {l1 : List R} {v2 : Value} {l2 : List R} (h : Two w base v1 l1 v2 l2) : Two w.drew base v1 l1 v2 l2 := ⟨h.own1, h.own2, h.ne⟩
theorem two_new {w : World} : Two ((w.alloc (.cells #[] 23)).alloc (.cells #[] 23)) w.heap.size (.slice (some ⟨w.heap.size, 0, none⟩) 0 0) [] (.slice (some ⟨w.heap.size + 1, 0, none⟩) 0 0) [] := by
  refine ⟨?_, ?_, fun k h1 h2 => ?_⟩
  · exact Owns.up (World.ownsRow_made w #[] 0 (Nat.le_refl _) (Nat.zero_le _) (by simp)) ((Below.refl _ _).alloc (Nat.le_refl _) _)
  · have := World.ownsRow_made (base := w.heap.size) (e := 23) (size := 4) (w.alloc (.cells #[] 23)) #[] 0 (by simp) (Nat.zero_le _) (by simp)
    rw [World.size_alloc] at this
    exact this
  · simp [Value.ownBlock] at h1 h2
    omega

theorem c5_of {w : World} {q b j : Nat} {r : R} {m : Int} (h : RAt w q 0 r) (hm : w.cell? ⟨b, j, none⟩ = some (.int .i64 m)) :
    w.cell? ⟨q, 0, none⟩ = some (.int .i64 r.x) ∧ w.cell? ⟨q, 1, none⟩ = some (.int .i64 r.y) ∧ w.cell? ⟨q, 2, none⟩ = some (.int .i64 r.w) ∧ w.cell? ⟨q, 3, none⟩ = some (.int .i64 r.h) ∧ w.cell? ⟨b, j, none⟩ = some (.int .i64 m) := by
  obtain ⟨h0, h1, h2, h3⟩ := h
  simp only [Nat.zero_add] at h1 h2 h3
  exact ⟨h0, h1, h2, h3, hm⟩

theorem fill_none {whole : Int} (h : 1 ≤ whole) : ¬ fillP whole [] := fun h' => by
  have := h'.2
  simp [offS] at this
  omega
theorem rcut_no {r : R} {ax : Int} {ms : List Int} {w w' : World} {b c b' c' : Nat} (h : ¬ cutP r ax ms) (hb : Below w.heap.size w w') : CutSays r ax ms w (.returned (.tuple #[.slice (some ⟨b, c, none⟩) 0 0, .slice (some ⟨b', c', none⟩) 0 0, .bool false])) w' :=
  ⟨_, _, false, rfl, by simp [h], .inl ⟨_, _, rfl, rfl⟩, .inl ⟨_, _, rfl, rfl⟩, hb⟩

set_option maxRecDepth 100000 in
set_option maxHeartbeats 1600000 in
/-- .. where it can't be. -/
theorem rcut_not (r : R) (ax : Int) (v : Value) (ms : List Int) (w : World) (hf : r.fits) (hr : IRow w v ms) (hax : 0 ≤ ax ∧ ax ≤ 255) (hno : ¬ (mayB r = true ∧ (ax = 1 ∨ ax = 2) ∧ 0 < ms.length)) :
    Calls Tryd.prog 56 #[val r, .int .u8 ax, v] w fun e w' => CutSays r ax ms w e w' := by
  obtain ⟨a, cap, rfl⟩ := hr.shape
  have B1 : Hid (Below w.heap.size w ((w.alloc (box r)).alloc (.cells #[] 23))) := ((Below.refl _ _).alloc (Nat.le_refl _) _).alloc (by simp) _
  have H := Lib.hid (rmay_any r ((w.alloc (box r)).alloc (.cells #[] 23)) hf)
  have hn : Hid (¬ cutP r ax ms) := fun h => by
    refine hno ⟨h.1, ?_, ?_⟩
    · rcases h.2 with h | h
      · exact .inl h.1
      · exact .inr h.1
    · have hb := (mayB_iff r).1 h.1
      rcases Nat.eq_zero_or_pos ms.length with h0 | h0
      · rw [List.length_eq_zero_iff.1 h0] at h
        rcases h.2 with h | h
        · exact absurd h.2 (fill_none (by omega))
        · exact absurd h.2 (fill_none (by omega))
      · exact h0
  clear hr hf
  rcases bool_cases (mayB r) with hm | hm
  case inr =>
    rw [hm] at H
    go_enter Tryd.func56, Tryd.ntmps56
    go_wp2_with fail
    refine H.out.mono ?_
    rintro e w2 ⟨rfl, hb2⟩
    have B2 := Lib.hid (B1.out.trans (hb2.mono B1.out.size))
    clear hb2
    go_wp2
    go_ret3
    exact rcut_no hn.out B2.out
  rw [hm] at H
  by_cases h1 : ax < 1
  · have d1 : decide (ax < 1) = true := decide_eq_true h1
    go_enter Tryd.func56, Tryd.ntmps56
    go_wp2_with fail
    refine H.out.mono ?_
    rintro e w2 ⟨rfl, hb2⟩
    have B2 := Lib.hid (B1.out.trans (hb2.mono B1.out.size))
    clear hb2
    go_wp2
    go_ret3
    exact rcut_no hn.out B2.out
  have d1 : decide (ax < 1) = false := decide_eq_false h1
  by_cases h2 : 2 < ax
  · have d2 : decide (2 < ax) = true := decide_eq_true h2
    go_enter Tryd.func56, Tryd.ntmps56
    go_wp2_with fail
    refine H.out.mono ?_
    rintro e w2 ⟨rfl, hb2⟩
    have B2 := Lib.hid (B1.out.trans (hb2.mono B1.out.size))
    clear hb2
    go_wp2
    go_ret3
    exact rcut_no hn.out B2.out
  have d2 : decide (2 < ax) = false := decide_eq_false h2
  have h0 : ms.length = 0 := by
    rcases Nat.eq_zero_or_pos ms.length with h0 | h0
    · exact h0
    · exact absurd ⟨hm, by omega, h0⟩ hno
  clear hno
  go_enter Tryd.func56, Tryd.ntmps56
  go_wp2_with fail
  refine H.out.mono ?_
  rintro e w2 ⟨rfl, hb2⟩
  have B2 := Lib.hid (B1.out.trans (hb2.mono B1.out.size))
  clear hb2
  go_wp2
  go_ret3
  exact rcut_no hn.out B2.out
end Go.Proofs.YthnoogmjlkgnbaaDoor
