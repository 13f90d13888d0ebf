/- Texts of this seat, 3 in one file. -/
import Derived.Test.YtcdiogifgemjbaaGreatG13
import Derived.Deep.AppendLies
import Derived.Test.YtcdiogifgemjbaaGreatG11
import Derived.Deep.RegionHeld3
/- Rectangles, many or none, added to a row of one's own. -/
namespace Go.Proofs.YtcdiogifgemjbaaGreat
open Go.RowKit

theorem runR_zero {w : World} {base : Nat} {v : Value} {l : List R} (h : Owns w base v l) (ty : TypeId) (a : Option Addr) (c : Nat) : (Builtin.append_ #[64, 64] ty #[v, .slice a 0 c]).run Tryz.prog w = .ok v w := by
  obtain ⟨i, hi, hz0, hz1, hz2⟩ := rinfo
  have ht := Tryz.underlying64
  have hz : ∀ ad : Addr, (loadCells ad 0).run Tryz.prog w = .ok #[] w := fun ad => by first | rfl | simp [loadCells]
  rcases h.2 with ⟨rfl, hn⟩ | ⟨g, cap, cur, rfl, -, -, hnc, -⟩
  · cases a <;> simp [Builtin.append_, run_underlying ht, sizeOf, typeInfo, hi, Builtin.lenOf, Builtin.firstCells, hz]
  · cases a <;> simp [Builtin.append_, run_underlying ht, sizeOf, typeInfo, hi, Builtin.lenOf, Builtin.firstCells, hnc, storeCells, hz]

theorem rrow_cells {w : World} {a : Option Addr} {cap : Nat} {l : List R} (h : RRow w (.slice a l.length cap) l) (hp : 0 < l.length) : ∃ ad, a = some ad ∧ ∀ j u, (flat l)[j]? = some u → w.cell? (ad.add j) = some u := by
  obtain ⟨b, o, rfl, hf⟩ := h.place hp
  exact ⟨⟨b, o, none⟩, rfl, rat_cells hf⟩

/-- append(own.., rectangles...): what is owned then is both; where it lies. -/
theorem wpList_append_rects {w : World} {ops : Array Oper} {rest : List Oper} {o : Oper} {a : Act} {Q : Exit → Act → World → Prop} (hgd : o.guard = none) (s x : Operand)
    (ho : o.op = .call { callee := .builtin .append, args := #[s, x], argTypes := #[64, 64] })
    (base : Nat) (v src : Value) (xs news : List R) (hs : a.eval s = v) (hown : Owns w base v xs) (hx : a.eval x = src) (hrow : RRow w src news)
    (h63 : xs.length + news.length ≤ 1000000000) (w0 : World) (hb : Below base w0 w) (hbase0 : base ≤ w0.heap.size)
    (h : ∀ v' w', Owns w' base v' (xs ++ news) → Below base w0 w' → w.grownBy w' v.ownBlock → (v'.ownBlock = v.ownBlock ∨ v'.ownBlock = some w.heap.size) → wpList Tryz.prog ops Q rest (a.put o.dst v') w') : wpList Tryz.prog ops Q (o :: rest) a w := by
  have hbase : base ≤ w.heap.size := Nat.le_trans hbase0 hb.size
  obtain ⟨i, hi, hz0, hz1, hz2⟩ := rinfo
  obtain ⟨ad', cap, rfl⟩ := hrow.shape
  rcases Nat.eq_zero_or_pos news.length with h0 | hp
  · have hn : news = [] := List.length_eq_zero_iff.1 h0
    subst hn
    refine wpList_plain hgd fun K hK => ?_
    unfold Oper.wp execOp
    simp only [ho, resolve, invoke, builtin, Sem.run_bind, Sem.run_pure, Result.andThen_ok, List.map_toArray, List.map_cons, List.map_nil, hs, hx]
    rw [show ([] : List R).length = 0 from rfl, runR_zero hown]
    refine hK _ _ (h v w (by simpa using hown) hb ?_ (.inl rfl))
    exact ⟨rfl, rfl, rfl, Nat.le_refl _, fun _ _ _ => rfl⟩
  · obtain ⟨ad, rfl, hc⟩ := rrow_cells hrow hp
    refine wpList_append_lies w hgd s x 64 ho base 23 i zeroR 4 32 Tryz.underlying64 hi hz0 hz1 hz2 rfl (by decide) v xs.length (flat xs) hs hown ad news.length cap (flat news) hx (flat_length _) hc (flat_oneCell _) hp (by unfold maxLen; omega) (by omega) hbase w.heap.size rfl ?_
    intro g cap' w' g1 g2 g3 _
    have g1' : Owns w' base (.slice (some ⟨g, 0, none⟩) (xs.length + news.length) cap') (xs ++ news) := by
      have : w'.ownsRow base 23 4 (.slice (some ⟨g, 0, none⟩) (xs.length + news.length) cap') (xs ++ news).length (flat (xs ++ news)) := by
        rw [flat_append, List.length_append]; exact g1
      exact this
    refine h _ w' g1' (hb.grown g2 hbase (fun k hk => (hown.lt k hk).1)) g2 ?_
    rcases g3 with g3 | g3
    · exact .inl (by rw [g3]; rfl)
    · exact .inr (by rw [g3]; rfl)
end Go.Proofs.YtcdiogifgemjbaaGreat
/- The document's own cut. -/
namespace Go.Proofs.YtcdiogifgemjbaaGreat
open Go.RowKit

theorem Two.drew {w : World} {base : Nat} {v1 : Value} {l1 : List R} {v2 : Value} {l2 : List R} (h : Two w base v1 l1 v2 l2) : Two w.drew base v1 l1 v2 l2 := ⟨h.own1, h.own2, h.ne⟩
theorem two_new {w : World} : Two ((w.alloc (.cells #[] 23)).alloc (.cells #[] 23)) w.heap.size (.slice (some ⟨w.heap.size, 0, none⟩) 0 0) [] (.slice (some ⟨w.heap.size + 1, 0, none⟩) 0 0) [] := by
  refine ⟨?_, ?_, fun k h1 h2 => ?_⟩
  · exact Owns.up (World.ownsRow_made w #[] 0 (Nat.le_refl _) (Nat.zero_le _) (by simp)) ((Below.refl _ _).alloc (Nat.le_refl _) _)
  · have := World.ownsRow_made (base := w.heap.size) (e := 23) (size := 4) (w.alloc (.cells #[] 23)) #[] 0 (by simp) (Nat.zero_le _) (by simp)
    rw [World.size_alloc] at this
    exact this
  · simp [Value.ownBlock] at h1 h2
    omega

theorem c5_of {w : World} {q b j : Nat} {r : R} {m : Int} (h : RAt w q 0 r) (hm : w.cell? ⟨b, j, none⟩ = some (.int .i64 m)) :
    w.cell? ⟨q, 0, none⟩ = some (.int .i64 r.x) ∧ w.cell? ⟨q, 1, none⟩ = some (.int .i64 r.y) ∧ w.cell? ⟨q, 2, none⟩ = some (.int .i64 r.w) ∧ w.cell? ⟨q, 3, none⟩ = some (.int .i64 r.h) ∧ w.cell? ⟨b, j, none⟩ = some (.int .i64 m) := by
  obtain ⟨h0, h1, h2, h3⟩ := h
  simp only [Nat.zero_add] at h1 h2 h3
  exact ⟨h0, h1, h2, h3, hm⟩

theorem fill_none {whole : Int} (h : 1 ≤ whole) : ¬ fillP whole [] := fun h' => by
  have := h'.2
  simp [offS] at this
  omega
theorem rcut_no {r : R} {ax : Int} {ms : List Int} {w w' : World} {b c b' c' : Nat} (h : ¬ cutP r ax ms) (hb : Below w.heap.size w w') : CutSays r ax ms w (.returned (.tuple #[.slice (some ⟨b, c, none⟩) 0 0, .slice (some ⟨b', c', none⟩) 0 0, .bool false])) w' :=
  ⟨_, _, false, rfl, by simp [h], .inl ⟨_, _, rfl, rfl⟩, .inl ⟨_, _, rfl, rfl⟩, hb⟩

set_option maxRecDepth 100000 in
set_option maxHeartbeats 1600000 in
/-- .. where it can't be. -/
theorem rcut_not (r : R) (ax : Int) (v : Value) (ms : List Int) (w : World) (hf : r.fits) (hr : IRow w v ms) (hax : 0 ≤ ax ∧ ax ≤ 255) (hno : ¬ (mayB r = true ∧ (ax = 1 ∨ ax = 2) ∧ 0 < ms.length)) :
    Calls Tryz.prog 73 #[val r, .int .u8 ax, v] w fun e w' => CutSays r ax ms w e w' := by
  obtain ⟨a, cap, rfl⟩ := hr.shape
  have B1 : Hid (Below w.heap.size w ((w.alloc (box r)).alloc (.cells #[] 23))) := ((Below.refl _ _).alloc (Nat.le_refl _) _).alloc (by simp) _
  have H := Lib.hid (rmay_any r ((w.alloc (box r)).alloc (.cells #[] 23)) hf)
  have hn : Hid (¬ cutP r ax ms) := fun h => by
    refine hno ⟨h.1, ?_, ?_⟩
    · rcases h.2 with h | h
      · exact .inl h.1
      · exact .inr h.1
    · have hb := (mayB_iff r).1 h.1
      rcases Nat.eq_zero_or_pos ms.length with h0 | h0
      · rw [List.length_eq_zero_iff.1 h0] at h
        rcases h.2 with h | h
        · exact absurd h.2 (fill_none (by omega))
        · exact absurd h.2 (fill_none (by omega))
      · exact h0
  clear hr hf
  rcases bool_cases (mayB r) with hm | hm
  case inr =>
    rw [hm] at H
    go_enter Tryz.func73, Tryz.ntmps73
    go_wp2_with fail
    refine H.out.mono ?_
    rintro e w2 ⟨rfl, hb2⟩
    have B2 := Lib.hid (B1.out.trans (hb2.mono B1.out.size))
    clear hb2
    go_wp2
    go_ret3
    exact rcut_no hn.out B2.out
  rw [hm] at H
  by_cases h1 : ax < 1
  · have d1 : decide (ax < 1) = true := decide_eq_true h1
    go_enter Tryz.func73, Tryz.ntmps73
    go_wp2_with fail
    refine H.out.mono ?_
    rintro e w2 ⟨rfl, hb2⟩
    have B2 := Lib.hid (B1.out.trans (hb2.mono B1.out.size))
    clear hb2
    go_wp2
    go_ret3
    exact rcut_no hn.out B2.out
  have d1 : decide (ax < 1) = false := decide_eq_false h1
  by_cases h2 : 2 < ax
  · have d2 : decide (2 < ax) = true := decide_eq_true h2
    go_enter Tryz.func73, Tryz.ntmps73
    go_wp2_with fail
    refine H.out.mono ?_
    rintro e w2 ⟨rfl, hb2⟩
    have B2 := Lib.hid (B1.out.trans (hb2.mono B1.out.size))
    clear hb2
    go_wp2
    go_ret3
    exact rcut_no hn.out B2.out
  have d2 : decide (2 < ax) = false := decide_eq_false h2
  have h0 : ms.length = 0 := by
    rcases Nat.eq_zero_or_pos ms.length with h0 | h0
    · exact h0
    · exact absurd ⟨hm, by omega, h0⟩ hno
  clear hno
  go_enter Tryz.func73, Tryz.ntmps73
  go_wp2_with fail
  refine H.out.mono ?_
  rintro e w2 ⟨rfl, hb2⟩
  have B2 := Lib.hid (B1.out.trans (hb2.mono B1.out.size))
  clear hb2
  go_wp2
  go_ret3
  exact rcut_no hn.out B2.out
end Go.Proofs.YtcdiogifgemjbaaGreat
/- The document's own cut, across. -/
namespace Go.Proofs.YtcdiogifgemjbaaGreat
open Go.RowKit

set_option maxRecDepth 100000 in
set_option maxHeartbeats 6400000 in
theorem rcut1_any (r : R) (v : Value) (ms : List Int) (w : World) (hf : r.fits) (hr : IRow w v ms) (hlen : ms.length ≤ 100000) (hm : mayB r = true) (hp : 0 < ms.length) :
    Calls Tryz.prog 73 #[val r, .int .u8 1, v] w fun e w' => CutSays r 1 ms w e w' := by
  obtain ⟨a, cap, rfl⟩ := hr.shape
  have HR := Lib.hid hr
  have B1 : Hid (Below w.heap.size w ((w.alloc (box r)).alloc (.cells #[] 23))) := ((Below.refl _ _).alloc (Nat.le_refl _) _).alloc (by simp) _
  have H := Lib.hid (rmay_any r ((w.alloc (box r)).alloc (.cells #[] 23)) hf)
  have HA : Hid (RAt ((w.alloc (box r)).alloc (.cells #[] 23)) w.heap.size 0 r) := (rat_new w r).up ((Below.refl _ _).alloc (Nat.le_refl _) _)
  have hb := (mayB_iff r).1 hm
  have HM : Hid ((0 ≤ r.x ∧ 1 ≤ r.w ∧ r.x + r.w ≤ 10000) ∧ 0 ≤ r.y ∧ 1 ≤ r.h ∧ r.y + r.h ≤ 10000) := hb
  have HCut : Hid (cutP r 1 ms ↔ fillP r.w ms) := ⟨fun h => by rcases h.2 with h | h <;> first | exact h.2 | (have := h.1; omega), fun h => ⟨hm, .inl ⟨rfl, h⟩⟩⟩
  clear hr hf hb
  rw [hm] at H
  have d0 : ((ms.length : Int) == 0) = false := by rw [beq_eq_false_iff_ne]; omega
  have d00 : ms ≠ [] := by intro h; rw [h] at hp; simp at hp
  go_enter Tryz.func73, Tryz.ntmps73
  go_wp2_with fail
  refine H.out.mono ?_
  rintro e w2 ⟨rfl, hb2⟩
  have B2 := Lib.hid (B1.out.trans (hb2.mono B1.out.size))
  have HA2 := Lib.hid (HA.out.up hb2)
  clear hb2
  obtain ⟨c0, c1, c2, c3⟩ := HA2.out
  have lt2 := lt_of_cell c0
  have T0 := Lib.hid (two_new (w := w2))
  have B3 : Hid (Below w2.heap.size w2 ((w2.alloc (.cells #[] 23)).alloc (.cells #[] 23))) := ((Below.refl _ _).alloc (Nat.le_refl _) _).alloc (by simp) _
  go_wp2
  clear c0 c1 c2 c3
  go_loopg [11, 12, 13, 44] (ms.length + 1) (fun g s11 s12 s13 i wr => ∃ k : Nat, g + k = ms.length + 1 ∧ k ≤ ms.length ∧ i = .int .i64 k ∧ s13 = .int .i64 (endS ms k) ∧ Two wr w2.heap.size s11 (partsL r id ms k) s12 (linesL r id ms k) ∧ Below w2.heap.size w2 wr ∧ fitS r.w ms k)
  case atStart => exact ⟨0, by omega, by omega, rfl, rfl, T0.out, B3.out, fun k m hk => by omega⟩
  case round =>
    obtain ⟨k, hg, hk, rfl, rfl, hT, hB, hfit⟩ := hrel
    have TW := Lib.hid hT
    have HB : Hid (Below w2.heap.size w2 wr ∧ gk + k = ms.length + 1 ∧ fitS r.w ms k) := ⟨hB, hg, hfit⟩
    have hoff := off_nonneg hfit k (Nat.le_refl _) hk
    have hend := off_le hfit (Nat.le_refl k) hk (by have := HM.out; omega)
    clear hT hB hg hfit
    have HBw : Hid (Below w.heap.size w wr) := B2.out.trans (HB.out.1.mono B2.out.size)
    have HA3 := Lib.hid (HA2.out.up HB.out.1)
    have hbs : Hid (w2.heap.size ≤ wr.heap.size) := HB.out.1.size
    by_cases hlt : k < ms.length
    · obtain ⟨m, hmk⟩ : ∃ m, ms[k]? = some m := ⟨_, List.getElem?_eq_getElem hlt⟩
      obtain ⟨b, off, rfl, hat⟩ := HR.out.place (by omega)
      have HCm : Hid (∀ W, Below w.heap.size w W → W.cell? ⟨b, off + k, none⟩ = some (.int .i64 m)) := fun W hW => (hW.cell (lt_of_cell (hat k m hmk))).trans (hat k m hmk)
      clear hat
      have HMk := Lib.hid hmk
      clear hmk
      have hml : (k : Int) < (ms.length : Int) := by omega
      have HE := Lib.hid (end_succ HMk.out)
      have HF1 : Hid (∀ h : 1 ≤ m ∧ offS ms k + m ≤ r.w, fitS r.w ms (k + 1)) := fun h j m' hj hm' => by
        rcases Nat.lt_or_ge j k with h1 | h1
        · exact HB.out.2.2 j m' h1 hm'
        · obtain rfl : j = k := by omega
          have := HMk.out.symm.trans hm'
          obtain rfl := Option.some.inj this
          exact h
      have HF0 : Hid (∀ h : ¬ (1 ≤ m ∧ offS ms k + m ≤ r.w), ¬ cutP r 1 ms) := fun h hc => h ((HCut.out.1 hc).1 k m hlt HMk.out)
      rcases Nat.eq_zero_or_pos k with hk0 | hkp
      · have hz : offS ms k = 0 := by rw [hk0]; rfl
        have he0 : endS ms k = 0 := by rw [hk0]; rfl
        have HL0 : Hid (linesL r id ms (k + 1) = linesL r id ms k) := (by rw [hk0]; rfl : linesL r id ms (k + 1) = linesL r id ms k)
        obtain ⟨p, hp0⟩ : ∃ p, endS ms k = p := ⟨_, rfl⟩
        rw [hp0]
        have HP : Hid (p = offS ms k) := (by omega : p = offS ms k)
        have hpb : Hid (0 ≤ p ∧ p ≤ 10000) := (by omega : 0 ≤ p ∧ p ≤ 10000)
        have d0 : decide (0 < k) = false := by simp; omega
        have H3A := Lib.hid HA3.out
        have H3w := Lib.hid HBw.out
        have H3b := Lib.hid HB.out.1
        clear hoff hend hz he0 hp0 hk0
        obtain ⟨c0, c1, c2, c3⟩ := H3A.out
        have cm := HCm.out wr H3w.out
        by_cases t1 : m < 1
        · have e1 : decide (m < 1) = true := decide_eq_true t1
          go_wp2
          go_ret3
          exact rcut_no (HF0.out (by omega)) H3w.out
        have e1 : decide (m < 1) = false := decide_eq_false t1
        by_cases t2 : r.w < m
        · have e2 : decide (r.w < m) = true := decide_eq_true t2
          go_wp2
          go_ret3
          exact rcut_no (HF0.out (by have := HP.out; have := hpb.out; omega)) H3w.out
        have e2 : decide (r.w < m) = false := decide_eq_false t2
        have s2 : IntKind.i64.wrap (p + m) = p + m := wrap_id (by have := hpb.out; have := HM.out; omega)
        by_cases t3 : r.w < p + m
        · have e3 : decide (r.w < p + m) = true := decide_eq_true t3
          go_wp2
          go_ret3
          exact rcut_no (HF0.out (by have := HP.out; omega)) H3w.out
        have e3 : decide (r.w < p + m) = false := decide_eq_false t3
        have s3 : IntKind.i64.wrap (r.x + p) = r.x + p := wrap_id (by have := hpb.out; have := HM.out; omega)
        have HQ : Hid (id (⟨r.x + offS ms k, r.y, m, r.h⟩ : R) = ⟨r.x + p, r.y, m, r.h⟩) := (by rw [← HP.out]; rfl : id (⟨r.x + offS ms k, r.y, m, r.h⟩ : R) = (⟨r.x + p, r.y, m, r.h⟩ : R))
        have HFk := Lib.hid (HF1.out (by have := HP.out; omega))
        have TD := Lib.hid (TW.out.drew.up ((Below.refl _ _).alloc (Nat.le_refl _) (box ⟨r.x + p, r.y, m, r.h⟩)))
        have BD := Lib.hid (H3b.out.drew)
        have S0 := Lib.hid (c5_of H3A.out cm)
        have S1 := Lib.hid (c5_of (H3A.out.up ((Below.refl _ wr).drew.alloc (Nat.le_refl _) (box ⟨r.x + p, r.y, m, r.h⟩))) (HCm.out _ (H3w.out.drew.alloc H3w.out.size (box ⟨r.x + p, r.y, m, r.h⟩))))
        have B5 := Lib.hid (BD.out.alloc BD.out.size (box ⟨r.x + p, r.y, m, r.h⟩))
        have HLn : Hid ((partsL r id ms k).length ≤ 100000) := (by rw [partsL_length]; omega : (partsL r id ms k).length ≤ 100000)
        go_wp2
        go_region_held3 (fun W => W.cell? ⟨w.heap.size, 0, none⟩ = some (.int .i64 r.x) ∧ W.cell? ⟨w.heap.size, 1, none⟩ = some (.int .i64 r.y) ∧ W.cell? ⟨w.heap.size, 2, none⟩ = some (.int .i64 r.w) ∧ W.cell? ⟨w.heap.size, 3, none⟩ = some (.int .i64 r.h) ∧ W.cell? ⟨b, off + k, none⟩ = some (.int .i64 m)) (first | exact S0.out | exact S1.out | exact S6.out) (first | (refine step_two rfl _ _ rfl w2.heap.size _ _ _ _ wr.heap.size ⟨r.x + p, r.y, m, r.h⟩ rfl TD.out rfl (rat_new wr.drew ⟨r.x + p, r.y, m, r.h⟩) HLn.out w2 B5.out (Nat.le_refl _) ?_; intro v6 w6 hT6 hB6; have T6 := Lib.hid hT6; have B6 := Lib.hid hB6; have S6 := Lib.hid (c5_of (HA2.out.up hB6) (HCm.out w6 (B2.out.trans (hB6.mono B2.out.size)))); clear hT6 hB6))
        have cm6 := S6.out.2.2.2.2
        clear c0 c1 c2 c3 cm
        go_wp2
        go_roundg (gk - 1)
        case measure => have := HB.out.2.1; omega
        case rel =>
          refine ⟨k + 1, ?_, by omega, by go_num, ?_, ?_, B6.out, HFk.out⟩
          · have := HB.out.2.1; omega
          · exact congrArg (Value.int .i64) (by rw [HE.out]; have := HP.out; omega)
          · rw [partsL_succ HMk.out, HL0.out]
            rw [HQ.out]
            exact T6.out
      · have hz := end_pos ms hkp
        obtain ⟨p, hp0⟩ : ∃ p, endS ms k = p := ⟨_, rfl⟩
        rw [hp0]
        have hpx : Hid (0 ≤ p ∧ p + 1 ≤ 10001) := (by have := HM.out; omega : 0 ≤ p ∧ p + 1 ≤ 10001)
        have s1 : IntKind.i64.wrap (r.x + p) = r.x + p := wrap_id (by have := hpx.out; have := HM.out; omega)
        have s1' : IntKind.i64.wrap (p + 1) = p + 1 := wrap_id (by have := hpx.out; omega)
        have HL : Hid (id (⟨r.x + endS ms k, r.y, 1, r.h⟩ : R) = ⟨r.x + p, r.y, 1, r.h⟩) := (by rw [hp0]; rfl : id (⟨r.x + endS ms k, r.y, 1, r.h⟩ : R) = (⟨r.x + p, r.y, 1, r.h⟩ : R))
        have HP : Hid (p + 1 = offS ms k) := (by omega : p + 1 = offS ms k)
        have hpb : Hid (0 ≤ p + 1 ∧ p + 1 ≤ 10001) := (by have := hpx.out; omega : 0 ≤ p + 1 ∧ p + 1 ≤ 10001)
        have d0 : (0 : Int) < (k : Int) := by omega
        clear hoff hend hz hp0
        have T2 := Lib.hid ((TW.out.swap).up ((Below.refl _ _).alloc (Nat.le_refl _) (box ⟨r.x + p, r.y, 1, r.h⟩)))
        have B4 := Lib.hid (HB.out.1.alloc HB.out.1.size (box ⟨r.x + p, r.y, 1, r.h⟩))
        obtain ⟨c0, c1, c2, c3⟩ := HA3.out
        go_wp2_with (at_builtin; refine wpList_two rfl _ _ rfl w2.heap.size _ _ _ _ wr.heap.size ⟨r.x + p, r.y, 1, r.h⟩ rfl T2.out rfl (rat_new wr ⟨r.x + p, r.y, 1, r.h⟩) ?_ w2 B4.out (Nat.le_refl _) ?_)
        · rw [linesL_length]; omega
        intro v3 w3 hT3 hB3
        have T3 := Lib.hid hT3.swap
        have H3b := Lib.hid hB3
        have H3w : Hid (Below w.heap.size w w3) := B2.out.trans (hB3.mono B2.out.size)
        have H3A := Lib.hid (HA2.out.up hB3)
        clear hT3 hB3 c0 c1 c2 c3
        obtain ⟨c0, c1, c2, c3⟩ := H3A.out
        have cm := HCm.out w3 H3w.out
        by_cases t1 : m < 1
        · have e1 : decide (m < 1) = true := decide_eq_true t1
          go_wp2
          go_ret3
          exact rcut_no (HF0.out (by omega)) H3w.out
        have e1 : decide (m < 1) = false := decide_eq_false t1
        by_cases t2 : r.w < m
        · have e2 : decide (r.w < m) = true := decide_eq_true t2
          go_wp2
          go_ret3
          exact rcut_no (HF0.out (by have := HP.out; have := hpb.out; omega)) H3w.out
        have e2 : decide (r.w < m) = false := decide_eq_false t2
        have s2 : IntKind.i64.wrap ((p + 1) + m) = (p + 1) + m := wrap_id (by have := hpb.out; have := HM.out; omega)
        by_cases t3 : r.w < (p + 1) + m
        · have e3 : decide (r.w < (p + 1) + m) = true := decide_eq_true t3
          go_wp2
          go_ret3
          exact rcut_no (HF0.out (by have := HP.out; omega)) H3w.out
        have e3 : decide (r.w < (p + 1) + m) = false := decide_eq_false t3
        have s3 : IntKind.i64.wrap (r.x + (p + 1)) = r.x + (p + 1) := wrap_id (by have := hpb.out; have := HM.out; omega)
        have HQ : Hid (id (⟨r.x + offS ms k, r.y, m, r.h⟩ : R) = ⟨r.x + (p + 1), r.y, m, r.h⟩) := (by rw [← HP.out]; rfl : id (⟨r.x + offS ms k, r.y, m, r.h⟩ : R) = (⟨r.x + (p + 1), r.y, m, r.h⟩ : R))
        have HFk := Lib.hid (HF1.out (by have := HP.out; omega))
        have TD := Lib.hid (T3.out.drew.up ((Below.refl _ _).alloc (Nat.le_refl _) (box ⟨r.x + (p + 1), r.y, m, r.h⟩)))
        have BD := Lib.hid (H3b.out.drew)
        have S0 := Lib.hid (c5_of H3A.out cm)
        have S1 := Lib.hid (c5_of (H3A.out.up ((Below.refl _ w3).drew.alloc (Nat.le_refl _) (box ⟨r.x + (p + 1), r.y, m, r.h⟩))) (HCm.out _ (H3w.out.drew.alloc H3w.out.size (box ⟨r.x + (p + 1), r.y, m, r.h⟩))))
        have B5 := Lib.hid (BD.out.alloc BD.out.size (box ⟨r.x + (p + 1), r.y, m, r.h⟩))
        have HLn : Hid ((partsL r id ms k).length ≤ 100000) := (by rw [partsL_length]; omega : (partsL r id ms k).length ≤ 100000)
        go_wp2
        go_region_held3 (fun W => W.cell? ⟨w.heap.size, 0, none⟩ = some (.int .i64 r.x) ∧ W.cell? ⟨w.heap.size, 1, none⟩ = some (.int .i64 r.y) ∧ W.cell? ⟨w.heap.size, 2, none⟩ = some (.int .i64 r.w) ∧ W.cell? ⟨w.heap.size, 3, none⟩ = some (.int .i64 r.h) ∧ W.cell? ⟨b, off + k, none⟩ = some (.int .i64 m)) (first | exact S0.out | exact S1.out | exact S6.out) (first | (refine step_two rfl _ _ rfl w2.heap.size _ _ _ _ w3.heap.size ⟨r.x + (p + 1), r.y, m, r.h⟩ rfl TD.out rfl (rat_new w3.drew ⟨r.x + (p + 1), r.y, m, r.h⟩) HLn.out w2 B5.out (Nat.le_refl _) ?_; intro v6 w6 hT6 hB6; have T6 := Lib.hid hT6; have B6 := Lib.hid hB6; have S6 := Lib.hid (c5_of (HA2.out.up hB6) (HCm.out w6 (B2.out.trans (hB6.mono B2.out.size)))); clear hT6 hB6))
        have cm6 := S6.out.2.2.2.2
        clear c0 c1 c2 c3 cm
        go_wp2
        go_roundg (gk - 1)
        case measure => have := HB.out.2.1; omega
        case rel =>
          refine ⟨k + 1, ?_, by omega, by go_num, ?_, ?_, B6.out, HFk.out⟩
          · have := HB.out.2.1; omega
          · exact congrArg (Value.int .i64) (by rw [HE.out]; have := HP.out; omega)
          · rw [partsL_succ HMk.out, linesL_pos hkp, HL.out]
            rw [HQ.out]
            exact T6.out
    · obtain rfl : k = ms.length := by omega
      have hkl : ((ms.length : Int) < (ms.length : Int)) = False := by simp
      have HPo := Lib.hid (end_pos ms hp)
      obtain ⟨p, hp0⟩ : ∃ p, endS ms ms.length = p := ⟨_, rfl⟩
      rw [hp0]
      have HP0 := Lib.hid hp0
      clear hp0 hoff hend
      by_cases hz : p = r.w
      · have d1 : (p != r.w) = false := by simp [hz]
        have HZ := Lib.hid hz
        clear hz
        go_wp2
        go_ret3
        have hfl : fillP r.w ms := ⟨HB.out.2.2, by have := HPo.out; have := HP0.out; have := HZ.out; omega⟩
        exact ⟨_, _, true, rfl, ⟨fun _ => HCut.out.2 hfl, fun _ => rfl⟩, TW.out.own1.row, TW.out.own2.row, HBw.out⟩
      · have d1 : (p != r.w) = true := by simp [hz]
        have HZ := Lib.hid hz
        clear hz
        go_wp2
        go_ret3
        refine rcut_no (fun hc => ?_) HBw.out
        have h1 := (HCut.out.1 hc).2
        have := HPo.out
        have := HP0.out
        exact HZ.out (by omega)
end Go.Proofs.YtcdiogifgemjbaaGreat
