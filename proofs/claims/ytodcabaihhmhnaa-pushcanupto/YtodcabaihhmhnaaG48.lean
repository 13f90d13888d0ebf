/- Texts of this seat, 3 in one file. -/
import Derived.Test.YtodcabaihhmhnaaG47
import Derived.Test.YtodcabaihhmhnaaG38
import Derived.Test.YtodcabaihhmhnaaG44
import Derived.Test.YtodcabaihhmhnaaG28
import Derived.Laws.OwnMore
/- The law PushCan. -/
namespace Go.Proofs.Ytodcabaihhmhnaa
open Go.RowKit Sh

theorem puM_far {id ax b : Int} {t : T} (hm : sz t ≤ 990) (hb : 30000 ≤ b ∨ b ≤ -30000) : puM id ax b t = if 0 < b then canU id ax t else -canD id ax t := by
  by_cases h0 : fdE id ax t = 0
  · have h1 := push_total hm h0 hb
    have h2 : puN id ax b t = if 0 < b then canU id ax t else -canD id ax t := by
      unfold puN
      rw [h1]
      split <;> rfl
    by_cases h3 : puN id ax b t = 0
    · unfold puM
      rw [pu_space h0 h3 (by omega), if_neg (by decide), ← h2, h3]
    · unfold puM
      rw [pu_done h0 (.inl h3), if_pos rfl, h2]
  · obtain ⟨h1, h2, h3⟩ := push_none (b := b) h0
    unfold puM
    rw [h1, if_neg h0, h2, h3]
    split <;> rfl
theorem canD_small {id ax : Int} {t : T} (hm : sz t ≤ 990) : 0 ≤ canD id ax t ∧ canD id ax t ≤ 10000000 := by
  by_cases h0 : fdE id ax t = 0
  · obtain ⟨hax, -, p, n, y, k, P, -, -, -, -, -, hX, -, hPl, -, -, hty, hsy⟩ := frame_is hm h0
    have hlen : y.kids.length ≤ 990 := by have := sz_node y; have := szL_len y.kids; omega
    rw [(can_is h0 hX).2]
    have := sm_bounds (ax := ax) (s := askD P) (ks := y.kids) (fun j u hu => gv_bounds hax (by have := sz_kid hu; omega) (tile_kid (by omega) hty hu)) y.kids.length (Nat.le_refl _)
    omega
  · rw [(can_err h0).2]; decide

set_option maxHeartbeats 2000000 in
set_option maxRecDepth 100000 in
theorem pushCan_any (t : T) (c : C) (id ax : Int) (w : World) (hi : Is w c t) (hs : sz t ≤ 1099511627776) : Calls Try.prog 3 #[cval c, .int .i64 id, .int .u8 ax] w fun e w' => e = .returned (.bool true) ∧ Below w.heap.size w w' := by
  have S0 := Lib.hid (QSt.new w c)
  have HG := Lib.hid (great_any t c (w.alloc (cbox c)) (hi.up S0.out.below))
  have HI := Lib.hid hi
  clear hi
  obtain ⟨c0, c1, c2, c3, c4, c5, c6⟩ := S0.out.c7
  go_enter Try.func3, Try.ntmps3
  go_wp2_with fail
  refine HG.out.mono ?_
  rintro e w1 ⟨g, rfl, hg, hb1⟩
  have S1 := Lib.hid (S0.out.up hb1)
  have HGR := Lib.hid hg
  clear hb1 hg c0 c1 c2 c3 c4 c5 c6
  cases g with
  | true =>
    go_wp2_with fail
    refine (awake14_any w1).mono ?_
    rintro e w2 ⟨rfl, hb2⟩
    have S2 := Lib.hid (S1.out.up hb2)
    clear hb2
    go_wp2
    go_ret
    exact ⟨rfl, S2.out.below⟩
  | false =>
    have hsz : sz t ≤ 200 := HGR.out rfl hs
    have HA := Lib.hid (rall_any w1 (sz t) t c w1 (Nat.le_refl _) (by omega) (HI.out.up S1.out.below) (Below.refl _ _))
    have K1 := Lib.hid (fun W (h : QSt w c W) => ppcan_any id ax t c W (by omega) (HI.out.up h.below))
    have K2 := Lib.hid (fun W (h : QSt w c W) => rcan_any id ax t c W (by omega) (HI.out.up h.below))
    have K3 : Hid (∀ W, QSt w c W → Calls Try.prog 11 #[cval c, .int .i64 id, .int .u8 ax, .int .i64 1099511627776] W fun e w' => ∃ d, e = .returned (.tuple #[cval d, .int .i64 (canU id ax t), .int .i64 (puE id ax 1099511627776 t)]) ∧ Below W.heap.size W w') := Lib.hid fun W h => (ppush_any id ax 1099511627776 t c W (by omega) (HI.out.up h.below) (by unfold fits; omega)).mono fun e w' h => by
      obtain ⟨d, h1, -, h3⟩ := pu_all h
      rw [puM_far (by omega) (.inl (by decide)), if_pos (by decide)] at h1
      exact ⟨d, h1, h3⟩
    have K4 : Hid (∀ W, QSt w c W → Calls Try.prog 11 #[cval c, .int .i64 id, .int .u8 ax, .int .i64 (-1099511627776)] W fun e w' => ∃ d, e = .returned (.tuple #[cval d, .int .i64 (-canD id ax t), .int .i64 (puE id ax (-1099511627776) t)]) ∧ Below W.heap.size W w') := Lib.hid fun W h => (ppush_any id ax (-1099511627776) t c W (by omega) (HI.out.up h.below) (by unfold fits; omega)).mono fun e w' h => by
      obtain ⟨d, h1, -, h3⟩ := pu_all h
      rw [puM_far (by omega) (.inr (by decide)), if_neg (by decide)] at h1
      exact ⟨d, h1, h3⟩
    have hcd := canD_small (id := id) (ax := ax) (t := t) (by omega)
    clear hsz hs HGR
    generalize puE id ax 1099511627776 t = n1 at K3
    generalize puE id ax (-1099511627776) t = n2 at K4
    generalize canU id ax t = up at K1 K2 K3
    generalize canD id ax t = dn at K1 K2 K4 hcd
    have hw : IntKind.i64.wrap (-dn) = -dn := wrap_id (by omega)
    have b1 : (up == up) = true := by simp
    have b2 : (dn == dn) = true := by simp
    have b3 : (-dn == -dn) = true := by simp
    obtain ⟨c0, c1, c2, c3, c4, c5, c6⟩ := S1.out.c7
    go_wp2_with fail
    refine HA.out.mono ?_
    rintro e wA ⟨v, cs, rfl, hown, -, hbA⟩
    have SA := Lib.hid (S1.out.up hbA)
    obtain ⟨va, vcap, rfl⟩ := hown.row.shape
    clear hbA hown c0 c1 c2 c3 c4 c5 c6 HA
    generalize cs.length = m
    by_cases hm : 100 < m
    · have d1 : decide ((100 : Int) < (m : Int)) = true := decide_eq_true (by omega)
      go_wp2_with fail
      refine (awake14_any wA).mono ?_
      rintro e w2 ⟨rfl, hb2⟩
      have S2 := Lib.hid (SA.out.up hb2)
      clear hb2
      go_wp2
      go_ret
      exact ⟨rfl, S2.out.below⟩
    · have d1 : decide ((100 : Int) < (m : Int)) = false := decide_eq_false (by omega)
      obtain ⟨c0, c1, c2, c3, c4, c5, c6⟩ := SA.out.c7
      go_wp2_with fail
      refine (K1.out wA SA.out).mono ?_
      rintro e w2 ⟨rfl, hb2⟩
      have S2 := Lib.hid (SA.out.up hb2)
      clear hb2 c0 c1 c2 c3 c4 c5 c6 hm d1
      obtain ⟨c0, c1, c2, c3, c4, c5, c6⟩ := S2.out.c7
      go_wp2_with fail
      refine (K2.out _ S2.out).mono ?_
      rintro e w3 ⟨rfl, hb3⟩
      have S3 := Lib.hid (S2.out.up hb3)
      clear hb3 c0 c1 c2 c3 c4 c5 c6
      obtain ⟨c0, c1, c2, c3, c4, c5, c6⟩ := S3.out.c7
      go_wp2_with fail
      refine (K3.out _ S3.out).mono ?_
      rintro e w4 ⟨d, rfl, hb4⟩
      have S4 := Lib.hid ((S3.out.up hb4).up ((Below.refl _ _).alloc (Nat.le_refl _) (cbox d)))
      clear hb4 c0 c1 c2 c3 c4 c5 c6
      obtain ⟨c0, c1, c2, c3, c4, c5, c6⟩ := S4.out.c7
      go_wp2_with fail
      refine (K4.out _ S4.out).mono ?_
      rintro e w5 ⟨f, rfl, hb5⟩
      have S5 := Lib.hid ((S4.out.up hb5).up ((Below.refl _ _).alloc (Nat.le_refl _) (cbox f)))
      clear hb5 c0 c1 c2 c3 c4 c5 c6
      go_wp2_with fail
      refine (awake14_any _).mono ?_
      rintro e w7 ⟨rfl, hb7⟩
      have S7 := Lib.hid (S5.out.up hb7)
      clear hb7
      go_wp2
      go_ret
      exact ⟨rfl, S7.out.below⟩

theorem pushCan_wf (v0 : Value) (t : T) (c : C) (id ax : Int) (w : World) (e0 : v0 = cval c) (hi : Is w c t) (hs : sz t ≤ 1048576) :
    Calls Try.prog 3 #[v0, .int .i64 id, .int .u8 ax] w fun e w' => e = .returned (.bool true) ∧ Below w.heap.size w w' := by
  subst e0
  exact pushCan_any t c id ax w hi (by omega)
end Go.Proofs.Ytodcabaihhmhnaa
/- The cell that is pushed is as much greater. No walk. -/
namespace Go.Proofs.Ytodcabaihhmhnaa
open Go.RowKit Sh

theorem at_set : ∀ {p : List Int} {t u : T} {x y : Int}, atT t p = some u → ∃ x' y', atT (setT x y t) p = some (setT x' y' u)
  | [], t, u, x, y, h => by rw [atT] at h ⊢; cases h; exact ⟨x, y, rfl⟩
  | k :: p, t, u, x, y, h => by
    rw [atT] at h
    cases hk : kidAt t k with
    | none => rw [hk] at h; cases h
    | some v =>
      rw [hk] at h
      obtain ⟨j, rfl, hj⟩ := kid_some hk
      have h1 : (setT x y t).kids[j]? = some (setT (pX t.k x (t.kids.take j)) (pY t.k y (t.kids.take j)) v) := by
        rw [setT_eq]
        show (setL t.k x y t.kids)[j]? = _
        rw [setL_get, hj]; rfl
      have h2 : kidAt (setT x y t) (j : Int) = some (setT (pX t.k x (t.kids.take j)) (pY t.k y (t.kids.take j)) v) := by
        unfold kidAt
        rw [if_pos (by omega), Int.toNat_natCast]
        exact h1
      rw [atT, h2]
      exact at_set h
theorem ps_place {ax a whole : Int} (hax : ax = 1 ∨ ax = 2) {N L p : Nat} {up : Bool} (hw : whole ≤ 10000) (hpL : p + 1 < L) (f : Nat) : ∀ (X v : T) (d : Int), PuInv ax whole N L X → X.kids[getN p up]? = some v → d ≤ a →
    ∃ v', (psT ax p up a f X d).1.kids[getN p up]? = some v' ∧ szA v'.r ax = szA v.r ax + ((psT ax p up a f X d).2 - d) ∧ d ≤ (psT ax p up a f X d).2 ∧ (psT ax p up a f X d).2 ≤ a := by
  induction f with
  | zero => intro X v d h hv hd; exact ⟨v, hv, by rw [psT]; omega, by rw [psT]; exact Int.le_refl _, by rw [psT]; exact hd⟩
  | succ f ih =>
    intro X v d h hv hd
    have hp : p < X.kids.length := by rw [h.len]; omega
    by_cases hg : d = a ∨ gvrN ax X.kids p up < 0
    · rw [ps_stop hg]
      exact ⟨v, hv, by simp only; omega, Int.le_refl _, hd⟩
    · obtain ⟨i, u, h1, h2, h3, h4⟩ := giver_is (ax := ax) (up := up) hp (by omega)
      have hn := nx_in (ax := ax) (a := a) (d := d) (u := u) (by omega) h3
      rw [ps_step (by omega) h1 h2]
      obtain ⟨m1, m2, -, v', hv', hsz⟩ := mv_inv hax h hw h2 hv h4 (by omega : 0 ≤ nxN ax a d u) hn.2.1
      obtain ⟨v2, g1, g2, g3, g4⟩ := ih _ v' (d + nxN ax a d u) m2 hv' hn.2.2
      exact ⟨v2, g1, by omega, by omega, g4⟩
/-- The cell that is pushed, ahead of it and behind it. -/
theorem push_one {id ax b : Int} {t : T} (hm : sz t ≤ 990) (h0 : fdE id ax t = 0) (hb : 0 ≤ b) : ∃ was now, atT t (frP id ax t ++ [(frX id ax t).2]) = some was ∧ atT (puT id ax b t) (frP id ax t ++ [(frX id ax t).2]) = some now ∧ szA now.r ax = szA was.r ax + puN id ax b t := by
  obtain ⟨hax, -, p, n, y, k, P, -, -, hy, -, -, hX, -, hPl, hP, hal, hty, hsy⟩ := frame_is hm h0
  obtain ⟨hinv, hS, -⟩ := pu_start hax hsy hty hal
  obtain ⟨v, hv⟩ : ∃ v, y.kids[P]? = some v := ⟨_, List.getElem?_eq_getElem (by omega)⟩
  obtain ⟨Y, hY⟩ : ∃ Y, putT (puR id ax (decide (0 < b)) (absN b) t).1 t (p.take n) = some Y := by
    have h1 := put_at (kid := (puR id ax (decide (0 < b)) (absN b) t).1) (p := p.take n) (t := t)
    rw [hy] at h1
    cases hc : putT (puR id ax (decide (0 < b)) (absN b) t).1 t (p.take n) with
    | some Y => exact ⟨Y, rfl⟩
    | none => rw [hc] at h1; cases h1
  obtain ⟨v', hv', hsz⟩ : ∃ v', (puR id ax (decide (0 < b)) (absN b) t).1.kids[P]? = some v' ∧ szA v'.r ax = szA v.r ax + puN id ax b t := by
    unfold puN puD puR absN
    rw [hX]
    show ∃ v', (psT ax P (decide (0 < b)) (if 0 < b then b else -b) 20001 y 0).1.kids[P]? = some v' ∧ szA v'.r ax = szA v.r ax + if 0 < b then (psT ax P (decide (0 < b)) (if 0 < b then b else -b) 20001 y 0).2 else -(psT ax P (decide (0 < b)) (if 0 < b then b else -b) 20001 y 0).2
    by_cases h : 0 < b
    · rw [decide_eq_true h, if_pos h, if_pos h]
      obtain ⟨v', h1, h2, -⟩ := ps_place (a := b) (up := true) hax hS hPl 20001 y v 0 hinv hv hb
      exact ⟨v', h1, by omega⟩
    · rw [decide_eq_false h, if_neg h, if_neg h, ps_stop (.inl (by omega))]
      exact ⟨v, hv, by simp⟩
  have hk1 : kidAt y (P : Int) = some v := by unfold kidAt; rw [if_pos (by omega), Int.toNat_natCast]; exact hv
  have hk2 : kidAt (puR id ax (decide (0 < b)) (absN b) t).1 (P : Int) = some v' := by unfold kidAt; rw [if_pos (by omega), Int.toNat_natCast]; exact hv'
  rw [hP, hX]
  have ha1 : atT t (p.take n ++ [(P : Int)]) = some v := by rw [atT_append, hy]; simp only [atT, hk1]
  have ha2 : atT Y (p.take n ++ [(P : Int)]) = some v' := by rw [atT_append, put_there hY]; simp only [atT, hk2]
  obtain ⟨x', y', ha3⟩ := at_set (x := t.r.x) (y := t.r.y) ha2
  refine ⟨v, setT x' y' v', ha1, ?_, ?_⟩
  · unfold puT
    rw [hP, hY]
    exact ha3
  · rw [set_szA]; exact hsz
end Go.Proofs.Ytodcabaihhmhnaa
/- Many numbers, or none, behind a row of the call's own, in a statement that draws its order. -/
namespace Go.Proofs.Ytodcabaihhmhnaa
open Go.RowKit

theorem runI_any {w : World} {base : Nat} {v src : Value} {xs news : List Int} (hown : OwnI w base v xs) (hrow : Row w src (ints news)) (h63 : xs.length + news.length ≤ 100000) (hbase : base ≤ w.heap.size) (ty : TypeId) :
    ∃ v' w', (Builtin.append_ #[37, 37] ty #[v, src]).run Try.prog w = .ok v' w' ∧ OwnI w' base v' (xs ++ news) ∧ w.grownBy w' v.ownBlock := by
  obtain ⟨i, hi, hz0, hz2, hz3⟩ := info_parts infoI
  obtain ⟨ad, cap, rfl, h0, hc⟩ := hrow
  cases ad with
  | none =>
    obtain ⟨h1, h2⟩ := h0 rfl
    have hn : news = [] := by
      cases news with
      | nil => rfl
      | cons a l => simp [ints] at h1
    subst hn
    subst h2
    refine ⟨v, w, ?_, by simpa using hown, ⟨rfl, rfl, rfl, Nat.le_refl _, fun _ _ _ => rfl⟩⟩
    have := run_append_owned_none (P := Try.prog) (w := w) base 37 ty 3 i 1 slice_i hi v xs.length (ints xs) hown
    exact this
  | some ad =>
    obtain ⟨v', w', hrun, ho, hg, -⟩ := run_append_own (P := Try.prog) w base 37 ty 3 i (.int .i64 0) 1 8 slice_i hi hz0 hz2 hz3 rfl (by decide) v xs.length (ints xs) hown ad (ints news).length cap (ints news) (by omega) (hc ad rfl) (ints_one _) (by rw [ints_length]; unfold maxLen; omega) (by rw [ints_length]; omega) hbase
    refine ⟨v', w', hrun, ?_, hg⟩
    rw [ints_length] at ho
    unfold OwnI
    rw [List.length_append, ints_append]
    exact ho
theorem step_appI {w : World} {ops : Array Oper} {o : Oper} {a : Act} {K : Act → World → Prop} {Q : Exit → Act → World → Prop} {E : Prop} (hgd : o.guard = none) (s x : Operand)
    (ho : o.op = .call { callee := .builtin .append, args := #[s, x], argTypes := #[37, 37] })
    (base : Nat) (v src : Value) (xs news : List Int) (hs : a.eval s = v) (hown : OwnI w base v xs) (hx : a.eval x = src) (hrow : Row w src (ints news)) (h63 : xs.length + news.length ≤ 100000) (hbase : base ≤ w.heap.size)
    (h : ∀ v' w', OwnI w' base v' (xs ++ news) → w.grownBy w' v.ownBlock → K (a.put o.dst v') w') :
    if Region.wanted o (yielded ops a.tmps) = true then Oper.wp Try.prog o a w K Q else E := by
  have hw : Region.wanted o (yielded ops a.tmps) = true := by simp [Region.wanted, hgd]
  rw [if_pos hw]
  obtain ⟨v', w', hrun, g1, g2⟩ := runI_any hown hrow h63 hbase o.type
  unfold Oper.wp execOp
  simp only [ho, resolve, invoke, builtin, Sem.run_bind, Sem.run_pure, Result.andThen_ok, List.map_toArray, List.map_cons, List.map_nil, hs, hx, hrun]
  exact h v' w' g1 g2
end Go.Proofs.Ytodcabaihhmhnaa
