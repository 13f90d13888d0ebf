/- The law CellFinds. -/
import Derived.Test.YtoiologdaflnmaaRAt
import Derived.Test.YtoiologdaflnmaaRFind
namespace Go.Proofs.Ytoiologdaflnmaa
open Go.RowKit

theorem sameT_self' (a : T) : sameT a a = true := (sameT_iff a a).2 rfl
theorem eqI_self' (p : List Int) : eqI p p = true := by simp [eqI]
mutual
/-- At a leaf's path is that leaf. -/
theorem findT_at (id : Int) (p : List Int) : ∀ t, findT id t = some p → ∃ u, atT t p = some u ∧ u.k = 1 ∧ u.id = id
  | .node k r i l => by
    rw [findT]
    split
    · rename_i h
      intro hp; cases hp
      exact ⟨_, rfl, h.1, h.2⟩
    · intro hp
      obtain ⟨j, q, u, x, rfl, hj, hx, hu⟩ := findL_at id 0 p l hp
      refine ⟨u, ?_, hu⟩
      rw [atT]
      have : kidAt (.node k r i l) ((0 + j : Nat) : Int) = some x := by
        unfold kidAt
        rw [if_pos (by omega)]
        simpa [T.kids] using hj
      rw [this]
      exact hx
theorem findL_at (id : Int) (n : Nat) (p : List Int) : ∀ l, findL id n l = some p → ∃ (j : Nat) (q : List Int) (u x : T), p = ((n + j : Nat) : Int) :: q ∧ l[j]? = some x ∧ atT x q = some u ∧ u.k = 1 ∧ u.id = id
  | [] => by rw [findL]; intro h; cases h
  | t :: l => by
    rw [findL]
    cases h : findT id t with
    | some q =>
      intro h2; cases h2
      obtain ⟨u, hu⟩ := findT_at id q t h
      exact ⟨0, q, u, t, rfl, rfl, hu⟩
    | none =>
      intro h2
      obtain ⟨j, q, u, x, hp, hj, hu⟩ := findL_at id (n + 1) p l h2
      refine ⟨j + 1, q, u, x, ?_, by simpa using hj, hu⟩
      rw [hp, show n + 1 + j = n + (j + 1) by omega]
end

theorem find_says {r : Option (List Int)} {w w' : World} {e : Ending} (h : FindSays r w e w') : RFindSays r w e w' := by
  obtain ⟨hb, h⟩ := h
  cases r with
  | some p => obtain ⟨v, he, hr⟩ := h; exact ⟨v, he, hr, hb⟩
  | none => exact ⟨.slice none 0 0, h, ⟨none, 0, rfl, fun _ => ⟨rfl, rfl⟩, fun x hx => by cases hx⟩, hb⟩
theorem bne_self (b : Bool) : (b != b) = false := by cases b <;> rfl

set_option maxRecDepth 100000 in
set_option maxHeartbeats 4000000 in
theorem cellFinds_any (t : T) (c : C) (id : Int) (v : Value) (p : List Int) (w : World) (hi : Is w c t) (hs : sz t ≤ 1099511627776) (hp : Path w v p) : Calls Try.prog 5 #[cval c, .int .i64 id, v] w fun e w' => e = .returned (.bool true) ∧ Below w.heap.size w w' := by
  have HI := Lib.hid hi
  have HS := Lib.hid hs
  have HP := Lib.hid hp
  have HA : Hid (Below w.heap.size w (w.alloc (cbox c))) := (Below.refl _ _).alloc (Nat.le_refl _) _
  have HG := Lib.hid (great_any t c (w.alloc (cbox c)) (hi.up HA.out))
  obtain ⟨a, cap, rfl, -⟩ := hp.cap
  clear hi hs hp
  go_enter Try.func5, Try.ntmps5
  go_wp2_with fail
  refine HG.out.mono ?_
  rintro e w1 ⟨g, rfl, hg, hb1⟩
  have HX1 := Lib.hid hb1
  have B1 := Lib.hid (below_one hb1)
  have HF := Lib.hid hg
  clear hb1 hg
  cases g with
  | true =>
    go_wp2_with fail
    refine (awake_any w1).mono ?_
    rintro e w2 ⟨rfl, hb2⟩
    have B2 := Lib.hid (B1.out.trans (hb2.mono B1.out.size))
    clear hb2
    go_wp2
    go_ret
    exact ⟨rfl, B2.out⟩
  | false =>
    by_cases h50 : 50 < p.length
    · have d50 : decide (50 < (p.length : Int)) = true := decide_eq_true (by omega)
      have d50' : decide (50 < p.length) = true := decide_eq_true h50
      go_wp2_with fail
      refine (awake_any w1).mono ?_
      rintro e w2 ⟨rfl, hb2⟩
      have B2 := Lib.hid (B1.out.trans (hb2.mono B1.out.size))
      clear hb2
      go_wp2
      go_ret
      exact ⟨rfl, B2.out⟩
    · have d50 : decide (50 < (p.length : Int)) = false := decide_eq_false (by omega)
      have d50' : decide (50 < p.length) = false := decide_eq_false h50
      have hsz : sz t ≤ 200 := HF.out rfl HS.out
      have HC1 := Lib.hid (box_at HX1.out)
      obtain ⟨c0, c1, c2, c3, c4, c5, c6⟩ := HC1.out
      have HFD := Lib.hid (find_any id t c w1 (by omega) (HI.out.up B1.out))
      have HRF := Lib.hid (fun W (h : Below w.heap.size w W) => rfind_any id (sz t) t c W (Nat.le_refl _) (by omega) (HI.out.up h))
      have HAT := Lib.hid (fun W (h : Below w.heap.size w W) => at_any t c _ p W (HI.out.up h) (HP.out.up h).row (by omega))
      have HRA := Lib.hid (fun W (h : Below w.heap.size w W) => rat_any W p t c _ W (HI.out.up h) (Below.refl _ _) (HP.out.up h) (by omega))
      generalize atT t p = ro at HAT HRA
      have HFN := Lib.hid (findT_at id)
      have hql : ∀ q, findT id t = some q → q.length ≤ 1000000 := fun q hq => by have := findT_len id q t hq; omega
      have HAQ := Lib.hid (fun W v (q : List Int) (h : Below w.heap.size w W) (hr : Row W v (ints q)) (hl : q.length ≤ 1000000) => at_any t c v q W (HI.out.up h) hr hl)
      have HRF2 := Lib.hid (fun q (hq : findT id t = some q) => And.intro (findT_at id q t hq) (hql q hq))
      clear hql HFN
      have HFD2 : Hid (Calls Try.prog 20 #[cval c, .int .i64 id] w1 (RFindSays (findT id t) w1)) := HFD.out.mono fun e w' h => find_says h
      clear HFD
      generalize findT id t = r at HFD2 HRF HRF2
      have hrl : (r.getD []).length ≤ 1000000 := by
        cases r with
        | none => simp
        | some q => exact (HRF2.out q rfl).2
      have HRL := Lib.hid hrl
      clear hrl
      go_wp2_with fail
      refine HFD2.out.mono ?_
      rintro e w2 ⟨v2, rfl, hr2, hb2⟩
      have B2 := Lib.hid (B1.out.trans (hb2.mono B1.out.size))
      have HC2 := Lib.hid (HC1.out.up hb2)
      have HR2 := Lib.hid hr2
      obtain ⟨a2, cap2, rfl⟩ := row_shape hr2
      clear hb2 hr2 c0 c1 c2 c3 c4 c5 c6
      obtain ⟨c0, c1, c2, c3, c4, c5, c6⟩ := HC2.out
      go_wp2_with fail
      refine (HRF.out w2 B2.out).mono ?_
      rintro e w3 ⟨v3, rfl, hr3, hb3⟩
      have B3 := Lib.hid (B2.out.trans (hb3.mono B2.out.size))
      have HC3 := Lib.hid (HC2.out.up hb3)
      have HR23 := Lib.hid (HR2.out.up hb3)
      have HR3 := Lib.hid hr3
      obtain ⟨a3, cap3, rfl⟩ := row_shape hr3
      clear hb3 hr3 c0 c1 c2 c3 c4 c5 c6
      obtain ⟨c0, c1, c2, c3, c4, c5, c6⟩ := HC3.out
      go_wp2_with fail
      refine (HAT.out w3 B3.out).mono ?_
      rintro e w4 ⟨x, rfl, hx4, hb4⟩
      have A4 : Hid (Below w4.heap.size w4 (w4.alloc (cbox x))) := (Below.refl _ _).alloc (Nat.le_refl _) _
      have hb4a := hb4.trans (A4.out.mono hb4.size)
      have B4 := Lib.hid (B3.out.trans (hb4a.mono B3.out.size))
      have HC4 := Lib.hid (HC3.out.up hb4a)
      have HR24 := Lib.hid (HR23.out.up hb4a)
      have HR34 := Lib.hid (HR3.out.up hb4a)
      have HX4 := Lib.hid (hx4.up A4.out)
      have HBX4 := Lib.hid (cbox_new w4 x)
      have hlt4 : w.heap.size < w4.heap.size := by have := HC3.out.lt; have := hb4.size; omega
      have hne4 : w.heap.size ≠ w4.heap.size := by omega
      have HC4' := Lib.hid (HC3.out.up hb4)
      clear hb4 hb4a hx4 c0 c1 c2 c3 c4 c5 c6
      obtain ⟨c0, c1, c2, c3, c4, c5, c6⟩ := HC4'.out
      go_wp2_with fail
      refine (HRA.out _ B4.out).mono ?_
      rintro e w5 ⟨y, rfl, hy5, hb5⟩
      have A5 : Hid (Below w5.heap.size w5 (w5.alloc (cbox y))) := (Below.refl _ _).alloc (Nat.le_refl _) _
      have hb5a := hb5.trans (A5.out.mono hb5.size)
      have B5 := Lib.hid (B4.out.trans (hb5a.mono B4.out.size))
      have HC5 := Lib.hid (HC4.out.up hb5a)
      have HR25 := Lib.hid (HR24.out.up hb5a)
      have HR35 := Lib.hid (HR34.out.up hb5a)
      have HX5 := Lib.hid (HX4.out.up hb5a)
      have HY5 := Lib.hid (hy5.up hb5a)
      have HBX5 := Lib.hid (HBX4.out.up hb5a)
      have HBY5 := Lib.hid (cbox_new w5 y)
      clear hb5 hb5a hy5 c0 c1 c2 c3 c4 c5 c6
      have hbn1 := bne_self r.isSome
      have hbn2 := bne_self ro.isSome
      have HQ := Lib.hid (ints_any _ _ (r.getD []) (r.getD []) (w5.alloc (cbox y)) HR25.out HR35.out HRL.out)
      rw [eqI_self'] at HQ
      go_wp2_with fail
      refine HQ.out.mono ?_
      rintro e w6 ⟨rfl, hb6⟩
      have B6 := Lib.hid (B5.out.trans (hb6.mono B5.out.size))
      have HC6 := Lib.hid (HC5.out.up hb6)
      have HR26 := Lib.hid (HR25.out.up hb6)
      have HX6 := Lib.hid (HX5.out.up hb6)
      have HY6 := Lib.hid (HY5.out.up hb6)
      obtain ⟨x0, x1, x2, x3, x4, x5, x6⟩ := HBX5.out.up hb6
      obtain ⟨y0, y1, y2, y3, y4, y5, y6⟩ := HBY5.out.up hb6
      simp only [Nat.zero_add] at x1 x2 x3 x4 x5 x6 y1 y2 y3 y4 y5 y6
      clear hb6
      have HSS := Lib.hid (rsame_any (sz (ro.getD zT)) (ro.getD zT) (ro.getD zT) x y w6 (Nat.le_refl _) HX6.out HY6.out)
      rw [sameT_self'] at HSS
      go_wp2_with fail
      refine HSS.out.mono ?_
      rintro e w7 ⟨rfl, hb7⟩
      have B7 := Lib.hid (B6.out.trans (hb7.mono B6.out.size))
      have HC7 := Lib.hid (HC6.out.up hb7)
      have HR27 := Lib.hid (HR26.out.up hb7)
      clear hb7 x0 x1 x2 x3 x4 x5 x6 y0 y1 y2 y3 y4 y5 y6
      obtain ⟨c0, c1, c2, c3, c4, c5, c6⟩ := HC7.out
      have HAQ7 := Lib.hid (HAQ.out w7 _ (r.getD []) B7.out HR27.out HRL.out)
      cases r with
      | none =>
        go_wp2_with fail
        refine HAQ7.out.mono ?_
        rintro e w8 ⟨z, rfl, -, hb8⟩
        have B8 := Lib.hid (B7.out.trans (hb8.mono B7.out.size))
        have B8a : Hid (Below w.heap.size w (w8.alloc (cbox z))) := Lib.hid (B8.out.alloc B8.out.size _)
        clear hb8
        go_wp2_with fail
        refine (awake_any _).mono ?_
        rintro e w9 ⟨rfl, hb9⟩
        have B9 := Lib.hid (B8a.out.trans (hb9.mono B8a.out.size))
        clear hb9
        go_wp2
        go_ret
        exact ⟨rfl, B9.out⟩
      | some q =>
        obtain ⟨⟨u, hu, huk, hui⟩, -⟩ := HRF2.out q rfl
        simp only [Option.getD_some] at HAQ7
        rw [hu] at HAQ7
        go_wp2_with fail
        refine HAQ7.out.mono ?_
        rintro e w8 ⟨z, rfl, hz, hb8⟩
        have hzk : z.k = 1 := by have := hz.split.1; simp only [Option.getD_some] at this; omega
        have hzi : z.id = id := by have := hz.split.2.2.1; simp only [Option.getD_some] at this; omega
        have B8 := Lib.hid (B7.out.trans (hb8.mono B7.out.size))
        have B8a : Hid (Below w.heap.size w (w8.alloc (cbox z))) := Lib.hid (B8.out.alloc B8.out.size _)
        clear hb8 hz hu huk hui
        obtain ⟨zk, zr, zid, za, zn, zcap⟩ := z
        simp only at hzk hzi
        subst hzk
        subst hzi
        go_wp2_with fail
        refine (awake_any _).mono ?_
        rintro e w9 ⟨rfl, hb9⟩
        have B9 := Lib.hid (B8a.out.trans (hb9.mono B8a.out.size))
        clear hb9
        go_wp2
        go_ret
        exact ⟨rfl, B9.out⟩

theorem cellFinds_wf (t : T) (c : C) (id : Int) (v0 v : Value) (p : List Int) (w : World) (e0 : v0 = cval c) (hi : Is w c t) (hs : sz t ≤ 1048576) (hp : Path w v p) : Calls Try.prog 5 #[v0, .int .i64 id, v] w fun e w' => e = .returned (.bool true) ∧ Below w.heap.size w w' := by
  subst e0
  exact cellFinds_any t c id v p w hi (by omega) hp
end Go.Proofs.Ytoiologdaflnmaa
