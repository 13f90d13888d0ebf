/- Texts of this seat, 2 in one file. -/
import Derived.Test.YtodcabaihhmhnaaGreatG47
/- A leaf's cell is pushed: the document's Leaf, by any number. -/
namespace Go.Proofs.YtodcabaihhmhnaaGreat
open Go.RowKit

theorem rpush_any (id ax b : Int) (t : T) (c : C) (w : World) (hm : sz t ≤ 990) (hi : Is w c t) (hbf : fits b) : Calls Tryz.prog 8 #[cval c, .int .i64 id, .int .u8 ax, .int .i64 b] w (PuSays id ax b t w) := by
  by_cases h : 0 < b
  · exact rpush_up id ax b t c w hm hi h hbf
  · exact rpush_down id ax b t c w hm hi (by omega) hbf
end Go.Proofs.YtodcabaihhmhnaaGreat
/- The law PushIs. -/
namespace Go.Proofs.YtodcabaihhmhnaaGreat
open Go.RowKit Sh

set_option maxHeartbeats 2000000 in
set_option maxRecDepth 100000 in
theorem pushIs_any (t : T) (c : C) (id ax b : Int) (w : World) (hi : Is w c t) (hbf : fits b) (hs : sz t ≤ 1099511627776) : Calls Tryz.prog 3 #[cval c, .int .i64 id, .int .u8 ax, .int .i64 b] w fun e w' => e = .returned (.bool true) ∧ Below w.heap.size w w' := by
  have S0 := Lib.hid (QSt.new w c)
  have HG := Lib.hid (great_any t c (w.alloc (cbox c)) (hi.up S0.out.below))
  have HI := Lib.hid hi
  clear hi
  obtain ⟨c0, c1, c2, c3, c4, c5, c6⟩ := S0.out.c7
  go_enter Tryz.func3, Tryz.ntmps3
  go_wp2_with fail
  refine HG.out.mono ?_
  rintro e w1 ⟨g, rfl, hg, hb1⟩
  have S1 := Lib.hid (S0.out.up hb1)
  have HGR := Lib.hid hg
  clear hb1 hg c0 c1 c2 c3 c4 c5 c6
  cases g with
  | true =>
    go_wp2_with fail
    refine (awake14_any w1).mono ?_
    rintro e w2 ⟨rfl, hb2⟩
    have S2 := Lib.hid (S1.out.up hb2)
    clear hb2
    go_wp2
    go_ret
    exact ⟨rfl, S2.out.below⟩
  | false =>
    have hsz : sz t ≤ 200 := HGR.out rfl hs
    have HA := Lib.hid (rall_any w1 (sz t) t c w1 (Nat.le_refl _) (by omega) (HI.out.up S1.out.below) (Below.refl _ _))
    have K1 : Hid (∀ W, QSt w c W → Calls Tryz.prog 7 #[cval c, .int .i64 id, .int .u8 ax, .int .i64 b] W fun e w' => ∃ d, e = .returned (.tuple #[cval d, .int .i64 (puM id ax b t), .int .i64 (puE id ax b t)]) ∧ Is w' d (puU id ax b t) ∧ Below W.heap.size W w') := Lib.hid fun W h => (ppush_any id ax b t c W (by omega) (HI.out.up h.below) hbf).mono fun e w' h => pu_all h
    have K2 : Hid (∀ W, QSt w c W → Calls Tryz.prog 8 #[cval c, .int .i64 id, .int .u8 ax, .int .i64 b] W fun e w' => ∃ d, e = .returned (.tuple #[cval d, .int .i64 (puM id ax b t), .int .i64 (puE id ax b t)]) ∧ Is w' d (puU id ax b t) ∧ Below W.heap.size W w') := Lib.hid fun W h => (rpush_any id ax b t c W (by omega) (HI.out.up h.below) hbf).mono fun e w' h => pu_all h
    clear hsz hs HGR hbf
    generalize puU id ax b t = u at K1 K2
    generalize puE id ax b t = n at K1 K2
    generalize puM id ax b t = hv at K1 K2
    have K5 := Lib.hid (fun (d f : C) W (h : Is W d u) (h' : Is W f u) => rsame_any (sz u) u u d f W (Nat.le_refl _) h h')
    rw [(sameT_iff u u).2 rfl] at K5
    have b1 : (n == n) = true := by simp
    have b2 : (hv == hv) = true := by simp
    obtain ⟨c0, c1, c2, c3, c4, c5, c6⟩ := S1.out.c7
    go_wp2_with fail
    refine HA.out.mono ?_
    rintro e wA ⟨v, cs, rfl, hown, -, hbA⟩
    have SA := Lib.hid (S1.out.up hbA)
    obtain ⟨va, vcap, rfl⟩ := hown.row.shape
    clear hbA hown c0 c1 c2 c3 c4 c5 c6 HA
    generalize cs.length = m
    by_cases hm : 100 < m
    · have d1 : decide ((100 : Int) < (m : Int)) = true := decide_eq_true (by omega)
      go_wp2_with fail
      refine (awake14_any wA).mono ?_
      rintro e w2 ⟨rfl, hb2⟩
      have S2 := Lib.hid (SA.out.up hb2)
      clear hb2
      go_wp2
      go_ret
      exact ⟨rfl, S2.out.below⟩
    · have d1 : decide ((100 : Int) < (m : Int)) = false := decide_eq_false (by omega)
      obtain ⟨c0, c1, c2, c3, c4, c5, c6⟩ := SA.out.c7
      go_wp2_with fail
      refine (K1.out wA SA.out).mono ?_
      rintro e w2 ⟨d, rfl, hd, hb2⟩
      have al2 : Below w2.heap.size w2 (w2.alloc (cbox d)) := (Below.refl _ _).alloc (Nat.le_refl _) _
      have S2 := Lib.hid ((SA.out.up hb2).up al2)
      have D2 := Lib.hid (hd.up al2)
      have X2 := Lib.hid (Box7.new w2 d)
      clear hb2 hd al2 c0 c1 c2 c3 c4 c5 c6 hm d1
      obtain ⟨c0, c1, c2, c3, c4, c5, c6⟩ := S2.out.c7
      go_wp2_with fail
      refine (K2.out _ S2.out).mono ?_
      rintro e w3 ⟨f, rfl, hf, hb3⟩
      have al3 : Below w3.heap.size w3 (w3.alloc (cbox f)) := (Below.refl _ _).alloc (Nat.le_refl _) _
      have S3 := Lib.hid ((S2.out.up hb3).up al3)
      have D3 := Lib.hid ((D2.out.up hb3).up al3)
      have F3 := Lib.hid (hf.up al3)
      have X3 := Lib.hid ((X2.out.up hb3).up al3)
      have Y3 := Lib.hid (Box7.new w3 f)
      clear hb3 hf al3 c0 c1 c2 c3 c4 c5 c6
      obtain ⟨c0, c1, c2, c3, c4, c5, c6⟩ := c7_of X3.out.cat
      obtain ⟨q0, q1, q2, q3, q4, q5, q6⟩ := c7_of Y3.out.cat
      go_wp2_with fail
      refine (K5.out d f _ D3.out F3.out).mono ?_
      rintro e w6 ⟨rfl, hb6⟩
      have S6 := Lib.hid (S3.out.up hb6)
      clear hb6 c0 c1 c2 c3 c4 c5 c6 q0 q1 q2 q3 q4 q5 q6
      go_wp2_with fail
      refine (awake14_any w6).mono ?_
      rintro e w7 ⟨rfl, hb7⟩
      have S7 := Lib.hid (S6.out.up hb7)
      clear hb7
      go_wp2
      go_ret
      exact ⟨rfl, S7.out.below⟩

theorem pushIs_wf (v0 : Value) (t : T) (c : C) (id ax b : Int) (w : World) (e0 : v0 = cval c) (hi : Is w c t) (hbf : fits b) (hs : sz t ≤ 1048576) :
    Calls Tryz.prog 3 #[v0, .int .i64 id, .int .u8 ax, .int .i64 b] w fun e w' => e = .returned (.bool true) ∧ Below w.heap.size w w' := by
  subst e0
  exact pushIs_any t c id ax b w hi hbf (by omega)
end Go.Proofs.YtodcabaihhmhnaaGreat
