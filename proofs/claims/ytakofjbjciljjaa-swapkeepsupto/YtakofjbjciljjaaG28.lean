/- Texts of this seat, 3 in one file. -/
import Derived.Test.YtakofjbjciljjaaG27
import Derived.Test.YtakofjbjciljjaaG26
/- The program's Round: all leaves go round. -/
namespace Go.Proofs.Ytakofjbjciljjaa
open Go.RowKit

mutual
theorem lv_pos_t : ∀ t : T, (∀ u ∈ preT t, wellT u = true) → 0 < lvT t
  | .node k r i l, h => by
    have ihl := lv_pos_l l
    have ht := h _ (by rw [preT_eq]; exact List.mem_cons_self ..)
    rw [lvT_eq]
    have ht' : wellB k r i l.length = true := ht
    change 0 < (if k = 1 then 1 else 0) + lvL l
    by_cases hk : k = 1
    · rw [if_pos hk]; omega
    · rw [if_neg hk, Nat.zero_add]
      refine ihl (fun e => ?_) fun u hu => h u (by rw [preT_eq]; exact List.mem_cons_of_mem _ hu)
      subst e
      unfold wellB at ht'
      simp only [Bool.and_eq_true, Bool.or_eq_true, decide_eq_true_eq] at ht'
      rcases ht'.2 with ⟨h1, -, -⟩ | ⟨-, -, h3⟩
      · exact hk h1
      · simp at h3
theorem lv_pos_l : ∀ l : List T, l ≠ [] → (∀ u ∈ preL l, wellT u = true) → 0 < lvL l
  | [], h, _ => absurd rfl h
  | t :: l, _, h => by
    have iht := lv_pos_t t fun u hu => h u (by rw [preL]; exact List.mem_append_left _ hu)
    rw [lvL]; omega
end
theorem lv_pos {t : T} (hs : sz t ≤ 20000) (ht : tileB t = true) : 0 < lvT t := by
  unfold tileB at ht
  rw [may_is (by omega)] at ht
  unfold rmayT at ht
  simp only [Bool.and_eq_true, decide_eq_true_eq, List.all_eq_true] at ht
  exact lv_pos_t t fun u hu => ht.1.1 u hu

theorem lv_none (t : T) : lvE t [] = rdE t := by
  unfold lvE rdE outB
  by_cases ht : tileB t = true
  · rw [if_pos ht, if_pos ht]; simp
  · rw [if_neg ht, if_neg ht]
theorem upTo_rd (by_ : Int) (l : List Int) : upTo (fun k => l.getD (rdAt l.length by_ k) 0) l.length = rdL by_ l := rfl
theorem rd_on {n k : Nat} (hk : k < n) (by_ : Int) : ((k : Int) - by_.tmod (n : Int) + (n : Int)).tmod (n : Int) = (rdAt n by_ k : Int) ∧ -(n : Int) < by_.tmod (n : Int) ∧ by_.tmod (n : Int) < (n : Int) := by
  have hn : 0 < n := by omega
  obtain ⟨h1, h2, -⟩ := tmod_round hn by_
  refine ⟨?_, h1, h2⟩
  have h5 : ((k : Int) - by_.tmod (n : Int) + (n : Int)) % (n : Int) = ((k : Int) - by_) % (n : Int) := by
    have g := Int.mul_tdiv_add_tmod by_ n
    rw [Int.add_emod_right, show (k : Int) - by_.tmod (n : Int) = (k : Int) - by_ + (n : Int) * by_.tdiv (n : Int) by omega, Int.add_mul_emod_self_left]
  rw [Int.tmod_eq_emod_of_nonneg (by omega), h5, rdAt_is hn by_ k]

set_option maxRecDepth 100000 in
theorem round1_any (v : Value) (l : List Int) (by_ : Int) (bi ba bn k : Nat) (w : World) (hl : l.length ≤ 1000000) (hc : w.cell? ⟨bi, 0, none⟩ = some v) (ha : w.cell? ⟨ba, 0, none⟩ = some (.int .i64 (by_.tmod (l.length : Int)))) (hn : w.cell? ⟨bn, 0, none⟩ = some (.int .i64 (l.length : Int))) (hr : Row w v (ints l)) (hk : k < l.length) :
    Calls Try.prog 26 #[.int .i64 (k : Int), .pointer (some ⟨bi, 0, none⟩), .pointer (some ⟨ba, 0, none⟩), .pointer (some ⟨bn, 0, none⟩)] w fun e w' => e = .returned (.int .i64 (l.getD (rdAt l.length by_ k) 0)) ∧ Below w.heap.size w w' := by
  obtain ⟨ad, cap, rfl⟩ := row_shape hr
  obtain ⟨br, o, rfl, hf⟩ := int_at hr (by omega)
  obtain ⟨h1, h2, h3⟩ := rd_on hk by_
  have hq := rdAt_lt (show 0 < l.length by omega) by_ k
  obtain ⟨p, hp⟩ : ∃ p, l[rdAt l.length by_ k]? = some p := ⟨_, List.getElem?_eq_getElem hq⟩
  have hv : l.getD (rdAt l.length by_ k) 0 = p := by rw [List.getD_eq_getElem?_getD, hp]; rfl
  rw [hv]
  clear hv
  generalize rdAt l.length by_ k = q at h1 hq hp
  generalize by_.tmod (l.length : Int) = r at ha h1 h2 h3
  have e0 := hf q p hp
  have s0 : ((l.length : Int) == 0) = false := by rw [beq_eq_false_iff_ne]; omega
  have s0' : (l.length == 0) = false := by rw [beq_eq_false_iff_ne]; omega
  have s1 : IntKind.i64.wrap ((k : Int) - r) = (k : Int) - r := wrap_id (by omega)
  have s2 : IntKind.i64.wrap ((k : Int) - r + (l.length : Int)) = (k : Int) - r + (l.length : Int) := wrap_id (by omega)
  have s1' : wrap64 ((k : Int) - r) = (k : Int) - r := by rw [← wrapE]; exact s1
  have s2' : wrap64 ((k : Int) - r + (l.length : Int)) = (k : Int) - r + (l.length : Int) := by rw [← wrapE]; exact s2
  have hqi : (q : Int) < (l.length : Int) := by omega
  have dq : decide ((q : Int) < 0) = false := decide_eq_false (by omega)
  clear hf hp hr hk h2 h3 hl
  go_enter Try.func26, Try.ntmps26
  go_wp2
  go_quiet (fail)
  go_wp2
  go_ret
  exact ⟨rfl, below_drewN _ _⟩
theorem entersR1 : Enters 26 := enters_of Try.func26 (by kernel_rfl) rfl

abbrev ibx (n : Int) : Obj := .cells #[.int .i64 n] 3
abbrev rwbx (v : Value) : Obj := .cells #[v] 43

set_option maxHeartbeats 4000000 in
set_option maxRecDepth 100000 in
theorem pround_any : RoundK := by
  intro t c by_ w hm hi hfb
  have L0 := Lib.hid (SSt.start w c)
  have HI := Lib.hid hi
  have HM := Lib.hid hm
  have HFB := Lib.hid hfb
  clear hi hm hfb
  have hrow0 : Row (freshW w c) (.slice none 0 0) (ints []) := ⟨none, 0, rfl, (fun _ => ⟨rfl, rfl⟩), fun x hx => by cases hx⟩
  have HLV := Lib.hid (sleaves_any t c _ [] (freshW w c) (by have := HM.out; omega) (L0.out.is HI.out) hrow0 (by simp))
  rw [lv_none] at HLV
  clear hrow0
  obtain ⟨c0, c1, c2, c3, c4, c5, c6⟩ := c7_of L0.out.box.cat
  go_enter Try.func12, Try.ntmps12
  go_wp2_with fail
  refine HLV.out.mono ?_
  rintro e w2 ⟨a2, k2, cap2, rfl, hk2, hb2⟩
  have L2 := Lib.hid (L0.out.up hb2)
  have A3 : Hid (Below w2.heap.size w2 (w2.alloc (rwbx (.slice a2 k2 cap2)))) := Lib.hid ((Below.refl _ _).alloc (Nat.le_refl _) _)
  have L3 := Lib.hid (L2.out.up A3.out)
  have Q3 := Lib.hid (cell_of_one (Box1.new w2 (.slice a2 k2 cap2) 43))
  have HK2 := Lib.hid hk2
  clear hb2 hk2 HLV c0 c1 c2 c3 c4 c5 c6
  go_upto_region 2 with fail
  change Code.wp _ _ _ _ (w2.alloc (rwbx (.slice a2 k2 cap2)))
  have HR3 : Hid (rdE t = 0 → k2 = (idsT t).length ∧ Row (w2.alloc (rwbx (.slice a2 k2 cap2))) (.slice a2 k2 cap2) (ints (idsT t))) := Lib.hid fun h => ⟨(HK2.out h).1, (HK2.out h).2.up A3.out⟩
  clear A3 L2 HK2
  generalize w2.alloc (rwbx (.slice a2 k2 cap2)) = W3 at L3 Q3 HR3 ⊢
  generalize w2.heap.size = bi at Q3 ⊢
  have hzero : rdE t = 0 ∨ rdE t ≠ 0 := Classical.em _
  rcases hzero with h0 | h0
  · obtain ⟨hk, hr⟩ := HR3.out h0
    subst hk
    have HE := Lib.hid h0
    have HLL : Hid ((idsT t).length ≤ 1000000) := Lib.hid (by rw [ids_len]; have := lv_sz t; have := HM.out; omega)
    have HL : Hid ((idsT t).length = lvT t) := Lib.hid (ids_len t)
    have HPS : Hid (0 < (idsT t).length) := Lib.hid (by rw [ids_len]; exact lv_pos HM.out (rd_yes h0))
    have HPT : Hid (rdT t by_ = nmT (rdL by_ (idsT t)) t) := Lib.hid rfl
    have HFT : Hid (∀ k, k < (idsT t).length → fits ((idsT t).getD (rdAt (idsT t).length by_ k) 0)) := Lib.hid fun k hk => by
      have hq := rdAt_lt (show 0 < (idsT t).length by omega) by_ k
      refine HI.out.ids _ ?_
      rw [List.getD_eq_getElem?_getD, List.getElem?_eq_getElem hq]
      exact List.getElem_mem hq
    rw [h0]
    clear h0 HR3
    obtain ⟨n, hn⟩ : ∃ n, (idsT t).length = n := ⟨_, rfl⟩
    rw [hn] at hr HPS Q3 ⊢
    have HLN := Lib.hid hn
    clear hn
    have A4 : Hid (Below W3.heap.size W3 (W3.alloc (ibx (n : Int)))) := Lib.hid ((Below.refl _ _).alloc (Nat.le_refl _) _)
    have L4 := Lib.hid (L3.out.up A4.out)
    have Q4 := Lib.hid ((A4.out.cell (lt_of_cell Q3.out)).trans Q3.out)
    have N4 := Lib.hid (cell_of_one (Box1.new W3 (.int .i64 (n : Int)) 3))
    have R4 := Lib.hid (hr.up A4.out)
    have q0 := Q3.out
    clear hr
    have s0 : ((n : Int) == 0) = false := by rw [beq_eq_false_iff_ne]; have := HPS.out; omega
    have s0' : (n == 0) = false := by rw [beq_eq_false_iff_ne]; have := HPS.out; omega
    have s2 : ((n : Int) = 0) = False := by have := HPS.out; simp; omega
    have s3 : (n = 0) = False := by have := HPS.out; simp; omega
    go_upto_region 5 with fail
    change Code.wp _ _ _ _ (W3.alloc (ibx (n : Int)))
    clear q0 Q3 A4 L3
    generalize W3.alloc (ibx (n : Int)) = W4 at L4 Q4 N4 R4 ⊢
    generalize W3.heap.size = bn at N4 ⊢
    have n0 := N4.out
    have A5 : Hid (Below W4.heap.size W4 (W4.alloc (ibx (by_.tmod (n : Int))))) := Lib.hid ((Below.refl _ _).alloc (Nat.le_refl _) _)
    have L5 := Lib.hid (L4.out.up A5.out)
    have Q5 := Lib.hid ((A5.out.cell (lt_of_cell Q4.out)).trans Q4.out)
    have N5 := Lib.hid ((A5.out.cell (lt_of_cell N4.out)).trans N4.out)
    have M5 := Lib.hid (cell_of_one (Box1.new W4 (.int .i64 (by_.tmod (n : Int))) 3))
    have R5 := Lib.hid (R4.out.up A5.out)
    go_upto_region 6 with fail
    change Code.wp _ _ _ _ (W4.alloc (ibx (by_.tmod (n : Int))))
    clear n0 Q4 A5 L4 N4 R4
    generalize W4.alloc (ibx (by_.tmod (n : Int))) = W5 at L5 Q5 N5 M5 R5 ⊢
    generalize W4.heap.size = ba at M5 ⊢
    have HCL : Hid (∀ (k : Nat) (W : World), k < (idsT t).length → Below W5.heap.size W5 W → Calls Try.prog 26 (#[.int .i64 (k : Int)] ++ #[.pointer (some ⟨bi, 0, none⟩), .pointer (some ⟨ba, 0, none⟩), .pointer (some ⟨bn, 0, none⟩)]) W fun e w' => e = .returned (.int .i64 ((idsT t).getD (rdAt (idsT t).length by_ k) 0)) ∧ Below W.heap.size W w') := Lib.hid fun k W hk hb =>
      round1_any _ (idsT t) by_ bi ba bn k W HLL.out ((hb.cell (lt_of_cell Q5.out)).trans Q5.out) (by rw [HLN.out]; exact (hb.cell (lt_of_cell M5.out)).trans M5.out) (by rw [HLN.out]; exact (hb.cell (lt_of_cell N5.out)).trans N5.out) (R5.out.up hb) hk
    have HN := Lib.hid (named_any 26 entersR1 _ (fun k => (idsT t).getD (rdAt (idsT t).length by_ k) 0) t c (idsT t).length W5 (by have := HM.out; omega) (L5.out.is HI.out) HL.out HFT.out HCL.out)
    rw [upTo_rd, HLN.out] at HN
    have n5 := N5.out
    obtain ⟨c0, c1, c2, c3, c4, c5, c6⟩ := c7_of L5.out.box.cat
    clear HFT HCL
    go_wp2_with fail
    refine HN.out.mono ?_
    rintro e w6 ⟨d, rfl, hd, hb6⟩
    have F6 := Lib.hid hd
    have L6 := Lib.hid (L5.out.up hb6)
    clear hd hb6 c0 c1 c2 c3 c4 c5 c6 HN n5
    obtain ⟨⟨z0, z1, z2, z3, z4, z5, z6⟩, f0, f1, f2, f3, f4, f5, f6⟩ := zero_parts L6.out.zero
    go_wp2
    (try simp only [Exit.inBlock, Exit.then])
    refine bodyPost_ret (results_c2 rfl _ _ (w.heap.size + 1) d rfl ((Box7.of_zero L6.out.zero).put d)) rfl ?_
    rw [HE.out, HPT.out]
    exact sw_ok rfl ((F6.out.put (b := w.heap.size + 1) (by have := L5.out.size; omega)).low (by omega)) (below_put7 L6.out.below (by omega) d)
  · have HE := Lib.hid h0
    clear h0 HR3
    obtain ⟨n, hn⟩ : ∃ n, n = rdE t := ⟨_, rfl⟩
    rw [← hn] at HE ⊢
    have HNN := Lib.hid hn
    clear hn
    have d1 : (n != 0) = true := by simpa using HE.out
    obtain ⟨⟨z0, z1, z2, z3, z4, z5, z6⟩, f0, f1, f2, f3, f4, f5, f6⟩ := zero_parts L3.out.zero
    go_wp2
    (try simp only [Exit.inBlock, Exit.then])
    refine bodyPost_ret (results_c2 rfl _ _ (w.heap.size + 1) zC rfl ((Box7.of_zero L3.out.zero).put zC)) rfl ?_
    rw [← HNN.out]
    exact sw_err HE.out L3.out.err
end Go.Proofs.Ytakofjbjciljjaa
/- The law SwapRounds. -/
namespace Go.Proofs.Ytakofjbjciljjaa
open Go.RowKit

set_option maxHeartbeats 2000000 in
set_option maxRecDepth 100000 in
theorem swapRounds_any (HR : RoundK) (t : T) (c : C) (b : Int) (w : World) (hi : Is w c t) (hfb : fits b) (hs : sz t ≤ 1099511627776) : Calls Try.prog 4 #[cval c, .int .i64 b] w fun e w' => e = .returned (.bool true) ∧ Below w.heap.size w w' := by
  have S0 := Lib.hid (QSt.new w c)
  have HG := Lib.hid (great_any t c (w.alloc (cbox c)) (hi.up S0.out.below))
  have HI := Lib.hid hi
  have HAW := Lib.hid (awake15_any HR)
  clear hi
  obtain ⟨c0, c1, c2, c3, c4, c5, c6⟩ := S0.out.c7
  go_enter Try.func4, Try.ntmps4
  go_wp2_with fail
  refine HG.out.mono ?_
  rintro e w1 ⟨g, rfl, hg, hb1⟩
  have S1 := Lib.hid (S0.out.up hb1)
  have HGR := Lib.hid hg
  clear hb1 hg c0 c1 c2 c3 c4 c5 c6
  cases g with
  | true =>
    go_wp2_with fail
    refine (HAW.out w1).mono ?_
    rintro e w2 ⟨rfl, hb2⟩
    have S2 := Lib.hid (S1.out.up hb2)
    clear hb2
    go_wp2
    go_ret
    exact ⟨rfl, S2.out.below⟩
  | false =>
    have hsz : sz t ≤ 200 := HGR.out rfl hs
    have K1 : Hid (∀ W, QSt w c W → Calls Try.prog 12 #[cval c, .int .i64 b] W fun e w' => ∃ d, e = .returned (.tuple #[cval d, .int .i64 (rdE t)]) ∧ Is w' d (swT (rdE t) (rdT t b)) ∧ Below W.heap.size W w') := Lib.hid fun W h => (HR t c b W (by omega) (HI.out.up h.below) hfb).mono fun e w' h => sw_all h
    have K2 : Hid (∀ W, QSt w c W → Calls Try.prog 13 #[cval c, .int .i64 b] W fun e w' => ∃ d, e = .returned (.tuple #[cval d, .int .i64 (rdE t)]) ∧ Is w' d (swT (rdE t) (rdT t b)) ∧ Below W.heap.size W w') := Lib.hid fun W h => (rround_any t c b W (by omega) (HI.out.up h.below)).mono fun e w' h => sw_all h
    have K3 : Hid (rdE t = 0 → ∀ c2, c2 = -b → fits c2 → ∀ W d, Is W d (swT (rdE t) (rdT t b)) → Calls Try.prog 12 #[cval d, .int .i64 c2] W fun e w' => ∃ f, e = .returned (.tuple #[cval f, .int .i64 0]) ∧ Is w' f t ∧ Below W.heap.size W w') := Lib.hid (by
      intro h0 c2 hc hf W d hd
      have h1 : swT (rdE t) (rdT t b) = rdT t b := if_pos h0
      rw [h1] at hd
      obtain ⟨h2, h3⟩ := rd_back (by omega) hc h0
      refine (HR _ d c2 W (by rw [rd_sz]; omega) hd hf).mono fun e w' h => ?_
      have := sw_all h
      rw [h2, h3] at this
      exact this)
    have hzero : Hid (rdE t = 0 ∨ rdE t ≠ 0) := Lib.hid (Classical.em _)
    have HFB := Lib.hid hfb
    clear hsz hs HGR hfb HR
    generalize swT (rdE t) (rdT t b) = u at K1 K2 K3
    generalize rdE t = n at K1 K2 K3 hzero
    have K5 := Lib.hid (fun (d f : C) (u : T) W (h : Is W d u) (h' : Is W f u) => rsame_any (sz u) u u d f W (Nat.le_refl _) h h')
    have b1 : (n == n) = true := by simp
    obtain ⟨c0, c1, c2, c3, c4, c5, c6⟩ := S1.out.c7
    go_wp2_with fail
    refine (K1.out w1 S1.out).mono ?_
    rintro e w2 ⟨d, rfl, hd, hb2⟩
    have al2 : Below w2.heap.size w2 (w2.alloc (cbox d)) := (Below.refl _ _).alloc (Nat.le_refl _) _
    have S2 := Lib.hid ((S1.out.up hb2).up al2)
    have D2 := Lib.hid (hd.up al2)
    have X2 := Lib.hid (Box7.new w2 d)
    clear hb2 hd al2 c0 c1 c2 c3 c4 c5 c6
    obtain ⟨c0, c1, c2, c3, c4, c5, c6⟩ := S2.out.c7
    go_wp2_with fail
    refine (K2.out _ S2.out).mono ?_
    rintro e w3 ⟨f, rfl, hf, hb3⟩
    have al3 : Below w3.heap.size w3 (w3.alloc (cbox f)) := (Below.refl _ _).alloc (Nat.le_refl _) _
    have S3 := Lib.hid ((S2.out.up hb3).up al3)
    have D3 := Lib.hid ((D2.out.up hb3).up al3)
    have F3 := Lib.hid (hf.up al3)
    have X3 := Lib.hid ((X2.out.up hb3).up al3)
    have Y3 := Lib.hid (Box7.new w3 f)
    clear hb3 hf al3 c0 c1 c2 c3 c4 c5 c6
    obtain ⟨c0, c1, c2, c3, c4, c5, c6⟩ := c7_of X3.out.cat
    obtain ⟨q0, q1, q2, q3, q4, q5, q6⟩ := c7_of Y3.out.cat
    have K6 := Lib.hid (K5.out d f u _ D3.out F3.out)
    rw [(sameT_iff u u).2 rfl] at K6
    go_wp2_with fail
    refine K6.out.mono ?_
    rintro e w6 ⟨rfl, hb6⟩
    have S6 := Lib.hid (S3.out.up hb6)
    have D6 := Lib.hid (D3.out.up hb6)
    have X6 := Lib.hid (X3.out.up hb6)
    clear hb6 c0 c1 c2 c3 c4 c5 c6 q0 q1 q2 q3 q4 q5 q6 K6
    have hcase : n ≠ 0 ∨ (n = 0 ∧ b < -4611686018427387904) ∨ (n = 0 ∧ ¬ b < -4611686018427387904) := by
      rcases hzero.out with h | h
      · by_cases hb : b < -4611686018427387904
        · exact .inr (.inl ⟨h, hb⟩)
        · exact .inr (.inr ⟨h, hb⟩)
      · exact .inl h
    rcases hcase with h0 | ⟨rfl, hb⟩ | ⟨rfl, hb⟩
    · have d1 : (n != 0) = true := by simpa using h0
      have d2 : (n == 0) = false := by simpa using h0
      go_wp2_with fail
      refine (HAW.out _).mono ?_
      rintro e w9 ⟨rfl, hb9⟩
      have S9 := Lib.hid (S6.out.up hb9)
      clear hb9
      go_wp2
      go_ret
      exact ⟨rfl, S9.out.below⟩
    · have d1 : decide (b < -4611686018427387904) = true := decide_eq_true hb
      go_wp2_with fail
      refine (HAW.out _).mono ?_
      rintro e w9 ⟨rfl, hb9⟩
      have S9 := Lib.hid (S6.out.up hb9)
      clear hb9
      go_wp2
      go_ret
      exact ⟨rfl, S9.out.below⟩
    · have d1 : decide (b < -4611686018427387904) = false := decide_eq_false hb
      have e1 : wrap64 (-b) = -b := by
        have h1 := HFB.out
        unfold fits at h1
        rw [← wrapE]; exact wrap_id (by omega)
      have K4 := Lib.hid (K3.out rfl (-b) rfl (by have h1 := HFB.out; unfold fits at h1 ⊢; omega))
      obtain ⟨c0, c1, c2, c3, c4, c5, c6⟩ := c7_of X6.out.cat
      go_wp2_with fail
      refine (K4.out w6 d D6.out).mono ?_
      rintro e w7 ⟨k, rfl, hk, hb7⟩
      have al7 : Below w7.heap.size w7 (w7.alloc (cbox k)) := (Below.refl _ _).alloc (Nat.le_refl _) _
      have S7 := Lib.hid ((S6.out.up hb7).up al7)
      have D7 := Lib.hid (hk.up al7)
      have X7 := Lib.hid (Box7.new w7 k)
      clear hb7 hk al7 c0 c1 c2 c3 c4 c5 c6
      have I7 := Lib.hid (HI.out.up S7.out.below)
      have K8 := Lib.hid (K5.out k c t _ D7.out I7.out)
      rw [(sameT_iff t t).2 rfl] at K8
      obtain ⟨c0, c1, c2, c3, c4, c5, c6⟩ := c7_of X7.out.cat
      obtain ⟨q0, q1, q2, q3, q4, q5, q6⟩ := S7.out.c7
      go_wp2_with fail
      refine K8.out.mono ?_
      rintro e w8 ⟨rfl, hb8⟩
      have S8 := Lib.hid (S7.out.up hb8)
      clear hb8 K8 c0 c1 c2 c3 c4 c5 c6 q0 q1 q2 q3 q4 q5 q6
      go_wp2_with fail
      refine (HAW.out w8).mono ?_
      rintro e w9 ⟨rfl, hb9⟩
      have S9 := Lib.hid (S8.out.up hb9)
      clear hb9
      go_wp2
      go_ret
      exact ⟨rfl, S9.out.below⟩
theorem swapRounds_wf (HR : RoundK) (v0 : Value) (t : T) (c : C) (b : Int) (w : World) (e0 : v0 = cval c) (hi : Is w c t) (hfb : fits b) (hs : sz t ≤ 1048576) :
    Calls Try.prog 4 #[v0, .int .i64 b] w fun e w' => e = .returned (.bool true) ∧ Below w.heap.size w w' := by
  subst e0
  exact swapRounds_any HR t c b w hi hfb (by omega)
end Go.Proofs.Ytakofjbjciljjaa
/- The law SwapBesides. -/
namespace Go.Proofs.Ytakofjbjciljjaa
open Go.RowKit

/-- What the program's Beside answers. -/
def BesideK : Prop := ∀ (t : T) (c : C) (id b : Int) (w : World), sz t ≤ 20000 → Is w c t → fits id → fits b → Calls Try.prog 14 #[cval c, .int .i64 id, .int .i64 b] w (SwSays (bsE t id b) (twT t id (nextP (panesT t) id b).1) .i64 w)

theorem bs_bad {t : T} {id b : Int} (h : tileB t = false) : bsE t id b = 1 := if_neg (by rw [h]; decide)
theorem bs_no {t : T} {id b : Int} (h : tileB t = true) (h2 : (nextP (panesT t) id b).2 = false) : bsE t id b = 6 := by
  unfold bsE; rw [if_pos h, if_neg (by rw [h2]; decide)]
theorem bs_yes {t : T} {id b : Int} (h : tileB t = true) (h2 : (nextP (panesT t) id b).2 = true) : bsE t id b = 0 := by
  unfold bsE; rw [if_pos h, if_pos h2]

set_option maxHeartbeats 2000000 in
set_option maxRecDepth 100000 in
theorem swapBesides_any (HB : BesideK) (HR : RoundK) (t : T) (c : C) (id b : Int) (w : World) (hi : Is w c t) (hfi : fits id) (hfb : fits b) (hs : sz t ≤ 1099511627776) : Calls Try.prog 5 #[cval c, .int .i64 id, .int .i64 b] w fun e w' => e = .returned (.bool true) ∧ Below w.heap.size w w' := by
  have S0 := Lib.hid (QSt.new w c)
  have HG := Lib.hid (great_any t c (w.alloc (cbox c)) (hi.up S0.out.below))
  have HI := Lib.hid hi
  have HAW := Lib.hid (awake15_any HR)
  clear hi HR
  obtain ⟨c0, c1, c2, c3, c4, c5, c6⟩ := S0.out.c7
  go_enter Try.func5, Try.ntmps5
  go_wp2_with fail
  refine HG.out.mono ?_
  rintro e w1 ⟨g, rfl, hg, hb1⟩
  have S1 := Lib.hid (S0.out.up hb1)
  have HGR := Lib.hid hg
  clear hb1 hg c0 c1 c2 c3 c4 c5 c6
  cases g with
  | true =>
    go_wp2_with fail
    refine (HAW.out w1).mono ?_
    rintro e w2 ⟨rfl, hb2⟩
    have S2 := Lib.hid (S1.out.up hb2)
    clear hb2
    go_wp2
    go_ret
    exact ⟨rfl, S2.out.below⟩
  | false =>
    have hsz : sz t ≤ 200 := HGR.out rfl hs
    have HSZ := Lib.hid hsz
    have K1 : Hid (∀ W, QSt w c W → Calls Try.prog 14 #[cval c, .int .i64 id, .int .i64 b] W fun e w' => ∃ d, e = .returned (.tuple #[cval d, .int .i64 (bsE t id b)]) ∧ Is w' d (swT (bsE t id b) (twT t id (nextP (panesT t) id b).1)) ∧ Below W.heap.size W w') := Lib.hid fun W h => (HB t c id b W (by omega) (HI.out.up h.below) hfi hfb).mono fun e w' h => sw_all h
    have K2 : Hid (∀ W, QSt w c W → Calls Try.prog 15 #[cval c] W fun e w' => e = .returned (.bool (tileB t)) ∧ Below W.heap.size W w') := Lib.hid fun W h => rtiles8_any t c W (HI.out.up h.below) (by omega)
    have K3 : Hid (∀ W, QSt w c W → Calls Try.prog 16 #[cval c, .int .i64 id, .int .i64 b] W fun e w' => e = .returned (.tuple #[.int .i64 (nextP (panesT t) id b).1, .bool (nextP (panesT t) id b).2]) ∧ Below W.heap.size W w') := Lib.hid fun W h => rnext_any t c id b W (by omega) (HI.out.up h.below)
    have K4 : Hid (tileB t = true → (nextP (panesT t) id b).2 = true → ∀ W, QSt w c W → Calls Try.prog 10 #[cval c, .int .i64 id, .int .i64 (nextP (panesT t) id b).1] W fun e w' => ∃ d, e = .returned (.tuple #[cval d, .int .i64 0]) ∧ Is w' d (twT t id (nextP (panesT t) id b).1) ∧ Below W.heap.size W w') := Lib.hid (by
      intro ht h2 W h
      obtain ⟨g1, g2⟩ := next_there h2
      refine (rtwo_any t c id _ W (by omega) (HI.out.up h.below) hfi (HI.out.ids _ g2)).mono fun e w' h => ?_
      have := sw_all h
      rw [tw_yes ht ⟨g1, g2⟩] at this
      exact this)
    have HE1 := Lib.hid (bs_bad (t := t) (id := id) (b := b))
    have HE2 := Lib.hid (bs_no (t := t) (id := id) (b := b))
    have HE3 := Lib.hid (bs_yes (t := t) (id := id) (b := b))
    have K5 := Lib.hid (fun (d f : C) (u : T) W (h : Is W d u) (h' : Is W f u) => rsame_any (sz u) u u d f W (Nat.le_refl _) h h')
    clear hsz hs HGR hfi hfb HB
    generalize twT t id (nextP (panesT t) id b).1 = u0 at K1 K4
    generalize nextP (panesT t) id b = nx at K1 K3 K4 HE2 HE3
    generalize bsE t id b = n at K1 HE1 HE2 HE3
    obtain ⟨o, ok⟩ := nx
    obtain ⟨c0, c1, c2, c3, c4, c5, c6⟩ := S1.out.c7
    go_wp2_with fail
    refine (K1.out w1 S1.out).mono ?_
    rintro e w2 ⟨d, rfl, hd, hb2⟩
    have al2 : Below w2.heap.size w2 (w2.alloc (cbox d)) := (Below.refl _ _).alloc (Nat.le_refl _) _
    have S2 := Lib.hid ((S1.out.up hb2).up al2)
    have D2 := Lib.hid (hd.up al2)
    have X2 := Lib.hid (Box7.new w2 d)
    clear hb2 hd al2 c0 c1 c2 c3 c4 c5 c6
    obtain ⟨c0, c1, c2, c3, c4, c5, c6⟩ := S2.out.c7
    go_wp2_with fail
    refine (K2.out _ S2.out).mono ?_
    rintro e w3 ⟨rfl, hb3⟩
    have S3 := Lib.hid (S2.out.up hb3)
    have D3 := Lib.hid (D2.out.up hb3)
    have X3 := Lib.hid (X2.out.up hb3)
    clear hb3 c0 c1 c2 c3 c4 c5 c6
    cases ht : tileB t with
    | false =>
      obtain rfl := HE1.out ht
      clear ht
      have D4 : Hid (Is w3 d zT) := Lib.hid (by have h := D3.out; unfold swT at h; rw [if_neg (by decide)] at h; exact h)
      have K6 := Lib.hid (K5.out d zC zT w3 D4.out (zero_is w3))
      rw [(sameT_iff zT zT).2 rfl] at K6
      obtain ⟨c0, c1, c2, c3, c4, c5, c6⟩ := c7_of X3.out.cat
      go_wp2_with fail
      refine K6.out.mono ?_
      rintro e w6 ⟨rfl, hb6⟩
      have S6 := Lib.hid (S3.out.up hb6)
      clear hb6 c0 c1 c2 c3 c4 c5 c6 K6
      go_wp2_with fail
      refine (HAW.out w6).mono ?_
      rintro e w9 ⟨rfl, hb9⟩
      have S9 := Lib.hid (S6.out.up hb9)
      clear hb9
      go_wp2
      go_ret
      exact ⟨rfl, S9.out.below⟩
    | true =>
      obtain ⟨c0, c1, c2, c3, c4, c5, c6⟩ := S3.out.c7
      go_wp2_with fail
      refine (K3.out _ S3.out).mono ?_
      rintro e w4 ⟨rfl, hb4⟩
      have S4 := Lib.hid (S3.out.up hb4)
      have D4' := Lib.hid (D3.out.up hb4)
      have X4 := Lib.hid (X3.out.up hb4)
      clear hb4 c0 c1 c2 c3 c4 c5 c6 D3 X3
      cases ok with
      | false =>
        obtain rfl := HE2.out ht rfl
        clear ht
        have D4 : Hid (Is w4 d zT) := Lib.hid (by have h := D4'.out; unfold swT at h; rw [if_neg (by decide)] at h; exact h)
        have K6 := Lib.hid (K5.out d zC zT w4 D4.out (zero_is w4))
        rw [(sameT_iff zT zT).2 rfl] at K6
        obtain ⟨c0, c1, c2, c3, c4, c5, c6⟩ := c7_of X4.out.cat
        go_wp2_with fail
        refine K6.out.mono ?_
        rintro e w6 ⟨rfl, hb6⟩
        have S6 := Lib.hid (S4.out.up hb6)
        clear hb6 c0 c1 c2 c3 c4 c5 c6 K6
        go_wp2_with fail
        refine (HAW.out w6).mono ?_
        rintro e w9 ⟨rfl, hb9⟩
        have S9 := Lib.hid (S6.out.up hb9)
        clear hb9
        go_wp2
        go_ret
        exact ⟨rfl, S9.out.below⟩
      | true =>
        obtain rfl := HE3.out ht rfl
        have K7 := Lib.hid (K4.out ht rfl)
        clear ht
        have D4 : Hid (Is w4 d u0) := Lib.hid (by have h := D4'.out; unfold swT at h; rw [if_pos rfl] at h; exact h)
        obtain ⟨c0, c1, c2, c3, c4, c5, c6⟩ := S4.out.c7
        go_wp2_with fail
        refine (K7.out _ S4.out).mono ?_
        rintro e w5 ⟨f, rfl, hf, hb5⟩
        have al5 : Below w5.heap.size w5 (w5.alloc (cbox f)) := (Below.refl _ _).alloc (Nat.le_refl _) _
        have S5 := Lib.hid ((S4.out.up hb5).up al5)
        have D5 := Lib.hid ((D4.out.up hb5).up al5)
        have F5 := Lib.hid (hf.up al5)
        have X5 := Lib.hid ((X4.out.up hb5).up al5)
        have Y5 := Lib.hid (Box7.new w5 f)
        clear hb5 hf al5 c0 c1 c2 c3 c4 c5 c6
        obtain ⟨c0, c1, c2, c3, c4, c5, c6⟩ := c7_of X5.out.cat
        obtain ⟨q0, q1, q2, q3, q4, q5, q6⟩ := c7_of Y5.out.cat
        have K6 := Lib.hid (K5.out d f u0 _ D5.out F5.out)
        rw [(sameT_iff u0 u0).2 rfl] at K6
        go_wp2_with fail
        refine K6.out.mono ?_
        rintro e w6 ⟨rfl, hb6⟩
        have S6 := Lib.hid (S5.out.up hb6)
        clear hb6 c0 c1 c2 c3 c4 c5 c6 q0 q1 q2 q3 q4 q5 q6 K6
        go_wp2_with fail
        refine (HAW.out w6).mono ?_
        rintro e w9 ⟨rfl, hb9⟩
        have S9 := Lib.hid (S6.out.up hb9)
        clear hb9
        go_wp2
        go_ret
        exact ⟨rfl, S9.out.below⟩
theorem swapBesides_wf (HB : BesideK) (HR : RoundK) (v0 : Value) (t : T) (c : C) (id b : Int) (w : World) (e0 : v0 = cval c) (hi : Is w c t) (hfi : fits id) (hfb : fits b) (hs : sz t ≤ 1048576) :
    Calls Try.prog 5 #[v0, .int .i64 id, .int .i64 b] w fun e w' => e = .returned (.bool true) ∧ Below w.heap.size w w' := by
  subst e0
  exact swapBesides_any HB HR t c id b w hi hfi hfb (by omega)
end Go.Proofs.Ytakofjbjciljjaa
