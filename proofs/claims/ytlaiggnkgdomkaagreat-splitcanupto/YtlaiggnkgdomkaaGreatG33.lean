/- Texts of this seat, 3 in one file. -/
import Derived.Test.YtlaiggnkgdomkaaGreatG32
import Derived.Test.YtlaiggnkgdomkaaGreatG21
import Derived.Test.YtlaiggnkgdomkaaGreatShelf
import Derived.Deep.RegionLaw
/- The tree in which two stand where a leaf stood: the program's replaced, walked. -/
namespace Go.Proofs.YtlaiggnkgdomkaaGreat
open Go.RowKit

theorem around_len {t u g : T} {p pl : List Int} {ax : Int} {k : Nat} (hs : sz t ≤ 20000) (ht : tileB t = true) (h : Around t p ax u g pl k) : g.kids.length ≤ 20000 ∧ pl.length ≤ p.length := by
  rcases h with ⟨q, j, rfl, hg, -, rfl, rfl⟩ | ⟨rfl, rfl, rfl, -⟩
  · have h1 := (tile_at hs ht hg).2
    have h2 := sz_node g
    have h3 := szL_len g.kids
    exact ⟨by omega, by simp⟩
  · exact ⟨by simp [mkG, T.kids], Nat.le_refl _⟩

set_option maxHeartbeats 1000000 in
set_option maxRecDepth 100000 in
theorem replaced_any (t u : T) (c : C) (p : List Int) (va : Option Addr) (vcap base : Nat) (ax : Int) (ps : List C) (ls : List T) (pg : Nat) (w : World) (hs : sz t ≤ 20000) (ht : tileB t = true) (hi : Is w c t) (hp : PRow w base (.slice va p.length vcap) p) (hpl : p.length ≤ 1000000) (hu : atT t p = some u) (hax : ax = 1 ∨ ax = 2)
    (hps : OwnC w 0 (.slice (some ⟨pg, 0, none⟩) 2 2) ps) (htops : ∀ W, Tops W ps ls) : Calls Tryz.prog 22 #[cval c, .slice va p.length vcap, .int .u8 ax, .slice (some ⟨pg, 0, none⟩) 2 2] w (RpSays t p ax u ls w) := by
  have L0 := Lib.hid (ASt.start w c)
  have hpg : pg < w.heap.size := (own_block hps rfl).2
  have HAR := Lib.hid (around_any t u c p va vcap base ax (cellW w c) (L0.out.is hi) (hp.up L0.out.below) hpl hu hax)
  have HI := Lib.hid hi
  have HU := Lib.hid hu
  have HPS := Lib.hid hps
  have HTP := Lib.hid htops
  have HLEN := Lib.hid (fun (g : T) (pl : List Int) (k : Nat) (h : Around t p ax u g pl k) => around_len hs ht h)
  have HPL := Lib.hid hpl
  have HCW : Hid ((cellW w c).heap.size = w.heap.size + 2) := Lib.hid (cellW_size w c)
  clear hi hp hu hps htops hs ht hpl
  obtain ⟨c0, c1, c2, c3, c4, c5, c6⟩ := c7_of L0.out.box.cat
  go_enter Tryz.func22, Tryz.ntmps22
  go_wp2_with fail
  refine HAR.out.mono ?_
  rintro e w2 ⟨d, S, g, pl, k, qa, qcap, rfl, har, hown, hnd, hpr, hb2⟩
  have L2 := Lib.hid (L0.out.up hb2)
  have HB2 := Lib.hid hb2
  have HA2 := Lib.hid har
  have HOWN := Lib.hid hown
  have HND := Lib.hid hnd
  have HPR := Lib.hid hpr
  have hlen := HLEN.out g pl k har
  have hkid := around_kid har HU.out
  have hk : k < g.kids.length := (List.getElem?_eq_some_iff.1 hkid).1
  obtain ⟨cs, Ss, row, len, slen, fine, e1, e2, e3, hS, each⟩ := hown.cases'
  have hdn : d.n = g.kids.length := by rw [← len]; exact row.row.len
  obtain ⟨gb, cap, hv, hbg, hgl⟩ := row.form (by omega)
  obtain ⟨dk, dr, di, da, dn, dc⟩ := d
  obtain rfl : da = some ⟨gb, 0, none⟩ := by simp only at hv; injection hv
  have HDN : Hid (dn = g.kids.length) := Lib.hid hdn
  have HMADE := Lib.hid (fun (g' cap' : Nat) (w4 : World) hrow4 hgr hg' => rp_made (k := k) (ls := ls) (ps := ps) (g' := g') (cap' := cap') (w4 := w4) L2.out (Nat.le_of_eq HCW.out.symm) fine e1 e2 e3 rfl row len slen hS hnd each (by simp only at hdn ⊢; omega) (by simp only at hdn ⊢; omega) HTP.out hrow4 hgr hg')
  have al2 : Below w2.heap.size w2 (w2.alloc (cbox ⟨dk, dr, di, some ⟨gb, 0, none⟩, dn, dc⟩)) := (Below.refl _ _).alloc (Nat.le_refl _) _
  have hnv : (Value.slice (some ⟨gb, 0, none⟩) dn dc) = .slice (some ⟨gb, 0, none⟩) dn dc := rfl
  have HRE := Lib.hid (replace_any cs ps dn k (cellW w c).heap.size gb dc pg (w2.alloc (cbox ⟨dk, dr, di, some ⟨gb, 0, none⟩, dn, dc⟩)) (row.up al2) (HPS.out.up (L2.out.below.trans (al2.mono L2.out.below.size))) (by have := HCW.out; omega) (by simp only at hdn; omega) (by simp only at hdn; omega))
  have X2 := Lib.hid (Box7.new w2 ⟨dk, dr, di, some ⟨gb, 0, none⟩, dn, dc⟩)
  have HGL : Hid (gb < w2.heap.size) := Lib.hid hgl
  have HGB : Hid ((cellW w c).heap.size ≤ gb) := Lib.hid hbg
  have HKK : Hid (k ≤ 20000) := Lib.hid (by omega)
  have hkb : k ≤ 20000 := by omega
  clear har hown hnd hpr hb2 row len slen fine e1 e2 e3 hS each hv hbg hgl hkid hk hdn hnv al2 c0 c1 c2 c3 c4 c5 c6 hlen
  obtain ⟨q0, q1, q2, q3, q4, q5, q6⟩ := c7_of X2.out.cat
  go_wp2_with fail
  refine HRE.out.mono ?_
  rintro e w4 ⟨g', cap', rfl, hrow4, hgr, hg'⟩
  have X4 : Hid (Box7 w4 w2.heap.size ⟨dk, dr, di, some ⟨gb, 0, none⟩, dn, dc⟩) := Lib.hid ((hgr.block _ (lt_of_block X2.out) (fun e => by have := HGL.out; cases e; omega)).trans X2.out)
  have P := Lib.hid (HMADE.out g' cap' w4 hrow4 hgr hg')
  have HB4 : Hid (Below (cellW w c).heap.size (cellW w c) w4) := Lib.hid ((HB2.out.alloc HB2.out.size _).grown hgr (Nat.le_trans HB2.out.size (by simp)) (fun m hm => by cases hm; exact HGB.out))
  clear hrow4 hgr hg' q0 q1 q2 q3 q4 q5 q6 HRE HMADE
  obtain ⟨q0, q1, q2, q3, q4, q5, q6⟩ := c7_of X4.out.cat
  have g6 := X4.out.free 6
  go_upto_region 3 with (fail)
  have HB5 : Hid (Below (cellW w c).heap.size (cellW w c) (w4.setCell ⟨w2.heap.size, 6, none⟩ (.slice (some ⟨g', 0, none⟩) (dn + 1) cap'))) := Lib.hid (HB4.out.setCell (by have := HB2.out.size; exact this) _)
  change Code.wp _ _ _ _ (w4.setCell ⟨w2.heap.size, 6, none⟩ (.slice (some ⟨g', 0, none⟩) (dn + 1) cap'))
  generalize w4.setCell ⟨w2.heap.size, 6, none⟩ (.slice (some ⟨g', 0, none⟩) (dn + 1) cap') = w5 at P HB5 ⊢
  clear q0 q1 q2 q3 q4 q5 q6 g6
  have HGR : Hid (g.r = dr) := Lib.hid P.out.is.split.2.1
  have hfi := P.out.is.fine.2.1
  have HSET := Lib.hid (fun (W : World) (h : Is W ⟨dk, dr, di, some ⟨g', 0, none⟩, dn + 1, cap'⟩ (swapK g k ls)) => set_any (sz (swapK g k ls)) (swapK g k ls) _ dr.x dr.y W (Nat.le_refl _) hfi.1 hfi.2.1 h)
  have HR5 := Lib.hid (HPR.out.up (base := base) (HB5.out))
  have HPUT := Lib.hid (fun (W : World) (y : C) (hb : Below w5.heap.size w5 W) (hy : Is W y (setT dr.x dr.y (swapK g k ls))) => putS_any t (setT dr.x dr.y (swapK g k ls)) c y (.slice qa pl.length qcap) pl W ((P.out.st.is HI.out).up hb) hy (HR5.out.1.up hb) (by have := (HLEN.out g pl k HA2.out).2; have := HPL.out; omega))
  have D0 : Hid (Below w5.heap.size w5 w5.drew) := Lib.hid (Below.refl _ _).drew
  have Dz : Hid (Below w5.heap.size w5 (w5.alloc zeroBox).drew) := Lib.hid ((Below.refl _ _).alloc (Nat.le_refl _) _).drew
  have ZZ : Hid (Zero7 (w5.alloc zeroBox).drew w5.heap.size) := Lib.hid (zero_new w5)
  have X0 := Lib.hid (P.out.up D0.out).c14
  have Xz := Lib.hid (P.out.up Dz.out).c14
  have HN1 : Hid (w.heap.size < w5.heap.size ∧ w2.heap.size < w5.heap.size ∧ w.heap.size + 1 < w5.heap.size) := Lib.hid ⟨lt_of_block P.out.st.box, lt_of_block P.out.box, lt_of_block P.out.st.zero⟩
  clear hfi
  go_wp2_with fail
  go_region_held3 (fun W => (W.cell? ⟨w.heap.size, 0, none⟩ = some (.int .u8 c.k) ∧ W.cell? ⟨w.heap.size, 1, none⟩ = some (.int .i64 c.r.x) ∧ W.cell? ⟨w.heap.size, 2, none⟩ = some (.int .i64 c.r.y) ∧ W.cell? ⟨w.heap.size, 3, none⟩ = some (.int .i64 c.r.w) ∧ W.cell? ⟨w.heap.size, 4, none⟩ = some (.int .i64 c.r.h) ∧ W.cell? ⟨w.heap.size, 5, none⟩ = some (.int .i64 c.id) ∧ W.cell? ⟨w.heap.size, 6, none⟩ = some (.slice c.a c.n c.cap)) ∧ W.cell? ⟨w2.heap.size, 0, none⟩ = some (.int .u8 dk) ∧ W.cell? ⟨w2.heap.size, 1, none⟩ = some (.int .i64 dr.x) ∧ W.cell? ⟨w2.heap.size, 2, none⟩ = some (.int .i64 dr.y) ∧ W.cell? ⟨w2.heap.size, 3, none⟩ = some (.int .i64 dr.w) ∧ W.cell? ⟨w2.heap.size, 4, none⟩ = some (.int .i64 dr.h) ∧ W.cell? ⟨w2.heap.size, 5, none⟩ = some (.int .i64 di) ∧ W.cell? ⟨w2.heap.size, 6, none⟩ = some (.slice (some ⟨g', 0, none⟩) (dn + 1) cap')) (first | with_reducible exact X0.out | with_reducible exact Xz.out | with_reducible exact X6.out | with_reducible exact X7.out | with_reducible exact X8.out | with_reducible exact c14_alloc X0.out _ | with_reducible exact c14_alloc X6.out _ | with_reducible exact c14_alloc X7.out _)
    (first
      | (go_at_call 42; (with_reducible refine (HSET.out w5.drew (P.out.up D0.out).is).mono ?_); rintro e w6 ⟨y, S6, rfl, hown, -, hb⟩; have D6 := Lib.hid (D0.out.trans (hb.mono D0.out.size)); have Y6 := Lib.hid hown.is; have X6 := Lib.hid (P.out.up D6.out).c14; have NZ := Lib.hid D6.out.size; clear hown hb)
      | (go_at_call 42; (with_reducible refine (HSET.out (w5.alloc zeroBox).drew (P.out.up Dz.out).is).mono ?_); rintro e w6 ⟨y, S6, rfl, hown, -, hb⟩; have D6 := Lib.hid (Dz.out.trans (hb.mono Dz.out.size)); have Y6 := Lib.hid hown.is; have X6 := Lib.hid (P.out.up D6.out).c14; have Z6 := Lib.hid (zero_up ZZ.out hb); have YL := Lib.hid (lt_of_block Z6.out); clear hown hb)
      | (go_at_call 41; have Z6' := Z6; (with_reducible refine (HPUT.out w6 y D6.out Y6.out).mono ?_); rintro e w7 ⟨z, rfl, hst, hb⟩; have D7 := Lib.hid (D6.out.trans (hb.mono D6.out.size)); have G7 := Lib.hid hst; have Z7 := Lib.hid (zero_up Z6.out hb); have X7 := Lib.hid (P.out.up D7.out).c14; have X8 := Lib.hid (c14_put7 (x := z) X7.out (Nat.ne_of_lt HN1.out.1) (Nat.ne_of_lt HN1.out.2.1)); obtain ⟨⟨z0, z1, z2, z3, z4, z5, z6⟩, f0, f1, f2, f3, f4, f5, f6⟩ := zero_parts Z7.out; clear hst hb)
      | (go_at_call 41; have NZ' := NZ; (with_reducible refine (HPUT.out w6 y D6.out Y6.out).mono ?_); rintro e w7 ⟨z, rfl, hst, hb⟩; have D7 := Lib.hid (D6.out.trans (hb.mono D6.out.size)); have G7 := Lib.hid hst; have X7 := Lib.hid (P.out.up D7.out).c14; clear hst hb)
      | (go_at_call 41; have NZ' := NZ; have DA := Lib.hid (D6.out.trans (((Below.refl w6.heap.size w6).alloc (Nat.le_refl _) zeroBox).mono D6.out.size)); have YA := Lib.hid (Y6.out.up ((Below.refl w6.heap.size w6).alloc (Nat.le_refl _) zeroBox)); (with_reducible refine (HPUT.out (w6.alloc zeroBox) y DA.out YA.out).mono ?_); rintro e w7 ⟨z, rfl, hst, hb⟩; have D7 := Lib.hid (DA.out.trans (hb.mono DA.out.size)); have G7 := Lib.hid hst; have Z7 := Lib.hid (zero_up (zero_new w6) hb); have X7 := Lib.hid (P.out.up D7.out).c14; have X8 := Lib.hid (c14_put7 (x := z) X7.out (Nat.ne_of_lt (Nat.lt_of_lt_of_le HN1.out.1 D6.out.size)) (Nat.ne_of_lt (Nat.lt_of_lt_of_le HN1.out.2.1 D6.out.size))); obtain ⟨⟨z0, z1, z2, z3, z4, z5, z6⟩, f0, f1, f2, f3, f4, f5, f6⟩ := zero_parts Z7.out; clear hst hb))
  all_goals (rename_i hh; clear hh)
  all_goals first
    | have Q := Lib.hid (rw_put (P.out.st.up D7.out) Z7.out HN1.out.2.2 YL.out G7.out)
    | have Q := Lib.hid (rw_put (P.out.st.up D7.out) Z7.out (Nat.lt_of_lt_of_le HN1.out.2.2 D6.out.size) (by simp) G7.out)
    | (have Q := Lib.hid (rw_new (P.out.st.up D7.out) (Nat.le_trans HN1.out.2.2 D6.out.size) G7.out); change Exit.then _ _ _ _ (w7.alloc (cbox z)); generalize w7.alloc (cbox z) = W8 at Q ⊢)
  all_goals
    try clear z0 z1 z2 z3 z4 z5 z6 f0 f1 f2 f3 f4 f5 f6
    obtain ⟨q0, q1, q2, q3, q4, q5, q6⟩ := c7_of Q.out.box.cat
    obtain ⟨⟨z0, z1, z2, z3, z4, z5, z6⟩, f0, f1, f2, f3, f4, f5, f6⟩ := zero_parts Q.out.st.zero
    have hfar := Q.out.far
    go_wp2
    (try simp only [Exit.inBlock, Exit.then])
    refine bodyPost_ret (results_cell1 rfl _ _ (w.heap.size + 1) z rfl ((Box7.of_zero Q.out.st.zero).put z)) rfl ?_
    refine ⟨z, g, pl, k, rfl, HA2.out, fun W' hW => ?_, below_put7 Q.out.st.below (by omega) z⟩
    rw [HGR.out]
    exact Q.out.is W' fun m h1 h2 => (hW m (by omega) (by rw [size_put7]; exact h2)).trans (heap_put7 (by omega))
end Go.Proofs.YtlaiggnkgdomkaaGreat
/- slices.Repeat of one number. -/
namespace Go.Proofs.YtlaiggnkgdomkaaGreat
open Go.RowKit

theorem repl_splice (q : Int) (n k m : Nat) (hk : k + m ≤ n) : splice (ints (List.replicate k q ++ List.replicate (n - k) 0)) k (ints (List.replicate m q)) = ints (List.replicate (k + m) q ++ List.replicate (n - (k + m)) 0) := by
  unfold splice
  simp only [ints_append, ints_rep]
  rw [List.length_replicate, List.take_append_of_le_length (by simp), List.take_of_length_le (by simp), List.drop_append]
  simp only [List.length_replicate, List.drop_replicate]
  rw [show k - (k + m) = 0 by omega, show n - k - (k + m - k) = n - (k + m) by omega, List.replicate_zero, List.nil_append, ← List.append_assoc, List.replicate_append_replicate]
theorem blk_copy {w : World} {g : Nat} {l : List Int} (h : IBlk w g l) (ty : TypeId) (off dLen dCap : Nat) (b o sLen sCap : Nat) (cs : List Int) (hn : cs.length = Nat.min sLen dLen) (hsrc : ∀ (j : Nat) (m : Int), cs[j]? = some m → w.cell? ⟨b, o + j, none⟩ = some (.int .i64 m)) (hfit : off + cs.length ≤ l.length) (B : Nat) (w0 : World) (hb : Below B w0 w) (hBg : B ≤ g) :
    ∃ W, (Builtin.copy_ #[47, 47] ty #[.slice (some ⟨g, off, none⟩) dLen dCap, .slice (some ⟨b, o, none⟩) sLen sCap]).run Tryz.prog w = .ok (.int .i64 cs.length) W ∧ W.heap[g]? = some (.cells (splice (ints l) off (ints cs)).toArray 3 (0, 0)) ∧ Below B w0 W := by
  have hsz : ((Tryz.prog.info? 3).map (·.size)) = some 1 := by kernel_rfl
  have hr := run_copy_row (P := Tryz.prog) w 47 47 ty 3 g off dLen dCap ⟨b, o, none⟩ sLen sCap (ints l).toArray 3 (ints cs) Tryz.underlying47 hsz h (by rw [ints_length]; exact hn) (fun j u hu => ?_) (by simp [ints_length]; exact hfit) (ints_one cs)
  · rw [ints_length] at hr
    refine ⟨_, hr, ?_, below_setRow hb hBg _⟩
    rw [setRow_heap w g _ _ 3 _ h]
    simp [splice, ints_length]
  · unfold ints at hu
    rw [List.getElem?_map, Option.map_eq_some_iff] at hu
    obtain ⟨m, hm, rfl⟩ := hu
    rw [Go.WideShapes.add_plain]
    exact hsrc j m hm

set_option maxRecDepth 100000 in
theorem repeat_any (q : Int) (n : Nat) (v : Value) (w : World) (hv : Row w v (ints [q])) (hn : 1 ≤ n) (hn2 : n ≤ 1000000) :
    Calls Tryz.prog 96 #[v, .int .i64 n] w fun e w' => ∃ g, e = .returned (.slice (some ⟨g, 0, none⟩) n n) ∧ w.heap.size ≤ g ∧ IBlk w' g (List.replicate n q) ∧ Below w.heap.size w w' := by
  obtain ⟨a, cap, rfl⟩ := row_shape hv
  have HV := Lib.hid hv
  clear hv
  have HM : Hid (Calls Tryz.prog 101 #[.int .u64 1, .int .u64 n] w fun e w' => e = .returned (.tuple #[.int .u64 0, .int .u64 n]) ∧ w' = w) := Lib.hid (by
    have := Tryz.bits_Mul 1 n (by omega) (by omega) w
    rw [Nat.one_mul, Nat.div_eq_of_lt (by omega), Nat.mod_eq_of_lt (by omega)] at this
    exact this)
  have hmk := made_ints n (by omega)
  obtain ⟨b, o, rfl, hf⟩ := int_at HV.out (by simp)
  have HQ := Lib.hid (hf 0 q rfl)
  clear hf
  simp only [List.length_singleton]
  go_enter Tryz.func96, Tryz.ntmps96
  go_wp2_with fail
  refine HM.out.mono ?_
  rintro e w2 ⟨rfl, hw2⟩
  rw [hw2]
  clear hw2 w2
  have N0 := Lib.hid (show IBlk (w.alloc (.cells (ints (List.replicate n 0)).toArray 3)) w.heap.size (List.replicate n 0) from heap_alloc_new w _)
  have B0 : Hid (Below w.heap.size w (w.alloc (.cells (ints (List.replicate n 0)).toArray 3))) := Lib.hid ((Below.refl _ _).alloc (Nat.le_refl _) _)
  obtain ⟨W1, hcp, hW1, hBW1⟩ := blk_copy N0.out 3 0 n n b o 1 cap [q] (by show 1 = min 1 n; omega) (fun j m hm => by
    cases j with
    | zero => simp at hm; subst hm; exact (B0.out.cell (lt_of_cell HQ.out)).trans HQ.out
    | succ j => simp at hm) (by simp; omega) w.heap.size w B0.out (Nat.le_refl _)
  have HN1 : Hid (IBlk W1 w.heap.size (List.replicate 1 q ++ List.replicate (n - 1) 0)) := Lib.hid (by
    have := repl_splice q n 0 1 (by omega)
    simp only [List.replicate_zero, List.nil_append, Nat.sub_zero, Nat.zero_add, show List.replicate 1 q = [q] from rfl] at this
    rw [this] at hW1
    exact hW1)
  have HB1 := Lib.hid hBW1
  clear hW1 hBW1
  have hcp' : (Builtin.copy_ #[47, 47] 3 #[.slice (some ⟨w.heap.size, 0, none⟩) n n, .slice (some ⟨b, o, none⟩) 1 cap]).run Tryz.prog (w.alloc (.cells (ints (List.replicate n 0)).toArray 3)) = .ok (.int .i64 1) W1 := hcp
  clear hcp
  go_wp2
  clear hcp' hmk
  go_loopg [8] n (fun g i wr => ∃ k : Nat, n - k ≤ g ∧ 1 ≤ k ∧ k ≤ n ∧ i = .int .i64 k ∧ IBlk wr w.heap.size (List.replicate k q ++ List.replicate (n - k) 0) ∧ Below w.heap.size w wr)
  case atStart => exact ⟨1, by omega, by omega, by omega, rfl, HN1.out, HB1.out⟩
  case round =>
    obtain ⟨k, hg, hk1, hk, rfl, hblk, hb⟩ := hrel
    have HG := Lib.hid hg
    have HK := Lib.hid hblk
    have HB := Lib.hid hb
    clear hg hblk hb
    by_cases hlt : k < n
    · have hlti : (k : Int) < (n : Int) := by omega
      have hne : (n = k) = False := by simp; omega
      obtain ⟨m, hm⟩ : ∃ m, m = min k (n - k) := ⟨_, rfl⟩
      have KD := Lib.hid (show IBlk wr.drew w.heap.size (List.replicate k q ++ List.replicate (n - k) 0) from HK.out)
      obtain ⟨W2, hcp, hW2, hBW2⟩ := blk_copy KD.out 3 k (n - k) (n - k) w.heap.size 0 k n (List.replicate m q) (by rw [List.length_replicate]; exact hm) (fun j x hx => by
        rw [Nat.zero_add]
        refine KD.out.cell ?_
        have hj : j < m := by
          rcases Nat.lt_or_ge j m with h | h
          · exact h
          · rw [List.getElem?_eq_none (by simpa using h)] at hx; cases hx
        rw [List.getElem?_append_left (by simp; omega)]
        rw [List.getElem?_replicate, if_pos hj] at hx
        rw [List.getElem?_replicate, if_pos (by omega)]; exact hx) (by simp; omega) w.heap.size w HB.out.drew (Nat.le_refl _)
      rw [repl_splice q n k m (by omega)] at hW2
      rw [List.length_replicate] at hcp
      have HN2 : Hid (IBlk W2 w.heap.size (List.replicate (k + m) q ++ List.replicate (n - (k + m)) 0)) := Lib.hid hW2
      have HB2 := Lib.hid hBW2
      clear hW2 hBW2
      go_wp2
      go_region
      go_wp2
      go_roundg (gk - 1)
      case measure => have := HG.out; omega
      case rel => exact ⟨k + m, by have := HG.out; omega, by omega, by omega, by rw [hm]; go_num, HN2.out, HB2.out⟩
    · obtain rfl : k = n := by omega
      have hkl : ((k : Int) < (k : Int)) = False := by simp
      go_wp2
      go_ret
      refine ⟨w.heap.size, rfl, Nat.le_refl _, ?_, HB.out⟩
      have := HK.out
      rw [Nat.sub_self, List.replicate_zero, List.append_nil] at this
      exact this
end Go.Proofs.YtlaiggnkgdomkaaGreat
/- slices.Repeat, not once. -/
namespace Go.Proofs.YtlaiggnkgdomkaaGreat
open Go.RowKit

set_option maxRecDepth 100000 in
theorem repeat_zero (q : Int) (v : Value) (w : World) (hv : Row w v (ints [q])) :
    Calls Tryz.prog 96 #[v, .int .i64 0] w fun e w' => e = .returned (.slice (some ⟨w.heap.size, 0, none⟩) 0 0) ∧ Below w.heap.size w w' := by
  obtain ⟨a, cap, rfl⟩ := row_shape hv
  have HV := Lib.hid hv
  clear hv
  have HM : Hid (Calls Tryz.prog 101 #[.int .u64 1, .int .u64 0] w fun e w' => e = .returned (.tuple #[.int .u64 0, .int .u64 0]) ∧ w' = w) := Lib.hid (by
    have := Tryz.bits_Mul 1 0 (by omega) (by omega) w
    simpa using this)
  have hmk := made_ints 0 (by omega)
  obtain ⟨b, o, rfl, hf⟩ := int_at HV.out (by simp)
  clear hf
  simp only [List.length_singleton]
  go_enter Tryz.func96, Tryz.ntmps96
  go_wp2_with fail
  refine HM.out.mono ?_
  rintro e w2 ⟨rfl, hw2⟩
  rw [hw2]
  clear hw2 w2
  have N0 := Lib.hid (show IBlk (w.alloc (.cells (ints (List.replicate 0 0)).toArray 3)) w.heap.size (List.replicate 0 0) from heap_alloc_new w _)
  have B0 : Hid (Below w.heap.size w (w.alloc (.cells (ints (List.replicate 0 0)).toArray 3))) := Lib.hid ((Below.refl _ _).alloc (Nat.le_refl _) _)
  obtain ⟨W1, hcp, hW1, hBW1⟩ := blk_copy N0.out 3 0 0 0 b o 1 cap [] (by show 0 = min 1 0; omega) (fun j m hm => by simp at hm) (by simp) w.heap.size w B0.out (Nat.le_refl _)
  have HB1 := Lib.hid hBW1
  clear hW1 hBW1
  have hmk' : (Instr.makeSlice 47 (.int .i64 0) (.int .i64 0)).run Tryz.prog w = .ok (.slice (some ⟨w.heap.size, 0, none⟩) 0 0) (w.alloc (.cells #[] 3)) := hmk w
  have hcp' : (Builtin.copy_ #[47, 47] 3 #[.slice (some ⟨w.heap.size, 0, none⟩) 0 0, .slice (some ⟨b, o, none⟩) 1 cap]).run Tryz.prog (w.alloc (.cells #[] 3)) = .ok (.int .i64 0) W1 := hcp
  clear hcp hmk
  go_wp2
  clear hcp' hmk'
  go_loopg [8] 1 (fun g i wr => i = .int .i64 0 ∧ wr = W1)
  case atStart => exact ⟨rfl, rfl⟩
  case round =>
    obtain ⟨rfl, hw⟩ := hrel
    rw [hw]
    clear hw wr
    go_wp2
    go_ret
    exact ⟨rfl, HB1.out⟩
end Go.Proofs.YtlaiggnkgdomkaaGreat
