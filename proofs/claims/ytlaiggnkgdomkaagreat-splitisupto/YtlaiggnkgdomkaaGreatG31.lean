/- Texts of this seat, 3 in one file. -/
import Derived.Test.YtlaiggnkgdomkaaGreatG30
import Derived.Test.YtlaiggnkgdomkaaGreatG18
/- One cell gives way to two, where there is no room: slices.Replace. -/
namespace Go.Proofs.YtlaiggnkgdomkaaGreat
open Go.RowKit

set_option maxHeartbeats 2000000 in
set_option maxRecDepth 100000 in
theorem repl_grow (xs ps : List C) (n k base g cap pg : Nat) (w : World) (hown : OwnC w base (.slice (some ⟨g, 0, none⟩) n cap) xs) (hp : OwnC w 0 (.slice (some ⟨pg, 0, none⟩) 2 2) ps) (hkn : k + 1 < n) (hroom : cap < n + 1) (hn : n ≤ 100000) :
    Calls Tryz.prog 40 #[.slice (some ⟨g, 0, none⟩) n cap, .int .i64 (k : Int), .int .i64 ((k : Int) + 1), .slice (some ⟨pg, 0, none⟩) 2 2] w fun e w' => ∃ cap', e = .returned (.slice (some ⟨w.heap.size, 0, none⟩) (n + 1) cap') ∧ OwnC w' base (.slice (some ⟨w.heap.size, 0, none⟩) (n + 1) cap') (xs.take k ++ ps ++ xs.drop (k + 1)) ∧ Below w.heap.size w w' := by
  obtain ⟨cur, b1, b2, b3, b4, b5, b6, b7⟩ := own_blk hown
  obtain ⟨curp, p1, p2, p3, p4, p5, p6, p7⟩ := own_blk hp
  subst b7
  have hgs : g < w.heap.size := lt_of_block b1
  have hpgs : pg < w.heap.size := lt_of_block p1
  have hcap : cap ≤ 9223372036854775807 := by unfold maxLen at b5; omega
  have hdl : (flatC (xs.drop (k + 1))).length = (xs.length - (k + 1)) * 7 := by rw [flatC_length, List.length_drop]
  have hpl : (flatC ps).length = 14 := by rw [flatC_length]; omega
  have htl : (xs.take k).length = k := by rw [List.length_take]; omega
  have hmk : ∀ ty, ∃ cap' cur' w', (Builtin.append_ #[24, 3] ty #[.slice (some ⟨g, 0, none⟩) k cap, .int .i64 ((k : Int) + 2 + ((xs.length - (k + 1) : Nat) : Int) - (k : Int))]).run Tryz.prog w.drew = .ok (.slice (some ⟨w.heap.size, 0, none⟩) (xs.length + 1) cap') w' ∧
      CBlk w' w.heap.size cur' ∧ cur'.length = cap' * 7 ∧ xs.length + 1 ≤ cap' ∧ cap' ≤ maxLen ∧ cur'.take (k * 7) = flatC (xs.take k) ∧ w.grownBy w' none := fun ty => by
    obtain ⟨cap', cur', w', h1, h2, h3, h4, h5, h6, h7⟩ := run_makeC w.drew ty g k cap (xs.length + 1 - k) (xs.take k) ((own_take (w := w.drew) (base := base) hown k (by omega)).lower (Nat.zero_le _)) (by omega) (by omega) (by omega)
    rw [show k + (xs.length + 1 - k) = xs.length + 1 by omega] at h1 h4
    rw [show ((xs.length + 1 - k : Nat) : Int) = (k : Int) + 2 + ((xs.length - (k + 1) : Nat) : Int) - (k : Int) by omega] at h1
    exact ⟨cap', cur', w', h1, h2, h3, h4, h5, h6, ⟨h7.os, h7.tape, h7.output, h7.size, h7.block⟩⟩
  obtain ⟨cap', cur', W0, hmk, q1, q2, q3, q4, q5, q6⟩ := hmk 24
  obtain ⟨R, e2, e3⟩ := splices_down cur' (flatC (xs.take k)) (flatC ps) (flatC (xs.drop (k + 1))) (k * 7) 14 q5 hpl (by rw [hdl]; omega)
  rw [show k * 7 + 14 = (k + 2) * 7 by omega] at e2
  have hcap' : cap' ≤ 9223372036854775807 := by unfold maxLen at q4; omega
  obtain ⟨cur1, hcur1⟩ : ∃ c, c = splice cur' (k * 7) (flatC ps) := ⟨_, rfl⟩
  rw [← hcur1] at e2 e3
  have hfin : Hid (∀ W, CBlk W w.heap.size (splice cur1 ((k + 2) * 7) (flatC (xs.drop (k + 1)))) → OwnC W base (.slice (some ⟨w.heap.size, 0, none⟩) (xs.length + 1) cap') (xs.take k ++ ps ++ xs.drop (k + 1))) := Lib.hid fun W hW => by
    have hl : (xs.take k ++ ps ++ xs.drop (k + 1)).length = xs.length + 1 := by
      rw [List.length_append, List.length_append, List.length_take, List.length_drop]; omega
    have hf : flatC (xs.take k ++ ps ++ xs.drop (k + 1)) = flatC (xs.take k) ++ flatC ps ++ flatC (xs.drop (k + 1)) := by rw [flatC_append, flatC_append]
    have := blk_own (xs := xs.take k ++ ps ++ xs.drop (k + 1)) (base := base) (cap := cap') hW (by
      have h0 : (splice cur1 ((k + 2) * 7) (flatC (xs.drop (k + 1)))).length = cur1.length := length_splice _ _ _ (by rw [e3, hdl]; omega)
      rw [h0, e3, q2]) (by
      rw [e2, hf, hl]
      have h9 : (xs.length + 1) * 7 = (flatC (xs.take k) ++ flatC ps ++ flatC (xs.drop (k + 1))).length := by rw [← hf, flatC_length, hl]
      rw [h9, List.take_left]) (by omega) q4 (by omega)
    rw [hl] at this
    exact this
  have r1 : CBlk W0 pg curp := (q6.block pg hpgs (by simp)).trans p1
  have r2 : CBlk W0 g cur := (q6.block g hgs (by simp)).trans b1
  have hcp1 : ∀ ty dc, (Builtin.copy_ #[24, 24] ty #[.slice (some ⟨w.heap.size, k * 7, none⟩) (xs.length + 1 - k) dc, .slice (some ⟨pg, 0, none⟩) 2 2]).run Tryz.prog W0 = .ok (goInt (Nat.min 2 (xs.length + 1 - k))) (W0.setRow w.heap.size cur1.toArray) := fun ty dc => by
    rw [hcur1]
    exact run_copyC W0 ty w.heap.size (k * 7) _ dc _ 2 2 cur' (flatC ps) q1 (by rw [hpl, show Nat.min 2 (xs.length + 1 - k) = 2 from Nat.min_eq_left (by omega)]) (fun j v hj => by
      rw [← p3, List.getElem?_take] at hj
      split at hj
      · rw [Go.WideShapes.add_plain, r1.cell, Nat.zero_add]; exact hj
      · cases hj) (by rw [hpl]; omega) (flatC_oneCell _)
  obtain ⟨W1, hW1⟩ : ∃ W1, W1 = W0.setRow w.heap.size cur1.toArray := ⟨_, rfl⟩
  rw [← hW1] at hcp1
  have s1 : CBlk W1 w.heap.size cur1 := by rw [hW1]; exact set_blk q1 cur1
  have s2 : CBlk W1 g cur := by rw [hW1]; exact (setRow_other _ _ _ _ (by omega)).trans r2
  have hcp2 : ∀ ty dc sc, (Builtin.copy_ #[24, 24] ty #[.slice (some ⟨w.heap.size, (k + 2) * 7, none⟩) (xs.length - (k + 1)) dc, .slice (some ⟨g, (k + 1) * 7, none⟩) (xs.length - (k + 1)) sc]).run Tryz.prog W1.drew = .ok (goInt (Nat.min (xs.length - (k + 1)) (xs.length - (k + 1)))) (W1.drew.setRow w.heap.size (splice cur1 ((k + 2) * 7) (flatC (xs.drop (k + 1)))).toArray) := fun ty dc sc =>
    run_copyC W1.drew ty w.heap.size ((k + 2) * 7) _ dc _ _ sc cur1 (flatC (xs.drop (k + 1))) s1 (by rw [hdl, show Nat.min (xs.length - (k + 1)) (xs.length - (k + 1)) = xs.length - (k + 1) from Nat.min_self _]) (drop_cells (w := W1.drew) s2 b3 (k + 1)) (by rw [hdl, e3]; omega) (flatC_oneCell _)
  have HEND : Hid (Below w.heap.size w (W1.drew.setRow w.heap.size (splice cur1 ((k + 2) * 7) (flatC (xs.drop (k + 1)))).toArray)) := Lib.hid (by
    have g1 : Below w.heap.size w W0 := ⟨q6.os, q6.tape, q6.output, q6.size, fun j hj => q6.block j hj (by simp)⟩
    have g2 : Below w.heap.size w W1 := by rw [hW1]; exact below_setRow g1 (Nat.le_refl _) _
    exact below_setRow g2.drew (Nat.le_refl _) _)
  have HS1 := Lib.hid s1
  have HCP1 := Lib.hid hcp1
  have HCP2 := Lib.hid hcp2
  clear hcp2 hW1 hcp1 e2 e3 hcur1 b1 b2 b3 b5 b6 p1 p2 p3 p4 p5 p6 p7 hdl hpl htl q1 q2 q4 q5 q6 r1 r2 s1 s2 hown hp
  have n0 : ¬ (cap = k) := by omega
  have n1 : ¬ (cap = k + 1) := by omega
  have n5 : ¬ (cap' = k + 2) := by omega
  have n7 : ¬ (cap' = k) := by omega
  have n2 : ((k : Int) == (k : Int) + 1) = false := by rw [beq_eq_false_iff_ne]; omega
  have n3 : ((k : Int) + 1 == (xs.length : Int)) = false := by rw [beq_eq_false_iff_ne]; omega
  have n6 : decide ((cap : Int) < (k : Int) + 2 + ((xs.length - (k + 1) : Nat) : Int)) = true := decide_eq_true (by omega)
  have hw1 : IntKind.i64.wrap ((k : Int) + 2) = (k : Int) + 2 := wrap_id (by omega)
  have hb1 : (0 : Int) ≤ (k : Int) + 2 := by omega
  have hb6 : (0 : Int) ≤ (k : Int) + 1 := by omega
  have htn : ((k : Int) + 2).toNat = k + 2 := by omega
  have hb3 : (k : Int) + 2 ≤ (xs.length : Int) + 1 := by omega
  have hb4 : (k : Int) ≤ (xs.length : Int) + 1 := by omega
  have hb5 : (k : Int) + 1 ≤ (xs.length : Int) := by omega
  have hw2 : IntKind.i64.wrap ((k : Int) + 1) = (k : Int) + 1 := wrap_id (by omega)
  have htn2 : ((k : Int) + 1).toNat = k + 1 := by omega
  go_enter Tryz.func40, Tryz.ntmps40
  go_wp2
  go_region
  have hcp1 := HCP1.out
  have hcp2 := HCP2.out
  go_wp2_with (at_builtin; refine Lib.wpList_append_run _ rfl _ _ _ _ rfl _ _ rfl rfl _ _ hmk ?_)
  go_region
  go_wp2
  go_ret
  exact ⟨_, rfl, hfin.out _ (set_blk (w := W1.drew) HS1.out _), HEND.out⟩
end Go.Proofs.YtlaiggnkgdomkaaGreat
/- One cell gives way to two: slices.Replace. -/
namespace Go.Proofs.YtlaiggnkgdomkaaGreat
open Go.RowKit

theorem replace_any (xs ps : List C) (n k base g cap pg : Nat) (w : World) (hown : OwnC w base (.slice (some ⟨g, 0, none⟩) n cap) xs) (hp : OwnC w 0 (.slice (some ⟨pg, 0, none⟩) 2 2) ps) (hne : g ≠ pg) (hk : k < n) (hn : n ≤ 100000) :
    Calls Tryz.prog 40 #[.slice (some ⟨g, 0, none⟩) n cap, .int .i64 (k : Int), .int .i64 ((k : Int) + 1), .slice (some ⟨pg, 0, none⟩) 2 2] w fun e w' => ∃ g' cap', e = .returned (.slice (some ⟨g', 0, none⟩) (n + 1) cap') ∧ OwnC w' base (.slice (some ⟨g', 0, none⟩) (n + 1) cap') (xs.take k ++ ps ++ xs.drop (k + 1)) ∧ w.grownBy w' (some g) ∧ (g' = g ∨ g' = w.heap.size) := by
  rcases Nat.lt_or_ge (k + 1) n with h | h
  · rcases Nat.lt_or_ge cap (n + 1) with hc | hc
    · refine (repl_grow xs ps n k base g cap pg w hown hp h hc hn).mono ?_
      rintro e w' ⟨cap', he, ho, hb⟩
      exact ⟨_, _, he, ho, Below.gb hb _, .inr rfl⟩
    · refine (repl_room xs ps n k base g cap pg w hown hp hne h hc hn).mono ?_
      rintro e w' ⟨he, ho, hg⟩
      exact ⟨_, _, he, ho, hg, .inl rfl⟩
  · obtain rfl : n = k + 1 := by omega
    have hl := hown.row.len
    have hd : xs.drop (k + 1) = [] := List.drop_eq_nil_of_le (by omega)
    refine (repl_end xs ps k base g cap _ _ w hown hp.row hp.row.len.symm (by omega)).mono ?_
    rintro e w' ⟨g', cap', he, ho, hg, hw⟩
    exact ⟨g', cap', he, by rw [hd, List.append_nil]; exact ho, hg, hw⟩
end Go.Proofs.YtlaiggnkgdomkaaGreat
/- A place in a tree of one's own, and what the tree is if another one stands there. -/
namespace Go.Proofs.YtlaiggnkgdomkaaGreat
open Go.RowKit

def HasRow (w : World) (base : Nat) (y : C) : Prop := ∃ cs, OwnC w base (.slice y.a y.n y.cap) cs

structure PlaceAt (W : World) (base B : Nat) (t : T) (q : List Int) (b o : Nat) (u : T) (x : C) (S : List Nat) (cur : Array Value) : Prop where
  cat : CAt W b o x
  own : OwnT W base x u S
  nodup : S.Nodup
  out : b ∉ S
  ge : base ≤ b
  blk : W.heap[b]? = some (.cells cur 26 (0, 0))
  path : atT t q = some u
  ctx : ∀ (w' : World) (y : C) (u' : T), (∀ k, base ≤ k → k < W.heap.size → k ∉ S → k ≠ b → w'.heap[k]? = W.heap[k]?) → w'.heap[b]? = some (.cells (setO cur o y) 26 (0, 0)) → Is w' y u' → HasRow w' base y →
    ∃ z t', putT u' t q = some t' ∧ CAt w' B 0 z ∧ Is w' z t' ∧ HasRow w' base z
def Place (W : World) (base B : Nat) (t : T) (q : List Int) (b o : Nat) (u : T) : Prop := ∃ x S cur, PlaceAt W base B t q b o u x S cur

theorem place_top {W : World} {base B : Nat} {t : T} {x : C} {S : List Nat} (hx : Box7 W B x) (ho : OwnT W base x t S) (hn : S.Nodup) (hout : B ∉ S) (hge : base ≤ B) : Place W base B t [] B 0 t := by
  have hb : W.heap[B]? = some (cbox x) := hx
  refine ⟨x, S, _, hx.cat, ho, hn, hout, hge, hb, rfl, fun w' y u' _ hbl hi hr => ?_⟩
  exact ⟨y, u', rfl, cat_of_block hbl (by simp), hi, hr⟩

theorem OwnT.cases' {w : World} {base : Nat} {c : C} {t : T} {S : List Nat} (h : OwnT w base c t S) : ∃ (cs : List C) (Ss : List (List Nat)), OwnC w base (.slice c.a c.n c.cap) cs ∧ cs.length = t.kids.length ∧ Ss.length = t.kids.length ∧ c.fine ∧ t.k = c.k ∧ t.r = c.r ∧ t.id = c.id ∧ S = blk (.slice c.a c.n c.cap) ++ Ss.flatten ∧
    ∀ (j : Nat) (x : C) (u : T) (S' : List Nat), cs[j]? = some x → t.kids[j]? = some u → Ss[j]? = some S' → OwnT w base x u S' := by
  cases h with
  | mk c kids cs Ss fine row len slen each => exact ⟨cs, Ss, row, len, slen, fine, rfl, rfl, rfl, rfl, each⟩

/-- One step further. -/
theorem place_step {W : World} {base B : Nat} {t u u2 : T} {q : List Int} {b o : Nat} {j : Nat} (h : Place W base B t q b o u) (hk : u.kids[j]? = some u2) :
    ∃ (x : C) (g : Nat), CAt W b o x ∧ x.a = some ⟨g, 0, none⟩ ∧ x.n = u.kids.length ∧ Place W base B t (q ++ [(j : Int)]) g (j * 7) u2 := by
  obtain ⟨x, S, cur, h⟩ := h
  obtain ⟨cs, Ss, row, len, slen, fine, e1, e2, e3, rfl, each⟩ := h.own.cases'
  have hjl := (List.getElem?_eq_some_iff.1 hk).1
  have hxn : x.n = u.kids.length := h.own.is.n
  obtain ⟨g, cap, hv, hbg, hgl⟩ := row.form (by omega)
  have hxa : x.a = some ⟨g, 0, none⟩ := by injection hv
  have hjc : j < cs.length := by omega
  have hxc := List.getElem?_eq_getElem hjc
  have hSj := List.getElem?_eq_getElem (show j < Ss.length by omega)
  have hown2 := each j _ u2 _ hxc hk hSj
  have hkid : kidAt u (j : Int) = some u2 := by unfold kidAt; rw [if_pos (by omega)]; simpa using hk
  have hblk : blk (.slice x.a x.n x.cap) = [g] := by rw [hxa]; rfl
  have hgS : g ∈ blk (.slice x.a x.n x.cap) ++ Ss.flatten := List.mem_append_left _ (by rw [hblk]; simp)
  have hbne : b ≠ g := fun e => h.out (e ▸ hgS)
  have hnd := List.nodup_append.1 h.nodup
  have hgn : g ∉ Ss.flatten := fun hm => hnd.2.2 g (by rw [hblk]; simp) g hm rfl
  have hrow2 : OwnC W base (.slice (some ⟨g, 0, none⟩) x.n x.cap) cs := by rw [← hxa]; exact row
  obtain ⟨curg, hcurg⟩ : ∃ curg, W.heap[g]? = some (.cells curg 26 (0, 0)) := by
    rcases hrow2.2 with ⟨h0, -⟩ | ⟨g', cap', cur', he, _, hgg, _⟩
    · cases h0
    · have e : g = g' := by injection he with e1 e2 e3; injection e1 with e1; injection e1
      subst e; exact ⟨cur', hgg⟩
  have hcat : CAt W g (j * 7) cs[j] := cat_of_flat (hrow2.cells (g := g) rfl) j _ hxc
  refine ⟨x, g, h.cat, hxa, hxn, cs[j], Ss[j], curg, hcat, hown2, flat_one_nodup hnd.2.1 hSj, fun hm => hgn (mem_flat.2 ⟨j, _, hSj, hm⟩), hbg, hcurg, ?_, fun w' y u' hsame hbl hi hr => ?_⟩
  · rw [atT_append, h.path]
    simp only [atT, hkid]
  · have hrw : OwnC w' base (.slice x.a x.n x.cap) (cs.set j y) := by
      rw [hxa]
      exact own_put hrow2 hjc (by rw [hbl, putO_block hcurg y])
    have hbB : w'.heap[b]? = some (.cells (setO cur o x) 26 (0, 0)) := by
      rw [hsame b h.ge (lt_of_block h.blk) (fun hm => h.out (List.mem_append_right _ (mem_flat.2 ⟨j, _, hSj, hm⟩))) hbne, h.blk, setO_same h.blk h.cat]
    have hix : Is w' x (setKid u j u') := by
      unfold setKid
      rw [e1, e2, e3]
      refine .mk x (u.kids.set j u') (cs.set j y) hrw.row (by rw [List.length_set, List.length_set]; exact len) fine fun i a c' ha hc' => ?_
      by_cases hij : j = i
      · subst hij
        rw [List.getElem?_set_self hjc] at ha
        rw [List.getElem?_set_self hjl] at hc'
        cases ha; cases hc'
        exact hi
      · rw [List.getElem?_set_ne hij] at ha hc'
        have hil : i < Ss.length := by rw [slen]; exact (List.getElem?_eq_some_iff.1 hc').1
        have hSi := List.getElem?_eq_getElem hil
        have hoi := each i a c' _ ha hc' hSi
        refine (hoi.frame fun m hm => hsame m (hoi.ge m hm).1 (hoi.ge m hm).2 (fun hmj => hij ?_) (fun e => hgn (mem_flat.2 ⟨i, _, hSi, e ▸ hm⟩))).is
        exact (flat_disj hnd.2.1 hSi hSj hm hmj).symm
    obtain ⟨z, t', hp, hz⟩ := h.ctx w' x (setKid u j u') (fun m hm0 hm hmS hmb => hsame m hm0 hm (fun hmj => hmS (List.mem_append_right _ (mem_flat.2 ⟨j, _, hSj, hmj⟩))) (fun e => hmS (e ▸ hgS))) hbB hix ⟨_, hrw⟩
    exact ⟨z, t', by rw [put_append h.path hkid]; exact hp, hz⟩
theorem cat_inj {w : World} {b o : Nat} {c d : C} (h : CAt w b o c) (g : CAt w b o d) : c = d := by
  obtain ⟨h0, h1, h2, h3, h4, h5, h6⟩ := h
  obtain ⟨g0, g1, g2, g3, g4, g5, g6⟩ := g
  obtain ⟨ck, ⟨x, y, z, v⟩, ci, ca, cn, cc⟩ := c
  obtain ⟨dk, ⟨x', y', z', v'⟩, di, da, dn, dc⟩ := d
  simp only at *
  rw [h0] at g0; rw [h1] at g1; rw [h2] at g2; rw [h3] at g3; rw [h4] at g4; rw [h5] at g5; rw [h6] at g6
  cases g0; cases g1; cases g2; cases g3; cases g4; cases g5; cases g6
  rfl
end Go.Proofs.YtlaiggnkgdomkaaGreat
