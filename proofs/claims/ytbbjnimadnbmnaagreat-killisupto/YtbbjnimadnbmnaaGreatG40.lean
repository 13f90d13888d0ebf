/- Texts of this seat, 3 in one file. -/
import Derived.Test.YtbbjnimadnbmnaaGreatG15
import Derived.Test.YtbbjnimadnbmnaaGreatG16
import Derived.Test.YtbbjnimadnbmnaaGreatG26
import Derived.Test.YtbbjnimadnbmnaaGreatG24
import Derived.Test.YtbbjnimadnbmnaaGreatG32
import Derived.Test.YtbbjnimadnbmnaaGreatG30
/- The numbers of the leaves of trees, in order: the program's answer. -/
namespace Go.Proofs.YtbbjnimadnbmnaaGreat
open Go.RowKit

def lvOwn (B : Nat) (_ : Nat × List Int) (o : Option Obj) (k : Nat) : Prop := k = B ∨ (B < k ∧ ∃ cs fr, o = some (.cells cs 3 fr))
structure lvI (w0 : World) (s : Nat × List Int) (W : World) : Prop where
  below : Below w0.heap.size w0 W
  room : s.2.length + s.1 ≤ 1000000
  box : ∃ v, Box1 W w0.heap.size v 52 ∧ OwnI W (w0.heap.size + 1) v s.2
def lvStep (s : Nat × List Int) (t : T) : Nat × List Int := (s.1 - 1, if leafB t then s.2 ++ [t.id] else s.2)

theorem lvM (w0 : World) : Mach w0 (lvOwn w0.heap.size) (lvI w0) := by
  refine ⟨fun s W cs t h ht ho => ?_, fun s W h => h.below, fun s W W' h hb => ⟨h.below.trans (hb.mono h.below.size), h.room, ?_⟩⟩
  · obtain ⟨v, hv, -⟩ := h.box
    have := lt_of_block hv
    rcases ho with h1 | ⟨-, cs', fr, h2⟩
    · omega
    · cases h2; exact ht rfl
  · obtain ⟨v, hv, ho⟩ := h.box
    exact ⟨v, hv.up hb, ho.up hb⟩

theorem heap_set' {w : World} {b : Nat} {v : Value} {k : Nat} (h : k ≠ b) : (w.setCell ⟨b, 0, none⟩ v).heap[k]? = w.heap[k]? := Below.heap_setCell w ⟨b, 0, none⟩ v k h
theorem own_typed {W : World} {base : Nat} {v : Value} {l : List Int} (h : OwnI W base v l) {g : Nat} (hg : v.ownBlock = some g) : base ≤ g ∧ ∃ cs fr, W.heap[g]? = some (.cells cs 3 fr) := by
  rcases h.2 with ⟨rfl, -⟩ | ⟨g', cap, cur, rfl, hb, hg', -⟩
  · cases hg
  · cases hg; exact ⟨hb, cur, (0, 0), hg'⟩

/-- What turned: the box, and the row that it holds. -/
theorem lv_frame {B : Nat} {s s' : Nat × List Int} {W W1 w1 : World} {v : Value} {l : List Int} (hown : OwnI W (B + 1) v l) (h1 : Below W.heap.size W W1) (h2 : W1.grownBy w1 v.ownBlock) (x : Value) (_ : B < W.heap.size) :
    Fr (lvOwn B) s W s' (w1.setCell ⟨B, 0, none⟩ x) := by
  have hsame : ∀ k, k < W.heap.size → k ≠ B → v.ownBlock ≠ some k → (w1.setCell ⟨B, 0, none⟩ x).heap[k]? = W.heap[k]? := fun k hk hkb hne => by
    rw [heap_set' hkb, h2.block k (Nat.lt_of_lt_of_le hk h1.size) (fun e => hne e.symm), h1.block k hk]
  refine ⟨h2.os.trans h1.os, h2.tape.trans h1.tape, h2.output.trans h1.output, ?_, fun k hk hn => ?_, fun k hk => ?_⟩
  · have := h1.size; have := h2.size; simp [World.setCell]; omega
  · refine hsame k hk (fun e => hn (.inl e)) fun e => hn ?_
    obtain ⟨hg1, cs, fr, hg2⟩ := own_typed hown e
    exact .inr ⟨by omega, cs, fr, hg2⟩
  · rcases Nat.lt_or_ge k W.heap.size with h | h
    · refine .inl ?_
      rcases hk with hk | ⟨hk1, cs, fr, hk2⟩
      · exact .inl hk
      · by_cases e : v.ownBlock = some k
        · obtain ⟨hg1, cs', fr', hg2⟩ := own_typed hown e
          exact .inr ⟨hk1, cs', fr', hg2⟩
        · rw [hsame k h (by omega) e] at hk2
          exact .inr ⟨hk1, cs, fr, hk2⟩
    · exact .inr h

set_option maxRecDepth 100000 in
theorem leaves1_does (w0 : World) (t : T) : Does (fun s => s.1) w0 (lvOwn w0.heap.size) (lvI w0) 45 #[.pointer (some ⟨w0.heap.size, 0, none⟩)] lvStep t := by
  rintro ⟨r, l⟩ c W hsz hi hI
  show Calls Tryz.prog 45 #[cval c, .pointer (some ⟨w0.heap.size, 0, none⟩)] W _
  obtain ⟨v, hv, hown⟩ := hI.box
  have hlt : w0.heap.size < W.heap.size := lt_of_block hv
  have hne : w0.heap.size ≠ W.heap.size := by omega
  have HI := Lib.hid hI
  have HO := Lib.hid hown
  have HV := Lib.hid hv
  obtain ⟨a, cap, rfl⟩ := row_shape hown.row
  have hr1 : 1 ≤ r := by have := sz_pos t; simp only at hsz; omega
  have htk := hi.split.1
  have hti := hi.split.2.2.1
  have HA : Hid (Below W.heap.size W (W.alloc (cbox c))) := (Below.refl _ _).alloc (Nat.le_refl _) _
  simp only at hown hv
  cases hk1 : (c.k == 1) with
  | true =>
    have hst : Hid (lvStep (r, l) t = (r - 1, l ++ [c.id])) := Lib.hid (by rw [lvStep, leafB, htk, hk1, hti]; rfl)
    rw [hst.out]
    have q0 := cell_of_one hv
    have HLN : Hid (l.length + [c.id].length ≤ 1954687338211) := Lib.hid (by have := hI.room; simp at *; omega)
    have HRM : Hid ((l ++ [c.id]).length + (r - 1) ≤ 1000000) := Lib.hid (by have := hI.room; simp at *; omega)
    have HRO : Hid (Row ((W.alloc (cbox c)).alloc (.cells #[.int .i64 c.id] 3)) (.slice (some ⟨W.heap.size + 1, 0, none⟩) 1 1) (ints [c.id])) := Lib.hid (by
      have := row_one (W.alloc (cbox c)) (.int .i64 c.id) 3
      show Row _ _ [.int .i64 c.id]
      simpa using this)
    clear hi hI hown hv htk hti hsz hst
    go_enter Tryz.func45, Tryz.ntmps45
    go_wp2_with (at_builtin; refine wpList_append_ints rfl _ _ rfl (w0.heap.size + 1) (.slice a l.length cap) _ l [c.id] rfl (((HO.out.up HA.out)).up ((Below.refl _ _).alloc (Nat.le_refl _) _)) rfl HRO.out (by simp) HLN.out W (((Below.refl _ _).alloc (by omega) _).alloc (by simp; omega) _) (by omega) ?_; intro g cap3 w3 hown3 hb3 hgr3 hpl3; have HO3 := Lib.hid hown3; have HB3 := Lib.hid hb3; have HG3 := Lib.hid hgr3; have HV3 := Lib.hid (show Box1 w3 w0.heap.size (.slice a l.length cap) 52 from (hb3.block _ (Nat.lt_succ_self _)).trans HV.out); have z0 := cell_of_one HV3.out; have z1 := free_of_one HV3.out; clear hown3 hb3 hgr3 hpl3)
    go_end0
    refine ⟨rfl, ⟨?_, HRM.out, _, one_setCell HV3.out, ?_⟩, lv_frame HO.out (((Below.refl _ _).alloc (Nat.le_refl _) _).alloc (by simp) _) HG3.out _ hlt⟩
    · exact HI.out.below.trans ((HB3.out.mono (Nat.le_succ _)).setCell (Nat.le_refl _) _)
    · have := ownsRow_setCell_below HO3.out (a := ⟨w0.heap.size, 0, none⟩) (Nat.lt_succ_self _) (.slice (some ⟨g, 0, none⟩) (l ++ [c.id]).length cap3)
      simpa [OwnI] using this
  | false =>
    have hst : Hid (lvStep (r, l) t = (r - 1, l)) := Lib.hid (by rw [lvStep, leafB, htk, hk1]; rfl)
    rw [hst.out]
    clear hi hI hown hv htk hti hsz hst
    go_enter Tryz.func45, Tryz.ntmps45
    go_wp2
    go_end0
    have h1 := HI.out
    refine ⟨rfl, ⟨h1.below.trans (HA.out.mono h1.below.size), by have := h1.room; simp at *; omega, _, HV.out.up HA.out, HO.out.up HA.out⟩, ?_⟩
    have := Fr.of (own := lvOwn w0.heap.size) (s := (r, l)) HA.out
    exact ⟨this.os, this.tape, this.output, this.size, this.block, this.own⟩

def idsL (l : List T) : List Int := ((preL l).filter leafB).map T.id
mutual
theorem doT_lv (s : Nat × List Int) : ∀ t, (doT lvStep s t).2 = s.2 ++ ((preT t).filter leafB).map T.id
  | .node k r i l => by
    rw [doT, doL_lv (lvStep s (.node k r i l)) l, preT, List.filter_cons]
    simp only [lvStep]
    cases h : leafB (.node k r i l) <;> simp
theorem doL_lv (s : Nat × List Int) : ∀ l, (doL lvStep s l).2 = s.2 ++ ((preL l).filter leafB).map T.id
  | [] => by rw [doL, preL]; simp
  | t :: l => by rw [doL, doL_lv (doT lvStep s t) l, doT_lv s t, preL]; simp
end
theorem entersLv : Enters 45 := enters_of Tryz.func45 (by kernel_rfl) rfl

def IntsSays (l : List Int) (w : World) (e : Ending) (w' : World) : Prop := ∃ v, e = .returned v ∧ Row w' v (ints l) ∧ Below w.heap.size w w'

set_option maxRecDepth 100000 in
theorem leaves_any (v : Value) (l : List T) (w : World) (hr : TRow w v l) (hl : szL l ≤ 1000000) : Calls Tryz.prog 21 #[v] w (IntsSays (idsL l) w) := by
  have hI : lvI w (szL l, []) (w.alloc (.cells #[.slice none 0 0] 52)) := ⟨(Below.refl _ _).alloc (Nat.le_refl _) _, by simpa using hl, .slice none 0 0, Box1.new _ _ _, OwnI.nil _ _⟩
  have H := Lib.hid (each_any (lvM w) 45 entersLv _ lvStep l (fun s => s.1) (fun s t => by simp only [lvStep]; omega) (leaves1_does w) (szL l, []) _ v (Nat.le_refl _) (RowIn.of (lvM w) hr (by have := szL_len l; omega)) hI)
  obtain ⟨a, cap, rfl⟩ := hr.shape
  clear hr hI
  have hids : (doL lvStep (szL l, []) l).2 = idsL l := by rw [doL_lv]; simp [idsL]
  generalize doL lvStep (szL l, []) l = st at H hids
  obtain ⟨rr, ids⟩ := st
  simp only at hids
  subst hids
  go_enter Tryz.func21, Tryz.ntmps21
  go_wp2_with fail
  refine H.out.mono ?_
  rintro e w2 ⟨rfl, hi2, hfr2⟩
  obtain ⟨v2, hv2, ho2⟩ := hi2.box
  have HB2 := Lib.hid hi2.below
  have HO2 := Lib.hid ho2
  have q0 := cell_of_one hv2
  obtain ⟨a2, cap2, rfl⟩ := row_shape ho2.row
  clear hi2 hfr2 ho2 hv2
  go_wp2
  go_ret
  exact ⟨_, rfl, HO2.out.row, HB2.out⟩
end Go.Proofs.YtbbjnimadnbmnaaGreat
/- A tree from which a leaf goes: what the document's walk keeps. No walk. -/
namespace Go.Proofs.YtbbjnimadnbmnaaGreat
open Go.RowKit

theorem ast_al {w W : World} {c : C} (h : ASt w c W) (o : Obj) : ASt w c (W.alloc o) := h.up ((Below.refl _ _).alloc (Nat.le_refl _) o)
theorem is_al {W : World} {c : C} {t : T} (h : Is W c t) (o : Obj) : Is (W.alloc o) c t := h.up ((Below.refl _ _).alloc (Nat.le_refl _) o)
theorem ast_put {w W : World} {c : C} {b : Nat} (h : ASt w c W) (hb : w.heap.size + 1 < b) (x : C) : ASt w c (put7 W b x) :=
  ⟨below_put7 h.below (by omega) x, (heap_put7 (by omega)).trans h.box, (heap_put7 (by omega)).trans h.zero⟩
/-- A box of zeroes that is neither the tree's nor the answer's. -/
def ZB (w W : World) (b : Nat) : Prop := Zero7 W b ∧ w.heap.size + 1 < b
theorem ZB.up {w W W' : World} {b : Nat} (h : ZB w W b) (hb : Below W.heap.size W W') : ZB w W' b := ⟨zero_up h.1 hb, h.2⟩
theorem zb_new {w W : World} {c : C} (h : ASt w c W) : ZB w (W.alloc zeroBox) W.heap.size := ⟨zero_new W, lt_of_block h.zero⟩
theorem zb_drew {w W : World} {c : C} (h : ASt w c W) : ZB w (W.alloc zeroBox).drew W.heap.size := ⟨zero_new W, lt_of_block h.zero⟩

/-- The grown one, in a box of its own. -/
structure Gm (w : World) (c : C) (b : Nat) (d : C) (g : T) (W : World) : Prop where
  st : ASt w c W
  box : Box7 W b d
  far : w.heap.size + 1 < b
  stands : ∃ lo hi, w.heap.size + 2 ≤ lo ∧ hi ≤ W.heap.size ∧ Stands (fun _ => True) W lo hi d g
theorem Gm.up {w W W' : World} {c d : C} {b : Nat} {g : T} (h : Gm w c b d g W) (hb : Below W.heap.size W W') : Gm w c b d g W' := by
  obtain ⟨lo, hi, a1, a2, a3⟩ := h.stands
  exact ⟨h.st.up hb, h.box.up hb, h.far, lo, hi, a1, Nat.le_trans a2 hb.size, a3.up hb a2⟩
theorem gm_new {w W W6 : World} {c d : C} {g : T} (h : ASt w c W) (h6 : ASt w c W6) (hs : Stands (fun _ => True) W W6.heap.size W.heap.size d g) : Gm w c W.heap.size d g (W.alloc (cbox d)) := by
  have hb : Below W.heap.size W (W.alloc (cbox d)) := (Below.refl _ _).alloc (Nat.le_refl _) _
  have := lt_of_block h6.zero
  exact ⟨h.up hb, Box7.new W d, lt_of_block h.zero, _, _, by omega, hb.size, hs.up hb (Nat.le_refl _)⟩
theorem gm_put {w W W6 : World} {c d : C} {b : Nat} {g : T} (h : ASt w c W) (h6 : ASt w c W6) (hz : ZB w W b) (hz6 : ZB w W6 b) (hs : Stands (fun _ => True) W W6.heap.size W.heap.size d g) : Gm w c b d g (put7 W b d) := by
  have h1 := lt_of_block h6.zero
  have h2 := lt_of_block hz6.1
  refine ⟨ast_put h hz.2 d, (Box7.of_zero hz.1).put d, hz.2, _, _, show w.heap.size + 2 ≤ W6.heap.size by omega, by rw [size_put7]; exact Nat.le_refl _, ?_⟩
  exact hs.move fun k hk _ => heap_put7 (by omega)
/-- What the kids that stay stand on. -/
def WoE (w0 : World) (d : C) (g : T) (W : World) : Prop := Eld w0 W ∧ Is W d g
theorem wo_fin {w0 w W8 wr w' : World} {c d x : C} {b lo hi : Nat} {g y : T} (P : Gm w c b d g W8) (hb : Below W8.heap.size W8 wr) (he : ∀ k, w.heap.size + 2 ≤ k → w'.heap[k]? = wr.heap[k]?) (hsz : w'.heap.size = wr.heap.size) (hs : Stands (WoE w0 d g) wr lo hi x y) (hlo : W8.heap.size ≤ lo) (hhi : hi ≤ wr.heap.size) :
    Stands (Eld w0) w' w.heap.size w'.heap.size x y := by
  have h1 := lt_of_block P.st.zero
  have h2 := hb.size
  intro W' hE hW
  refine hs W' ⟨hE, ?_⟩ fun k h1 h2 => (hW k (by omega) (by omega)).trans (he k (by omega))
  obtain ⟨lo', hi', a1, a2, a3⟩ := P.stands
  exact a3 W' trivial fun k g1 g2 => ((hW k (by omega) (by omega)).trans (he k (by omega))).trans (hb.block k (by omega))
theorem outT_one {k : Int} {r : R} {id : Int} {ks : List T} {j : Int} {g x : T} (hg : adjO (k - 1) (szA (ks.getD j.toNat default).r (k - 1) + 1) (setT 0 0 (ks.getD (heirN j).toNat default)) = g) (h : gnL j (heirN j) g 0 ks = [x]) : outT k r id ks j = x := by
  subst hg; unfold outT; rw [h]
theorem outT_many {k : Int} {r : R} {id : Int} {ks : List T} {j : Int} {g : T} (hg : adjO (k - 1) (szA (ks.getD j.toNat default).r (k - 1) + 1) (setT 0 0 (ks.getD (heirN j).toNat default)) = g) (h : (gnL j (heirN j) g 0 ks).length ≠ 1) : outT k r id ks j = .node k r id (gnL j (heirN j) g 0 ks) := by
  subst hg; unfold outT
  split
  · rename_i e; rw [e] at h; exact absurd rfl h
  · rfl
/-- What the walk asks of a cell one of whose kids goes. -/
theorem wo_asks {t : T} {id : Int} (hm : sz t ≤ 990) (ht : tileB t = true) (hp : 0 ≤ plN id t.kids 0) : 2 ≤ t.kids.length ∧ (t.k = 2 ∨ t.k = 3) := by
  have hk : t.k ≠ 1 := fun hk => by
    rw [leaf_none (by omega) ht hk] at hp
    simp [plN] at hp
  refine ⟨kids_two (by omega) ht hk, ?_⟩
  have hw := (tile_top (by omega) ht).1
  unfold wellT wellB at hw
  simp only [Bool.and_eq_true, Bool.or_eq_true, decide_eq_true_eq] at hw
  omega
theorem Grove.std {E : World → Prop} {wr w2 w3 : World} {base : Nat} {v : Value} {cs : List C} {l : List T} {d : C} {u : T} {g cap : Nat} (h : Grove E wr base v cs l) (hbase : base ≤ wr.heap.size) (hb : Below wr.heap.size wr w2) (hd : ∀ W, E W → Is W d u)
    (hown : OwnC w3 base (.slice (some ⟨g, 0, none⟩) (cs ++ [d]).length cap) (cs ++ [d])) (hgr : w2.grownBy w3 v.ownBlock) (hpl : v.ownBlock = some g ∨ g = w2.heap.size) : Grove E w3 base (.slice (some ⟨g, 0, none⟩) (cs ++ [d]).length cap) (cs ++ [d]) (l ++ [u]) := by
  refine h.add (Below.refl _ _) hb rfl (fun j x y hx hy => ?_) hown hgr hpl
  cases j with
  | zero => simp at hx hy; subst hx; subst hy; exact ⟨base, base, Nat.le_refl _, .inr (Nat.le_refl _), hbase, fun W hE _ => hd W hE⟩
  | succ j => simp at hx
theorem wo_one {w0 w W8 wr : World} {c d x : C} {b : Nat} {g y t' : T} {v : Value} (P : Gm w c b d g W8) (hb : Below W8.heap.size W8 wr) (h : Grove (WoE w0 d g) wr W8.heap.size v [x] [y]) (he : t' = y) : GrSays (Eld w0) t' w (.returned (cval x)) (put7 wr (w.heap.size + 1) x) := by
  subst he
  obtain ⟨lo, hi, a1, a2, -, a4⟩ := h.each 0 x t' rfl rfl
  exact ⟨x, rfl, wo_fin P hb (fun k hk => heap_put7 (by omega)) (size_put7 ..) a4 a1 a2, below_put7 ((P.up hb).st.below) (by omega) x⟩
theorem wo_many {w0 w W8 wr : World} {c d : C} {b : Nat} {g t' : T} {k : Int} {r : R} {id : Int} {a : Option Addr} {cap : Nat} {cs : List C} {l : List T} (P : Gm w c b d g W8) (hb : Below W8.heap.size W8 wr) (h : Grove (WoE w0 d g) wr W8.heap.size (.slice a cs.length cap) cs l) (he : t' = .node k r id l) (hk : 0 ≤ k ∧ k ≤ 255) (hr : r.fits) (hi : fits id) (hl : l.length ≤ 1954687338211) :
    GrSays (Eld w0) t' w (.returned (cval ⟨k, r, id, a, cs.length, cap⟩)) (endW w wr ⟨k, r, id, a, cs.length, cap⟩) := by
  subst he
  exact ⟨_, rfl, wo_fin P hb (fun k hk => endW_other (by omega) (by omega)) (endW_size ..) (h.tree hk hr hi hl) (Nat.le_refl _) (Nat.le_refl _), below_put7 ((P.up hb).st.below.setCell (Nat.le_refl _) _) (by omega) _⟩
end Go.Proofs.YtbbjnimadnbmnaaGreat
/- A cell one of whose kids goes: the document's walk. -/
namespace Go.Proofs.YtbbjnimadnbmnaaGreat
open Go.RowKit

set_option maxHeartbeats 4000000 in
set_option maxRecDepth 100000 in
theorem rwithout_out (w0 : World) (id : Int) (t : T) (c : C) (w : World) (hm : sz t ≤ 990) (ht : tileB t = true) (hi : Is w0 c t) (hb0 : Below w0.heap.size w0 w) (hp : 0 ≤ plN id t.kids 0) : Calls Tryz.prog 18 #[cval c, .int .i64 id] w (GrSays (Eld w0) (woT id t) w) := by
  obtain ⟨h2, hk23⟩ := wo_asks hm ht hp
  have hpin := plN_in (id := id) (l := t.kids) (m := 0)
  have L1 := Lib.hid (ASt.start w c)
  have HB0 := Lib.hid hb0
  have HIW := Lib.hid (hi.up hb0)
  have HPL := Lib.hid (rplace_any id t c (cellW w c) (L1.out.is HIW.out))
  have HV := Lib.hid (show woT id t = outT t.k t.r t.id t.kids (plN id t.kids 0) by rw [woT_eq, if_neg (by omega)])
  have hfn : t.kids.length ≤ 990 := by have := sz_node t; have := szL_len t.kids; omega
  have HTK : Hid (∀ (j : Nat) (u : T), t.kids[j]? = some u → tileB u = true) := Lib.hid fun j u hj => tile_kid (by omega) ht hj
  have HSP := Lib.hid hi.split
  have HFINE := Lib.hid hi.fine
  have HR := Lib.hid hi.row
  have hn := hi.n
  obtain ⟨ck, cr, cid, ca, cn, ccap⟩ := c
  simp only at hn
  subst hn
  have hck : ck = 2 ∨ ck = 3 := by have := HSP.out.1; simp only at this; omega
  obtain ⟨q, hq⟩ : ∃ q : Nat, plN id t.kids 0 = (q : Int) := ⟨(plN id t.kids 0).toNat, by omega⟩
  have hqlt : q < t.kids.length := by omega
  obtain ⟨h, hh⟩ : ∃ h : Nat, heirN (q : Int) = (h : Int) := ⟨(heirN (q : Int)).toNat, by unfold heirN; split <;> omega⟩
  have hhlt : h < t.kids.length := by unfold heirN at hh; split at hh <;> omega
  have hne : q ≠ h := by unfold heirN at hh; split at hh <;> omega
  have HHE := Lib.hid (fun W => rheir_any (q : Int) W ⟨by omega, by omega⟩)
  rw [hh] at HHE
  have HH := Lib.hid hh
  rw [hq] at HPL HV
  obtain ⟨b, o, rfl, hf⟩ := HR.out.place (by omega)
  obtain ⟨u, hu⟩ : ∃ u, t.kids[h]? = some u := ⟨_, List.getElem?_eq_getElem hhlt⟩
  obtain ⟨z, hz, hiz⟩ := hf h u hu
  obtain ⟨s, hs⟩ : ∃ s, t.kids[q]? = some s := ⟨_, List.getElem?_eq_getElem hqlt⟩
  obtain ⟨y, hy, hiy⟩ := hf q s hs
  have HF := Lib.hid hf
  clear hf
  have hgu : t.kids.getD (heirN (q : Int)).toNat default = u := by rw [hh, Int.toNat_natCast, List.getD_eq_getElem?_getD, hu]; rfl
  have hgs : t.kids.getD ((q : Int)).toNat default = s := by rw [Int.toNat_natCast, List.getD_eq_getElem?_getD, hs]; rfl
  have hsr : s.r = y.r := hiy.split.2.1
  have hsb := may_rect (well_rect (tile_top (by have := sz_kid hs; omega) (HTK.out q s hs)).1)
  rw [hsr] at hsb
  have hwu : IntKind.u8.wrap (ck - 1) = ck - 1 := by rcases hck with rfl | rfl <;> decide
  have hszb : 0 ≤ szA y.r (ck - 1) ∧ szA y.r (ck - 1) ≤ 10000 := by unfold szA; split <;> omega
  have hws : IntKind.i64.wrap (szA y.r (ck - 1) + 1) = szA y.r (ck - 1) + 1 := wrap_id (by omega)
  have HSZ := Lib.hid (fun W => rsize_any y.r (ck - 1) W)
  have HSET := Lib.hid (fun (W : World) (L : ASt w ⟨ck, cr, cid, some ⟨b, o, none⟩, t.kids.length, ccap⟩ W) => rset_any (sz u) u z 0 0 W (Nat.le_refl _) (by simp [fits]) (by simp [fits]) ((hiz.up HB0.out).up L.below))
  have HADJ := Lib.hid (fun (d : C) (W : World) (hI : Is W d (setT 0 0 u)) => radjust_any (setT 0 0 u) d (ck - 1) (szA y.r (ck - 1) + 1) W (by rw [setT_sz]; have := sz_kid hu; omega) hI (by unfold fits; omega))
  have HGE : Hid (adjO (ck - 1) (szA (t.kids.getD ((q : Int)).toNat default).r (ck - 1) + 1) (setT 0 0 (t.kids.getD (heirN (q : Int)).toNat default)) = adjO (ck - 1) (szA y.r (ck - 1) + 1) (setT 0 0 u)) := Lib.hid (by rw [hgu, hgs, hsr])
  have HVK : Hid (woT id t = outT ck cr cid t.kids (q : Int)) := Lib.hid (by
    obtain ⟨e1, e2, e3, -⟩ := HSP.out
    simp only at e1 e2 e3
    rw [HV.out, e1, e2, e3])
  unfold AjSays at HADJ
  have HADK : Hid (∀ (d : C) (W : World), Is W d (setT 0 0 u) → Calls Tryz.prog 37 #[cval d, .int .u8 (ck - 1), .int .i64 (szA y.r (ck - 1) + 1)] W (fun e w' => ∃ d', e = .returned (.tuple #[cval d', .int .i64 (ajE (ck - 1) (szA y.r (ck - 1) + 1) (setT 0 0 u))]) ∧ Stands (fun _ => True) w' W.heap.size w'.heap.size d' (adjO (ck - 1) (szA y.r (ck - 1) + 1) (setT 0 0 u)) ∧ Below W.heap.size W w')) := HADJ
  clear HADJ
  generalize adjO (ck - 1) (szA y.r (ck - 1) + 1) (setT 0 0 u) = g at HADK HGE
  generalize ajE (ck - 1) (szA y.r (ck - 1) + 1) (setT 0 0 u) = er at HADK
  have hszE : Hid (ASt w ⟨ck, cr, cid, some ⟨b, o, none⟩, t.kids.length, ccap⟩ (cellW w ⟨ck, cr, cid, some ⟨b, o, none⟩, t.kids.length, ccap⟩)) := L1
  have HX : Hid (∀ W, ASt w ⟨ck, cr, cid, some ⟨b, o, none⟩, t.kids.length, ccap⟩ W → W.cell? ⟨w.heap.size, 6, none⟩ = some (.slice (some ⟨b, o, none⟩) t.kids.length ccap) ∧ CellsT W b (o + h * 7) z ∧ CellsT W b (o + q * 7) y) := Lib.hid fun W L => ⟨(c7_of L.box.cat).2.2.2.2.2.2, (hz.up HB0.out).up L.below, (hy.up HB0.out).up L.below⟩
  clear hh
  clear hi hb0 ht hm hpin hp hk23 hgu hgs hsr hsb hz hiz hy hiy hu hs HV
  obtain ⟨c0, c1, c2, c3, c4, c5, c6⟩ := c7_of L1.out.box.cat
  go_enter Tryz.func18, Tryz.ntmps18
  go_wp2_with fail
  refine HPL.out.mono ?_
  rintro e w2 ⟨rfl, hb2⟩
  have L2 := Lib.hid (L1.out.up hb2)
  clear hb2 c0 c1 c2 c3 c4 c5 c6 HPL
  have hq0 : decide ((q : Int) < 0) = false := decide_eq_false (by omega)
  obtain ⟨c0, c1, c2, c3, c4, c5, c6⟩ := c7_of L2.out.box.cat
  have D0 : Hid (ASt w ⟨ck, cr, cid, some ⟨b, o, none⟩, t.kids.length, ccap⟩ w2.drew) := Lib.hid (L2.out.up (Below.refl _ _).drew)
  have Dz : Hid (ASt w ⟨ck, cr, cid, some ⟨b, o, none⟩, t.kids.length, ccap⟩ (w2.alloc zeroBox).drew) := Lib.hid (L2.out.up ((Below.refl _ _).alloc (Nat.le_refl _) _).drew)
  have Dy : Hid (ASt w ⟨ck, cr, cid, some ⟨b, o, none⟩, t.kids.length, ccap⟩ (w2.drew.alloc zeroBox)) := Lib.hid (ast_al D0.out _)
  have ZZ : Hid (ZB w (w2.alloc zeroBox).drew w2.heap.size) := Lib.hid (zb_drew L2.out)
  have ZY : Hid (ZB w (w2.drew.alloc zeroBox) w2.drew.heap.size) := Lib.hid (zb_new D0.out)
  go_wp2_with fail
  go_region_held3 (fun W => W.cell? ⟨w.heap.size, 6, none⟩ = some (.slice (some ⟨b, o, none⟩) t.kids.length ccap) ∧ (W.cell? ⟨b, o + h * 7, none⟩ = some (.int .u8 z.k) ∧ W.cell? ⟨b, o + h * 7 + 1, none⟩ = some (.int .i64 z.r.x) ∧ W.cell? ⟨b, o + h * 7 + 2, none⟩ = some (.int .i64 z.r.y) ∧ W.cell? ⟨b, o + h * 7 + 3, none⟩ = some (.int .i64 z.r.w) ∧ W.cell? ⟨b, o + h * 7 + 4, none⟩ = some (.int .i64 z.r.h) ∧ W.cell? ⟨b, o + h * 7 + 5, none⟩ = some (.int .i64 z.id) ∧ W.cell? ⟨b, o + h * 7 + 6, none⟩ = some (.slice z.a z.n z.cap)) ∧ W.cell? ⟨b, o + q * 7, none⟩ = some (.int .u8 y.k) ∧ W.cell? ⟨b, o + q * 7 + 1, none⟩ = some (.int .i64 y.r.x) ∧ W.cell? ⟨b, o + q * 7 + 2, none⟩ = some (.int .i64 y.r.y) ∧ W.cell? ⟨b, o + q * 7 + 3, none⟩ = some (.int .i64 y.r.w) ∧ W.cell? ⟨b, o + q * 7 + 4, none⟩ = some (.int .i64 y.r.h) ∧ W.cell? ⟨b, o + q * 7 + 5, none⟩ = some (.int .i64 y.id) ∧ W.cell? ⟨b, o + q * 7 + 6, none⟩ = some (.slice y.a y.n y.cap)) (exact HX.out _ (by first | with_reducible exact D0.out | with_reducible exact Dz.out | with_reducible exact Dy.out | with_reducible exact L5.out | with_reducible exact ast_al L5.out _ | with_reducible exact L6.out | with_reducible exact ast_al L6.out _ | with_reducible exact L7.out | with_reducible exact ast_al L7.out _ | with_reducible exact P7.out))
    (first
      | (go_at_call 38; (with_reducible refine (HHE.out _).mono ?_); rintro e w4 ⟨rfl, hw4⟩; rw [hw4]; clear hw4 w4)
      | (go_at_call 17; (with_reducible refine (HSET.out _ (by first | with_reducible exact D0.out | with_reducible exact Dz.out | with_reducible exact Dy.out)).mono ?_); rintro e w5 ⟨d5, S5, rfl, hown5, -, hb5⟩; have L5 := Lib.hid (ASt.up (by first | with_reducible exact D0.out | with_reducible exact Dz.out | with_reducible exact Dy.out) hb5); have I5 := Lib.hid hown5.is; (first | with_reducible have Z5 := Lib.hid (ZZ.out.up hb5) | with_reducible have Z5 := Lib.hid (ZY.out.up hb5) | have N5 := Lib.hid True.intro); clear hown5 hb5)
      | (go_at_call 39; (with_reducible refine (HSZ.out _).mono ?_); rintro e w6 ⟨rfl, hb6⟩; have L6 := Lib.hid (ASt.up (by first | with_reducible exact L5.out | with_reducible exact ast_al L5.out _) hb6); have I6 := Lib.hid (Is.up (by first | with_reducible exact I5.out | with_reducible exact is_al I5.out _) hb6); (first | with_reducible have Z6 := Lib.hid (Z5.out.up hb6) | with_reducible have Z6 := Lib.hid ((zb_new L5.out).up hb6) | have N6 := Lib.hid True.intro); clear hb6)
      | (go_at_call 37; (with_reducible refine (HADK.out _ _ (by first | with_reducible exact I6.out | with_reducible exact is_al I6.out _)).mono ?_); rintro e w7 ⟨d7, rfl, hst7, hb7⟩; have L7 := Lib.hid (ASt.up (by first | with_reducible exact L6.out | with_reducible exact ast_al L6.out _) hb7); have S7 := Lib.hid hst7; (first | ((with_reducible have Z7 := Lib.hid (Z6.out.up hb7)); have M6 := Lib.hid L6.out; have ZM := Lib.hid Z6.out; have P7 := Lib.hid (ast_put L7.out Z7.out.2 d7); obtain ⟨⟨z0, z1, z2, z3, z4, z5, z6⟩, f0, f1, f2, f3, f4, f5, f6⟩ := zero_parts Z7.out.1) | ((with_reducible have Z7 := Lib.hid ((zb_new L6.out).up hb7)); have M6 := Lib.hid (ast_al L6.out zeroBox); have ZM := Lib.hid (zb_new L6.out); have P7 := Lib.hid (ast_put L7.out Z7.out.2 d7); obtain ⟨⟨z0, z1, z2, z3, z4, z5, z6⟩, f0, f1, f2, f3, f4, f5, f6⟩ := zero_parts Z7.out.1) | have M6 := Lib.hid L6.out); clear hst7 hb7))
  all_goals (rename_i hh9; clear hh9)
  all_goals first
    | (have P := Lib.hid (gm_put L7.out M6.out Z7.out ZM.out S7.out); change Exit.then _ _ _ _ (put7 w7 _ d7); generalize put7 w7 _ d7 = W8 at P ⊢)
    | (have P := Lib.hid (gm_new L7.out M6.out S7.out); generalize w7.alloc (cbox d7) = W8 at P ⊢)
  all_goals
    (try clear z0 z1 z2 z3 z4 z5 z6 f0 f1 f2 f3 f4 f5 f6)
    clear c0 c1 c2 c3 c4 c5 c6
    have A9 : Below W8.heap.size W8 (W8.alloc (.cells #[] 26)) := (Below.refl _ _).alloc (Nat.le_refl _) _
    obtain ⟨c0, c1, c2, c3, c4, c5, c6⟩ := c7_of (P.out.up A9).st.box.cat
    go_wp2
    go_loopg [11, 67] (t.kids.length + 1) (fun gg v i wr => ∃ (k : Nat) (cs : List C), gg + k = t.kids.length + 1 ∧ k ≤ t.kids.length ∧ i = .int .i64 k ∧ Grove (WoE w0 d7 g) wr W8.heap.size v cs (gnL (q : Int) (h : Int) g 0 (t.kids.take k)) ∧ Below W8.heap.size W8 wr)
    case atStart => exact ⟨0, [], by omega, by omega, rfl, by simpa [gnL] using Grove.empty (WoE w0 d7 g) W8 _ (Nat.le_refl _), (Below.refl _ _).alloc (Nat.le_refl _) _⟩
    case round =>
      clear c0 c1 c2 c3 c4 c5 c6 A9
      obtain ⟨k, cs, hg, hk, rfl, hgr, hb⟩ := hrel
      have HG := Lib.hid hg
      have HGR := Lib.hid hgr
      have HB := Lib.hid hb
      have PW := Lib.hid (P.out.up hb)
      clear hg hgr hb
      by_cases hlt : k < t.kids.length
      · have hlti : (k : Int) < (t.kids.length : Int) := by omega
        obtain ⟨u2, hu2⟩ : ∃ u, t.kids[k]? = some u := ⟨_, List.getElem?_eq_getElem hlt⟩
        obtain ⟨z2, hz2, hiz2⟩ := HF.out k u2 hu2
        have HST := Lib.hid (gnL_step (j := (q : Int)) (h := (h : Int)) (g := g) hu2)
        have HLC := Lib.hid (show cs.length ≤ 990 by
          have h1 := HGR.out.len
          have h2 := gnL_len (q : Int) (h : Int) g (t.kids.take k) 0
          rw [List.length_take] at h2
          omega)
        have HI2 := Lib.hid hiz2
        have HC2 := Lib.hid ((hz2.up HB0.out).up PW.out.st.below)
        clear hiz2 hz2 hu2
        obtain ⟨c0, c1, c2, c3, c4, c5, c6⟩ := c7_of PW.out.st.box.cat
        by_cases hkh : k = h
        · have d1 : ((k : Int) == (h : Int)) = true := by subst hkh; simp
          have HIN := Lib.hid (show gnK (q : Int) (h : Int) g k u2 = [g] from if_pos (by rw [hkh]))
          clear hkh
          obtain ⟨q0, q1, q2, q3, q4, q5, q6⟩ := c7_of PW.out.box.cat
          go_wp2_with fail
          refine (HHE.out _).mono ?_
          rintro e w4 ⟨rfl, hw4⟩
          rw [hw4]
          clear hw4 w4
          go_wp2_with (at_builtin; refine wpList_append_cells rfl _ _ rfl W8.heap.size u11 _ cs [d7] rfl (HGR.out.row.up ((Below.refl wr.heap.size wr).alloc (Nat.le_refl _) (cbox d7))) rfl (OwnC.one wr 0 (Nat.zero_le _) d7).row (by simp) (by have := HLC.out; simp only [List.length_cons, List.length_nil]; omega) W8 (HB.out.alloc HB.out.size _) (Nat.le_refl _) ?_; intro g3 cap3 w3 hown3 hb3 hgr3 hpl3)
          have HF3 := Lib.hid (HGR.out.std HB.out.size ((Below.refl _ _).alloc (Nat.le_refl _) (cbox d7)) (fun _ hE => hE.2) hown3 hgr3 hpl3)
          have HB3 := Lib.hid hb3
          clear hown3 hb3 hgr3 hpl3
          go_wp2
          go_roundg (gk - 1)
          case measure => have := HG.out; omega
          case rel =>
            refine ⟨k + 1, cs ++ [d7], by have := HG.out; omega, by omega, by go_num, ?_, HB3.out⟩
            rw [HST.out, HIN.out]
            simpa using HF3.out
        · have d1 : ((k : Int) == (h : Int)) = false := beq_eq_false_iff_ne.2 (by omega)
          by_cases hkq : k = q
          · have d2 : ((k : Int) != (q : Int)) = false := by subst hkq; simp
            have HIN := Lib.hid (show gnK (q : Int) (h : Int) g k u2 = [] by unfold gnK; rw [if_neg (by omega), if_pos (by omega)])
            clear hkh hkq
            go_wp2_with fail
            refine (HHE.out _).mono ?_
            rintro e w4 ⟨rfl, hw4⟩
            rw [hw4]
            clear hw4 w4
            go_wp2
            go_roundg (gk - 1)
            case measure => have := HG.out; omega
            case rel =>
              refine ⟨k + 1, cs, by have := HG.out; omega, by omega, by go_num, ?_, HB.out⟩
              rw [HST.out, HIN.out, List.append_nil]
              exact HGR.out
          · have d2 : ((k : Int) != (q : Int)) = true := bne_iff_ne.2 (by omega)
            have HIN := Lib.hid (show gnK (q : Int) (h : Int) g k u2 = [u2] by unfold gnK; rw [if_neg (by omega), if_neg (by omega)])
            clear hkh hkq
            obtain ⟨q0, q1, q2, q3, q4, q5, q6⟩ := HC2.out
            go_wp2_with fail
            refine (HHE.out _).mono ?_
            rintro e w4 ⟨rfl, hw4⟩
            rw [hw4]
            clear hw4 w4
            go_wp2_with (at_builtin; refine wpList_append_cells rfl _ _ rfl W8.heap.size u11 _ cs [z2] rfl (HGR.out.row.up ((Below.refl wr.heap.size wr).alloc (Nat.le_refl _) (cbox z2))) rfl (OwnC.one wr 0 (Nat.zero_le _) z2).row (by simp) (by have := HLC.out; simp only [List.length_cons, List.length_nil]; omega) W8 (HB.out.alloc HB.out.size _) (Nat.le_refl _) ?_; intro g3 cap3 w3 hown3 hb3 hgr3 hpl3)
            have HF3 := Lib.hid (HGR.out.std HB.out.size ((Below.refl _ _).alloc (Nat.le_refl _) (cbox z2)) (fun _ hE => HI2.out.same hE.1) hown3 hgr3 hpl3)
            have HB3 := Lib.hid hb3
            clear hown3 hb3 hgr3 hpl3
            go_wp2
            go_roundg (gk - 1)
            case measure => have := HG.out; omega
            case rel =>
              refine ⟨k + 1, cs ++ [z2], by have := HG.out; omega, by omega, by go_num, ?_, HB3.out⟩
              rw [HST.out, HIN.out]
              simpa using HF3.out
      · obtain rfl : k = t.kids.length := by omega
        have hkl : ((t.kids.length : Int) < (t.kids.length : Int)) = False := by simp
        have HFA : Hid (Grove (WoE w0 d7 g) wr W8.heap.size u11 cs (gnL (q : Int) (heirN (q : Int)) g 0 t.kids)) := Lib.hid (by have := HGR.out; rw [List.take_length] at this; rw [HH.out]; exact this)
        have HLL : Hid (cs.length = (gnL (q : Int) (heirN (q : Int)) g 0 t.kids).length) := Lib.hid HFA.out.len
        have hcl : cs.length ≤ 990 := by
          have h2 := gnL_len (q : Int) (heirN (q : Int)) g t.kids 0
          have h1 := HLL.out
          omega
        clear HGR
        obtain ⟨a', cap', rfl⟩ := HFA.out.row.row.shape
        by_cases hone : cs.length = 1
        · obtain ⟨x, rfl⟩ := List.length_eq_one_iff.1 hone
          have hl1 := HLL.out.symm.trans hone
          obtain ⟨y2, hy2⟩ := List.length_eq_one_iff.1 hl1
          have HO := Lib.hid (HVK.out.trans (outT_one HGE.out hy2))
          rw [hy2] at HFA
          obtain ⟨b', o', rfl, hfx⟩ := HFA.out.row.row.place (by simp)
          have hx0 := hfx 0 x rfl
          simp only [Nat.zero_mul, Nat.add_zero] at hx0
          obtain ⟨q0, q1, q2, q3, q4, q5, q6⟩ := hx0
          obtain ⟨⟨z0, z1, z2, z3, z4, z5, z6⟩, f0, f1, f2, f3, f4, f5, f6⟩ := zero_parts PW.out.st.zero
          clear hfx hy2 hl1 hone hcl
          go_wp2
          (try simp only [Exit.inBlock, Exit.then])
          refine bodyPost_ret (results_cell1 rfl _ _ (w.heap.size + 1) x rfl ((Box7.of_zero PW.out.st.zero).put x)) rfl ?_
          exact wo_one P.out HB.out HFA.out HO.out
        · have d1 : ((cs.length : Int) == 1) = false := by simp; omega
          have HO := Lib.hid (HVK.out.trans (outT_many HGE.out (by rw [← HLL.out]; exact hone)))
          have HLEN := Lib.hid (show (gnL (q : Int) (heirN (q : Int)) g 0 t.kids).length ≤ 1954687338211 by have := HLL.out; omega)
          clear hone hcl
          obtain ⟨c0, c1, c2, c3, c4, c5, c6⟩ := PW.out.st.box.cat
          simp only [Nat.zero_add] at c1 c2 c3 c4 c5 c6
          have g6 := PW.out.st.box.free 6
          obtain ⟨⟨z0, z1, z2, z3, z4, z5, z6⟩, f0, f1, f2, f3, f4, f5, f6⟩ := zero_parts PW.out.st.zero
          go_wp2
          (try simp only [Exit.inBlock, Exit.then])
          have hset : (wr.setCell ⟨w.heap.size, 6, none⟩ (.slice a' cs.length cap')).heap[w.heap.size + 1]? = wr.heap[w.heap.size + 1]? := Below.heap_setCell wr ⟨w.heap.size, 6, none⟩ _ _ (by simp)
          have hz2 : Box7 (wr.setCell ⟨w.heap.size, 6, none⟩ (.slice a' cs.length cap')) (w.heap.size + 1) ⟨0, ⟨0, 0, 0, 0⟩, 0, none, 0, 0⟩ := hset.trans PW.out.st.zero
          refine bodyPost_ret (results_cell1 rfl _ _ (w.heap.size + 1) ⟨ck, cr, cid, a', cs.length, cap'⟩ rfl (hz2.put ⟨ck, cr, cid, a', cs.length, cap'⟩)) rfl ?_
          exact wo_many P.out HB.out HFA.out HO.out HFINE.out.1 HFINE.out.2.1 HFINE.out.2.2.1 HLEN.out
end Go.Proofs.YtbbjnimadnbmnaaGreat
