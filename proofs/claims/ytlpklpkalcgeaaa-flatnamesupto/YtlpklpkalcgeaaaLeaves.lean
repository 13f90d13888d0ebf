/- The numbers of the leaves of trees, in order: the program's answer. -/
import Derived.Test.YtlpklpkalcgeaaaSize
import Derived.Test.YtlpklpkalcgeaaaRIds
namespace Go.Proofs.Ytlpklpkalcgeaaa
open Go.RowKit

def lvOwn (B : Nat) (_ : Nat × List Int) (o : Option Obj) (k : Nat) : Prop := k = B ∨ (B < k ∧ ∃ cs fr, o = some (.cells cs 3 fr))
structure lvI (w0 : World) (s : Nat × List Int) (W : World) : Prop where
  below : Below w0.heap.size w0 W
  room : s.2.length + s.1 ≤ 1000000
  box : ∃ v, Box1 W w0.heap.size v 38 ∧ OwnI W (w0.heap.size + 1) v s.2
def lvStep (s : Nat × List Int) (t : T) : Nat × List Int := (s.1 - 1, if leafB t then s.2 ++ [t.id] else s.2)

theorem lvM (w0 : World) : Mach w0 (lvOwn w0.heap.size) (lvI w0) := by
  refine ⟨fun s W cs t h ht ho => ?_, fun s W h => h.below, fun s W W' h hb => ⟨h.below.trans (hb.mono h.below.size), h.room, ?_⟩⟩
  · obtain ⟨v, hv, -⟩ := h.box
    have := lt_of_block hv
    rcases ho with h1 | ⟨-, cs', fr, h2⟩
    · omega
    · cases h2; exact ht rfl
  · obtain ⟨v, hv, ho⟩ := h.box
    exact ⟨v, hv.up hb, ho.up hb⟩

theorem heap_set' {w : World} {b : Nat} {v : Value} {k : Nat} (h : k ≠ b) : (w.setCell ⟨b, 0, none⟩ v).heap[k]? = w.heap[k]? := Below.heap_setCell w ⟨b, 0, none⟩ v k h
theorem own_typed {W : World} {base : Nat} {v : Value} {l : List Int} (h : OwnI W base v l) {g : Nat} (hg : v.ownBlock = some g) : base ≤ g ∧ ∃ cs fr, W.heap[g]? = some (.cells cs 3 fr) := by
  rcases h.2 with ⟨rfl, -⟩ | ⟨g', cap, cur, rfl, hb, hg', -⟩
  · cases hg
  · cases hg; exact ⟨hb, cur, (0, 0), hg'⟩

/-- What turned: the box, and the row that it holds. -/
theorem lv_frame {B : Nat} {s s' : Nat × List Int} {W W1 w1 : World} {v : Value} {l : List Int} (hown : OwnI W (B + 1) v l) (h1 : Below W.heap.size W W1) (h2 : W1.grownBy w1 v.ownBlock) (x : Value) (hB : B < W.heap.size) :
    Fr (lvOwn B) s W s' (w1.setCell ⟨B, 0, none⟩ x) := by
  have hsame : ∀ k, k < W.heap.size → k ≠ B → v.ownBlock ≠ some k → (w1.setCell ⟨B, 0, none⟩ x).heap[k]? = W.heap[k]? := fun k hk hkb hne => by
    rw [heap_set' hkb, h2.block k (Nat.lt_of_lt_of_le hk h1.size) (fun e => hne e.symm), h1.block k hk]
  refine ⟨h2.os.trans h1.os, h2.tape.trans h1.tape, h2.output.trans h1.output, ?_, fun k hk hn => ?_, fun k hk => ?_⟩
  · have := h1.size; have := h2.size; simp [World.setCell]; omega
  · refine hsame k hk (fun e => hn (.inl e)) fun e => hn ?_
    obtain ⟨hg1, cs, fr, hg2⟩ := own_typed hown e
    exact .inr ⟨by omega, cs, fr, hg2⟩
  · rcases Nat.lt_or_ge k W.heap.size with h | h
    · refine .inl ?_
      rcases hk with hk | ⟨hk1, cs, fr, hk2⟩
      · exact .inl hk
      · by_cases e : v.ownBlock = some k
        · obtain ⟨hg1, cs', fr', hg2⟩ := own_typed hown e
          exact .inr ⟨hk1, cs', fr', hg2⟩
        · rw [hsame k h (by omega) e] at hk2
          exact .inr ⟨hk1, cs, fr, hk2⟩
    · exact .inr h

set_option maxRecDepth 100000 in
theorem leaves1_does (w0 : World) (t : T) : Does (fun s => s.1) w0 (lvOwn w0.heap.size) (lvI w0) 39 #[.pointer (some ⟨w0.heap.size, 0, none⟩)] lvStep t := by
  rintro ⟨r, l⟩ c W hsz hi hI
  show Calls Try.prog 39 #[cval c, .pointer (some ⟨w0.heap.size, 0, none⟩)] W _
  obtain ⟨v, hv, hown⟩ := hI.box
  have hlt : w0.heap.size < W.heap.size := lt_of_block hv
  have hne : w0.heap.size ≠ W.heap.size := by omega
  have HI := Lib.hid hI
  have HO := Lib.hid hown
  have HV := Lib.hid hv
  obtain ⟨a, cap, rfl⟩ := row_shape hown.row
  have hr1 : 1 ≤ r := by have := sz_pos t; simp only at hsz; omega
  have htk := hi.split.1
  have hti := hi.split.2.2.1
  have HA : Hid (Below W.heap.size W (W.alloc (cbox c))) := (Below.refl _ _).alloc (Nat.le_refl _) _
  simp only at hown hv
  cases hk1 : (c.k == 1) with
  | true =>
    have hst : Hid (lvStep (r, l) t = (r - 1, l ++ [c.id])) := Lib.hid (by rw [lvStep, leafB, htk, hk1, hti]; rfl)
    rw [hst.out]
    have q0 := cell_of_one hv
    have HLN : Hid (l.length + [c.id].length ≤ 1954687338211) := Lib.hid (by have := hI.room; simp at *; omega)
    have HRM : Hid ((l ++ [c.id]).length + (r - 1) ≤ 1000000) := Lib.hid (by have := hI.room; simp at *; omega)
    have HRO : Hid (Row ((W.alloc (cbox c)).alloc (.cells #[.int .i64 c.id] 3)) (.slice (some ⟨W.heap.size + 1, 0, none⟩) 1 1) (ints [c.id])) := Lib.hid (by
      have := row_one (W.alloc (cbox c)) (.int .i64 c.id) 3
      show Row _ _ [.int .i64 c.id]
      simpa using this)
    clear hi hI hown hv htk hti hsz hst
    go_enter Try.func39, Try.ntmps39
    go_wp2_with (at_builtin; refine wpList_append_ints rfl _ _ rfl (w0.heap.size + 1) (.slice a l.length cap) _ l [c.id] rfl (((HO.out.up HA.out)).up ((Below.refl _ _).alloc (Nat.le_refl _) _)) rfl HRO.out (by simp) HLN.out W (((Below.refl _ _).alloc (by omega) _).alloc (by simp; omega) _) (by omega) ?_; intro g cap3 w3 hown3 hb3 hgr3 hpl3; have HO3 := Lib.hid hown3; have HB3 := Lib.hid hb3; have HG3 := Lib.hid hgr3; have HV3 := Lib.hid (show Box1 w3 w0.heap.size (.slice a l.length cap) 38 from (hb3.block _ (Nat.lt_succ_self _)).trans HV.out); have z0 := cell_of_one HV3.out; have z1 := free_of_one HV3.out; clear hown3 hb3 hgr3 hpl3)
    go_end0
    refine ⟨rfl, ⟨?_, HRM.out, _, one_setCell HV3.out, ?_⟩, lv_frame HO.out (((Below.refl _ _).alloc (Nat.le_refl _) _).alloc (by simp) _) HG3.out _ hlt⟩
    · exact HI.out.below.trans ((HB3.out.mono (Nat.le_succ _)).setCell (Nat.le_refl _) _)
    · have := ownsRow_setCell_below HO3.out (a := ⟨w0.heap.size, 0, none⟩) (Nat.lt_succ_self _) (.slice (some ⟨g, 0, none⟩) (l ++ [c.id]).length cap3)
      simpa [OwnI] using this
  | false =>
    have hst : Hid (lvStep (r, l) t = (r - 1, l)) := Lib.hid (by rw [lvStep, leafB, htk, hk1]; rfl)
    rw [hst.out]
    clear hi hI hown hv htk hti hsz hst
    go_enter Try.func39, Try.ntmps39
    go_wp2
    go_end0
    have h1 := HI.out
    refine ⟨rfl, ⟨h1.below.trans (HA.out.mono h1.below.size), by have := h1.room; simp at *; omega, _, HV.out.up HA.out, HO.out.up HA.out⟩, ?_⟩
    have := Fr.of (own := lvOwn w0.heap.size) (s := (r, l)) HA.out
    exact ⟨this.os, this.tape, this.output, this.size, this.block, this.own⟩

def idsL (l : List T) : List Int := ((preL l).filter leafB).map T.id
mutual
theorem doT_lv (s : Nat × List Int) : ∀ t, (doT lvStep s t).2 = s.2 ++ ((preT t).filter leafB).map T.id
  | .node k r i l => by
    rw [doT, doL_lv (lvStep s (.node k r i l)) l, preT, List.filter_cons]
    simp only [lvStep]
    cases h : leafB (.node k r i l) <;> simp
theorem doL_lv (s : Nat × List Int) : ∀ l, (doL lvStep s l).2 = s.2 ++ ((preL l).filter leafB).map T.id
  | [] => by rw [doL, preL]; simp
  | t :: l => by rw [doL, doL_lv (doT lvStep s t) l, doT_lv s t, preL]; simp
end
theorem enters36 : Enters 39 := enters_of Try.func39 (by kernel_rfl) rfl

def IntsSays (l : List Int) (w : World) (e : Ending) (w' : World) : Prop := ∃ v, e = .returned v ∧ Row w' v (ints l) ∧ Below w.heap.size w w'

set_option maxRecDepth 100000 in
theorem leaves_any (v : Value) (l : List T) (w : World) (hr : TRow w v l) (hl : szL l ≤ 1000000) : Calls Try.prog 31 #[v] w (IntsSays (idsL l) w) := by
  have hI : lvI w (szL l, []) (w.alloc (.cells #[.slice none 0 0] 38)) := ⟨(Below.refl _ _).alloc (Nat.le_refl _) _, by simpa using hl, .slice none 0 0, Box1.new _ _ _, OwnI.nil _ _⟩
  have H := Lib.hid (each_any (lvM w) 39 enters36 _ lvStep l (fun s => s.1) (fun s t => by simp only [lvStep]; omega) (leaves1_does w) (szL l, []) _ v (Nat.le_refl _) (RowIn.of (lvM w) hr (by have := szL_len l; omega)) hI)
  obtain ⟨a, cap, rfl⟩ := hr.shape
  clear hr hI
  have hids : (doL lvStep (szL l, []) l).2 = idsL l := by rw [doL_lv]; simp [idsL]
  generalize doL lvStep (szL l, []) l = st at H hids
  obtain ⟨rr, ids⟩ := st
  simp only at hids
  subst hids
  go_enter Try.func31, Try.ntmps31
  go_wp2_with fail
  refine H.out.mono ?_
  rintro e w2 ⟨rfl, hi2, hfr2⟩
  obtain ⟨v2, hv2, ho2⟩ := hi2.box
  have HB2 := Lib.hid hi2.below
  have HO2 := Lib.hid ho2
  have q0 := cell_of_one hv2
  obtain ⟨a2, cap2, rfl⟩ := row_shape ho2.row
  clear hi2 hfr2 ho2 hv2
  go_wp2
  go_ret
  exact ⟨_, rfl, HO2.out.row, HB2.out⟩
end Go.Proofs.Ytlpklpkalcgeaaa
