/- The lines of a tree that tiles. -/
import Derived.Test.YtibjpkicchdomaaRCheck
import Derived.Test.YtibjpkicchdomaaTiles
namespace Go.Proofs.Ytibjpkicchdomaa
open Go.RowKit

theorem set_block0 {w : World} {b i : Nat} {cs : Array Value} {t : TypeId} {fr : Nat × Nat} (h : w.heap[b]? = some (.cells cs t fr)) (v : Value) : (w.setCell ⟨b, i, none⟩ v).heap[b]? = some (.cells (cs.setIfInBounds i v) t fr) := by
  have hlt := lt_of_block h
  have h' : w.heap[b] = .cells cs t fr := by simpa [Array.getElem?_eq_getElem hlt] using h
  show (w.heap.modify b _)[b]? = _
  rw [Array.getElem?_eq_getElem (by simpa using hlt), Array.getElem_modify_self, h']
  rfl
/-- What the closure keeps: lines, in a row of its own, and how many cells there were. -/
structure Kept (w0 : World) (p : Nat) (s : List R × Nat) (W : World) : Prop where
  low : Below w0.heap.size w0 W
  place : w0.heap.size ≤ p
  row : ∃ v, W.heap[p]? = some (.cells #[v] 38 (0, 0)) ∧ Owns W (p + 1) v s.1
  len : s.1.length ≤ 999 * s.2
def LOwn (p : Nat) (_ : List R × Nat) (o : Option Obj) (k : Nat) : Prop := k = p ∨ (p + 1 ≤ k ∧ ∃ cs, o = some (.cells cs 23 (0, 0)))
noncomputable def lstep (s : List R × Nat) (t : T) : Bool × (List R × Nat) := (false, (s.1 ++ linesB t (fitB t), s.2 + 1))
theorem keptM (w0 : World) (p : Nat) : MachF w0 (LOwn p) (Kept w0 p) := by
  refine ⟨fun s W cs hI => ?_, fun s W hI => hI.low, fun s W W' hI hb => ?_⟩
  · obtain ⟨v, hv, -⟩ := hI.row
    have := lt_of_block hv
    rintro (h | ⟨-, cs', h⟩)
    · omega
    · injection h with h; injection h with _ h2; exact absurd h2 (by decide)
  · obtain ⟨v, hv, ho⟩ := hI.row
    exact ⟨hI.low.trans (hb.mono hI.low.size), hI.place, ⟨v, (hb.block p (lt_of_block hv)).trans hv, ho.up hb⟩, hI.len⟩
theorem linesB_len (t : T) (b : Bool) : (linesB t b).length ≤ t.kids.length := by
  unfold linesB; split
  · exact linesT_len t
  · simp

theorem own_kind {W : World} {B : Nat} {v : Value} {l : List R} (h : Owns W B v l) {g : Nat} (hg : v.ownBlock = some g) : B ≤ g ∧ g < W.heap.size ∧ ∃ cs, W.heap[g]? = some (.cells cs 23 (0, 0)) := by
  rcases h.2 with ⟨rfl, -⟩ | ⟨g', cap, cur, rfl, hb, hgg, _⟩
  · cases hg
  · have : g' = g := by simpa [Value.ownBlock] using hg
    subst this
    exact ⟨hb, lt_of_block hgg, cur, hgg⟩

/-- Behind the closure's append and its store. -/
theorem kept_step {w0 W W1 w2 w3 : World} {p : Nat} {s : List R × Nat} {t : T} {v v' : Value} (hI : Kept w0 p s W) (hv : W.heap[p]? = some (.cells #[v] 38 (0, 0))) (how : Owns W (p + 1) v s.1)
    (h1 : Below W.heap.size W W1) (h2 : Below W1.heap.size W1 w2) (ho3 : Owns w3 (p + 1) v' (s.1 ++ linesB t (fitB t))) (hg : w2.grownBy w3 v.ownBlock) (hl : t.kids.length ≤ 999) :
    Kept w0 p (lstep s t).2 (w3.setCell ⟨p, 0, none⟩ v') ∧ Fr (LOwn p) s W (lstep s t).2 (w3.setCell ⟨p, 0, none⟩ v') := by
  have h12 : Below W.heap.size W w2 := h1.trans (h2.mono h1.size)
  have hpW := lt_of_block hv
  have hpv : v.ownBlock ≠ some p := fun h => by have := (own_kind how h).1; omega
  have hp3 : w3.heap[p]? = some (.cells #[v] 38 (0, 0)) := by
    rw [hg.block p (by have := h12.size; omega) (fun h => hpv h.symm), h12.block p hpW, hv]
  have hpF : (w3.setCell ⟨p, 0, none⟩ v').heap[p]? = some (.cells #[v'] 38 (0, 0)) := by
    have := set_block0 (i := 0) hp3 v'
    simpa using this
  have hoF : ∀ k, k ≠ p → (w3.setCell ⟨p, 0, none⟩ v').heap[k]? = w3.heap[k]? := fun k hk => Below.heap_setCell _ ⟨p, 0, none⟩ _ k hk
  have hsF : (w3.setCell ⟨p, 0, none⟩ v').heap.size = w3.heap.size := by simp [World.setCell]
  have hle : W.heap.size ≤ w3.heap.size := Nat.le_trans h12.size hg.size
  have hsame : ∀ k, k < W.heap.size → k ≠ p → v.ownBlock ≠ some k → (w3.setCell ⟨p, 0, none⟩ v').heap[k]? = W.heap[k]? := fun k hk hkp hkv => by
    rw [hoF k hkp, hg.block k (by have := h12.size; omega) (fun h => hkv h.symm), h12.block k hk]
  have hlow3 : Below w0.heap.size w0 w3 := (hI.low.trans (h12.mono hI.low.size)).grown hg (Nat.le_trans hI.low.size h12.size) (fun k hk => by have := (own_kind how hk).1; have := hI.place; omega)
  constructor
  · refine ⟨hlow3.setCell (by have := hI.place; simpa using this) _, hI.place, ⟨v', hpF, ?_⟩, ?_⟩
    · refine ⟨ho3.1, ?_⟩
      rcases ho3.2 with hn | ⟨g, cap, cur, hvg, hg0, hgg, rest⟩
      · exact .inl hn
      · exact .inr ⟨g, cap, cur, hvg, hg0, (hoF g (by omega)).trans hgg, rest⟩
    · have h3 := linesB_len t (fitB t)
      have h4 := hI.len
      show (s.1 ++ linesB t (fitB t)).length ≤ 999 * (s.2 + 1)
      rw [List.length_append]
      omega
  · refine ⟨?_, ?_, ?_, by rw [hsF]; exact hle, fun k hk hn => ?_, fun k hk => ?_⟩
    · show w3.os = W.os; rw [hg.os, h12.os]
    · show w3.tape = W.tape; rw [hg.tape, h12.tape]
    · show w3.output = W.output; rw [hg.output, h12.output]
    · refine hsame k hk (fun h => hn (.inl h)) fun h => ?_
      obtain ⟨a1, a2, a3⟩ := own_kind how h
      exact hn (.inr ⟨a1, a3⟩)
    · rcases Nat.lt_or_ge k W.heap.size with hkW | hkW
      · left
        rcases hk with rfl | ⟨hk1, cs, hk2⟩
        · exact .inl rfl
        · by_cases hkv : v.ownBlock = some k
          · obtain ⟨a1, a2, a3⟩ := own_kind how hkv
            exact .inr ⟨a1, a3⟩
          · rw [hsame k hkW (by omega) hkv] at hk2
            exact .inr ⟨hk1, cs, hk2⟩
      · exact .inr hkW

theorem enters40 : Enters 40 := enters_of Try.func40 (by kernel_rfl) rfl
set_option maxRecDepth 100000 in
set_option maxHeartbeats 800000 in
theorem lines1_any (w0 : World) (p : Nat) (t : T) : JudgeF (fun s : List R × Nat => 999 - s.2) w0 (LOwn p) (Kept w0 p) 40 #[.pointer (some ⟨p, 0, none⟩)] lstep t := by
  intro s c W hsz0 hi hI
  have hsz : sz t ≤ 999 - s.2 := hsz0
  clear hsz0
  obtain ⟨v, hv, how⟩ := hI.row
  have HA : Hid (Below W.heap.size W (W.alloc (cbox c))) := (Below.refl _ _).alloc (Nat.le_refl _) _
  have hk := kids_le hsz
  have HK : Hid (t.kids.length ≤ 999) := Lib.hid (by omega)
  have HB := Lib.hid (between_any t c (W.alloc (cbox c)) ((hi.up hI.low).up HA.out) HK.out)
  have HI := Lib.hid hI
  have HV := Lib.hid hv
  have HOW := Lib.hid how
  have HLN : Hid (s.1.length ≤ 998001) := Lib.hid (by have := hI.len; have := sz_pos t; omega)
  have HP : Hid (p < W.heap.size) := Lib.hid (lt_of_block hv)
  have HVP : Hid (v.ownBlock ≠ some p) := Lib.hid fun h => by have := (own_kind how h).1; omega
  clear hi hI hv how hsz hk
  go_enter Try.func40, Try.ntmps40
  go_wp2_with fail
  refine HB.out.mono ?_
  rintro e w2 ⟨v2, rfl, hr2, hb2⟩
  have HB2 := Lib.hid hb2
  have HW2 := Lib.hid (HA.out.trans (hb2.mono HA.out.size))
  have HR2 := Lib.hid hr2
  have HO2 := Lib.hid ((HOW.out.up HA.out).up hb2)
  have c0 : w2.cell? ⟨p, 0, none⟩ = some v := by
    have h2 : w2.heap[p]? = some (.cells #[v] 38 (0, 0)) := (HW2.out.block p HP.out).trans HV.out
    simp [World.cell?, h2]
  have HLL : Hid ((linesB t (fitB t)).length ≤ 999) := Lib.hid (Nat.le_trans (linesB_len t _) HK.out)
  have hbase : Hid (p + 1 ≤ w2.heap.size) := Lib.hid (by have := HW2.out.size; have := HP.out; omega)
  clear hb2 hr2
  go_wp2_with (at_builtin; refine wpList_append_rects rfl _ _ rfl (p + 1) _ v2 _ (linesB t (fitB t)) rfl HO2.out rfl HR2.out (by have := HLN.out; have := HLL.out; omega) w2 (Below.refl _ _) hbase.out ?_)
  intro v3 w3 ho3 hb3 hg3 _
  have HST := Lib.hid (kept_step HI.out HV.out HOW.out HA.out HB2.out ho3 hg3 HK.out)
  have h3 : w3.heap[p]? = some (.cells #[v] 38 (0, 0)) := by
    rw [hg3.block p (by have := HW2.out.size; have := HP.out; omega) (fun h => HVP.out h.symm), HW2.out.block p HP.out, HV.out]
  have e0 : w3.cell? ⟨p, 0, none⟩ = some v := by simp [World.cell?, h3]
  have f0 : w3.frozen? ⟨p, 0, none⟩ = false := by simp [World.frozen?, h3]
  obtain ⟨a3, cap3, rfl⟩ := ho3.row.shape
  rw [List.length_append] at HST
  clear ho3 hb3 hg3 h3 c0
  go_wp2
  go_ret
  exact ⟨rfl, HST.out.1, HST.out.2⟩

theorem fold_lines (l : List T) : ∀ s : List R × Nat, l.all fitB = true → l.foldl (fun s t => (lstep s t).2) s = (s.1 ++ allLines l, s.2 + l.length) := by
  induction l with
  | nil => intro s _; simp [allLines]
  | cons t l ih =>
    intro s h
    rw [List.all_cons, Bool.and_eq_true] at h
    rw [List.foldl_cons, ih _ h.2]
    simp only [lstep, linesB, h.1, if_true, allLines, List.flatMap_cons, List.append_assoc, List.length_cons]
    rw [show s.2 + 1 + l.length = s.2 + (l.length + 1) by omega]
def linesIf (t : T) (b : Bool) : List R := if b = true then allLines (preT t) else []

theorem linesF_any (t : T) (c : C) (w0 : World) (hi : Is w0 c t) (hs : sz t ≤ 999) (ht : (preT t).all fitB = true) :
    Calls Try.prog 39 #[cval c, .func (.func 40) #[] #[.pointer (some ⟨w0.heap.size, 0, none⟩)]] (w0.alloc (.cells #[.slice none 0 0] 38)) fun e w' => (∃ x y, e = .returned (.tuple #[x, y])) ∧ Below w0.heap.size w0 w' ∧ ∃ v, w'.cell? ⟨w0.heap.size, 0, none⟩ = some v ∧ RRow w' v (allLines (preT t)) := by
  have hI : Kept w0 w0.heap.size ([], 0) (w0.alloc (.cells #[.slice none 0 0] 38)) := ⟨(Below.refl _ _).alloc (Nat.le_refl _) _, Nat.le_refl _, ⟨.slice none 0 0, heap_alloc_new w0 _, Owns.nil _ _⟩, by simp⟩
  have H := first_any (keptM w0 w0.heap.size) 40 enters40 _ lstep (fun s => 999 - s.2) (fun s t => by simp only [lstep]; omega) (lines1_any w0 w0.heap.size) (sz t) t c ([], 0) _ (Nat.le_refl _) (by omega) (by simpa using hs) hi hI
  refine H.mono fun e w' ⟨h1, h2, _⟩ => ⟨⟨_, _, h1⟩, h2.low, ?_⟩
  obtain ⟨v, hv, ho⟩ := h2.row
  refine ⟨v, by simp [World.cell?, hv], ?_⟩
  have hq : firstT lstep ([], 0) t = (((preT t).findIdx (fun _ => false), (preT t).any fun _ => false), (visit (fun _ => false) (preT t)).foldl (fun s t => (lstep s t).2) ([], 0)) := firstT_pre (fun _ => false) (fun s t => (lstep s t).2) t ([], 0)
  have hva : visit (fun _ => false) (preT t) = preT t := visit_none (by simp)
  rw [hq, hva, fold_lines _ _ ht] at ho
  simpa using ho.row

set_option maxRecDepth 100000 in
set_option maxHeartbeats 800000 in
theorem lines_any (t : T) (c : C) (w : World) (hi : Is w c t) (hs : sz t ≤ 999) : Calls Try.prog 19 #[cval c] w fun e w' => ∃ v, e = .returned v ∧ RRow w' v (linesIf t (tileB t)) ∧ Below w.heap.size w w' := by
  have HA : Hid (Below w.heap.size w (w.alloc (cbox c))) := (Below.refl _ _).alloc (Nat.le_refl _) _
  have HC := Lib.hid (cbox_new w c)
  have HT := Lib.hid (tilesOne_any t c (w.alloc (cbox c)) (hi.up HA.out) (fun _ => hs) (w.heap.size + 1) (by simp))
  have HI := Lib.hid hi
  have HS := Lib.hid hs
  clear hi hs
  cases ht : tileB t with
  | false =>
    rw [ht] at HT
    clear ht
    go_enter Try.func19, Try.ntmps19
    go_wp2_with fail
    refine HT.out.mono ?_
    rintro e w2 ⟨rfl, hb2⟩
    have HB2 := Lib.hid (HA.out.trans (hb2.mono HA.out.size))
    clear hb2
    go_wp2
    go_ret
    exact ⟨_, rfl, .inl ⟨_, _, rfl, rfl⟩, HB2.out⟩
  | true =>
    have HFA : Hid ((preT t).all fitB = true) := Lib.hid (by unfold tileB at ht; rw [Bool.and_eq_true] at ht; exact ht.2)
    rw [ht] at HT
    clear ht
    go_enter Try.func19, Try.ntmps19
    go_wp2_with fail
    refine HT.out.mono ?_
    rintro e w2 ⟨rfl, hb2⟩
    have HB2 := Lib.hid (HA.out.trans (hb2.mono HA.out.size))
    have C2 := Lib.hid (HC.out.up hb2)
    have C3 := Lib.hid (C2.out.up ((Below.refl _ _).alloc (Nat.le_refl _) (.cells #[.slice none 0 0] 38)))
    have HF := Lib.hid (linesF_any t c w2 (HI.out.up HB2.out) HS.out HFA.out)
    clear hb2
    go_upto_region 4 with (fail)
    change Code.wp _ _ _ _ (w2.alloc (.cells #[.slice none 0 0] 38))
    generalize w2.alloc (.cells #[.slice none 0 0] 38) = w2a at C3 HF ⊢
    obtain ⟨c0, c1, c2, c3, c4, c5, c6⟩ := C3.out
    simp only [Nat.zero_add] at c1 c2 c3 c4 c5 c6
    go_wp2_with fail
    refine HF.out.mono ?_
    rintro e w3 ⟨⟨x, y, rfl⟩, hb3, v, hv, hr3⟩
    have HB3 := Lib.hid (HB2.out.trans (hb3.mono HB2.out.size))
    have HR3 := Lib.hid hr3
    clear hb3 hr3 c0 c1 c2 c3 c4 c5 c6
    go_wp2
    go_ret
    exact ⟨v, rfl, HR3.out, HB3.out⟩
end Go.Proofs.Ytibjpkicchdomaa
