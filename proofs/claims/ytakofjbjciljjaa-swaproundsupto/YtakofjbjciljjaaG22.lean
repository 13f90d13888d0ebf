/- Texts of this seat, 3 in one file. -/
import Derived.Test.YtakofjbjciljjaaG21
import Derived.Test.YtakofjbjciljjaaG20
/- Do all these trees tile? -/
namespace Go.Proofs.Ytakofjbjciljjaa
open Go.RowKit

noncomputable def tileB (t : T) : Bool := mayT t && (preT t).all fitB
theorem neq_some (u : TypeId) (x : Value) (w : World) : (binOp .neq 75 (.iface u x) .nilIface).run Try.prog w = .ok (.bool true) w := by kernel_rfl
theorem neq_none (w : World) : (binOp .neq 75 .nilIface .nilIface).run Try.prog w = .ok (.bool false) w := by kernel_rfl
theorem enters36 : Enters 45 := enters_of Try.func45 (by kernel_rfl) rfl

theorem check_nil {t : T} {w : World} {e : Ending} {w' : World} (h : CheckSays t w e w') : Below w.heap.size w w' ∧ ((tileB t = true ∧ e = .returned .nilIface) ∨ (tileB t = false ∧ ∃ u x, e = .returned (.iface u x))) := by
  obtain ⟨v, rfl, hb, ⟨h1, b, rfl, -⟩ | ⟨h1, h2, rfl⟩ | ⟨h1, h2, b, rfl, -⟩⟩ := h
  · exact ⟨hb, .inr ⟨by unfold tileB; rw [h1]; rfl, _, _, rfl⟩⟩
  · exact ⟨hb, .inl ⟨by unfold tileB; rw [h1, h2]; rfl, rfl⟩⟩
  · exact ⟨hb, .inr ⟨by unfold tileB; rw [h1, h2]; rfl, _, _, rfl⟩⟩

set_option maxRecDepth 100000 in
theorem tiles1_any (t : T) (c : C) (w : World) (hi : Is w c t) (hs : mayT t = true → sz t ≤ 20000) : Calls Try.prog 45 #[cval c] w fun e w' => e = .returned (.bool (!tileB t)) ∧ Below w.heap.size w w' := by
  have HA : Hid (Below w.heap.size w (w.alloc (cbox c))) := (Below.refl _ _).alloc (Nat.le_refl _) _
  have HCK := Lib.hid ((check_any t c (w.alloc (cbox c)) (hi.up HA.out) hs).mono fun e w' h => check_nil h)
  have nS := neq_some
  have nN := neq_none
  clear hi
  generalize tileB t = b at HCK ⊢
  go_enter Try.func45, Try.ntmps45
  go_wp2_with fail
  refine HCK.out.mono ?_
  rintro e w2 ⟨hb2, ⟨rfl, rfl⟩ | ⟨rfl, u, x, rfl⟩⟩
  · have HB2 := Lib.hid (HA.out.trans (hb2.mono HA.out.size))
    clear hb2
    go_wp2
    go_ret
    exact ⟨rfl, HB2.out⟩
  · have HB2 := Lib.hid (HA.out.trans (hb2.mono HA.out.size))
    clear hb2
    go_wp2
    go_ret
    exact ⟨rfl, HB2.out⟩

def IdxSays (l : List T) (w : World) (e : Ending) (w' : World) : Prop := ∃ n : Int, e = .returned (.int .i64 n) ∧ (l.all tileB = true → n = -1) ∧ (l.all tileB = false → 0 ≤ n) ∧ Below w.heap.size w w'
theorem all_no {l : List T} {k : Nat} {t : T} (h : l[k]? = some t) (ht : tileB t = false) : l.all tileB = false := by
  cases e : l.all tileB with
  | false => rfl
  | true => rw [List.all_eq_true.1 e t (List.mem_of_getElem? h)] at ht; cases ht
theorem all_yes {l : List T} (h : ∀ (k : Nat) (t : T), l[k]? = some t → tileB t = true) : l.all tileB = true := by
  rw [List.all_eq_true]
  intro t ht
  obtain ⟨k, hk⟩ := List.getElem?_of_mem ht
  exact h k t hk

set_option maxRecDepth 100000 in
set_option maxHeartbeats 800000 in
theorem idxT_any (l : List T) (v : Value) (w : World) (hr : TRow w v l) (hl : l.length ≤ 1954687338211) (hs : ∀ t ∈ l, mayT t = true → sz t ≤ 20000) :
    Calls Try.prog 59 #[v, .func (.func 45) #[] #[]] w (IdxSays l w) := by
  have hent : ∀ (args : Array Value) (w : World), (callFunc 45 args).run Try.prog w = .ok (.enter 45 args) w := enters36
  obtain ⟨a, cap, rfl⟩ := hr.shape
  have HR := Lib.hid hr
  have HS := Lib.hid hs
  clear hr hs
  go_enter Try.func59, Try.ntmps59
  go_wp2
  go_loopg [8] (l.length + 1) (fun g i wr => ∃ k : Nat, g + k = l.length + 1 ∧ k ≤ l.length ∧ i = .int .i64 k ∧ (∀ (j : Nat) (t : T), j < k → l[j]? = some t → tileB t = true) ∧ Below w.heap.size w wr)
  case atStart => exact ⟨0, by omega, by omega, rfl, fun j t hj => by omega, Below.refl _ _⟩
  case round =>
    obtain ⟨k, hg, hk, rfl, hsame, hb⟩ := hrel
    have HG := Lib.hid hg
    have HSM := Lib.hid hsame
    have HB := Lib.hid hb
    clear hg hsame hb
    by_cases hlt : k < l.length
    · obtain ⟨t, ht⟩ : ∃ t, l[k]? = some t := ⟨_, List.getElem?_eq_getElem hlt⟩
      obtain ⟨b1, o1, rfl, hf1⟩ := HR.out.place (by omega)
      obtain ⟨x, hx, hix⟩ := hf1 k t ht
      clear hf1
      obtain ⟨c0, c1, c2, c3, c4, c5, c6⟩ := hx.up HB.out
      have HC := Lib.hid (tiles1_any t x wr (hix.up HB.out) (HS.out t (List.mem_of_getElem? ht)))
      have HT := Lib.hid ht
      clear ht hx hix
      cases hst : tileB t with
      | true =>
        rw [hst] at HC
        have HST := Lib.hid hst
        clear hst
        go_wp2_with fail
        refine HC.out.mono ?_
        rintro e w2 ⟨rfl, hb2⟩
        have HB2 := Lib.hid (HB.out.trans (hb2.mono HB.out.size))
        clear hb2
        go_wp2
        go_roundg (gk - 1)
        case measure => have := HG.out; omega
        case rel =>
          refine ⟨k + 1, by have := HG.out; omega, by omega, by go_num, fun j a hj ha => ?_, HB2.out⟩
          rcases Nat.lt_or_ge j k with h | h
          · exact HSM.out j a h ha
          · obtain rfl : j = k := by omega
            rw [HT.out] at ha
            cases ha
            exact HST.out
      | false =>
        rw [hst] at HC
        have HST := Lib.hid (all_no HT.out hst)
        clear hst
        go_wp2_with fail
        refine HC.out.mono ?_
        rintro e w2 ⟨rfl, hb2⟩
        have HB2 := Lib.hid (HB.out.trans (hb2.mono HB.out.size))
        clear hb2
        go_wp2
        go_ret
        exact ⟨k, rfl, (fun h => by rw [HST.out] at h; cases h), fun _ => by omega, HB2.out⟩
    · obtain rfl : k = l.length := by omega
      have hkl : ((l.length : Int) < (l.length : Int)) = False := by simp
      have HST := Lib.hid (all_yes (fun k t ht => HSM.out k t (by
        rcases Nat.lt_or_ge k l.length with h | h
        · exact h
        · rw [List.getElem?_eq_none h] at ht; cases ht) ht))
      go_wp2
      go_ret
      exact ⟨-1, rfl, fun _ => rfl, (fun h => by rw [HST.out] at h; cases h), HB.out⟩

set_option maxRecDepth 100000 in
theorem hasT_any (l : List T) (v : Value) (w : World) (hr : TRow w v l) (hl : l.length ≤ 1954687338211) (hs : ∀ t ∈ l, mayT t = true → sz t ≤ 20000) :
    Calls Try.prog 44 #[v, .func (.func 45) #[] #[]] w fun e w' => e = .returned (.bool (!(l.all tileB))) ∧ Below w.heap.size w w' := by
  have H2 : Hid (Calls Try.prog 59 #[v, .func (.func 45) #[] #[]] w fun e w' => ∃ n : Int, e = .returned (.int .i64 n) ∧ decide (0 ≤ n) = (!(l.all tileB)) ∧ Below w.heap.size w w') := Lib.hid ((idxT_any l v w hr hl hs).mono fun e w' ⟨n, h1, h2, h3, h4⟩ => ⟨n, h1, by
    cases hb : l.all tileB with
    | true => rw [h2 hb]; rfl
    | false => exact decide_eq_true (h3 hb), h4⟩)
  obtain ⟨a, cap, rfl⟩ := hr.shape
  clear hr hs
  generalize (!(l.all tileB)) = b at H2 ⊢
  go_enter Try.func44, Try.ntmps44
  go_wp2_with fail
  refine H2.out.mono ?_
  rintro e w2 ⟨n, rfl, hd, hb2⟩
  have HB2 := Lib.hid hb2
  clear hb2
  subst hd
  go_wp2
  go_ret
  exact ⟨rfl, HB2.out⟩

set_option maxRecDepth 100000 in
theorem tiles_any (l : List T) (v : Value) (w : World) (hr : TRow w v l) (hl : l.length ≤ 1954687338211) (hs : ∀ t ∈ l, mayT t = true → sz t ≤ 20000) :
    Calls Try.prog 31 #[v] w fun e w' => e = .returned (.bool (l.all tileB)) ∧ Below w.heap.size w w' := by
  have H := Lib.hid (hasT_any l v w hr hl hs)
  obtain ⟨a, cap, rfl⟩ := hr.shape
  clear hr hs
  generalize l.all tileB = b at H ⊢
  go_enter Try.func31, Try.ntmps31
  go_wp2_with fail
  refine H.out.mono ?_
  rintro e w2 ⟨rfl, hb2⟩
  have HB2 := Lib.hid hb2
  clear hb2
  go_wp2
  go_ret
  exact ⟨by simp, HB2.out⟩
/-- Of one. -/
theorem tilesOne_any (t : T) (c : C) (w : World) (hi : Is w c t) (hs : mayT t = true → sz t ≤ 20000) (n : Nat) (hn : n = w.heap.size) :
    Calls Try.prog 31 #[.slice (some ⟨n, 0, none⟩) 1 1] (w.alloc (cbox c)) fun e w' => e = .returned (.bool (tileB t)) ∧ Below w.heap.size w w' := by
  subst hn
  refine (tiles_any [t] _ _ (trow1 hi) (by simp) (fun u hu => by simp at hu; subst hu; exact hs)).mono ?_
  rintro e w' ⟨rfl, hb⟩
  exact ⟨by simp, below_one hb⟩
end Go.Proofs.Ytakofjbjciljjaa
/- May a tree be? The program's answer is the document's. -/
namespace Go.Proofs.Ytakofjbjciljjaa
open Go.RowKit

def idsP (l : List T) : List Int := (l.filter leafB).map T.id
theorem idsP_append (a b : List T) : idsP (a ++ b) = idsP a ++ idsP b := by simp [idsP]
theorem idsP_cons (t : T) (l : List T) : idsP (t :: l) = (if leafB t then [t.id] else []) ++ idsP l := by
  unfold idsP
  cases h : leafB t <;> simp [h]
/-- All may be, and no number was met ahead. -/
def okP (l : List T) (ms : List Int) : Prop := l.all wellT = true ∧ ((idsP l).reverse ++ ms).Nodup
theorem nodup_rev {a : List Int} : a.reverse.Nodup ↔ a.Nodup := by
  unfold List.Nodup
  rw [List.pairwise_reverse]
  exact ⟨fun h => h.imp fun hab e => hab e.symm, fun h => h.imp fun hab e => hab e.symm⟩
theorem nodup_right {a b : List Int} (h : (a ++ b).Nodup) : b.Nodup := h.sublist (List.sublist_append_right a b)

theorem step_bad {n : Nat} {ms : List Int} {t : T} (hn : n + 1 ≤ 20000) (h : wellT t = false) : (mayStep (n, ms) t).1 = true := by
  rw [mayStep, if_pos (.inr h)]
theorem step_row {n : Nat} {ms : List Int} {t : T} (hn : n + 1 ≤ 20000) (h : wellT t = true) (hk : leafB t = false) : mayStep (n, ms) t = (false, (n + 1, ms)) := by
  rw [mayStep, if_neg (by simp [h]; omega), if_pos (by simpa [leafB] using hk)]
theorem step_leaf {n : Nat} {ms : List Int} {t : T} (hn : n + 1 ≤ 20000) (h : wellT t = true) (hk : leafB t = true) : mayStep (n, ms) t = (decide (t.id ∈ ms), (n + 1, t.id :: ms)) := by
  rw [mayStep, if_neg (by simp [h]; omega), if_neg (by simpa [leafB] using hk)]

mutual
theorem goT_may : ∀ (t : T) (n : Nat) (ms : List Int), n + sz t ≤ 20000 → ms.Nodup →
    (okP (preT t) ms → goT mayStep (n, ms) t = (false, (n + sz t, (idsP (preT t)).reverse ++ ms))) ∧ (¬ okP (preT t) ms → (goT mayStep (n, ms) t).1 = true)
  | .node k r i l, n, ms, hn, hms => by
    have ihl := goL_may l
    rw [sz] at hn
    rw [goT_eq, preT, idsP_cons]
    cases hw : wellT (.node k r i l) with
    | false =>
      have h1 := step_bad (ms := ms) (show n + 1 ≤ 20000 by omega) hw
      refine ⟨fun h => ?_, fun _ => by rw [if_pos h1]; exact h1⟩
      have := h.1
      rw [List.all_cons, hw] at this
      cases this
    | true =>
      cases hk : leafB (.node k r i l) with
      | false =>
        rw [step_row (by omega) hw hk]
        obtain ⟨h1, h2⟩ := ihl (n + 1) ms (by omega) hms
        have hok : okP (.node k r i l :: preL l) ms ↔ okP (preL l) ms := by
          unfold okP
          rw [List.all_cons, hw, idsP_cons, hk]
          simp
        simp only [Bool.false_eq_true, if_false, List.nil_append, T.kids]
        refine ⟨fun h => ?_, fun h => h2 (fun g => h (hok.2 g))⟩
        rw [h1 (hok.1 h), sz]
        simp only [Prod.mk.injEq, true_and, and_true]
        omega
      | true =>
        rw [step_leaf (by omega) hw hk]
        have hid : (T.node k r i l).id = i := rfl
        rw [hid]
        have hok : okP (.node k r i l :: preL l) ms ↔ okP (preL l) (i :: ms) := by
          unfold okP
          rw [List.all_cons, hw, idsP_cons, hk, hid]
          simp
        by_cases hm : i ∈ ms
        · refine ⟨fun h => ?_, fun _ => by simp [hm]⟩
          have := nodup_right (hok.1 h).2
          rw [List.nodup_cons] at this
          exact absurd hm this.1
        · obtain ⟨h1, h2⟩ := ihl (n + 1) (i :: ms) (by omega) (List.nodup_cons.2 ⟨hm, hms⟩)
          simp only [decide_eq_false hm, Bool.false_eq_true, if_false, T.kids]
          refine ⟨fun h => ?_, fun h => h2 (fun g => h (hok.2 g))⟩
          rw [h1 (hok.1 h), sz]
          simp
          omega
theorem goL_may : ∀ (l : List T) (n : Nat) (ms : List Int), n + szL l ≤ 20000 → ms.Nodup →
    (okP (preL l) ms → goL mayStep (n, ms) l = (false, (n + szL l, (idsP (preL l)).reverse ++ ms))) ∧ (¬ okP (preL l) ms → (goL mayStep (n, ms) l).1 = true)
  | [], n, ms, hn, hms => by
    rw [goL, preL, szL]
    refine ⟨fun _ => by simp [idsP], fun h => absurd ⟨rfl, by simpa [idsP] using hms⟩ h⟩
  | t :: l, n, ms, hn, hms => by
    rw [szL] at hn
    obtain ⟨h1, h2⟩ := goT_may t n ms (by omega) hms
    have ihl := goL_may l
    rw [goL, preL, szL, idsP_append]
    by_cases ht : okP (preT t) ms
    · rw [h1 ht]
      obtain ⟨g1, g2⟩ := ihl (n + sz t) ((idsP (preT t)).reverse ++ ms) (by omega) ht.2
      have hok : okP (preT t ++ preL l) ms ↔ okP (preL l) ((idsP (preT t)).reverse ++ ms) := by
        unfold okP
        rw [List.all_append, ht.1, idsP_append]
        simp
      simp only [Bool.false_eq_true, if_false]
      refine ⟨fun h => ?_, fun h => g2 (fun g => h (hok.2 g))⟩
      rw [g1 (hok.1 h)]
      simp
      omega
    · have h3 := h2 ht
      rw [if_pos h3]
      refine ⟨fun h => absurd ⟨?_, ?_⟩ ht, fun _ => h3⟩
      · have := h.1
        rw [List.all_append, Bool.and_eq_true] at this
        exact this.1
      · have := h.2
        rw [idsP_append, List.reverse_append, List.append_assoc] at this
        exact nodup_right this
end

theorem may_is {t : T} (h : sz t ≤ 20000) : mayT t = rmayT t := by
  obtain ⟨h1, h2⟩ := goT_may t 0 [] (by omega) List.nodup_nil
  rw [mayT, rmayT]
  by_cases hk : okP (preT t) []
  · rw [h1 hk]
    have hnd : (((preT t).filter leafB).map T.id).Nodup := by
      have := hk.2
      rw [List.append_nil] at this
      have := nodup_rev.1 this
      exact this
    rw [hk.1, decide_eq_true hnd]; rfl
  · rw [h2 hk]
    symm
    cases e : (preT t).all wellT with
    | false => rfl
    | true =>
      rw [decide_eq_false]; rfl
      intro hnd
      exact hk ⟨e, by rw [List.append_nil]; exact nodup_rev.2 hnd⟩
end Go.Proofs.Ytakofjbjciljjaa
/- What may be is small; the kids of what tiles tile. -/
namespace Go.Proofs.Ytakofjbjciljjaa
open Go.RowKit

theorem mayStep_small {s : Nat × List Int} {t : T} (h : (mayStep s t).1 = false) : (mayStep s t).2.1 = s.1 + 1 ∧ s.1 + 1 ≤ 20000 := by
  unfold mayStep at h ⊢
  split at h
  · cases h
  · rename_i hn
    rw [if_neg hn]
    constructor
    · split <;> rfl
    · omega
mutual
theorem go_small (s : Nat × List Int) : ∀ t, (goT mayStep s t).1 = false → (goT mayStep s t).2.1 = s.1 + sz t ∧ s.1 + sz t ≤ 20000
  | .node k r i l => by
    intro h
    rw [goT] at h ⊢
    rw [sz]
    by_cases hf : (mayStep s (.node k r i l)).1 = true
    · rw [if_pos hf, hf] at h; cases h
    · rw [if_neg hf] at h ⊢
      obtain ⟨h1, h2⟩ := mayStep_small (s := s) (t := .node k r i l) (by simpa using hf)
      have h3 := goL_small (mayStep s (.node k r i l)).2 l h (by omega)
      omega
theorem goL_small (s : Nat × List Int) : ∀ l, (goL mayStep s l).1 = false → s.1 ≤ 20000 → (goL mayStep s l).2.1 = s.1 + szL l ∧ s.1 + szL l ≤ 20000
  | [] => by
    intro _ hs
    rw [goL, szL]
    exact ⟨rfl, hs⟩
  | t :: l => by
    intro h hs
    rw [goL] at h ⊢
    rw [szL]
    by_cases hf : (goT mayStep s t).1 = true
    · rw [if_pos hf, hf] at h; cases h
    · rw [if_neg hf] at h ⊢
      have h1 := go_small s t (by simpa using hf)
      have h3 := goL_small (goT mayStep s t).2 l h (by omega)
      omega
end
theorem may_small {t : T} (h : mayT t = true) : sz t ≤ 20000 := by
  unfold mayT at h
  have := go_small (0, []) t (by simpa using h)
  simp only at this
  omega
theorem tile_may {t : T} (h : tileB t = true) : mayT t = true := by
  unfold tileB at h
  rw [Bool.and_eq_true] at h
  exact h.1
theorem pre_cut {l : List T} {k : Nat} {u : T} (h : l[k]? = some u) : preL l = preL (l.take k) ++ preT u ++ preL (l.drop (k + 1)) := by
  conv => lhs; rw [← List.take_append_drop (k + 1) l]
  rw [preL_append, preL_step h]
theorem pre_sub {t u : T} {k : Nat} (h : t.kids[k]? = some u) : List.Sublist (preT u) (preT t) := by
  rw [preT_eq t, pre_cut h]
  refine List.Sublist.cons _ ?_
  rw [List.append_assoc]
  exact (List.sublist_append_left _ _).trans (List.sublist_append_right _ _)
theorem tile_kid {t u : T} {k : Nat} (hs : sz t ≤ 20000) (ht : tileB t = true) (h : t.kids[k]? = some u) : tileB u = true := by
  have hu : sz u < sz t := sz_kid h
  have hsub := pre_sub h
  unfold tileB at ht ⊢
  rw [may_is (by omega)] at ht ⊢
  unfold rmayT at ht ⊢
  simp only [Bool.and_eq_true, decide_eq_true_eq] at ht ⊢
  obtain ⟨⟨h1, h2⟩, h3⟩ := ht
  refine ⟨⟨?_, ?_⟩, ?_⟩
  · rw [List.all_eq_true] at h1 ⊢
    exact fun x hx => h1 x (hsub.mem hx)
  · exact ((hsub.filter leafB).map T.id).nodup h2
  · rw [List.all_eq_true] at h3 ⊢
    exact fun x hx => h3 x (hsub.mem hx)
theorem tile_top {t : T} (hs : sz t ≤ 20000) (ht : tileB t = true) : wellT t = true ∧ fitB t = true := by
  unfold tileB at ht
  rw [may_is (by omega)] at ht
  unfold rmayT at ht
  simp only [Bool.and_eq_true] at ht
  have hm : t ∈ preT t := by rw [preT_eq]; exact List.mem_cons_self ..
  exact ⟨List.all_eq_true.1 ht.1.1 t hm, List.all_eq_true.1 ht.2 t hm⟩
end Go.Proofs.Ytakofjbjciljjaa
