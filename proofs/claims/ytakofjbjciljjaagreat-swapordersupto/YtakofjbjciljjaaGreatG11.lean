/- Texts of this seat, 3 in one file. -/
import Derived.Test.YtakofjbjciljjaaGreatG09
import Derived.Test.YtakofjbjciljjaaGreatG10
import Derived.Test.YtakofjbjciljjaaGreatG05
import Derived.Test.YtakofjbjciljjaaGreatG06
/- Other numbers for the leaves of a tree. -/
namespace Go.Proofs.YtakofjbjciljjaaGreat
open Go.RowKit

mutual
def lvT : T → Nat
  | .node k _ _ l => (if k = 1 then 1 else 0) + lvL l
def lvL : List T → Nat
  | [] => 0
  | t :: l => lvT t + lvL l
end
mutual
def nmT (ms : List Int) : T → T
  | .node k r i l => .node k r (if k = 1 then ms.headD 0 else i) (nmL (ms.drop (if k = 1 then 1 else 0)) l)
def nmL (ms : List Int) : List T → List T
  | [] => []
  | t :: l => nmT ms t :: nmL (ms.drop (lvT t)) l
end
theorem lvT_eq (t : T) : lvT t = (if t.k = 1 then 1 else 0) + lvL t.kids := by cases t; rw [lvT]; rfl
theorem nmT_eq (ms : List Int) (t : T) : nmT ms t = .node t.k t.r (if t.k = 1 then ms.headD 0 else t.id) (nmL (ms.drop (if t.k = 1 then 1 else 0)) t.kids) := by cases t; rw [nmT]; rfl
theorem lvL_append (a b : List T) : lvL (a ++ b) = lvL a + lvL b := by
  induction a with
  | nil => simp [lvL]
  | cons t l ih => simp only [List.cons_append, lvL, ih]; omega
theorem lvL_step {l : List T} {k : Nat} {t : T} (h : l[k]? = some t) : lvL (l.take (k + 1)) = lvL (l.take k) + lvT t := by
  rw [List.take_add_one, h, lvL_append]; simp [lvL]
theorem lvL_take_le (l : List T) (k : Nat) : lvL (l.take k) ≤ lvL l := by
  have := lvL_append (l.take k) (l.drop k)
  rw [List.take_append_drop] at this; omega
theorem lvL_at {l : List T} {k : Nat} {t : T} (h : l[k]? = some t) : lvL (l.take k) + lvT t ≤ lvL l := by
  rw [← lvL_step h]; exact lvL_take_le l (k + 1)
theorem nmL_length (ms : List Int) (l : List T) : (nmL ms l).length = l.length := by
  induction l generalizing ms with
  | nil => simp [nmL]
  | cons t l ih => simp [nmL, ih]
theorem nmL_get (ms : List Int) (l : List T) (j : Nat) : (nmL ms l)[j]? = (l[j]?).map (fun t => nmT (ms.drop (lvL (l.take j))) t) := by
  induction l generalizing ms j with
  | nil => simp [nmL]
  | cons t l ih =>
    cases j with
    | zero => simp [nmL, lvL]
    | succ j =>
      simp only [nmL, List.getElem?_cons_succ, List.take_succ_cons, lvL]
      rw [ih, List.drop_drop]
theorem nmL_step {ms : List Int} {l : List T} {k : Nat} {t : T} (h : l[k]? = some t) : nmL ms (l.take (k + 1)) = nmL ms (l.take k) ++ [nmT (ms.drop (lvL (l.take k))) t] := by
  induction l generalizing ms k with
  | nil => simp at h
  | cons u l ih =>
    cases k with
    | zero => simp at h; subst h; simp [nmL, lvL]
    | succ k =>
      simp only [List.take_succ_cons, nmL, lvL, List.cons_append]
      rw [ih (by simpa using h), List.drop_drop]

theorem idsT_eq (t : T) : idsT t = (if t.k = 1 then [t.id] else []) ++ idsL t.kids := by
  unfold idsT idsL
  rw [preT_eq, List.filter_cons]
  by_cases h : t.k = 1
  · rw [if_pos h, if_pos (by simpa [leafB] using h)]; rfl
  · rw [if_neg h, if_neg (by simpa [leafB] using h)]; rfl
theorem idsL_cons (t : T) (l : List T) : idsL (t :: l) = idsT t ++ idsL l := by
  unfold idsT idsL
  rw [preL, List.filter_append, List.map_append]
mutual
theorem ids_len : ∀ t : T, (idsT t).length = lvT t
  | .node k r i l => by
    rw [idsT_eq, lvT_eq, List.length_append]
    show (if k = 1 then [i] else []).length + (idsL l).length = (if k = 1 then 1 else 0) + lvL l
    rw [idsL_len' l]
    split <;> rfl
theorem idsL_len' : ∀ l : List T, (idsL l).length = lvL l
  | [] => by rfl
  | t :: l => by rw [idsL_cons, lvL, List.length_append, ids_len t, idsL_len' l]
end
mutual
theorem nm_lv (ms : List Int) : ∀ t : T, lvT (nmT ms t) = lvT t
  | .node k r i l => by rw [nmT, lvT, lvT, nmL_lv _ l]
theorem nmL_lv (ms : List Int) : ∀ l : List T, lvL (nmL ms l) = lvL l
  | [] => by simp [nmL]
  | t :: l => by rw [nmL, lvL, lvL, nm_lv ms t, nmL_lv _ l]
end
mutual
theorem nm_sz (ms : List Int) : ∀ t : T, sz (nmT ms t) = sz t
  | .node k r i l => by rw [nmT, sz, sz, nmL_sz _ l]
theorem nmL_sz (ms : List Int) : ∀ l : List T, szL (nmL ms l) = szL l
  | [] => by simp [nmL]
  | t :: l => by rw [nmL, szL, szL, nm_sz ms t, nmL_sz _ l]
end
mutual
theorem nm_ids (ms : List Int) : ∀ t : T, lvT t ≤ ms.length → idsT (nmT ms t) = ms.take (lvT t)
  | .node k r i l => by
    intro h
    have ih := nmL_ids (ms.drop (if k = 1 then 1 else 0)) l
    rw [lvT] at h
    rw [nmT, idsT_eq, lvT]
    show (if k = 1 then [if k = 1 then ms.headD 0 else i] else []) ++ idsL (nmL (ms.drop (if k = 1 then 1 else 0)) l) = _
    by_cases hk : k = 1
    · simp only [hk, if_true] at h ih ⊢
      cases ms with
      | nil => simp at h
      | cons m ms =>
        simp only [List.drop_succ_cons, List.drop_zero, List.headD_cons] at ih ⊢
        rw [ih (by simp at h; omega), Nat.add_comm, List.take_succ_cons]; rfl
    · simp only [hk, if_false, List.drop_zero, List.nil_append, Nat.zero_add] at h ih ⊢
      exact ih h
theorem nmL_ids (ms : List Int) : ∀ l : List T, lvL l ≤ ms.length → idsL (nmL ms l) = ms.take (lvL l)
  | [] => by intro _; simp [nmL, lvL, idsL, preL]
  | t :: l => by
    intro h
    rw [lvL] at h
    rw [nmL, idsL_cons, nm_ids ms t (by omega), nmL_ids (ms.drop (lvT t)) l (by rw [List.length_drop]; omega), lvL, List.take_add]
end
theorem nm_ids_all {ms : List Int} {t : T} (h : ms.length = lvT t) : idsT (nmT ms t) = ms := by
  rw [nm_ids ms t (by omega), ← h, List.take_length]
mutual
theorem nm_back (ms rest : List Int) : ∀ t : T, nmT (idsT t ++ rest) (nmT ms t) = t
  | .node k r i l => by
    have ih := nmL_back (ms.drop (if k = 1 then 1 else 0)) rest l
    rw [nmT_eq]
    have e1 : (nmT ms (.node k r i l)).k = k := by rw [nmT]; rfl
    have e2 : (nmT ms (.node k r i l)).r = r := by rw [nmT]; rfl
    have e3 : (nmT ms (.node k r i l)).id = if k = 1 then ms.headD 0 else i := by rw [nmT]; rfl
    have e4 : (nmT ms (.node k r i l)).kids = nmL (ms.drop (if k = 1 then 1 else 0)) l := by rw [nmT]; rfl
    have e5 : idsT (.node k r i l) = (if k = 1 then [i] else []) ++ idsL l := idsT_eq _
    rw [e1, e2, e3, e4, e5]
    by_cases hk : k = 1
    · subst hk
      simp only [if_true, List.cons_append, List.nil_append, List.headD_cons, List.drop_succ_cons, List.drop_zero] at ih ⊢
      rw [ih]
    · simp only [hk, if_false, List.drop_zero, List.nil_append] at ih ⊢
      rw [ih]
theorem nmL_back (ms rest : List Int) : ∀ l : List T, nmL (idsL l ++ rest) (nmL ms l) = l
  | [] => by simp [nmL]
  | t :: l => by
    rw [nmL, nmL, idsL_cons, List.append_assoc, nm_back ms (idsL l ++ rest) t, nm_lv, ← ids_len t, List.drop_left, nmL_back _ rest l]
end
theorem nm_back_all (ms : List Int) (t : T) : nmT (idsT t) (nmT ms t) = t := by
  have := nm_back ms [] t
  rwa [List.append_nil] at this
theorem ids_panes (t : T) : (panesT t).map Pn.id = idsT t := by
  unfold panesT idsT; rw [List.map_map]; rfl
theorem panes_lv (t : T) : (panesT t).length = lvT t := by
  rw [← ids_len, ← ids_panes, List.length_map]
end Go.Proofs.YtakofjbjciljjaaGreat
/- Where the cells of a tree of the call's own stand: no two at one place; what becomes of it if its leaves' numbers are written over. -/
namespace Go.Proofs.YtakofjbjciljjaaGreat
open Go.RowKit

mutual
def adT : L → List (Nat × Nat)
  | .node b o xs => (b, o) :: adL xs
def adL : List L → List (Nat × Nat)
  | [] => []
  | x :: xs => adT x ++ adL xs
end
theorem adT_eq (x : L) : adT x = (x.b, x.o) :: adL x.kids := by cases x; rw [adT]; rfl
theorem adL_flat (xs : List L) : adL xs = (xs.map adT).flatten := by
  induction xs with
  | nil => simp [adL]
  | cons x xs ih => simp [adL, ih]
theorem mem_adL {xs : List L} {a : Nat × Nat} : a ∈ adL xs ↔ ∃ (j : Nat) (y : L), xs[j]? = some y ∧ a ∈ adT y := by
  rw [adL_flat, List.mem_flatten]
  constructor
  · rintro ⟨l, hl, ha⟩
    obtain ⟨y, hy, rfl⟩ := List.mem_map.1 hl
    obtain ⟨j, hj, rfl⟩ := List.getElem_of_mem hy
    exact ⟨j, _, List.getElem?_eq_getElem hj, ha⟩
  · rintro ⟨j, y, hy, ha⟩
    exact ⟨adT y, List.mem_map.2 ⟨y, List.mem_of_getElem? hy, rfl⟩, ha⟩
theorem adL_nodup {xs : List L} : (adL xs).Nodup ↔ (∀ (j : Nat) (y : L), xs[j]? = some y → (adT y).Nodup) ∧ ∀ (i j : Nat) (x y : L), i < j → xs[i]? = some x → xs[j]? = some y → ∀ a ∈ adT x, ∀ b ∈ adT y, a ≠ b := by
  rw [adL_flat]
  unfold List.Nodup
  rw [List.pairwise_flatten, List.pairwise_map, List.pairwise_iff_getElem]
  constructor
  · rintro ⟨h1, h2⟩
    refine ⟨fun j y hy => h1 _ (List.mem_map.2 ⟨y, List.mem_of_getElem? hy, rfl⟩), fun i j x y hij hx hy => ?_⟩
    obtain ⟨hi, rfl⟩ := List.getElem?_eq_some_iff.1 hx
    obtain ⟨hj, rfl⟩ := List.getElem?_eq_some_iff.1 hy
    exact h2 i j hi hj hij
  · rintro ⟨h1, h2⟩
    refine ⟨fun l hl => ?_, fun i j hi hj hij => h2 i j _ _ hij (List.getElem?_eq_getElem hi) (List.getElem?_eq_getElem hj)⟩
    obtain ⟨y, hy, rfl⟩ := List.mem_map.1 hl
    obtain ⟨j, hj, rfl⟩ := List.getElem_of_mem hy
    exact h1 j _ (List.getElem?_eq_getElem hj)
theorem flat_apart {Ss : List (List Nat)} (h : Ss.flatten.Nodup) {i j : Nat} {S R : List Nat} (hij : i ≠ j) (hi : Ss[i]? = some S) (hj : Ss[j]? = some R) : ∀ a ∈ S, ∀ b ∈ R, a ≠ b := by
  unfold List.Nodup at h
  rw [List.pairwise_flatten, List.pairwise_iff_getElem] at h
  obtain ⟨hi', rfl⟩ := List.getElem?_eq_some_iff.1 hi
  obtain ⟨hj', rfl⟩ := List.getElem?_eq_some_iff.1 hj
  rcases Nat.lt_or_gt_of_ne hij with hh | hh
  · exact h.2 i j hi' hj' hh
  · exact fun a ha b hb e => h.2 j i hj' hi' hh b hb a ha e.symm
theorem flat_each {Ss : List (List Nat)} (h : Ss.flatten.Nodup) {j : Nat} {R : List Nat} (hj : Ss[j]? = some R) : R.Nodup := by
  unfold List.Nodup at h
  rw [List.pairwise_flatten] at h
  exact h.1 R (List.mem_of_getElem? hj)

theorem OwnT.stands {w : World} {base : Nat} {c : C} {t : T} {S : List Nat} (h : OwnT w base c t S) : S.Nodup → ∀ (b o : Nat), CAt w b o c → b ∉ S →
    ∃ x, IsL w x c t ∧ x.b = b ∧ x.o = o ∧ (∀ a ∈ adT x, a = (b, o) ∨ (a.1 ∈ S ∧ a.2 % 7 = 0)) ∧ (adT x).Nodup := by
  induction h with
  | mk c ts cs Ss fine row len slen each ih =>
    intro hnd b o hc hb
    have hn : c.n = cs.length := row.row.len
    rcases Nat.eq_zero_or_pos cs.length with h0 | hp
    · have hts : ts = [] := List.length_eq_zero_iff.1 (by omega)
      have hcs : cs = [] := List.length_eq_zero_iff.1 h0
      subst hts; subst hcs
      refine ⟨.node b o [], .mk b o c [] [] [] hc fine (by simpa using hn) rfl rfl (fun j y hy => by simp at hy) (fun j y x u hy => by simp at hy), rfl, rfl, ?_, ?_⟩
      · intro a ha
        rw [adT, adL] at ha
        exact .inl (by simpa using ha)
      · rw [adT, adL]; simp
    · obtain ⟨g, cap', hv, hg1, hg2⟩ := row.form hp
      have hca : c.a = some ⟨g, 0, none⟩ := by injection hv
      have hgS : blk (.slice c.a c.n c.cap) = [g] := by rw [hv]; rfl
      rw [hgS] at hnd hb ⊢
      have hgF : g ∉ Ss.flatten := by
        rw [List.singleton_append, List.nodup_cons] at hnd
        exact hnd.1
      have hFn : Ss.flatten.Nodup := by
        rw [List.singleton_append, List.nodup_cons] at hnd
        exact hnd.2
      have hfl : ∀ (j : Nat) (x : C), cs[j]? = some x → CAt w g (j * 7) x := fun j x hx => by
        rw [hv] at row
        exact cat_of_flat (row.cells (g := g) rfl) j x hx
      obtain ⟨xs, hxl, hxs⟩ := pick_lt (n := ts.length) (Q := fun j y => ∀ (x : C) (u : T) (S : List Nat), cs[j]? = some x → ts[j]? = some u → Ss[j]? = some S → IsL w y x u ∧ y.b = g ∧ y.o = j * 7 ∧ (∀ a ∈ adT y, a = (g, j * 7) ∨ (a.1 ∈ S ∧ a.2 % 7 = 0)) ∧ (adT y).Nodup) fun j hj => by
        obtain ⟨x, hx⟩ := get_of len hj
        obtain ⟨u, hu⟩ := get_of rfl hj
        obtain ⟨S, hS⟩ := get_of slen hj
        obtain ⟨y, hy⟩ := ih j x u S hx hu hS (flat_each hFn hS) g (j * 7) (hfl j x hx) (fun hm => hgF (mem_flat.2 ⟨j, S, hS, hm⟩))
        exact ⟨y, fun x' u' S' hx' hu' hS' => by rw [hx] at hx'; rw [hu] at hu'; rw [hS] at hS'; cases hx'; cases hu'; cases hS'; exact hy⟩
      have hall : ∀ (j : Nat) (y : L), xs[j]? = some y → ∃ S, Ss[j]? = some S ∧ y.b = g ∧ y.o = j * 7 ∧ (∀ a ∈ adT y, a = (g, j * 7) ∨ (a.1 ∈ S ∧ a.2 % 7 = 0)) ∧ (adT y).Nodup := fun j y hy => by
        have hj : j < ts.length := by rw [← hxl]; exact lt_of_get hy
        obtain ⟨x, hx⟩ := get_of len hj
        obtain ⟨u, hu⟩ := get_of rfl hj
        obtain ⟨S, hS⟩ := get_of slen hj
        exact ⟨S, hS, (hxs j y hy x u S hx hu hS).2⟩
      refine ⟨.node b o xs, .mk b o c ts xs cs hc fine (by rw [hn, len]) hxl len (fun j y hy => ?_) (fun j y x u hy hx hu => ?_), rfl, rfl, ?_, ?_⟩
      · obtain ⟨S, -, h1, h2, -⟩ := hall j y hy
        exact ⟨g, 0, hca, h1, by rw [h2, Nat.zero_add]⟩
      · obtain ⟨S, hS⟩ := get_of slen (lt_of_get hu)
        exact (hxs j y hy x u S hx hu hS).1
      · intro a ha
        rw [adT_eq] at ha
        rcases List.mem_cons.1 ha with rfl | ha
        · exact .inl rfl
        · obtain ⟨j, y, hy, hay⟩ := mem_adL.1 ha
          obtain ⟨S, hS, -, -, h3, -⟩ := hall j y hy
          rcases h3 a hay with rfl | ⟨h4, h5⟩
          · exact .inr ⟨by simp, by simp⟩
          · exact .inr ⟨List.mem_append_right _ (mem_flat.2 ⟨j, S, hS, h4⟩), h5⟩
      · rw [adT_eq, List.nodup_cons]
        refine ⟨fun ha => ?_, adL_nodup.2 ⟨fun j y hy => ?_, fun i j x y hij hx hy a ha b' hb' e => ?_⟩⟩
        · obtain ⟨j, y, hy, hay⟩ := mem_adL.1 ha
          obtain ⟨S, hS, -, -, h3, -⟩ := hall j y hy
          rcases h3 _ hay with h4 | ⟨h4, -⟩
          · have : b = g := congrArg Prod.fst h4
            exact hb (by simp [this])
          · exact hb (List.mem_append_right _ (mem_flat.2 ⟨j, S, hS, h4⟩))
        · obtain ⟨S, hS, -, -, -, h4⟩ := hall j y hy
          exact h4
        · subst e
          obtain ⟨S, hS, -, -, h3, -⟩ := hall i x hx
          obtain ⟨R, hR, -, -, g3, -⟩ := hall j y hy
          rcases h3 a ha with h4 | ⟨h4, -⟩
          · rcases g3 a hb' with g4 | ⟨g4, -⟩
            · rw [h4] at g4
              have := congrArg Prod.snd g4
              simp only at this
              omega
            · rw [h4] at g4
              exact hgF (mem_flat.2 ⟨j, R, hR, g4⟩)
          · rcases g3 a hb' with g4 | ⟨g4, -⟩
            · rw [g4] at h4
              exact hgF (mem_flat.2 ⟨i, S, hS, h4⟩)
            · exact flat_apart hFn (by omega) hS hR _ h4 _ g4 rfl

theorem mem_lfL {xs : List L} {ts : List T} {a : Nat × Nat} (h : a ∈ lfL xs ts) : ∃ (j : Nat) (y : L) (u : T), xs[j]? = some y ∧ ts[j]? = some u ∧ a ∈ lfT y u := by
  induction xs generalizing ts with
  | nil => rw [lfL_nil] at h; cases h
  | cons x xs ih =>
    cases ts with
    | nil => simp [lfL] at h
    | cons t ts =>
      rw [lfL] at h
      rcases List.mem_append.1 h with h | h
      · exact ⟨0, x, t, rfl, rfl, h⟩
      · obtain ⟨j, y, u, h1, h2, h3⟩ := ih h
        exact ⟨j + 1, y, u, by simpa using h1, by simpa using h2, h3⟩
mutual
theorem lf_sub : ∀ (x : L) (t : T), List.Sublist (lfT x t) (adT x)
  | .node b o xs, .node k r i ts => by
    have h := lfL_sub xs ts
    rw [lfT, adT]
    split
    · exact List.Sublist.cons_cons _ h
    · exact List.Sublist.cons _ h
theorem lfL_sub : ∀ (xs : List L) (ts : List T), List.Sublist (lfL xs ts) (adL xs)
  | [], ts => by rw [lfL_nil]; exact List.nil_sublist _
  | x :: xs, [] => by simp [lfL]
  | x :: xs, t :: ts => by
    rw [lfL, adL]
    exact (lf_sub x t).append (lfL_sub xs ts)
end
theorem lf_only {x y : L} {t u : T} {j : Nat} (hnd : (adT x).Nodup) (hy : x.kids[j]? = some y) (hu : t.kids[j]? = some u) {a : Nat × Nat} (ha : a ∈ adT y) (hl : a ∈ lfT x t) : a ∈ lfT y u := by
  rw [adT_eq, List.nodup_cons] at hnd
  rw [lfT_eq] at hl
  rcases List.mem_append.1 hl with h | h
  · split at h
    · simp at h; subst h
      exact absurd (mem_adL.2 ⟨j, y, hy, ha⟩) hnd.1
    · cases h
  · obtain ⟨i, y', u', hy', hu', h'⟩ := mem_lfL h
    obtain ⟨-, h2⟩ := adL_nodup.1 hnd.2
    rcases Nat.lt_trichotomy i j with hij | rfl | hij
    · exact absurd rfl (h2 i j y' y hij hy' hy a ((lf_sub y' u').subset h') a ha)
    · rw [hy] at hy'; rw [hu] at hu'; cases hy'; cases hu'
      exact h'
    · exact absurd rfl (h2 j i y y' hij hy hy' a ha a ((lf_sub y' u').subset h'))
theorem lf_top {x : L} {t : T} (hnd : (adT x).Nodup) (hk : t.k ≠ 1) : (x.b, x.o) ∉ lfT x t := by
  rw [adT_eq, List.nodup_cons] at hnd
  rw [lfT_eq, if_neg hk, List.nil_append]
  exact fun h => hnd.1 ((lfL_sub _ _).subset h)
theorem lfL_len {xs : List L} {ts : List T} (hl : xs.length = ts.length) (h : ∀ (j : Nat) (y : L) (u : T), xs[j]? = some y → ts[j]? = some u → (lfT y u).length = lvT u) : (lfL xs ts).length = lvL ts := by
  induction xs generalizing ts with
  | nil =>
    cases ts with
    | nil => rfl
    | cons t ts => simp at hl
  | cons x xs ih =>
    cases ts with
    | nil => simp at hl
    | cons t ts =>
      rw [lfL, lvL, List.length_append, h 0 x t rfl rfl, ih (by simpa using hl) fun j y u hy hu => h (j + 1) y u (by simpa using hy) (by simpa using hu)]
theorem IsL.lf_len {w : World} {x : L} {c : C} {t : T} (h : IsL w x c t) : (lfT x t).length = lvT t := by
  rw [h.fives.1, panes_lv]
theorem lfL_len_take {w : World} {xs : List L} {cs : List C} {ts : List T} (hl : xs.length = ts.length) (hc : cs.length = ts.length) (h : ∀ (j : Nat) (y : L) (x : C) (u : T), xs[j]? = some y → cs[j]? = some x → ts[j]? = some u → IsL w y x u) (k : Nat) : (lfL (xs.take k) (ts.take k)).length = lvL (ts.take k) := by
  refine lfL_len (by simp [hl]) fun j y u hy hu => ?_
  rw [List.getElem?_take] at hy hu
  split at hy
  · rename_i hjk
    rw [if_pos hjk] at hu
    obtain ⟨x, hx⟩ := get_of hc (lt_of_get hu)
    exact (h j y x u hy hx hu).lf_len
  · cases hy

/-- A tree of whose leaves the numbers were written over. -/
theorem IsL.rename {w W : World} {x : L} {c : C} {t : T} (h : IsL w x c t) : ∀ (ms : List Int), lvT t ≤ ms.length → (∀ m ∈ ms, fits m) → (adT x).Nodup →
    (∀ a ∈ adT x, ∀ i, i < 7 → i ≠ 5 → W.cell? ⟨a.1, a.2 + i, none⟩ = w.cell? ⟨a.1, a.2 + i, none⟩) → (∀ a ∈ adT x, a ∉ lfT x t → W.cell? ⟨a.1, a.2 + 5, none⟩ = w.cell? ⟨a.1, a.2 + 5, none⟩) →
    (∀ (i : Nat) (a : Nat × Nat) (m : Int), (lfT x t)[i]? = some a → ms[i]? = some m → W.cell? ⟨a.1, a.2 + 5, none⟩ = some (.int .i64 m)) →
    IsL W x ⟨c.k, c.r, if c.k = 1 then ms.headD 0 else c.id, c.a, c.n, c.cap⟩ (nmT ms t) := by
  induction h with
  | mk b o c ts xs cs cat fine cn xl cl place each ih =>
    intro ms hms hfit hnd h1 h2 h3
    have htop : (b, o) ∈ adT (.node b o xs) := by rw [adT_eq]; exact List.mem_cons_self ..
    have hq : ∀ i, i < 7 → i ≠ 5 → W.cell? ⟨b, o + i, none⟩ = w.cell? ⟨b, o + i, none⟩ := h1 _ htop
    rw [lvT] at hms
    have hid : W.cell? ⟨b, o + 5, none⟩ = some (.int .i64 (if c.k = 1 then ms.headD 0 else c.id)) := by
      by_cases hk : c.k = 1
      · rw [if_pos hk] at hms ⊢
        cases ms with
        | nil => simp at hms
        | cons m ms => exact h3 0 (b, o) m (by rw [lfT, if_pos hk]; rfl) rfl
      · rw [if_neg hk]
        refine (h2 (b, o) htop (lf_top (t := .node c.k c.r c.id ts) hnd hk)).trans cat.2.2.2.2.2.1
    have hmf : fits (if c.k = 1 then ms.headD 0 else c.id) := by
      split
      · rename_i hk
        rw [if_pos hk] at hms
        cases ms with
        | nil => simp at hms
        | cons m ms => exact hfit m (List.mem_cons_self ..)
      · exact fine.2.2.1
    rw [nmT]
    refine .mk b o ⟨c.k, c.r, if c.k = 1 then ms.headD 0 else c.id, c.a, c.n, c.cap⟩ _ xs ((List.range ts.length).map fun j => match cs[j]?, ts[j]? with | some x, some u => (⟨x.k, x.r, if x.k = 1 then (((ms.drop (if c.k = 1 then 1 else 0)).drop (lvL (ts.take j))).headD 0) else x.id, x.a, x.n, x.cap⟩ : C) | _, _ => default) ?_ ⟨fine.1, fine.2.1, hmf, fine.2.2.2⟩ (by rw [nmL_length]; exact cn) (by rw [nmL_length]; exact xl) (by rw [nmL_length]; simp) place fun j y x u hy hx hu => ?_
    · obtain ⟨a0, a1, a2, a3, a4, a5, a6⟩ := cat
      refine ⟨?_, ?_, ?_, ?_, ?_, hid, ?_⟩
      · have := hq 0 (by omega) (by omega); rw [Nat.add_zero] at this; rw [this]; exact a0
      · rw [hq 1 (by omega) (by omega)]; exact a1
      · rw [hq 2 (by omega) (by omega)]; exact a2
      · rw [hq 3 (by omega) (by omega)]; exact a3
      · rw [hq 4 (by omega) (by omega)]; exact a4
      · rw [hq 6 (by omega) (by omega)]; exact a6
    · rw [nmL_get] at hu
      obtain ⟨u0, hu0, rfl⟩ := Option.map_eq_some_iff.1 hu
      have hj : j < ts.length := lt_of_get hu0
      obtain ⟨x0, hx0⟩ := get_of cl hj
      have hx' : x = ⟨x0.k, x0.r, if x0.k = 1 then (((ms.drop (if c.k = 1 then 1 else 0)).drop (lvL (ts.take j))).headD 0) else x0.id, x0.a, x0.n, x0.cap⟩ := by
        simp [hj, hx0] at hx
        have hu1 : ts[j] = u0 := by rw [List.getElem?_eq_getElem hj] at hu0; exact Option.some.inj hu0
        simpa using hx.symm
      subst hx'
      have hkid : (L.node b o xs).kids[j]? = some y := hy
      have hlv := lvL_at hu0
      have hsub : ∀ a ∈ adT y, a ∈ adT (.node b o xs) := fun a ha => by
        rw [adT]; exact List.mem_cons_of_mem _ (mem_adL.2 ⟨j, y, hy, ha⟩)
      have hlt := lfL_len_take xl cl each j
      refine ih j y x0 u0 hy hx0 hu0 _ (by rw [List.length_drop, List.length_drop]; omega) (fun m hm => hfit m (List.mem_of_mem_drop (List.mem_of_mem_drop hm))) ?_ (fun a ha => h1 a (hsub a ha)) (fun a ha hn => h2 a (hsub a ha) fun hl => hn (lf_only (t := .node c.k c.r c.id ts) hnd hkid hu0 ha hl)) (fun i a m ha hm => ?_)
      · rw [adT_eq, List.nodup_cons] at hnd
        exact (adL_nodup.1 hnd.2).1 j y hy
      · refine h3 ((if c.k = 1 then 1 else 0) + lvL (ts.take j) + i) a m ?_ ?_
        · rw [← hlt]
          exact lf_at (x := .node b o xs) (t := .node c.k c.r c.id ts) (by show (if c.k = 1 then [(b, o)] else []).length = _; split <;> rfl) hkid hu0 ha
        · rw [List.getElem?_drop, List.getElem?_drop] at hm
          rw [← hm]; congr 1; omega
end Go.Proofs.YtakofjbjciljjaaGreat
/- The same tree in new memory. -/
namespace Go.Proofs.YtakofjbjciljjaaGreat
open Go.RowKit

def FreshSays (t : T) (w : World) (e : Ending) (w' : World) : Prop := ∃ d S, e = .returned (cval d) ∧ OwnT w' w.heap.size d t S ∧ S.Nodup ∧ Below w.heap.size w w'

/-- What was copied: its kids' rows are as they were, its own cell is new. -/
theorem fresh_end {w wr : World} {k : Int} {r : R} {id : Int} {a : Option Addr} {cap : Nat} {cs : List C} {l : List T} {Ss : List (List Nat)} (hb : Below w.heap.size w wr) (hsz : w.heap.size + 2 ≤ wr.heap.size) (h : Forest wr (w.heap.size + 2) (.slice a cs.length cap) cs l Ss) (hk : 0 ≤ k ∧ k ≤ 255) (hr : r.fits) (hi : fits id) (hl : l.length ≤ 1954687338211) :
    OwnT (put7 (wr.setCell ⟨w.heap.size, 6, none⟩ (.slice a cs.length cap)) (w.heap.size + 1) ⟨k, r, id, a, cs.length, cap⟩) w.heap.size ⟨k, r, id, a, cs.length, cap⟩ (.node k r id l) (blk (.slice a cs.length cap) ++ Ss.flatten) ∧ (blk (.slice a cs.length cap) ++ Ss.flatten).Nodup ∧ Below w.heap.size w (put7 (wr.setCell ⟨w.heap.size, 6, none⟩ (.slice a cs.length cap)) (w.heap.size + 1) ⟨k, r, id, a, cs.length, cap⟩) := by
  have hsame : ∀ j, w.heap.size + 2 ≤ j → (put7 (wr.setCell ⟨w.heap.size, 6, none⟩ (.slice a cs.length cap)) (w.heap.size + 1) ⟨k, r, id, a, cs.length, cap⟩).heap[j]? = wr.heap[j]? := fun j hj => by
    rw [heap_put7 (by omega), Below.heap_setCell wr ⟨w.heap.size, 6, none⟩ _ j (by simp; omega)]
  refine ⟨?_, ?_, ?_⟩
  · refine .mk ⟨k, r, id, a, cs.length, cap⟩ l cs Ss ⟨hk, hr, hi, by simp only; rw [h.len]; exact hl⟩ ((ownC_kept h.row fun g hg => hsame g (own_block h.row hg).1).lower (by omega)) h.len h.slen fun j x t S hx ht hS => ?_
    exact ((h.each j x t S hx ht hS).frame fun m hm => hsame m ((h.each j x t S hx ht hS).ge m hm).1).lower (by omega)
  · rw [List.nodup_append]
    refine ⟨?_, h.nodup, fun x hx y hy e => ?_⟩
    · unfold blk; split <;> simp
    · subst e
      unfold blk at hx
      split at hx
      · rename_i g hg
        simp at hx; subst hx
        exact h.apart _ hg hy
      · cases hx
  · exact below_put7 (hb.setCell (Nat.le_refl _) _) (by omega) _

abbrev freshW (w : World) (c : C) : World := (w.alloc (cbox c)).alloc zeroBox

set_option maxRecDepth 100000 in
theorem fresh_any (N : Nat) : ∀ (t : T) (c : C) (w : World), sz t ≤ N → Is w c t → Calls Tryz.prog 71 #[cval c] w (FreshSays t w) := by
  induction N with
  | zero => intro t c w h; have := sz_pos t; omega
  | succ N ih =>
    intro t c w hs hi
    have HFINE := Lib.hid hi.fine
    have HR := Lib.hid hi.row
    have HSP := Lib.hid hi.split
    have hn := hi.n
    have hfn := hi.len
    obtain ⟨ck, cr, cid, ca, cn, ccap⟩ := c
    simp only at hn
    subst hn
    clear hi
    have HS := Lib.hid hs
    have HIH := Lib.hid ih
    clear hs ih
    have BX : Hid (Box7 (freshW w ⟨ck, cr, cid, ca, t.kids.length, ccap⟩) w.heap.size ⟨ck, cr, cid, ca, t.kids.length, ccap⟩) := Lib.hid ((Box7.new w _).up ((Below.refl _ _).alloc (Nat.le_refl _) _))
    have ZX : Hid (Zero7 (freshW w ⟨ck, cr, cid, ca, t.kids.length, ccap⟩) (w.heap.size + 1)) := Lib.hid (by
      have := zero_new (w.alloc (cbox ⟨ck, cr, cid, ca, t.kids.length, ccap⟩))
      simpa using this)
    have BW : Hid (Below w.heap.size w (freshW w ⟨ck, cr, cid, ca, t.kids.length, ccap⟩)) := ((Below.refl _ _).alloc (Nat.le_refl _) _).alloc (by simp) _
    have SW : Hid ((freshW w ⟨ck, cr, cid, ca, t.kids.length, ccap⟩).heap.size = w.heap.size + 2) := Lib.hid (by simp)
    go_enter Tryz.func71, Tryz.ntmps71
    go_wp2
    go_loopg [3, 9] (t.kids.length + 1) (fun g v i wr => ∃ (k : Nat) (cs : List C) (Ss : List (List Nat)), g + k = t.kids.length + 1 ∧ k ≤ t.kids.length ∧ i = .int .i64 k ∧ Forest wr (freshW w ⟨ck, cr, cid, ca, t.kids.length, ccap⟩).heap.size v cs (t.kids.take k) Ss ∧ Below (freshW w ⟨ck, cr, cid, ca, t.kids.length, ccap⟩).heap.size (freshW w ⟨ck, cr, cid, ca, t.kids.length, ccap⟩) wr)
    case atStart => exact ⟨0, [], [], by omega, by omega, rfl, by simpa using Forest.nil _ _, Below.refl _ _⟩
    case round =>
      obtain ⟨k, cs, Ss, hg, hk, rfl, hfo, hb⟩ := hrel
      have HG := Lib.hid hg
      have HF := Lib.hid hfo
      have HB := Lib.hid hb
      clear hg hfo hb
      have HBW := Lib.hid (BW.out.trans (HB.out.mono BW.out.size))
      by_cases hlt : k < t.kids.length
      · have hlti : (k : Int) < (t.kids.length : Int) := by omega
        obtain ⟨b, o, rfl, hf⟩ := HR.out.place (by omega)
        obtain ⟨u, hu⟩ : ∃ u, t.kids[k]? = some u := ⟨_, List.getElem?_eq_getElem hlt⟩
        obtain ⟨x, hx, hix⟩ := hf k u hu
        clear hf
        obtain ⟨c0, c1, c2, c3, c4, c5, c6⟩ := hx.up HBW.out
        have HA : Hid (Below wr.heap.size wr (wr.alloc (cbox x))) := (Below.refl _ _).alloc (Nat.le_refl _) _
        have HK := Lib.hid (HIH.out u x (wr.alloc (cbox x)) (by have := HS.out; have := sz_kid hu; omega) ((hix.up HBW.out).up HA.out))
        have HU := Lib.hid (take_snoc hu)
        clear hix hu hx
        go_wp2_with fail
        refine HK.out.mono ?_
        rintro e w2 ⟨d, S2, rfl, hown2, hnd2, hb2⟩
        have HO2 := Lib.hid hown2
        have HN2 := Lib.hid hnd2
        have HB12 := Lib.hid (below_one hb2)
        have HB2 := Lib.hid (HB.out.trans ((below_one hb2).mono HB.out.size))
        have HSZ2 : Hid (wr.heap.size + 1 ≤ w2.heap.size) := Lib.hid (by have := hb2.size; simpa using this)
        clear hown2 hnd2 hb2 c0 c1 c2 c3 c4 c5 c6
        have HLN : Hid (cs.length + [d].length ≤ 1954687338211) := Lib.hid (by have := HF.out.len; rw [List.length_take] at this; simp; omega)
        go_wp2_with (at_builtin; refine wpList_append_cells rfl _ _ rfl (freshW w ⟨ck, cr, cid, some ⟨b, o, none⟩, t.kids.length, ccap⟩).heap.size u3 _ cs [d] rfl (HF.out.row.up (HB12.out.trans ((Below.refl w2.heap.size w2).alloc (Nat.le_refl _) (cbox d) |>.mono HB12.out.size))) rfl (OwnC.one w2 0 (Nat.zero_le _) d).row (by simp) HLN.out (freshW w ⟨ck, cr, cid, some ⟨b, o, none⟩, t.kids.length, ccap⟩) (HB2.out.alloc HB2.out.size _) (Nat.le_refl _) ?_; intro g cap3 w3 hown3 hb3 hgr3 hpl3)
        have HF3 := Lib.hid (HF.out.add HB12.out HO2.out HN2.out (by simp) (by have := HB.out.size; exact Nat.le_trans this (by simp)) hown3 hgr3 hpl3)
        have HB3 := Lib.hid hb3
        clear hown3 hb3 hgr3 hpl3
        go_wp2
        go_roundg (gk - 1)
        case measure => have := HG.out; omega
        case rel =>
          refine ⟨k + 1, cs ++ [d], Ss ++ [S2], by have := HG.out; omega, by omega, by go_num, ?_, HB3.out⟩
          rw [HU.out]
          simpa using HF3.out
      · obtain rfl : k = t.kids.length := by omega
        have hkl : ((t.kids.length : Int) < (t.kids.length : Int)) = False := by simp
        have HFA : Hid (Forest wr (freshW w ⟨ck, cr, cid, ca, t.kids.length, ccap⟩).heap.size u3 cs t.kids Ss) := Lib.hid (by have := HF.out; rw [List.take_length] at this; exact this)
        obtain ⟨a', cap', rfl⟩ := HF.out.row.row.shape
        have HBX := Lib.hid (BX.out.up HB.out)
        have HZX := Lib.hid (zero_up ZX.out HB.out)
        obtain ⟨c0, c1, c2, c3, c4, c5, c6⟩ := HBX.out.cat
        simp only [Nat.zero_add] at c1 c2 c3 c4 c5 c6
        have g6 := HBX.out.free 6
        obtain ⟨⟨z0, z1, z2, z3, z4, z5, z6⟩, f0, f1, f2, f3, f4, f5, f6⟩ := zero_parts HZX.out
        go_wp2
        (try simp only [Exit.inBlock, Exit.then])
        have hset : (wr.setCell ⟨w.heap.size, 6, none⟩ (.slice a' cs.length cap')).heap[w.heap.size + 1]? = wr.heap[w.heap.size + 1]? := Below.heap_setCell wr ⟨w.heap.size, 6, none⟩ _ _ (by simp)
        have hz2 : Box7 (wr.setCell ⟨w.heap.size, 6, none⟩ (.slice a' cs.length cap')) (w.heap.size + 1) ⟨0, ⟨0, 0, 0, 0⟩, 0, none, 0, 0⟩ := hset.trans HZX.out
        refine bodyPost_ret (results_cell1 rfl _ _ (w.heap.size + 1) ⟨ck, cr, cid, a', cs.length, cap'⟩ rfl (hz2.put ⟨ck, cr, cid, a', cs.length, cap'⟩)) rfl ?_
        obtain ⟨e1, e2, e3, -⟩ := HSP.out
        have hend := fresh_end (k := ck) (r := cr) (id := cid) HBW.out (by have := HB.out.size; have := SW.out; omega) (by rw [← SW.out]; exact HFA.out) HFINE.out.1 HFINE.out.2.1 HFINE.out.2.2.1 hfn
        refine ⟨⟨ck, cr, cid, a', cs.length, cap'⟩, blk (.slice a' cs.length cap') ++ Ss.flatten, rfl, ?_, hend.2.1, hend.2.2⟩
        rw [T.eta t, e1, e2, e3]
        exact hend.1
end Go.Proofs.YtakofjbjciljjaaGreat
