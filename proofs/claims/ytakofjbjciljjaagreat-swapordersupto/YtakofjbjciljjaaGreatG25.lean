/- Texts of this seat, 3 in one file. -/
import Derived.Test.YtakofjbjciljjaaGreatG14
import Derived.Test.YtakofjbjciljjaaGreatG23
import Derived.Test.YtakofjbjciljjaaGreatG24
import Derived.Test.YtakofjbjciljjaaGreatG06
/- Panes change places: the document's answers, in words. No walk. -/
namespace Go.Proofs.YtakofjbjciljjaaGreat
open Go.RowKit

/-- One number for another, and the other way round. -/
def tw1 (a b x : Int) : Int := if x = a then b else if x = b then a else x
theorem tw1_tw1 (a b x : Int) : tw1 a b (tw1 a b x) = x := by
  unfold tw1
  by_cases h1 : x = a
  · rw [if_pos h1]
    by_cases h2 : b = a
    · rw [if_pos h2, h1, h2]
    · rw [if_neg h2, if_pos rfl, h1]
  · rw [if_neg h1]
    by_cases h2 : x = b
    · rw [if_pos h2, if_pos rfl, h2]
    · rw [if_neg h2, if_neg h1, if_neg h2]
def twL (a b : Int) (l : List Int) : List Int := l.map (tw1 a b)
theorem twL_len (a b : Int) (l : List Int) : (twL a b l).length = l.length := by simp [twL]
theorem twL_twL (a b : Int) (l : List Int) : twL a b (twL a b l) = l := by
  unfold twL
  rw [List.map_map]
  conv => rhs; rw [← List.map_id l]
  exact List.map_congr_left fun x _ => tw1_tw1 a b x
theorem twL_nodup {a b : Int} {l : List Int} (h : l.Nodup) : (twL a b l).Nodup := by
  unfold twL List.Nodup at *
  rw [List.pairwise_map]
  refine h.imp fun {x y} hxy e => hxy ?_
  rw [← tw1_tw1 a b x, ← tw1_tw1 a b y, e]
theorem twL_mem {a b : Int} {l : List Int} (ha : a ∈ l) (hb : b ∈ l) : ∀ m ∈ twL a b l, m ∈ l := by
  intro m hm
  unfold twL at hm
  obtain ⟨x, hx, rfl⟩ := List.mem_map.1 hm
  unfold tw1
  split
  · exact hb
  · split
    · exact ha
    · exact hx
theorem twL_has {a b x : Int} {l : List Int} (h : x ∈ l) : tw1 a b x ∈ twL a b l := List.mem_map.2 ⟨x, h, rfl⟩
theorem tw1_a (a b : Int) : tw1 a b a = b := if_pos rfl
theorem tw1_b (a b : Int) : tw1 a b b = a := by
  unfold tw1
  by_cases h : b = a
  · rw [if_pos h, h]
  · rw [if_neg h, if_pos rfl]

/-- So many places on, going round. -/
def rdAt (n : Nat) (by_ : Int) (i : Nat) : Nat := (((i : Int) - by_) % (n : Int)).toNat
theorem rdAt_lt {n : Nat} (hn : 0 < n) (by_ : Int) (i : Nat) : rdAt n by_ i < n := by
  have h1 := Int.emod_nonneg ((i : Int) - by_) (show (n : Int) ≠ 0 by omega)
  have h2 := Int.emod_lt_of_pos ((i : Int) - by_) (show (0 : Int) < n by omega)
  unfold rdAt; omega
theorem rdAt_is {n : Nat} (hn : 0 < n) (by_ : Int) (i : Nat) : ((rdAt n by_ i : Nat) : Int) = ((i : Int) - by_) % (n : Int) := by
  have h1 := Int.emod_nonneg ((i : Int) - by_) (show (n : Int) ≠ 0 by omega)
  unfold rdAt; omega
theorem rdAt_back {n i : Nat} (hi : i < n) (a b : Int) (h : a = -b) : rdAt n a (rdAt n b i) = i := by
  subst h
  have h1 := rdAt_is (show 0 < n by omega) (-b) (rdAt n b i)
  rw [rdAt_is (show 0 < n by omega) b i, Int.emod_sub_emod, show (i : Int) - b - -b = i by omega, Int.emod_eq_of_lt (by omega) (by omega)] at h1
  omega
def rdL (by_ : Int) (l : List Int) : List Int := (List.range l.length).map fun i => l.getD (rdAt l.length by_ i) 0
theorem rdL_len (by_ : Int) (l : List Int) : (rdL by_ l).length = l.length := by simp [rdL]
theorem rdL_get {by_ : Int} {l : List Int} {i : Nat} (hi : i < l.length) : (rdL by_ l)[i]? = l[rdAt l.length by_ i]? := by
  have h := rdAt_lt (show 0 < l.length by omega) by_ i
  unfold rdL
  rw [List.getElem?_map, List.getElem?_range hi, List.getElem?_eq_getElem h]
  simp [List.getD, h]
theorem rdL_mem {by_ : Int} {l : List Int} : ∀ m ∈ rdL by_ l, m ∈ l := by
  intro m hm
  obtain ⟨i, hi, rfl⟩ := List.getElem_of_mem hm
  have hi' : i < l.length := by rw [rdL_len] at hi; exact hi
  have h := rdL_get (by_ := by_) hi'
  rw [List.getElem?_eq_getElem hi] at h
  exact List.mem_of_getElem? h.symm
theorem rdL_back {by_ c : Int} (h : by_ = -c) (l : List Int) : rdL by_ (rdL c l) = l := by
  refine List.ext_getElem? fun i => ?_
  by_cases hi : i < l.length
  · have h1 : i < (rdL c l).length := by rw [rdL_len]; exact hi
    have h2 := rdAt_lt (show 0 < l.length by omega) by_ i
    rw [rdL_get h1, rdL_len, rdL_get h2, rdAt_back hi c by_ (by omega)]
  · rw [List.getElem?_eq_none (by rw [rdL_len, rdL_len]; omega), List.getElem?_eq_none (by omega)]
theorem rdL_nodup {by_ : Int} {l : List Int} (h : l.Nodup) : (rdL by_ l).Nodup := by
  unfold List.Nodup at *
  rw [List.pairwise_iff_getElem] at h ⊢
  intro i j hi hj hij e
  have hi' : i < l.length := by rw [rdL_len] at hi; exact hi
  have hj' : j < l.length := by rw [rdL_len] at hj; exact hj
  have g1 := rdL_get (by_ := by_) hi'
  have g2 := rdL_get (by_ := by_) hj'
  have p1 := rdAt_lt (show 0 < l.length by omega) by_ i
  have p2 := rdAt_lt (show 0 < l.length by omega) by_ j
  rw [List.getElem?_eq_getElem hi, List.getElem?_eq_getElem p1] at g1
  rw [List.getElem?_eq_getElem hj, List.getElem?_eq_getElem p2] at g2
  have e2 : l[rdAt l.length by_ i] = l[rdAt l.length by_ j] := by
    rw [← Option.some.inj g1, ← Option.some.inj g2, e]
  have ne : rdAt l.length by_ i ≠ rdAt l.length by_ j := by
    intro e3
    have q1 := rdAt_back hi' (-by_) by_ rfl
    have q2 := rdAt_back hj' (-by_) by_ rfl
    rw [e3, q2] at q1
    omega
  rcases Nat.lt_or_gt_of_ne ne with hl | hl
  · exact h _ _ p1 p2 hl e2
  · exact h _ _ p2 p1 hl e2.symm
theorem rdL_has {by_ : Int} {l : List Int} {x : Int} (h : x ∈ l) : x ∈ rdL by_ l := by
  rw [← rdL_back (show (-by_ : Int) = -by_ from rfl) l] at h
  exact rdL_mem x h

/-- What is answered: by its number, and the tree. -/
def SwSays (n : Int) (u : T) (kind : IntKind) (w : World) (e : Ending) (w' : World) : Prop :=
  ∃ d, e = .returned (.tuple #[cval d, .int kind n]) ∧ (∀ W', (∀ k, w.heap.size ≤ k → W'.heap[k]? = w'.heap[k]?) → Is W' d (if n = 0 then u else zT)) ∧ Below w.heap.size w w'
theorem sw_err {n : Int} {u : T} {kind : IntKind} {w w' : World} (h : n ≠ 0) (hb : Below w.heap.size w w') : SwSays n u kind w (.returned (.tuple #[cval zC, .int kind n])) w' :=
  ⟨zC, rfl, fun W' _ => by rw [if_neg h]; exact zero_is W', hb⟩
theorem sw_ok {n : Int} {u : T} {kind : IntKind} {w w' : World} {d : C} (h : n = 0) (hi : ∀ W', (∀ k, w.heap.size ≤ k → W'.heap[k]? = w'.heap[k]?) → Is W' d u) (hb : Below w.heap.size w w') : SwSays n u kind w (.returned (.tuple #[cval d, .int kind 0])) w' :=
  ⟨d, by rw [h], fun W' hW => by rw [if_pos h]; exact hi W' hW, hb⟩

noncomputable def twE (t : T) (a b : Int) : Int := if tileB t = true then (if a ∈ idsT t ∧ b ∈ idsT t then 0 else 6) else 1
def twT (t : T) (a b : Int) : T := nmT (twL a b (idsT t)) t
noncomputable def rdE (t : T) : Int := if tileB t = true then 0 else 1
def rdT (t : T) (by_ : Int) : T := nmT (rdL by_ (idsT t)) t
def odP (ids l : List Int) : Prop := l.Nodup ∧ ∀ x ∈ l, x ∈ ids
noncomputable def odE (t : T) (l : List Int) : Int := if tileB t = true then (if (idsT t).length = l.length then (if @decide (odP (idsT t) l) (Classical.propDecidable _) = true then 0 else 6) else 9) else 1
noncomputable def bsE (t : T) (id by_ : Int) : Int := if tileB t = true then (if (nextP (panesT t) id by_).2 = true then 0 else 6) else 1

/-- With other numbers it tiles, too. -/
theorem nmL_r (ms : List Int) (l : List T) : (nmL ms l).map T.r = l.map T.r := by
  refine List.ext_getElem? fun j => ?_
  rw [List.getElem?_map, List.getElem?_map, nmL_get]
  cases h : l[j]? with
  | none => rfl
  | some t => simp only [Option.map_some]; rw [nmT_eq]; rfl
theorem nm_fit {ms : List Int} {t : T} (h : fitB t = true) : fitB (nmT ms t) = true := by
  obtain ⟨k, r, i, l⟩ := t
  rw [fitB_iff] at h ⊢
  have hr := nmL_r (ms.drop (if k = 1 then 1 else 0)) l
  have hw : (nmL (ms.drop (if k = 1 then 1 else 0)) l).map (fun u => u.r.w) = l.map fun u => u.r.w := by
    have := congrArg (List.map R.w) hr
    rw [List.map_map, List.map_map] at this
    exact this
  have hh : (nmL (ms.drop (if k = 1 then 1 else 0)) l).map (fun u => u.r.h) = l.map fun u => u.r.h := by
    have := congrArg (List.map R.h) hr
    rw [List.map_map, List.map_map] at this
    exact this
  rw [nmT_eq]
  rcases h with h | ⟨h1, h2⟩
  · exact .inl h
  · have e1 : wsT (.node k r (if k = 1 then ms.headD 0 else i) (nmL (ms.drop (if k = 1 then 1 else 0)) l)) = wsT (.node k r i l) := hw
    have e2 : hsT (.node k r (if k = 1 then ms.headD 0 else i) (nmL (ms.drop (if k = 1 then 1 else 0)) l)) = hsT (.node k r i l) := hh
    have e3 : sizesT (.node k r (if k = 1 then ms.headD 0 else i) (nmL (ms.drop (if k = 1 then 1 else 0)) l)) = sizesT (.node k r i l) := by
      unfold sizesT; rw [e1, e2]; rfl
    refine .inr ⟨?_, ?_⟩
    · change cutP r (axT (.node k r i l)) (sizesT (.node k r (if k = 1 then ms.headD 0 else i) (nmL (ms.drop (if k = 1 then 1 else 0)) l)))
      rw [e3]; exact h1
    · change (nmL (ms.drop (if k = 1 then 1 else 0)) l).map T.r = cutParts r (axT (.node k r i l)) (sizesT (.node k r (if k = 1 then ms.headD 0 else i) (nmL (ms.drop (if k = 1 then 1 else 0)) l))) true
      rw [e3, hr]; exact h2
theorem nm_well {ms : List Int} {t : T} (h : wellT t = true) (hn : t.k = 1 → 0 ≤ ms.headD 0 ∧ ms.headD 0 ≤ 2147483647) : wellT (nmT ms t) = true := by
  obtain ⟨k, r, i, l⟩ := t
  have hn' : k = 1 → 0 ≤ ms.headD 0 ∧ ms.headD 0 ≤ 2147483647 := hn
  have h' : wellB k r i l.length = true := h
  rw [nmT_eq]
  change wellB k r (if k = 1 then ms.headD 0 else i) (nmL (ms.drop (if k = 1 then 1 else 0)) l).length = true
  rw [nmL_length]
  unfold wellB at h' ⊢
  rw [Bool.and_eq_true, Bool.or_eq_true, Bool.and_eq_true, Bool.and_eq_true, Bool.and_eq_true, Bool.and_eq_true, Bool.or_eq_true] at h' ⊢
  simp only [decide_eq_true_eq] at h' ⊢
  refine ⟨h'.1, ?_⟩
  rcases h'.2 with ⟨h1, -, h3⟩ | ⟨h1, h2, h3⟩
  · exact .inl ⟨h1, by rw [if_pos h1]; exact hn' h1, h3⟩
  · have h4 : ¬ k = 1 := by rcases h1 with h1 | h1 <;> omega
    exact .inr ⟨h1, by rw [if_neg h4]; exact h2, h3⟩
def okI (ms : List Int) : Prop := ∀ m ∈ ms, 0 ≤ m ∧ m ≤ 2147483647
theorem okI.drop {ms : List Int} (h : okI ms) (n : Nat) : okI (ms.drop n) := fun m hm => h m (List.mem_of_mem_drop hm)
theorem okI.head {ms : List Int} (h : okI ms) (hn : 1 ≤ ms.length) : 0 ≤ ms.headD 0 ∧ ms.headD 0 ≤ 2147483647 := by
  cases ms with
  | nil => simp at hn
  | cons m ms => exact h m (List.mem_cons_self ..)
mutual
theorem nm_good : ∀ (t : T) (ms : List Int), lvT t ≤ ms.length → okI ms → (∀ u ∈ preT t, wellT u = true ∧ fitB u = true) → ∀ u ∈ preT (nmT ms t), wellT u = true ∧ fitB u = true
  | .node k r i l, ms, hl, hok, hg => by
    have ihl := nmL_good l
    have ht := hg _ (by rw [preT_eq]; exact List.mem_cons_self ..)
    intro u hu
    rw [preT_eq] at hu
    rcases List.mem_cons.1 hu with rfl | hu
    · exact ⟨nm_well ht.1 (fun hk => hok.head (by rw [lvT_eq, if_pos hk] at hl; omega)), nm_fit ht.2⟩
    · rw [nmT_eq] at hu
      have hu' : u ∈ preL (nmL (ms.drop (if k = 1 then 1 else 0)) l) := hu
      refine ihl (ms.drop (if k = 1 then 1 else 0)) ?_ (hok.drop _) (fun v hv => hg v (by rw [preT_eq]; exact List.mem_cons_of_mem _ hv)) u hu'
      rw [lvT_eq] at hl
      have hl' : (if k = 1 then 1 else 0) + lvL l ≤ ms.length := hl
      rw [List.length_drop]
      omega
theorem nmL_good : ∀ (l : List T) (ms : List Int), lvL l ≤ ms.length → okI ms → (∀ u ∈ preL l, wellT u = true ∧ fitB u = true) → ∀ u ∈ preL (nmL ms l), wellT u = true ∧ fitB u = true
  | [], ms, hl, hok, hg => by
    intro u hu
    simp [nmL, preL] at hu
  | t :: l, ms, hl, hok, hg => by
    have hl' : lvT t + lvL l ≤ ms.length := by rw [lvL] at hl; exact hl
    have iht := nm_good t ms (by omega) hok fun v hv => hg v (by rw [preL]; exact List.mem_append_left _ hv)
    have ihl := nmL_good l (ms.drop (lvT t)) (by rw [List.length_drop]; omega) (hok.drop _) fun v hv => hg v (by rw [preL]; exact List.mem_append_right _ hv)
    intro u hu
    rw [nmL, preL] at hu
    rcases List.mem_append.1 hu with hu | hu
    · exact iht u hu
    · exact ihl u hu
end
theorem tile_ids {t : T} (hs : sz t ≤ 20000) (ht : tileB t = true) : (idsT t).Nodup ∧ okI (idsT t) := by
  unfold tileB at ht
  rw [may_is (by omega)] at ht
  unfold rmayT at ht
  simp only [Bool.and_eq_true, decide_eq_true_eq, List.all_eq_true] at ht
  refine ⟨ht.1.2, fun m hm => ?_⟩
  unfold idsT at hm
  obtain ⟨u, hu, rfl⟩ := List.mem_map.1 hm
  obtain ⟨hu1, hu2⟩ := List.mem_filter.1 hu
  have hw := ht.1.1 u hu1
  have hk : u.k = 1 := by simpa [leafB] using hu2
  unfold wellT wellB at hw
  simp only [Bool.and_eq_true, Bool.or_eq_true, decide_eq_true_eq] at hw
  rcases hw.2 with ⟨-, h2, -⟩ | ⟨h1, -, -⟩
  · exact h2
  · rcases h1 with h1 | h1 <;> omega
theorem tile_nm {t : T} {ms : List Int} (hs : sz t ≤ 20000) (ht : tileB t = true) (hl : ms.length = lvT t) (hnd : ms.Nodup) (hok : ∀ m ∈ ms, m ∈ idsT t) : tileB (nmT ms t) = true := by
  have hid := (tile_ids hs ht).2
  have ht' := ht
  unfold tileB at ht'
  rw [may_is (by omega)] at ht'
  unfold rmayT at ht'
  simp only [Bool.and_eq_true, decide_eq_true_eq, List.all_eq_true] at ht'
  have hg := nm_good t ms (by omega) (fun m hm => hid m (hok m hm)) fun u hu => ⟨ht'.1.1 u hu, ht'.2 u hu⟩
  have hids := nm_ids_all hl
  unfold idsT at hids
  unfold tileB
  rw [may_is (by rw [nm_sz]; omega)]
  unfold rmayT
  rw [Bool.and_eq_true, Bool.and_eq_true, decide_eq_true_eq, List.all_eq_true, List.all_eq_true]
  refine ⟨⟨fun u hu => (hg u hu).1, ?_⟩, fun u hu => (hg u hu).2⟩
  rw [hids]
  exact hnd

/-- Done twice. -/
theorem tw_tile {t : T} {a b : Int} (hs : sz t ≤ 20000) (h : twE t a b = 0) : tileB t = true ∧ a ∈ idsT t ∧ b ∈ idsT t := by
  unfold twE at h
  split at h
  · rename_i ht
    split at h
    · rename_i hab
      exact ⟨ht, hab⟩
    · omega
  · omega
theorem tw_lv (t : T) (a b : Int) : (twL a b (idsT t)).length = lvT t := by rw [twL_len, ids_len]
theorem tw_ids (t : T) (a b : Int) : idsT (twT t a b) = twL a b (idsT t) := nm_ids_all (tw_lv t a b)
theorem tw_tiles {t : T} {a b : Int} (hs : sz t ≤ 20000) (ht : tileB t = true) (ha : a ∈ idsT t) (hb : b ∈ idsT t) : tileB (twT t a b) = true :=
  tile_nm hs ht (tw_lv t a b) (twL_nodup (tile_ids hs ht).1) (twL_mem ha hb)
theorem tw_twice {t : T} {a b : Int} (hs : sz t ≤ 20000) (h : twE t a b = 0) : twE (twT t a b) a b = 0 ∧ twT (twT t a b) a b = t := by
  obtain ⟨ht, ha, hb⟩ := tw_tile hs h
  refine ⟨?_, ?_⟩
  · unfold twE
    rw [if_pos (tw_tiles hs ht ha hb), if_pos]
    rw [tw_ids]
    have h1 := twL_has (a := a) (b := b) hb
    have h2 := twL_has (a := a) (b := b) ha
    rw [tw1_b] at h1
    rw [tw1_a] at h2
    exact ⟨h1, h2⟩
  · have e : twT (twT t a b) a b = nmT (twL a b (idsT (twT t a b))) (twT t a b) := rfl
    rw [e, tw_ids, twL_twL]
    exact nm_back_all _ _
theorem rd_lv (t : T) (by_ : Int) : (rdL by_ (idsT t)).length = lvT t := by rw [rdL_len, ids_len]
theorem rd_ids (t : T) (by_ : Int) : idsT (rdT t by_) = rdL by_ (idsT t) := nm_ids_all (rd_lv t by_)
theorem rd_tiles {t : T} {by_ : Int} (hs : sz t ≤ 20000) (ht : tileB t = true) : tileB (rdT t by_) = true :=
  tile_nm hs ht (rd_lv t by_) (rdL_nodup (tile_ids hs ht).1) rdL_mem
theorem rd_yes {t : T} (h : rdE t = 0) : tileB t = true := by
  unfold rdE at h
  split at h
  · assumption
  · omega
theorem rd_back {t : T} {by_ c : Int} (hs : sz t ≤ 20000) (hc : c = -by_) (h : rdE t = 0) : rdE (rdT t by_) = 0 ∧ rdT (rdT t by_) c = t := by
  refine ⟨if_pos (rd_tiles hs (rd_yes h)), ?_⟩
  have e : rdT (rdT t by_) c = nmT (rdL c (idsT (rdT t by_))) (rdT t by_) := rfl
  rw [e, rd_ids, rdL_back (by omega)]
  exact nm_back_all _ _
theorem tw_sz (t : T) (a b : Int) : sz (twT t a b) = sz t := nm_sz _ _
theorem rd_sz (t : T) (by_ : Int) : sz (rdT t by_) = sz t := nm_sz _ _
/-- Who stands beside is there. -/
theorem next_there {t : T} {id by_ : Int} (h : (nextP (panesT t) id by_).2 = true) : id ∈ idsT t ∧ (nextP (panesT t) id by_).1 ∈ idsT t := by
  rw [← ids_panes]
  cases hix : idxP (panesT t) id with
  | none => rw [nextP_none hix] at h; cases h
  | some i =>
    obtain ⟨p, hp, he, -⟩ := idx_at hix
    have hi := (List.getElem?_eq_some_iff.1 hp).1
    obtain ⟨j, hj, hjl⟩ := round_at (show 0 < (panesT t).length by omega) ((i : Int) + by_)
    rw [nextP_some hix hj (List.getElem?_eq_getElem hjl)]
    exact ⟨List.mem_map.2 ⟨p, List.mem_of_getElem? hp, he⟩, List.mem_map.2 ⟨_, List.getElem_mem hjl, rfl⟩⟩
end Go.Proofs.YtakofjbjciljjaaGreat
/- Numbers handed to leaves: the document's In, Name. -/
namespace Go.Proofs.YtakofjbjciljjaaGreat
open Go.RowKit

set_option maxRecDepth 100000 in
theorem rhasI_same (v : Value) (l : List Int) (id : Int) (w : World) (hr : Row w v (ints l)) (hl : l.length ≤ 1000000) :
    Calls Tryz.prog 20 #[v, .int .i64 id] w fun e w' => e = .returned (.bool (decide (id ∈ l))) ∧ w = w' := by
  obtain ⟨a, cap, rfl⟩ := row_shape hr
  have HR := Lib.hid hr
  clear hr
  go_enter Tryz.func20, Tryz.ntmps20
  go_wp2
  go_loopg [8] (l.length + 1) (fun g i wr => ∃ k : Nat, g + k = l.length + 1 ∧ k ≤ l.length ∧ i = .int .i64 k ∧ (∀ (j : Nat) (q : Int), j < k → l[j]? = some q → q ≠ id) ∧ w = wr)
  case atStart => exact ⟨0, by omega, by omega, rfl, fun j q hj => by omega, rfl⟩
  case round =>
    obtain ⟨k, hg, hk, rfl, hno, rfl⟩ := hrel
    have HG := Lib.hid hg
    have HNO := Lib.hid hno
    clear hg hno
    by_cases hlt : k < l.length
    · obtain ⟨b, o, rfl, hf⟩ := int_at HR.out (by omega)
      obtain ⟨p, hp⟩ : ∃ p, l[k]? = some p := ⟨_, List.getElem?_eq_getElem hlt⟩
      have c0 := hf k p hp
      clear hf
      have HP := Lib.hid hp
      clear hp
      by_cases he : p = id
      · have d1 : (p == id) = true := by simpa using he
        have HV : Hid (decide (id ∈ l) = true) := Lib.hid (decide_eq_true (by rw [← he]; exact List.mem_of_getElem? HP.out))
        clear he
        go_wp2
        go_ret
        exact ⟨by rw [HV.out]; rfl, rfl⟩
      · have d1 : (p == id) = false := by simpa using he
        have HE := Lib.hid he
        clear he
        go_wp2
        go_roundg (gk - 1)
        case measure => have := HG.out; omega
        case rel =>
          refine ⟨k + 1, by have := HG.out; omega, by omega, by go_num, fun j q hj hq => ?_, rfl⟩
          rcases Nat.lt_or_ge j k with h | h
          · exact HNO.out j q h hq
          · obtain rfl : j = k := by omega
            rw [HP.out] at hq; cases hq; exact HE.out
    · obtain rfl : k = l.length := by omega
      have hkl : ((l.length : Int) < (l.length : Int)) = False := by simp
      have HV : Hid (decide (id ∈ l) = false) := Lib.hid (decide_eq_false (fun hm => by
        obtain ⟨j, hj, he⟩ := List.getElem_of_mem hm
        exact HNO.out j _ hj (List.getElem?_eq_getElem hj) he))
      go_wp2
      go_ret
      exact ⟨by rw [HV.out]; rfl, rfl⟩

theorem rhasI_any (v : Value) (l : List Int) (id : Int) (w : World) (hr : Row w v (ints l)) (hl : l.length ≤ 1000000) :
    Calls Tryz.prog 20 #[v, .int .i64 id] w fun e w' => e = .returned (.bool (decide (id ∈ l))) ∧ Below w.heap.size w w' :=
  (rhasI_same v l id w hr hl).mono fun _ _ ⟨he, hw⟩ => ⟨he, hw ▸ Below.refl _ _⟩
theorem quiet_same {P : Program} {f : FuncId} {args : Array Value} {w : World} {n : Nat} {v : Value}
    (h : Calls P f args (w.drewN n) fun e w' => e = .returned v ∧ w.drewN n = w') : Calls P f args (w.drewN n) fun e w'' => e = .returned v ∧ ∃ m, w'' = w.drewN m :=
  h.mono fun _ _ ⟨he, hm⟩ => ⟨he, n, hm.symm⟩
theorem below_drewN (w : World) (n : Nat) : Below w.heap.size w (w.drewN n) := ⟨rfl, rfl, rfl, Nat.le_refl _, fun _ _ => rfl⟩

/-- A tree's box and the answer's. -/
structure SSt (w : World) (c : C) (W : World) : Prop where
  below : Below w.heap.size w W
  box : Box7 W w.heap.size c
  zero : Zero7 W (w.heap.size + 1)
  size : w.heap.size + 2 ≤ W.heap.size
theorem SSt.up {w W W' : World} {c : C} (h : SSt w c W) (hb : Below W.heap.size W W') : SSt w c W' := ⟨h.below.trans (hb.mono h.below.size), h.box.up hb, zero_up h.zero hb, Nat.le_trans h.size hb.size⟩
theorem SSt.start (w : World) (c : C) : SSt w c (freshW w c) := by
  have h1 : Below w.heap.size w (w.alloc (cbox c)) := (Below.refl _ _).alloc (Nat.le_refl _) _
  have h2 : Below (w.alloc (cbox c)).heap.size (w.alloc (cbox c)) (freshW w c) := (Below.refl _ _).alloc (Nat.le_refl _) _
  refine ⟨h1.trans (h2.mono h1.size), (Box7.new w c).up h2, ?_, by simp⟩
  have h3 := zero_new (w.alloc (cbox c))
  have h4 : (w.alloc (cbox c)).heap.size = w.heap.size + 1 := by simp
  rw [h4] at h3
  exact h3
theorem SSt.is {w W : World} {c : C} {t : T} (h : SSt w c W) (hi : Is w c t) : Is W c t := hi.up h.below
theorem SSt.err {w W : World} {c : C} (h : SSt w c W) : Below w.heap.size w (put7 W (w.heap.size + 1) zC) := below_put7 h.below (by omega) _

/-- It stands as long as what the call made does. -/
def Fas (B : Nat) (w : World) (d : C) (u : T) : Prop := ∀ W', (∀ k, B ≤ k → W'.heap[k]? = w.heap[k]?) → Is W' d u
theorem Fas.of {B base : Nat} {w : World} {d : C} {u : T} {S : List Nat} (h : OwnT w base d u S) (hb : B ≤ base) : Fas B w d u := fun W' hW => (h.frame fun k hk => hW k (by have := (h.ge k hk).1; omega)).is
theorem Fas.put {B : Nat} {w : World} {d x : C} {u : T} {b : Nat} (h : Fas B w d u) (hb : b < B) : Fas b (put7 w b x) d u := fun W' hW => h W' fun k hk => (hW k (by omega)).trans (heap_put7 (by omega))
theorem Fas.low {B B' : Nat} {w : World} {d : C} {u : T} (h : Fas B w d u) (hb : B' ≤ B) : Fas B' w d u := fun W' hW => h W' fun k hk => hW k (by omega)
/-- More is made: what a block of the call's own holds may be written, as long as it is below. -/
theorem Fas.up {B : Nat} {w w' : World} {d : C} {u : T} (h : Fas B w d u) (hb : Below w.heap.size w w') (hi : Is w d u) : Is w' d u := hi.up hb

def NmSays (u : T) (w : World) (e : Ending) (w' : World) : Prop := ∃ d, e = .returned (cval d) ∧ Fas w.heap.size w' d u ∧ Below w.heap.size w w'
theorem lv_sz (t : T) : lvT t ≤ sz t := by rw [← panes_lv]; exact panes_len t
abbrev C7 (b : Nat) (c : C) (W : World) : Prop := W.cell? ⟨b, 0, none⟩ = some (.int .u8 c.k) ∧ W.cell? ⟨b, 1, none⟩ = some (.int .i64 c.r.x) ∧ W.cell? ⟨b, 2, none⟩ = some (.int .i64 c.r.y) ∧ W.cell? ⟨b, 3, none⟩ = some (.int .i64 c.r.w) ∧ W.cell? ⟨b, 4, none⟩ = some (.int .i64 c.r.h) ∧ W.cell? ⟨b, 5, none⟩ = some (.int .i64 c.id) ∧ W.cell? ⟨b, 6, none⟩ = some (.slice c.a c.n c.cap)
theorem c7_of {W : World} {b : Nat} {c : C} (h : CAt W b 0 c) : C7 b c W := by
  obtain ⟨c0, c1, c2, c3, c4, c5, c6⟩ := h
  simp only [Nat.zero_add] at c1 c2 c3 c4 c5 c6
  exact ⟨c0, c1, c2, c3, c4, c5, c6⟩
set_option maxRecDepth 100000 in
theorem results_c2 {fn : Func} {p u : Tmp} (h : fn.results = #[.cell p 26, .tmp u]) (tmps : Array Value) (w : World) (g : Nat) (c : C) (hp : tmps.getD p undef = .pointer (some ⟨g, 0, none⟩)) (hg : Box7 w g c) :
    (results fn tmps).run Tryz.prog w = .ok (.tuple #[cval c, tmps.getD u undef]) w := by
  have hg' : w.heap[g]? = some (cbox c) := hg
  have hl := run_loadVar_row (P := Tryz.prog) w g 26 26 _ (0, 0) _ hg' Tryz.underlying26 rfl (by kernel_rfl)
  rw [results_cell_tmp h, hp]
  simp [asAddr, hl, Result.andThen]

set_option maxRecDepth 100000 in
theorem rnameS_any (t : T) (c : C) (v : Value) (ms : List Int) (w : World) (hs : sz t ≤ 900000) (hi : Is w c t) (hp : Cutt w v ms) (hml : lvT t ≤ ms.length) (hfit : ∀ m ∈ ms, fits m) :
    Calls Tryz.prog 21 #[cval c, v] w (NmSays (nmT ms t) w) := by
  have L0 := Lib.hid (SSt.start w c)
  have HN := Lib.hid (rname_any (sz t) t c v ms (freshW w c) (Nat.le_refl _) (by have := lv_sz t; omega) (L0.out.is hi) (hp.up L0.out.below) hml hfit)
  clear hi hp hml hfit hs
  obtain ⟨c0, c1, c2, c3, c4, c5, c6⟩ := c7_of L0.out.box.cat
  go_enter Tryz.func21, Tryz.ntmps21
  go_wp2_with fail
  refine HN.out.mono ?_
  rintro e w1 ⟨d, S, rfl, hd, -, hb1⟩
  have A2 : Hid (Below w1.heap.size w1 (w1.alloc (cbox d))) := (Below.refl _ _).alloc (Nat.le_refl _) _
  have L2 := Lib.hid ((L0.out.up hb1).up A2.out)
  have F2 := Lib.hid (Fas.of (hd.up A2.out) (Nat.le_refl _))
  have D2 := Lib.hid (Box7.new w1 d)
  clear hd c0 c1 c2 c3 c4 c5 c6 HN
  go_upto_region 2 with fail
  change Code.wp _ _ _ _ (w1.alloc (cbox d))
  have HSZ : Hid (w.heap.size + 2 ≤ w1.heap.size) := Lib.hid (by have := hb1.size; simp at this; omega)
  generalize w1.alloc (cbox d) = W at A2 L2 F2 D2 ⊢
  generalize w1.heap.size = b at D2 HSZ ⊢
  have n1 : b ≠ w.heap.size + 1 := by have := HSZ.out; omega
  obtain ⟨c0, c1, c2, c3, c4, c5, c6⟩ := c7_of D2.out.cat
  obtain ⟨⟨z0, z1, z2, z3, z4, z5, z6⟩, f0, f1, f2, f3, f4, f5, f6⟩ := zero_parts L2.out.zero
  go_wp2
  (try simp only [Exit.inBlock, Exit.then])
  refine bodyPost_ret (results_cell1 rfl _ _ (w.heap.size + 1) d rfl ((Box7.of_zero L2.out.zero).put d)) rfl ?_
  exact ⟨d, rfl, (F2.out.put (b := w.heap.size + 1) (by simp)).low (by omega), below_put7 L2.out.below (by omega) d⟩
end Go.Proofs.YtakofjbjciljjaaGreat
/- Two leaves change places: the document's answer. -/
namespace Go.Proofs.YtakofjbjciljjaaGreat
open Go.RowKit

theorem OwnI.cutt {w : World} {base : Nat} {v : Value} {l : List Int} (h : OwnI w base v l) : Cutt w v l := ⟨h.row, by
  rcases h.2 with ⟨h1, h2⟩ | ⟨g, cap, cur, h1, -, -, h2, -⟩
  · exact ⟨none, 0, by rw [h1, h2], by omega⟩
  · exact ⟨_, cap, h1, h2⟩⟩
theorem sst_ok {w W W2 : World} {c d : C} {n : Int} {u : T} (hn : n = 0) (h : SSt w c W) (hf : Fas W.heap.size W2 d u) (hb : Below W.heap.size W W2) :
    SwSays n u .i64 w (.returned (.tuple #[cval d, .int .i64 0])) (put7 W2 (w.heap.size + 1) d) :=
  sw_ok hn ((hf.put (b := w.heap.size + 1) (by have := h.size; omega)).low (by omega)) (below_put7 (h.up hb).below (by omega) d)
theorem tw_no {t : T} {a b : Int} (ht : tileB t = true) (h : ¬ (a ∈ idsT t ∧ b ∈ idsT t)) : twE t a b = 6 := by
  unfold twE; rw [if_pos ht, if_neg h]
theorem tw_yes {t : T} {a b : Int} (ht : tileB t = true) (h : a ∈ idsT t ∧ b ∈ idsT t) : twE t a b = 0 := by
  unfold twE; rw [if_pos ht, if_pos h]
theorem tw_bad {t : T} {a b : Int} (ht : tileB t = false) : twE t a b = 1 := by
  unfold twE; rw [if_neg (by rw [ht]; decide)]
theorem twL_step {a b : Int} {l : List Int} {k : Nat} {p : Int} (h : l[k]? = some p) : twL a b (l.take (k + 1)) = twL a b (l.take k) ++ [tw1 a b p] := by
  unfold twL
  rw [List.take_add_one, h]; simp
theorem twL_fit {a b : Int} {l : List Int} (ha : fits a) (hb : fits b) (h : ∀ m ∈ l, fits m) : ∀ m ∈ twL a b l, fits m := by
  intro m hm
  unfold twL at hm
  obtain ⟨x, hx, rfl⟩ := List.mem_map.1 hm
  unfold tw1
  split
  · exact hb
  · split
    · exact ha
    · exact h x hx

end Go.Proofs.YtakofjbjciljjaaGreat
