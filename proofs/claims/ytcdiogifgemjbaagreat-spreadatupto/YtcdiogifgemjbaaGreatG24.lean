/- Texts of this seat, 3 in one file. -/
import Derived.Test.YtcdiogifgemjbaaGreatG23
import Derived.Test.YtcdiogifgemjbaaGreatG16
import Derived.Test.YtcdiogifgemjbaaGreatG18
/- Adjust: what it answers. No walk. -/
namespace Go.Proofs.YtcdiogifgemjbaaGreat
open Go.RowKit

/-- The error's number; the tree. -/
noncomputable def ajE (ax b : Int) (t : T) : Int := if tileB t = true ∧ axB ax = true then (if 10000 < b ∨ b < -10000 ∨ 10000 < atA t.r ax + szA t.r ax + b ∨ szA t.r ax + b < lsT ax t then 7 else 0) else 1
noncomputable def ajT (ax b : Int) (t : T) : T := setT t.r.x t.r.y (adjT ax b t)
def AjSays (ax b : Int) (t : T) (kind : IntKind) (w : World) (e : Ending) (w' : World) : Prop :=
  ∃ d, e = .returned (.tuple #[cval d, .int kind (ajE ax b t)]) ∧ Stands (fun _ => True) w' w.heap.size w'.heap.size d (if ajE ax b t = 0 then ajT ax b t else noT) ∧ Below w.heap.size w w'
theorem aj_err {ax b : Int} {t : T} {kind : IntKind} {w w' : World} {n : Int} (hn : ajE ax b t = n) (h0 : n ≠ 0) (hb : Below w.heap.size w w') : AjSays ax b t kind w (.returned (.tuple #[cval noC, .int kind n])) w' := by
  subst hn
  exact ⟨noC, rfl, fun W' _ _ => by rw [if_neg h0]; exact no_is W', hb⟩
theorem aj_ok {ax b : Int} {t t' : T} {kind : IntKind} {w w' : World} {d : C} (hn : ajE ax b t = 0) (ht : ajT ax b t = t') (hi : Stands (fun _ => True) w' w.heap.size w'.heap.size d t') (hb : Below w.heap.size w w') : AjSays ax b t kind w (.returned (.tuple #[cval d, .int kind 0])) w' := by
  subst ht
  exact ⟨d, by rw [hn], by rw [if_pos hn]; exact hi, hb⟩
theorem aj_arg {ax b : Int} {t : T} (h : ¬ (tileB t = true ∧ axB ax = true)) : ajE ax b t = 1 := if_neg h
theorem aj_do {ax b : Int} {t : T} (h : tileB t = true ∧ axB ax = true) : ajE ax b t = if 10000 < b ∨ b < -10000 ∨ 10000 < atA t.r ax + szA t.r ax + b ∨ szA t.r ax + b < lsT ax t then 7 else 0 := if_pos h
theorem aj_can {ax b : Int} {t : T} (h : ¬ (10000 < b ∨ b < -10000 ∨ 10000 < atA t.r ax + szA t.r ax + b ∨ szA t.r ax + b < lsT ax t)) : canB ax b t := by
  unfold canB gvT; omega
theorem OwnT.stands {w : World} {base : Nat} {c : C} {t : T} {S : List Nat} (h : OwnT w base c t S) : Stands (fun _ => True) w base w.heap.size c t :=
  fun _ _ g => (h.frame fun k hk => g k (h.ge k hk).1 (h.ge k hk).2).is
end Go.Proofs.YtcdiogifgemjbaaGreat
/- The leaf with a number: the document's answer. -/
namespace Go.Proofs.YtcdiogifgemjbaaGreat
open Go.RowKit

set_option maxRecDepth 100000 in
theorem results_c2 {fn : Func} {p u : Tmp} (h : fn.results = #[.cell p 26, .tmp u]) (tmps : Array Value) (w : World) (g : Nat) (c : C) (hp : tmps.getD p undef = .pointer (some ⟨g, 0, none⟩)) (hg : Box7 w g c) :
    (results fn tmps).run Tryz.prog w = .ok (.tuple #[cval c, tmps.getD u undef]) w := by
  have hg' : w.heap[g]? = some (cbox c) := hg
  have hl := run_loadVar_row (P := Tryz.prog) w g 26 26 _ (0, 0) _ hg' Tryz.underlying26 rfl (by kernel_rfl)
  rw [results_cell_tmp h, hp]
  simp [asAddr, hl, Result.andThen]

/-- A tree, and whether there is one. -/
def LfSays (r : Option T) (w : World) (e : Ending) (w' : World) : Prop := ∃ d, e = .returned (.tuple #[cval d, .bool r.isSome]) ∧ Is w' d (r.getD noT) ∧ Below w.heap.size w w'
theorem lf_yes {r : Option T} {u : T} {w w' : World} {d : C} (h : r = some u) (hi : Is w' d u) (hb : Below w.heap.size w w') : LfSays r w (.returned (.tuple #[cval d, .bool true])) w' := by subst h; exact ⟨d, rfl, hi, hb⟩
theorem lf_no {r : Option T} {w w' : World} (h : r = none) (hb : Below w.heap.size w w') : LfSays r w (.returned (.tuple #[cval noC, .bool false])) w' := by subst h; exact ⟨noC, rfl, no_is w', hb⟩

theorem find_first {l : List T} {k : Nat} {u : T} {p : T → Bool} (hno : ∀ (j : Nat) (x : T), j < k → l[j]? = some x → p x = false) (hu : l[k]? = some u) (hp : p u = true) : l.find? p = some u := by
  induction l generalizing k with
  | nil => simp at hu
  | cons x l ih =>
    cases k with
    | zero => simp at hu; subst hu; rw [List.find?_cons_of_pos hp]
    | succ k =>
      have h0 := hno 0 x (by omega) rfl
      rw [List.find?_cons_of_neg (by rw [h0]; decide)]
      exact ih (k := k) (fun j y hj hy => hno (j + 1) y (by omega) (by simpa using hy)) (by simpa using hu)
theorem find_never {l : List T} {p : T → Bool} (hno : ∀ (j : Nat) (x : T), j < l.length → l[j]? = some x → p x = false) : l.find? p = none := by
  rw [List.find?_eq_none]
  intro x hx
  obtain ⟨j, hj, rfl⟩ := List.getElem_of_mem hx
  rw [hno j _ hj (List.getElem?_eq_getElem hj)]
  decide

end Go.Proofs.YtcdiogifgemjbaaGreat
/- A leaf that becomes two: the program's way comes to what the document answers. No walk. -/
namespace Go.Proofs.YtcdiogifgemjbaaGreat
open Go.RowKit

theorem setL_get (k : Int) (l : List T) : ∀ (x y : Int) (j : Nat), (setL k x y l)[j]? = (l[j]?).map (setT (pX k x (l.take j)) (pY k y (l.take j))) := by
  induction l with
  | nil => intro x y j; simp [setL]
  | cons t l ih =>
    intro x y j
    cases j with
    | zero => simp [setL, pX, pY]
    | succ j =>
      rw [setL]
      simp only [List.getElem?_cons_succ, List.take_succ_cons]
      rw [ih]
      rfl
theorem pX_same {k : Int} : ∀ (l m : List T) (x : Int), l.map (fun t => t.r.w) = m.map (fun t => t.r.w) → pX k x l = pX k x m
  | [], [], _, _ => rfl
  | [], _ :: _, _, h => by simp at h
  | _ :: _, [], _, h => by simp at h
  | t :: l, u :: m, x, h => by
    simp only [List.map_cons, List.cons.injEq] at h
    have e : nxX k x t = nxX k x u := by unfold nxX; rw [h.1]
    show pX k (nxX k x t) l = pX k (nxX k x u) m
    rw [e]; exact pX_same l m _ h.2
theorem pY_same {k : Int} : ∀ (l m : List T) (y : Int), l.map (fun t => t.r.h) = m.map (fun t => t.r.h) → pY k y l = pY k y m
  | [], [], _, _ => rfl
  | [], _ :: _, _, h => by simp at h
  | _ :: _, [], _, h => by simp at h
  | t :: l, u :: m, y, h => by
    simp only [List.map_cons, List.cons.injEq] at h
    have e : nxY k y t = nxY k y u := by unfold nxY; rw [h.1]
    show pY k (nxY k y t) l = pY k (nxY k y u) m
    rw [e]; exact pY_same l m _ h.2
theorem map_set_same {α : Type} {l : List T} {f : T → α} {j : Nat} {u v : T} (h : l[j]? = some u) (hf : f v = f u) (i : Nat) : ((l.set j v).take i).map f = (l.take i).map f := by
  refine List.ext_getElem? fun n => ?_
  rw [List.getElem?_map, List.getElem?_map, List.getElem?_take, List.getElem?_take]
  split
  · by_cases hj : j = n
    · subst hj
      rw [List.getElem?_set_self (List.getElem?_eq_some_iff.1 h).1, h]
      simp [hf]
    · rw [List.getElem?_set_ne hj]
  · rfl
theorem pX_no {k x : Int} (l : List T) (h : k ≠ 2) : pX k x l = x := by
  induction l with
  | nil => rfl
  | cons t l ih => show pX k (nxX k x t) l = x; rw [nxX_no h]; exact ih
theorem pY_no {k y : Int} (l : List T) (h : k ≠ 3) : pY k y l = y := by
  induction l with
  | nil => rfl
  | cons t l ih => show pY k (nxY k y t) l = y; rw [nxY_no h]; exact ih
theorem pX_row {t : T} {ms : List Int} (hms : ms = wsT t) (hf : fitS t.r.w ms ms.length) (h0 : 0 ≤ t.r.x) (h1 : t.r.x + t.r.w ≤ 10000) : ∀ j, j ≤ t.kids.length → pX 2 t.r.x (t.kids.take j) = t.r.x + offS ms j := by
  intro j
  have hlen : ms.length = t.kids.length := by rw [hms]; simp [wsT]
  induction j with
  | zero => intro _; rw [off_zero]; simp [pX]
  | succ j ih =>
    intro hj
    obtain ⟨u, hu⟩ : ∃ u, t.kids[j]? = some u := ⟨_, List.getElem?_eq_getElem (by omega)⟩
    have hm : ms[j]? = some u.r.w := by rw [hms]; unfold wsT; rw [List.getElem?_map, hu]; rfl
    have h2 := hf j _ (by omega) hm
    have h3 := off_nonneg hf j (by omega) (by omega)
    rw [pX_take hu, nxX_row, ih (by omega), off_succ hm, wrap_id (by omega)]
    omega
theorem pY_col {t : T} {ms : List Int} (hms : ms = hsT t) (hf : fitS t.r.h ms ms.length) (h0 : 0 ≤ t.r.y) (h1 : t.r.y + t.r.h ≤ 10000) : ∀ j, j ≤ t.kids.length → pY 3 t.r.y (t.kids.take j) = t.r.y + offS ms j := by
  intro j
  have hlen : ms.length = t.kids.length := by rw [hms]; simp [hsT]
  induction j with
  | zero => intro _; rw [off_zero]; simp [pY]
  | succ j ih =>
    intro hj
    obtain ⟨u, hu⟩ : ∃ u, t.kids[j]? = some u := ⟨_, List.getElem?_eq_getElem (by omega)⟩
    have hm : ms[j]? = some u.r.h := by rw [hms]; unfold hsT; rw [List.getElem?_map, hu]; rfl
    have h2 := hf j _ (by omega) hm
    have h3 := off_nonneg hf j (by omega) (by omega)
    rw [pY_take hu, nxY_col, ih (by omega), off_succ hm, wrap_id (by omega)]
    omega

/-- Each kid of what tiles begins behind those ahead of it. -/
theorem fit_at {t : T} (hs : sz t ≤ 20000) (ht : tileB t = true) {j : Nat} {u : T} (hu : t.kids[j]? = some u) : pX t.k t.r.x (t.kids.take j) = u.r.x ∧ pY t.k t.r.y (t.kids.take j) = u.r.y := by
  obtain ⟨hw, hf⟩ := tile_top hs ht
  have hr := may_rect (well_rect hw)
  have hjl := (List.getElem?_eq_some_iff.1 hu).1
  obtain h1 | ⟨⟨-, hcut⟩, hrects⟩ := (fitB_iff t).1 hf
  · rw [leaf_none hs ht h1] at hu; simp at hu
  · have hlen : (sizesT t).length = t.kids.length := sizes_len t
    have hat : (cutParts t.r (axT t) (sizesT t) true)[j]? = some u.r := by rw [← hrects, List.getElem?_map, hu]; rfl
    rcases well_kind hw with h | h | h
    · rw [leaf_none hs ht h] at hu; simp at hu
    · have ha : axT t = 1 := by unfold axT; rw [if_neg (by omega)]
      have hss : sizesT t = wsT t := by unfold sizesT; rw [if_neg (by omega)]
      rw [ha] at hcut hat
      have hfill : fillP t.r.w (sizesT t) := by
        rcases hcut with ⟨-, h⟩ | ⟨h, -⟩
        · exact h
        · omega
      rw [cutParts, if_pos rfl, parts_at _ _ _ _ _ (by omega)] at hat
      have h4 := Option.some.inj hat
      have h5 := pX_row hss hfill.1 (by omega) (by omega) j (by omega)
      rw [h]
      refine ⟨h5.trans ?_, (pY_no _ (by decide)).trans ?_⟩
      · rw [← h4]; rfl
      · rw [← h4]; rfl
    · have ha : axT t = 2 := by unfold axT; rw [if_pos h]
      have hss : sizesT t = hsT t := by unfold sizesT; rw [if_pos h]
      rw [ha] at hcut hat
      have hfill : fillP t.r.h (sizesT t) := by
        rcases hcut with ⟨h, -⟩ | ⟨-, h⟩
        · omega
        · exact h
      rw [cutParts, if_neg (by decide), parts_at _ _ _ _ _ (by omega)] at hat
      have h4 := Option.some.inj hat
      have h5 := pY_col hss hfill.1 (by omega) (by omega) j (by omega)
      rw [h]
      refine ⟨(pX_no _ (by decide)).trans ?_, h5.trans ?_⟩
      · rw [← h4]; rfl
      · rw [← h4]; rfl
/-- What tiles is set. -/
theorem set_id (N : Nat) : ∀ t : T, sz t ≤ N → sz t ≤ 20000 → tileB t = true → setT t.r.x t.r.y t = t := by
  induction N with
  | zero => intro t h; have := sz_pos t; omega
  | succ N ih =>
    intro t hN hs ht
    have hk : setL t.k t.r.x t.r.y t.kids = t.kids := by
      refine List.ext_getElem? fun j => ?_
      rw [setL_get]
      cases hu : t.kids[j]? with
      | none => rfl
      | some u =>
        obtain ⟨h1, h2⟩ := fit_at hs ht hu
        have h3 := sz_kid hu
        rw [h1, h2]
        exact congrArg some (ih u (by omega) (by omega) (tile_kid hs ht hu))
    rw [setT_eq, hk]
    exact (T.eta t).symm
/-- One kid is another one, of the same rectangle. -/
theorem set_kid {t v y : T} {j : Nat} (hs : sz t ≤ 20000) (ht : tileB t = true) (hv : t.kids[j]? = some v) (hr : y.r = v.r) : setT t.r.x t.r.y (.node t.k t.r t.id (t.kids.set j y)) = setKid t j (setT v.r.x v.r.y y) := by
  have hjl := (List.getElem?_eq_some_iff.1 hv).1
  have hk : setL t.k t.r.x t.r.y (t.kids.set j y) = t.kids.set j (setT v.r.x v.r.y y) := by
    refine List.ext_getElem? fun i => ?_
    rw [setL_get, pX_same _ (t.kids.take i) _ (map_set_same hv (by rw [hr]) i), pY_same _ (t.kids.take i) _ (map_set_same hv (by rw [hr]) i)]
    by_cases hij : j = i
    · subst hij
      obtain ⟨h1, h2⟩ := fit_at hs ht hv
      rw [List.getElem?_set_self hjl, List.getElem?_set_self hjl, h1, h2]
      rfl
    · rw [List.getElem?_set_ne hij, List.getElem?_set_ne hij]
      cases hu : t.kids[i]? with
      | none => rfl
      | some u =>
        obtain ⟨h1, h2⟩ := fit_at hs ht hu
        have h3 := sz_kid hu
        rw [h1, h2]
        exact congrArg some (set_id (sz u) u (Nat.le_refl _) (by omega) (tile_kid hs ht hu))
  rw [setT_eq]
  show T.node t.k ⟨t.r.x, t.r.y, t.r.w, t.r.h⟩ t.id (setL t.k t.r.x t.r.y (t.kids.set j y)) = _
  rw [hk]; rfl
mutual
theorem setT_sz : ∀ (x y : Int) (t : T), sz (setT x y t) = sz t
  | x, y, .node k r i l => by rw [setT, sz, sz, setL_sz k x y l]
theorem setL_sz (k : Int) : ∀ (x y : Int) (l : List T), szL (setL k x y l) = szL l
  | _, _, [] => by simp [setL]
  | x, y, t :: l => by rw [setL, szL, szL, setT_sz x y t, setL_sz k (nxX k x t) (nxY k y t) l]
end

/-- No leaf there has the number. -/
def noId (id : Int) (l : List T) : Prop := ∀ x ∈ l, ¬ (x.k = 1 ∧ x.id = id)
mutual
theorem inT_no (id ax : Int) (l : List T) : ∀ t, noId id (preT t) → inT id ax l t = t
  | .node k r i ks => by
    intro h
    rw [inT]
    have h0 := h (.node k r i ks) (by rw [preT_eq]; exact List.mem_cons_self ..)
    have h1 := inL_no id ax l k ks (fun x hx => h x (by rw [preT_eq]; exact List.mem_cons_of_mem _ hx))
    split
    · rename_i hk
      split
      · rename_i hi; exact absurd ⟨hk, hi⟩ h0
      · rfl
    · rw [h1]
theorem inL_no (id ax : Int) (l : List T) (k : Int) : ∀ ks, noId id (preL ks) → inL id ax l k ks = ks
  | [] => by intro _; simp [inL]
  | t :: ts => by
    intro h
    have h1 := inT_no id ax l t (fun x hx => h x (by rw [preL]; exact List.mem_append_left _ hx))
    have h2 := inL_no id ax l k ts (fun x hx => h x (by rw [preL]; exact List.mem_append_right _ hx))
    have h3 := h t (by rw [preL]; exact List.mem_append_left _ (by rw [preT_eq]; exact List.mem_cons_self ..))
    rw [inL, h1, h2, if_neg (fun e => h3 ⟨e.1, e.2.1⟩)]
    rfl
end
theorem inT_r (id ax : Int) (l : List T) (t : T) : (inT id ax l t).r = t.r := by
  rw [inT_eq]
  split
  · split <;> rfl
  · rfl
theorem cut_at {α : Type} {l : List α} {k : Nat} {u : α} (h : l[k]? = some u) : l = l.take k ++ [u] ++ l.drop (k + 1) := by
  conv => lhs; rw [← List.take_append_drop (k + 1) l]
  rw [List.take_add_one, h]; rfl
theorem inL_at {id ax : Int} {l : List T} {kd : Int} {ks : List T} {k : Nat} {u : T} (hu : ks[k]? = some u) (h1 : noId id (preL (ks.take k))) (h2 : noId id (preL (ks.drop (k + 1)))) : inL id ax l kd ks = ks.take k ++ inK id ax l kd u ++ ks.drop (k + 1) := by
  conv => lhs; rw [cut_at hu]
  rw [inL_append, inL_append, inL_no _ _ _ _ _ h1, inL_no _ _ _ _ _ h2]
  congr 2
  simp [inL, inK]
theorem set_cut {α : Type} {l : List α} {k : Nat} {u y : α} (h : l[k]? = some u) : l.take k ++ [y] ++ l.drop (k + 1) = l.set k y := by
  have hk := (List.getElem?_eq_some_iff.1 h).1
  rw [List.set_eq_take_append_cons_drop, if_pos hk, List.append_assoc]; rfl

/-- Leaves have numbers of their own. -/
def onceI (l : List T) : Prop := ((l.filter leafB).map T.id).Nodup
theorem once_tile {t : T} (hs : sz t ≤ 20000) (ht : tileB t = true) : onceI (preT t) := by
  have h1 := tile_may ht
  rw [may_is hs] at h1
  unfold rmayT at h1
  rw [Bool.and_eq_true, decide_eq_true_eq] at h1
  exact h1.2
theorem once_mid {a b c : List T} {id : Int} {y : T} (h : onceI (a ++ b ++ c)) (hy : y ∈ b) (hk : y.k = 1 ∧ y.id = id) : noId id a ∧ noId id c := by
  have leaf : ∀ {x : T}, x.k = 1 → leafB x = true := fun h => by unfold leafB; simp [h]
  have mem : ∀ {l : List T} {x : T}, x ∈ l → x.k = 1 ∧ x.id = id → id ∈ (l.filter leafB).map T.id := fun hx e => List.mem_map.2 ⟨_, List.mem_filter.2 ⟨hx, leaf e.1⟩, e.2⟩
  unfold onceI at h
  rw [List.filter_append, List.filter_append, List.map_append, List.map_append, List.nodup_append, List.nodup_append] at h
  obtain ⟨⟨-, -, h1⟩, -, h2⟩ := h
  refine ⟨fun x hx e => ?_, fun x hx e => ?_⟩
  · exact h1 id (mem hx e) id (mem hy hk) rfl
  · exact h2 id (List.mem_append_right _ (mem hy hk)) id (mem hx e) rfl
theorem once_inj {l : List T} (h : onceI l) {x y : T} (hx : x ∈ l) (hy : y ∈ l) (kx : x.k = 1) (ky : y.k = 1) (he : x.id = y.id) : x = y := by
  have leaf : ∀ {x : T}, x.k = 1 → leafB x = true := fun h => by unfold leafB; simp [h]
  have gen : ∀ m : List T, (m.map T.id).Nodup → ∀ x y : T, x ∈ m → y ∈ m → x.id = y.id → x = y := by
    intro m
    induction m with
    | nil => intro _ x y hx; cases hx
    | cons z m ih =>
      intro hn x y hx hy e
      rw [List.map_cons, List.nodup_cons] at hn
      rcases List.mem_cons.1 hx with rfl | hx'
      · rcases List.mem_cons.1 hy with rfl | hy'
        · rfl
        · exact absurd (List.mem_map.2 ⟨y, hy', e.symm⟩) hn.1
      · rcases List.mem_cons.1 hy with rfl | hy'
        · exact absurd (List.mem_map.2 ⟨x, hx', e⟩) hn.1
        · exact ih hn.2 x y hx' hy' e
  exact gen _ h x y (List.mem_filter.2 ⟨hx, leaf kx⟩) (List.mem_filter.2 ⟨hy, leaf ky⟩) he

/-- The way to a leaf, taken apart. -/
theorem findL_inv {id : Int} : ∀ {l : List T} {j : Nat} {p : List Int}, findL id j l = some p → ∃ (k : Nat) (u : T) (q : List Int), l[k]? = some u ∧ findT id u = some q ∧ p = ((j + k : Nat) : Int) :: q := by
  intro l
  induction l with
  | nil => intro j p h; rw [findL] at h; cases h
  | cons t l ih =>
    intro j p h
    rw [findL] at h
    cases ht : findT id t with
    | some q =>
      rw [ht] at h
      cases h
      exact ⟨0, t, q, rfl, ht, rfl⟩
    | none =>
      rw [ht] at h
      obtain ⟨k, u, q, h1, h2, h3⟩ := ih h
      exact ⟨k + 1, u, q, by simpa using h1, h2, by rw [h3]; congr 2; omega⟩
theorem findT_top {id : Int} {t : T} (h : findT id t = some []) : t.k = 1 ∧ t.id = id := by
  rw [findT_eq] at h
  split at h
  · assumption
  · obtain ⟨k, u, q, -, -, h3⟩ := findL_inv h
    cases h3
theorem findT_more {id m : Int} {t : T} {p : List Int} (h : findT id t = some (m :: p)) : ∃ (j : Nat) (v : T), m = j ∧ t.kids[j]? = some v ∧ findT id v = some p := by
  rw [findT_eq] at h
  split at h
  · cases h
  · obtain ⟨k, u, q, h1, h2, h3⟩ := findL_inv h
    cases h3
    exact ⟨k, u, by simp, h1, h2⟩
theorem find_there {id : Int} : ∀ {p : List Int} {t : T}, findT id t = some p → ∃ u, atT t p = some u ∧ u.k = 1 ∧ u.id = id ∧ u ∈ preT t := by
  intro p
  induction p with
  | nil =>
    intro t h
    obtain ⟨h1, h2⟩ := findT_top h
    exact ⟨t, rfl, h1, h2, by rw [preT_eq]; exact List.mem_cons_self ..⟩
  | cons m p ih =>
    intro t h
    obtain ⟨j, v, rfl, hv, hf⟩ := findT_more h
    obtain ⟨u, h1, h2, h3, h4⟩ := ih hf
    refine ⟨u, ?_, h2, h3, (pre_sub hv).mem h4⟩
    have : kidAt t (j : Int) = some v := by unfold kidAt; rw [if_pos (by omega)]; simpa using hv
    rw [atT, this]; exact h1
mutual
theorem find_no (id : Int) : ∀ t, findT id t = none → noId id (preT t)
  | .node k r i l => by
    intro h
    rw [findT] at h
    split at h
    · cases h
    · rename_i hn
      intro x hx
      rw [preT] at hx
      rcases List.mem_cons.1 hx with rfl | hx
      · exact hn
      · exact findL_no id 0 l h x hx
theorem findL_no (id : Int) (j : Nat) : ∀ l, findL id j l = none → noId id (preL l)
  | [] => by intro _ x hx; rw [preL] at hx; cases hx
  | t :: l => by
    intro h
    rw [findL] at h
    cases ht : findT id t with
    | some q => rw [ht] at h; cases h
    | none =>
      rw [ht] at h
      intro x hx
      rw [preL] at hx
      rcases List.mem_append.1 hx with hx | hx
      · exact find_no id t ht x hx
      · exact findL_no id (j + 1) l h x hx
end
theorem lf_none {id : Int} {t : T} (h : findT id t = none) : lfF id t = none := by
  unfold lfF
  rw [List.find?_eq_none]
  intro x hx he
  rw [List.mem_filter] at hx
  refine find_no id t h x hx.1 ⟨?_, ?_⟩
  · have := hx.2; unfold leafB at this; simpa using this
  · unfold lfB at he; simpa using he
theorem lf_some {id : Int} {t u : T} {p : List Int} (hs : sz t ≤ 20000) (ht : tileB t = true) (h : findT id t = some p) (hu : atT t p = some u) : lfF id t = some u ∧ u.k = 1 ∧ u.id = id := by
  obtain ⟨u', h1, h2, h3, h4⟩ := find_there h
  rw [hu] at h1
  cases h1
  refine ⟨?_, h2, h3⟩
  cases hl : lfF id t with
  | none =>
    unfold lfF at hl
    rw [List.find?_eq_none] at hl
    refine absurd ?_ (hl u (List.mem_filter.2 ⟨h4, by unfold leafB; simp [h2]⟩))
    unfold lfB; simp [h3]
  | some v =>
    have g1 := List.find?_some hl
    have g2 := List.mem_of_find?_eq_some hl
    rw [List.mem_filter] at g2
    have g3 : v.k = 1 := by have := g2.2; unfold leafB at this; simpa using this
    have g4 : v.id = id := by unfold lfB at g1; simpa using g1
    exact congrArg some (once_inj (once_tile hs ht) g2.1 h4 g3 h2 (g4.trans h3.symm))
theorem tile_at {u : T} : ∀ {p : List Int} {t : T}, sz t ≤ 20000 → tileB t = true → atT t p = some u → tileB u = true ∧ sz u ≤ sz t := by
  intro p
  induction p with
  | nil => intro t hs ht h; rw [atT] at h; cases h; exact ⟨ht, Nat.le_refl _⟩
  | cons m p ih =>
    intro t hs ht h
    rw [atT] at h
    cases hk : kidAt t m with
    | none => rw [hk] at h; cases h
    | some v =>
      rw [hk] at h
      obtain ⟨j, rfl, hj⟩ := kid_some hk
      have h1 := sz_kid hj
      obtain ⟨h2, h3⟩ := ih (by omega) (tile_kid hs ht hj) h
      exact ⟨h2, by omega⟩

/-- The cell around a leaf that both go into, where it stands, which of its kids the leaf is. -/
def mkG (ax : Int) (u : T) : T := .node (if ax = 2 then 3 else 2) u.r 0 [u]
def Around (t : T) (p : List Int) (ax : Int) (u g : T) (pl : List Int) (k : Nat) : Prop :=
  (∃ (q : List Int) (j : Nat), p = q ++ [(j : Int)] ∧ atT t q = some g ∧ alB g.k ax = true ∧ pl = q ∧ k = j) ∨
  (g = mkG ax u ∧ pl = p ∧ k = 0 ∧ (p = [] ∨ ∃ (q : List Int) (j : Int) (g' : T), p = q ++ [j] ∧ atT t q = some g' ∧ alB g'.k ax = false))
abbrev swapK (g : T) (k : Nat) (l : List T) : T := .node g.k g.r g.id (g.kids.take k ++ l ++ g.kids.drop (k + 1))
theorem around_is {id ax : Int} (hax : ax = 1 ∨ ax = 2) (l : List T) (u g : T) : ∀ (p : List Int) (t : T) (pl : List Int) (k : Nat), sz t ≤ 20000 → tileB t = true → findT id t = some p → atT t p = some u → Around t p ax u g pl k →
    putT (setT g.r.x g.r.y (swapK g k l)) t pl = some (setT t.r.x t.r.y (inT id ax l t)) := by
  have hkd : (if ax = 2 then (3 : Int) else 2) = ax + 1 := by split <;> omega
  intro p
  induction p with
  | nil =>
    intro t pl k hs ht hf hu har
    obtain ⟨h1, h2⟩ := findT_top hf
    rw [atT] at hu
    cases hu
    rcases har with ⟨q, j, h, -⟩ | ⟨rfl, rfl, rfl, -⟩
    · simp at h
    · rw [putT, inT_eq, if_pos h1, if_pos h2]
      unfold swapK mkG
      simp only [T.k, T.r, T.id, T.kids, hkd, List.take_zero, List.nil_append, List.drop_succ_cons, List.drop_nil, List.append_nil]
  | cons m p ih =>
    intro t pl k hs ht hf hu har
    obtain ⟨j, v, rfl, hv, hfv⟩ := findT_more hf
    have hkid : kidAt t (j : Int) = some v := by unfold kidAt; rw [if_pos (by omega)]; simpa using hv
    rw [atT, hkid] at hu
    have hu : atT v p = some u := hu
    have hk1 : t.k ≠ 1 := fun e => by rw [leaf_none hs ht e] at hv; simp at hv
    have hsv := sz_kid hv
    have htv := tile_kid hs ht hv
    obtain ⟨u', h1, h2, h3, h4⟩ := find_there hfv
    have hon := once_tile hs ht
    have hcons : onceI ((t :: preL (t.kids.take j)) ++ preT v ++ preL (t.kids.drop (j + 1))) := by
      rw [preT_eq t, pre_cut hv] at hon
      simpa using hon
    obtain ⟨n1, n2⟩ := once_mid hcons h4 ⟨h2, h3⟩
    have hin : inT id ax l t = .node t.k t.r t.id (t.kids.take j ++ inK id ax l t.k v ++ t.kids.drop (j + 1)) := by
      rw [inT_eq, if_neg hk1, inL_at hv (fun x hx => n1 x (List.mem_cons_of_mem _ hx)) n2]
    have hin2 : inK id ax l t.k v = [inT id ax l v] → setT t.r.x t.r.y (inT id ax l t) = setKid t j (setT v.r.x v.r.y (inT id ax l v)) := fun e => by
      rw [hin, e, set_cut hv]
      exact set_kid hs ht hv (inT_r id ax l v)
    have hput : ∀ (x y : T) (q : List Int), putT x v q = some y → putT x t ((j : Int) :: q) = some (setKid t j y) := fun x y q e => by
      rw [putT, hkid]
      simp only [e, Int.toNat_natCast]
    cases p with
    | nil =>
      obtain ⟨g1, g2⟩ := findT_top hfv
      rw [atT] at hu
      cases hu
      rcases har with ⟨q, i, h, hg, ha, rfl, rfl⟩ | ⟨rfl, rfl, rfl, h⟩
      · obtain ⟨rfl, rfl⟩ : pl = [] ∧ k = j := by
          cases pl with
          | nil => simp at h; exact ⟨rfl, by omega⟩
          | cons a b => simp at h
        rw [atT] at hg
        cases hg
        rw [putT, hin]
        unfold inK
        rw [if_pos ⟨g1, g2, ha⟩]
      · have ha : alB t.k ax = false := by
          rcases h with h | ⟨q, i, g', h, hg, ha⟩
          · cases h
          · cases q with
            | nil => rw [atT] at hg; cases hg; exact ha
            | cons a b => simp at h
        rw [hin2 (by unfold inK; rw [if_neg (fun e => by rw [ha] at e; exact absurd e.2.2 (by decide))])]
        refine hput _ _ [] ?_
        rw [putT, inT_eq, if_pos g1, if_pos g2]
        unfold swapK mkG
        simp only [T.k, T.r, T.id, T.kids, hkd, List.take_zero, List.nil_append, List.drop_succ_cons, List.drop_nil, List.append_nil]
    | cons m2 p =>
      obtain ⟨j2, v2, -, hv2, -⟩ := findT_more hfv
      have hkv : v.k ≠ 1 := fun e => by rw [leaf_none (by omega) htv e] at hv2; simp at hv2
      rw [hin2 (by unfold inK; rw [if_neg (fun e => hkv e.1)])]
      rcases har with ⟨q, i, h, hg, ha, rfl, rfl⟩ | ⟨hgm, rfl, rfl, h⟩
      · cases pl with
        | nil => simp at h
        | cons a b =>
          rw [List.cons_append, List.cons.injEq] at h
          obtain ⟨rfl, h⟩ := h
          rw [atT, hkid] at hg
          exact hput _ _ _ (ih v b k (by omega) htv hfv hu (.inl ⟨b, k, h, hg, ha, rfl, rfl⟩))
      · refine hput _ _ _ (ih v (m2 :: p) 0 (by omega) htv hfv hu (.inr ⟨hgm, rfl, rfl, .inr ?_⟩))
        rcases h with h | ⟨q, i, g', h, hg, ha⟩
        · cases h
        · cases q with
          | nil => simp at h
          | cons a b =>
            rw [List.cons_append, List.cons.injEq] at h
            obtain ⟨rfl, h⟩ := h
            rw [atT, hkid] at hg
            exact ⟨b, i, g', h, hg, ha⟩

/-- A leaf that is adjusted. -/
theorem adj_leaf {ax a : Int} (hax : ax = 1 ∨ ax = 2) {u : T} (hs : sz u ≤ 20000) (ht : tileB u = true) (hk : u.k = 1) (h1 : 1 ≤ a) (h2 : a ≤ szA u.r ax) : ajE ax (a - szA u.r ax) u = 0 ∧ ajT ax (a - szA u.r ax) u = .node 1 (cutR u.r ax a) u.id [] := by
  obtain ⟨hw, -⟩ := tile_top hs ht
  have hp := szA_pos (well_rect hw) hax
  have hl := leaf_ls hw hk ax
  refine ⟨(aj_do ⟨ht, (axB_iff ax).2 hax⟩).trans (if_neg (by omega)), ?_⟩
  have he : adjR ax (a - szA u.r ax) u.r = cutR u.r ax a := by
    rcases hax with rfl | rfl
    · have : szA u.r 1 = u.r.w := rfl
      unfold adjR cutR
      rw [if_pos rfl, if_pos rfl, this]
      congr 1; omega
    · have : szA u.r 2 = u.r.h := rfl
      unfold adjR cutR
      rw [if_neg (by decide), if_neg (by decide), this]
      congr 1; omega
  have hx : cutR u.r ax a = ⟨u.r.x, u.r.y, (cutR u.r ax a).w, (cutR u.r ax a).h⟩ := by unfold cutR; split <;> rfl
  have hq : adjT ax (a - szA u.r ax) u = .node 1 (cutR u.r ax a) u.id [] := by
    rw [adjT_eq, leaf_none hs ht hk, he, hk]
    simp [adjL]
  unfold ajT
  rw [hq, setT_eq]
  show T.node 1 ⟨u.r.x, u.r.y, (cutR u.r ax a).w, (cutR u.r ax a).h⟩ u.id (setL 1 u.r.x u.r.y []) = _
  rw [← hx]
  simp [setL]
end Go.Proofs.YtcdiogifgemjbaaGreat
