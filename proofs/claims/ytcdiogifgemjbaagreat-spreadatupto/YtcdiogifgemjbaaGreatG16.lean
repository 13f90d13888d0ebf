/- Texts of this seat, 3 in one file. -/
import Derived.Test.YtcdiogifgemjbaaGreatG15
import Derived.Test.YtcdiogifgemjbaaGreatG14
import Derived.Test.YtcdiogifgemjbaaGreatG08
import Derived.Test.YtcdiogifgemjbaaGreatG09
import Derived.Test.YtcdiogifgemjbaaGreatG04
import Derived.Test.YtcdiogifgemjbaaGreatG07
/- May a tree be? The program's answer is the document's. -/
namespace Go.Proofs.YtcdiogifgemjbaaGreat
open Go.RowKit

def idsP (l : List T) : List Int := (l.filter leafB).map T.id
theorem idsP_append (a b : List T) : idsP (a ++ b) = idsP a ++ idsP b := by simp [idsP]
theorem idsP_cons (t : T) (l : List T) : idsP (t :: l) = (if leafB t then [t.id] else []) ++ idsP l := by
  unfold idsP
  cases h : leafB t <;> simp [h]
/-- All may be, and no number was met ahead. -/
def okP (l : List T) (ms : List Int) : Prop := l.all wellT = true ∧ ((idsP l).reverse ++ ms).Nodup
theorem nodup_rev {a : List Int} : a.reverse.Nodup ↔ a.Nodup := by
  unfold List.Nodup
  rw [List.pairwise_reverse]
  exact ⟨fun h => h.imp fun hab e => hab e.symm, fun h => h.imp fun hab e => hab e.symm⟩
theorem nodup_right {a b : List Int} (h : (a ++ b).Nodup) : b.Nodup := h.sublist (List.sublist_append_right a b)

theorem step_bad {n : Nat} {ms : List Int} {t : T} (hn : n + 1 ≤ 20000) (h : wellT t = false) : (mayStep (n, ms) t).1 = true := by
  rw [mayStep, if_pos (.inr h)]
theorem step_row {n : Nat} {ms : List Int} {t : T} (hn : n + 1 ≤ 20000) (h : wellT t = true) (hk : leafB t = false) : mayStep (n, ms) t = (false, (n + 1, ms)) := by
  rw [mayStep, if_neg (by simp [h]; omega), if_pos (by simpa [leafB] using hk)]
theorem step_leaf {n : Nat} {ms : List Int} {t : T} (hn : n + 1 ≤ 20000) (h : wellT t = true) (hk : leafB t = true) : mayStep (n, ms) t = (decide (t.id ∈ ms), (n + 1, t.id :: ms)) := by
  rw [mayStep, if_neg (by simp [h]; omega), if_neg (by simpa [leafB] using hk)]

mutual
theorem goT_may : ∀ (t : T) (n : Nat) (ms : List Int), n + sz t ≤ 20000 → ms.Nodup →
    (okP (preT t) ms → goT mayStep (n, ms) t = (false, (n + sz t, (idsP (preT t)).reverse ++ ms))) ∧ (¬ okP (preT t) ms → (goT mayStep (n, ms) t).1 = true)
  | .node k r i l, n, ms, hn, hms => by
    have ihl := goL_may l
    rw [sz] at hn
    rw [goT_eq, preT, idsP_cons]
    cases hw : wellT (.node k r i l) with
    | false =>
      have h1 := step_bad (ms := ms) (show n + 1 ≤ 20000 by omega) hw
      refine ⟨fun h => ?_, fun _ => by rw [if_pos h1]; exact h1⟩
      have := h.1
      rw [List.all_cons, hw] at this
      cases this
    | true =>
      cases hk : leafB (.node k r i l) with
      | false =>
        rw [step_row (by omega) hw hk]
        obtain ⟨h1, h2⟩ := ihl (n + 1) ms (by omega) hms
        have hok : okP (.node k r i l :: preL l) ms ↔ okP (preL l) ms := by
          unfold okP
          rw [List.all_cons, hw, idsP_cons, hk]
          simp
        simp only [Bool.false_eq_true, if_false, List.nil_append, T.kids]
        refine ⟨fun h => ?_, fun h => h2 (fun g => h (hok.2 g))⟩
        rw [h1 (hok.1 h), sz]
        simp only [Prod.mk.injEq, true_and, and_true]
        omega
      | true =>
        rw [step_leaf (by omega) hw hk]
        have hid : (T.node k r i l).id = i := rfl
        rw [hid]
        have hok : okP (.node k r i l :: preL l) ms ↔ okP (preL l) (i :: ms) := by
          unfold okP
          rw [List.all_cons, hw, idsP_cons, hk, hid]
          simp
        by_cases hm : i ∈ ms
        · refine ⟨fun h => ?_, fun _ => by simp [hm]⟩
          have := nodup_right (hok.1 h).2
          rw [List.nodup_cons] at this
          exact absurd hm this.1
        · obtain ⟨h1, h2⟩ := ihl (n + 1) (i :: ms) (by omega) (List.nodup_cons.2 ⟨hm, hms⟩)
          simp only [decide_eq_false hm, Bool.false_eq_true, if_false, T.kids]
          refine ⟨fun h => ?_, fun h => h2 (fun g => h (hok.2 g))⟩
          rw [h1 (hok.1 h), sz]
          simp
          omega
theorem goL_may : ∀ (l : List T) (n : Nat) (ms : List Int), n + szL l ≤ 20000 → ms.Nodup →
    (okP (preL l) ms → goL mayStep (n, ms) l = (false, (n + szL l, (idsP (preL l)).reverse ++ ms))) ∧ (¬ okP (preL l) ms → (goL mayStep (n, ms) l).1 = true)
  | [], n, ms, hn, hms => by
    rw [goL, preL, szL]
    refine ⟨fun _ => by simp [idsP], fun h => absurd ⟨rfl, by simpa [idsP] using hms⟩ h⟩
  | t :: l, n, ms, hn, hms => by
    rw [szL] at hn
    obtain ⟨h1, h2⟩ := goT_may t n ms (by omega) hms
    have ihl := goL_may l
    rw [goL, preL, szL, idsP_append]
    by_cases ht : okP (preT t) ms
    · rw [h1 ht]
      obtain ⟨g1, g2⟩ := ihl (n + sz t) ((idsP (preT t)).reverse ++ ms) (by omega) ht.2
      have hok : okP (preT t ++ preL l) ms ↔ okP (preL l) ((idsP (preT t)).reverse ++ ms) := by
        unfold okP
        rw [List.all_append, ht.1, idsP_append]
        simp
      simp only [Bool.false_eq_true, if_false]
      refine ⟨fun h => ?_, fun h => g2 (fun g => h (hok.2 g))⟩
      rw [g1 (hok.1 h)]
      simp
      omega
    · have h3 := h2 ht
      rw [if_pos h3]
      refine ⟨fun h => absurd ⟨?_, ?_⟩ ht, fun _ => h3⟩
      · have := h.1
        rw [List.all_append, Bool.and_eq_true] at this
        exact this.1
      · have := h.2
        rw [idsP_append, List.reverse_append, List.append_assoc] at this
        exact nodup_right this
end

theorem may_is {t : T} (h : sz t ≤ 20000) : mayT t = rmayT t := by
  obtain ⟨h1, h2⟩ := goT_may t 0 [] (by omega) List.nodup_nil
  rw [mayT, rmayT]
  by_cases hk : okP (preT t) []
  · rw [h1 hk]
    have hnd : (((preT t).filter leafB).map T.id).Nodup := by
      have := hk.2
      rw [List.append_nil] at this
      have := nodup_rev.1 this
      exact this
    rw [hk.1, decide_eq_true hnd]; rfl
  · rw [h2 hk]
    symm
    cases e : (preT t).all wellT with
    | false => rfl
    | true =>
      rw [decide_eq_false]; rfl
      intro hnd
      exact hk ⟨e, by rw [List.append_nil]; exact nodup_rev.2 hnd⟩
end Go.Proofs.YtcdiogifgemjbaaGreat
/- What may be is small; the kids of what tiles tile. -/
namespace Go.Proofs.YtcdiogifgemjbaaGreat
open Go.RowKit

theorem mayStep_small {s : Nat × List Int} {t : T} (h : (mayStep s t).1 = false) : (mayStep s t).2.1 = s.1 + 1 ∧ s.1 + 1 ≤ 20000 := by
  unfold mayStep at h ⊢
  split at h
  · cases h
  · rename_i hn
    rw [if_neg hn]
    constructor
    · split <;> rfl
    · omega
mutual
theorem go_small (s : Nat × List Int) : ∀ t, (goT mayStep s t).1 = false → (goT mayStep s t).2.1 = s.1 + sz t ∧ s.1 + sz t ≤ 20000
  | .node k r i l => by
    intro h
    rw [goT] at h ⊢
    rw [sz]
    by_cases hf : (mayStep s (.node k r i l)).1 = true
    · rw [if_pos hf, hf] at h; cases h
    · rw [if_neg hf] at h ⊢
      obtain ⟨h1, h2⟩ := mayStep_small (s := s) (t := .node k r i l) (by simpa using hf)
      have h3 := goL_small (mayStep s (.node k r i l)).2 l h (by omega)
      omega
theorem goL_small (s : Nat × List Int) : ∀ l, (goL mayStep s l).1 = false → s.1 ≤ 20000 → (goL mayStep s l).2.1 = s.1 + szL l ∧ s.1 + szL l ≤ 20000
  | [] => by
    intro _ hs
    rw [goL, szL]
    exact ⟨rfl, hs⟩
  | t :: l => by
    intro h hs
    rw [goL] at h ⊢
    rw [szL]
    by_cases hf : (goT mayStep s t).1 = true
    · rw [if_pos hf, hf] at h; cases h
    · rw [if_neg hf] at h ⊢
      have h1 := go_small s t (by simpa using hf)
      have h3 := goL_small (goT mayStep s t).2 l h (by omega)
      omega
end
theorem may_small {t : T} (h : mayT t = true) : sz t ≤ 20000 := by
  unfold mayT at h
  have := go_small (0, []) t (by simpa using h)
  simp only at this
  omega
theorem tile_may {t : T} (h : tileB t = true) : mayT t = true := by
  unfold tileB at h
  rw [Bool.and_eq_true] at h
  exact h.1
theorem pre_cut {l : List T} {k : Nat} {u : T} (h : l[k]? = some u) : preL l = preL (l.take k) ++ preT u ++ preL (l.drop (k + 1)) := by
  conv => lhs; rw [← List.take_append_drop (k + 1) l]
  rw [preL_append, preL_step h]
theorem pre_sub {t u : T} {k : Nat} (h : t.kids[k]? = some u) : List.Sublist (preT u) (preT t) := by
  rw [preT_eq t, pre_cut h]
  refine List.Sublist.cons _ ?_
  rw [List.append_assoc]
  exact (List.sublist_append_left _ _).trans (List.sublist_append_right _ _)
theorem tile_kid {t u : T} {k : Nat} (hs : sz t ≤ 20000) (ht : tileB t = true) (h : t.kids[k]? = some u) : tileB u = true := by
  have hu : sz u < sz t := sz_kid h
  have hsub := pre_sub h
  unfold tileB at ht ⊢
  rw [may_is (by omega)] at ht ⊢
  unfold rmayT at ht ⊢
  simp only [Bool.and_eq_true, decide_eq_true_eq] at ht ⊢
  obtain ⟨⟨h1, h2⟩, h3⟩ := ht
  refine ⟨⟨?_, ?_⟩, ?_⟩
  · rw [List.all_eq_true] at h1 ⊢
    exact fun x hx => h1 x (hsub.mem hx)
  · exact ((hsub.filter leafB).map T.id).nodup h2
  · rw [List.all_eq_true] at h3 ⊢
    exact fun x hx => h3 x (hsub.mem hx)
theorem tile_top {t : T} (hs : sz t ≤ 20000) (ht : tileB t = true) : wellT t = true ∧ fitB t = true := by
  unfold tileB at ht
  rw [may_is (by omega)] at ht
  unfold rmayT at ht
  simp only [Bool.and_eq_true] at ht
  have hm : t ∈ preT t := by rw [preT_eq]; exact List.mem_cons_self ..
  exact ⟨List.all_eq_true.1 ht.1.1 t hm, List.all_eq_true.1 ht.2 t hm⟩
end Go.Proofs.YtcdiogifgemjbaaGreat
/- A leaf that becomes two: the document's answer, in words. No walk. -/
namespace Go.Proofs.YtcdiogifgemjbaaGreat
open Go.RowKit

abbrev noC : C := ⟨0, ⟨0, 0, 0, 0⟩, 0, none, 0, 0⟩
abbrev noT : T := .node 0 ⟨0, 0, 0, 0⟩ 0 []
theorem no_fits : (⟨0, 0, 0, 0⟩ : R).fits := ⟨by simp [fits], by simp [fits], by simp [fits], by simp [fits]⟩
theorem no_is (w : World) : Is w noC noT :=
  .mk noC [] [] (.inl ⟨_, _, rfl, rfl⟩) rfl ⟨⟨by simp, by simp⟩, no_fits, by simp [fits], by simp⟩ (fun j x t hx => by simp at hx)

/-- The leaf with a number. -/
def lfB (id : Int) (t : T) : Bool := t.id == id
def lfF (id : Int) (t : T) : Option T := ((preT t).filter leafB).find? (lfB id)

mutual
def inT (id ax : Int) (l : List T) : T → T
  | .node k r i ks => if k = 1 then (if i = id then .node (ax + 1) r 0 l else .node k r i ks) else .node k r i (inL id ax l k ks)
def inL (id ax : Int) (l : List T) (k : Int) : List T → List T
  | [] => []
  | t :: ts => (if t.k = 1 ∧ t.id = id ∧ alB k ax = true then l else [inT id ax l t]) ++ inL id ax l k ts
end
theorem inT_eq (id ax : Int) (l : List T) (t : T) : inT id ax l t = if t.k = 1 then (if t.id = id then .node (ax + 1) t.r 0 l else t) else .node t.k t.r t.id (inL id ax l t.k t.kids) := by
  cases t; rw [inT]; rfl
theorem inL_append (id ax : Int) (l : List T) (k : Int) (a b : List T) : inL id ax l k (a ++ b) = inL id ax l k a ++ inL id ax l k b := by
  induction a with
  | nil => simp [inL]
  | cons t a ih => simp only [List.cons_append, inL, ih, List.append_assoc]
def inK (id ax : Int) (l : List T) (k : Int) (t : T) : List T := if t.k = 1 ∧ t.id = id ∧ alB k ax = true then l else [inT id ax l t]
theorem inL_step {id ax : Int} {l : List T} {k : Int} {ts : List T} {j : Nat} {t : T} (h : ts[j]? = some t) : inL id ax l k (ts.take (j + 1)) = inL id ax l k (ts.take j) ++ inK id ax l k t := by
  rw [List.take_add_one, h, inL_append]; simp [inL, inK]
mutual
theorem inT_sz (id ax : Int) (l : List T) (hl : szL l = 2) : ∀ t, sz (inT id ax l t) ≤ 3 * sz t
  | .node k r i ks => by
    rw [inT]
    have h1 := inL_sz id ax l hl k ks
    split
    · split
      · rw [sz, sz, hl]; omega
      · omega
    · rw [sz, sz]; omega
theorem inL_sz (id ax : Int) (l : List T) (hl : szL l = 2) (k : Int) : ∀ ts, szL (inL id ax l k ts) ≤ 3 * szL ts
  | [] => by simp [inL, szL]
  | t :: ts => by
    rw [inL, szL_append, szL]
    have h1 := inT_sz id ax l hl t
    have h2 := inL_sz id ax l hl k ts
    have h3 := sz_pos t
    split
    · rw [hl]; omega
    · simp only [szL]; omega
end
theorem inL_len (id ax : Int) (l : List T) (k : Int) (ts : List T) : (inL id ax l k ts).length ≤ ts.length * (l.length + 1) := by
  induction ts with
  | nil => simp [inL]
  | cons t ts ih =>
    rw [inL, List.length_append, List.length_cons, Nat.add_mul]
    split
    · omega
    · simp only [List.length_cons, List.length_nil]; omega

/-- Both. -/
def cutR (r : R) (ax n : Int) : R := if ax = 1 then ⟨r.x, r.y, n, r.h⟩ else ⟨r.x, r.y, r.w, n⟩
def twoL (r : R) (id ax a b fresh : Int) (ahead : Bool) : List T := if ahead = true then [.node 1 (cutR r ax b) fresh [], .node 1 (cutR r ax a) id []] else [.node 1 (cutR r ax a) id [], .node 1 (cutR r ax b) fresh []]
abbrev bareC (r : R) (id : Int) : C := ⟨1, r, id, none, 0, 0⟩
def twoC (r : R) (id ax a b fresh : Int) (ahead : Bool) : List C := if ahead = true then [bareC (cutR r ax b) fresh, bareC (cutR r ax a) id] else [bareC (cutR r ax a) id, bareC (cutR r ax b) fresh]
def bothT (t : T) (ax z fresh : Int) (ahead : Bool) : List T := twoL t.r t.id ax (szA t.r ax - 1 - spB (szA t.r ax) z) (spB (szA t.r ax) z) fresh ahead
theorem twoL_sz (r : R) (id ax a b fresh : Int) (ahead : Bool) : szL (twoL r id ax a b fresh ahead) = 2 := by
  unfold twoL; split <;> simp [szL, sz]
theorem twoL_len (r : R) (id ax a b fresh : Int) (ahead : Bool) : (twoL r id ax a b fresh ahead).length = 2 := by
  unfold twoL; split <;> rfl
theorem twoC_len (r : R) (id ax a b fresh : Int) (ahead : Bool) : (twoC r id ax a b fresh ahead).length = 2 := by
  unfold twoC; split <;> rfl
theorem cutR_fits {r : R} {ax n : Int} (h : r.fits) (hn : fits n) : (cutR r ax n).fits := by
  obtain ⟨h1, h2, h3, h4⟩ := h
  unfold cutR; split
  · exact ⟨h1, h2, hn, h4⟩
  · exact ⟨h1, h2, h3, hn⟩
theorem bare_is (w : World) {r : R} {id : Int} (hr : r.fits) (hi : fits id) : Is w (bareC r id) (.node 1 r id []) :=
  .mk (bareC r id) [] [] (.inl ⟨_, _, rfl, rfl⟩) rfl ⟨⟨by simp, by simp⟩, hr, hi, by simp⟩ (fun j x t hx => by simp at hx)
theorem two_tops (w : World) {r : R} {id ax a b fresh : Int} {ahead : Bool} (hr : r.fits) (hi : fits id) (ha : fits a) (hb : fits b) (hf : fits fresh) : Tops w (twoC r id ax a b fresh ahead) (twoL r id ax a b fresh ahead) := by
  have h1 := Tops.one (bare_is w (cutR_fits (ax := ax) hr ha) hi)
  have h2 := Tops.one (bare_is w (cutR_fits (ax := ax) hr hb) hf)
  unfold twoC twoL
  split
  · exact h2.append h1
  · exact h1.append h2

/-- What the document answers: the error's number, the tree. -/
noncomputable def spE (t : T) (id ax z fresh : Int) (ahead : Bool) : Int :=
  if tileB t = true ∧ axB ax = true ∧ 0 ≤ z ∧ 0 ≤ fresh ∧ fresh ≤ 2147483647 then
    if (lfF fresh t).isSome = true then 1 else
    match lfF id t with
    | none => 6
    | some u => if szA u.r ax < 3 then 7 else if 20000 < sz (inT id ax (bothT u ax z fresh ahead) t) then 8 else 0
  else 1
noncomputable def spT (t : T) (id ax z fresh : Int) (ahead : Bool) : T :=
  match lfF id t with
  | none => noT
  | some u => setT t.r.x t.r.y (inT id ax (bothT u ax z fresh ahead) t)
def SpSays (t : T) (id ax z fresh : Int) (ahead : Bool) (kind : IntKind) (w : World) (e : Ending) (w' : World) : Prop :=
  ∃ d, e = .returned (.tuple #[cval d, .int kind (spE t id ax z fresh ahead)]) ∧ Is w' d (if spE t id ax z fresh ahead = 0 then spT t id ax z fresh ahead else noT) ∧ Below w.heap.size w w'
end Go.Proofs.YtcdiogifgemjbaaGreat
