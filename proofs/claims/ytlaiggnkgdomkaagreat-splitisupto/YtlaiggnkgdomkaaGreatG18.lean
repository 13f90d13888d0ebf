/- Texts of this seat, 3 in one file. -/
import Derived.Test.YtlaiggnkgdomkaaGreatG09
import Derived.Test.YtlaiggnkgdomkaaGreatG10
import Derived.Test.YtlaiggnkgdomkaaGreatG07
import Derived.Test.YtlaiggnkgdomkaaGreatG17
import Derived.Test.YtlaiggnkgdomkaaGreatG06
import Derived.Test.YtlaiggnkgdomkaaGreatG08
import Derived.Test.YtlaiggnkgdomkaaGreatG14
import Derived.Deep.AppendLies
/- A leaf that becomes two: the document's answer, in words. No walk. -/
namespace Go.Proofs.YtlaiggnkgdomkaaGreat
open Go.RowKit

abbrev noC : C := ⟨0, ⟨0, 0, 0, 0⟩, 0, none, 0, 0⟩
abbrev noT : T := .node 0 ⟨0, 0, 0, 0⟩ 0 []
theorem no_fits : (⟨0, 0, 0, 0⟩ : R).fits := ⟨by simp [fits], by simp [fits], by simp [fits], by simp [fits]⟩
theorem no_is (w : World) : Is w noC noT :=
  .mk noC [] [] (.inl ⟨_, _, rfl, rfl⟩) rfl ⟨⟨by simp, by simp⟩, no_fits, by simp [fits], by simp⟩ (fun j x t hx => by simp at hx)

/-- The leaf with a number. -/
def lfB (id : Int) (t : T) : Bool := t.id == id
def lfF (id : Int) (t : T) : Option T := ((preT t).filter leafB).find? (lfB id)

mutual
def inT (id ax : Int) (l : List T) : T → T
  | .node k r i ks => if k = 1 then (if i = id then .node (ax + 1) r 0 l else .node k r i ks) else .node k r i (inL id ax l k ks)
def inL (id ax : Int) (l : List T) (k : Int) : List T → List T
  | [] => []
  | t :: ts => (if t.k = 1 ∧ t.id = id ∧ alB k ax = true then l else [inT id ax l t]) ++ inL id ax l k ts
end
theorem inT_eq (id ax : Int) (l : List T) (t : T) : inT id ax l t = if t.k = 1 then (if t.id = id then .node (ax + 1) t.r 0 l else t) else .node t.k t.r t.id (inL id ax l t.k t.kids) := by
  cases t; rw [inT]; rfl
theorem inL_append (id ax : Int) (l : List T) (k : Int) (a b : List T) : inL id ax l k (a ++ b) = inL id ax l k a ++ inL id ax l k b := by
  induction a with
  | nil => simp [inL]
  | cons t a ih => simp only [List.cons_append, inL, ih, List.append_assoc]
def inK (id ax : Int) (l : List T) (k : Int) (t : T) : List T := if t.k = 1 ∧ t.id = id ∧ alB k ax = true then l else [inT id ax l t]
theorem inL_step {id ax : Int} {l : List T} {k : Int} {ts : List T} {j : Nat} {t : T} (h : ts[j]? = some t) : inL id ax l k (ts.take (j + 1)) = inL id ax l k (ts.take j) ++ inK id ax l k t := by
  rw [List.take_add_one, h, inL_append]; simp [inL, inK]
mutual
theorem inT_sz (id ax : Int) (l : List T) (hl : szL l = 2) : ∀ t, sz (inT id ax l t) ≤ 3 * sz t
  | .node k r i ks => by
    rw [inT]
    have h1 := inL_sz id ax l hl k ks
    split
    · split
      · rw [sz, sz, hl]; omega
      · omega
    · rw [sz, sz]; omega
theorem inL_sz (id ax : Int) (l : List T) (hl : szL l = 2) (k : Int) : ∀ ts, szL (inL id ax l k ts) ≤ 3 * szL ts
  | [] => by simp [inL, szL]
  | t :: ts => by
    rw [inL, szL_append, szL]
    have h1 := inT_sz id ax l hl t
    have h2 := inL_sz id ax l hl k ts
    have h3 := sz_pos t
    split
    · rw [hl]; omega
    · simp only [szL]; omega
end
theorem inL_len (id ax : Int) (l : List T) (k : Int) (ts : List T) : (inL id ax l k ts).length ≤ ts.length * (l.length + 1) := by
  induction ts with
  | nil => simp [inL]
  | cons t ts ih =>
    rw [inL, List.length_append, List.length_cons, Nat.add_mul]
    split
    · omega
    · simp only [List.length_cons, List.length_nil]; omega

/-- Both. -/
def cutR (r : R) (ax n : Int) : R := if ax = 1 then ⟨r.x, r.y, n, r.h⟩ else ⟨r.x, r.y, r.w, n⟩
def twoL (r : R) (id ax a b fresh : Int) (ahead : Bool) : List T := if ahead = true then [.node 1 (cutR r ax b) fresh [], .node 1 (cutR r ax a) id []] else [.node 1 (cutR r ax a) id [], .node 1 (cutR r ax b) fresh []]
abbrev bareC (r : R) (id : Int) : C := ⟨1, r, id, none, 0, 0⟩
def twoC (r : R) (id ax a b fresh : Int) (ahead : Bool) : List C := if ahead = true then [bareC (cutR r ax b) fresh, bareC (cutR r ax a) id] else [bareC (cutR r ax a) id, bareC (cutR r ax b) fresh]
def bothT (t : T) (ax z fresh : Int) (ahead : Bool) : List T := twoL t.r t.id ax (szA t.r ax - 1 - spB (szA t.r ax) z) (spB (szA t.r ax) z) fresh ahead
theorem twoL_sz (r : R) (id ax a b fresh : Int) (ahead : Bool) : szL (twoL r id ax a b fresh ahead) = 2 := by
  unfold twoL; split <;> simp [szL, sz]
theorem twoL_len (r : R) (id ax a b fresh : Int) (ahead : Bool) : (twoL r id ax a b fresh ahead).length = 2 := by
  unfold twoL; split <;> rfl
theorem twoC_len (r : R) (id ax a b fresh : Int) (ahead : Bool) : (twoC r id ax a b fresh ahead).length = 2 := by
  unfold twoC; split <;> rfl
theorem cutR_fits {r : R} {ax n : Int} (h : r.fits) (hn : fits n) : (cutR r ax n).fits := by
  obtain ⟨h1, h2, h3, h4⟩ := h
  unfold cutR; split
  · exact ⟨h1, h2, hn, h4⟩
  · exact ⟨h1, h2, h3, hn⟩
theorem bare_is (w : World) {r : R} {id : Int} (hr : r.fits) (hi : fits id) : Is w (bareC r id) (.node 1 r id []) :=
  .mk (bareC r id) [] [] (.inl ⟨_, _, rfl, rfl⟩) rfl ⟨⟨by simp, by simp⟩, hr, hi, by simp⟩ (fun j x t hx => by simp at hx)
theorem two_tops (w : World) {r : R} {id ax a b fresh : Int} {ahead : Bool} (hr : r.fits) (hi : fits id) (ha : fits a) (hb : fits b) (hf : fits fresh) : Tops w (twoC r id ax a b fresh ahead) (twoL r id ax a b fresh ahead) := by
  have h1 := Tops.one (bare_is w (cutR_fits (ax := ax) hr ha) hi)
  have h2 := Tops.one (bare_is w (cutR_fits (ax := ax) hr hb) hf)
  unfold twoC twoL
  split
  · exact h2.append h1
  · exact h1.append h2

/-- What the document answers: the error's number, the tree. -/
noncomputable def spE (t : T) (id ax z fresh : Int) (ahead : Bool) : Int :=
  if tileB t = true ∧ axB ax = true ∧ 0 ≤ z ∧ 0 ≤ fresh ∧ fresh ≤ 2147483647 then
    if (lfF fresh t).isSome = true then 1 else
    match lfF id t with
    | none => 6
    | some u => if szA u.r ax < 3 then 7 else if 20000 < sz (inT id ax (bothT u ax z fresh ahead) t) then 8 else 0
  else 1
noncomputable def spT (t : T) (id ax z fresh : Int) (ahead : Bool) : T :=
  match lfF id t with
  | none => noT
  | some u => setT t.r.x t.r.y (inT id ax (bothT u ax z fresh ahead) t)
def SpSays (t : T) (id ax z fresh : Int) (ahead : Bool) (kind : IntKind) (w : World) (e : Ending) (w' : World) : Prop :=
  ∃ d, e = .returned (.tuple #[cval d, .int kind (spE t id ax z fresh ahead)]) ∧ Is w' d (if spE t id ax z fresh ahead = 0 then spT t id ax z fresh ahead else noT) ∧ Below w.heap.size w w'
end Go.Proofs.YtlaiggnkgdomkaaGreat
/- What stands at a path is turned: in words, and in memory of one's own. -/
namespace Go.Proofs.YtlaiggnkgdomkaaGreat
open Go.RowKit

def setKid (t : T) (j : Nat) (u : T) : T := .node t.k t.r t.id (t.kids.set j u)
def putT (kid : T) : T → List Int → Option T
  | _, [] => some kid
  | t, k :: p => match kidAt t k with
    | some u => match putT kid u p with
      | some u' => some (setKid t k.toNat u')
      | none => none
    | none => none
theorem put_append {t u u2 v : T} {q : List Int} {j : Nat} (h : atT t q = some u) (hk : kidAt u (j : Int) = some u2) : putT v t (q ++ [(j : Int)]) = putT (setKid u j v) t q := by
  induction q generalizing t with
  | nil =>
    simp only [atT, Option.some.injEq] at h
    subst h
    simp only [List.nil_append, putT, hk, Int.toNat_natCast]
  | cons k q ih =>
    rw [atT] at h
    simp only [List.cons_append, putT]
    cases hk2 : kidAt t k with
    | none => rfl
    | some y =>
      rw [hk2] at h
      simp only
      rw [ih h]
theorem put_at {kid : T} : ∀ {p : List Int} {t : T}, (putT kid t p).isSome = (atT t p).isSome := by
  intro p
  induction p with
  | nil => intro t; rfl
  | cons k p ih =>
    intro t
    rw [putT, atT]
    cases kidAt t k with
    | none => rfl
    | some u =>
      have h := ih (t := u)
      simp only
      cases hp : putT kid u p with
      | some u' => rw [hp] at h; simpa using h
      | none => rw [hp] at h; simpa using h
theorem put_there {kid t t' : T} : ∀ {p : List Int}, putT kid t p = some t' → atT t' p = some kid := by
  intro p
  induction p generalizing t t' with
  | nil => intro h; simp only [putT, Option.some.injEq] at h; subst h; rfl
  | cons k p ih =>
    intro h
    rw [putT] at h
    cases hk : kidAt t k with
    | none => rw [hk] at h; cases h
    | some u =>
      rw [hk] at h
      simp only at h
      cases hp : putT kid u p with
      | none => rw [hp] at h; cases h
      | some u' =>
        rw [hp] at h
        simp only [Option.some.injEq] at h
        subst h
        obtain ⟨j, rfl, hj⟩ := kid_some hk
        have hjl := (List.getElem?_eq_some_iff.1 hj).1
        rw [atT]
        have : kidAt (setKid t (j : Int).toNat u') (j : Int) = some u' := by
          unfold kidAt setKid
          rw [if_pos (by omega)]
          show (t.kids.set (j : Int).toNat u')[(j : Int).toNat]? = some u'
          rw [Int.toNat_natCast, List.getElem?_set_self hjl]
        rw [this]
        exact ih hp

theorem flat_disj {Ss : List (List Nat)} (h : Ss.flatten.Nodup) : ∀ {i j : Nat} {A B : List Nat} {a : Nat}, Ss[i]? = some A → Ss[j]? = some B → a ∈ A → a ∈ B → i = j := by
  induction Ss with
  | nil => intro i j A B a hi; simp at hi
  | cons S Ss ih =>
    intro i j A B a hi hj ha hb
    rw [List.flatten_cons, List.nodup_append] at h
    cases i with
    | zero =>
      cases j with
      | zero => rfl
      | succ j =>
        simp at hi hj; subst hi
        exact absurd rfl (h.2.2 a ha a (mem_flat.2 ⟨j, B, hj, hb⟩))
    | succ i =>
      cases j with
      | zero =>
        simp at hi hj; subst hj
        exact absurd rfl (h.2.2 a hb a (mem_flat.2 ⟨i, A, hi, ha⟩))
      | succ j => exact congrArg (· + 1) (ih h.2.1 (i := i) (j := j) (by simpa using hi) (by simpa using hj) ha hb)
theorem flat_one_nodup {Ss : List (List Nat)} (h : Ss.flatten.Nodup) : ∀ {i : Nat} {A : List Nat}, Ss[i]? = some A → A.Nodup := by
  induction Ss with
  | nil => intro i A hi; simp at hi
  | cons S Ss ih =>
    intro i A hi
    rw [List.flatten_cons, List.nodup_append] at h
    cases i with
    | zero => simp at hi; subst hi; exact h.1
    | succ i => exact ih h.2.1 (by simpa using hi)

/-- A cell stored over another one. -/
abbrev putO (w : World) (b o : Nat) (c : C) : World := ((((((w.setCell ⟨b, o, none⟩ (.int .u8 c.k)).setCell ⟨b, o + 1, none⟩ (.int .i64 c.r.x)).setCell ⟨b, o + 2, none⟩ (.int .i64 c.r.y)).setCell ⟨b, o + 3, none⟩ (.int .i64 c.r.w)).setCell ⟨b, o + 4, none⟩ (.int .i64 c.r.h)).setCell ⟨b, o + 5, none⟩ (.int .i64 c.id)).setCell ⟨b, o + 6, none⟩ (.slice c.a c.n c.cap)
def setO (cs : Array Value) (o : Nat) (c : C) : Array Value := ((((((cs.setIfInBounds o (.int .u8 c.k)).setIfInBounds (o + 1) (.int .i64 c.r.x)).setIfInBounds (o + 2) (.int .i64 c.r.y)).setIfInBounds (o + 3) (.int .i64 c.r.w)).setIfInBounds (o + 4) (.int .i64 c.r.h)).setIfInBounds (o + 5) (.int .i64 c.id)).setIfInBounds (o + 6) (.slice c.a c.n c.cap)
theorem putO_block {w : World} {b o : Nat} {cs : Array Value} {t : TypeId} {fr : Nat × Nat} (h : w.heap[b]? = some (.cells cs t fr)) (c : C) : (putO w b o c).heap[b]? = some (.cells (setO cs o c) t fr) := by
  have h1 := set_block (i := o) h (.int .u8 c.k)
  have h2 := set_block (i := o + 1) h1 (.int .i64 c.r.x)
  have h3 := set_block (i := o + 2) h2 (.int .i64 c.r.y)
  have h4 := set_block (i := o + 3) h3 (.int .i64 c.r.w)
  have h5 := set_block (i := o + 4) h4 (.int .i64 c.r.h)
  have h6 := set_block (i := o + 5) h5 (.int .i64 c.id)
  exact set_block (i := o + 6) h6 (.slice c.a c.n c.cap)
theorem putO_other {w : World} {b o k : Nat} {c : C} (h : k ≠ b) : (putO w b o c).heap[k]? = w.heap[k]? := by
  unfold putO
  rw [Below.heap_setCell _ ⟨b, o + 6, none⟩ _ k h, Below.heap_setCell _ ⟨b, o + 5, none⟩ _ k h, Below.heap_setCell _ ⟨b, o + 4, none⟩ _ k h, Below.heap_setCell _ ⟨b, o + 3, none⟩ _ k h, Below.heap_setCell _ ⟨b, o + 2, none⟩ _ k h, Below.heap_setCell _ ⟨b, o + 1, none⟩ _ k h, Below.heap_setCell _ ⟨b, o, none⟩ _ k h]
theorem setO_size (cs : Array Value) (o : Nat) (c : C) : (setO cs o c).size = cs.size := by simp [setO]
theorem setO_get (cs : Array Value) (o : Nat) (c : C) (i : Nat) (h : o + 7 ≤ cs.size) : (setO cs o c)[i]? = if o ≤ i ∧ i < o + 7 then (encC c)[i - o]? else cs[i]? := by
  unfold setO
  simp only [Array.getElem?_setIfInBounds, Array.size_setIfInBounds]
  by_cases h6 : o + 6 = i
  · subst h6
    rw [if_pos rfl, if_pos (by omega), if_pos ⟨by omega, by omega⟩]
    simp [encC]
  rw [if_neg h6]
  by_cases h5 : o + 5 = i
  · subst h5
    rw [if_pos rfl, if_pos (by omega), if_pos ⟨by omega, by omega⟩]
    simp [encC]
  rw [if_neg h5]
  by_cases h4 : o + 4 = i
  · subst h4
    rw [if_pos rfl, if_pos (by omega), if_pos ⟨by omega, by omega⟩]
    simp [encC]
  rw [if_neg h4]
  by_cases h3 : o + 3 = i
  · subst h3
    rw [if_pos rfl, if_pos (by omega), if_pos ⟨by omega, by omega⟩]
    simp [encC]
  rw [if_neg h3]
  by_cases h2 : o + 2 = i
  · subst h2
    rw [if_pos rfl, if_pos (by omega), if_pos ⟨by omega, by omega⟩]
    simp [encC]
  rw [if_neg h2]
  by_cases h1 : o + 1 = i
  · subst h1
    rw [if_pos rfl, if_pos (by omega), if_pos ⟨by omega, by omega⟩]
    simp [encC]
  rw [if_neg h1]
  by_cases h0 : o = i
  · subst h0
    rw [if_pos rfl, if_pos (by omega), if_pos ⟨by omega, by omega⟩]
    simp [encC]
  rw [if_neg h0, if_neg (by omega)]
theorem cat_get {w : World} {b o : Nat} {cs : Array Value} {t : TypeId} {fr : Nat × Nat} {c : C} (h : w.heap[b]? = some (.cells cs t fr)) (hc : CAt w b o c) : ∀ i, i < 7 → cs[o + i]? = (encC c)[i]? := by
  have hcell : ∀ i, w.cell? ⟨b, i, none⟩ = cs[i]? := fun i => by simp [World.cell?, h]
  obtain ⟨h0, h1, h2, h3, h4, h5, h6⟩ := hc
  intro i hi
  match i, hi with
  | 0, _ => rw [← hcell, Nat.add_zero, h0]; rfl
  | 1, _ => rw [← hcell, h1]; rfl
  | 2, _ => rw [← hcell, h2]; rfl
  | 3, _ => rw [← hcell, h3]; rfl
  | 4, _ => rw [← hcell, h4]; rfl
  | 5, _ => rw [← hcell, h5]; rfl
  | 6, _ => rw [← hcell, h6]; rfl
theorem cat_size {w : World} {b o : Nat} {cs : Array Value} {t : TypeId} {fr : Nat × Nat} {c : C} (h : w.heap[b]? = some (.cells cs t fr)) (hc : CAt w b o c) : o + 7 ≤ cs.size := by
  have h6 := cat_get h hc 6 (by omega)
  have : cs[o + 6]? = some (.slice c.a c.n c.cap) := by rw [h6]; rfl
  have := (Array.getElem?_eq_some_iff.1 this).1
  omega
theorem setO_same {w : World} {b o : Nat} {cs : Array Value} {t : TypeId} {fr : Nat × Nat} {c : C} (h : w.heap[b]? = some (.cells cs t fr)) (hc : CAt w b o c) : setO cs o c = cs := by
  refine Array.ext_getElem? fun i => ?_
  rw [setO_get cs o c i (cat_size h hc)]
  split
  · rename_i hi
    have := cat_get h hc (i - o) (by omega)
    rw [show o + (i - o) = i by omega] at this
    exact this.symm
  · rfl
theorem cat_of_block {w : World} {b o : Nat} {cs : Array Value} {t : TypeId} {fr : Nat × Nat} {c : C} (h : w.heap[b]? = some (.cells (setO cs o c) t fr)) (hs : o + 7 ≤ cs.size) : CAt w b o c := by
  have hcell : ∀ i, i < 7 → w.cell? ⟨b, o + i, none⟩ = (encC c)[i]? := fun i hi => by
    have : w.cell? ⟨b, o + i, none⟩ = (setO cs o c)[o + i]? := by simp [World.cell?, h]
    rw [this, setO_get cs o c (o + i) hs, if_pos (by omega)]
    congr 1; omega
  exact ⟨hcell 0 (by omega), hcell 1 (by omega), hcell 2 (by omega), hcell 3 (by omega), hcell 4 (by omega), hcell 5 (by omega), hcell 6 (by omega)⟩

/-- A row of one's own, one of whose cells was stored over. -/
theorem own_put {w w' : World} {base g n cap : Nat} {cs : List C} {j : Nat} {y : C} (h : OwnC w base (.slice (some ⟨g, 0, none⟩) n cap) cs) (hj : j < cs.length) (hg : w'.heap[g]? = (putO w g (j * 7) y).heap[g]?) : OwnC w' base (.slice (some ⟨g, 0, none⟩) n cap) (cs.set j y) := by
  rcases h.2 with ⟨h0, -⟩ | ⟨g', cap', cur, he, hb, hgg, hn, hm, hs, ht⟩
  · cases h0
  · cases he
    rw [putO_block hgg y] at hg
    refine ⟨by rw [flatC_length, List.length_set], .inr ⟨g, cap, setO cur (j * 7) y, by simp, hb, hg, by simpa using hn, hm, by rw [setO_size]; exact hs, ?_⟩⟩
    rw [List.length_set]
    have hsz : j * 7 + 7 ≤ cur.size := by rw [hs]; omega
    refine List.ext_getElem? fun i => ?_
    rcases Nat.lt_or_ge i (cs.length * 7) with hi | hi
    · rw [List.getElem?_take, if_pos hi, Array.getElem?_toList, setO_get cur (j * 7) y i hsz]
      have hi7 : i / 7 < cs.length := by omega
      have hm7 : i % 7 < 7 := Nat.mod_lt _ (by omega)
      have e : i / 7 * 7 + i % 7 = i := by omega
      by_cases hij : i / 7 = j
      · rw [if_pos (by omega)]
        have := flatC_get (cs.set j y) j (i % 7) y (by simp [hj]) hm7
        rw [show j * 7 + i % 7 = i by omega] at this
        rw [this]
        congr 1; omega
      · rw [if_neg (by omega)]
        have h1 := flatC_get (cs.set j y) (i / 7) (i % 7) cs[i / 7] (by rw [List.getElem?_set_ne (by omega)]; exact List.getElem?_eq_getElem hi7) hm7
        have h2 := flatC_get cs (i / 7) (i % 7) cs[i / 7] (List.getElem?_eq_getElem hi7) hm7
        rw [e] at h1 h2
        rw [h1, ← h2, ← ht, List.getElem?_take, if_pos hi, Array.getElem?_toList]
    · rw [List.getElem?_eq_none (by rw [List.length_take]; omega), List.getElem?_eq_none (by rw [flatC_length, List.length_set]; omega)]
end Go.Proofs.YtlaiggnkgdomkaaGreat
/- Rectangles, many or none, added to a row of one's own. -/
namespace Go.Proofs.YtlaiggnkgdomkaaGreat
open Go.RowKit

theorem runR_zero {w : World} {base : Nat} {v : Value} {l : List R} (h : Owns w base v l) (ty : TypeId) (a : Option Addr) (c : Nat) : (Builtin.append_ #[59, 59] ty #[v, .slice a 0 c]).run Tryz.prog w = .ok v w := by
  obtain ⟨i, hi, hz0, hz1, hz2⟩ := rinfo
  have ht := Tryz.underlying59
  have hz : ∀ ad : Addr, (loadCells ad 0).run Tryz.prog w = .ok #[] w := fun ad => by first | rfl | simp [loadCells]
  rcases h.2 with ⟨rfl, hn⟩ | ⟨g, cap, cur, rfl, -, -, hnc, -⟩
  · cases a <;> simp [Builtin.append_, run_underlying ht, sizeOf, typeInfo, hi, Builtin.lenOf, Builtin.firstCells, hz]
  · cases a <;> simp [Builtin.append_, run_underlying ht, sizeOf, typeInfo, hi, Builtin.lenOf, Builtin.firstCells, hnc, storeCells, hz]

theorem rrow_cells {w : World} {a : Option Addr} {cap : Nat} {l : List R} (h : RRow w (.slice a l.length cap) l) (hp : 0 < l.length) : ∃ ad, a = some ad ∧ ∀ j u, (flat l)[j]? = some u → w.cell? (ad.add j) = some u := by
  obtain ⟨b, o, rfl, hf⟩ := h.place hp
  exact ⟨⟨b, o, none⟩, rfl, rat_cells hf⟩

/-- append(own.., rectangles...): what is owned then is both; where it lies. -/
theorem wpList_append_rects {w : World} {ops : Array Oper} {rest : List Oper} {o : Oper} {a : Act} {Q : Exit → Act → World → Prop} (hgd : o.guard = none) (s x : Operand)
    (ho : o.op = .call { callee := .builtin .append, args := #[s, x], argTypes := #[59, 59] })
    (base : Nat) (v src : Value) (xs news : List R) (hs : a.eval s = v) (hown : Owns w base v xs) (hx : a.eval x = src) (hrow : RRow w src news)
    (h63 : xs.length + news.length ≤ 1000000000) (w0 : World) (hb : Below base w0 w) (hbase0 : base ≤ w0.heap.size)
    (h : ∀ v' w', Owns w' base v' (xs ++ news) → Below base w0 w' → w.grownBy w' v.ownBlock → (v'.ownBlock = v.ownBlock ∨ v'.ownBlock = some w.heap.size) → wpList Tryz.prog ops Q rest (a.put o.dst v') w') : wpList Tryz.prog ops Q (o :: rest) a w := by
  have hbase : base ≤ w.heap.size := Nat.le_trans hbase0 hb.size
  obtain ⟨i, hi, hz0, hz1, hz2⟩ := rinfo
  obtain ⟨ad', cap, rfl⟩ := hrow.shape
  rcases Nat.eq_zero_or_pos news.length with h0 | hp
  · have hn : news = [] := List.length_eq_zero_iff.1 h0
    subst hn
    refine wpList_plain hgd fun K hK => ?_
    unfold Oper.wp execOp
    simp only [ho, resolve, invoke, builtin, Sem.run_bind, Sem.run_pure, Result.andThen_ok, List.map_toArray, List.map_cons, List.map_nil, hs, hx]
    rw [show ([] : List R).length = 0 from rfl, runR_zero hown]
    refine hK _ _ (h v w (by simpa using hown) hb ?_ (.inl rfl))
    exact ⟨rfl, rfl, rfl, Nat.le_refl _, fun _ _ _ => rfl⟩
  · obtain ⟨ad, rfl, hc⟩ := rrow_cells hrow hp
    refine wpList_append_lies w hgd s x 59 ho base 23 i zeroR 4 32 Tryz.underlying59 hi hz0 hz1 hz2 rfl (by decide) v xs.length (flat xs) hs hown ad news.length cap (flat news) hx (flat_length _) hc (flat_oneCell _) hp (by unfold maxLen; omega) (by omega) hbase w.heap.size rfl ?_
    intro g cap' w' g1 g2 g3 _
    have g1' : Owns w' base (.slice (some ⟨g, 0, none⟩) (xs.length + news.length) cap') (xs ++ news) := by
      have : w'.ownsRow base 23 4 (.slice (some ⟨g, 0, none⟩) (xs.length + news.length) cap') (xs ++ news).length (flat (xs ++ news)) := by
        rw [flat_append, List.length_append]; exact g1
      exact this
    refine h _ w' g1' (hb.grown g2 hbase (fun k hk => (hown.lt k hk).1)) g2 ?_
    rcases g3 with g3 | g3
    · exact .inl (by rw [g3]; rfl)
    · exact .inr (by rw [g3]; rfl)
end Go.Proofs.YtlaiggnkgdomkaaGreat
