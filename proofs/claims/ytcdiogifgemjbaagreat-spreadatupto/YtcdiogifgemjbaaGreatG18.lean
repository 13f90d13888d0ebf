/- Texts of this seat, 3 in one file. -/
import Derived.Test.YtcdiogifgemjbaaGreatG17
import Derived.Test.YtcdiogifgemjbaaGreatG03
/- The cell at a path: the program's answer. -/
namespace Go.Proofs.YtcdiogifgemjbaaGreat
open Go.RowKit

abbrev zC : C := ⟨0, ⟨0, 0, 0, 0⟩, 0, none, 0, 0⟩
abbrev zT : T := .node 0 ⟨0, 0, 0, 0⟩ 0 []
theorem zero_fits : (⟨0, 0, 0, 0⟩ : R).fits := ⟨by simp [fits], by simp [fits], by simp [fits], by simp [fits]⟩
theorem zero_is (w : World) : Is w zC zT :=
  .mk zC [] [] (.inl ⟨_, _, rfl, rfl⟩) rfl ⟨⟨by simp, by simp⟩, zero_fits, by simp [fits], by simp⟩ (fun j x t hx => by simp at hx)

/-- A tree and whether there is one. -/
def TreeSays (r : Option T) (w : World) (e : Ending) (w' : World) : Prop := ∃ d, e = .returned (.tuple #[cval d, .bool r.isSome]) ∧ Is w' d (r.getD zT) ∧ Below w.heap.size w w'
theorem tree_some {r : Option T} {u : T} {w w' : World} {e : Ending} {d : C} (h : r = some u) (he : e = .returned (.tuple #[cval d, .bool true])) (hi : Is w' d u) (hb : Below w.heap.size w w') : TreeSays r w e w' := by
  subst h; exact ⟨d, he, hi, hb⟩
theorem tree_none {r : Option T} {w w' : World} {e : Ending} (h : r = none) (he : e = .returned (.tuple #[cval zC, .bool false])) (hb : Below w.heap.size w w') : TreeSays r w e w' := by
  subst h; exact ⟨zC, he, zero_is w', hb⟩

set_option maxRecDepth 100000 in
theorem at_any (t : T) (c : C) (v : Value) (p : List Int) (w : World) (hi : Is w c t) (hr : Row w v (ints p)) (hl : p.length ≤ 1000000) : Calls Tryz.prog 16 #[cval c, v] w (TreeSays (atT t p) w) := by
  have B1 : Hid (Below w.heap.size w ((w.alloc (cbox c)).alloc zeroBox)) := ((Below.refl _ _).alloc (Nat.le_refl _) _).alloc (by simp) _
  have Z1 : Hid (Zero7 ((w.alloc (cbox c)).alloc zeroBox) (w.heap.size + 1)) := Lib.hid (by
    have := zero_new (w.alloc (cbox c))
    simpa using this)
  have HC := Lib.hid (follow_any w t c v p ((w.alloc (cbox c)).alloc zeroBox) B1.out hi hr hl)
  obtain ⟨a, cap, rfl⟩ := row_shape hr
  clear hi hr
  cases hat : atT t p with
  | some u =>
    have HC2 : Hid (Calls Tryz.prog 31 #[cval c, .slice a p.length cap] ((w.alloc (cbox c)).alloc zeroBox) fun e w' => ∃ y, e = .returned (.tuple #[cval y, .bool true]) ∧ Is w y u ∧ Below ((w.alloc (cbox c)).alloc zeroBox).heap.size ((w.alloc (cbox c)).alloc zeroBox) w') := HC.out.mono fun e w' h => by
      unfold FollowSays at h; rw [hat] at h
      obtain ⟨hb, y, h1, h2⟩ := h
      exact ⟨y, h1, h2, hb⟩
    clear HC hat
    go_enter Tryz.func16, Tryz.ntmps16
    go_wp2_with fail
    refine HC2.out.mono ?_
    rintro e w2 ⟨y, rfl, hiy, hb2⟩
    have HB2 := Lib.hid (B1.out.trans (hb2.mono B1.out.size))
    have HZ2 := Lib.hid (zero_up Z1.out hb2)
    have HA : Hid (Below w2.heap.size w2 (w2.alloc (cbox y))) := (Below.refl _ _).alloc (Nat.le_refl _) _
    have HF := Lib.hid (fresh_any (sz u) u y (w2.alloc (cbox y)) (Nat.le_refl _) ((hiy.up HB2.out).up HA.out))
    clear hiy hb2
    go_wp2_with fail
    refine HF.out.mono ?_
    rintro e w3 ⟨d, S3, rfl, hown, -, hb3⟩
    have HO := Lib.hid hown
    have HB3 := Lib.hid (HB2.out.trans ((below_one hb3).mono HB2.out.size))
    have HZ3 := Lib.hid (zero_up HZ2.out (below_one hb3))
    have HSZ : Hid (w.heap.size + 2 ≤ w2.heap.size) := Lib.hid (by have := lt_of_block HZ2.out; omega)
    obtain ⟨⟨z0, z1, z2, z3, z4, z5, z6⟩, f0, f1, f2, f3, f4, f5, f6⟩ := zero_parts HZ3.out
    clear hown hb3
    go_wp2
    (try simp only [Exit.inBlock, Exit.then])
    refine bodyPost_ret (results_cell2 rfl _ _ (w.heap.size + 1) d rfl ((Box7.of_zero HZ3.out).put d)) rfl ?_
    refine tree_some rfl rfl ?_ (below_put7 HB3.out (by omega) d)
    refine (HO.out.frame fun k hk => ?_).is
    have := (HO.out.ge k hk).1
    have := HSZ.out
    simp at *
    exact heap_put7 (by omega)
  | none =>
    have HC2 : Hid (Calls Tryz.prog 31 #[cval c, .slice a p.length cap] ((w.alloc (cbox c)).alloc zeroBox) fun e w' => ∃ y : C, e = .returned (.tuple #[cval y, .bool false]) ∧ Below ((w.alloc (cbox c)).alloc zeroBox).heap.size ((w.alloc (cbox c)).alloc zeroBox) w') := HC.out.mono fun e w' h => by
      unfold FollowSays at h; rw [hat] at h
      obtain ⟨hb, y, h1⟩ := h
      exact ⟨y, h1, hb⟩
    clear HC hat
    go_enter Tryz.func16, Tryz.ntmps16
    go_wp2_with fail
    refine HC2.out.mono ?_
    rintro e w2 ⟨y, rfl, hb2⟩
    have HB2 := Lib.hid (B1.out.trans (hb2.mono B1.out.size))
    have HZ2 := Lib.hid (zero_up Z1.out hb2)
    have hlt := lt_of_block HZ2.out
    have hne : w.heap.size + 1 ≠ w2.heap.size := by omega
    obtain ⟨⟨z0, z1, z2, z3, z4, z5, z6⟩, f0, f1, f2, f3, f4, f5, f6⟩ := zero_parts HZ2.out
    clear hb2
    go_wp2
    (try simp only [Exit.inBlock, Exit.then])
    have HA : Below (put7 w2 (w.heap.size + 1) zC).heap.size (put7 w2 (w.heap.size + 1) zC) ((put7 w2 (w.heap.size + 1) zC).alloc (cbox y)) := (Below.refl _ _).alloc (Nat.le_refl _) _
    refine bodyPost_ret (results_cell2 rfl _ _ (w.heap.size + 1) zC rfl (((Box7.of_zero HZ2.out).put zC).up HA)) rfl ?_
    refine tree_none rfl rfl ?_
    have hbp := below_put7 HB2.out (show w.heap.size ≤ w.heap.size + 1 by omega) zC
    exact hbp.trans (HA.mono hbp.size)
end Go.Proofs.YtcdiogifgemjbaaGreat
/- What stands at a path is turned: in words, and in memory of one's own. -/
namespace Go.Proofs.YtcdiogifgemjbaaGreat
open Go.RowKit

def setKid (t : T) (j : Nat) (u : T) : T := .node t.k t.r t.id (t.kids.set j u)
def putT (kid : T) : T → List Int → Option T
  | _, [] => some kid
  | t, k :: p => match kidAt t k with
    | some u => match putT kid u p with
      | some u' => some (setKid t k.toNat u')
      | none => none
    | none => none
theorem put_append {t u u2 v : T} {q : List Int} {j : Nat} (h : atT t q = some u) (hk : kidAt u (j : Int) = some u2) : putT v t (q ++ [(j : Int)]) = putT (setKid u j v) t q := by
  induction q generalizing t with
  | nil =>
    simp only [atT, Option.some.injEq] at h
    subst h
    simp only [List.nil_append, putT, hk, Int.toNat_natCast]
  | cons k q ih =>
    rw [atT] at h
    simp only [List.cons_append, putT]
    cases hk2 : kidAt t k with
    | none => rfl
    | some y =>
      rw [hk2] at h
      simp only
      rw [ih h]
theorem put_at {kid : T} : ∀ {p : List Int} {t : T}, (putT kid t p).isSome = (atT t p).isSome := by
  intro p
  induction p with
  | nil => intro t; rfl
  | cons k p ih =>
    intro t
    rw [putT, atT]
    cases kidAt t k with
    | none => rfl
    | some u =>
      have h := ih (t := u)
      simp only
      cases hp : putT kid u p with
      | some u' => rw [hp] at h; simpa using h
      | none => rw [hp] at h; simpa using h
theorem put_there {kid t t' : T} : ∀ {p : List Int}, putT kid t p = some t' → atT t' p = some kid := by
  intro p
  induction p generalizing t t' with
  | nil => intro h; simp only [putT, Option.some.injEq] at h; subst h; rfl
  | cons k p ih =>
    intro h
    rw [putT] at h
    cases hk : kidAt t k with
    | none => rw [hk] at h; cases h
    | some u =>
      rw [hk] at h
      simp only at h
      cases hp : putT kid u p with
      | none => rw [hp] at h; cases h
      | some u' =>
        rw [hp] at h
        simp only [Option.some.injEq] at h
        subst h
        obtain ⟨j, rfl, hj⟩ := kid_some hk
        have hjl := (List.getElem?_eq_some_iff.1 hj).1
        rw [atT]
        have : kidAt (setKid t (j : Int).toNat u') (j : Int) = some u' := by
          unfold kidAt setKid
          rw [if_pos (by omega)]
          show (t.kids.set (j : Int).toNat u')[(j : Int).toNat]? = some u'
          rw [Int.toNat_natCast, List.getElem?_set_self hjl]
        rw [this]
        exact ih hp

theorem flat_disj {Ss : List (List Nat)} (h : Ss.flatten.Nodup) : ∀ {i j : Nat} {A B : List Nat} {a : Nat}, Ss[i]? = some A → Ss[j]? = some B → a ∈ A → a ∈ B → i = j := by
  induction Ss with
  | nil => intro i j A B a hi; simp at hi
  | cons S Ss ih =>
    intro i j A B a hi hj ha hb
    rw [List.flatten_cons, List.nodup_append] at h
    cases i with
    | zero =>
      cases j with
      | zero => rfl
      | succ j =>
        simp at hi hj; subst hi
        exact absurd rfl (h.2.2 a ha a (mem_flat.2 ⟨j, B, hj, hb⟩))
    | succ i =>
      cases j with
      | zero =>
        simp at hi hj; subst hj
        exact absurd rfl (h.2.2 a hb a (mem_flat.2 ⟨i, A, hi, ha⟩))
      | succ j => exact congrArg (· + 1) (ih h.2.1 (i := i) (j := j) (by simpa using hi) (by simpa using hj) ha hb)
theorem flat_one_nodup {Ss : List (List Nat)} (h : Ss.flatten.Nodup) : ∀ {i : Nat} {A : List Nat}, Ss[i]? = some A → A.Nodup := by
  induction Ss with
  | nil => intro i A hi; simp at hi
  | cons S Ss ih =>
    intro i A hi
    rw [List.flatten_cons, List.nodup_append] at h
    cases i with
    | zero => simp at hi; subst hi; exact h.1
    | succ i => exact ih h.2.1 (by simpa using hi)

/-- A cell stored over another one. -/
abbrev putO (w : World) (b o : Nat) (c : C) : World := ((((((w.setCell ⟨b, o, none⟩ (.int .u8 c.k)).setCell ⟨b, o + 1, none⟩ (.int .i64 c.r.x)).setCell ⟨b, o + 2, none⟩ (.int .i64 c.r.y)).setCell ⟨b, o + 3, none⟩ (.int .i64 c.r.w)).setCell ⟨b, o + 4, none⟩ (.int .i64 c.r.h)).setCell ⟨b, o + 5, none⟩ (.int .i64 c.id)).setCell ⟨b, o + 6, none⟩ (.slice c.a c.n c.cap)
def setO (cs : Array Value) (o : Nat) (c : C) : Array Value := ((((((cs.setIfInBounds o (.int .u8 c.k)).setIfInBounds (o + 1) (.int .i64 c.r.x)).setIfInBounds (o + 2) (.int .i64 c.r.y)).setIfInBounds (o + 3) (.int .i64 c.r.w)).setIfInBounds (o + 4) (.int .i64 c.r.h)).setIfInBounds (o + 5) (.int .i64 c.id)).setIfInBounds (o + 6) (.slice c.a c.n c.cap)
theorem putO_block {w : World} {b o : Nat} {cs : Array Value} {t : TypeId} {fr : Nat × Nat} (h : w.heap[b]? = some (.cells cs t fr)) (c : C) : (putO w b o c).heap[b]? = some (.cells (setO cs o c) t fr) := by
  have h1 := set_block (i := o) h (.int .u8 c.k)
  have h2 := set_block (i := o + 1) h1 (.int .i64 c.r.x)
  have h3 := set_block (i := o + 2) h2 (.int .i64 c.r.y)
  have h4 := set_block (i := o + 3) h3 (.int .i64 c.r.w)
  have h5 := set_block (i := o + 4) h4 (.int .i64 c.r.h)
  have h6 := set_block (i := o + 5) h5 (.int .i64 c.id)
  exact set_block (i := o + 6) h6 (.slice c.a c.n c.cap)
theorem putO_other {w : World} {b o k : Nat} {c : C} (h : k ≠ b) : (putO w b o c).heap[k]? = w.heap[k]? := by
  unfold putO
  rw [Below.heap_setCell _ ⟨b, o + 6, none⟩ _ k h, Below.heap_setCell _ ⟨b, o + 5, none⟩ _ k h, Below.heap_setCell _ ⟨b, o + 4, none⟩ _ k h, Below.heap_setCell _ ⟨b, o + 3, none⟩ _ k h, Below.heap_setCell _ ⟨b, o + 2, none⟩ _ k h, Below.heap_setCell _ ⟨b, o + 1, none⟩ _ k h, Below.heap_setCell _ ⟨b, o, none⟩ _ k h]
theorem setO_size (cs : Array Value) (o : Nat) (c : C) : (setO cs o c).size = cs.size := by simp [setO]
theorem setO_get (cs : Array Value) (o : Nat) (c : C) (i : Nat) (h : o + 7 ≤ cs.size) : (setO cs o c)[i]? = if o ≤ i ∧ i < o + 7 then (encC c)[i - o]? else cs[i]? := by
  unfold setO
  simp only [Array.getElem?_setIfInBounds, Array.size_setIfInBounds]
  by_cases h6 : o + 6 = i
  · subst h6
    rw [if_pos rfl, if_pos (by omega), if_pos ⟨by omega, by omega⟩]
    simp [encC]
  rw [if_neg h6]
  by_cases h5 : o + 5 = i
  · subst h5
    rw [if_pos rfl, if_pos (by omega), if_pos ⟨by omega, by omega⟩]
    simp [encC]
  rw [if_neg h5]
  by_cases h4 : o + 4 = i
  · subst h4
    rw [if_pos rfl, if_pos (by omega), if_pos ⟨by omega, by omega⟩]
    simp [encC]
  rw [if_neg h4]
  by_cases h3 : o + 3 = i
  · subst h3
    rw [if_pos rfl, if_pos (by omega), if_pos ⟨by omega, by omega⟩]
    simp [encC]
  rw [if_neg h3]
  by_cases h2 : o + 2 = i
  · subst h2
    rw [if_pos rfl, if_pos (by omega), if_pos ⟨by omega, by omega⟩]
    simp [encC]
  rw [if_neg h2]
  by_cases h1 : o + 1 = i
  · subst h1
    rw [if_pos rfl, if_pos (by omega), if_pos ⟨by omega, by omega⟩]
    simp [encC]
  rw [if_neg h1]
  by_cases h0 : o = i
  · subst h0
    rw [if_pos rfl, if_pos (by omega), if_pos ⟨by omega, by omega⟩]
    simp [encC]
  rw [if_neg h0, if_neg (by omega)]
theorem cat_get {w : World} {b o : Nat} {cs : Array Value} {t : TypeId} {fr : Nat × Nat} {c : C} (h : w.heap[b]? = some (.cells cs t fr)) (hc : CAt w b o c) : ∀ i, i < 7 → cs[o + i]? = (encC c)[i]? := by
  have hcell : ∀ i, w.cell? ⟨b, i, none⟩ = cs[i]? := fun i => by simp [World.cell?, h]
  obtain ⟨h0, h1, h2, h3, h4, h5, h6⟩ := hc
  intro i hi
  match i, hi with
  | 0, _ => rw [← hcell, Nat.add_zero, h0]; rfl
  | 1, _ => rw [← hcell, h1]; rfl
  | 2, _ => rw [← hcell, h2]; rfl
  | 3, _ => rw [← hcell, h3]; rfl
  | 4, _ => rw [← hcell, h4]; rfl
  | 5, _ => rw [← hcell, h5]; rfl
  | 6, _ => rw [← hcell, h6]; rfl
theorem cat_size {w : World} {b o : Nat} {cs : Array Value} {t : TypeId} {fr : Nat × Nat} {c : C} (h : w.heap[b]? = some (.cells cs t fr)) (hc : CAt w b o c) : o + 7 ≤ cs.size := by
  have h6 := cat_get h hc 6 (by omega)
  have : cs[o + 6]? = some (.slice c.a c.n c.cap) := by rw [h6]; rfl
  have := (Array.getElem?_eq_some_iff.1 this).1
  omega
theorem setO_same {w : World} {b o : Nat} {cs : Array Value} {t : TypeId} {fr : Nat × Nat} {c : C} (h : w.heap[b]? = some (.cells cs t fr)) (hc : CAt w b o c) : setO cs o c = cs := by
  refine Array.ext_getElem? fun i => ?_
  rw [setO_get cs o c i (cat_size h hc)]
  split
  · rename_i hi
    have := cat_get h hc (i - o) (by omega)
    rw [show o + (i - o) = i by omega] at this
    exact this.symm
  · rfl
theorem cat_of_block {w : World} {b o : Nat} {cs : Array Value} {t : TypeId} {fr : Nat × Nat} {c : C} (h : w.heap[b]? = some (.cells (setO cs o c) t fr)) (hs : o + 7 ≤ cs.size) : CAt w b o c := by
  have hcell : ∀ i, i < 7 → w.cell? ⟨b, o + i, none⟩ = (encC c)[i]? := fun i hi => by
    have : w.cell? ⟨b, o + i, none⟩ = (setO cs o c)[o + i]? := by simp [World.cell?, h]
    rw [this, setO_get cs o c (o + i) hs, if_pos (by omega)]
    congr 1; omega
  exact ⟨hcell 0 (by omega), hcell 1 (by omega), hcell 2 (by omega), hcell 3 (by omega), hcell 4 (by omega), hcell 5 (by omega), hcell 6 (by omega)⟩

/-- A row of one's own, one of whose cells was stored over. -/
theorem own_put {w w' : World} {base g n cap : Nat} {cs : List C} {j : Nat} {y : C} (h : OwnC w base (.slice (some ⟨g, 0, none⟩) n cap) cs) (hj : j < cs.length) (hg : w'.heap[g]? = (putO w g (j * 7) y).heap[g]?) : OwnC w' base (.slice (some ⟨g, 0, none⟩) n cap) (cs.set j y) := by
  rcases h.2 with ⟨h0, -⟩ | ⟨g', cap', cur, he, hb, hgg, hn, hm, hs, ht⟩
  · cases h0
  · cases he
    rw [putO_block hgg y] at hg
    refine ⟨by rw [flatC_length, List.length_set], .inr ⟨g, cap, setO cur (j * 7) y, by simp, hb, hg, by simpa using hn, hm, by rw [setO_size]; exact hs, ?_⟩⟩
    rw [List.length_set]
    have hsz : j * 7 + 7 ≤ cur.size := by rw [hs]; omega
    refine List.ext_getElem? fun i => ?_
    rcases Nat.lt_or_ge i (cs.length * 7) with hi | hi
    · rw [List.getElem?_take, if_pos hi, Array.getElem?_toList, setO_get cur (j * 7) y i hsz]
      have hi7 : i / 7 < cs.length := by omega
      have hm7 : i % 7 < 7 := Nat.mod_lt _ (by omega)
      have e : i / 7 * 7 + i % 7 = i := by omega
      by_cases hij : i / 7 = j
      · rw [if_pos (by omega)]
        have := flatC_get (cs.set j y) j (i % 7) y (by simp [hj]) hm7
        rw [show j * 7 + i % 7 = i by omega] at this
        rw [this]
        congr 1; omega
      · rw [if_neg (by omega)]
        have h1 := flatC_get (cs.set j y) (i / 7) (i % 7) cs[i / 7] (by rw [List.getElem?_set_ne (by omega)]; exact List.getElem?_eq_getElem hi7) hm7
        have h2 := flatC_get cs (i / 7) (i % 7) cs[i / 7] (List.getElem?_eq_getElem hi7) hm7
        rw [e] at h1 h2
        rw [h1, ← h2, ← ht, List.getElem?_take, if_pos hi, Array.getElem?_toList]
    · rw [List.getElem?_eq_none (by rw [List.length_take]; omega), List.getElem?_eq_none (by rw [flatC_length, List.length_set]; omega)]
end Go.Proofs.YtcdiogifgemjbaaGreat
/- The way to a leaf. -/
namespace Go.Proofs.YtcdiogifgemjbaaGreat
open Go.RowKit

mutual
def findT (id : Int) : T → Option (List Int)
  | .node k _ i l => if k = 1 ∧ i = id then some [] else findL id 0 l
def findL (id : Int) (j : Nat) : List T → Option (List Int)
  | [] => none
  | t :: l => match findT id t with
    | some p => some ((j : Int) :: p)
    | none => findL id (j + 1) l
end
theorem findT_eq (id : Int) (t : T) : findT id t = if t.k = 1 ∧ t.id = id then some [] else findL id 0 t.kids := by cases t; rw [findT]; rfl
theorem findL_none {id : Int} {l : List T} : ∀ j, (∀ (k : Nat) (u : T), l[k]? = some u → findT id u = none) → findL id j l = none := by
  induction l with
  | nil => intro j _; rw [findL]
  | cons t l ih =>
    intro j h
    rw [findL, h 0 t rfl]
    exact ih (j + 1) fun k u hu => h (k + 1) u (by simpa using hu)
theorem findL_some {id : Int} {l : List T} {u : T} {p : List Int} : ∀ {j k : Nat}, (∀ (i : Nat) (x : T), i < k → l[i]? = some x → findT id x = none) → l[k]? = some u → findT id u = some p → findL id j l = some (((j + k : Nat) : Int) :: p) := by
  induction l with
  | nil => intro j k _ h; simp at h
  | cons t l ih =>
    intro j k h hu hp
    rw [findL]
    cases k with
    | zero => simp at hu; subst hu; rw [hp]; rfl
    | succ k =>
      rw [h 0 t (by omega) rfl]
      have := ih (j := j + 1) (k := k) (fun i x hi hx => h (i + 1) x (by omega) (by simpa using hx)) (by simpa using hu) hp
      rw [show j + (k + 1) = j + 1 + k by omega]
      exact this

mutual
theorem findT_len (id : Int) (p : List Int) : ∀ t, findT id t = some p → p.length < sz t
  | .node k r i l => by
    rw [findT, sz]
    split
    · intro h; cases h; simp; omega
    · intro h; have := findL_len id 0 p l h; omega
theorem findL_len (id : Int) (j : Nat) (p : List Int) : ∀ l, findL id j l = some p → p.length ≤ szL l
  | [] => by rw [findL]; intro h; cases h
  | t :: l => by
    rw [findL, szL]
    cases h : findT id t with
    | some q =>
      intro h2; cases h2
      have := findT_len id q t h
      simp; omega
    | none => intro h2; have := findL_len id (j + 1) p l h2; omega
end

def WaySays (r : Option (List Int)) (w : World) (e : Ending) (w' : World) : Prop :=
  Below w.heap.size w w' ∧ match r with
  | some p => ∃ v, e = .returned (.tuple #[v, .bool true]) ∧ w'.ownsRow w.heap.size 3 1 v p.length (ints p.reverse)
  | none => e = .returned (.tuple #[.slice none 0 0, .bool false])

theorem way_none {r : Option (List Int)} {w w' : World} {e : Ending} (h : r = none) (hb : Below w.heap.size w w') (he : e = .returned (.tuple #[.slice none 0 0, .bool false])) : WaySays r w e w' := by
  subst h; exact ⟨hb, he⟩
theorem way_some {r : Option (List Int)} {w w' : World} {e : Ending} {p : List Int} {v : Value} (h : r = some p) (hb : Below w.heap.size w w') (he : e = .returned (.tuple #[v, .bool true])) (ho : w'.ownsRow w.heap.size 3 1 v p.length (ints p.reverse)) : WaySays r w e w' := by
  subst h; exact ⟨hb, v, he, ho⟩

set_option maxRecDepth 100000 in
theorem way_any (id : Int) (N : Nat) : ∀ (t : T) (c : C) (w : World), sz t ≤ N → sz t ≤ 1000000 → Is w c t → Calls Tryz.prog 40 #[cval c, .int .i64 id] w (WaySays (findT id t) w) := by
  induction N with
  | zero => intro t c w h; have := sz_pos t; omega
  | succ N ih =>
    intro t c w hs hm hi
    have HR := Lib.hid hi.row
    have hn := hi.n
    have hfn := hi.fine.2.2.2
    have htk := hi.split.1
    have hti := hi.split.2.2.1
    obtain ⟨ck, cr, cid, ca, cn, ccap⟩ := c
    simp only at hn hfn htk hti
    subst hn
    clear hi
    have HS := Lib.hid hs
    have HM := Lib.hid hm
    have HIH := Lib.hid ih
    clear hs hm ih
    by_cases hk : ck = 1 ∧ cid = id
    · obtain ⟨rfl, rfl⟩ := hk
      have hv := Lib.hid (show findT cid t = some [] by rw [findT_eq, if_pos ⟨htk, hti⟩])
      clear htk hti
      rw [hv.out]
      go_enter Tryz.func40, Tryz.ntmps40
      go_wp2
      go_ret2
      exact ⟨(Below.refl _ _).alloc (Nat.le_refl _) _, .slice none 0 0, rfl, World.ownsRow_nil _ _ _ _⟩
    · have hv : Hid (findT id t = findL id 0 t.kids) := Lib.hid (by rw [findT_eq, if_neg (by rw [htk, hti]; exact hk)])
      have hcase : ((ck == 1) = false) ∨ ((ck == 1) = true ∧ (cid == id) = false) := by
        by_cases h1 : ck = 1
        · refine .inr ⟨by simpa using h1, ?_⟩
          rw [beq_eq_false_iff_ne]; exact fun h2 => hk ⟨h1, h2⟩
        · refine .inl ?_
          rw [beq_eq_false_iff_ne]; exact h1
      clear hk htk hti
      rcases hcase with e1 | ⟨e1, e2⟩
      all_goals
        go_enter Tryz.func40, Tryz.ntmps40
        go_wp2
        go_loopg [22] (t.kids.length + 1) (fun g i wr => ∃ k : Nat, g + k = t.kids.length + 1 ∧ k ≤ t.kids.length ∧ i = .int .i64 k ∧ (∀ (j : Nat) (u : T), j < k → t.kids[j]? = some u → findT id u = none) ∧ Below w.heap.size w wr)
        case atStart => exact ⟨0, by omega, by omega, rfl, fun j u hj => by omega, (Below.refl _ _).alloc (Nat.le_refl _) _⟩
        case round =>
          obtain ⟨k, hg, hk, rfl, hno, hb⟩ := hrel
          have HG := Lib.hid hg
          have HNO := Lib.hid hno
          have HB := Lib.hid hb
          clear hg hno hb
          by_cases hlt : k < t.kids.length
          · obtain ⟨b, o, rfl, hf⟩ := HR.out.place (by omega)
            obtain ⟨u, hu⟩ : ∃ u, t.kids[k]? = some u := ⟨_, List.getElem?_eq_getElem hlt⟩
            obtain ⟨x, hx, hix⟩ := hf k u hu
            clear hf
            obtain ⟨c0, c1, c2, c3, c4, c5, c6⟩ := hx.up HB.out
            have HA : Hid (Below wr.heap.size wr (wr.alloc (cbox x))) := (Below.refl _ _).alloc (Nat.le_refl _) _
            have HK := Lib.hid (HIH.out u x (wr.alloc (cbox x)) (by have := HS.out; have := sz_kid hu; omega) (by have := HM.out; have := sz_kid hu; omega) ((hix.up HB.out).up HA.out))
            have HU := Lib.hid hu
            clear hix hu hx
            cases hfu : findT id u with
            | none =>
              rw [hfu] at HK
              have HFU := Lib.hid hfu
              clear hfu
              go_wp2_with fail
              refine HK.out.mono ?_
              rintro e w2 ⟨hb2, rfl⟩
              have HB2 := Lib.hid hb2
              clear hb2
              go_wp2
              go_roundg (gk - 1)
              case measure => have := HG.out; omega
              case rel =>
                refine ⟨k + 1, by have := HG.out; omega, by omega, by go_num, fun j y hj hy => ?_, HB.out.trans ((below_one HB2.out).mono HB.out.size)⟩
                rcases Nat.lt_or_ge j k with h | h
                · exact HNO.out j y h hy
                · obtain rfl : j = k := by omega
                  rw [HU.out] at hy
                  cases hy
                  exact HFU.out
            | some p =>
              rw [hfu] at HK
              have hres := Lib.hid (hv.out.trans (findL_some (j := 0) HNO.out HU.out hfu))
              have hpl : Hid (p.length < 1000000) := by have := findT_len id p u hfu; have := HM.out; have := sz_kid HU.out; show p.length < 1000000; omega
              rw [Nat.zero_add] at hres
              clear hfu
              go_wp2_with fail
              refine HK.out.mono ?_
              rintro e w2 ⟨hb2, v, rfl, hown⟩
              have HB2 := Lib.hid hb2
              have HO := Lib.hid hown
              have hsz : wr.heap.size + 1 ≤ w2.heap.size := by have := hb2.size; simpa using this
              clear hb2 hown
              have hlen : (ints p.reverse).length + [Value.int .i64 (k : Int)].length ≤ 1000000 := by rw [ints_length]; have := hpl.out; simp; omega
              have HL := Lib.hid hlen
              clear hlen
              have HO1 : Hid (w2.ownsRow w.heap.size 3 1 v (ints p.reverse).length (ints p.reverse)) := by
                have := owns_base HO.out (base' := w.heap.size) (by have := HB.out.size; simp; omega)
                rw [ints_length, List.length_reverse]; exact this
              have HB3 := Lib.hid (HB.out.trans ((below_one HB2.out).mono HB.out.size))
              go_wp2_with (at_builtin; refine wpList_append_row rfl _ _ 27 rfl w.heap.size 3 (.int .i64 0) 8 Tryz.underlying27 infoI rfl _ _ (ints p.reverse) [.int .i64 (k : Int)] rfl (HO1.out.alloc _) rfl (row_one _ _ _) (fun u hu => by rw [List.mem_singleton.1 hu]; rfl) HL.out (by decide) w (HB3.out.alloc HB3.out.size _) (Nat.le_refl _) ?_; intro v' w3 hown3 hb3)
              have HO3 := Lib.hid hown3
              have HB4 := Lib.hid hb3
              clear hown3 hb3
              go_wp2
              go_ret2
              refine way_some hres.out HB4.out rfl ?_
              have := HO3.out
              rw [List.reverse_cons, ints_append, show ints [(k : Int)] = [Value.int .i64 (k : Int)] from rfl]
              simpa [ints_length] using this
          · obtain rfl : k = t.kids.length := by omega
            have hkl : ((t.kids.length : Int) < (t.kids.length : Int)) = False := by simp
            have hres := Lib.hid (hv.out.trans (findL_none 0 (fun k u hu => HNO.out k u (by
              rcases Nat.lt_or_ge k t.kids.length with h | h
              · exact h
              · rw [List.getElem?_eq_none h] at hu; cases hu) hu)))
            go_wp2
            go_ret2
            exact way_none hres.out HB.out rfl
end Go.Proofs.YtcdiogifgemjbaaGreat
