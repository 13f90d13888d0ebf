/- Texts of this seat, 3 in one file. -/
import Derived.Test.YtodcabaihhmhnaaG03
import Derived.Test.YtodcabaihhmhnaaG08
import Derived.Test.YtodcabaihhmhnaaShelf
import Derived.Sort.OwnSortedInts
import Derived.Test.YtodcabaihhmhnaaG01
/- The way to a leaf. -/
namespace Go.Proofs.Ytodcabaihhmhnaa
open Go.RowKit

mutual
def findT (id : Int) : T → Option (List Int)
  | .node k _ i l => if k = 1 ∧ i = id then some [] else findL id 0 l
def findL (id : Int) (j : Nat) : List T → Option (List Int)
  | [] => none
  | t :: l => match findT id t with
    | some p => some ((j : Int) :: p)
    | none => findL id (j + 1) l
end
theorem findT_eq (id : Int) (t : T) : findT id t = if t.k = 1 ∧ t.id = id then some [] else findL id 0 t.kids := by cases t; rw [findT]; rfl
theorem findL_none {id : Int} {l : List T} : ∀ j, (∀ (k : Nat) (u : T), l[k]? = some u → findT id u = none) → findL id j l = none := by
  induction l with
  | nil => intro j _; rw [findL]
  | cons t l ih =>
    intro j h
    rw [findL, h 0 t rfl]
    exact ih (j + 1) fun k u hu => h (k + 1) u (by simpa using hu)
theorem findL_some {id : Int} {l : List T} {u : T} {p : List Int} : ∀ {j k : Nat}, (∀ (i : Nat) (x : T), i < k → l[i]? = some x → findT id x = none) → l[k]? = some u → findT id u = some p → findL id j l = some (((j + k : Nat) : Int) :: p) := by
  induction l with
  | nil => intro j k _ h; simp at h
  | cons t l ih =>
    intro j k h hu hp
    rw [findL]
    cases k with
    | zero => simp at hu; subst hu; rw [hp]; rfl
    | succ k =>
      rw [h 0 t (by omega) rfl]
      have := ih (j := j + 1) (k := k) (fun i x hi hx => h (i + 1) x (by omega) (by simpa using hx)) (by simpa using hu) hp
      rw [show j + (k + 1) = j + 1 + k by omega]
      exact this

mutual
theorem findT_len (id : Int) (p : List Int) : ∀ t, findT id t = some p → p.length < sz t
  | .node k r i l => by
    rw [findT, sz]
    split
    · intro h; cases h; simp; omega
    · intro h; have := findL_len id 0 p l h; omega
theorem findL_len (id : Int) (j : Nat) (p : List Int) : ∀ l, findL id j l = some p → p.length ≤ szL l
  | [] => by rw [findL]; intro h; cases h
  | t :: l => by
    rw [findL, szL]
    cases h : findT id t with
    | some q =>
      intro h2; cases h2
      have := findT_len id q t h
      simp; omega
    | none => intro h2; have := findL_len id (j + 1) p l h2; omega
end

def WaySays (r : Option (List Int)) (w : World) (e : Ending) (w' : World) : Prop :=
  Below w.heap.size w w' ∧ match r with
  | some p => ∃ v, e = .returned (.tuple #[v, .bool true]) ∧ w'.ownsRow w.heap.size 3 1 v p.length (ints p.reverse)
  | none => e = .returned (.tuple #[.slice none 0 0, .bool false])

theorem way_none {r : Option (List Int)} {w w' : World} {e : Ending} (h : r = none) (hb : Below w.heap.size w w') (he : e = .returned (.tuple #[.slice none 0 0, .bool false])) : WaySays r w e w' := by
  subst h; exact ⟨hb, he⟩
theorem way_some {r : Option (List Int)} {w w' : World} {e : Ending} {p : List Int} {v : Value} (h : r = some p) (hb : Below w.heap.size w w') (he : e = .returned (.tuple #[v, .bool true])) (ho : w'.ownsRow w.heap.size 3 1 v p.length (ints p.reverse)) : WaySays r w e w' := by
  subst h; exact ⟨hb, v, he, ho⟩

set_option maxRecDepth 100000 in
theorem way_any (id : Int) (N : Nat) : ∀ (t : T) (c : C) (w : World), sz t ≤ N → sz t ≤ 1000000 → Is w c t → Calls Try.prog 48 #[cval c, .int .i64 id] w (WaySays (findT id t) w) := by
  induction N with
  | zero => intro t c w h; have := sz_pos t; omega
  | succ N ih =>
    intro t c w hs hm hi
    have HR := Lib.hid hi.row
    have hn := hi.n
    have hfn := hi.fine.2.2.2
    have htk := hi.split.1
    have hti := hi.split.2.2.1
    obtain ⟨ck, cr, cid, ca, cn, ccap⟩ := c
    simp only at hn hfn htk hti
    subst hn
    clear hi
    have HS := Lib.hid hs
    have HM := Lib.hid hm
    have HIH := Lib.hid ih
    clear hs hm ih
    by_cases hk : ck = 1 ∧ cid = id
    · obtain ⟨rfl, rfl⟩ := hk
      have hv := Lib.hid (show findT cid t = some [] by rw [findT_eq, if_pos ⟨htk, hti⟩])
      clear htk hti
      rw [hv.out]
      go_enter Try.func48, Try.ntmps48
      go_wp2
      go_ret2
      exact ⟨(Below.refl _ _).alloc (Nat.le_refl _) _, .slice none 0 0, rfl, World.ownsRow_nil _ _ _ _⟩
    · have hv : Hid (findT id t = findL id 0 t.kids) := Lib.hid (by rw [findT_eq, if_neg (by rw [htk, hti]; exact hk)])
      have hcase : ((ck == 1) = false) ∨ ((ck == 1) = true ∧ (cid == id) = false) := by
        by_cases h1 : ck = 1
        · refine .inr ⟨by simpa using h1, ?_⟩
          rw [beq_eq_false_iff_ne]; exact fun h2 => hk ⟨h1, h2⟩
        · refine .inl ?_
          rw [beq_eq_false_iff_ne]; exact h1
      clear hk htk hti
      rcases hcase with e1 | ⟨e1, e2⟩
      all_goals
        go_enter Try.func48, Try.ntmps48
        go_wp2
        go_loopg [22] (t.kids.length + 1) (fun g i wr => ∃ k : Nat, g + k = t.kids.length + 1 ∧ k ≤ t.kids.length ∧ i = .int .i64 k ∧ (∀ (j : Nat) (u : T), j < k → t.kids[j]? = some u → findT id u = none) ∧ Below w.heap.size w wr)
        case atStart => exact ⟨0, by omega, by omega, rfl, fun j u hj => by omega, (Below.refl _ _).alloc (Nat.le_refl _) _⟩
        case round =>
          obtain ⟨k, hg, hk, rfl, hno, hb⟩ := hrel
          have HG := Lib.hid hg
          have HNO := Lib.hid hno
          have HB := Lib.hid hb
          clear hg hno hb
          by_cases hlt : k < t.kids.length
          · obtain ⟨b, o, rfl, hf⟩ := HR.out.place (by omega)
            obtain ⟨u, hu⟩ : ∃ u, t.kids[k]? = some u := ⟨_, List.getElem?_eq_getElem hlt⟩
            obtain ⟨x, hx, hix⟩ := hf k u hu
            clear hf
            obtain ⟨c0, c1, c2, c3, c4, c5, c6⟩ := hx.up HB.out
            have HA : Hid (Below wr.heap.size wr (wr.alloc (cbox x))) := (Below.refl _ _).alloc (Nat.le_refl _) _
            have HK := Lib.hid (HIH.out u x (wr.alloc (cbox x)) (by have := HS.out; have := sz_kid hu; omega) (by have := HM.out; have := sz_kid hu; omega) ((hix.up HB.out).up HA.out))
            have HU := Lib.hid hu
            clear hix hu hx
            cases hfu : findT id u with
            | none =>
              rw [hfu] at HK
              have HFU := Lib.hid hfu
              clear hfu
              go_wp2_with fail
              refine HK.out.mono ?_
              rintro e w2 ⟨hb2, rfl⟩
              have HB2 := Lib.hid hb2
              clear hb2
              go_wp2
              go_roundg (gk - 1)
              case measure => have := HG.out; omega
              case rel =>
                refine ⟨k + 1, by have := HG.out; omega, by omega, by go_num, fun j y hj hy => ?_, HB.out.trans ((below_one HB2.out).mono HB.out.size)⟩
                rcases Nat.lt_or_ge j k with h | h
                · exact HNO.out j y h hy
                · obtain rfl : j = k := by omega
                  rw [HU.out] at hy
                  cases hy
                  exact HFU.out
            | some p =>
              rw [hfu] at HK
              have hres := Lib.hid (hv.out.trans (findL_some (j := 0) HNO.out HU.out hfu))
              have hpl : Hid (p.length < 1000000) := by have := findT_len id p u hfu; have := HM.out; have := sz_kid HU.out; show p.length < 1000000; omega
              rw [Nat.zero_add] at hres
              clear hfu
              go_wp2_with fail
              refine HK.out.mono ?_
              rintro e w2 ⟨hb2, v, rfl, hown⟩
              have HB2 := Lib.hid hb2
              have HO := Lib.hid hown
              have hsz : wr.heap.size + 1 ≤ w2.heap.size := by have := hb2.size; simpa using this
              clear hb2 hown
              have hlen : (ints p.reverse).length + [Value.int .i64 (k : Int)].length ≤ 1000000 := by rw [ints_length]; have := hpl.out; simp; omega
              have HL := Lib.hid hlen
              clear hlen
              have HO1 : Hid (w2.ownsRow w.heap.size 3 1 v (ints p.reverse).length (ints p.reverse)) := by
                have := owns_base HO.out (base' := w.heap.size) (by have := HB.out.size; simp; omega)
                rw [ints_length, List.length_reverse]; exact this
              have HB3 := Lib.hid (HB.out.trans ((below_one HB2.out).mono HB.out.size))
              go_wp2_with (at_builtin; refine wpList_append_row rfl _ _ 37 rfl w.heap.size 3 (.int .i64 0) 8 Try.underlying37 infoI rfl _ _ (ints p.reverse) [.int .i64 (k : Int)] rfl (HO1.out.alloc _) rfl (row_one _ _ _) (fun u hu => by rw [List.mem_singleton.1 hu]; rfl) HL.out (by decide) w (HB3.out.alloc HB3.out.size _) (Nat.le_refl _) ?_; intro v' w3 hown3 hb3)
              have HO3 := Lib.hid hown3
              have HB4 := Lib.hid hb3
              clear hown3 hb3
              go_wp2
              go_ret2
              refine way_some hres.out HB4.out rfl ?_
              have := HO3.out
              rw [List.reverse_cons, ints_append, show ints [(k : Int)] = [Value.int .i64 (k : Int)] from rfl]
              simpa [ints_length] using this
          · obtain rfl : k = t.kids.length := by omega
            have hkl : ((t.kids.length : Int) < (t.kids.length : Int)) = False := by simp
            have hres := Lib.hid (hv.out.trans (findL_none 0 (fun k u hu => HNO.out k u (by
              rcases Nat.lt_or_ge k t.kids.length with h | h
              · exact h
              · rw [List.getElem?_eq_none h] at hu; cases hu) hu)))
            go_wp2
            go_ret2
            exact way_none hres.out HB.out rfl
end Go.Proofs.Ytodcabaihhmhnaa
/- The path to the first leaf with a number. -/
namespace Go.Proofs.Ytodcabaihhmhnaa
open Go.RowKit

theorem holds_ints (q : List Int) (w : World) (g : Nat) (hc : ∀ j u, (ints q)[j]? = some u → w.cell? ((⟨g, 0, none⟩ : Addr).add j) = some u) (hf : ∀ j, w.frozen? ⟨g, j, none⟩ = false) : Sort.Holds (Value.int .i64) w g 0 q.toArray := by
  intro j hj
  have hj' : j < q.length := by simpa using hj
  have h := hc j (.int .i64 q[j]) (by simp [ints, List.getElem?_eq_getElem hj'])
  rw [Go.WideShapes.add_plain] at h
  refine ⟨?_, hf _⟩
  rw [h]
  simp [hj']
theorem ints_of_holds {q : List Int} {w : World} {g cap : Nat} (h : Sort.Holds (Value.int .i64) w g 0 q.toArray) : Row w (.slice (some ⟨g, 0, none⟩) q.length cap) (ints q) := by
  refine ⟨some ⟨g, 0, none⟩, cap, by rw [ints_length], (fun h => by cases h), fun x hx j u hu => ?_⟩
  cases hx
  have hj : j < q.length := by
    rcases Nat.lt_or_ge j q.length with h | h
    · exact h
    · rw [List.getElem?_eq_none (by rw [ints_length]; exact h)] at hu; cases hu
  have h1 := (h j (by simpa using hj)).1
  rw [Go.WideShapes.add_plain, h1]
  simp [ints, hj] at hu
  rw [← hu]
  simp [hj]

theorem rev_any (v : Value) (p : List Int) (base : Nat) (w : World) (h : w.ownsRow base 3 1 v p.length (ints p.reverse)) (hl : p.length ≤ 1000000) :
    Calls Try.prog 36 #[v] w fun e w' => e = .returned (.tuple #[]) ∧ Row w' v (ints p) ∧ Below base w w' := by
  rcases h.2 with ⟨rfl, h0⟩ | ⟨g, cap, cur, rfl, hb, hg, hn, hm, hs, ht⟩
  · obtain rfl : p = [] := List.length_eq_zero_iff.1 h0
    refine (Try.slices_Reverse_int_empty none 0 w).mono ?_
    rintro e w' ⟨rfl, hw⟩
    subst hw
    exact ⟨rfl, ⟨none, 0, rfl, fun _ => ⟨rfl, rfl⟩, fun x hx => by cases hx⟩, Below.refl _ _⟩
  · have hH : Sort.Holds (Value.int .i64) w g 0 p.reverse.toArray := holds_ints _ w g (h.cells (g := g) rfl) (fun j => by simp [World.frozen?, hg])
    have := Try.slices_Reverse_int g 0 cap p.reverse w hH (by simp; omega)
    rw [List.length_reverse, List.reverse_reverse] at this
    refine this.mono ?_
    rintro e w' ⟨rfl, n, rfl⟩
    have hG := Sort.holds_putRow (Value.int .i64) (Sort.ahead w n) g 0 p.reverse.toArray p.toArray (Sort.holds_ahead _ w n g 0 _ hH) (by simp)
    have hgr := grownBy_sortedI (w := w) (g := g) (n := n) (os := #[]) p.toArray
    rw [Sort.grow_empty] at hgr
    refine ⟨rfl, ints_of_holds hG, ⟨hgr.os, hgr.tape, hgr.output, hgr.size, fun k hk => ?_⟩⟩
    rcases Nat.lt_or_ge k w.heap.size with h1 | h1
    · exact hgr.block k h1 (fun e => by cases e; omega)
    · have hlt := lt_of_block hg
      omega

def FindSays (r : Option (List Int)) (w : World) (e : Ending) (w' : World) : Prop :=
  Below w.heap.size w w' ∧ match r with
  | some p => ∃ v, e = .returned (.tuple #[v, .bool true]) ∧ Row w' v (ints p)
  | none => e = .returned (.tuple #[.slice none 0 0, .bool false])

set_option maxRecDepth 100000 in
theorem find_any (id : Int) (t : T) (c : C) (w : World) (hs : sz t ≤ 1000000) (hi : Is w c t) : Calls Try.prog 29 #[cval c, .int .i64 id] w (FindSays (findT id t) w) := by
  have HA : Hid (Below w.heap.size w (w.alloc (cbox c))) := (Below.refl _ _).alloc (Nat.le_refl _) _
  have H := Lib.hid (way_any id (sz t) t c (w.alloc (cbox c)) (Nat.le_refl _) hs (hi.up HA.out))
  have HS := Lib.hid hs
  clear hi hs
  cases hf : findT id t with
  | none =>
    rw [hf] at H
    clear hf
    go_enter Try.func29, Try.ntmps29
    go_wp2_with fail
    refine H.out.mono ?_
    rintro e w2 ⟨hb, rfl⟩
    have HB := Lib.hid hb
    clear hb
    go_wp2_with fail
    refine (Try.slices_Reverse_int_empty none 0 w2).mono ?_
    rintro e w3 ⟨rfl, hw⟩
    rw [hw]
    clear hw w3
    go_wp2
    go_ret2
    exact ⟨below_one HB.out, rfl⟩
  | some p =>
    rw [hf] at H
    have HL := Lib.hid (show p.length ≤ 1000000 by have := findT_len id p t hf; have := HS.out; omega)
    clear hf
    go_enter Try.func29, Try.ntmps29
    go_wp2_with fail
    refine H.out.mono ?_
    rintro e w2 ⟨hb, v, rfl, hown⟩
    have HB := Lib.hid hb
    have HO := Lib.hid hown
    clear hb hown
    go_wp2_with fail
    refine (rev_any v p _ w2 HO.out HL.out).mono ?_
    rintro e w3 ⟨rfl, hr, hb⟩
    have HR := Lib.hid hr
    have HB3 := Lib.hid (HB.out.trans hb)
    clear hr hb
    go_wp2
    go_ret2
    exact ⟨below_one HB3.out, v, rfl, HR.out⟩
end Go.Proofs.Ytodcabaihhmhnaa
/- What both have of a size: the document's Sizes. -/
namespace Go.Proofs.Ytodcabaihhmhnaa
open Go.RowKit

/-- The new one's, of a size that is asked. -/
def spB (s z : Int) : Int := if z = 0 then (s + 1) / 2 - 1 else if s - 2 < z then s - 2 else z
def spOk (s z : Int) : Bool := decide (3 ≤ s) && decide (0 ≤ z)
theorem spB_in {s z : Int} (hs : 3 ≤ s) (hz : 0 ≤ z) : 1 ≤ spB s z ∧ spB s z ≤ s - 2 := by
  unfold spB
  split
  · omega
  · split <;> omega
theorem spB_even {s : Int} (hs : 3 ≤ s) : 0 ≤ s - 1 - spB s 0 - spB s 0 ∧ s - 1 - spB s 0 - spB s 0 ≤ 1 := by
  unfold spB
  rw [if_pos rfl]
  omega
/-- What Sizes answers. -/
def SzSays (s z : Int) (w : World) (e : Ending) (w' : World) : Prop := w' = w ∧ e = if spOk s z = true then .returned (.tuple #[.int .i64 (s - 1 - spB s z), .int .i64 (spB s z), .bool true]) else .returned (.tuple #[.int .i64 0, .int .i64 0, .bool false])
theorem sz_no {s z : Int} (w : World) (h : spOk s z = false) : SzSays s z w (.returned (.tuple #[.int .i64 0, .int .i64 0, .bool false])) w := ⟨rfl, by rw [h]; rfl⟩
theorem sz_yes {s z n : Int} (w : World) (h : spOk s z = true) (hn : spB s z = n) : SzSays s z w (.returned (.tuple #[.int .i64 (s - 1 - n), .int .i64 n, .bool true])) w := ⟨rfl, by rw [h, hn]; rfl⟩

end Go.Proofs.Ytodcabaihhmhnaa
