/- The way to a leaf. -/
import Derived.Test.YtibjpkicchdomaaMem
namespace Go.Proofs.Ytibjpkicchdomaa
open Go.RowKit

mutual
def findT (id : Int) : T → Option (List Int)
  | .node k _ i l => if k = 1 ∧ i = id then some [] else findL id 0 l
def findL (id : Int) (j : Nat) : List T → Option (List Int)
  | [] => none
  | t :: l => match findT id t with
    | some p => some ((j : Int) :: p)
    | none => findL id (j + 1) l
end
theorem findT_eq (id : Int) (t : T) : findT id t = if t.k = 1 ∧ t.id = id then some [] else findL id 0 t.kids := by cases t; rw [findT]; rfl
theorem findL_none {id : Int} {l : List T} : ∀ j, (∀ (k : Nat) (u : T), l[k]? = some u → findT id u = none) → findL id j l = none := by
  induction l with
  | nil => intro j _; rw [findL]
  | cons t l ih =>
    intro j h
    rw [findL, h 0 t rfl]
    exact ih (j + 1) fun k u hu => h (k + 1) u (by simpa using hu)
theorem findL_some {id : Int} {l : List T} {u : T} {p : List Int} : ∀ {j k : Nat}, (∀ (i : Nat) (x : T), i < k → l[i]? = some x → findT id x = none) → l[k]? = some u → findT id u = some p → findL id j l = some (((j + k : Nat) : Int) :: p) := by
  induction l with
  | nil => intro j k _ h; simp at h
  | cons t l ih =>
    intro j k h hu hp
    rw [findL]
    cases k with
    | zero => simp at hu; subst hu; rw [hp]; rfl
    | succ k =>
      rw [h 0 t (by omega) rfl]
      have := ih (j := j + 1) (k := k) (fun i x hi hx => h (i + 1) x (by omega) (by simpa using hx)) (by simpa using hu) hp
      rw [show j + (k + 1) = j + 1 + k by omega]
      exact this

mutual
theorem findT_len (id : Int) (p : List Int) : ∀ t, findT id t = some p → p.length < sz t
  | .node k r i l => by
    rw [findT, sz]
    split
    · intro h; cases h; simp; omega
    · intro h; have := findL_len id 0 p l h; omega
theorem findL_len (id : Int) (j : Nat) (p : List Int) : ∀ l, findL id j l = some p → p.length ≤ szL l
  | [] => by rw [findL]; intro h; cases h
  | t :: l => by
    rw [findL, szL]
    cases h : findT id t with
    | some q =>
      intro h2; cases h2
      have := findT_len id q t h
      simp; omega
    | none => intro h2; have := findL_len id (j + 1) p l h2; omega
end

/-- Numbers as cells. -/
def ints (p : List Int) : List Value := p.map (Value.int .i64)
theorem ints_length (p : List Int) : (ints p).length = p.length := by simp [ints]
theorem ints_append (p q : List Int) : ints (p ++ q) = ints p ++ ints q := by simp [ints]
theorem ints_one (p : List Int) : ∀ u ∈ ints p, u.oneCell' = true := by
  intro u hu
  obtain ⟨n, -, rfl⟩ := List.mem_map.1 hu
  rfl
theorem row_one (w : World) (v : Value) (t : TypeId) : Row (w.alloc (.cells #[v] t)) (.slice (some ⟨w.heap.size, 0, none⟩) 1 1) [v] := by
  refine ⟨_, 1, rfl, (fun h => by cases h), fun x hx j u hu => ?_⟩
  cases hx
  cases j with
  | zero => simp at hu; subst hu; simp [Addr.add]
  | succ j => simp at hu
theorem infoI : (Try.prog.info? 3).map (fun i => (i.zero, i.size, i.bytes)) = some (some (.int .i64 0), 1, 8) := by kernel_rfl

def WaySays (r : Option (List Int)) (w : World) (e : Ending) (w' : World) : Prop :=
  Below w.heap.size w w' ∧ match r with
  | some p => ∃ v, e = .returned (.tuple #[v, .bool true]) ∧ w'.ownsRow w.heap.size 3 1 v p.length (ints p.reverse)
  | none => e = .returned (.tuple #[.slice none 0 0, .bool false])

theorem way_none {r : Option (List Int)} {w w' : World} {e : Ending} (h : r = none) (hb : Below w.heap.size w w') (he : e = .returned (.tuple #[.slice none 0 0, .bool false])) : WaySays r w e w' := by
  subst h; exact ⟨hb, he⟩
theorem way_some {r : Option (List Int)} {w w' : World} {e : Ending} {p : List Int} {v : Value} (h : r = some p) (hb : Below w.heap.size w w') (he : e = .returned (.tuple #[v, .bool true])) (ho : w'.ownsRow w.heap.size 3 1 v p.length (ints p.reverse)) : WaySays r w e w' := by
  subst h; exact ⟨hb, v, he, ho⟩

set_option maxRecDepth 100000 in
theorem way_any (id : Int) (N : Nat) : ∀ (t : T) (c : C) (w : World), sz t ≤ N → sz t ≤ 1000000 → Is w c t → Calls Try.prog 47 #[cval c, .int .i64 id] w (WaySays (findT id t) w) := by
  induction N with
  | zero => intro t c w h; have := sz_pos t; omega
  | succ N ih =>
    intro t c w hs hm hi
    have HR := Lib.hid hi.row
    have hn := hi.n
    have hfn := hi.fine.2.2.2
    have htk := hi.split.1
    have hti := hi.split.2.2.1
    obtain ⟨ck, cr, cid, ca, cn, ccap⟩ := c
    simp only at hn hfn htk hti
    subst hn
    clear hi
    have HS := Lib.hid hs
    have HM := Lib.hid hm
    have HIH := Lib.hid ih
    clear hs hm ih
    by_cases hk : ck = 1 ∧ cid = id
    · obtain ⟨rfl, rfl⟩ := hk
      have hv := Lib.hid (show findT cid t = some [] by rw [findT_eq, if_pos ⟨htk, hti⟩])
      clear htk hti
      rw [hv.out]
      go_enter Try.func47, Try.ntmps47
      go_wp2
      go_ret2
      exact ⟨(Below.refl _ _).alloc (Nat.le_refl _) _, .slice none 0 0, rfl, World.ownsRow_nil _ _ _ _⟩
    · have hv : Hid (findT id t = findL id 0 t.kids) := Lib.hid (by rw [findT_eq, if_neg (by rw [htk, hti]; exact hk)])
      have hcase : ((ck == 1) = false) ∨ ((ck == 1) = true ∧ (cid == id) = false) := by
        by_cases h1 : ck = 1
        · refine .inr ⟨by simpa using h1, ?_⟩
          rw [beq_eq_false_iff_ne]; exact fun h2 => hk ⟨h1, h2⟩
        · refine .inl ?_
          rw [beq_eq_false_iff_ne]; exact h1
      clear hk htk hti
      rcases hcase with e1 | ⟨e1, e2⟩
      all_goals
        go_enter Try.func47, Try.ntmps47
        go_wp2
        go_loopg [22] (t.kids.length + 1) (fun g i wr => ∃ k : Nat, g + k = t.kids.length + 1 ∧ k ≤ t.kids.length ∧ i = .int .i64 k ∧ (∀ (j : Nat) (u : T), j < k → t.kids[j]? = some u → findT id u = none) ∧ Below w.heap.size w wr)
        case atStart => exact ⟨0, by omega, by omega, rfl, fun j u hj => by omega, (Below.refl _ _).alloc (Nat.le_refl _) _⟩
        case round =>
          obtain ⟨k, hg, hk, rfl, hno, hb⟩ := hrel
          have HG := Lib.hid hg
          have HNO := Lib.hid hno
          have HB := Lib.hid hb
          clear hg hno hb
          by_cases hlt : k < t.kids.length
          · obtain ⟨b, o, rfl, hf⟩ := HR.out.place (by omega)
            obtain ⟨u, hu⟩ : ∃ u, t.kids[k]? = some u := ⟨_, List.getElem?_eq_getElem hlt⟩
            obtain ⟨x, hx, hix⟩ := hf k u hu
            clear hf
            obtain ⟨c0, c1, c2, c3, c4, c5, c6⟩ := hx.up HB.out
            have HA : Hid (Below wr.heap.size wr (wr.alloc (cbox x))) := (Below.refl _ _).alloc (Nat.le_refl _) _
            have HK := Lib.hid (HIH.out u x (wr.alloc (cbox x)) (by have := HS.out; have := sz_kid hu; omega) (by have := HM.out; have := sz_kid hu; omega) ((hix.up HB.out).up HA.out))
            have HU := Lib.hid hu
            clear hix hu hx
            cases hfu : findT id u with
            | none =>
              rw [hfu] at HK
              have HFU := Lib.hid hfu
              clear hfu
              go_wp2_with fail
              refine HK.out.mono ?_
              rintro e w2 ⟨hb2, rfl⟩
              have HB2 := Lib.hid hb2
              clear hb2
              go_wp2
              go_roundg (gk - 1)
              case measure => have := HG.out; omega
              case rel =>
                refine ⟨k + 1, by have := HG.out; omega, by omega, by go_num, fun j y hj hy => ?_, HB.out.trans ((below_one HB2.out).mono HB.out.size)⟩
                rcases Nat.lt_or_ge j k with h | h
                · exact HNO.out j y h hy
                · obtain rfl : j = k := by omega
                  rw [HU.out] at hy
                  cases hy
                  exact HFU.out
            | some p =>
              rw [hfu] at HK
              have hres := Lib.hid (hv.out.trans (findL_some (j := 0) HNO.out HU.out hfu))
              have hpl : Hid (p.length < 1000000) := by have := findT_len id p u hfu; have := HM.out; have := sz_kid HU.out; show p.length < 1000000; omega
              rw [Nat.zero_add] at hres
              clear hfu
              go_wp2_with fail
              refine HK.out.mono ?_
              rintro e w2 ⟨hb2, v, rfl, hown⟩
              have HB2 := Lib.hid hb2
              have HO := Lib.hid hown
              have hsz : wr.heap.size + 1 ≤ w2.heap.size := by have := hb2.size; simpa using this
              clear hb2 hown
              have hlen : (ints p.reverse).length + [Value.int .i64 (k : Int)].length ≤ 1000000 := by rw [ints_length]; have := hpl.out; simp; omega
              have HL := Lib.hid hlen
              clear hlen
              have HO1 : Hid (w2.ownsRow w.heap.size 3 1 v (ints p.reverse).length (ints p.reverse)) := by
                have := owns_base HO.out (base' := w.heap.size) (by have := HB.out.size; simp; omega)
                rw [ints_length, List.length_reverse]; exact this
              have HB3 := Lib.hid (HB.out.trans ((below_one HB2.out).mono HB.out.size))
              go_wp2_with (at_builtin; refine wpList_append_row rfl _ _ 27 rfl w.heap.size 3 (.int .i64 0) 8 Try.underlying27 infoI rfl _ _ (ints p.reverse) [.int .i64 (k : Int)] rfl (HO1.out.alloc _) rfl (row_one _ _ _) (fun u hu => by rw [List.mem_singleton.1 hu]; rfl) HL.out (by decide) w (HB3.out.alloc HB3.out.size _) (Nat.le_refl _) ?_; intro v' w3 hown3 hb3)
              have HO3 := Lib.hid hown3
              have HB4 := Lib.hid hb3
              clear hown3 hb3
              go_wp2
              go_ret2
              refine way_some hres.out HB4.out rfl ?_
              have := HO3.out
              rw [List.reverse_cons, ints_append, show ints [(k : Int)] = [Value.int .i64 (k : Int)] from rfl]
              simpa [ints_length] using this
          · obtain rfl : k = t.kids.length := by omega
            have hkl : ((t.kids.length : Int) < (t.kids.length : Int)) = False := by simp
            have hres := Lib.hid (hv.out.trans (findL_none 0 (fun k u hu => HNO.out k u (by
              rcases Nat.lt_or_ge k t.kids.length with h | h
              · exact h
              · rw [List.getElem?_eq_none h] at hu; cases hu) hu)))
            go_wp2
            go_ret2
            exact way_none hres.out HB.out rfl
end Go.Proofs.Ytibjpkicchdomaa
