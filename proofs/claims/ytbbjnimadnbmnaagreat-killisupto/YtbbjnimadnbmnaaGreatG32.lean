/- Texts of this seat, 3 in one file. -/
import Derived.Test.YtbbjnimadnbmnaaGreatG30
import Derived.Test.YtbbjnimadnbmnaaGreatG24
import Derived.Test.YtbbjnimadnbmnaaGreatG26
import Derived.Test.YtbbjnimadnbmnaaGreatG28
/- The place of a kid that is a leaf with a number; its neighbour's: the document's. -/
namespace Go.Proofs.YtbbjnimadnbmnaaGreat
open Go.RowKit

def plB (id : Int) (t : T) : Bool := t.k == 1 && t.id == id
/-- The place, counted from m; -1. -/
def plN (id : Int) : List T → Nat → Int
  | [], _ => -1
  | t :: l, m => if plB id t = true then (m : Int) else plN id l (m + 1)
theorem plN_at {id : Int} {l : List T} : ∀ {k m : Nat} {u : T}, (∀ (j : Nat) (x : T), j < k → l[j]? = some x → plB id x = false) → l[k]? = some u → plB id u = true → plN id l m = ((m + k : Nat) : Int) := by
  induction l with
  | nil => intro k m u hno hu; simp at hu
  | cons t l ih =>
    intro k m u hno hu hp
    cases k with
    | zero => simp at hu; subst hu; rw [plN, if_pos hp]; simp
    | succ k =>
      have h0 := hno 0 t (by omega) rfl
      rw [plN, if_neg (by rw [h0]; decide), ih (k := k) (m := m + 1) (fun j y hj hy => hno (j + 1) y (by omega) (by simpa using hy)) (by simpa using hu) hp]
      congr 1; omega
theorem plN_none {id : Int} {l : List T} : ∀ {m : Nat}, (∀ (j : Nat) (x : T), j < l.length → l[j]? = some x → plB id x = false) → plN id l m = -1 := by
  induction l with
  | nil => intro m _; rfl
  | cons t l ih =>
    intro m hno
    have h0 := hno 0 t (by simp) rfl
    rw [plN, if_neg (by rw [h0]; decide)]
    exact ih fun j y hj hy => hno (j + 1) y (by simpa using hj) (by simpa using hy)
/-- The neighbour that grows. -/
def heirN (i : Int) : Int := if i = 0 then 1 else i - 1

set_option maxRecDepth 100000 in
theorem rheir_any (i : Int) (w : World) (h : 0 ≤ i ∧ i ≤ 1000000) : Calls Tryz.prog 38 #[.int .i64 i] w fun e w' => e = .returned (.int .i64 (heirN i)) ∧ w' = w := by
  have w1 : IntKind.i64.wrap (i - 1) = i - 1 := wrap_id (by omega)
  by_cases h0 : i = 0
  · subst h0
    go_enter Tryz.func38, Tryz.ntmps38
    go_wp2
    go_ret
    exact ⟨rfl, rfl⟩
  · have d0 : (i == 0) = false := by simpa using h0
    have hv : Hid (heirN i = i - 1) := Lib.hid (if_neg h0)
    clear h0
    go_enter Tryz.func38, Tryz.ntmps38
    go_wp2
    go_ret
    exact ⟨by rw [hv.out]; first | rfl | (refine ret_int ?_; omega), rfl⟩

set_option maxRecDepth 100000 in
theorem rplace_any (id : Int) (t : T) (c : C) (w : World) (hi : Is w c t) : Calls Tryz.prog 36 #[cval c, .int .i64 id] w fun e w' => e = .returned (.int .i64 (plN id t.kids 0)) ∧ Below w.heap.size w w' := by
  have B1 : Hid (Below w.heap.size w (w.alloc (cbox c))) := (Below.refl _ _).alloc (Nat.le_refl _) _
  have HC := Lib.hid (cbox_new w c)
  have HR := Lib.hid (hi.up B1.out).row
  have hn := hi.n
  have hfn := hi.len
  obtain ⟨ck, cr, cid, ca, cn, ccap⟩ := c
  simp only at hn
  subst hn
  clear hi
  obtain ⟨s0, s1, s2, s3, s4, s5, s6⟩ := c7_of HC.out
  go_enter Tryz.func36, Tryz.ntmps36
  go_wp2
  go_loopg [9] (t.kids.length + 1) (fun g i wr => ∃ (k : Nat), g + k = t.kids.length + 1 ∧ k ≤ t.kids.length ∧ i = .int .i64 k ∧ (∀ (j : Nat) (x : T), j < k → t.kids[j]? = some x → plB id x = false) ∧ wr = w.alloc (cbox ⟨ck, cr, cid, ca, t.kids.length, ccap⟩))
  case atStart => exact ⟨0, by omega, by omega, rfl, fun j x h => by omega, rfl⟩
  case round =>
    obtain ⟨k, hg, hk, rfl, hno, hw⟩ := hrel
    rw [hw]
    clear hw wr
    have HG := Lib.hid hg
    have HNO := Lib.hid hno
    clear hg hno
    by_cases hlt : k < t.kids.length
    · have hlti : (k : Int) < (t.kids.length : Int) := by omega
      obtain ⟨b, o, rfl, hf⟩ := HR.out.place (by omega)
      obtain ⟨u, hu⟩ : ∃ u, t.kids[k]? = some u := ⟨_, List.getElem?_eq_getElem hlt⟩
      obtain ⟨z, hz, hiz⟩ := hf k u hu
      clear hf
      obtain ⟨c0, c1, c2, c3, c4, c5, c6⟩ := hz
      have HU := Lib.hid hu
      have HPV := Lib.hid (show plB id u = (z.k == 1 && z.id == id) by unfold plB; rw [hiz.split.1, hiz.split.2.2.1])
      clear hiz hu
      have hcase : ((z.k == 1) = true ∧ (z.id == id) = true) ∨ ((z.k == 1) = false ∧ plB id u = false) ∨ ((z.k == 1) = true ∧ (z.id == id) = false ∧ plB id u = false) := by
        cases h1 : (z.k == 1) <;> cases h2 : (z.id == id)
        · exact .inr (.inl ⟨rfl, by rw [HPV.out, h1]; rfl⟩)
        · exact .inr (.inl ⟨rfl, by rw [HPV.out, h1]; rfl⟩)
        · exact .inr (.inr ⟨rfl, rfl, by rw [HPV.out, h1, h2]; rfl⟩)
        · exact .inl ⟨rfl, rfl⟩
      rcases hcase with ⟨t1, t2⟩ | ⟨t1, hp⟩ | ⟨t1, t2, hp⟩
      · have HP := Lib.hid (plN_at (m := 0) HNO.out HU.out (by rw [HPV.out, t1, t2]; rfl))
        go_wp2
        go_ret
        exact ⟨by rw [HP.out]; simp, B1.out⟩
      all_goals
        have HPF := Lib.hid hp
        clear hp
        go_wp2
        go_roundg (gk - 1)
        case measure => have := HG.out; omega
        case rel =>
          refine ⟨k + 1, by have := HG.out; omega, by omega, by go_num, fun j y hj hy => ?_, rfl⟩
          rcases Nat.lt_or_ge j k with h | h
          · exact HNO.out j y h hy
          · obtain rfl : j = k := by omega
            rw [HU.out] at hy; cases hy
            exact HPF.out
    · obtain rfl : k = t.kids.length := by omega
      have hkl : ((t.kids.length : Int) < (t.kids.length : Int)) = False := by simp
      have HP := Lib.hid (plN_none (m := 0) HNO.out)
      go_wp2
      go_ret
      exact ⟨by rw [HP.out]; first | rfl | simp, B1.out⟩
end Go.Proofs.YtbbjnimadnbmnaaGreat
/- A leaf that goes: the document's answer, in words. No walk. -/
namespace Go.Proofs.YtbbjnimadnbmnaaGreat
open Go.RowKit

/-- What Adjust hands back. -/
noncomputable def adjO (ax b : Int) (t : T) : T := if ajE ax b t = 0 then ajT ax b t else noT
/-- The kids behind it, counted from m: the neighbour (at h) is g, the one at j is gone. -/
def gnL (j h : Int) (g : T) : Nat → List T → List T
  | _, [] => []
  | m, t :: l => (if (m : Int) = h then [g] else if (m : Int) = j then [] else [t]) ++ gnL j h g (m + 1) l
def gnK (j h : Int) (g : T) (m : Nat) (t : T) : List T := if (m : Int) = h then [g] else if (m : Int) = j then [] else [t]
theorem gnL_snoc (j h : Int) (g t : T) (l : List T) : ∀ m, gnL j h g m (l ++ [t]) = gnL j h g m l ++ gnK j h g (m + l.length) t := by
  induction l with
  | nil => intro m; simp [gnL, gnK]
  | cons u l ih =>
    intro m
    simp only [List.cons_append, gnL]
    rw [ih, List.length_cons, List.append_assoc, show m + 1 + l.length = m + (l.length + 1) by omega]
theorem gnL_step {j h : Int} {g t : T} {l : List T} {k : Nat} (hk : l[k]? = some t) : gnL j h g 0 (l.take (k + 1)) = gnL j h g 0 (l.take k) ++ gnK j h g k t := by
  have hj := (List.getElem?_eq_some_iff.1 hk).1
  have h1 : l.take (k + 1) = l.take k ++ [t] := by rw [List.take_add_one, hk]; rfl
  rw [h1, gnL_snoc, List.length_take, Nat.min_eq_left (by omega), Nat.zero_add]
theorem gnL_len (j h : Int) (g : T) (l : List T) : ∀ m, (gnL j h g m l).length ≤ l.length := by
  induction l with
  | nil => intro m; simp [gnL]
  | cons t l ih =>
    intro m
    have := ih (m + 1)
    rw [gnL, List.length_append, List.length_cons]
    split
    · simp only [List.length_cons, List.length_nil]; omega
    · split
      · simp only [List.length_nil]; omega
      · simp only [List.length_cons, List.length_nil]; omega
/-- The cell from which its kid at j has gone. -/
noncomputable def outT (k : Int) (r : R) (id : Int) (ks : List T) (j : Int) : T :=
  match gnL j (heirN j) (adjO (k - 1) (szA (ks.getD j.toNat default).r (k - 1) + 1) (setT 0 0 (ks.getD (heirN j).toNat default))) 0 ks with
  | [x] => x
  | l => .node k r id l
mutual
noncomputable def woT (id : Int) : T → T
  | .node k r i ks => if plN id ks 0 < 0 then .node k r i (woL id ks) else outT k r i ks (plN id ks 0)
noncomputable def woL (id : Int) : List T → List T
  | [] => []
  | t :: l => woT id t :: woL id l
end
theorem woT_eq (id : Int) (t : T) : woT id t = if plN id t.kids 0 < 0 then .node t.k t.r t.id (woL id t.kids) else outT t.k t.r t.id t.kids (plN id t.kids 0) := by cases t; rw [woT]; rfl
theorem woL_append (id : Int) (a b : List T) : woL id (a ++ b) = woL id a ++ woL id b := by
  induction a with
  | nil => simp [woL]
  | cons t a ih => simp only [List.cons_append, woL, ih]
theorem woL_step {id : Int} {l : List T} {k : Nat} {t : T} (h : l[k]? = some t) : woL id (l.take (k + 1)) = woL id (l.take k) ++ [woT id t] := by
  have h1 : l.take (k + 1) = l.take k ++ [t] := by rw [List.take_add_one, h]; rfl
  rw [h1, woL_append]; simp [woL]
theorem woL_len (id : Int) (l : List T) : (woL id l).length = l.length := by
  induction l with
  | nil => simp [woL]
  | cons t l ih => simp [woL, ih]
end Go.Proofs.YtbbjnimadnbmnaaGreat
/- The leaf beside one that goes: the document's. -/
namespace Go.Proofs.YtbbjnimadnbmnaaGreat
open Go.RowKit

mutual
theorem leaf_in : ∀ t : T, okT t → ∃ u ∈ preT t, u.k = 1
  | .node k r i l => fun h => by
    cases l with
    | nil => exact ⟨.node k r i [], by rw [preT_eq]; exact List.mem_cons_self .., ok_top h rfl⟩
    | cons t l =>
      obtain ⟨u, hu, hk⟩ := leaf_in t (ok_kid (k := 0) h rfl)
      refine ⟨u, ?_, hk⟩
      rw [preT_eq]
      refine List.mem_cons_of_mem _ ?_
      show u ∈ preL (t :: l)
      rw [preL]
      exact List.mem_append_left _ hu
end
theorem ids_some {t : T} (h : okT t) : 0 < (idsT t).length := by
  obtain ⟨u, hu, hk⟩ := leaf_in t h
  unfold idsT
  rw [List.length_map]
  exact List.length_pos_of_mem (List.mem_filter.2 ⟨hu, by unfold leafB; simpa using hk⟩)
def edI (first : Bool) (l : List Int) : Int := if first = true then l.getD 0 0 else l.getD (l.length - 1) 0
mutual
def bsT (id : Int) : T → Option Int
  | .node _ _ _ ks => if 0 ≤ plN id ks 0 then some (edI (plN id ks 0 == 0) (idsT (ks.getD (heirN (plN id ks 0)).toNat default))) else bsL id ks
def bsL (id : Int) : List T → Option Int
  | [] => none
  | t :: l => match bsT id t with
    | some x => some x
    | none => bsL id l
end
theorem bsT_eq (id : Int) (t : T) : bsT id t = if 0 ≤ plN id t.kids 0 then some (edI (plN id t.kids 0 == 0) (idsT (t.kids.getD (heirN (plN id t.kids 0)).toNat default))) else bsL id t.kids := by cases t; rw [bsT]; rfl
theorem bsL_at {id x : Int} {l : List T} : ∀ {k : Nat} {u : T}, (∀ (j : Nat) (y : T), j < k → l[j]? = some y → bsT id y = none) → l[k]? = some u → bsT id u = some x → bsL id l = some x := by
  induction l with
  | nil => intro k u hno hu; simp at hu
  | cons t l ih =>
    intro k u hno hu hx
    cases k with
    | zero => simp at hu; subst hu; rw [bsL, hx]
    | succ k =>
      rw [bsL, hno 0 t (by omega) rfl]
      exact ih (k := k) (fun j y hj hy => hno (j + 1) y (by omega) (by simpa using hy)) (by simpa using hu) hx
theorem bsL_none {id : Int} {l : List T} (h : ∀ (j : Nat) (y : T), j < l.length → l[j]? = some y → bsT id y = none) : bsL id l = none := by
  induction l with
  | nil => rw [bsL]
  | cons t l ih =>
    rw [bsL, h 0 t (by simp) rfl]
    exact ih fun j y hj hy => h (j + 1) y (by simpa using hj) (by simpa using hy)
theorem plN_in {id : Int} {l : List T} : ∀ {m : Nat}, plN id l m = -1 ∨ ((m : Int) ≤ plN id l m ∧ plN id l m < m + l.length) := by
  induction l with
  | nil => intro m; exact .inl rfl
  | cons t l ih =>
    intro m
    rw [plN]
    split
    · right; simp only [List.length_cons]; omega
    · rcases ih (m := m + 1) with h | h
      · exact .inl h
      · right; simp only [List.length_cons]; omega
def BsSays (r : Option Int) (w : World) (e : Ending) (w' : World) : Prop := e = .returned (.tuple #[.int .i64 (r.getD 0), .bool r.isSome]) ∧ Below w.heap.size w w'
theorem bs_yes {r : Option Int} {x : Int} {w w' : World} (h : r = some x) (hb : Below w.heap.size w w') : BsSays r w (.returned (.tuple #[.int .i64 x, .bool true])) w' := by subst h; exact ⟨rfl, hb⟩
theorem bs_no {r : Option Int} {w w' : World} (h : r = none) (hb : Below w.heap.size w w') : BsSays r w (.returned (.tuple #[.int .i64 0, .bool false])) w' := by subst h; exact ⟨rfl, hb⟩

set_option maxHeartbeats 2000000 in
set_option maxRecDepth 100000 in
theorem rbeside_any (id : Int) (N : Nat) : ∀ (t : T) (c : C) (w : World), sz t ≤ N → sz t ≤ 990 → tileB t = true → Is w c t → Calls Tryz.prog 24 #[cval c, .int .i64 id] w (BsSays (bsT id t) w) := by
  induction N with
  | zero => intro t c w h; have := sz_pos t; omega
  | succ N ih =>
    intro t c w hs hm ht hi
    have B1 : Hid (Below w.heap.size w (w.alloc (cbox c))) := Lib.hid ((Below.refl _ _).alloc (Nat.le_refl _) _)
    have HPL := Lib.hid (rplace_any id t c (w.alloc (cbox c)) (hi.up B1.out))
    have BX : Hid (Box7 (w.alloc (cbox c)) w.heap.size c) := Lib.hid (Box7.new w c)
    have HV := Lib.hid (bsT_eq id t)
    have hpin := plN_in (id := id) (l := t.kids) (m := 0)
    have HR := Lib.hid hi.row
    have hn := hi.n
    have hfn : t.kids.length ≤ 990 := by have := sz_node t; have := szL_len t.kids; omega
    have HTW : Hid (0 < t.kids.length → 2 ≤ t.kids.length) := Lib.hid fun h => by
      refine kids_two (by omega) ht fun hk => ?_
      rw [leaf_none (by omega) ht hk] at h; simp at h
    have HTK : Hid (∀ (j : Nat) (u : T), t.kids[j]? = some u → tileB u = true) := Lib.hid fun j u hj => tile_kid (by have := sz_kid hj; omega) ht hj
    obtain ⟨ck, cr, cid, ca, cn, ccap⟩ := c
    simp only at hn
    subst hn
    have HS := Lib.hid hs
    have HM := Lib.hid hm
    have HIH := Lib.hid ih
    clear hi hs hm ht ih
    generalize plN id t.kids 0 = p at HPL HV hpin
    go_enter Tryz.func24, Tryz.ntmps24
    go_wp2_with fail
    refine HPL.out.mono ?_
    rintro e w2 ⟨rfl, hb2⟩
    have B2 := Lib.hid (B1.out.trans (hb2.mono B1.out.size))
    have BX2 := Lib.hid (BX.out.up hb2)
    clear hb2 HPL
    have hpin2 : p = -1 ∨ (0 ≤ p ∧ p < (t.kids.length : Int)) := by omega
    clear hpin
    rcases hpin2 with hp | ⟨hp0, hp1⟩
    · subst hp
      have HV2 : Hid (bsT id t = bsL id t.kids) := Lib.hid (by rw [HV.out, if_neg (by decide)])
      obtain ⟨s0, s1, s2, s3, s4, s5, s6⟩ := c7_of BX2.out.cat
      clear HV
      go_wp2
      go_loopg [37] (t.kids.length + 1) (fun g i wr => ∃ (k : Nat), g + k = t.kids.length + 1 ∧ k ≤ t.kids.length ∧ i = .int .i64 k ∧ (∀ (j : Nat) (y : T), j < k → t.kids[j]? = some y → bsT id y = none) ∧ Below w2.heap.size w2 wr)
      case atStart => exact ⟨0, by omega, by omega, rfl, fun j y h => by omega, Below.refl _ _⟩
      case round =>
        clear s0 s1 s2 s3 s4 s5 s6
        obtain ⟨k, hg, hk, rfl, hno, hb⟩ := hrel
        have HG := Lib.hid hg
        have HNO := Lib.hid hno
        have HB := Lib.hid hb
        clear hg hno hb
        have HBW := Lib.hid (B2.out.trans (HB.out.mono B2.out.size))
        by_cases hlt : k < t.kids.length
        · have hlti : (k : Int) < (t.kids.length : Int) := by omega
          obtain ⟨b, o, rfl, hf⟩ := HR.out.place (by omega)
          obtain ⟨u, hu⟩ : ∃ u, t.kids[k]? = some u := ⟨_, List.getElem?_eq_getElem hlt⟩
          obtain ⟨z, hz, hiz⟩ := hf k u hu
          clear hf
          obtain ⟨c0, c1, c2, c3, c4, c5, c6⟩ := hz.up HBW.out
          obtain ⟨s0, s1, s2, s3, s4, s5, s6⟩ := c7_of (BX2.out.up HB.out).cat
          have HK := Lib.hid (HIH.out u z wr (by have := HS.out; have := sz_kid hu; omega) (by have := HM.out; have := sz_kid hu; omega) (HTK.out k u hu) (hiz.up HBW.out))
          have HU := Lib.hid hu
          clear hiz hz hu
          cases hbu : bsT id u with
          | some x =>
            rw [hbu] at HK
            have HP := Lib.hid (HV2.out.trans (bsL_at HNO.out HU.out hbu))
            clear hbu
            go_wp2_with fail
            refine HK.out.mono ?_
            rintro e w4 ⟨rfl, hb4⟩
            have B4 := Lib.hid (HBW.out.trans (hb4.mono HBW.out.size))
            clear hb4
            have hss : (some x : Option Int).isSome = true := rfl
            have hsg : (some x : Option Int).getD 0 = x := rfl
            go_wp2
            go_ret2
            exact bs_yes HP.out B4.out
          | none =>
            rw [hbu] at HK
            have HBU := Lib.hid hbu
            clear hbu
            go_wp2_with fail
            refine HK.out.mono ?_
            rintro e w4 ⟨rfl, hb4⟩
            have B4 := Lib.hid (HB.out.trans (hb4.mono HB.out.size))
            clear hb4
            have hss : (none : Option Int).isSome = false := rfl
            go_wp2
            go_roundg (gk - 1)
            case measure => have := HG.out; omega
            case rel =>
              refine ⟨k + 1, by have := HG.out; omega, by omega, by go_num, fun j y hj hy => ?_, B4.out⟩
              rcases Nat.lt_or_ge j k with h | h
              · exact HNO.out j y h hy
              · obtain rfl : j = k := by omega
                rw [HU.out] at hy; cases hy
                exact HBU.out
        · obtain rfl : k = t.kids.length := by omega
          have hkl : ((t.kids.length : Int) < (t.kids.length : Int)) = False := by simp
          have HP := Lib.hid (HV2.out.trans (bsL_none HNO.out))
          go_wp2
          go_ret2
          exact bs_no HP.out HBW.out
    · have h2 := HTW.out (by omega)
      have hh0 : 0 ≤ heirN p ∧ heirN p < (t.kids.length : Int) := by unfold heirN; split <;> omega
      obtain ⟨h, hh⟩ : ∃ h : Nat, heirN p = (h : Int) := ⟨(heirN p).toNat, by omega⟩
      have hlt : h < t.kids.length := by omega
      obtain ⟨b, o, rfl, hf⟩ := HR.out.place (by omega)
      obtain ⟨u, hu⟩ : ∃ u, t.kids[h]? = some u := ⟨_, List.getElem?_eq_getElem hlt⟩
      obtain ⟨z, hz, hiz⟩ := hf h u hu
      clear hf
      have HHE := Lib.hid (fun W => rheir_any p W ⟨hp0, by omega⟩)
      rw [hh] at HHE
      have hgd : t.kids.getD (heirN p).toNat default = u := by rw [hh, Int.toNat_natCast, List.getD_eq_getElem?_getD, hu]; rfl
      have HV2 : Hid (bsT id t = some (edI (p == 0) (idsT u))) := Lib.hid (by rw [HV.out, if_pos hp0, hgd])
      have hub := HTK.out h u hu
      have hlen := Lib.hid (ids_some (ok_may (tile_may hub)))
      have hszu := sz_kid hu
      have B2d : Hid (Below w.heap.size w w2.drew) := Lib.hid B2.out.drew
      have X0 : Hid (w2.drew.cell? ⟨w.heap.size, 6, none⟩ = some (.slice (some ⟨b, o, none⟩) t.kids.length ccap) ∧ CellsT w2.drew b (o + h * 7) z) := Lib.hid ⟨(c7_of (BX2.out.up (Below.refl w2.heap.size w2).drew).cat).2.2.2.2.2.2, hz.up B2d.out⟩
      have HID := Lib.hid (rids_any u z w2.drew (by have := HM.out; omega) (hiz.up B2d.out))
      have d0 : decide (0 ≤ p) = true := decide_eq_true hp0
      have hml : (idsT u).length ≤ 990 := by
        unfold idsT
        rw [List.length_map]
        have h1 := List.length_filter_le leafB (preT u)
        rw [preT_len] at h1
        have := HM.out
        omega
      generalize idsT u = ls at HV2 hlen HID hml
      clear hu hz hiz hgd hub hh0 hh HV hszu
      go_wp2_with fail
      go_region_held3 (fun W => W.cell? ⟨w.heap.size, 6, none⟩ = some (.slice (some ⟨b, o, none⟩) t.kids.length ccap) ∧ W.cell? ⟨b, o + h * 7, none⟩ = some (.int .u8 z.k) ∧ W.cell? ⟨b, o + h * 7 + 1, none⟩ = some (.int .i64 z.r.x) ∧ W.cell? ⟨b, o + h * 7 + 2, none⟩ = some (.int .i64 z.r.y) ∧ W.cell? ⟨b, o + h * 7 + 3, none⟩ = some (.int .i64 z.r.w) ∧ W.cell? ⟨b, o + h * 7 + 4, none⟩ = some (.int .i64 z.r.h) ∧ W.cell? ⟨b, o + h * 7 + 5, none⟩ = some (.int .i64 z.id) ∧ W.cell? ⟨b, o + h * 7 + 6, none⟩ = some (.slice z.a z.n z.cap)) (first | exact X0.out | exact X1.out)
        (first
          | (go_at_call 38; (with_reducible refine (HHE.out _).mono ?_); rintro e w4 ⟨rfl, hw4⟩; rw [hw4]; clear hw4 w4)
          | (go_at_call 46; (with_reducible refine HID.out.mono ?_); rintro e w5 ⟨v5, rfl, hown5, hb5⟩; have O5 := Lib.hid hown5; have X1 := Lib.hid (adjx_up X0.out hb5); have B5 := Lib.hid (B2d.out.trans (hb5.mono B2d.out.size)); clear hown5 hb5))
      rename_i hhl
      clear hhl
      obtain ⟨a5, cap5, he5, h05, hc5⟩ := O5.out.row
      rw [ints_length] at he5
      subst he5
      obtain ⟨b5, o5, rfl, hcell5⟩ := row_at h05 hc5 (by rw [ints_length]; exact hlen.out)
      have HCC : Hid (∀ j, j < ls.length → w5.cell? ⟨b5, o5 + j, none⟩ = some (.int .i64 (ls.getD j 0))) := Lib.hid fun j hj => hcell5 j _ (by unfold ints; rw [List.getElem?_map, List.getElem?_eq_getElem hj, List.getD_eq_getElem?_getD, List.getElem?_eq_getElem hj]; rfl)
      clear h05 hc5 hcell5
      by_cases hp2 : p = 0
      · subst hp2
        have r0 := HCC.out 0 hlen.out
        rw [Nat.add_zero] at r0
        have hpos := hlen.out
        have HP : Hid (bsT id t = some (ls.getD 0 0)) := Lib.hid (by rw [HV2.out]; rfl)
        generalize ls.getD 0 0 = firstv at r0 HP
        go_wp2
        go_ret2
        exact bs_yes HP.out B5.out
      · have dp : (p == 0) = false := by simpa using hp2
        have r0 := HCC.out (ls.length - 1) (by have := hlen.out; omega)
        have HP : Hid (bsT id t = some (ls.getD (ls.length - 1) 0)) := Lib.hid (by rw [HV2.out, dp]; rfl)
        have hpos := hlen.out
        obtain ⟨n, hn1⟩ : ∃ n, ls.length = n + 1 := ⟨ls.length - 1, by omega⟩
        rw [hn1, Nat.add_sub_cancel] at r0 HP
        rw [hn1]
        have hwr : IntKind.i64.wrap ((n : Int) + 1 - 1) = (n : Int) := by rw [wrap_id (by omega)]; omega
        have hwr2 : IntKind.i64.wrap (((n + 1 : Nat) : Int) - 1) = (n : Int) := by rw [wrap_id (by omega)]; omega
        have hlt1 : n < n + 1 := by omega
        have hw64 : wrap64 (n : Int) = (n : Int) := by rw [← wrapE]; exact wrap_id (by omega)
        generalize ls.getD n 0 = lastv at r0 HP
        clear hp2 hn1 hpos
        go_wp2
        go_ret2
        exact bs_yes HP.out B5.out
end Go.Proofs.YtbbjnimadnbmnaaGreat
