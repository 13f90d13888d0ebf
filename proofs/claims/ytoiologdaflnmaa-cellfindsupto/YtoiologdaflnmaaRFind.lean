/- The path to the first leaf with a number: the document's answer. -/
import Derived.Test.YtoiologdaflnmaaRIds
namespace Go.Proofs.Ytoiologdaflnmaa
open Go.RowKit

theorem OwnI.one (w : World) (base : Nat) (hb : base ≤ w.heap.size) (m : Int) : OwnI (w.alloc (.cells #[.int .i64 m] 3)) base (.slice (some ⟨w.heap.size, 0, none⟩) 1 1) [m] :=
  ⟨by simp [ints], .inr ⟨w.heap.size, 1, _, rfl, hb, heap_alloc_new w _, by simp, by unfold maxLen; omega, rfl, rfl⟩⟩

def RFindSays (r : Option (List Int)) (w : World) (e : Ending) (w' : World) : Prop := ∃ v, e = .returned (.tuple #[v, .bool r.isSome]) ∧ Row w' v (ints (r.getD [])) ∧ Below w.heap.size w w'
theorem rfind_none {r : Option (List Int)} {w w' : World} {e : Ending} {v : Value} (h : r = none) (he : e = .returned (.tuple #[v, .bool false])) (hr : Row w' v []) (hb : Below w.heap.size w w') : RFindSays r w e w' := by
  subst h; exact ⟨v, he, hr, hb⟩
theorem rfind_some {r : Option (List Int)} {p : List Int} {w w' : World} {e : Ending} {v : Value} (h : r = some p) (he : e = .returned (.tuple #[v, .bool true])) (hr : Row w' v (ints p)) (hb : Below w.heap.size w w') : RFindSays r w e w' := by
  subst h; exact ⟨v, he, hr, hb⟩

set_option maxRecDepth 100000 in
theorem rfind_any (id : Int) (N : Nat) : ∀ (t : T) (c : C) (w : World), sz t ≤ N → sz t ≤ 1000000 → Is w c t → Calls Try.prog 21 #[cval c, .int .i64 id] w (RFindSays (findT id t) w) := by
  induction N with
  | zero => intro t c w h; have := sz_pos t; omega
  | succ N ih =>
    intro t c w hs hm hi
    have HR := Lib.hid hi.row
    have hn := hi.n
    have hfn := hi.fine.2.2.2
    have htk := hi.split.1
    have hti := hi.split.2.2.1
    obtain ⟨ck, cr, cid, ca, cn, ccap⟩ := c
    simp only at hn hfn htk hti
    subst hn
    clear hi
    have HS := Lib.hid hs
    have HM := Lib.hid hm
    have HIH := Lib.hid ih
    clear hs hm ih
    by_cases hk : ck = 1 ∧ cid = id
    · obtain ⟨rfl, rfl⟩ := hk
      have hv := Lib.hid (show findT cid t = some [] by rw [findT_eq, if_pos ⟨htk, hti⟩])
      clear htk hti
      go_enter Try.func21, Try.ntmps21
      go_wp2
      go_ret2
      refine rfind_some (v := .slice (some ⟨w.heap.size + 1, 0, none⟩) 0 0) hv.out rfl ?_ (((Below.refl _ _).alloc (Nat.le_refl _) _).alloc (by simp) _)
      exact ⟨some ⟨w.heap.size + 1, 0, none⟩, 0, rfl, (fun h => by cases h), fun x hx j u hu => by simp [ints] at hu⟩
    · have hv : Hid (findT id t = findL id 0 t.kids) := Lib.hid (by rw [findT_eq, if_neg (by rw [htk, hti]; exact hk)])
      have hcase : ((ck == 1) = false) ∨ ((ck == 1) = true ∧ (cid == id) = false) := by
        by_cases h1 : ck = 1
        · refine .inr ⟨by simpa using h1, ?_⟩
          rw [beq_eq_false_iff_ne]; exact fun h2 => hk ⟨h1, h2⟩
        · refine .inl ?_
          rw [beq_eq_false_iff_ne]; exact h1
      clear hk htk hti
      rcases hcase with e1 | ⟨e1, e2⟩
      all_goals
        go_enter Try.func21, Try.ntmps21
        go_wp2
        go_loopg [22] (t.kids.length + 1) (fun g i wr => ∃ k : Nat, g + k = t.kids.length + 1 ∧ k ≤ t.kids.length ∧ i = .int .i64 k ∧ (∀ (j : Nat) (u : T), j < k → t.kids[j]? = some u → findT id u = none) ∧ Below (w.alloc (cbox ⟨ck, cr, cid, ca, t.kids.length, ccap⟩)).heap.size (w.alloc (cbox ⟨ck, cr, cid, ca, t.kids.length, ccap⟩)) wr)
        case atStart => exact ⟨0, by omega, by omega, rfl, fun j u hj => by omega, Below.refl _ _⟩
        case round =>
          obtain ⟨k, hg, hk, rfl, hno, hb⟩ := hrel
          have HG := Lib.hid hg
          have HNO := Lib.hid hno
          have HBX := Lib.hid hb
          have HB := Lib.hid (below_one hb)
          clear hg hno hb
          by_cases hlt : k < t.kids.length
          · have hlti : (k : Int) < (t.kids.length : Int) := by omega
            obtain ⟨b, o, rfl, hf⟩ := HR.out.place (by omega)
            obtain ⟨u, hu⟩ : ∃ u, t.kids[k]? = some u := ⟨_, List.getElem?_eq_getElem hlt⟩
            obtain ⟨x, hx, hix⟩ := hf k u hu
            clear hf
            obtain ⟨c0, c1, c2, c3, c4, c5, c6⟩ := hx.up HB.out
            have q6 := (box_at HBX.out).2.2.2.2.2.2
            have HK := Lib.hid (HIH.out u x wr (by have := HS.out; have := sz_kid hu; omega) (by have := HM.out; have := sz_kid hu; omega) (hix.up HB.out))
            have HU := Lib.hid hu
            clear hix hu hx
            cases hfu : findT id u with
            | none =>
              rw [hfu] at HK
              have HFU := Lib.hid hfu
              clear hfu
              go_wp2_with fail
              refine HK.out.mono ?_
              rintro e w2 ⟨v2, rfl, -, hb2⟩
              have HB2 := Lib.hid hb2
              clear hb2
              go_wp2
              go_roundg (gk - 1)
              case measure => have := HG.out; omega
              case rel =>
                refine ⟨k + 1, by have := HG.out; omega, by omega, by go_num, fun j y hj hy => ?_, HBX.out.trans (HB2.out.mono HBX.out.size)⟩
                rcases Nat.lt_or_ge j k with h | h
                · exact HNO.out j y h hy
                · obtain rfl : j = k := by omega
                  rw [HU.out] at hy
                  cases hy
                  exact HFU.out
            | some p =>
              rw [hfu] at HK
              have hres := Lib.hid (hv.out.trans (findL_some (j := 0) HNO.out HU.out hfu))
              have hpl : Hid (p.length < 1000000) := by have := findT_len id p u hfu; have := HM.out; have := sz_kid HU.out; show p.length < 1000000; omega
              rw [Nat.zero_add] at hres
              clear hfu
              go_wp2_with fail
              refine HK.out.mono ?_
              rintro e w2 ⟨v2, rfl, hr2, hb2⟩
              have HR2 := Lib.hid (show Row w2 v2 (ints p) from hr2)
              have HB2 := Lib.hid (HB.out.trans (hb2.mono HB.out.size))
              obtain ⟨a2, cap2, rfl⟩ := row_shape HR2.out
              clear hr2 hb2 c0 c1 c2 c3 c4 c5 c6 q6
              have HLN : Hid ((ints [(k : Int)]).length + (ints p).length ≤ 1000000) := Lib.hid (by rw [ints_length, ints_length]; have := hpl.out; simp; omega)
              have HO := Lib.hid (OwnI.one w2 w2.heap.size (Nat.le_refl _) (k : Int))
              go_wp2_with (at_builtin; refine wpList_append_row2 rfl _ _ 31 rfl w2.heap.size 3 (.int .i64 0) 8 Try.underlying31 infoI rfl (.slice (some ⟨w2.heap.size, 0, none⟩) 1 1) _ (ints [(k : Int)]) (ints p) rfl HO.out rfl (HR2.out.up ((Below.refl _ _).alloc (Nat.le_refl _) _)) (ints_one _) HLN.out (by decide) w2 ((Below.refl _ _).alloc (Nat.le_refl _) _) (Nat.le_refl _) ?_; intro v4 w4 hown4 hb4 hgr4)
              have HR4 := Lib.hid (Row.of_owns hown4)
              have HB4 := Lib.hid (HB2.out.trans (hb4.mono HB2.out.size))
              clear hown4 hb4 hgr4
              go_wp2
              go_ret2
              exact rfind_some hres.out rfl HR4.out HB4.out
          · obtain rfl : k = t.kids.length := by omega
            have hkl : ((t.kids.length : Int) < (t.kids.length : Int)) = False := by simp
            have hres := Lib.hid (hv.out.trans (findL_none 0 (fun k u hu => HNO.out k u (by
              rcases Nat.lt_or_ge k t.kids.length with h | h
              · exact h
              · rw [List.getElem?_eq_none h] at hu; cases hu) hu)))
            go_wp2
            go_ret2
            refine rfind_none (v := .slice (some ⟨wr.heap.size, 0, none⟩) 0 0) hres.out rfl ?_ (HB.out.alloc HB.out.size _)
            exact ⟨some ⟨wr.heap.size, 0, none⟩, 0, rfl, (fun h => by cases h), fun x hx j u hu => by simp at hu⟩
end Go.Proofs.Ytoiologdaflnmaa
