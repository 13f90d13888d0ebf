/- Do all these trees tile? -/
import Derived.Test.YtajhojbnpajelaaCheck
namespace Go.Proofs.Ytajhojbnpajelaa
open Go.RowKit

noncomputable def tileB (t : T) : Bool := mayT t && (preT t).all fitB
theorem neq_some (u : TypeId) (x : Value) (w : World) : (binOp .neq 50 (.iface u x) .nilIface).run Try.prog w = .ok (.bool true) w := by kernel_rfl
theorem neq_none (w : World) : (binOp .neq 50 .nilIface .nilIface).run Try.prog w = .ok (.bool false) w := by kernel_rfl
theorem enters36 : Enters 39 := enters_of Try.func39 (by kernel_rfl) rfl

theorem check_nil {t : T} {w : World} {e : Ending} {w' : World} (h : CheckSays t w e w') : Below w.heap.size w w' ∧ ((tileB t = true ∧ e = .returned .nilIface) ∨ (tileB t = false ∧ ∃ u x, e = .returned (.iface u x))) := by
  obtain ⟨v, rfl, hb, ⟨h1, b, rfl, -⟩ | ⟨h1, h2, rfl⟩ | ⟨h1, h2, b, rfl, -⟩⟩ := h
  · exact ⟨hb, .inr ⟨by unfold tileB; rw [h1]; rfl, _, _, rfl⟩⟩
  · exact ⟨hb, .inl ⟨by unfold tileB; rw [h1, h2]; rfl, rfl⟩⟩
  · exact ⟨hb, .inr ⟨by unfold tileB; rw [h1, h2]; rfl, _, _, rfl⟩⟩

set_option maxRecDepth 100000 in
theorem tiles1_any (t : T) (c : C) (w : World) (hi : Is w c t) (hs : mayT t = true → sz t ≤ 999) : Calls Try.prog 39 #[cval c] w fun e w' => e = .returned (.bool (!tileB t)) ∧ Below w.heap.size w w' := by
  have HA : Hid (Below w.heap.size w (w.alloc (cbox c))) := (Below.refl _ _).alloc (Nat.le_refl _) _
  have HCK := Lib.hid ((check_any t c (w.alloc (cbox c)) (hi.up HA.out) hs).mono fun e w' h => check_nil h)
  have nS := neq_some
  have nN := neq_none
  clear hi
  generalize tileB t = b at HCK ⊢
  go_enter Try.func39, Try.ntmps39
  go_wp2_with fail
  refine HCK.out.mono ?_
  rintro e w2 ⟨hb2, ⟨rfl, rfl⟩ | ⟨rfl, u, x, rfl⟩⟩
  · have HB2 := Lib.hid (HA.out.trans (hb2.mono HA.out.size))
    clear hb2
    go_wp2
    go_ret
    exact ⟨rfl, HB2.out⟩
  · have HB2 := Lib.hid (HA.out.trans (hb2.mono HA.out.size))
    clear hb2
    go_wp2
    go_ret
    exact ⟨rfl, HB2.out⟩

def IdxSays (l : List T) (w : World) (e : Ending) (w' : World) : Prop := ∃ n : Int, e = .returned (.int .i64 n) ∧ (l.all tileB = true → n = -1) ∧ (l.all tileB = false → 0 ≤ n) ∧ Below w.heap.size w w'
theorem all_no {l : List T} {k : Nat} {t : T} (h : l[k]? = some t) (ht : tileB t = false) : l.all tileB = false := by
  cases e : l.all tileB with
  | false => rfl
  | true => rw [List.all_eq_true.1 e t (List.mem_of_getElem? h)] at ht; cases ht
theorem all_yes {l : List T} (h : ∀ (k : Nat) (t : T), l[k]? = some t → tileB t = true) : l.all tileB = true := by
  rw [List.all_eq_true]
  intro t ht
  obtain ⟨k, hk⟩ := List.getElem?_of_mem ht
  exact h k t hk

set_option maxRecDepth 100000 in
set_option maxHeartbeats 800000 in
theorem idxT_any (l : List T) (v : Value) (w : World) (hr : TRow w v l) (hl : l.length ≤ 1954687338211) (hs : ∀ t ∈ l, mayT t = true → sz t ≤ 999) :
    Calls Try.prog 46 #[v, .func (.func 39) #[] #[]] w (IdxSays l w) := by
  have hent : ∀ (args : Array Value) (w : World), (callFunc 39 args).run Try.prog w = .ok (.enter 39 args) w := enters36
  obtain ⟨a, cap, rfl⟩ := hr.shape
  have HR := Lib.hid hr
  have HS := Lib.hid hs
  clear hr hs
  go_enter Try.func46, Try.ntmps46
  go_wp2
  go_loopg [8] (l.length + 1) (fun g i wr => ∃ k : Nat, g + k = l.length + 1 ∧ k ≤ l.length ∧ i = .int .i64 k ∧ (∀ (j : Nat) (t : T), j < k → l[j]? = some t → tileB t = true) ∧ Below w.heap.size w wr)
  case atStart => exact ⟨0, by omega, by omega, rfl, fun j t hj => by omega, Below.refl _ _⟩
  case round =>
    obtain ⟨k, hg, hk, rfl, hsame, hb⟩ := hrel
    have HG := Lib.hid hg
    have HSM := Lib.hid hsame
    have HB := Lib.hid hb
    clear hg hsame hb
    by_cases hlt : k < l.length
    · obtain ⟨t, ht⟩ : ∃ t, l[k]? = some t := ⟨_, List.getElem?_eq_getElem hlt⟩
      obtain ⟨b1, o1, rfl, hf1⟩ := HR.out.place (by omega)
      obtain ⟨x, hx, hix⟩ := hf1 k t ht
      clear hf1
      obtain ⟨c0, c1, c2, c3, c4, c5, c6⟩ := hx.up HB.out
      have HC := Lib.hid (tiles1_any t x wr (hix.up HB.out) (HS.out t (List.mem_of_getElem? ht)))
      have HT := Lib.hid ht
      clear ht hx hix
      cases hst : tileB t with
      | true =>
        rw [hst] at HC
        have HST := Lib.hid hst
        clear hst
        go_wp2_with fail
        refine HC.out.mono ?_
        rintro e w2 ⟨rfl, hb2⟩
        have HB2 := Lib.hid (HB.out.trans (hb2.mono HB.out.size))
        clear hb2
        go_wp2
        go_roundg (gk - 1)
        case measure => have := HG.out; omega
        case rel =>
          refine ⟨k + 1, by have := HG.out; omega, by omega, by go_num, fun j a hj ha => ?_, HB2.out⟩
          rcases Nat.lt_or_ge j k with h | h
          · exact HSM.out j a h ha
          · obtain rfl : j = k := by omega
            rw [HT.out] at ha
            cases ha
            exact HST.out
      | false =>
        rw [hst] at HC
        have HST := Lib.hid (all_no HT.out hst)
        clear hst
        go_wp2_with fail
        refine HC.out.mono ?_
        rintro e w2 ⟨rfl, hb2⟩
        have HB2 := Lib.hid (HB.out.trans (hb2.mono HB.out.size))
        clear hb2
        go_wp2
        go_ret
        exact ⟨k, rfl, (fun h => by rw [HST.out] at h; cases h), fun _ => by omega, HB2.out⟩
    · obtain rfl : k = l.length := by omega
      have hkl : ((l.length : Int) < (l.length : Int)) = False := by simp
      have HST := Lib.hid (all_yes (fun k t ht => HSM.out k t (by
        rcases Nat.lt_or_ge k l.length with h | h
        · exact h
        · rw [List.getElem?_eq_none h] at ht; cases ht) ht))
      go_wp2
      go_ret
      exact ⟨-1, rfl, fun _ => rfl, (fun h => by rw [HST.out] at h; cases h), HB.out⟩

set_option maxRecDepth 100000 in
theorem hasT_any (l : List T) (v : Value) (w : World) (hr : TRow w v l) (hl : l.length ≤ 1954687338211) (hs : ∀ t ∈ l, mayT t = true → sz t ≤ 999) :
    Calls Try.prog 38 #[v, .func (.func 39) #[] #[]] w fun e w' => e = .returned (.bool (!(l.all tileB))) ∧ Below w.heap.size w w' := by
  have H2 : Hid (Calls Try.prog 46 #[v, .func (.func 39) #[] #[]] w fun e w' => ∃ n : Int, e = .returned (.int .i64 n) ∧ decide (0 ≤ n) = (!(l.all tileB)) ∧ Below w.heap.size w w') := Lib.hid ((idxT_any l v w hr hl hs).mono fun e w' ⟨n, h1, h2, h3, h4⟩ => ⟨n, h1, by
    cases hb : l.all tileB with
    | true => rw [h2 hb]; rfl
    | false => exact decide_eq_true (h3 hb), h4⟩)
  obtain ⟨a, cap, rfl⟩ := hr.shape
  clear hr hs
  generalize (!(l.all tileB)) = b at H2 ⊢
  go_enter Try.func38, Try.ntmps38
  go_wp2_with fail
  refine H2.out.mono ?_
  rintro e w2 ⟨n, rfl, hd, hb2⟩
  have HB2 := Lib.hid hb2
  clear hb2
  subst hd
  go_wp2
  go_ret
  exact ⟨rfl, HB2.out⟩

set_option maxRecDepth 100000 in
theorem tiles_any (l : List T) (v : Value) (w : World) (hr : TRow w v l) (hl : l.length ≤ 1954687338211) (hs : ∀ t ∈ l, mayT t = true → sz t ≤ 999) :
    Calls Try.prog 28 #[v] w fun e w' => e = .returned (.bool (l.all tileB)) ∧ Below w.heap.size w w' := by
  have H := Lib.hid (hasT_any l v w hr hl hs)
  obtain ⟨a, cap, rfl⟩ := hr.shape
  clear hr hs
  generalize l.all tileB = b at H ⊢
  go_enter Try.func28, Try.ntmps28
  go_wp2_with fail
  refine H.out.mono ?_
  rintro e w2 ⟨rfl, hb2⟩
  have HB2 := Lib.hid hb2
  clear hb2
  go_wp2
  go_ret
  exact ⟨by simp, HB2.out⟩
/-- Of one. -/
theorem tilesOne_any (t : T) (c : C) (w : World) (hi : Is w c t) (hs : mayT t = true → sz t ≤ 999) (n : Nat) (hn : n = w.heap.size) :
    Calls Try.prog 28 #[.slice (some ⟨n, 0, none⟩) 1 1] (w.alloc (cbox c)) fun e w' => e = .returned (.bool (tileB t)) ∧ Below w.heap.size w w' := by
  subst hn
  refine (tiles_any [t] _ _ (trow1 hi) (by simp) (fun u hu => by simp at hu; subst hu; exact hs)).mono ?_
  rintro e w' ⟨rfl, hb⟩
  exact ⟨by simp, below_one hb⟩
end Go.Proofs.Ytajhojbnpajelaa
