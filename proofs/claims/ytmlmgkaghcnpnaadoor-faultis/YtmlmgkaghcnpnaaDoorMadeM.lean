/- What the laws make, apart from rows of errors: so that such a row may be written. -/
import Derived.Test.YtmlmgkaghcnpnaaDoorTops
namespace Go.Proofs.YtmlmgkaghcnpnaaDoor
open Go.RowKit

/-- The world without what lies in rows of this type. -/
def maskT (w : World) (e : TypeId) : World := { w with heap := w.heap.map (fun o => match o with | .cells c t f => if t = e then .cells #[] t f else .cells c t f | o => o) }
theorem mask_iff {w : World} {e : TypeId} {a : Addr} {v : Value} : (maskT w e).cell? a = some v ↔ w.cell? a = some v ∧ ∀ c t f, w.heap[a.block]? = some (.cells c t f) → t ≠ e := by
  unfold World.cell? maskT
  simp only [Array.getElem?_map]
  cases h : w.heap[a.block]? with
  | none => simp
  | some o =>
    cases o with
    | cells c t f =>
      by_cases ht : t = e
      · subst ht
        simp
      · simp [ht]
    | _ => simp

/-- All that is there is there. -/
def Sub (w w' : World) : Prop := ∀ a v, w.cell? a = some v → w'.cell? a = some v
theorem sub_mask (w : World) (e : TypeId) : Sub (maskT w e) w := fun _ _ h => (mask_iff.1 h).1
theorem mask_up {w w' : World} (e : TypeId) (hb : Below w.heap.size w w') : Sub (maskT w e) (maskT w' e) := fun a v h => by
  obtain ⟨h1, h2⟩ := mask_iff.1 h
  have hlt := lt_of_cell h1
  refine mask_iff.2 ⟨(hb.cell hlt).trans h1, fun c t f hc => h2 c t f ?_⟩
  rw [← hb.block _ hlt]; exact hc
theorem mask_grown {w w' : World} {base : Nat} {e : TypeId} {l : Value} {n : Nat} {xs : List Value} (hown : w.ownsRow base e 1 l n xs) (hg : w.grownBy w' l.ownBlock) : Sub (maskT w e) (maskT w' e) := fun a v h => by
  obtain ⟨h1, h2⟩ := mask_iff.1 h
  have hlt := lt_of_cell h1
  have hne : some a.block ≠ l.ownBlock := by
    rcases hown.2 with ⟨rfl, -⟩ | ⟨g, cap, cur, rfl, -, hgg, -⟩
    · simp [Value.ownBlock]
    · simp only [Value.ownBlock, ne_eq, Option.some.injEq]
      intro he
      rw [← he] at hgg
      exact h2 _ _ _ hgg rfl
  have hbl := hg.block _ hlt hne
  refine mask_iff.2 ⟨(World.cell?_of_block hbl).trans h1, fun c t f hc => h2 c t f ?_⟩
  rw [← hbl]; exact hc

theorem Row.sub {w w' : World} {v : Value} {xs : List Value} (h : Row w v xs) (hs : Sub w w') : Row w' v xs := by
  obtain ⟨a, cap, rfl, h0, hc⟩ := h
  exact ⟨a, cap, rfl, h0, fun x hx j u hu => hs _ _ (hc x hx j u hu)⟩
theorem Chain.sub {w w' : World} (hs : Sub w w') : ∀ {cs : List (List Value)} {v bot : Value}, Chain w v cs bot → Chain w' v cs bot
  | [], _, _, h => h
  | _ :: _, _, _, ⟨b, sl, t, x, h1, h2, h3, h4, h5, h6⟩ => ⟨b, sl, t, x, h1, hs _ _ h2, h3.sub hs, h4, hs _ _ h5, Chain.sub hs h6⟩
theorem ErrOf.sub {w w' : World} {v bot : Value} {ws : List Value} (h : ErrOf w v ws bot) (hs : Sub w w') : ErrOf w' v ws bot := by
  obtain ⟨cs, h1, h2⟩ := h
  exact ⟨cs, h1.sub hs, h2⟩
theorem IsFault.sub {w w' : World} {v : Value} {n k : Int} (h : IsFault w v n k) (hs : Sub w w') : IsFault w' v n k := by
  obtain ⟨b, h1, h2, h3⟩ := h
  exact ⟨b, h1, hs _ _ h2, hs _ _ h3⟩
theorem MadeOf.sub {w w' : World} {v : Value} {f : FD} (h : MadeOf w v f) (hs : Sub w w') : MadeOf w' v f := by
  rcases h with h | ⟨h1, bot, h2, h3⟩
  · exact .inl h
  · exact .inr ⟨h1, bot, h2.sub hs, h3.sub hs⟩

theorem mask_row {w : World} {base : Nat} {e e' : TypeId} {v : Value} {n : Nat} {xs : List Value} (h : w.ownsRow base e 1 v n xs) (hne : e ≠ e') : Row (maskT w e') v xs := by
  have hl : xs.length = n := by simpa using h.1
  rcases h.2 with ⟨rfl, rfl⟩ | ⟨g, cap, cur, rfl, hb, hg, hn, hm, hs, ht⟩
  · obtain rfl : xs = [] := List.length_eq_zero_iff.1 hl
    exact ⟨none, 0, rfl, fun _ => ⟨rfl, rfl⟩, fun x hx => by cases hx⟩
  · refine ⟨some ⟨g, 0, none⟩, cap, by rw [hl], fun h => (by cases h), fun x hx j u hu => ?_⟩
    cases hx
    have h1 := h.cells (g := g) rfl j u hu
    refine mask_iff.2 ⟨h1, fun c t f hc => ?_⟩
    have hbl : ((⟨g, 0, none⟩ : Addr).add j).block = g := by unfold Addr.add; split <;> rfl
    rw [hbl, hg] at hc
    cases hc
    exact hne
theorem mask_new (w : World) (cs : Array Value) (ty e : TypeId) (j : Nat) (v : Value) (hne : ty ≠ e) (hj : cs[j]? = some v) : (maskT (w.alloc (.cells cs ty)) e).cell? ⟨w.heap.size, j, none⟩ = some v := by
  have hh := heap_alloc_new w (.cells cs ty)
  refine mask_iff.2 ⟨?_, fun c t f hc => ?_⟩
  · rw [cell_of_row _ _ _ _ _ (0, 0) hh]; exact hj
  · rw [hh] at hc; cases hc; exact hne

theorem newM_some (n k : Int) (w : World) (hn : ¬ n = 0) : Calls Tryd.prog 21 #[.int .i64 n, .int .i64 k] w fun e w' => ∃ v, e = .returned v ∧ IsFault (maskT w' 29) v n k ∧ Below w.heap.size w w' := by
  go_enter Tryd.func21, Tryd.ntmps21
  go_wp2
  go_ret
  exact ⟨_, rfl, ⟨_, rfl, mask_new _ _ _ _ _ _ (by decide) rfl, mask_new _ _ _ _ _ _ (by decide) rfl⟩, (Below.refl w.heap.size w).alloc (by simp) _⟩

theorem putM_step {w w1 : World} {sl : Value} {us ws : List Value} {tv : TypeId} {xv bot : Value} {base : Nat} {n : Nat} (hb1 : Below w.heap.size w w1) (hE : ErrOf (maskT w 29) (.iface tv xv) ws bot) (hr : w1.ownsRow base 9 1 sl n us) (h1 : ∀ u ∈ us, u.oneCell' = true) :
    ErrOf (maskT (w1.alloc (.cells #[sl, .iface tv xv] 63)) 29) (.iface 60 (.pointer (some ⟨w1.heap.size, 0, none⟩))) (us ++ ws) bot := by
  obtain ⟨cs, hc, rfl⟩ := hE
  have hb2 : Below w1.heap.size w1 (w1.alloc (.cells #[sl, .iface tv xv] 63)) := (Below.refl _ _).alloc (Nat.le_refl _) _
  exact ⟨us :: cs, ⟨w1.heap.size, sl, tv, xv, rfl, mask_new _ _ _ _ _ _ (by decide) rfl, (mask_row hr (by decide)).sub (mask_up _ hb2), h1, mask_new _ _ _ _ _ _ (by decide) rfl, hc.sub (fun a v h => mask_up _ hb2 a v (mask_up _ hb1 a v h))⟩, rfl⟩

theorem inM_any (v sl : Value) (ws us : List Value) (t : TypeId) (x : Value) (w : World) (he : ErrOf (maskT w 29) v ws (.iface t x)) (hr : Row w sl us) (h1 : ∀ u ∈ us, u.oneCell' = true) (hlen : us.length ≤ 100000) :
    Calls Tryd.prog 15 #[v, sl] w fun e w' => ∃ v', e = .returned v' ∧ ErrOf (maskT w' 29) v' (us ++ ws) (.iface t x) ∧ Below w.heap.size w w' := by
  obtain ⟨tv, xv, rfl⟩ := he.iface
  have hH : Hid (Row w sl us ∧ (∀ u ∈ us, u.oneCell' = true) ∧ us.length ≤ 100000) := ⟨hr, h1, hlen⟩
  have hE : Hid (ErrOf (maskT w 29) (.iface tv xv) ws (.iface t x)) := he
  clear h1 he
  obtain ⟨a, cap, rfl, h0, hc⟩ := hr
  clear h0 hc
  by_cases hz : us.length = 0
  · obtain rfl : us = [] := List.length_eq_zero_iff.1 hz
    clear hz
    simp only [List.length_nil]
    go_enter Tryd.func15, Tryd.ntmps15
    go_wp2
    go_ret
    exact ⟨_, rfl, by simpa using hE.out, Below.refl _ _⟩
  · have hz' : ((us.length : Int) == 0) = false := by simpa using hz
    go_enter Tryd.func15, Tryd.ntmps15
    go_wp2_with (go_at_call 27; refine (cloneS_any _ us _ hH.out.1 hH.out.2.1 hH.out.2.2).mono ?_; rintro e w1 ⟨v1, rfl, hown, hb1⟩; obtain ⟨a1, c1, rfl, -, -⟩ := Row.of_owns hown)
    go_ret
    exact ⟨_, rfl, putM_step hb1 hE.out hown hH.out.2.1, hb1.alloc hb1.size _⟩

set_option maxRecDepth 100000 in
theorem madeM_some (sl : Value) (e0 k0 : Int) (wss : List (List ByteArray)) (w : World) (hr : Rows w sl wss) (hg : great1 (e0, k0, wss) = false) (he : ¬ e0 = 0) :
    Calls Tryd.prog 9 #[.agg #[.int .i64 e0, .int .i64 k0, sl]] w fun e w' => ∃ v, e = .returned v ∧ MadeOf (maskT w' 29) v (e0, k0, wss) ∧ Below w.heap.size w w' := by
  obtain ⟨vs, hrow, hvl, hvs⟩ := hr
  obtain ⟨a2, cap2, rfl, hn2, hc2⟩ := hrow
  have hlen := (great1_parts hg).1
  have hlv : vs.length ≤ 10 := by simp only at hlen; omega
  have HV : Hid (vs.length = wss.length ∧ (a2 = none → vs = [] ∧ cap2 = 0) ∧ (∀ (x : Addr), a2 = some x → ∀ (j : Nat) (u : Value), vs[j]? = some u → w.cell? (x.add j) = some u) ∧ (∀ (i : Nat) (x : Value) (ws : List ByteArray), vs[i]? = some x → wss[i]? = some ws → Strs w x ws) ∧ great1 (e0, k0, wss) = false) := ⟨hvl, hn2, hc2, hvs, hg⟩
  clear hvl hn2 hc2 hvs hg hlen
  have hb2 : Hid (Below w.heap.size w (w.alloc (.cells #[.int .i64 e0, .int .i64 k0, .slice a2 vs.length cap2] 24))) := (Below.refl w.heap.size w).alloc (by simp) _
  have HC : Hid ((w.alloc (.cells #[.int .i64 e0, .int .i64 k0, .slice a2 vs.length cap2] 24)).cell? ⟨w.heap.size, 2, none⟩ = some (.slice a2 vs.length cap2)) := (by simp : (w.alloc (.cells #[.int .i64 e0, .int .i64 k0, .slice a2 vs.length cap2] 24)).cell? ⟨w.heap.size, 2, none⟩ = some (.slice a2 vs.length cap2))
  go_enter Tryd.func9, Tryd.ntmps9
  go_wp2_with (go_at_call 21; refine (newM_some e0 k0 _ he).mono ?_; rintro e w1 ⟨v1, rfl, hf1, hb1⟩; have HF := Lib.hid hf1; have H1 := Lib.hid hb1; obtain ⟨b1, rfl, -, -⟩ := hf1; clear hb1)
  go_loopg [3, 4] (vs.length + 1) (fun g v i wr => ∃ k : Nat, g + k = vs.length + 1 ∧ k ≤ vs.length ∧ i = .int .i64 k ∧ ErrOf (maskT wr 29) v (((wss.take k).reverse.flatten).map Value.string) (.iface 52 (.pointer (some ⟨b1, 0, none⟩))) ∧ Below w1.heap.size w1 wr)
  case atStart => exact ⟨0, by omega, by omega, rfl, ⟨[], rfl, rfl⟩, Below.refl _ _⟩
  case round =>
    obtain ⟨k, hgk, hk, rfl, hE, hb⟩ := hrel
    obtain ⟨tv, xv, rfl⟩ := hE.iface
    have HB : Hid (Below w1.heap.size w1 wr ∧ ErrOf (maskT wr 29) (.iface tv xv) (((wss.take k).reverse.flatten).map Value.string) (.iface 52 (.pointer (some ⟨b1, 0, none⟩)))) := ⟨hb, hE⟩
    have hb12 : Hid (Below w.heap.size w wr) := (hb2.out.trans (H1.out.mono hb2.out.size)).trans (hb.mono (Nat.le_trans hb2.out.size H1.out.size))
    have hc2 := (hb.cell (Nat.lt_of_lt_of_le (lt_of_cell HC.out) H1.out.size)).trans ((H1.out.cell (lt_of_cell HC.out)).trans HC.out)
    clear hb hE
    by_cases hlt : k < vs.length
    · obtain ⟨b2, o2, rfl, hcell⟩ := row_at HV.out.2.1 HV.out.2.2.1 (by omega)
      obtain ⟨x, hx⟩ : ∃ x, vs[k]? = some x := ⟨_, List.getElem?_eq_getElem hlt⟩
      obtain ⟨ws, hws⟩ : ∃ ws, wss[k]? = some ws := ⟨_, List.getElem?_eq_getElem (by have := HV.out.1; omega)⟩
      have hcx := (hb12.out.cell (lt_of_cell (hcell k x hx))).trans (hcell k x hx)
      have hst := HV.out.2.2.2.1 k x ws hx hws
      have HS := Lib.hid hst
      obtain ⟨a3, cap3, rfl, -, -⟩ := hst
      rw [List.length_map] at hcx HS
      have HW := Lib.hid hws
      have hwl : Hid ((ws.map Value.string).length ≤ 100000) := (by have := (great1_parts HV.out.2.2.2.2).2 ws (List.mem_of_getElem? HW.out); rw [List.length_map]; omega : (ws.map Value.string).length ≤ 100000)
      clear hcell hx hws
      go_wp2_with (go_at_call 15; refine (inM_any _ _ _ (ws.map Value.string) _ _ _ HB.out.2 (HS.out.up hb12.out) (strs_one ws) hwl.out).mono ?_; rintro e w2 ⟨v2, rfl, hE2, hb3⟩)
      go_roundg (gk - 1)
      case measure => omega
      case rel =>
        refine ⟨k + 1, by omega, by omega, by go_num, ?_, HB.out.1.trans (hb3.mono HB.out.1.size)⟩
        rw [rev_step wss k ws HW.out, List.map_append]
        exact hE2
    · go_wp2
      go_ret
      refine ⟨_, rfl, .inr ⟨he, _, ?_, HF.out.sub (mask_up _ HB.out.1)⟩, hb12.out⟩
      have h1 := HB.out.2
      have h2 := HV.out.1
      rw [List.take_of_length_le (by omega)] at h1
      rw [rwords, if_neg he]
      exact h1

theorem madeM_any (sl : Value) (f : FD) (w : World) (hr : Rows w sl f.2.2) (hg : great1 f = false) :
    Calls Tryd.prog 9 #[.agg #[.int .i64 f.1, .int .i64 f.2.1, sl]] w fun e w' => ∃ v, e = .returned v ∧ MadeOf (maskT w' 29) v f ∧ Below w.heap.size w w' := by
  by_cases he : f.1 = 0
  · rw [he]
    refine (made_none sl f.2.1 f.2.2 w hr (great1_parts hg).1).mono ?_
    rintro e w' ⟨rfl, hb⟩
    exact ⟨_, rfl, .inl ⟨he, rfl⟩, hb⟩
  · exact madeM_some sl f.1 f.2.1 f.2.2 w hr hg he
end Go.Proofs.YtmlmgkaghcnpnaaDoor
