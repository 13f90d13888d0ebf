/- Panes by their numbers, in a map: of those with one number the first. -/
import Derived.Test.YtlpklpkalcgeaaaFPane
import Derived.Maps.OwnOps
import Derived.Maps.OwnSet
import Derived.Maps.Views
namespace Go.Proofs.Ytlpklpkalcgeaaa
open Go.RowKit
open Go.Maps

theorem wf_fits {n : Int} (h : fits n) : (Lit.int .i64 n).wf = true := by
  unfold fits at h
  simp [Lit.wf, IntKind.min, IntKind.max, IntKind.signed, IntKind.bits]; omega

def pdat (p : Pn) : DataW Unit := .agg [.lit (.int .i64 p.id), .lit (.int .i64 p.r.x), .lit (.int .i64 p.r.y), .lit (.int .i64 p.r.w), .lit (.int .i64 p.r.h)]
theorem pdat_inj {p q : Pn} (h : pdat p = pdat q) : p = q := by
  obtain ⟨i, ⟨a, b, c, d⟩⟩ := p
  obtain ⟨i', ⟨a', b', c', d'⟩⟩ := q
  simp [pdat] at h
  obtain ⟨rfl, rfl, rfl, rfl, rfl⟩ := h
  rfl
theorem pval_inj {p q : Pn} (h : pval p = pval q) : p = q := by
  obtain ⟨i, ⟨a, b, c, d⟩⟩ := p
  obtain ⟨i', ⟨a', b', c', d'⟩⟩ := q
  simp at h
  obtain ⟨rfl, rfl, rfl, rfl, rfl⟩ := h
  rfl
open Classical in
noncomputable def paneElem (v : Value) : Option (DataW Unit × List MemPlace) := if h : ∃ p : Pn, v = pval p then some (pdat h.choose, []) else none
theorem paneElem_mk (p : Pn) : paneElem (pval p) = some (pdat p, []) := by
  have h : ∃ q : Pn, pval p = pval q := ⟨p, rfl⟩
  unfold paneElem
  rw [dif_pos h, ← pval_inj h.choose_spec]
theorem paneElem_inv {v : Value} {z : DataW Unit × List MemPlace} (h : paneElem v = some z) : ∃ p, v = pval p ∧ z = (pdat p, []) := by
  unfold paneElem at h
  split at h
  · rename_i hp
    cases h
    exact ⟨_, hp.choose_spec, rfl⟩
  · cases h

/-- The first panes of each number. -/
def FstAt (w : World) (b : Nat) (l : List Pn) : Prop :=
  ∃ D : DataW Unit, w.ownsMap Try.prog 3 paneElem b l.length D ∧ IsMap D ∧ ∀ n, fits n → (idxP l n = none → ∀ z, D.atKey (.int .i64 n) z = z) ∧ ∀ (i : Nat) (p : Pn), idxP l n = some i → l[i]? = some p → ∀ z, D.atKey (.int .i64 n) z = pdat p
theorem FstAt.lt {w : World} {b : Nat} {l : List Pn} (h : FstAt w b l) : b < w.heap.size := by
  obtain ⟨D, h1, -⟩ := h; exact h1.lt
theorem FstAt.kept {w w' : World} {b : Nat} {l : List Pn} (h : FstAt w b l) (hh : w'.heap[b]? = w.heap[b]?) : FstAt w' b l := by
  obtain ⟨D, ⟨es, clock, hb, r⟩, h2, h3⟩ := h
  exact ⟨D, ⟨es, clock, hh.trans hb, r⟩, h2, h3⟩
theorem FstAt.up {w w' : World} {b : Nat} {l : List Pn} (h : FstAt w b l) (hb : Below w.heap.size w w') : FstAt w' b l := h.kept (hb.block b h.lt)
theorem FstAt.new (w : World) : FstAt (w.alloc (.map #[] 0)) w.heap.size [] :=
  ⟨.map [], World.ownsMap_made w _ _ _, ⟨_, rfl⟩, fun n _ => ⟨fun _ z => by simp [DataW.atKey], fun i p h => by simp [idxP] at h⟩⟩
theorem FstAt.look {w : World} {b : Nat} {l : List Pn} (h : FstAt w b l) {n : Int} (hn : fits n) : (Instr.lookup 61 (.map (some b)) (.int .i64 n) true).run Try.prog w = .ok (.tuple #[pval (paneOf l n).1, .bool (paneOf l n).2]) w := by
  obtain ⟨D, h1, -, h3⟩ := h
  obtain ⟨v, ps, hrun, hv⟩ := h1.look_ok (t := 61) (e := 32) (int_keyed Try.underlying3) Try.underlying61 (z := pval zP) (by kernel_rfl) (paneElem_mk zP) (keyOf_int_mk Try.underlying3 (wf_fits hn))
  obtain ⟨q, rfl, hq⟩ := paneElem_inv hv
  simp only [Prod.mk.injEq] at hq
  cases hix : idxP l n with
  | none =>
    have h4 := (h3 n hn).1 hix
    rw [has_false_of_atKey h4] at hrun
    rw [h4] at hq
    rw [paneOf_none hix, pdat_inj hq.1]
    exact hrun
  | some i =>
    obtain ⟨p, hp, -⟩ := idx_at hix
    have h4 := (h3 n hn).2 i p hix hp
    rw [has_true_of_atKey h4] at hrun
    rw [h4] at hq
    rw [paneOf_some hix hp, pdat_inj hq.1]
    exact hrun
theorem idx_snoc (l : List Pn) (p : Pn) (n : Int) : idxP (l ++ [p]) n = match idxP l n with | some i => some i | none => if p.id = n then some l.length else none := by
  unfold idxP
  rw [List.findIdx?_append]
  cases h : l.findIdx? (fun p => decide (p.id = n)) with
  | some i => rfl
  | none => by_cases e : p.id = n <;> simp [List.findIdx?_cons, e]
theorem FstAt.put {w' : World} {b : Nat} {l : List Pn} {D : DataW Unit} (h2 : IsMap D)
    (h3 : ∀ n, fits n → (idxP l n = none → ∀ z, D.atKey (.int .i64 n) z = z) ∧ ∀ (i : Nat) (p : Pn), idxP l n = some i → l[i]? = some p → ∀ z, D.atKey (.int .i64 n) z = pdat p) {p : Pn} (hp : idxP l p.id = none)
    (h : w'.ownsMap Try.prog 3 paneElem b (l.length + 1) (D.put (.int .i64 p.id) (pdat p))) : FstAt w' b (l ++ [p]) := by
  refine ⟨_, by simpa using h, h2.put _ _, fun n hn => ?_⟩
  by_cases e : n = p.id
  · subst e
    have hi : idxP (l ++ [p]) p.id = some l.length := by rw [idx_snoc, hp]; simp
    refine ⟨(fun h => by rw [hi] at h; cases h), fun i q hq1 hq2 z => ?_⟩
    rw [hi] at hq1; cases hq1
    simp at hq2; subst hq2
    exact atKey_put_same h2 (by trivial) _ _
  · have hi : idxP (l ++ [p]) n = idxP l n := by
      rw [idx_snoc]
      cases idxP l n with
      | some i => rfl
      | none => simp [Ne.symm e]
    have ho : ∀ z, (D.put (.int .i64 p.id) (pdat p)).atKey (.int .i64 n) z = D.atKey (.int .i64 n) z := fun z => atKey_put_other (by intro h; injection h with _ h; exact e h) _ _
    refine ⟨fun h z => ?_, fun i q hq1 hq2 z => ?_⟩
    · rw [ho]; exact (h3 n hn).1 (by rw [← hi]; exact h) z
    · rw [hi] at hq1
      obtain ⟨q', hq', -⟩ := idx_at hq1
      have hlt := lt_of_get hq'
      rw [List.getElem?_append_left hlt] at hq2
      rw [ho]; exact (h3 n hn).2 i q hq1 hq2 z
theorem FstAt.more {w : World} {b : Nat} {l : List Pn} (h : FstAt w b l) {p : Pn} {i : Nat} (hp : idxP l p.id = some i) : FstAt w b (l ++ [p]) := by
  obtain ⟨D, h1, h2, h3⟩ := h
  have hi : ∀ n, idxP (l ++ [p]) n = idxP l n := fun n => by
    rw [idx_snoc]
    cases hn : idxP l n with
    | some i => rfl
    | none =>
      have : p.id ≠ n := fun e => by subst e; rw [hp] at hn; cases hn
      simp [this]
  refine ⟨D, h1.mono (by simp), h2, fun n hn => ⟨fun h => (h3 n hn).1 (by rw [← hi]; exact h), fun j q hq1 hq2 => ?_⟩⟩
  rw [hi] at hq1
  obtain ⟨q', hq', -⟩ := idx_at hq1
  have hlt := lt_of_get hq'
  rw [List.getElem?_append_left hlt] at hq2
  exact (h3 n hn).2 j q hq1 hq2

theorem take_snoc' {α : Type} {l : List α} {k : Nat} {x : α} (h : l[k]? = some x) : l.take (k + 1) = l.take k ++ [x] := by
  rw [List.take_add_one, h]; rfl

def FirstsSays (l : List Pn) (w : World) (e : Ending) (w' : World) : Prop := e = .returned (.map (some w.heap.size)) ∧ FstAt w' w.heap.size l ∧ Below w.heap.size w w'
def fitsP (l : List Pn) : Prop := ∀ p ∈ l, fits p.id

set_option maxRecDepth 100000 in
theorem firsts_any (v : Value) (l : List Pn) (w : World) (hr : PRow w v l) (hf : fitsP l) (hl : l.length ≤ 1000000) : Calls Try.prog 36 #[v] w (FirstsSays l w) := by
  obtain ⟨a, cap, rfl⟩ := hr.shape
  have HR := Lib.hid hr
  have HFT := Lib.hid hf
  clear hr hf
  have hmm := @run_makeMap Try.prog
  go_enter Try.func36, Try.ntmps36
  go_wp2
  go_loopg [11] (l.length + 1) (fun g i wr => ∃ k : Nat, g + k = l.length + 1 ∧ k ≤ l.length ∧ i = .int .i64 k ∧ FstAt wr w.heap.size (l.take k) ∧ Below w.heap.size w wr)
  case atStart => exact ⟨0, by omega, by omega, rfl, by simpa using FstAt.new w, (Below.refl _ _).alloc (Nat.le_refl _) _⟩
  case round =>
    obtain ⟨k, hg, hk, rfl, hfa, hb⟩ := hrel
    have HG := Lib.hid hg
    have HFA := Lib.hid hfa
    have HB := Lib.hid hb
    clear hg hfa hb
    by_cases hlt : k < l.length
    · have hlti : (k : Int) < (l.length : Int) := by omega
      obtain ⟨b, o, rfl, hf⟩ := HR.out.place (by omega)
      obtain ⟨p, hp⟩ : ∃ p, l[k]? = some p := ⟨_, List.getElem?_eq_getElem hlt⟩
      obtain ⟨c0, c1, c2, c3, c4⟩ := (hf k p hp).up HB.out
      clear hf
      have hpf : fits p.id := HFT.out p (List.mem_of_getElem? hp)
      have hwf := wf_fits hpf
      have HTK : Hid (l.take (k + 1) = l.take k ++ [p]) := Lib.hid (take_snoc' hp)
      have A1 : Hid (Below wr.heap.size wr (wr.alloc (pbox p))) := (Below.refl _ _).alloc (Nat.le_refl _) _
      have hlook := (HFA.out.up A1.out).look hpf
      have hlen : (l.take k).length < maxLen := by rw [List.length_take]; unfold maxLen; omega
      cases hix : idxP (l.take k) p.id with
      | some i =>
        obtain ⟨q, hq, -⟩ := idx_at hix
        rw [paneOf_some hix hq] at hlook
        have HM := Lib.hid (HFA.out.more hix)
        clear hix hp hpf hwf hq
        go_wp2
        go_roundg (gk - 1)
        case measure => have := HG.out; omega
        case rel =>
          have A2 : Below wr.heap.size wr ((wr.alloc (pbox p)).alloc (pbox q)) := A1.out.alloc (by simp) _
          refine ⟨k + 1, by have := HG.out; omega, by omega, by go_num, ?_, HB.out.trans (A2.mono HB.out.size)⟩
          rw [HTK.out]
          exact HM.out.up A2
      | none =>
        rw [paneOf_none hix] at hlook
        have HIX := Lib.hid hix
        have A2 : Hid (Below wr.heap.size wr ((wr.alloc (pbox p)).alloc (pbox zP))) := A1.out.alloc (by simp) _
        obtain ⟨D, hown, hism, hat⟩ := HFA.out.up A2.out
        have HO := Lib.hid hown
        have HIM := Lib.hid hism
        have HAT := Lib.hid hat
        have HPF := Lib.hid hpf
        clear hix hp hpf hown hism hat
        go_wp2_with (at_mapUpdate; refine wpList_mapUpdate_own _ rfl _ _ _ 61 rfl 3 32 (int_keyed Try.underlying3) Try.underlying61 _ w.heap.size (l.take k).length D rfl HO.out hlen _ _ (.int .i64 p.id) rfl rfl (keyOf_int_mk Try.underlying3 hwf) (pdat p) [] (paneElem_mk p) ?_; intro w3 hown3 hgrow3)
        have HF3 := Lib.hid (FstAt.put HIM.out HAT.out HIX.out hown3)
        have HG3 := Lib.hid hgrow3
        clear hown3 hgrow3
        go_wp2
        go_roundg (gk - 1)
        case measure => have := HG.out; omega
        case rel =>
          refine ⟨k + 1, by have := HG.out; omega, by omega, by go_num, ?_, ?_⟩
          · rw [HTK.out]; exact HF3.out
          · have hb2 := HB.out.trans (A2.out.mono HB.out.size)
            exact ⟨HG3.out.os.trans hb2.os, HG3.out.tape.trans hb2.tape, HG3.out.output.trans hb2.output, Nat.le_trans hb2.size HG3.out.size, fun j hj => (HG3.out.block j (Nat.lt_of_lt_of_le hj hb2.size) (by intro e; cases e; omega)).trans (hb2.block j hj)⟩
    · obtain rfl : k = l.length := by omega
      have hkl : ((l.length : Int) < (l.length : Int)) = False := by simp
      go_wp2
      go_ret
      refine ⟨rfl, ?_, HB.out⟩
      have := HFA.out
      rw [List.take_length] at this
      exact this
end Go.Proofs.Ytlpklpkalcgeaaa
