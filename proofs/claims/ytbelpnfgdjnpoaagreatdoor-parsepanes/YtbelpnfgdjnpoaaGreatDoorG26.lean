/- Texts of this seat, 3 in one file. -/
import Derived.Test.YtbelpnfgdjnpoaaGreatDoorG25
import Derived.Test.YtbelpnfgdjnpoaaGreatDoorG10
import Derived.Test.YtbelpnfgdjnpoaaGreatDoorG11
import Derived.Deep.RegionHeld2
/- Texts and bodies: what is read is printed the same, five bytes further on. No walk. -/
namespace Go.Proofs.YtbelpnfgdjnpoaaGreatDoor
open Go.RowKit
open Sash.Sum (cutE cutX putL putL_len put_cut cut_put)
open Sash.Num (headE)

theorem headE_code (l : List UInt8) : headE l = 0 ∨ headE l = 2 ∨ headE l = 3 := by
  unfold headE
  split
  · exact .inr (.inl rfl)
  · split
    · exact .inr (.inr rfl)
    · exact .inl rfl
theorem num_code {S : List UInt8} {a : Nat} {e : Int} {x : Nat} (h : numAt S a = .error (e, x)) : e = 2 ∨ e = 3 := by
  unfold numAt at h
  split at h
  · cases h
  · rename_i h0
    have := (Prod.mk.inj (Except.error.inj h)).1
    subst this
    exact (headE_code _).resolve_left h0
theorem sep_code {S : List UInt8} {a : Nat} {c : UInt8} {e : Int} {x : Nat} (h : sepAt S a c = .error (e, x)) : e = 2 ∨ e = 3 := by
  unfold sepAt at h
  split at h
  · cases h
  · exact .inl (Prod.mk.inj (Except.error.inj h)).1.symm
theorem head_code {S : List UInt8} {a : Nat} {e : Int} {x : Nat} (h : headP S a = .error (e, x)) : e = 2 ∨ e = 3 := by
  unfold headP at h
  rcases bnd_er h with h | ⟨p, h1, h⟩
  · exact num_code h
  rcases bnd_er h with h | ⟨b, h2, h⟩
  · exact sep_code h
  rcases bnd_er h with h | ⟨q, h3, h⟩
  · exact num_code h
  rcases bnd_er h with h | ⟨b, h4, h⟩
  · exact sep_code h
  rcases bnd_er h with h | ⟨y, h5, h⟩
  · exact num_code h
  rcases bnd_er h with h | ⟨b, h6, h⟩
  · exact sep_code h
  rcases bnd_er h with h | ⟨z, h7, h⟩
  · exact num_code h
  · cases h
def CodeR : PR → Prop
  | .bad e _ => e = 2 ∨ e = 3
  | .ok _ _ => True
theorem Rd.code {s : List UInt8} {st : St} {o : PR} (h : Rd s st o) : CodeR o := by
  induction h with
  | headBad h => exact head_code h
  | form => exact .inl rfl
  | idBad h h1 h2 => exact num_code h2
  | leaf => exact trivial
  | long => exact .inr rfl
  | kidsBad _ _ _ _ ih => exact ih
  | kids => exact trivial
  | done => exact trivial
  | comma => exact .inl rfl
  | kidBad _ _ _ ih => exact ih
  | kid _ _ _ _ _ ih2 => exact ih2
/-- An error's number is none of nothing's. -/
theorem WholeR.code {S : List UInt8} {off e pl : Int} (h : WholeR S off (.no e pl)) : e = 1 ∨ e = 2 ∨ e = 3 ∨ e = 5 := by
  rcases h with ⟨x, h1, -⟩ | ⟨l, x, -, -, rfl, -⟩ | ⟨t, -, -, rfl, -⟩ | ⟨t, -, -, -, rfl, -⟩
  · rcases h1.code with h | h
    · exact .inr (.inl h)
    · exact .inr (.inr (.inl h))
  · exact .inr (.inl rfl)
  · exact .inl rfl
  · exact .inr (.inr (.inr rfl))
def further (e : Int) : Int := if e = 2 ∨ e = 3 then 5 else 0
/-- The same, five bytes further on. -/
theorem WholeR.further {S : List UInt8} {e pl : Int} (h : WholeR S 0 (.no e pl)) : WholeR S 5 (.no e (pl + further e)) := by
  rcases h with ⟨x, h1, rfl⟩ | ⟨l, x, h1, h2, rfl, rfl⟩ | ⟨t, h1, h2, rfl, rfl⟩ | ⟨t, h1, h2, h3, rfl, rfl⟩
  · refine .inl ⟨x, h1, ?_⟩
    have : Go.Proofs.YtbelpnfgdjnpoaaGreatDoor.further e = 5 := by unfold Go.Proofs.YtbelpnfgdjnpoaaGreatDoor.further; rw [if_pos (show e = 2 ∨ e = 3 from h1.code)]
    rw [this]; omega
  · refine .inr (.inl ⟨l, x, h1, h2, rfl, ?_⟩)
    show (x : Int) + 0 + 5 = _
    omega
  · exact .inr (.inr (.inl ⟨t, h1, h2, rfl, rfl⟩))
  · exact .inr (.inr (.inr ⟨t, h1, h2, h3, rfl, rfl⟩))
theorem WholeR.moved {S : List UInt8} {t : T} (h : WholeR S 0 (.yes t)) : WholeR S 5 (.yes t) := h
/-- A body with its sum ahead. -/
theorem put_text {S : List UInt8} (hl : S.length ≤ 65530) : (∀ e pl, BodyR S (.no e pl) → TextR (putL S) (.no e (pl + further e))) ∧ ∀ t, BodyR S (.yes t) → TextR (putL S) (.yes t) := by
  obtain ⟨h1, h2⟩ := cut_put S hl
  constructor
  · intro e pl h
    rcases h with ⟨h, -, -⟩ | ⟨-, h⟩
    · omega
    · exact .inr ⟨h1, by rw [h2]; exact h.further⟩
  · intro t h
    exact ⟨h1, by rw [h2]; exact h.2.moved⟩
/-- What is read of a text is printed as it. -/
theorem text_back {S : List UInt8} {t : T} (h : TextR S (.yes t)) : putL (bodyT t) = S ∧ OkB t ∧ tileB t = true ∧ dpT t ≤ 1000 ∧ 9 * sz t ≤ S.length := by
  obtain ⟨h1, h2⟩ := h
  obtain ⟨g1, g2, g3, g4⟩ := h2.back
  have hp := put_cut S h1
  have hl := congrArg List.length hp
  rw [putL_len] at hl
  refine ⟨by rw [← g1]; exact hp, g2, h2.2, g3, by omega⟩
/-- What has a text is read from it. -/
theorem text_full {t : T} (hs : sz t ≤ 999) (ht : tileB t = true) : TextR (putL (bodyT t)) (.yes t) := by
  have hok := ok_tile (sz t) t (Nat.le_refl _) (by omega) ht
  have hl := body_len t
  obtain ⟨h1, h2⟩ := cut_put (bodyT t) (by omega)
  exact ⟨h1, by rw [h2]; exact WholeR.full (by omega) ht hok⟩
end Go.Proofs.YtbelpnfgdjnpoaaGreatDoor
/- The reader reads the kids of a cell, if it reads cells. -/
namespace Go.Proofs.YtbelpnfgdjnpoaaGreatDoor
open Go.RowKit

theorem OwnT.mv {w w' : World} {g base : Nat} {c : C} {t : T} {S : List Nat} (h : OwnT w base c t S) (m : Mv g w w') (hg : g < base) : OwnT w' base c t S := h.frame fun k hk => m.at k (h.ge k hk).2 (by have := (h.ge k hk).1; omega)
theorem OwnC.mv {w w' : World} {g base : Nat} {v : Value} {l : List C} (h : OwnC w base v l) (m : Mv g w w') (hg : g < base) : OwnC w' base v l := ownC_kept h fun k hk => m.at k (own_block h hk).2 (by have := (own_block h hk).1; omega)
theorem Forest.mv {w w' : World} {g base : Nat} {v : Value} {cs : List C} {l : List T} {Ss : List (List Nat)} (h : Forest w base v cs l Ss) (m : Mv g w w') (hg : g < base) : Forest w' base v cs l Ss :=
  ⟨h.row.mv m hg, h.len, h.slen, fun j x t S hx ht hS => (h.each j x t S hx ht hS).mv m hg, h.nodup, h.apart⟩
theorem Forest.one {w : World} {base : Nat} {d : C} {t : T} {Bs : List Nat} (h : OwnT w base d t Bs) (hn : Bs.Nodup) (hb : base ≤ w.heap.size) : Forest (w.alloc (cbox d)) base (.slice (some ⟨w.heap.size, 0, none⟩) 1 1) [d] [t] [Bs] := by
  refine ⟨OwnC.one w base hb d, rfl, rfl, fun j x u S hx hu hS => ?_, by simpa using hn, fun g hg hm => ?_⟩
  · match j with
    | 0 =>
      simp at hx hu hS
      subst hx; subst hu; subst hS
      exact h.up ((Below.refl _ _).alloc (Nat.le_refl _) _)
    | j + 1 => simp at hx
  · have hg' : w.heap.size = g := by simpa [Value.ownBlock] using hg
    have := (h.ge g (by simpa using hm)).2
    omega
/-- One more, where the reader was written meanwhile. -/
theorem Forest.addM {wr w2 w3 : World} {o : Obj} {gr base b2 : Nat} {v : Value} {cs : List C} {l : List T} {Ss : List (List Nat)} {d : C} {u : T} {S2 : List Nat} {g cap : Nat}
    (h : Forest wr base v cs l Ss) (hb : Mv gr wr w2) (hgr' : gr < base) (hd : OwnT w2 b2 d u S2) (hS2 : S2.Nodup) (hb2 : wr.heap.size ≤ b2) (hbb : base ≤ b2)
    (hown : OwnC w3 base (.slice (some ⟨g, 0, none⟩) (cs ++ [d]).length cap) (cs ++ [d])) (hgr : (w2.alloc o).grownBy w3 v.ownBlock) (hpl : v.ownBlock = some g ∨ g = (w2.alloc o).heap.size) :
    Forest w3 base (.slice (some ⟨g, 0, none⟩) (cs ++ [d]).length cap) (cs ++ [d]) (l ++ [u]) (Ss ++ [S2]) := by
  have hsame : ∀ k, k < w2.heap.size → v.ownBlock ≠ some k → w3.heap[k]? = w2.heap[k]? := fun k hk hne => by
    rw [hgr.block k (by simp; omega) (fun e => hne e.symm)]
    exact ((Below.refl w2.heap.size w2).alloc (Nat.le_refl _) o).block k hk
  have hvb : ∀ k, v.ownBlock = some k → k < wr.heap.size := fun k hk => (own_block h.row hk).2
  have hold : ∀ k ∈ Ss.flatten, w3.heap[k]? = wr.heap[k]? := fun k hk => by
    have h1 := (h.ge k hk).2
    have h0 := (h.ge k hk).1
    rw [hsame k (Nat.lt_of_lt_of_le h1 hb.size) (fun e => h.apart k e hk), hb.at k h1 (by omega)]
  have hnew : ∀ k ∈ S2, w3.heap[k]? = w2.heap[k]? := fun k hk => by
    have h1 := hd.ge k hk
    exact hsame k h1.2 fun e => by have := hvb k e; omega
  refine ⟨hown, by simp [h.len], by simp [h.slen], fun j x t S hx ht hS => ?_, ?_, fun k hk => ?_⟩
  · rcases snoc_get hx with ⟨hj, hx'⟩ | ⟨hj, rfl⟩
    · rcases snoc_get ht with ⟨_, ht'⟩ | ⟨hj', _⟩
      · rcases snoc_get hS with ⟨_, hS'⟩ | ⟨hj', _⟩
        · exact (h.each j x t S hx' ht' hS').frame fun k hk => hold k (mem_flat.2 ⟨j, S, hS', hk⟩)
        · rw [h.slen, ← h.len] at hj'; omega
      · rw [← h.len] at hj'; omega
    · rcases snoc_get ht with ⟨hj', _⟩ | ⟨_, rfl⟩
      · rw [← h.len] at hj'; omega
      · rcases snoc_get hS with ⟨hj', _⟩ | ⟨_, rfl⟩
        · rw [h.slen, ← h.len] at hj'; omega
        · exact (hd.lower hbb).frame hnew
  · rw [List.flatten_append]
    simp only [List.flatten_cons, List.flatten_nil, List.append_nil]
    rw [List.nodup_append]
    refine ⟨h.nodup, hS2, fun a ha b hb' e => ?_⟩
    subst e
    have h1 := (h.ge a ha).2
    have h2 := (hd.ge a hb').1
    omega
  · have hk' : g = k := by simpa [Value.ownBlock] using hk
    subst hk'
    rw [List.flatten_append, List.mem_append]
    simp only [List.flatten_cons, List.flatten_nil, List.append_nil]
    rintro (hm | hm)
    · rcases hpl with hp | hp
      · exact h.apart g hp hm
      · have h1 := (h.ge g hm).2; have := hb.size; simp at hp; omega
    · have h2 := hd.ge g hm
      rcases hpl with hp | hp
      · have := hvb g hp; omega
      · simp at hp; omega

/-- What reading a cell comes to. -/
def CdSays (S : List UInt8) (s : ByteArray) (g a deep : Nat) (w : World) (e : Ending) (w' : World) : Prop :=
  Mv g w w' ∧ ((∃ (t : T) (d : C) (Bs : List Nat) (x : Nat), Rd S (.cell a deep) (.ok [t] x) ∧ a < x ∧ x ≤ s.size ∧ e = .returned (cval d) ∧ OwnT w' w.heap.size d t Bs ∧ Bs.Nodup ∧ Rdr w' g s (x : Int)) ∨ ∃ (er : Int) (x : Nat) (v : Value), Rd S (.cell a deep) (.bad er x) ∧ er ≠ 0 ∧ e = threw v ∧ FltIn w' v er (x : Int))
/-- What reading kids comes to. -/
def KdSays (S : List UInt8) (s : ByteArray) (g a deep : Nat) (c : UInt8) (w : World) (e : Ending) (w' : World) : Prop :=
  Mv g w w' ∧ ((∃ (l : List T) (cs : List C) (Ss : List (List Nat)) (v : Value) (x : Nat), Rd S (.kids a deep c []) (.ok l x) ∧ cs.length ≤ x ∧ x ≤ s.size ∧ e = .returned v ∧ Forest w' w.heap.size v cs l Ss ∧ Rdr w' g s (x : Int)) ∨ ∃ (er : Int) (x : Nat) (v : Value), Rd S (.kids a deep c []) (.bad er x) ∧ er ≠ 0 ∧ e = threw v ∧ FltIn w' v er (x : Int))
def CellsTo (s : ByteArray) (g N : Nat) : Prop := ∀ (a deep : Nat) (w : World), s.size - a < N → a ≤ s.size → deep ≤ 1000 → Rdr w g s (a : Int) → Calls Tryz.prog 53 #[.pointer (some ⟨g, 0, none⟩), .int .i64 (deep : Int)] w (CdSays s.data.toList s g a deep w)

set_option maxRecDepth 100000 in
set_option maxHeartbeats 2000000 in
/-- Kids that are too deep. -/
theorem kids_long (s : ByteArray) (g b : Nat) (deep : Nat) (cl : ByteArray) (w : World) (hr : Rdr w g s ((b + 1 : Nat) : Int)) (hb : b ≤ 100000) (hd : 1000 < deep) (hd2 : deep ≤ 1001) :
    Calls Tryz.prog 82 #[.pointer (some ⟨g, 0, none⟩), .int .i64 (deep : Int), .string cl] w fun e w' => Mv g w w' ∧ ∃ v, e = threw v ∧ FltIn w' v 3 (b : Int) := by
  have q : decide ((1000 : Int) < (deep : Int)) = true := decide_eq_true (by omega)
  have q' : decide (1000 < deep) = true := decide_eq_true (by omega)
  have q'' : (1000 < deep) = True := eq_true (by omega)
  obtain ⟨h0, h1⟩ := hr.cells
  have f1 := hr.free 1
  have hbb : (((b + 1 : Nat) : Int) - 1) = (b : Int) := by omega
  have R1 : Hid (Rdr (w.setCell ⟨g, 1, none⟩ (.int .i64 (b : Int))) g s (b : Int)) := Lib.hid (hr.set _)
  have M1 : Hid (Mv g w (w.setCell ⟨g, 1, none⟩ (.int .i64 (b : Int)))) := Lib.hid ((Mv.refl g w).set 1 _)
  clear hr
  go_enter Tryz.func82, Tryz.ntmps82
  go_upto_region 3 with (fail)
  clear hbb h0 h1 f1
  change Code.wp _ _ _ _ (w.setCell ⟨g, 1, none⟩ (.int .i64 (b : Int)))
  generalize w.setCell ⟨g, 1, none⟩ (.int .i64 (b : Int)) = w1 at R1 M1 ⊢
  go_wp2_with fail
  refine (wrong_any g s b 3 w1 (by decide) R1.out).mono ?_
  rintro e w2 ⟨v, rfl, hf, hb2⟩
  have M2 := Lib.hid (M1.out.then hb2)
  have HF := Lib.hid hf
  clear hb2 hf
  go_wp2
  exact ⟨rfl, M2.out, v, rfl, HF.out⟩

theorem not_ends_44 {S : List UInt8} {a : Nat} {c : UInt8} {acc : List T} (hc : c ≠ 44) (h : S[a]? = some 44) : ¬ ends S a c acc := fun he => by
  have := he.2
  rw [h] at this
  exact hc (Option.some.inj this).symm
theorem sep_yes {S : List UInt8} {a : Nat} {c : UInt8} {b : Nat} (h : sepAt S a c = .ok b) : S[a]? = some c := (sep_ok h).1
theorem sep_no {S : List UInt8} {a : Nat} {c : UInt8} {x : Int × Nat} (h : sepAt S a c = .error x) : S[a]? ≠ some c := fun e => by
  unfold sepAt at h; rw [if_pos e] at h; cases h

set_option maxRecDepth 100000 in
set_option maxHeartbeats 8000000 in
theorem kids_any (s : ByteArray) (hs : s.size ≤ 100000) (g N : Nat) (hcell : CellsTo s g N) (a deep : Nat) (c : UInt8) (hc44 : c ≠ 44) (w : World) (hN : s.size - a < N) (ha : a ≤ s.size) (hd : deep ≤ 1000) (hr : Rdr w g s (a : Int)) :
    Calls Tryz.prog 82 #[.pointer (some ⟨g, 0, none⟩), .int .i64 (deep : Int), .string ⟨#[c]⟩] w (KdSays s.data.toList s g a deep c w) := by
  have KC : Hid (∀ (a : Nat) (w : World), s.size - a < N → a ≤ s.size → Rdr w g s (a : Int) → Calls Tryz.prog 53 #[.pointer (some ⟨g, 0, none⟩), .int .i64 (deep : Int)] w (CdSays s.data.toList s g a deep w)) := Lib.hid (fun a w h1 h2 h3 => hcell a deep w h1 h2 hd h3)
  have KS := Lib.hid (fun c a W h ha => sep_any s hs c g a W h ha)
  have KG := Lib.hid (fun these a W h ha => sign_any s these hs g a W h ha)
  generalize s.data.toList = S at KC KS KG ⊢
  have q : decide ((1000 : Int) < (deep : Int)) = false := decide_eq_false (by omega)
  have q' : decide (1000 < deep) = false := decide_eq_false (by omega)
  have q'' : (1000 < deep) = False := eq_false (by omega)
  have HG := Lib.hid hr.lt
  have R0 := Lib.hid hr
  clear hr hcell hd
  go_enter Tryz.func82, Tryz.ntmps82
  go_wp2_with fail
  refine (KC.out a w hN ha R0.out).mono ?_
  rintro e w1 ⟨hm1, ⟨t1, d1, Bs1, b1, hrd1, hab1, hbn1, rfl, hown1, hnd1, hr1⟩ | ⟨er, x, v, hrd1, hne, rfl, hf⟩⟩
  case inr =>
    have M1 := Lib.hid hm1
    have HRD : Hid (Rd S (.kids a deep c []) (.bad er x)) := Lib.hid (.kidBad (fun h => by have := h.1; simp at this) (.inl rfl) (by unfold next; rw [if_pos rfl]; exact hrd1))
    have HF := Lib.hid hf
    clear hm1 hrd1 hf
    go_wp2
    exact ⟨rfl, M1.out, .inr ⟨er, x, v, HRD.out, hne, rfl, HF.out⟩⟩
  have F2 : Hid (Forest (w1.alloc (cbox d1)) w.heap.size (.slice (some ⟨w1.heap.size, 0, none⟩) 1 1) [d1] [t1] [Bs1]) := Lib.hid (Forest.one hown1 hnd1 hm1.size)
  have M2 : Hid (Mv g w (w1.alloc (cbox d1))) := Lib.hid (hm1.alloc _)
  have R2 : Hid (Rdr (w1.alloc (cbox d1)) g s (b1 : Int)) := Lib.hid (hr1.up ((Below.refl _ _).alloc (Nat.le_refl _) _))
  have P2 : Hid (∀ o, Rd S (.kids b1 deep c [t1]) o → Rd S (.kids a deep c []) o) := Lib.hid (fun o h => .kid (fun h => by have := h.1; simp at this) (.inl rfl) (by unfold next; rw [if_pos rfl]; exact hrd1) h)
  clear hm1 hown1 hnd1 hr1 hrd1
  go_upto_region 5 with (fail)
  change Code.wp _ _ _ _ (w1.alloc (cbox d1))
  generalize w1.alloc (cbox d1) = w2 at F2 M2 R2 ⊢
  generalize w1.heap.size = g1 at F2 ⊢
  go_wp2_with fail
  refine (KS.out 44 b1 _ R2.out hbn1).mono ?_
  rintro e w3 ⟨hm3, ⟨x3, hsep, hlt3, rfl, hr3⟩ | ⟨v, hsep, rfl, hf⟩⟩
  case inr =>
    have M3 := Lib.hid (M2.out.trans hm3)
    have HRD : Hid (Rd S (.kids a deep c []) (.bad 2 b1)) := Lib.hid (P2.out _ (.comma (fun h => by have := h.1; simp at this) (by simp) (sep_no hsep)))
    have HF := Lib.hid hf
    clear hm3 hsep hf
    go_wp2
    exact ⟨rfl, M3.out, .inr ⟨2, b1, v, HRD.out, by decide, rfl, HF.out⟩⟩
  have F3 := Lib.hid (F2.out.mv hm3 HG.out)
  have M3 := Lib.hid (M2.out.trans hm3)
  have R3 := Lib.hid hr3
  have E3 := Lib.hid (sep_yes hsep)
  clear hm3 hsep hr3 F2 M2 R2
  go_wp2
  go_loopg [7] (s.size - b1) (fun gk v wr => ∃ (x : Nat) (acc : List T) (cs : List C) (Bs : List (List Nat)), gk + x = s.size ∧ a ≤ x ∧ b1 ≤ x ∧ x < s.size ∧ acc ≠ [] ∧ cs.length ≤ x ∧ S[x]? = some 44 ∧ Forest wr w.heap.size v cs acc Bs ∧ Mv g w wr ∧ Rdr wr g s ((x + 1 : Nat) : Int) ∧ (∀ o, Rd S (.kids x deep c acc) o → Rd S (.kids a deep c []) o))
  case atStart => exact ⟨b1, [t1], [d1], [Bs1], by omega, by omega, Nat.le_refl _, hlt3, by simp, by simp; omega, E3.out, F3.out, M3.out, R3.out, P2.out⟩
  case round =>
    obtain ⟨x, acc, cs, Bs, hg, hax, hbx, hxs, hacc, hcx, h44, hfo, hmv, hrd, hcn⟩ := hrel
    have HGK := Lib.hid hg
    have HF := Lib.hid hfo
    have HM := Lib.hid hmv
    have HR := Lib.hid hrd
    have HC := Lib.hid hcn
    have HCX := Lib.hid hcx
    have HA := Lib.hid hacc
    have H44 := Lib.hid h44
    have HCL : Hid (cs.length ≤ 100000) := Lib.hid (by omega)
    have HNE : Hid (¬ ends S x c acc) := Lib.hid (not_ends_44 hc44 h44)
    have HNX : Hid (next acc x = x + 1) := Lib.hid (by unfold next; rw [if_neg hacc])
    obtain ⟨av, capv, rfl⟩ := hfo.row.row.shape
    clear hg hfo hmv hrd hcn hcx hacc h44
    go_wp2_with fail
    refine (KC.out (x + 1) wr (by omega) (by omega) HR.out).mono ?_
    rintro e w4 ⟨hm4, ⟨t', d, Bd, z, hrd4, hxz, hzs, rfl, hown4, hnd4, hr4⟩ | ⟨er, z, v, hrd4, hne, rfl, hf⟩⟩
    · have HRD : Hid (∀ o, Rd S (.kids z deep c (acc ++ [t'])) o → Rd S (.kids a deep c []) o) := Lib.hid (fun o h => HC.out o (.kid HNE.out (.inr H44.out) (by rw [HNX.out]; exact hrd4) h))
      have M4 := Lib.hid hm4
      have O4 := Lib.hid hown4
      have N4 := Lib.hid hnd4
      have R5 : Hid (Rdr (w4.alloc (cbox d)) g s (z : Int)) := Lib.hid (hr4.up ((Below.refl _ _).alloc (Nat.le_refl _) _))
      have M5 : Hid (Mv g w (w4.alloc (cbox d))) := Lib.hid ((HM.out.trans hm4).alloc _)
      have HLN : Hid (cs.length + [d].length ≤ 1954687338211) := Lib.hid (by have := HCL.out; simp; omega)
      have W5 : Hid (OwnC (w4.alloc (cbox d)) w.heap.size (.slice av cs.length capv) cs) := Lib.hid (HF.out.row.mv (hm4.alloc _) HG.out)
      clear hm4 hown4 hnd4 hr4 hrd4
      go_upto_region 7 with (at_builtin; refine wpList_append_cells rfl _ _ rfl w.heap.size _ _ cs [d] rfl W5.out rfl (OwnC.one w4 0 (Nat.zero_le _) d).row (by simp) HLN.out (w4.alloc (cbox d)) (Below.refl _ _) M5.out.size ?_; intro g6 cap6 w6 hown6 hb6 hgr6 hpl6)
      have F6 := Lib.hid (HF.out.addM M4.out HG.out O4.out N4.out (Nat.le_refl _) HM.out.size hown6 hgr6 hpl6)
      have M6 : Hid (Mv g w w6) := Lib.hid (M5.out.grown hgr6 (fun j hj => (own_block W5.out hj).1))
      have R6 : Hid (Rdr w6 g s (z : Int)) := Lib.hid ((hgr6.block g R5.out.lt (fun e => by have := (own_block W5.out e.symm).1; have := HG.out; omega)).trans R5.out)
      clear hown6 hb6 hgr6 hpl6
      have HCC : Hid ((⟨#[44]⟩ ++ ⟨#[c]⟩ : ByteArray).data.toList = [44, c]) := Lib.hid (by simp)
      have KG2 := Lib.hid (KG.out (⟨#[44]⟩ ++ ⟨#[c]⟩) z w6 R6.out hzs)
      rw [HCC.out] at KG2
      go_wp2_with fail
      refine KG2.out.mono ?_
      rintro e w7 ⟨hm7, ⟨cc, hS7, hmem, hlt7, rfl, hr7⟩ | ⟨v, hno, rfl, hf⟩⟩
      · have M7 := Lib.hid (M6.out.trans hm7)
        have F7 := Lib.hid (F6.out.mv hm7 HG.out)
        have R7 := Lib.hid hr7
        have HS7 := Lib.hid hS7
        have hcc : cc = 44 ∨ cc = c := by simpa using hmem
        clear hm7 hr7 hS7 hmem
        by_cases h4 : cc = 44
        · subst h4
          clear hcc
          go_wp2
          go_roundg (gk - (z - x))
          case measure => have := HGK.out; omega
          case rel => exact ⟨z, acc ++ [t'], cs ++ [d], Bs ++ [Bd], by have := HGK.out; omega, by omega, by omega, hlt7, by simp, by have := HCX.out; simp; omega, HS7.out, by have := F7.out; simpa using this, M7.out, R7.out, HRD.out⟩
        · have hc' : cc = c := hcc.resolve_left h4
          subst hc'
          have qc : (((cc.toNat : Nat) : Int) != 44) = true := by
            simp only [bne_iff_ne, ne_eq]
            intro e
            exact h4 (UInt8.toNat_inj.1 (by show cc.toNat = 44; omega))
          have HD : Hid (Rd S (.kids a deep cc []) (.ok (acc ++ [t']) (z + 1))) := Lib.hid (HRD.out _ (.done ⟨by have := HA.out; have : 0 < acc.length := List.length_pos_iff.2 this; simp; omega, HS7.out⟩))
          clear hcc
          go_wp2
          go_ret
          refine ⟨M7.out, .inl ⟨acc ++ [t'], cs ++ [d], Bs ++ [Bd], _, z + 1, HD.out, by have := HCX.out; simp; omega, hlt7, rfl, ?_, R7.out⟩⟩
          have := F7.out
          simpa using this
      · have M7 := Lib.hid (M6.out.trans hm7)
        have HD : Hid (Rd S (.kids a deep c []) (.bad 2 z)) := Lib.hid (HRD.out _ (.comma (fun h => hno c (by simp) h.2) (by simp) (hno 44 (by simp))))
        have HFF := Lib.hid hf
        clear hm7 hno hf
        go_wp2
        exact ⟨rfl, M7.out, .inr ⟨2, z, v, HD.out, by decide, rfl, HFF.out⟩⟩
    · have M4 := Lib.hid (HM.out.trans hm4)
      have HRD : Hid (Rd S (.kids a deep c []) (.bad er z)) := Lib.hid (HC.out _ (.kidBad HNE.out (.inr H44.out) (by rw [HNX.out]; exact hrd4)))
      have HFF := Lib.hid hf
      clear hm4 hrd4 hf
      go_wp2
      exact ⟨rfl, M4.out, .inr ⟨er, z, v, HRD.out, hne, rfl, HFF.out⟩⟩
end Go.Proofs.YtbelpnfgdjnpoaaGreatDoor
/- The reader reads a cell. -/
namespace Go.Proofs.YtbelpnfgdjnpoaaGreatDoor
open Go.RowKit

abbrev leafC (r : R) (id : Int) : C := ⟨1, r, id, none, 0, 0⟩
theorem leaf_any (r : R) (id : Int) (w : World) : Calls Tryz.prog 83 #[val r, .int .i64 id] w fun e w' => e = .returned (cval (leafC r id)) ∧ Below w.heap.size w w' := by
  have B1 : Hid (Below w.heap.size w ((w.alloc (.cells #[.int .i64 r.x, .int .i64 r.y, .int .i64 r.w, .int .i64 r.h] 24)).alloc (cbox (leafC r id)))) := ((Below.refl _ _).alloc (Nat.le_refl _) _).alloc (by simp) _
  go_enter Tryz.func83, Tryz.ntmps83
  go_wp2
  (try simp only [Exit.inBlock, Exit.then])
  refine bodyPost_ret (results_cell_row rfl _ _ (w.heap.size + 1) 27 _ (0, 0) _ rfl (heap_alloc2_new w _ (cbox (leafC r id))) Tryz.underlying27 rfl (by kernel_rfl)) rfl ?_
  exact ⟨rfl, B1.out⟩

theorem own_leafP (w : World) (base : Nat) (r : R) (i : Int) (hr : r.fits) (hi : fits i) : OwnT w base ⟨1, r, i, none, 0, 0⟩ (.node 1 r i []) [] :=
  .mk ⟨1, r, i, none, 0, 0⟩ [] [] [] ⟨⟨by show (0 : Int) ≤ 1; decide, by show (1 : Int) ≤ 255; decide⟩, hr, hi, by simp⟩ (OwnC.nil w base) rfl rfl (fun j x t S hx => by simp at hx)
theorem okN_fits {i : Int} (h : okN i) : fits i := ⟨by have := h.1; omega, by have := h.2; omega⟩
theorem okRfits {r : R} (h : okR r) : r.fits := ⟨okN_fits h.1, okN_fits h.2.1, okN_fits h.2.2.1, okN_fits h.2.2.2⟩
/-- A cell with kids, put into the answer's box. -/
theorem own_node {wr : World} {gx base b0 : Nat} {kd : Int} {r : R} {a : Option Addr} {cap : Nat} {cs : List C} {l : List T} {Ss : List (List Nat)} (h : Forest wr base (.slice a cs.length cap) cs l Ss) (hgx : gx < base) (hb0 : b0 ≤ base) (hk : 0 ≤ kd ∧ kd ≤ 255) (hr : r.fits) (hl : cs.length ≤ 1954687338211) :
    OwnT (put7 wr gx ⟨kd, r, 0, a, cs.length, cap⟩) b0 ⟨kd, r, 0, a, cs.length, cap⟩ (.node kd r 0 l) (blk (.slice a cs.length cap) ++ Ss.flatten) ∧ (blk (.slice a cs.length cap) ++ Ss.flatten).Nodup := by
  have hsame : ∀ j, base ≤ j → (put7 wr gx ⟨kd, r, 0, a, cs.length, cap⟩).heap[j]? = wr.heap[j]? := fun j hj => heap_put7 (by omega)
  refine ⟨?_, ?_⟩
  · refine .mk ⟨kd, r, 0, a, cs.length, cap⟩ l cs Ss ⟨hk, hr, ⟨by show (-9223372036854775808 : Int) ≤ 0; decide, by show (0 : Int) ≤ 9223372036854775807; decide⟩, by simp only; exact hl⟩ ((ownC_kept h.row fun g hg => hsame g (own_block h.row hg).1).lower hb0) h.len h.slen fun j x t S hx ht hS => ?_
    exact ((h.each j x t S hx ht hS).frame fun m hm => hsame m ((h.each j x t S hx ht hS).ge m hm).1).lower hb0
  · rw [List.nodup_append]
    refine ⟨?_, h.nodup, fun x hx y hy e => ?_⟩
    · unfold blk; split <;> simp
    · subst e
      unfold blk at hx
      split at hx
      · rename_i g hg
        simp at hx; subst hx
        exact h.apart _ hg hy
      · cases hx
theorem Mv.put7 {g : Nat} {a w : World} (h : Mv g a w) {b : Nat} (hb : a.heap.size ≤ b) (c : C) : Mv g a (put7 w b c) := ((((((h.put hb _).put hb _).put hb _).put hb _).put hb _).put hb _).put hb _
theorem Box4.put7 {w : World} {b b' : Nat} {r : R} (h : Box4 w b r) (hne : b' < b) (c : C) : Box4 (Go.Proofs.YtbelpnfgdjnpoaaGreatDoor.put7 w b' c) b r := (heap_put7 (by omega)).trans h
theorem Rdr.put7 {w : World} {g b : Nat} {s : ByteArray} {a : Int} (h : Rdr w g s a) (hne : g ≠ b) (c : C) : Rdr (put7 w b c) g s a := (heap_put7 hne).trans h

/-- What reading behind an opening bracket comes to. -/
def OpSays (S : List UInt8) (s : ByteArray) (g a deep : Nat) (k : Int) (r : R) (w : World) (e : Ending) (w' : World) : Prop :=
  Mv g w w' ∧ ((∃ (l : List T) (cs : List C) (Ss : List (List Nat)) (v : Value) (x : Nat), Rd S (.cell a deep) (.ok [.node k r 0 l] x) ∧ a < x ∧ cs.length ≤ x ∧ x ≤ s.size ∧ e = .returned v ∧ Forest w' w.heap.size v cs l Ss ∧ Rdr w' g s (x : Int)) ∨ ∃ (er : Int) (x : Nat) (v : Value), Rd S (.cell a deep) (.bad er x) ∧ er ≠ 0 ∧ e = threw v ∧ FltIn w' v er (x : Int))
theorem open_any (s : ByteArray) (hs : s.size ≤ 100000) (g N : Nat) (ih : CellsTo s g N) (a deep : Nat) (r : R) (b : Nat) (k : Int) (c : UInt8) (W : World) (hN : s.size - a < N + 1) (hdeep : deep ≤ 1000) (h0 : headP s.data.toList a = .ok (r, b)) (ho : opens s.data.toList b k c) (h1 : a < b) (h2 : b < s.size) (h3 : Rdr W g s ((b + 1 : Nat) : Int)) :
    Calls Tryz.prog 82 #[.pointer (some ⟨g, 0, none⟩), .int .i64 (IntKind.i64.wrap ((deep : Int) + 1)), .string ⟨#[c]⟩] W (OpSays s.data.toList s g a deep k r W) := by
  have hw : IntKind.i64.wrap ((deep : Int) + 1) = ((deep + 1 : Nat) : Int) := by
    have : (IntKind.i64.wrap ((deep : Int) + 1)) = (deep : Int) + 1 := wrap_id (by omega)
    rw [this]; omega
  rw [hw]
  have hc : c ≠ 44 := by rcases ho with ⟨-, -, rfl⟩ | ⟨-, -, rfl⟩ <;> decide
  by_cases hd : deep < 1000
  · refine (kids_any s hs g N ih (b + 1) (deep + 1) c hc W (by omega) (by omega) (by omega) h3).mono ?_
    rintro e w' ⟨hm, ⟨l, cs, Ss, v, x, hrd, hcx, hxs, rfl, hfo, hr⟩ | ⟨er, x, v, hrd, hne, rfl, hf⟩⟩
    · refine ⟨hm, .inl ⟨l, cs, Ss, v, x, .kids h0 ho hd hrd, ?_, hcx, hxs, rfl, hfo, hr⟩⟩
      obtain ⟨-, -, -, -, -, h, -⟩ := hrd.back
      omega
    · exact ⟨hm, .inr ⟨er, x, v, .kidsBad h0 ho hd hrd, hne, rfl, hf⟩⟩
  · refine (kids_long s g b (deep + 1) ⟨#[c]⟩ W h3 (by omega) (by omega) (by omega)).mono ?_
    rintro e w' ⟨hm, v, rfl, hf⟩
    exact ⟨hm, .inr ⟨3, b, v, .long h0 ho (by omega), by decide, rfl, hf⟩⟩

set_option maxRecDepth 100000 in
set_option maxHeartbeats 3000000 in
theorem cell_any (s : ByteArray) (hs : s.size ≤ 100000) (g N : Nat) : CellsTo s g N := by
  induction N with
  | zero => intro a deep w h; omega
  | succ N ih =>
    intro a deep w hN ha hdeep hr
    have KR := Lib.hid (fun W h => rect_any s hs g a W h ha)
    have KK : Hid (∀ (r : R) (b : Nat) (k : Int) (c : UInt8) (W : World), headP s.data.toList a = .ok (r, b) → opens s.data.toList b k c → a < b → b < s.size → Rdr W g s ((b + 1 : Nat) : Int) → Calls Tryz.prog 82 #[.pointer (some ⟨g, 0, none⟩), .int .i64 (IntKind.i64.wrap ((deep : Int) + 1)), .string ⟨#[c]⟩] W (OpSays s.data.toList s g a deep k r W)) := Lib.hid (fun r b k c W h0 ho h1 h2 h3 => open_any s hs g N ih a deep r b k c W hN hdeep h0 ho h1 h2 h3)
    have KN := Lib.hid (fun a W h ha => number_any s hs g a W h ha)
    have KG := Lib.hid (fun these a W h ha => sign_any s these hs g a W h ha)
    generalize s.data.toList = S at KR KK KN KG ⊢
    have HG := Lib.hid hr.lt
    have X0 := Lib.hid (Box7.new w zC)
    have M0 : Hid (Mv g w (w.alloc (cbox zC))) := Lib.hid ((Mv.refl g w).alloc _)
    have R0 : Hid (Rdr (w.alloc (cbox zC)) g s (a : Int)) := Lib.hid (hr.up ((Below.refl _ _).alloc (Nat.le_refl _) _))
    have NX : Hid (w.heap.size ≠ g) := Lib.hid (by have := HG.out; omega)
    clear hr ih
    go_enter Tryz.func53, Tryz.ntmps53
    go_upto_region 1 with (fail)
    change Code.wp _ _ _ _ (w.alloc (cbox zC))
    have HSZ : Hid ((w.alloc (cbox zC)).heap.size = w.heap.size + 1) := Lib.hid (by simp)
    generalize w.alloc (cbox zC) = w0 at X0 M0 R0 HSZ ⊢
    generalize hgx : w.heap.size = gx at X0 NX HSZ ⊢
    go_wp2_with fail
    refine (KR.out w0 R0.out).mono ?_
    rintro e w1 ⟨hm1, ⟨r, b, hhd, hbs, rfl, hr1⟩ | ⟨er, x, v, hhd, hne, rfl, hf⟩⟩
    case inr =>
      have M1 := Lib.hid (M0.out.trans hm1)
      have HF := Lib.hid hf
      have HRD : Hid (Rd S (.cell a deep) (.bad er x)) := Lib.hid (.headBad hhd)
      clear hm1 hhd hf
      go_wp2
      exact ⟨rfl, M1.out, .inr ⟨er, x, v, HRD.out, hne, rfl, HF.out⟩⟩
    obtain ⟨hokr, -, -, hab, -⟩ := head_sound hhd
    have HOK := Lib.hid hokr
    have HP := Lib.hid hhd
    have X2 : Hid (Box7 (w1.alloc (xbox r)) gx zC) := Lib.hid ((X0.out.mv hm1 NX.out).up ((Below.refl _ _).alloc (Nat.le_refl _) _))
    have Y2 := Lib.hid (Box4.new w1 r)
    have M2 : Hid (Mv g w (w1.alloc (xbox r))) := Lib.hid ((M0.out.trans hm1).alloc _)
    have R2 : Hid (Rdr (w1.alloc (xbox r)) g s (b : Int)) := Lib.hid (hr1.up ((Below.refl _ _).alloc (Nat.le_refl _) _))
    have NY : Hid (w1.heap.size ≠ g) := Lib.hid (by have := hr1.lt; omega)
    have NXY : Hid (gx < w1.heap.size) := Lib.hid (by have := hm1.size; have := HSZ.out; omega)
    clear hm1 hhd hr1 hokr
    go_upto_region 2 with (fail)
    change Code.wp _ _ _ _ (w1.alloc (xbox r))
    generalize w1.alloc (xbox r) = w2 at X2 Y2 M2 R2 ⊢
    generalize w1.heap.size = gy at Y2 NY NXY ⊢
    go_wp2_with fail
    refine (KG.out ⟨#[44, 123, 91]⟩ b w2 R2.out hbs).mono ?_
    rintro e w3 ⟨hm3, ⟨c, hS3, hmem, hlt, rfl, hr3⟩ | ⟨v, hno, rfl, hf⟩⟩
    case inr =>
      have M3 := Lib.hid (M2.out.trans hm3)
      have HF := Lib.hid hf
      have HRD : Hid (Rd S (.cell a deep) (.bad 2 b)) := Lib.hid (.form HP.out (hno 44 (by simp)) (hno 123 (by simp)) (hno 91 (by simp)))
      clear hm3 hno hf
      go_wp2
      exact ⟨rfl, M3.out, .inr ⟨2, b, v, HRD.out, by decide, rfl, HF.out⟩⟩
    have M3 := Lib.hid (M2.out.trans hm3)
    have X3 := Lib.hid (X2.out.mv hm3 NX.out)
    have Y3 := Lib.hid (Y2.out.mv hm3 NY.out)
    have R3 := Lib.hid hr3
    have HS3 := Lib.hid hS3
    have hcc : c = 44 ∨ c = 123 ∨ c = 91 := by simpa using hmem
    clear hm3 hS3 hmem hr3 X0 M0 R0 X2 Y2 M2 R2
    rcases hcc with rfl | rfl | rfl
    · go_upto_region 7 with (fail)
      have BD3 : Hid (Below w3.heap.size w3 w3.drew) := Lib.hid (Below.refl _ _).drew
      have S0 := Lib.hid Y3.out.cells
      have S1 := Lib.hid (Y3.out.up BD3.out).cells
      have R3d := Lib.hid (R3.out.up BD3.out)
      have M3d := Lib.hid (M3.out.then BD3.out)
      have X3d := Lib.hid (X3.out.up BD3.out)
      have Y3d := Lib.hid (Y3.out.up BD3.out)
      go_region_held2 (fun W => W.cell? ⟨gy, 0, none⟩ = some (.int .i64 r.x) ∧ W.cell? ⟨gy, 1, none⟩ = some (.int .i64 r.y) ∧ W.cell? ⟨gy, 2, none⟩ = some (.int .i64 r.w) ∧ W.cell? ⟨gy, 3, none⟩ = some (.int .i64 r.h)) (first | with_reducible exact S5.out | with_reducible exact S4.out | with_reducible exact S1.out | with_reducible exact S0.out | exact S6.out)
        (first
          | (go_at_call 84
             refine (KN.out (b + 1) w3.drew R3d.out (by omega)).mono ?_
             rintro e w4 ⟨hm4, ⟨i, x, hnum, hi, hbx, hxs, rfl, hr4⟩ | ⟨er, v, hnum, hne, rfl, hf⟩⟩
             case inr => exact ⟨rfl, M3d.out.trans hm4, .inr ⟨er, b + 1, v, .idBad HP.out HS3.out hnum, hne, rfl, hf⟩⟩
             have M4 := Lib.hid (M3d.out.trans hm4)
             have X4 := Lib.hid (X3d.out.mv hm4 NX.out)
             have Y4 := Lib.hid (Y3d.out.mv hm4 NY.out)
             have S4 := Lib.hid Y4.out.cells
             have R4 := Lib.hid hr4
             have HN := Lib.hid hnum
             have HI := Lib.hid hi
             clear hm4 hr4 hnum hi)
          | (go_at_call 83
             refine (leaf_any r i w4).mono ?_
             rintro e w5 ⟨rfl, hb5⟩
             have M5 := Lib.hid (M4.out.then hb5)
             have X5 := Lib.hid (X4.out.up hb5)
             have Y5 := Lib.hid (Y4.out.up hb5)
             have S5 := Lib.hid Y5.out.cells
             have S6 := Lib.hid (Box4.put7 Y5.out NXY.out (leafC r i)).cells
             have R5 := Lib.hid (R4.out.up hb5)
             clear hb5
             obtain ⟨e0, e1, e2, e3, e4, e5, e6⟩ := X5.out.cat
             simp only [Nat.zero_add] at e1 e2 e3 e4 e5 e6
             have k0 := X5.out.free 0
             have k1 := X5.out.free 1
             have k2 := X5.out.free 2
             have k3 := X5.out.free 3
             have k4 := X5.out.free 4
             have k5 := X5.out.free 5
             have k6 := X5.out.free 6))
      go_wp2
      refine bodyPost_ret (results_cell1 rfl _ _ gx (leafC r i) rfl (X5.out.put (leafC r i))) rfl ?_
      have T1 : Mv g w (put7 w5 gx (leafC r i)) := M5.out.put7 (by rw [hgx]; exact Nat.le_refl _) (leafC r i)
      have T2 : Rd S (.cell a deep) (.ok [.node 1 r i []] x) := .leaf HP.out HS3.out HN.out
      have T3 : OwnT (put7 w5 gx (leafC r i)) w.heap.size (leafC r i) (.node 1 r i []) [] := own_leafP (put7 w5 gx (leafC r i)) w.heap.size r i (okRfits HOK.out) (okN_fits HI.out)
      have T4 : Rdr (put7 w5 gx (leafC r i)) g s (x : Int) := R5.out.put7 (Ne.symm NX.out) (leafC r i)
      exact ⟨T1, .inl ⟨.node 1 r i [], leafC r i, [], x, T2, by omega, hxs, rfl, T3, List.nodup_nil, T4⟩⟩
    · have HOP : Hid (opens S b 2 125) := Lib.hid (.inl ⟨rfl, HS3.out, rfl⟩)
      go_upto_region 4 with (fail)
      have BD3 : Hid (Below w3.heap.size w3 w3.drew) := Lib.hid (Below.refl _ _).drew
      have S0 := Lib.hid Y3.out.cells
      have S1 := Lib.hid (Y3.out.up BD3.out).cells
      have R3d := Lib.hid (R3.out.up BD3.out)
      have M3d := Lib.hid (M3.out.then BD3.out)
      have X3d := Lib.hid (X3.out.up BD3.out)
      have Y3d := Lib.hid (Y3.out.up BD3.out)
      go_region_held2 (fun W => W.cell? ⟨gy, 0, none⟩ = some (.int .i64 r.x) ∧ W.cell? ⟨gy, 1, none⟩ = some (.int .i64 r.y) ∧ W.cell? ⟨gy, 2, none⟩ = some (.int .i64 r.w) ∧ W.cell? ⟨gy, 3, none⟩ = some (.int .i64 r.h)) (first | with_reducible exact S4.out | with_reducible exact S1.out | with_reducible exact S0.out | exact S6.out)
        (first
          | (go_at_call 82
             refine (KK.out r b 2 125 w3.drew HP.out HOP.out hab hlt R3d.out).mono ?_
             rintro e w4 ⟨hm4, ⟨l, cs, Ss, v, x, hrd, hax, hcx, hxs, rfl, hfo, hr4⟩ | ⟨er, x, v, hrd, hne, rfl, hf⟩⟩
             case inr => exact ⟨rfl, M3d.out.trans hm4, .inr ⟨er, x, v, hrd, hne, rfl, hf⟩⟩
             obtain ⟨av, capv, rfl⟩ := hfo.row.row.shape
             have M4 := Lib.hid (M3d.out.trans hm4)
             have X4 := Lib.hid (X3d.out.mv hm4 NX.out)
             have Y4 := Lib.hid (Y3d.out.mv hm4 NY.out)
             have S4 := Lib.hid Y4.out.cells
             have S6 := Lib.hid (Box4.put7 Y4.out NXY.out ⟨2, r, 0, av, cs.length, capv⟩).cells
             have R4 := Lib.hid hr4
             have HRD := Lib.hid hrd
             have HF := Lib.hid hfo
             have HCX := Lib.hid hcx
             clear hm4 hr4 hrd hfo hcx
             obtain ⟨e0, e1, e2, e3, e4, e5, e6⟩ := X4.out.cat
             simp only [Nat.zero_add] at e1 e2 e3 e4 e5 e6
             have k0 := X4.out.free 0
             have k1 := X4.out.free 1
             have k2 := X4.out.free 2
             have k3 := X4.out.free 3
             have k4 := X4.out.free 4
             have k5 := X4.out.free 5
             have k6 := X4.out.free 6))
      go_wp2
      refine bodyPost_ret (results_cell1 rfl _ _ gx ⟨2, r, 0, av, cs.length, capv⟩ rfl (X4.out.put ⟨2, r, 0, av, cs.length, capv⟩)) rfl ?_
      have HLT : gx < w3.drew.heap.size := by have h1 := NXY.out; have h2 := lt_of_block Y3d.out; omega
      obtain ⟨o1, o2⟩ := own_node (wr := w4) (gx := gx) (base := w3.drew.heap.size) (b0 := w.heap.size) (kd := 2) (r := r) (a := av) (cap := capv) (cs := cs) (l := l) (Ss := Ss) HF.out HLT (by omega) ⟨by decide, by decide⟩ (okRfits HOK.out) (by have := HCX.out; omega)
      have T1 : Mv g w (put7 w4 gx ⟨2, r, 0, av, cs.length, capv⟩) := M4.out.put7 (by rw [hgx]; exact Nat.le_refl _) ⟨2, r, 0, av, cs.length, capv⟩
      have T4 : Rdr (put7 w4 gx ⟨2, r, 0, av, cs.length, capv⟩) g s (x : Int) := R4.out.put7 (Ne.symm NX.out) ⟨2, r, 0, av, cs.length, capv⟩
      exact ⟨T1, .inl ⟨.node 2 r 0 l, ⟨2, r, 0, av, cs.length, capv⟩, blk (.slice av cs.length capv) ++ Ss.flatten, x, HRD.out, hax, hxs, rfl, o1, o2, T4⟩⟩
    · have HOP : Hid (opens S b 3 93) := Lib.hid (.inr ⟨rfl, HS3.out, rfl⟩)
      go_upto_region 6 with (fail)
      have BD3 : Hid (Below w3.heap.size w3 w3.drew) := Lib.hid (Below.refl _ _).drew
      have S0 := Lib.hid Y3.out.cells
      have S1 := Lib.hid (Y3.out.up BD3.out).cells
      have R3d := Lib.hid (R3.out.up BD3.out)
      have M3d := Lib.hid (M3.out.then BD3.out)
      have X3d := Lib.hid (X3.out.up BD3.out)
      have Y3d := Lib.hid (Y3.out.up BD3.out)
      go_region_held2 (fun W => W.cell? ⟨gy, 0, none⟩ = some (.int .i64 r.x) ∧ W.cell? ⟨gy, 1, none⟩ = some (.int .i64 r.y) ∧ W.cell? ⟨gy, 2, none⟩ = some (.int .i64 r.w) ∧ W.cell? ⟨gy, 3, none⟩ = some (.int .i64 r.h)) (first | with_reducible exact S4.out | with_reducible exact S1.out | with_reducible exact S0.out | exact S6.out)
        (first
          | (go_at_call 82
             refine (KK.out r b 3 93 w3.drew HP.out HOP.out hab hlt R3d.out).mono ?_
             rintro e w4 ⟨hm4, ⟨l, cs, Ss, v, x, hrd, hax, hcx, hxs, rfl, hfo, hr4⟩ | ⟨er, x, v, hrd, hne, rfl, hf⟩⟩
             case inr => exact ⟨rfl, M3d.out.trans hm4, .inr ⟨er, x, v, hrd, hne, rfl, hf⟩⟩
             obtain ⟨av, capv, rfl⟩ := hfo.row.row.shape
             have M4 := Lib.hid (M3d.out.trans hm4)
             have X4 := Lib.hid (X3d.out.mv hm4 NX.out)
             have Y4 := Lib.hid (Y3d.out.mv hm4 NY.out)
             have S4 := Lib.hid Y4.out.cells
             have S6 := Lib.hid (Box4.put7 Y4.out NXY.out ⟨3, r, 0, av, cs.length, capv⟩).cells
             have R4 := Lib.hid hr4
             have HRD := Lib.hid hrd
             have HF := Lib.hid hfo
             have HCX := Lib.hid hcx
             clear hm4 hr4 hrd hfo hcx
             obtain ⟨e0, e1, e2, e3, e4, e5, e6⟩ := X4.out.cat
             simp only [Nat.zero_add] at e1 e2 e3 e4 e5 e6
             have k0 := X4.out.free 0
             have k1 := X4.out.free 1
             have k2 := X4.out.free 2
             have k3 := X4.out.free 3
             have k4 := X4.out.free 4
             have k5 := X4.out.free 5
             have k6 := X4.out.free 6))
      go_wp2
      refine bodyPost_ret (results_cell1 rfl _ _ gx ⟨3, r, 0, av, cs.length, capv⟩ rfl (X4.out.put ⟨3, r, 0, av, cs.length, capv⟩)) rfl ?_
      have HLT : gx < w3.drew.heap.size := by have h1 := NXY.out; have h2 := lt_of_block Y3d.out; omega
      obtain ⟨o1, o2⟩ := own_node (wr := w4) (gx := gx) (base := w3.drew.heap.size) (b0 := w.heap.size) (kd := 3) (r := r) (a := av) (cap := capv) (cs := cs) (l := l) (Ss := Ss) HF.out HLT (by omega) ⟨by decide, by decide⟩ (okRfits HOK.out) (by have := HCX.out; omega)
      have T1 : Mv g w (put7 w4 gx ⟨3, r, 0, av, cs.length, capv⟩) := M4.out.put7 (by rw [hgx]; exact Nat.le_refl _) ⟨3, r, 0, av, cs.length, capv⟩
      have T4 : Rdr (put7 w4 gx ⟨3, r, 0, av, cs.length, capv⟩) g s (x : Int) := R4.out.put7 (Ne.symm NX.out) ⟨3, r, 0, av, cs.length, capv⟩
      exact ⟨T1, .inl ⟨.node 3 r 0 l, ⟨3, r, 0, av, cs.length, capv⟩, blk (.slice av cs.length capv) ++ Ss.flatten, x, HRD.out, hax, hxs, rfl, o1, o2, T4⟩⟩
end Go.Proofs.YtbelpnfgdjnpoaaGreatDoor
