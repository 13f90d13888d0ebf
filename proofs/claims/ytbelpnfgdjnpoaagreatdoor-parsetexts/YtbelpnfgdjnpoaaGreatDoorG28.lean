/- Texts of this seat, 3 in one file. -/
import Derived.Test.YtbelpnfgdjnpoaaGreatDoorG27
import Derived.Defers
import Derived.Recover
/- What was thrown is caught at the face, and told by its type. -/
namespace Go.Proofs.YtbelpnfgdjnpoaaGreatDoor
open Go.RowKit

theorem asEE (n : Int) (w : World) : (Instr.typeAssert (.iface 37 (.int .i64 n)) 20 37 true).run Tryz.prog w = .ok (.tuple #[.int .i64 n, .bool true]) w := by kernel_rfl
theorem asFE (v : Value) (w : World) : (Instr.typeAssert (.iface 92 v) 20 37 true).run Tryz.prog w = .ok (.tuple #[.int .i64 0, .bool false]) w := by kernel_rfl
theorem asFR (v : Value) (w : World) : (Instr.typeAssert (.iface 92 v) 20 29 true).run Tryz.prog w = .ok (.tuple #[.iface 92 v, .bool true]) w := by kernel_rfl
theorem asNE (w : World) : (Instr.typeAssert .nilIface 20 37 true).run Tryz.prog w = .ok (.tuple #[.int .i64 0, .bool false]) w := by kernel_rfl
theorem asNR (w : World) : (Instr.typeAssert .nilIface 20 29 true).run Tryz.prog w = .ok (.tuple #[.nilIface, .bool false]) w := by kernel_rfl

set_option maxRecDepth 100000 in
set_option maxHeartbeats 2000000 in
theorem catch_fault (p : Addr) (b : Addr) (old : Value) (w : World) (hc : w.cell? p = some old) (hz : w.frozen? p = false) :
    CallsD Tryz.prog 49 #[.pointer (some p)] (.panicking [{ v := .iface 92 (.pointer (some b)), recovered := false }]) w fun e u' w' =>
      e = .returned (.tuple #[]) ∧ u' = .panicking [{ v := .iface 92 (.pointer (some b)), recovered := true }] ∧ w' = w.setCell p (.iface 92 (.pointer (some b))) := by
  have a1 := asFE
  have a2 := asFR
  refine callsD_of_wpS Tryz.func49 rfl fun c₀ cs hu => ?_
  apply wpS_seq
  apply wpS_region
  simp [wpOpsS, go_sem, recoverD, hu, Tryz.ntmps49, Exit.thenS]
  refine wpS_of_wp ?_
  change Code.wp _ _ _ ({ tmps := #[.pointer (some p), undef, undef, .iface 92 (.pointer (some b)), undef, undef, undef, undef, undef, undef, undef, undef, undef], defers := [] } : Act) w
  go_wp2
  simp [bodyPostS, results, Tryz.results49]

set_option maxRecDepth 100000 in
set_option maxHeartbeats 2000000 in
theorem catch_errno (p : Addr) (n : Int) (hn : n ≠ 0) (old : Value) (w : World) (hc : w.cell? p = some old) (hz : w.frozen? p = false) :
    CallsD Tryz.prog 49 #[.pointer (some p)] (.panicking [{ v := .iface 37 (.int .i64 n), recovered := false }]) w fun e u' w' =>
      e = .returned (.tuple #[]) ∧ u' = .panicking [{ v := .iface 37 (.int .i64 n), recovered := true }] ∧ ∃ v w1, FltIn w1 v n 0 ∧ Below w.heap.size w w1 ∧ w' = w1.setCell p v := by
  have a1 := asEE
  have HL := Lib.hid (lt_of_cell hc)
  have HC := Lib.hid hc
  have HZ := Lib.hid hz
  clear hc hz
  refine callsD_of_wpS Tryz.func49 rfl fun c₀ cs hu => ?_
  apply wpS_seq
  apply wpS_region
  simp [wpOpsS, go_sem, recoverD, hu, Tryz.ntmps49, Exit.thenS]
  refine wpS_of_wp ?_
  change Code.wp _ _ _ ({ tmps := #[.pointer (some p), undef, undef, .iface 37 (.int .i64 n), undef, undef, undef, undef, undef, undef, undef, undef, undef], defers := [] } : Act) w
  go_wp2_with fail
  refine (newf_any n 0 w hn).mono ?_
  rintro e w1 ⟨v, rfl, hf, hb⟩
  obtain ⟨bb, rfl, hf1, hf2⟩ := hf
  have hc1 := (hb.cell HL.out).trans HC.out
  have hz1 := (hb.frozen HL.out).trans HZ.out
  have HF : Hid (FltIn w1 (.iface 92 (.pointer (some ⟨bb, 0, none⟩))) n 0) := Lib.hid ⟨bb, rfl, hf1, hf2⟩
  have HB := Lib.hid hb
  clear hf1 hf2 hb
  go_wp2
  refine ⟨rfl, _, rfl, _, ?_, rfl, rfl, _, w1, HF.out, HB.out, rfl⟩
  simp [results, Tryz.results49]
set_option maxRecDepth 100000 in
set_option maxHeartbeats 2000000 in
theorem catch_none (p : Addr) (w : World) :
    CallsD Tryz.prog 49 #[.pointer (some p)] .returning w fun e u' w' => e = .returned (.tuple #[]) ∧ u' = .returning ∧ w' = w := by
  have a1 := asNE
  have a2 := asNR
  refine callsD_of_wpS Tryz.func49 rfl fun c₀ cs hu => ?_
  apply wpS_seq
  apply wpS_region
  simp [wpOpsS, go_sem, recoverD, hu, Tryz.ntmps49, Exit.thenS]
  refine wpS_of_wp ?_
  change Code.wp _ _ _ ({ tmps := #[.pointer (some p), undef, undef, .nilIface, undef, undef, undef, undef, undef, undef, undef, undef, undef], defers := [] } : Act) w
  go_wp2
  cases c₀
  simp_all [bodyPostS, results, Tryz.results49]

theorem flt_other {w : World} {v : Value} {n k : Int} {g : Nat} (h : FltIn w v n k) (hg : w.heap[g]? = some (.cells #[.nilIface] 29)) (u : Value) : FltIn (w.setCell ⟨g, 0, none⟩ u) v n k := by
  obtain ⟨b, h1, h2, h3⟩ := h
  have hne : b ≠ g := fun e => by
    subst e
    rw [show w.cell? ⟨b, 0, none⟩ = some .nilIface by simp [World.cell?, hg]] at h2
    cases h2
  have hb := Below.heap_setCell w ⟨g, 0, none⟩ u b hne
  exact ⟨b, h1, (World.cell?_of_block hb).trans h2, (World.cell?_of_block hb).trans h3⟩
/-- What caught answers. -/
def CaSays (Rel : WR → Prop) (w : World) (e : Ending) (w' : World) : Prop :=
  Below w.heap.size w w' ∧ ((∃ (t : T) (d : C) (Bd : List Nat), Rel (.yes t) ∧ e = .returned (.tuple #[cval d, .nilIface]) ∧ OwnT w' w.heap.size d t Bd) ∨ ∃ (er pl : Int) (v : Value), Rel (.no er pl) ∧ er ≠ 0 ∧ e = .returned (.tuple #[cval zC, v]) ∧ FltIn w' v er pl)
abbrev CW (w : World) : World := (w.alloc (cbox zC)).alloc (.cells #[.nilIface] 29)
theorem size_cw (w : World) : (CW w).heap.size = w.heap.size + 2 := by simp
theorem results_ce {fn : Func} {p q : Tmp} (h : fn.results = #[.cell p 27, .cell q 29]) (tmps : Array Value) (w : World) (g g2 : Nat) (c : C) (v : Value) (hp : tmps.getD p undef = .pointer (some ⟨g, 0, none⟩)) (hq : tmps.getD q undef = .pointer (some ⟨g2, 0, none⟩)) (hg : Box7 w g c) (hv : w.heap[g2]? = some (.cells #[v] 29)) :
    (results fn tmps).run Tryz.prog w = .ok (.tuple #[cval c, v]) w := by
  have hg' : w.heap[g]? = some (cbox c) := hg
  have hl := run_loadVar_row (P := Tryz.prog) w g 27 27 _ (0, 0) _ hg' Tryz.underlying27 rfl (by kernel_rfl)
  have h2 : (loadVar 29 ⟨g2, 0, none⟩).run Tryz.prog w = .ok v w := by
    have hc : w.cell? ⟨g2, 0, none⟩ = some v := by simp [World.cell?, hv]
    simp [go_sem, hc]
  have h0 : (results fn tmps).run Tryz.prog w = ((asAddr (tmps.getD p undef)).run Tryz.prog w).andThen fun a w₁ => ((loadVar 27 a).run Tryz.prog w₁).andThen fun x w₂ => ((asAddr (tmps.getD q undef)).run Tryz.prog w₂).andThen fun a w₁ => ((loadVar 29 a).run Tryz.prog w₁).andThen fun y w₂ => .ok (.tuple #[x, y]) w₂ := by
    simp only [results, h]
    simp [Sem.run_bind, Result.andThen]
  rw [h0, hp, hq]
  simp [asAddr, hl, h2, Result.andThen]

set_option maxRecDepth 100000 in
set_option maxHeartbeats 4000000 in
theorem caught_any (F : Nat) (hE : Enters F) (caps : Array Value) (Rel : WR → Prop) (w : World) (hF : Calls Tryz.prog F caps (CW w) (TfSays Rel (CW w))) :
    Calls Tryz.prog 25 #[.func (.func F) #[] caps] w (CaSays Rel w) := by
  have hmf : ∀ (fn : Fn) (first cap : Array Value) (w : World), (Instr.makeFunc fn first cap).run Tryz.prog w = .ok (.func fn first cap) w := fun _ _ _ _ => rfl
  have hent : ∀ (args : Array Value) (w : World), (callFunc F args).run Tryz.prog w = .ok (.enter F args) w := hE
  have HF := Lib.hid hF
  clear hF
  go_enter_defers Tryz.func25, Tryz.ntmps25
  have X0 : Hid (Box7 (CW w) w.heap.size zC) := Lib.hid ((Box7.new w zC).up ((Below.refl _ _).alloc (Nat.le_refl _) _))
  have V0 : Hid ((CW w).heap[w.heap.size + 1]? = some (.cells #[.nilIface] 29)) := Lib.hid (by have := heap_alloc_new (w.alloc (cbox zC)) (.cells #[.nilIface] 29); simpa using this)
  have B0 : Hid (Below w.heap.size w (CW w)) := Lib.hid (((Below.refl _ _).alloc (Nat.le_refl _) _).alloc (by simp) _)
  have HZ := Lib.hid (size_cw w)
  go_wp2_with fail
  refine HF.out.mono ?_
  rintro e w1 ⟨hb1, ⟨t, d, Bd, hrel, rfl, hown⟩ | ⟨er, pl, v, hrel, hne, rfl, hthr⟩⟩
  · have X1 := Lib.hid (X0.out.up hb1)
    have V1 : Hid (w1.heap[w.heap.size + 1]? = some (.cells #[.nilIface] 29)) := Lib.hid ((hb1.block _ (by rw [HZ.out]; omega)).trans V0.out)
    have B1 : Hid (Below w.heap.size w w1) := Lib.hid (B0.out.trans (hb1.mono B0.out.size))
    have O1 : Hid (OwnT w1 (w.heap.size + 2) d t Bd) := Lib.hid (by rw [← HZ.out]; exact hown)
    have HRL := Lib.hid hrel
    clear hb1 hown hrel
    generalize hgx : w.heap.size = gx at X1 V1 B1 O1 ⊢
    obtain ⟨e0, e1, e2, e3, e4, e5, e6⟩ := X1.out.cat
    simp only [Nat.zero_add] at e1 e2 e3 e4 e5 e6
    have k0 := X1.out.free 0
    have k1 := X1.out.free 1
    have k2 := X1.out.free 2
    have k3 := X1.out.free 3
    have k4 := X1.out.free 4
    have k5 := X1.out.free 5
    have k6 := X1.out.free 6
    have v0 : w1.cell? ⟨gx + 1, 0, none⟩ = some .nilIface := by simp [World.cell?, V1.out]
    have vf : w1.frozen? ⟨gx + 1, 0, none⟩ = false := by simp [World.frozen?, V1.out]
    go_wp2
    have XX : Box7 ((put7 w1 gx d).setCell ⟨gx + 1, 0, none⟩ .nilIface) gx d := (Below.heap_setCell (put7 w1 gx d) ⟨gx + 1, 0, none⟩ .nilIface gx (show gx ≠ gx + 1 by omega)).trans (X1.out.put d)
    have VV : ((put7 w1 gx d).setCell ⟨gx + 1, 0, none⟩ .nilIface).heap[gx + 1]? = some (.cells #[.nilIface] 29) := (set_block (i := 0) ((heap_put7 (c := d) (show gx + 1 ≠ gx by omega)).trans V1.out) .nilIface).trans (by simp)
    have BB : Below w.heap.size w ((put7 w1 gx d).setCell ⟨gx + 1, 0, none⟩ .nilIface) := (below_put7 (by rw [hgx]; exact B1.out) (by omega) d).setCell (by simp; omega) .nilIface
    have OO : OwnT ((put7 w1 gx d).setCell ⟨gx + 1, 0, none⟩ .nilIface) w.heap.size d t Bd := (O1.out.frame fun m hm => by
      have := (O1.out.ge m hm).1
      rw [Below.heap_setCell (put7 w1 gx d) ⟨gx + 1, 0, none⟩ .nilIface m (show m ≠ gx + 1 by omega), heap_put7 (by omega)]).lower (by omega)
    change bodyPostD _ _ _ _ _ ((put7 w1 gx d).setCell ⟨gx + 1, 0, none⟩ .nilIface)
    generalize (put7 w1 gx d).setCell ⟨gx + 1, 0, none⟩ .nilIface = W at XX VV BB OO ⊢
    refine leaves_cons (f := 49) (args := #[.pointer (some ⟨gx + 1, 0, none⟩)]) (by simp) (by simp [go_sem]) ?_
    refine (catch_none ⟨gx + 1, 0, none⟩ W).mono ?_
    rintro e u' w'' ⟨rfl, rfl, rfl⟩
    exact ⟨_, results_ce rfl _ _ gx (gx + 1) d .nilIface rfl rfl XX VV, BB, .inl ⟨t, d, Bd, HRL.out, rfl, OO⟩⟩
  · have X1 := Lib.hid (X0.out.up hb1)
    have V1 : Hid (w1.heap[w.heap.size + 1]? = some (.cells #[.nilIface] 29)) := Lib.hid ((hb1.block _ (by rw [HZ.out]; omega)).trans V0.out)
    have B1 : Hid (Below w.heap.size w w1) := Lib.hid (B0.out.trans (hb1.mono B0.out.size))
    have HRL := Lib.hid hrel
    clear hb1 hrel
    generalize hgx : w.heap.size = gx at X1 V1 B1 ⊢
    have v0 : w1.cell? ⟨gx + 1, 0, none⟩ = some .nilIface := by simp [World.cell?, V1.out]
    have vf : w1.frozen? ⟨gx + 1, 0, none⟩ = false := by simp [World.frozen?, V1.out]
    have HV0 := Lib.hid v0
    have HVF := Lib.hid vf
    clear v0 vf
    rcases hthr with hf | ⟨rfl, rfl⟩
    · obtain ⟨b, rfl, hf1, hf2⟩ := hf
      have HF1 : Hid (FltIn w1 (.iface 92 (.pointer (some ⟨b, 0, none⟩))) er pl) := Lib.hid ⟨b, rfl, hf1, hf2⟩
      clear hf1 hf2
      go_wp2
      have XX : Box7 (w1.setCell ⟨gx + 1, 0, none⟩ (.iface 92 (.pointer (some ⟨b, 0, none⟩)))) gx zC := (Below.heap_setCell w1 ⟨gx + 1, 0, none⟩ _ gx (show gx ≠ gx + 1 by omega)).trans X1.out
      have VV : (w1.setCell ⟨gx + 1, 0, none⟩ (.iface 92 (.pointer (some ⟨b, 0, none⟩)))).heap[gx + 1]? = some (.cells #[.iface 92 (.pointer (some ⟨b, 0, none⟩))] 29) := (set_block (i := 0) V1.out _).trans (by simp)
      have BB : Below w.heap.size w (w1.setCell ⟨gx + 1, 0, none⟩ (.iface 92 (.pointer (some ⟨b, 0, none⟩)))) := (show Below w.heap.size w w1 by rw [hgx]; exact B1.out).setCell (by simp; omega) _
      have FF := flt_other HF1.out V1.out (.iface 92 (.pointer (some ⟨b, 0, none⟩)))
      refine leaves_cons (f := 49) (args := #[.pointer (some ⟨gx + 1, 0, none⟩)]) (by simp) (by simp [go_sem]) ?_
      refine (catch_fault ⟨gx + 1, 0, none⟩ ⟨b, 0, none⟩ .nilIface w1 HV0.out HVF.out).mono ?_
      rintro e u' w'' ⟨rfl, rfl, rfl⟩
      exact ⟨_, results_ce rfl _ _ gx (gx + 1) zC _ rfl rfl XX VV, BB, .inr ⟨er, pl, _, HRL.out, hne, rfl, FF⟩⟩
    · go_wp2
      refine leaves_cons (f := 49) (args := #[.pointer (some ⟨gx + 1, 0, none⟩)]) (by simp) (by simp [go_sem]) ?_
      refine (catch_errno ⟨gx + 1, 0, none⟩ er hne .nilIface w1 HV0.out HVF.out).mono ?_
      rintro e u' w'' ⟨rfl, rfl, v, w2, hf, hb2, rfl⟩
      have V2 := (hb2.block _ (lt_of_block V1.out)).trans V1.out
      have XX : Box7 (w2.setCell ⟨gx + 1, 0, none⟩ v) gx zC := (Below.heap_setCell w2 ⟨gx + 1, 0, none⟩ v gx (show gx ≠ gx + 1 by omega)).trans (X1.out.up hb2)
      have VV : (w2.setCell ⟨gx + 1, 0, none⟩ v).heap[gx + 1]? = some (.cells #[v] 29) := (set_block (i := 0) V2 _).trans (by simp)
      have B2 : Below w.heap.size w w2 := by rw [hgx]; exact B1.out.trans (hb2.mono (by have := B1.out.size; omega))
      have BB : Below w.heap.size w (w2.setCell ⟨gx + 1, 0, none⟩ v) := B2.setCell (by simp; omega) v
      have FF := flt_other hf V2 v
      exact ⟨_, results_ce rfl _ _ gx (gx + 1) zC v rfl rfl XX VV, BB, .inr ⟨er, 0, v, HRL.out, hne, rfl, FF⟩⟩
end Go.Proofs.YtbelpnfgdjnpoaaGreatDoor
/- The faces: the tree of a text, of a body. -/
namespace Go.Proofs.YtbelpnfgdjnpoaaGreatDoor
open Go.RowKit
open Sash.Sum (cutE cutX)

theorem TextP.of_cut {S : List UInt8} {o : WR} (h : cutE S = 0) (h2 : TreeR S 5 o) : TextP S o := by
  cases o with
  | no e pl => exact .inr ⟨h, h2⟩
  | yes t => exact ⟨h, h2⟩
theorem BodyP.of_len {S : List UInt8} {o : WR} (h : S.length ≤ 65530) (h2 : TreeR S 0 o) : BodyP S o := by
  cases o with
  | no e pl => exact .inr ⟨h, h2⟩
  | yes t => exact ⟨h, h2⟩

set_option maxRecDepth 100000 in
set_option maxHeartbeats 2000000 in
theorem text1_any (s : ByteArray) (hs : s.size ≤ 100000) (p : Addr) (w : World) (hp : w.cell? p = some (.string s)) (hg : Er.EtLaid w) :
    Calls Tryz.prog 26 #[.pointer (some p)] w (TfSays (TextP s.data.toList) w) := by
  have hSL : s.data.toList.length = s.size := by simp
  have KU := Lib.hid (fun W => cutS_any s W)
  have KT := Lib.hid (fun (k : Nat) (hk : k ≤ s.size) (W : World) h => treeFrom_any s hs k hk W h)
  generalize s.data.toList = S at KU KT hSL ⊢
  have HSL := Lib.hid hSL
  have HP := Lib.hid hp
  have HE := Lib.hid hg
  have X0 := Lib.hid (Box7.new w zC)
  have B0 : Hid (Below w.heap.size w (w.alloc (cbox zC))) := Lib.hid ((Below.refl _ _).alloc (Nat.le_refl _) _)
  have p0 := (B0.out.cell (lt_of_cell hp)).trans hp
  have HZ : Hid ((w.alloc (cbox zC)).heap.size = w.heap.size + 1) := Lib.hid (by simp)
  clear hp hg hSL
  go_enter Tryz.func26, Tryz.ntmps26
  go_upto_region 1 with (fail)
  change Code.wp _ _ _ _ (w.alloc (cbox zC))
  generalize w.alloc (cbox zC) = w0 at X0 B0 p0 HZ ⊢
  by_cases hz : cutE S = 0
  · have HCZ := Lib.hid hz
    rw [hz] at KU
    have HBL : Hid ((cutX S).length + 5 = s.size) := Lib.hid (by
      obtain ⟨c1, c2⟩ := cut_five hz
      rw [c1, List.length_drop]
      have := HSL.out
      omega)
    have HBS : Hid ((⟨(cutX S).toArray⟩ : ByteArray).size = (cutX S).length) := Lib.hid rfl
    generalize (⟨(cutX S).toArray⟩ : ByteArray) = bd at KU HBS
    clear hz
    go_wp2_with fail
    refine (KU.out w0).mono ?_
    rintro e w1 ⟨rfl, hb1⟩
    have B1 := Lib.hid (B0.out.trans (hb1.mono B0.out.size))
    have X1 := Lib.hid (X0.out.up hb1)
    have p1 := (hb1.cell (lt_of_cell p0)).trans p0
    have HZ1 : Hid (w.heap.size + 1 ≤ w1.heap.size) := Lib.hid (by have := HZ.out; have := hb1.size; omega)
    clear hb1 p0
    go_wp2_with fail
    refine (ask_ok w1).mono ?_
    rintro e w2 ⟨rfl, hw2⟩
    rw [hw2]
    clear hw2 w2
    have KT5 : Hid (∀ (n : Int), n = 5 → Calls Tryz.prog 29 #[.string s, .int .i64 n] w1 (TfSays (TreeR S 5) w1)) := Lib.hid (fun n hn => by subst hn; exact KT.out 5 (by have := HBL.out; omega) w1 (et_up HE.out B1.out))
    go_wp2_with fail
    refine (KT5.out _ (by have h1 := HBL.out; have h2 := HBS.out; unfold wrap64; omega)).mono ?_
    rintro e w3 ⟨hb3, ⟨t, d, Bd, hrel, rfl, hown⟩ | ⟨er, pl, v, hrel, hne, rfl, hthr⟩⟩
    · have B3 := Lib.hid (B1.out.trans (hb3.mono B1.out.size))
      have X3 := Lib.hid (X1.out.up hb3)
      have O3 := Lib.hid hown
      have HRL := Lib.hid (TextP.of_cut HCZ.out hrel)
      clear hb3 hown hrel p1
      obtain ⟨e0, e1, e2, e3, e4, e5, e6⟩ := X3.out.cat
      simp only [Nat.zero_add] at e1 e2 e3 e4 e5 e6
      have k0 := X3.out.free 0
      have k1 := X3.out.free 1
      have k2 := X3.out.free 2
      have k3 := X3.out.free 3
      have k4 := X3.out.free 4
      have k5 := X3.out.free 5
      have k6 := X3.out.free 6
      go_wp2
      refine bodyPost_ret (results_cell1 rfl _ _ w.heap.size d rfl (X3.out.put d)) rfl ?_
      have T1 : Below w.heap.size w (put7 w3 w.heap.size d) := below_put7 B3.out (Nat.le_refl _) d
      have T2 : OwnT (put7 w3 w.heap.size d) w.heap.size d t Bd := (O3.out.frame fun m hm => heap_put7 (by have := (O3.out.ge m hm).1; have := HZ1.out; omega)).lower (by have := HZ1.out; omega)
      exact ⟨T1, .inl ⟨t, d, Bd, HRL.out, rfl, T2⟩⟩
    · have B3 := Lib.hid (B1.out.trans (hb3.mono B1.out.size))
      have HRL := Lib.hid (TextP.of_cut HCZ.out hrel)
      have HT := Lib.hid hthr
      clear hb3 hrel hthr p1
      go_wp2
      exact ⟨rfl, B3.out, .inr ⟨er, pl, v, HRL.out, hne, rfl, HT.out⟩⟩
  · have HRL : Hid (TextP S (.no (cutE S) 0)) := Lib.hid (.inl ⟨hz, rfl, rfl⟩)
    generalize (⟨(cutX S).toArray⟩ : ByteArray) = bd at KU
    generalize cutE S = ce at KU hz HRL
    go_wp2_with fail
    refine (KU.out w0).mono ?_
    rintro e w1 ⟨rfl, hb1⟩
    have B1 := Lib.hid (B0.out.trans (hb1.mono B0.out.size))
    clear hb1 p0
    go_wp2_with fail
    refine (ask_no ce hz w1).mono ?_
    rintro e w2 ⟨rfl, hw2⟩
    rw [hw2]
    clear hw2 w2
    go_wp2
    exact ⟨rfl, B1.out, .inr ⟨ce, 0, _, HRL.out, hz, rfl, .inr ⟨rfl, rfl⟩⟩⟩

set_option maxRecDepth 100000 in
set_option maxHeartbeats 2000000 in
theorem body1_any (s : ByteArray) (hs : s.size ≤ 100000) (p : Addr) (w : World) (hp : w.cell? p = some (.string s)) (hg : Er.EtLaid w) :
    Calls Tryz.prog 38 #[.pointer (some p)] w (TfSays (BodyP s.data.toList) w) := by
  have hSL : s.data.toList.length = s.size := by simp
  have KT : Hid (∀ (W : World), Er.EtLaid W → Calls Tryz.prog 29 #[.string s, .int .i64 0] W (TfSays (TreeR s.data.toList 0) W)) := Lib.hid (fun W h => treeFrom_any s hs 0 (Nat.zero_le _) W h)
  generalize s.data.toList = S at KT hSL ⊢
  have HSL := Lib.hid hSL
  have HE := Lib.hid hg
  have X0 := Lib.hid (Box7.new w zC)
  have B0 : Hid (Below w.heap.size w (w.alloc (cbox zC))) := Lib.hid ((Below.refl _ _).alloc (Nat.le_refl _) _)
  have p0 := (B0.out.cell (lt_of_cell hp)).trans hp
  have HZ : Hid ((w.alloc (cbox zC)).heap.size = w.heap.size + 1) := Lib.hid (by simp)
  clear hp hg hSL
  go_enter Tryz.func38, Tryz.ntmps38
  go_upto_region 1 with (fail)
  change Code.wp _ _ _ _ (w.alloc (cbox zC))
  generalize w.alloc (cbox zC) = w0 at X0 B0 p0 HZ ⊢
  by_cases hl : 65530 < s.size
  · have q1 : decide ((65530 : Int) < (s.size : Int)) = true := decide_eq_true (by omega)
    have q2 : decide (65530 < s.size) = true := decide_eq_true hl
    have q3 : (65530 < s.size) = True := eq_true hl
    have HRL : Hid (BodyP S (.no 3 0)) := Lib.hid (.inl ⟨by have := HSL.out; omega, rfl, rfl⟩)
    go_wp2
    exact ⟨rfl, B0.out, .inr ⟨3, 0, _, HRL.out, by decide, rfl, .inr ⟨rfl, rfl⟩⟩⟩
  · have q1 : decide ((65530 : Int) < (s.size : Int)) = false := decide_eq_false (by omega)
    have q2 : decide (65530 < s.size) = false := decide_eq_false hl
    have q3 : (65530 < s.size) = False := eq_false hl
    have HLL : Hid (S.length ≤ 65530) := Lib.hid (by have := HSL.out; omega)
    go_wp2_with fail
    refine (KT.out w0 (et_up HE.out B0.out)).mono ?_
    rintro e w3 ⟨hb3, ⟨t, d, Bd, hrel, rfl, hown⟩ | ⟨er, pl, v, hrel, hne, rfl, hthr⟩⟩
    · have B3 := Lib.hid (B0.out.trans (hb3.mono B0.out.size))
      have X3 := Lib.hid (X0.out.up hb3)
      have O3 := Lib.hid hown
      have HRL := Lib.hid (BodyP.of_len HLL.out hrel)
      clear hb3 hown hrel p0
      obtain ⟨e0, e1, e2, e3, e4, e5, e6⟩ := X3.out.cat
      simp only [Nat.zero_add] at e1 e2 e3 e4 e5 e6
      have k0 := X3.out.free 0
      have k1 := X3.out.free 1
      have k2 := X3.out.free 2
      have k3 := X3.out.free 3
      have k4 := X3.out.free 4
      have k5 := X3.out.free 5
      have k6 := X3.out.free 6
      go_wp2
      refine bodyPost_ret (results_cell1 rfl _ _ w.heap.size d rfl (X3.out.put d)) rfl ?_
      have T1 : Below w.heap.size w (put7 w3 w.heap.size d) := below_put7 B3.out (Nat.le_refl _) d
      have T2 : OwnT (put7 w3 w.heap.size d) w.heap.size d t Bd := (O3.out.frame fun m hm => heap_put7 (by have := (O3.out.ge m hm).1; have := HZ.out; omega)).lower (by have := HZ.out; omega)
      exact ⟨T1, .inl ⟨t, d, Bd, HRL.out, rfl, T2⟩⟩
    · have B3 := Lib.hid (B0.out.trans (hb3.mono B0.out.size))
      have HRL := Lib.hid (BodyP.of_len HLL.out hrel)
      have HT := Lib.hid hthr
      clear hb3 hrel hthr p0
      go_wp2
      exact ⟨rfl, B3.out, .inr ⟨er, pl, v, HRL.out, hne, rfl, HT.out⟩⟩
theorem entersT1 : Enters 26 := enters_of Tryz.func26 (by kernel_rfl) rfl
theorem entersB1 : Enters 38 := enters_of Tryz.func38 (by kernel_rfl) rfl
theorem results_c_v {fn : Func} {p q : Tmp} (h : fn.results = #[.cell p 27, .tmp q]) (tmps : Array Value) (w : World) (g : Nat) (c : C) (hp : tmps.getD p undef = .pointer (some ⟨g, 0, none⟩)) (hg : Box7 w g c) :
    (results fn tmps).run Tryz.prog w = .ok (.tuple #[cval c, tmps.getD q undef]) w := by
  have hg' : w.heap[g]? = some (cbox c) := hg
  have hl := run_loadVar_row (P := Tryz.prog) w g 27 27 _ (0, 0) _ hg' Tryz.underlying27 rfl (by kernel_rfl)
  have h0 : (results fn tmps).run Tryz.prog w = ((asAddr (tmps.getD p undef)).run Tryz.prog w).andThen fun a w₁ => ((loadVar 27 a).run Tryz.prog w₁).andThen fun x w₂ => .ok (.tuple #[x, tmps.getD q undef]) w₂ := by
    simp only [results, h]
    simp [Sem.run_bind, Result.andThen]
  rw [h0, hp]
  simp [asAddr, hl, Result.andThen]

set_option maxRecDepth 100000 in
set_option maxHeartbeats 2000000 in
theorem ptextP_any (s : ByteArray) (hs : s.size ≤ 100000) (w : World) (hg : Er.EtLaid w) : Calls Tryz.prog 9 #[.string s] w (CaSays (TextP s.data.toList) w) := by
  have hmf : ∀ (fn : Fn) (first cap : Array Value) (w : World), (Instr.makeFunc fn first cap).run Tryz.prog w = .ok (.func fn first cap) w := fun _ _ _ _ => rfl
  have B0 : Hid (Below w.heap.size w ((w.alloc (.cells #[.string s] 9)).alloc (cbox zC))) := Lib.hid (((Below.refl _ _).alloc (Nat.le_refl _) _).alloc (by simp) _)
  have X0 : Hid (Box7 ((w.alloc (.cells #[.string s] 9)).alloc (cbox zC)) (w.heap.size + 1) zC) := Lib.hid (by have := Box7.new (w.alloc (.cells #[.string s] 9)) zC; simpa using this)
  have P0 : Hid (((w.alloc (.cells #[.string s] 9)).alloc (cbox zC)).cell? ⟨w.heap.size, 0, none⟩ = some (.string s)) := Lib.hid ((((Below.refl _ _).alloc (Nat.le_refl _) (cbox zC)).cell (by simp)).trans (cellD_new w (.string s) 9))
  have HZ : Hid (((w.alloc (.cells #[.string s] 9)).alloc (cbox zC)).heap.size = w.heap.size + 2) := Lib.hid (by simp)
  have HE := Lib.hid (et_up hg B0.out)
  clear hg
  go_enter Tryz.func9, Tryz.ntmps9
  go_upto_region 1 with (fail)
  change Code.wp _ _ _ _ ((w.alloc (.cells #[.string s] 9)).alloc (cbox zC))
  generalize (w.alloc (.cells #[.string s] 9)).alloc (cbox zC) = w0 at B0 X0 P0 HZ HE ⊢
  have hcw : Below w0.heap.size w0 (CW w0) := ((Below.refl _ _).alloc (Nat.le_refl _) _).alloc (by simp) _
  have KC := Lib.hid (caught_any 26 entersT1 #[.pointer (some ⟨w.heap.size, 0, none⟩)] (TextP s.data.toList) w0 (text1_any s hs ⟨w.heap.size, 0, none⟩ (CW w0) ((hcw.cell (lt_of_cell P0.out)).trans P0.out) (et_up HE.out hcw)))
  clear hcw
  go_wp2_with fail
  refine KC.out.mono ?_
  rintro e w1 ⟨hb1, ⟨t, d, Bd, hrel, rfl, hown⟩ | ⟨er, pl, v, hrel, hne, rfl, hf⟩⟩
  all_goals
    have B1 := Lib.hid (B0.out.trans (hb1.mono B0.out.size))
    have X1 := Lib.hid (X0.out.up hb1)
    have HRL := Lib.hid hrel
    obtain ⟨e0, e1, e2, e3, e4, e5, e6⟩ := X1.out.cat
    simp only [Nat.zero_add] at e1 e2 e3 e4 e5 e6
    have k0 := X1.out.free 0
    have k1 := X1.out.free 1
    have k2 := X1.out.free 2
    have k3 := X1.out.free 3
    have k4 := X1.out.free 4
    have k5 := X1.out.free 5
    have k6 := X1.out.free 6
    clear hb1 hrel
  · have O1 : Hid (OwnT w1 (w.heap.size + 2) d t Bd) := Lib.hid (by rw [← HZ.out]; exact hown)
    clear hown
    go_wp2
    refine bodyPost_ret (results_c_v rfl _ _ (w.heap.size + 1) d rfl (X1.out.put d)) rfl ?_
    have T1 : Below w.heap.size w (put7 w1 (w.heap.size + 1) d) := below_put7 B1.out (by omega) d
    have T2 : OwnT (put7 w1 (w.heap.size + 1) d) w.heap.size d t Bd := (O1.out.frame fun m hm => heap_put7 (by have := (O1.out.ge m hm).1; omega)).lower (by omega)
    exact ⟨T1, .inl ⟨t, d, Bd, HRL.out, rfl, T2⟩⟩
  · obtain ⟨b, rfl, hf1, hf2⟩ := hf
    have HF : Hid (FltIn w1 (.iface 92 (.pointer (some ⟨b, 0, none⟩))) er pl) := Lib.hid ⟨b, rfl, hf1, hf2⟩
    have HNB : Hid (b ≠ w.heap.size + 1) := Lib.hid (fun e => by
      subst e
      rw [e0] at hf1
      cases hf1)
    clear hf1 hf2
    go_wp2
    refine bodyPost_ret (results_c_v rfl _ _ (w.heap.size + 1) zC rfl (X1.out.put zC)) rfl ?_
    have T1 : Below w.heap.size w (put7 w1 (w.heap.size + 1) zC) := below_put7 B1.out (by omega) zC
    have T2 : FltIn (put7 w1 (w.heap.size + 1) zC) (.iface 92 (.pointer (some ⟨b, 0, none⟩))) er pl := by
      obtain ⟨b', h1, h2, h3⟩ := HF.out
      cases h1
      exact ⟨b, rfl, (World.cell?_of_block (heap_put7 HNB.out)).trans h2, (World.cell?_of_block (heap_put7 HNB.out)).trans h3⟩
    exact ⟨T1, .inr ⟨er, pl, _, HRL.out, hne, rfl, T2⟩⟩

set_option maxRecDepth 100000 in
set_option maxHeartbeats 2000000 in
theorem pbodyP_any (s : ByteArray) (hs : s.size ≤ 100000) (w : World) (hg : Er.EtLaid w) : Calls Tryz.prog 15 #[.string s] w (CaSays (BodyP s.data.toList) w) := by
  have hmf : ∀ (fn : Fn) (first cap : Array Value) (w : World), (Instr.makeFunc fn first cap).run Tryz.prog w = .ok (.func fn first cap) w := fun _ _ _ _ => rfl
  have B0 : Hid (Below w.heap.size w ((w.alloc (.cells #[.string s] 9)).alloc (cbox zC))) := Lib.hid (((Below.refl _ _).alloc (Nat.le_refl _) _).alloc (by simp) _)
  have X0 : Hid (Box7 ((w.alloc (.cells #[.string s] 9)).alloc (cbox zC)) (w.heap.size + 1) zC) := Lib.hid (by have := Box7.new (w.alloc (.cells #[.string s] 9)) zC; simpa using this)
  have P0 : Hid (((w.alloc (.cells #[.string s] 9)).alloc (cbox zC)).cell? ⟨w.heap.size, 0, none⟩ = some (.string s)) := Lib.hid ((((Below.refl _ _).alloc (Nat.le_refl _) (cbox zC)).cell (by simp)).trans (cellD_new w (.string s) 9))
  have HZ : Hid (((w.alloc (.cells #[.string s] 9)).alloc (cbox zC)).heap.size = w.heap.size + 2) := Lib.hid (by simp)
  have HE := Lib.hid (et_up hg B0.out)
  clear hg
  go_enter Tryz.func15, Tryz.ntmps15
  go_upto_region 1 with (fail)
  change Code.wp _ _ _ _ ((w.alloc (.cells #[.string s] 9)).alloc (cbox zC))
  generalize (w.alloc (.cells #[.string s] 9)).alloc (cbox zC) = w0 at B0 X0 P0 HZ HE ⊢
  have hcw : Below w0.heap.size w0 (CW w0) := ((Below.refl _ _).alloc (Nat.le_refl _) _).alloc (by simp) _
  have KC := Lib.hid (caught_any 38 entersB1 #[.pointer (some ⟨w.heap.size, 0, none⟩)] (BodyP s.data.toList) w0 (body1_any s hs ⟨w.heap.size, 0, none⟩ (CW w0) ((hcw.cell (lt_of_cell P0.out)).trans P0.out) (et_up HE.out hcw)))
  clear hcw
  go_wp2_with fail
  refine KC.out.mono ?_
  rintro e w1 ⟨hb1, ⟨t, d, Bd, hrel, rfl, hown⟩ | ⟨er, pl, v, hrel, hne, rfl, hf⟩⟩
  all_goals
    have B1 := Lib.hid (B0.out.trans (hb1.mono B0.out.size))
    have X1 := Lib.hid (X0.out.up hb1)
    have HRL := Lib.hid hrel
    obtain ⟨e0, e1, e2, e3, e4, e5, e6⟩ := X1.out.cat
    simp only [Nat.zero_add] at e1 e2 e3 e4 e5 e6
    have k0 := X1.out.free 0
    have k1 := X1.out.free 1
    have k2 := X1.out.free 2
    have k3 := X1.out.free 3
    have k4 := X1.out.free 4
    have k5 := X1.out.free 5
    have k6 := X1.out.free 6
    clear hb1 hrel
  · have O1 : Hid (OwnT w1 (w.heap.size + 2) d t Bd) := Lib.hid (by rw [← HZ.out]; exact hown)
    clear hown
    go_wp2
    refine bodyPost_ret (results_c_v rfl _ _ (w.heap.size + 1) d rfl (X1.out.put d)) rfl ?_
    have T1 : Below w.heap.size w (put7 w1 (w.heap.size + 1) d) := below_put7 B1.out (by omega) d
    have T2 : OwnT (put7 w1 (w.heap.size + 1) d) w.heap.size d t Bd := (O1.out.frame fun m hm => heap_put7 (by have := (O1.out.ge m hm).1; omega)).lower (by omega)
    exact ⟨T1, .inl ⟨t, d, Bd, HRL.out, rfl, T2⟩⟩
  · obtain ⟨b, rfl, hf1, hf2⟩ := hf
    have HF : Hid (FltIn w1 (.iface 92 (.pointer (some ⟨b, 0, none⟩))) er pl) := Lib.hid ⟨b, rfl, hf1, hf2⟩
    have HNB : Hid (b ≠ w.heap.size + 1) := Lib.hid (fun e => by
      subst e
      rw [e0] at hf1
      cases hf1)
    clear hf1 hf2
    go_wp2
    refine bodyPost_ret (results_c_v rfl _ _ (w.heap.size + 1) zC rfl (X1.out.put zC)) rfl ?_
    have T1 : Below w.heap.size w (put7 w1 (w.heap.size + 1) zC) := below_put7 B1.out (by omega) zC
    have T2 : FltIn (put7 w1 (w.heap.size + 1) zC) (.iface 92 (.pointer (some ⟨b, 0, none⟩))) er pl := by
      obtain ⟨b', h1, h2, h3⟩ := HF.out
      cases h1
      exact ⟨b, rfl, (World.cell?_of_block (heap_put7 HNB.out)).trans h2, (World.cell?_of_block (heap_put7 HNB.out)).trans h3⟩
    exact ⟨T1, .inr ⟨er, pl, _, HRL.out, hne, rfl, T2⟩⟩
end Go.Proofs.YtbelpnfgdjnpoaaGreatDoor
/- Whether an error tells a number, at a place; the document's examples. -/
namespace Go.Proofs.YtbelpnfgdjnpoaaGreatDoor
open Go.RowKit
open Sash.Sum (cutE cutX putL)

set_option maxRecDepth 100000 in
set_option maxHeartbeats 1000000 in
theorem told_none (w : World) : Calls Tryz.prog 11 #[.nilIface, .int .i64 0, .int .i64 0] w fun e w' => e = .returned (.bool true) ∧ Below w.heap.size w w' := by
  have e1 := eqlN
  go_enter Tryz.func11, Tryz.ntmps11
  go_wp2_with fail
  refine (atN w).mono ?_
  rintro e w1 ⟨rfl, hb1⟩
  have B1 := Lib.hid hb1
  clear hb1
  go_wp2_with fail
  refine (codeN w1).mono ?_
  rintro e w2 ⟨rfl, hb2⟩
  have B2 := Lib.hid (B1.out.trans (hb2.mono B1.out.size))
  clear hb2
  go_wp2
  go_ret
  exact ⟨rfl, B2.out⟩
set_option maxRecDepth 100000 in
set_option maxHeartbeats 1000000 in
theorem told_flt (v : Value) (n k : Int) (w : World) (hn : n ≠ 0) (hf : FltIn w v n k) (hg : Er.EtLaid w) : Calls Tryz.prog 11 #[v, .int .i64 n, .int .i64 k] w fun e w' => e = .returned (.bool true) ∧ Below w.heap.size w w' := by
  obtain ⟨b, rfl, h0, h1⟩ := hf
  have e1 := eqlS
  have q1 : (n == n) = true := by simp
  have q2 : (n == 0) = false := by simp [hn]
  have q3 : (n != 0) = true := by simp [hn]
  have q4 : (k == k) = true := by simp
  have KA := Lib.hid (atF b k w h1 hg)
  have KC := Lib.hid (fun W (hb : Below w.heap.size w W) => codeF b n W ((hb.cell (lt_of_cell h0)).trans h0) (et_up hg hb))
  clear h0 h1 hg
  go_enter Tryz.func11, Tryz.ntmps11
  go_wp2_with fail
  refine KA.out.mono ?_
  rintro e w1 ⟨rfl, hb1⟩
  have B1 := Lib.hid hb1
  clear hb1
  go_wp2_with fail
  refine (KC.out w1 B1.out).mono ?_
  rintro e w2 ⟨rfl, hb2⟩
  have B2 := Lib.hid (B1.out.trans (hb2.mono B1.out.size))
  clear hb2
  go_wp2
  go_ret
  exact ⟨rfl, B2.out⟩
/-- The examples. -/
abbrev exT : T := .node 1 ⟨0, 0, 80, 24⟩ 1 []
abbrev exS : ByteArray := ⟨#[98, 50, 53, 101, 44, 56, 48, 120, 50, 52, 44, 48, 44, 48, 44, 49]⟩
abbrev exF : ByteArray := ⟨#[98, 50, 53, 100, 44, 56, 48, 120, 50, 52, 44, 48, 44, 48, 44, 49]⟩
theorem ex_tile : tileB exT = true := by
  have hp : preT exT = [exT] := by simp [preT, preL]
  have hf : fitB exT = true := (fitB_iff _).2 (.inl rfl)
  unfold tileB; rw [hp, show mayT exT = true by decide]; simp [hf]
theorem ex_body : bodyT exT = [56, 48, 120, 50, 52, 44, 48, 44, 48, 44, 49] := by decide +kernel
theorem ex_yes : TextP exS.data.toList (.yes exT) := by
  have h : TextR (putL (bodyT exT)) (.yes exT) := text_full (by simp [sz, szL]) ex_tile
  have e : putL (bodyT exT) = exS.data.toList := by rw [ex_body]; decide +kernel
  rw [e] at h
  exact TextP.of h
theorem is_parts11 {w : World} {c : C} {t : T} (h : Is w c t) : c.k = t.k ∧ c.r = t.r ∧ c.id = t.id := by cases h; exact ⟨rfl, rfl, rfl⟩
theorem ex_no : TextP exF.data.toList (.no 4 0) := .inl ⟨by decide, by decide, rfl⟩
set_option maxRecDepth 100000 in
set_option maxHeartbeats 2000000 in
theorem awake11_any (w : World) (hg : Er.EtLaid w) : Calls Tryz.prog 8 #[] w fun e w' => e = .returned (.bool true) ∧ Below w.heap.size w w' := by
  have K1 := Lib.hid (ptextP_any exS (by decide) w hg)
  have K2 := Lib.hid (fun W (hb : Below w.heap.size w W) => ptextP_any exF (by decide) W (et_up hg hb))
  have HE := Lib.hid hg
  have n1 := eqlN
  clear hg
  go_enter Tryz.func8, Tryz.ntmps8
  go_wp2_with fail
  refine K1.out.mono ?_
  rintro e w1 ⟨hb1, ⟨t, d, Bd, hrel, rfl, hown⟩ | ⟨er, pl, v, hrel, hne, rfl, hf⟩⟩
  case inr => have := ex_yes.one hrel; cases this
  have ht : exT = t := by have := ex_yes.one hrel; cases this; rfl
  subst ht
  obtain ⟨dk, dr, di⟩ := is_parts11 hown.is
  have DK : Hid (d.k = 1) := Lib.hid dk
  have DI : Hid (d.id = 1) := Lib.hid di
  have DW : Hid (d.r.w = 80) := Lib.hid (by rw [dr]; rfl)
  clear dr dk di hown hrel
  have B2 : Hid (Below w.heap.size w (w1.alloc (cbox d))) := Lib.hid (hb1.alloc hb1.size _)
  have X2 := Lib.hid (Box7.new w1 d)
  clear hb1
  go_upto_region 2 with (fail)
  change Code.wp _ _ _ _ (w1.alloc (cbox d))
  generalize w1.alloc (cbox d) = w2 at B2 X2 ⊢
  generalize w1.heap.size = g1 at X2 ⊢
  go_wp2_with fail
  refine (K2.out w2 B2.out).mono ?_
  rintro e w3 ⟨hb3, ⟨t, d', Bd', hrel, rfl, hown⟩ | ⟨er, pl, v, hrel, hne, rfl, hf⟩⟩
  case inl => have := ex_no.one hrel; cases this
  have he : er = 4 := by have := ex_no.one hrel; cases this; rfl
  subst he
  obtain ⟨b, rfl, hf1, -⟩ := hf
  have B4 : Hid (Below w.heap.size w (w3.alloc (cbox zC))) := Lib.hid ((B2.out.trans (hb3.mono B2.out.size)).alloc (Nat.le_trans B2.out.size hb3.size) _)
  have X4 : Hid (Box7 (w3.alloc (cbox zC)) g1 d) := Lib.hid ((X2.out.up hb3).up ((Below.refl _ _).alloc (Nat.le_refl _) _))
  have F4 : Hid ((w3.alloc (cbox zC)).cell? ⟨b, 0, none⟩ = some (.int .i64 4)) := Lib.hid ((((Below.refl _ _).alloc (Nat.le_refl _) (cbox zC)).cell (lt_of_cell hf1)).trans hf1)
  clear hb3 hf1 hrel hne
  go_upto_region 3 with (fail)
  change Code.wp _ _ _ _ (w3.alloc (cbox zC))
  generalize w3.alloc (cbox zC) = w4 at B4 X4 F4 ⊢
  generalize w3.heap.size = g3
  have KC := Lib.hid (codeF b 4 w4 F4.out (et_up HE.out B4.out))
  obtain ⟨c0, c1, c2, c3, c4, c5, c6⟩ := X4.out.cat
  simp only [Nat.zero_add] at c1 c2 c3 c4 c5 c6
  rw [DK.out] at c0
  rw [DW.out] at c3
  rw [DI.out] at c5
  go_wp2_with fail
  refine KC.out.mono ?_
  rintro e w5 ⟨rfl, hb5⟩
  have B5 := Lib.hid (B4.out.trans (hb5.mono B4.out.size))
  clear hb5
  go_wp2
  go_ret
  exact ⟨rfl, B5.out⟩
end Go.Proofs.YtbelpnfgdjnpoaaGreatDoor
