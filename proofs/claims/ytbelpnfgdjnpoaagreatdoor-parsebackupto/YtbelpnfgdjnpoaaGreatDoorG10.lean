/- Texts of this seat, 3 in one file. -/
import Derived.Test.YtbelpnfgdjnpoaaGreatDoorG03
import Derived.Test.YtbelpnfgdjnpoaaGreatDoorG08
import Derived.Test.YtbelpnfgdjnpoaaGreatDoorG09
import Derived.Test.YtbelpnfgdjnpoaaGreatDoorShelf
import Derived.Maps.Range
import Derived.Deep.Cut
import Derived.Deep.RegionHeld3
/- The reader in memory: its text and its place; a world in which it alone was written; an error that is thrown. -/
namespace Go.Proofs.YtbelpnfgdjnpoaaGreatDoor
open Go.RowKit

abbrev rdbox (s : ByteArray) (a : Int) : Obj := .cells #[.string s, .int .i64 a] 84
def Rdr (w : World) (g : Nat) (s : ByteArray) (a : Int) : Prop := w.heap[g]? = some (rdbox s a)
theorem Rdr.cells {w : World} {g : Nat} {s : ByteArray} {a : Int} (h : Rdr w g s a) : w.cell? ⟨g, 0, none⟩ = some (.string s) ∧ w.cell? ⟨g, 1, none⟩ = some (.int .i64 a) := by
  have h' : w.heap[g]? = some (rdbox s a) := h
  refine ⟨?_, ?_⟩ <;> simp [World.cell?, h']
theorem Rdr.free {w : World} {g : Nat} {s : ByteArray} {a : Int} (h : Rdr w g s a) (o : Nat) : w.frozen? ⟨g, o, none⟩ = false := by
  have h' : w.heap[g]? = some (rdbox s a) := h
  simp [World.frozen?, h']
theorem Rdr.lt {w : World} {g : Nat} {s : ByteArray} {a : Int} (h : Rdr w g s a) : g < w.heap.size := lt_of_block h
theorem Rdr.up {w w' : World} {g : Nat} {s : ByteArray} {a : Int} (h : Rdr w g s a) (hb : Below w.heap.size w w') : Rdr w' g s a := (hb.block g h.lt).trans h
theorem Rdr.set {w : World} {g : Nat} {s : ByteArray} {a : Int} (h : Rdr w g s a) (b : Int) : Rdr (w.setCell ⟨g, 1, none⟩ (.int .i64 b)) g s b := by
  have h' : w.heap[g]? = some (rdbox s a) := h
  refine (set_block (i := 1) h' (.int .i64 b)).trans ?_
  simp
theorem Rdr.new (w : World) (s : ByteArray) (a : Int) : Rdr (w.alloc (rdbox s a)) w.heap.size s a := heap_alloc_new w _
/-- Nothing that was there was written, but the reader. -/
def Mv (g : Nat) (w w' : World) : Prop := w.grownBy w' (some g)
theorem Mv.refl (g : Nat) (w : World) : Mv g w w := ⟨rfl, rfl, rfl, Nat.le_refl _, fun _ _ _ => rfl⟩
theorem Mv.size {g : Nat} {w w' : World} (h : Mv g w w') : w.heap.size ≤ w'.heap.size := World.grownBy.size h
theorem Mv.at {g : Nat} {w w' : World} (h : Mv g w w') (k : Nat) (hk : k < w.heap.size) (hne : k ≠ g) : w'.heap[k]? = w.heap[k]? := World.grownBy.block h k hk (fun e => hne (Option.some.inj e))
theorem Mv.trans {g : Nat} {a b c : World} (h : Mv g a b) (k : Mv g b c) : Mv g a c :=
  ⟨(World.grownBy.os k).trans (World.grownBy.os h), (World.grownBy.tape k).trans (World.grownBy.tape h), (World.grownBy.output k).trans (World.grownBy.output h), Nat.le_trans h.size k.size, fun i hi hne => (World.grownBy.block k i (Nat.lt_of_lt_of_le hi h.size) hne).trans (World.grownBy.block h i hi hne)⟩
theorem Mv.of {g : Nat} {w w' : World} (h : Below w.heap.size w w') : Mv g w w' := ⟨h.os, h.tape, h.output, h.size, fun k hk _ => h.block k hk⟩
theorem Mv.then {g : Nat} {a w w' : World} (h : Mv g a w) (hb : Below w.heap.size w w') : Mv g a w' := h.trans (Mv.of hb)
theorem Mv.alloc {g : Nat} {a w : World} (h : Mv g a w) (o : Obj) : Mv g a (w.alloc o) := h.then ((Below.refl _ _).alloc (Nat.le_refl _) o)
theorem Mv.drew {g : Nat} {a w : World} (h : Mv g a w) : Mv g a w.drew := h.then (Below.refl _ _).drew
theorem Mv.set {g : Nat} {a w : World} (h : Mv g a w) (i : Nat) (u : Value) : Mv g a (w.setCell ⟨g, i, none⟩ u) :=
  h.trans ⟨rfl, rfl, rfl, by simp [World.setCell], fun k _ hne => Below.heap_setCell _ _ _ _ (fun e => hne (congrArg some e))⟩
theorem Mv.put {g : Nat} {a w : World} (h : Mv g a w) {p : Addr} (hp : a.heap.size ≤ p.block) (u : Value) : Mv g a (w.setCell p u) :=
  ⟨(World.grownBy.os h : w.os = a.os), (World.grownBy.tape h : w.tape = a.tape), (World.grownBy.output h : w.output = a.output), Nat.le_trans h.size (by simp [World.setCell]), fun k hk hne => (Below.heap_setCell _ _ _ _ (by omega)).trans (World.grownBy.block h k hk hne)⟩
theorem Mv.below {g : Nat} {w w' : World} (h : Mv g w w') {B : Nat} (hg : B ≤ g) (hB : B ≤ w.heap.size) : Below B w w' :=
  ⟨World.grownBy.os h, World.grownBy.tape h, World.grownBy.output h, h.size, fun k hk => h.at k (by omega) (by omega)⟩
theorem Mv.grown {g : Nat} {a w w' : World} {row : Option Nat} (h : Mv g a w) (k : w.grownBy w' row) (hr : ∀ j, row = some j → a.heap.size ≤ j) : Mv g a w' :=
  ⟨k.os.trans (World.grownBy.os h), k.tape.trans (World.grownBy.tape h), k.output.trans (World.grownBy.output h), Nat.le_trans h.size k.size, fun i hi hne => (k.block i (Nat.lt_of_lt_of_le hi h.size) (fun e => by have := hr i e.symm; omega)).trans (World.grownBy.block h i hi hne)⟩
theorem Box7.mv {g : Nat} {w w' : World} {b : Nat} {c : C} (h : Box7 w b c) (m : Mv g w w') (hne : b ≠ g) : Box7 w' b c := (m.at b (lt_of_block h) hne).trans h
/-- An error that is thrown. -/
abbrev threw (v : Value) : Ending := .panicked [{ v := v, recovered := false }]
def FltIn (w : World) (v : Value) (n k : Int) : Prop := ∃ b, v = .iface 92 (.pointer (some ⟨b, 0, none⟩)) ∧ w.cell? ⟨b, 0, none⟩ = some (.int .i64 n) ∧ w.cell? ⟨b, 1, none⟩ = some (.int .i64 k)

set_option maxRecDepth 100000 in
theorem wrong_any (g : Nat) (s : ByteArray) (a : Int) (n : Int) (w : World) (hn : n ≠ 0) (h : Rdr w g s a) :
    Calls Tryz.prog 54 #[.pointer (some ⟨g, 0, none⟩), .int .i64 n] w fun e w' => ∃ v, e = threw v ∧ FltIn w' v n a ∧ Below w.heap.size w w' := by
  have q : (n == 0) = false := by simp [hn]
  obtain ⟨h0, h1⟩ := h.cells
  have HB : Hid (Below w.heap.size w (w.alloc (.cells #[.int .i64 n, .int .i64 a] 95))) := Lib.hid ((Below.refl _ _).alloc (Nat.le_refl _) _)
  clear h
  go_enter Tryz.func54, Tryz.ntmps54
  go_wp2
  exact ⟨rfl, _, rfl, ⟨w.heap.size, rfl, by simp, by simp⟩, HB.out⟩

/-- What reading a number comes to. -/
def NmSays (S : List UInt8) (s : ByteArray) (g a : Nat) (w : World) (e : Ending) (w' : World) : Prop :=
  Mv g w w' ∧ ((∃ (i : Int) (b : Nat), numAt S a = .ok (i, b) ∧ okN i ∧ a < b ∧ b ≤ s.size ∧ e = .returned (.int .i64 i) ∧ Rdr w' g s (b : Int)) ∨ ∃ (er : Int) (v : Value), numAt S a = .error (er, a) ∧ er ≠ 0 ∧ e = threw v ∧ FltIn w' v er (a : Int))
/-- What num.Head tells of what is left. -/
def NumF (S : List UInt8) (a m : Nat) (n k er : Int) : Prop := (er = 0 ∧ ∃ b : Nat, numAt S a = .ok (n, b) ∧ okN n ∧ a < b ∧ b ≤ m ∧ k = (b : Int) - (a : Int)) ∨ (er ≠ 0 ∧ numAt S a = .error (er, a))
theorem headAt_any (s : ByteArray) (a : Nat) (w : World) (hs : s.size ≤ maxLen) : Calls Tryz.prog 114 #[.string (s.extract a s.size)] w fun e w' => ∃ n k er : Int, e = .returned (.tuple #[.int .i64 n, .int .i64 k, .int .i64 er]) ∧ Below w.heap.size w w' ∧ NumF s.data.toList a s.size n k er := by
  have h := head_any (s.extract a s.size) w (by simp [ByteArray.size_extract]; omega)
  rw [drop_data] at h
  refine h.mono ?_
  rintro e w' ⟨rfl, hb⟩
  obtain ⟨-, ⟨i, b, h1, h2, h3, h4, h5⟩ | ⟨er, h1, h2, h3⟩⟩ := num_says s.data.toList a s.size (by simp) w
  · exact ⟨i, _, 0, h5, hb, .inl ⟨rfl, b, h1, h2, h3, h4, rfl⟩⟩
  · exact ⟨0, 0, er, h3, hb, .inr ⟨h2, h1⟩⟩

set_option maxRecDepth 100000 in
set_option maxHeartbeats 2000000 in
theorem number_any (s : ByteArray) (hs : s.size ≤ 100000) (g a : Nat) (w : World) (hr : Rdr w g s (a : Int)) (ha : a ≤ s.size) :
    Calls Tryz.prog 84 #[.pointer (some ⟨g, 0, none⟩)] w (NmSays s.data.toList s g a w) := by
  have hsm : s.size ≤ maxLen := by unfold maxLen; omega
  have KN := Lib.hid (fun W => headAt_any s a W hsm)
  generalize s.data.toList = S at KN ⊢
  have HR := Lib.hid hr
  have S0 := Lib.hid hr.cells
  have S1 : Hid (w.drew.cell? ⟨g, 0, none⟩ = some (.string s) ∧ w.drew.cell? ⟨g, 1, none⟩ = some (.int .i64 (a : Int))) := Lib.hid (hr.up (Below.refl _ _).drew).cells
  have BD : Hid (Below w.heap.size w w.drew) := Lib.hid (Below.refl _ _).drew
  clear hr
  go_enter Tryz.func84, Tryz.ntmps84
  go_upto_region 1 with (fail)
  go_region_held3 (fun W => W.cell? ⟨g, 0, none⟩ = some (.string s) ∧ W.cell? ⟨g, 1, none⟩ = some (.int .i64 (a : Int))) (first | exact S0.out | exact S1.out | exact S3.out)
    (first | (go_at_call 114; refine (KN.out w.drew).mono ?_; rintro e w3 ⟨n, k, er, rfl, hb3, hnf⟩; have B3 := Lib.hid (BD.out.trans (hb3.mono BD.out.size)); have S3 := Lib.hid (HR.out.up B3.out).cells; have HN := Lib.hid hnf; clear hb3 hnf))
  have R3 := Lib.hid (HR.out.up B3.out)
  rcases HN.out with ⟨rfl, b, hnum, hi, hab, hbn, rfl⟩ | ⟨hne, hnum⟩
  · obtain ⟨h0, h1⟩ := R3.out.cells
    have f1 := R3.out.free 1
    clear HN
    have HN := Lib.hid hnum
    clear hnum
    have HE : Hid ((a : Int) + ((b : Int) - (a : Int)) = (b : Int)) := Lib.hid (by omega)
    go_wp2
    go_ret
    refine ⟨(Mv.of B3.out).set 1 _, .inl ⟨n, b, HN.out, hi, hab, hbn, rfl, ?_⟩⟩
    rw [HE.out]
    exact R3.out.set (b : Int)
  · have q : (er != 0) = true := by simp [hne]
    clear HN
    have HN := Lib.hid hnum
    clear hnum
    go_wp2_with fail
    refine (wrong_any g s a er w3 hne R3.out).mono ?_
    rintro e w4 ⟨v, rfl, hf, hb4⟩
    have B4 := Lib.hid (B3.out.trans (hb4.mono B3.out.size))
    have HF := Lib.hid hf
    clear hb4 hf
    go_wp2
    exact ⟨rfl, Mv.of B4.out, .inr ⟨er, v, HN.out, hne, rfl, HF.out⟩⟩

theorem idx_neg (l : List UInt8) (c : UInt8) : Lib.indexByte l c < 0 ↔ c ∉ l := by
  induction l with
  | nil => simp [Lib.indexByte]
  | cons b l ih =>
    have hge := Lib.indexByte_ge l c
    by_cases hb : b = c
    · subst hb; simp [Lib.indexByte]
    · have hb' : ¬ c = b := fun e => hb e.symm
      by_cases h1 : Lib.indexByte l c = -1
      · have : c ∉ l := ih.1 (by omega)
        simp [Lib.indexByte, hb, h1, hb', this]
      · have : ¬ c ∉ l := fun h => by have := ih.2 h; omega
        simp only [Decidable.not_not] at this
        have h2 : ¬ (Lib.indexByte l c + 1 < 0) := by omega
        simp [Lib.indexByte, hb, h1, this, h2]
/-- What reading a sign comes to: it is one of these, or an error. -/
def SgSays (S these : List UInt8) (s : ByteArray) (g a : Nat) (w : World) (e : Ending) (w' : World) : Prop :=
  Mv g w w' ∧ ((∃ c : UInt8, S[a]? = some c ∧ c ∈ these ∧ a < s.size ∧ e = .returned (.int .u8 (c.toNat : Int)) ∧ Rdr w' g s ((a + 1 : Nat) : Int)) ∨ ∃ v : Value, (∀ c ∈ these, S[a]? ≠ some c) ∧ e = threw v ∧ FltIn w' v 2 (a : Int))

set_option maxRecDepth 100000 in
set_option maxHeartbeats 2000000 in
theorem sign_any (s these : ByteArray) (hs : s.size ≤ 100000) (g a : Nat) (w : World) (hr : Rdr w g s (a : Int)) (ha : a ≤ s.size) :
    Calls Tryz.prog 81 #[.pointer (some ⟨g, 0, none⟩), .string these] w (SgSays s.data.toList these.data.toList s g a w) := by
  have HR := Lib.hid hr
  have S0 := Lib.hid hr.cells
  have S1 : Hid (w.drew.cell? ⟨g, 0, none⟩ = some (.string s) ∧ w.drew.cell? ⟨g, 1, none⟩ = some (.int .i64 (a : Int))) := Lib.hid (hr.up (Below.refl _ _).drew).cells
  have BD : Hid (Below w.heap.size w w.drew) := Lib.hid (Below.refl _ _).drew
  clear hr
  by_cases hlt : a < s.size
  · have hS : s.data.toList[a]? = some (s[a]'hlt) := by
      rw [List.getElem?_eq_getElem (by simpa using hlt)]; rfl
    have HS := Lib.hid hS
    have KB := Lib.hid (fun W => Tryz.strings_IndexByte these ((s[a]'hlt).toNat : Int) W)
    have d0 : ((a : Int) == (s.size : Int)) = false := by simp; omega
    clear hS
    go_enter Tryz.func81, Tryz.ntmps81
    go_upto_region 1 with (fail)
    go_region_held3 (fun W => W.cell? ⟨g, 0, none⟩ = some (.string s) ∧ W.cell? ⟨g, 1, none⟩ = some (.int .i64 (a : Int))) (first | exact S0.out | exact S1.out)
      (first | (go_at_call 113; refine (KB.out w.drew).mono ?_; rintro e w3 ⟨rfl, rfl⟩))
    have W1 : Hid (Rdr w.drew g s (a : Int)) := Lib.hid (HR.out.up BD.out)
    generalize w.drew = w1 at W1 BD S1 ⊢
    by_cases hm : (s[a]'hlt) ∈ these.data.toList
    · have q : decide (Lib.indexByte these.data.toList (s[a]'hlt) < 0) = false := decide_eq_false (fun h => (idx_neg _ _).1 h hm)
      have HM := Lib.hid hm
      clear hm
      generalize decide (Lib.indexByte these.data.toList (s[a]'hlt) < 0) = dq at q ⊢
      subst q
      obtain ⟨h0, h1⟩ := W1.out.cells
      have f1 := W1.out.free 1
      go_upto_region 4 with (fail)
      have W2 : Hid (Rdr (w1.setCell ⟨g, 1, none⟩ (.int .i64 ((a : Int) + 1))) g s ((a : Int) + 1)) := Lib.hid (W1.out.set _)
      have M2 : Hid (Mv g w (w1.setCell ⟨g, 1, none⟩ (.int .i64 ((a : Int) + 1)))) := Lib.hid ((Mv.of BD.out).set 1 _)
      clear h0 h1 f1
      change Code.wp _ _ _ _ (w1.setCell ⟨g, 1, none⟩ (.int .i64 ((a : Int) + 1)))
      generalize w1.setCell ⟨g, 1, none⟩ (.int .i64 ((a : Int) + 1)) = w2 at W2 M2 ⊢
      obtain ⟨h0, h1⟩ := W2.out.cells
      go_quiet (fail)
      go_wp2
      go_ret
      exact ⟨M2.out.trans ⟨rfl, rfl, rfl, Nat.le_refl _, fun _ _ _ => rfl⟩, .inl ⟨s[a], HS.out, HM.out, hlt, rfl, W2.out⟩⟩
    · have q : decide (Lib.indexByte these.data.toList (s[a]'hlt) < 0) = true := decide_eq_true ((idx_neg _ _).2 hm)
      have HM := Lib.hid hm
      clear hm
      generalize decide (Lib.indexByte these.data.toList (s[a]'hlt) < 0) = dq at q ⊢
      subst q
      go_wp2_with fail
      refine (wrong_any g s a 2 w1 (by decide) W1.out).mono ?_
      rintro e w4 ⟨v, rfl, hf, hb4⟩
      have B4 := Lib.hid (BD.out.trans (hb4.mono BD.out.size))
      have HF := Lib.hid hf
      clear hb4 hf
      go_wp2
      exact ⟨rfl, Mv.of B4.out, .inr ⟨v, fun c hc e => HM.out (by rw [HS.out] at e; rw [Option.some.inj e]; exact hc), rfl, HF.out⟩⟩
  · have HS : Hid (s.data.toList[a]? = none) := Lib.hid (List.getElem?_eq_none (by simp; omega))
    obtain rfl : a = s.size := by omega
    have d0 : ((s.size : Int) == (s.size : Int)) = true := by simp
    go_enter Tryz.func81, Tryz.ntmps81
    go_upto_region 1 with (fail)
    obtain ⟨h0, h1⟩ := S0.out
    go_quiet (fail)
    have W1 : Hid (Rdr (w.drewN nq) g s (s.size : Int)) := Lib.hid HR.out
    have BD' : Hid (Below w.heap.size w (w.drewN nq)) := Lib.hid ⟨BD.out.os, BD.out.tape, BD.out.output, BD.out.size, BD.out.block⟩
    generalize w.drewN nq = w1 at W1 BD' ⊢
    go_wp2_with fail
    refine (wrong_any g s s.size 2 w1 (by decide) W1.out).mono ?_
    rintro e w4 ⟨v, rfl, hf, hb4⟩
    have B4 := Lib.hid (BD'.out.trans (hb4.mono BD'.out.size))
    have HF := Lib.hid hf
    clear hb4 hf
    go_wp2
    exact ⟨rfl, Mv.of B4.out, .inr ⟨v, fun c hc e => (by rw [HS.out] at e; cases e), rfl, HF.out⟩⟩
end Go.Proofs.YtbelpnfgdjnpoaaGreatDoor
/- What the document reads: a struct of a cell, a place, an error and its place, in a box. -/
namespace Go.Proofs.YtbelpnfgdjnpoaaGreatDoor
open Go.RowKit

abbrev pval10 (c : C) (at' e x : Int) : Value := .agg #[.int .u8 c.k, .int .i64 c.r.x, .int .i64 c.r.y, .int .i64 c.r.w, .int .i64 c.r.h, .int .i64 c.id, .slice c.a c.n c.cap, .int .i64 at', .int .i64 e, .int .i64 x]
abbrev pbox (c : C) (at' e x : Int) : Obj := .cells #[.int .u8 c.k, .int .i64 c.r.x, .int .i64 c.r.y, .int .i64 c.r.w, .int .i64 c.r.h, .int .i64 c.id, .slice c.a c.n c.cap, .int .i64 at', .int .i64 e, .int .i64 x] 90
abbrev zC : C := ⟨0, ⟨0, 0, 0, 0⟩, 0, none, 0, 0⟩
def Box10 (w : World) (b : Nat) (c : C) (at' e x : Int) : Prop := w.heap[b]? = some (pbox c at' e x)
theorem Box10.up {w w' : World} {b : Nat} {c : C} {at' e x : Int} (h : Box10 w b c at' e x) (hb : Below w.heap.size w w') : Box10 w' b c at' e x := (hb.block b (lt_of_block h)).trans h
theorem Box10.new (w : World) (c : C) (at' e x : Int) : Box10 (w.alloc (pbox c at' e x)) w.heap.size c at' e x := heap_alloc_new w _
theorem Box10.cells {w : World} {b : Nat} {c : C} {at' e x : Int} (h : Box10 w b c at' e x) : w.cell? ⟨b, 0, none⟩ = some (.int .u8 c.k) ∧ w.cell? ⟨b, 1, none⟩ = some (.int .i64 c.r.x) ∧ w.cell? ⟨b, 2, none⟩ = some (.int .i64 c.r.y) ∧ w.cell? ⟨b, 3, none⟩ = some (.int .i64 c.r.w) ∧ w.cell? ⟨b, 4, none⟩ = some (.int .i64 c.r.h) ∧ w.cell? ⟨b, 5, none⟩ = some (.int .i64 c.id) ∧ w.cell? ⟨b, 6, none⟩ = some (.slice c.a c.n c.cap) ∧ w.cell? ⟨b, 7, none⟩ = some (.int .i64 at') ∧ w.cell? ⟨b, 8, none⟩ = some (.int .i64 e) ∧ w.cell? ⟨b, 9, none⟩ = some (.int .i64 x) := by
  have h' : w.heap[b]? = some (pbox c at' e x) := h
  refine ⟨?_, ?_, ?_, ?_, ?_, ?_, ?_, ?_, ?_, ?_⟩ <;> simp [World.cell?, h']
theorem Box10.free {w : World} {b : Nat} {c : C} {at' e x : Int} (h : Box10 w b c at' e x) (o : Nat) : w.frozen? ⟨b, o, none⟩ = false := by
  have h' : w.heap[b]? = some (pbox c at' e x) := h
  simp [World.frozen?, h']
abbrev put10 (w : World) (b : Nat) (c : C) (at' e x : Int) : World := (((put7 w b c).setCell ⟨b, 7, none⟩ (.int .i64 at')).setCell ⟨b, 8, none⟩ (.int .i64 e)).setCell ⟨b, 9, none⟩ (.int .i64 x)
theorem Box10.put {w : World} {b : Nat} {c : C} {at' e x : Int} (h : Box10 w b c at' e x) (d : C) (i j k : Int) : Box10 (put10 w b d i j k) b d i j k := by
  have h' : w.heap[b]? = some (pbox c at' e x) := h
  have h1 := set_block (i := 0) h' (.int .u8 d.k)
  have h2 := set_block (i := 1) h1 (.int .i64 d.r.x)
  have h3 := set_block (i := 2) h2 (.int .i64 d.r.y)
  have h4 := set_block (i := 3) h3 (.int .i64 d.r.w)
  have h5 := set_block (i := 4) h4 (.int .i64 d.r.h)
  have h6 := set_block (i := 5) h5 (.int .i64 d.id)
  have h7 := set_block (i := 6) h6 (.slice d.a d.n d.cap)
  have h8 := set_block (i := 7) h7 (.int .i64 i)
  have h9 := set_block (i := 8) h8 (.int .i64 j)
  have h10 := set_block (i := 9) h9 (.int .i64 k)
  refine h10.trans ?_
  simp
theorem below_put10 {B : Nat} {w w' : World} (h : Below B w w') {b : Nat} (hb : B ≤ b) (c : C) (i j k : Int) : Below B w (put10 w' b c i j k) := (((below_put7 h hb c).setCell hb _).setCell hb _).setCell hb _
theorem heap_put10 {w : World} {b k : Nat} {c : C} {at' e x : Int} (h : k ≠ b) : (put10 w b c at' e x).heap[k]? = w.heap[k]? := by
  unfold put10
  rw [Below.heap_setCell _ ⟨b, 9, none⟩ _ k h, Below.heap_setCell _ ⟨b, 8, none⟩ _ k h, Below.heap_setCell _ ⟨b, 7, none⟩ _ k h, heap_put7 h]
theorem results_p1 {fn : Func} {p : Tmp} (h : fn.results = #[.cell p 90]) (tmps : Array Value) (w : World) (g : Nat) (c : C) (at' e x : Int) (hp : tmps.getD p undef = .pointer (some ⟨g, 0, none⟩)) (hg : Box10 w g c at' e x) :
    (results fn tmps).run Tryz.prog w = .ok (pval10 c at' e x) w :=
  results_cell_row h tmps w g 90 _ (0, 0) _ hp hg Tryz.underlying90 rfl (by kernel_rfl)

set_option maxRecDepth 100000 in
theorem bad_any (e x : Int) (w : World) : Calls Tryz.prog 90 #[.int .i64 e, .int .i64 x] w fun e' w' => e' = .returned (pval10 zC 0 e x) ∧ Below w.heap.size w w' := by
  go_enter Tryz.func90, Tryz.ntmps90
  go_wp2
  refine bodyPost_ret (results_p1 rfl _ _ w.heap.size zC 0 e x rfl (Box10.new w zC 0 e x)) rfl ?_
  exact ⟨rfl, (Below.refl _ w).alloc (Nat.le_refl _) _⟩
end Go.Proofs.YtbelpnfgdjnpoaaGreatDoor
/- The reader reads a rectangle. -/
namespace Go.Proofs.YtbelpnfgdjnpoaaGreatDoor
open Go.RowKit

abbrev xbox (r : R) : Obj := .cells #[.int .i64 r.x, .int .i64 r.y, .int .i64 r.w, .int .i64 r.h] 24
def Box4 (w : World) (b : Nat) (r : R) : Prop := w.heap[b]? = some (xbox r)
theorem Box4.new (w : World) (r : R) : Box4 (w.alloc (xbox r)) w.heap.size r := heap_alloc_new w _
theorem Box4.up {w w' : World} {b : Nat} {r : R} (h : Box4 w b r) (hb : Below w.heap.size w w') : Box4 w' b r := (hb.block b (lt_of_block h)).trans h
theorem Box4.mv {g : Nat} {w w' : World} {b : Nat} {r : R} (h : Box4 w b r) (m : Mv g w w') (hne : b ≠ g) : Box4 w' b r := (m.at b (lt_of_block h) hne).trans h
theorem Box4.free {w : World} {b : Nat} {r : R} (h : Box4 w b r) (o : Nat) : w.frozen? ⟨b, o, none⟩ = false := by
  have h' : w.heap[b]? = some (xbox r) := h
  simp [World.frozen?, h']
theorem Box4.cells {w : World} {b : Nat} {r : R} (h : Box4 w b r) : w.cell? ⟨b, 0, none⟩ = some (.int .i64 r.x) ∧ w.cell? ⟨b, 1, none⟩ = some (.int .i64 r.y) ∧ w.cell? ⟨b, 2, none⟩ = some (.int .i64 r.w) ∧ w.cell? ⟨b, 3, none⟩ = some (.int .i64 r.h) := by
  have h' : w.heap[b]? = some (xbox r) := h
  refine ⟨?_, ?_, ?_, ?_⟩ <;> simp [World.cell?, h']
theorem Box4.set {w : World} {b : Nat} {r : R} (h : Box4 w b r) (i : Int) : Box4 (w.setCell ⟨b, 0, none⟩ (.int .i64 i)) b ⟨i, r.y, r.w, r.h⟩ ∧ Box4 (w.setCell ⟨b, 1, none⟩ (.int .i64 i)) b ⟨r.x, i, r.w, r.h⟩ ∧ Box4 (w.setCell ⟨b, 2, none⟩ (.int .i64 i)) b ⟨r.x, r.y, i, r.h⟩ ∧ Box4 (w.setCell ⟨b, 3, none⟩ (.int .i64 i)) b ⟨r.x, r.y, r.w, i⟩ := by
  have h' : w.heap[b]? = some (xbox r) := h
  refine ⟨?_, ?_, ?_, ?_⟩
  · exact (set_block (i := 0) h' _).trans (by simp)
  · exact (set_block (i := 1) h' _).trans (by simp)
  · exact (set_block (i := 2) h' _).trans (by simp)
  · exact (set_block (i := 3) h' _).trans (by simp)
theorem Box4.other {w : World} {b b' : Nat} {r : R} (h : Box4 w b r) (hne : b ≠ b') (i : Nat) (u : Value) : Box4 (w.setCell ⟨b', i, none⟩ u) b r := (Below.heap_setCell _ _ _ _ hne).trans h
theorem Rdr.other {w : World} {g b' : Nat} {s : ByteArray} {a : Int} (h : Rdr w g s a) (hne : g ≠ b') (i : Nat) (u : Value) : Rdr (w.setCell ⟨b', i, none⟩ u) g s a := (Below.heap_setCell _ _ _ _ hne).trans h
abbrev putX (w : World) (b : Nat) (r : R) : World := (((w.setCell ⟨b, 0, none⟩ (.int .i64 r.x)).setCell ⟨b, 1, none⟩ (.int .i64 r.y)).setCell ⟨b, 2, none⟩ (.int .i64 r.w)).setCell ⟨b, 3, none⟩ (.int .i64 r.h)
theorem Box4.put {w : World} {b : Nat} {r : R} (h : Box4 w b r) (q : R) : Box4 (putX w b q) b q := by
  have h1 := (h.set q.x).1
  have h2 := (h1.set q.y).2.1
  have h3 := (h2.set q.w).2.2.1
  exact (h3.set q.h).2.2.2
theorem results_rect1 {fn : Func} {p : Tmp} (h : fn.results = #[.cell p 24]) (tmps : Array Value) (w : World) (g : Nat) (r : R) (hp : tmps.getD p undef = .pointer (some ⟨g, 0, none⟩)) (hg : Box4 w g r) :
    (results fn tmps).run Tryz.prog w = .ok (val r) w :=
  results_cell_row h tmps w g 24 _ (0, 0) _ hp hg Tryz.underlying24 rfl (by kernel_rfl)

/-- A sign that must be this one. -/
theorem sep_any (s : ByteArray) (hs : s.size ≤ 100000) (c : UInt8) (g a : Nat) (w : World) (hr : Rdr w g s (a : Int)) (ha : a ≤ s.size) :
    Calls Tryz.prog 81 #[.pointer (some ⟨g, 0, none⟩), .string ⟨#[c]⟩] w fun e w' => Mv g w w' ∧ ((∃ x : Int, sepAt s.data.toList a c = .ok (a + 1) ∧ a < s.size ∧ e = .returned (.int .u8 x) ∧ Rdr w' g s ((a + 1 : Nat) : Int)) ∨ ∃ v : Value, sepAt s.data.toList a c = .error (2, a) ∧ e = threw v ∧ FltIn w' v 2 (a : Int)) := by
  refine (sign_any s ⟨#[c]⟩ hs g a w hr ha).mono ?_
  rintro e w' ⟨hm, ⟨d, h1, h2, h3, h4, h5⟩ | ⟨v, h1, h2, h3⟩⟩
  · have : d = c := by simpa using h2
    subst this
    exact ⟨hm, .inl ⟨_, by unfold sepAt; rw [if_pos h1], h3, h4, h5⟩⟩
  · exact ⟨hm, .inr ⟨v, by unfold sepAt; rw [if_neg (h1 c (by simp))], h2, h3⟩⟩

/-- What reading a rectangle comes to. -/
def RtSays (S : List UInt8) (s : ByteArray) (g a : Nat) (w : World) (e : Ending) (w' : World) : Prop :=
  Mv g w w' ∧ ((∃ (r : R) (b : Nat), headP S a = .ok (r, b) ∧ b ≤ s.size ∧ e = .returned (val r) ∧ Rdr w' g s (b : Int)) ∨ ∃ (er : Int) (x : Nat) (v : Value), headP S a = .error (er, x) ∧ er ≠ 0 ∧ e = threw v ∧ FltIn w' v er (x : Int))

def pd3 (S : List UInt8) (w h x : Int) (a : Nat) : Rs (R × Nat) := bnd (sepAt S a 44) fun b => bnd (numAt S b) fun y => .ok (⟨x, y.1, w, h⟩, y.2)
def pd2 (S : List UInt8) (w h : Int) (a : Nat) : Rs (R × Nat) := bnd (sepAt S a 44) fun b => bnd (numAt S b) fun x => pd3 S w h x.1 x.2
def pd1 (S : List UInt8) (w : Int) (a : Nat) : Rs (R × Nat) := bnd (sepAt S a 120) fun b => bnd (numAt S b) fun q => pd2 S w q.1 q.2
theorem headP_pd (S : List UInt8) (a : Nat) : headP S a = bnd (numAt S a) fun p => pd1 S p.1 p.2 := rfl
theorem bn_err {α β : Type} {x : Rs α} {e : Int × Nat} (f : α → Rs β) (h : x = .error e) : bnd x f = .error e := by rw [h]; rfl
theorem bn_go {α β : Type} {x : Rs α} {v : α} (f : α → Rs β) (h : x = .ok v) : bnd x f = f v := by rw [h]; rfl

set_option maxRecDepth 100000 in
set_option maxHeartbeats 8000000 in
theorem rect_any (s : ByteArray) (hs : s.size ≤ 100000) (g a : Nat) (w : World) (hr : Rdr w g s (a : Int)) (ha : a ≤ s.size) :
    Calls Tryz.prog 80 #[.pointer (some ⟨g, 0, none⟩)] w (RtSays s.data.toList s g a w) := by
  have KN := Lib.hid (fun a W h ha => number_any s hs g a W h ha)
  have KS := Lib.hid (fun c a W h ha => sep_any s hs c g a W h ha)
  generalize s.data.toList = S at KN KS ⊢
  have hmf : ∀ (fn : Fn) (first cap : Array Value) (w : World), (Instr.makeFunc fn first cap).run Tryz.prog w = .ok (.func fn first cap) w := fun _ _ _ _ => rfl
  have HG := Lib.hid hr.lt
  have B0 : Hid (Below w.heap.size w ((w.alloc (xbox ⟨0, 0, 0, 0⟩)).alloc (xbox ⟨0, 0, 0, 0⟩))) := Lib.hid (((Below.refl _ _).alloc (Nat.le_refl _) _).alloc (by simp) _)
  have R0 := Lib.hid (hr.up B0.out)
  have M0 : Hid (Mv g w ((w.alloc (xbox ⟨0, 0, 0, 0⟩)).alloc (xbox ⟨0, 0, 0, 0⟩))) := Lib.hid (Mv.of B0.out)
  have X0 : Hid (Box4 ((w.alloc (xbox ⟨0, 0, 0, 0⟩)).alloc (xbox ⟨0, 0, 0, 0⟩)) w.heap.size ⟨0, 0, 0, 0⟩) := Lib.hid ((Box4.new w ⟨0, 0, 0, 0⟩).up ((Below.refl _ _).alloc (Nat.le_refl _) _))
  have Y0 : Hid (Box4 ((w.alloc (xbox ⟨0, 0, 0, 0⟩)).alloc (xbox ⟨0, 0, 0, 0⟩)) (w.heap.size + 1) ⟨0, 0, 0, 0⟩) := Lib.hid (by have := Box4.new (w.alloc (xbox ⟨0, 0, 0, 0⟩)) ⟨0, 0, 0, 0⟩; simpa using this)
  have NX : Hid (w.heap.size ≠ g) := Lib.hid (by have := HG.out; omega)
  have NY : Hid (w.heap.size + 1 ≠ g) := Lib.hid (by have := HG.out; omega)
  clear hr B0
  go_enter Tryz.func80, Tryz.ntmps80
  go_upto_region 3 with (fail)
  change Code.wp _ _ _ _ ((w.alloc (xbox ⟨0, 0, 0, 0⟩)).alloc (xbox ⟨0, 0, 0, 0⟩))
  generalize (w.alloc (xbox ⟨0, 0, 0, 0⟩)).alloc (xbox ⟨0, 0, 0, 0⟩) = w0 at R0 M0 X0 Y0 ⊢
  generalize hgx : w.heap.size = gx at X0 NX Y0 NY ⊢
  go_wp2_with fail
  refine (KN.out a _ R0.out ha).mono ?_
  rintro e w1 ⟨hm1, ⟨i1, b1, hn1, hi1, hab1, hbn1, rfl, hr1⟩ | ⟨er, v, hnum, hne, rfl, hf⟩⟩
  case inr =>
    have M1 := Lib.hid (M0.out.trans hm1)
    have HP := Lib.hid ((headP_pd S a).trans (bn_err _ hnum))
    have HF := Lib.hid hf
    clear hm1 hnum hf
    go_wp2
    exact ⟨rfl, M1.out, .inr ⟨er, a, v, HP.out, hne, rfl, HF.out⟩⟩
  have M1 := Lib.hid (M0.out.trans hm1)
  have R1 := Lib.hid hr1
  have X1 := Lib.hid (X0.out.mv hm1 NX.out)
  have Y1 := Lib.hid (Y0.out.mv hm1 NY.out)
  have P1 := Lib.hid ((headP_pd S a).trans (bn_go _ hn1))
  clear hm1 hr1 hn1
  have fy := Y1.out.free 2
  obtain ⟨y0, y1, y2, y3⟩ := Y1.out.cells
  go_upto_region 4 with (fail)
  change Code.wp _ _ _ _ (w1.setCell ⟨gx + 1, 2, none⟩ (.int .i64 i1))
  clear fy y0 y1 y2 y3
  have R2 : Hid (Rdr (w1.setCell ⟨gx + 1, 2, none⟩ (.int .i64 i1)) g s (b1 : Int)) := Lib.hid (R1.out.other (Ne.symm NY.out) _ _)
  have M2 : Hid (Mv g w (w1.setCell ⟨gx + 1, 2, none⟩ (.int .i64 i1))) := Lib.hid (M1.out.put (by rw [hgx]; simp) _)
  have X2 : Hid (Box4 (w1.setCell ⟨gx + 1, 2, none⟩ (.int .i64 i1)) gx ⟨0, 0, 0, 0⟩) := Lib.hid (X1.out.other (by omega) _ _)
  have Y2 : Hid (Box4 (w1.setCell ⟨gx + 1, 2, none⟩ (.int .i64 i1)) (gx + 1) ⟨0, 0, i1, 0⟩) := Lib.hid ((Y1.out.set i1).2.2.1)
  generalize w1.setCell ⟨gx + 1, 2, none⟩ (.int .i64 i1) = w2 at R2 M2 X2 Y2 ⊢
  clear R1 M1 X1 Y1
  go_wp2_with fail
  refine (KS.out 120 b1 _ R2.out hbn1).mono ?_
  rintro e w3 ⟨hm3, ⟨x1, hn, hlt1, rfl, hr3⟩ | ⟨v, hnum, rfl, hf⟩⟩
  case inr =>
    have M3 := Lib.hid (M2.out.trans hm3)
    have HP := Lib.hid ((P1.out).trans (bn_err _ hnum))
    have HF := Lib.hid hf
    clear hm3 hnum hf
    go_wp2
    exact ⟨rfl, M3.out, .inr ⟨2, b1, v, HP.out, by decide, rfl, HF.out⟩⟩
  have M3 := Lib.hid (M2.out.trans hm3)
  have R3 := Lib.hid hr3
  have X3 := Lib.hid (X2.out.mv hm3 NX.out)
  have Y3 := Lib.hid (Y2.out.mv hm3 NY.out)
  have Q1 := Lib.hid ((P1.out).trans (bn_go _ hn))
  clear hm3 hr3 hn R2 M2 X2 Y2
  go_wp2_with fail
  refine (KN.out (b1 + 1) _ R3.out (by omega)).mono ?_
  rintro e w4 ⟨hm4, ⟨i2, b2, hn2, hi2, hab2, hbn2, rfl, hr4⟩ | ⟨er, v, hnum, hne, rfl, hf⟩⟩
  case inr =>
    have M4 := Lib.hid (M3.out.trans hm4)
    have HP := Lib.hid ((Q1.out).trans (bn_err _ hnum))
    have HF := Lib.hid hf
    clear hm4 hnum hf
    go_wp2
    exact ⟨rfl, M4.out, .inr ⟨er, (b1 + 1), v, HP.out, hne, rfl, HF.out⟩⟩
  have M4 := Lib.hid (M3.out.trans hm4)
  have R4 := Lib.hid hr4
  have X4 := Lib.hid (X3.out.mv hm4 NX.out)
  have Y4 := Lib.hid (Y3.out.mv hm4 NY.out)
  have P2 := Lib.hid ((Q1.out).trans (bn_go _ hn2))
  clear hm4 hr4 hn2
  have fy := Y4.out.free 3
  obtain ⟨y0, y1, y2, y3⟩ := Y4.out.cells
  go_upto_region 6 with (fail)
  change Code.wp _ _ _ _ (w4.setCell ⟨gx + 1, 3, none⟩ (.int .i64 i2))
  clear fy y0 y1 y2 y3
  have R5 : Hid (Rdr (w4.setCell ⟨gx + 1, 3, none⟩ (.int .i64 i2)) g s (b2 : Int)) := Lib.hid (R4.out.other (Ne.symm NY.out) _ _)
  have M5 : Hid (Mv g w (w4.setCell ⟨gx + 1, 3, none⟩ (.int .i64 i2))) := Lib.hid (M4.out.put (by rw [hgx]; simp) _)
  have X5 : Hid (Box4 (w4.setCell ⟨gx + 1, 3, none⟩ (.int .i64 i2)) gx ⟨0, 0, 0, 0⟩) := Lib.hid (X4.out.other (by omega) _ _)
  have Y5 : Hid (Box4 (w4.setCell ⟨gx + 1, 3, none⟩ (.int .i64 i2)) (gx + 1) ⟨0, 0, i1, i2⟩) := Lib.hid ((Y4.out.set i2).2.2.2)
  generalize w4.setCell ⟨gx + 1, 3, none⟩ (.int .i64 i2) = w5 at R5 M5 X5 Y5 ⊢
  clear R4 M4 X4 Y4
  go_wp2_with fail
  refine (KS.out 44 b2 _ R5.out hbn2).mono ?_
  rintro e w6 ⟨hm6, ⟨x2, hn, hlt2, rfl, hr6⟩ | ⟨v, hnum, rfl, hf⟩⟩
  case inr =>
    have M6 := Lib.hid (M5.out.trans hm6)
    have HP := Lib.hid ((P2.out).trans (bn_err _ hnum))
    have HF := Lib.hid hf
    clear hm6 hnum hf
    go_wp2
    exact ⟨rfl, M6.out, .inr ⟨2, b2, v, HP.out, by decide, rfl, HF.out⟩⟩
  have M6 := Lib.hid (M5.out.trans hm6)
  have R6 := Lib.hid hr6
  have X6 := Lib.hid (X5.out.mv hm6 NX.out)
  have Y6 := Lib.hid (Y5.out.mv hm6 NY.out)
  have Q2 := Lib.hid ((P2.out).trans (bn_go _ hn))
  clear hm6 hr6 hn R5 M5 X5 Y5
  go_wp2_with fail
  refine (KN.out (b2 + 1) _ R6.out (by omega)).mono ?_
  rintro e w7 ⟨hm7, ⟨i3, b3, hn3, hi3, hab3, hbn3, rfl, hr7⟩ | ⟨er, v, hnum, hne, rfl, hf⟩⟩
  case inr =>
    have M7 := Lib.hid (M6.out.trans hm7)
    have HP := Lib.hid ((Q2.out).trans (bn_err _ hnum))
    have HF := Lib.hid hf
    clear hm7 hnum hf
    go_wp2
    exact ⟨rfl, M7.out, .inr ⟨er, (b2 + 1), v, HP.out, hne, rfl, HF.out⟩⟩
  have M7 := Lib.hid (M6.out.trans hm7)
  have R7 := Lib.hid hr7
  have X7 := Lib.hid (X6.out.mv hm7 NX.out)
  have Y7 := Lib.hid (Y6.out.mv hm7 NY.out)
  have P3 := Lib.hid ((Q2.out).trans (bn_go _ hn3))
  clear hm7 hr7 hn3
  have fy := Y7.out.free 0
  obtain ⟨y0, y1, y2, y3⟩ := Y7.out.cells
  go_upto_region 8 with (fail)
  change Code.wp _ _ _ _ (w7.setCell ⟨gx + 1, 0, none⟩ (.int .i64 i3))
  clear fy y0 y1 y2 y3
  have R8 : Hid (Rdr (w7.setCell ⟨gx + 1, 0, none⟩ (.int .i64 i3)) g s (b3 : Int)) := Lib.hid (R7.out.other (Ne.symm NY.out) _ _)
  have M8 : Hid (Mv g w (w7.setCell ⟨gx + 1, 0, none⟩ (.int .i64 i3))) := Lib.hid (M7.out.put (by rw [hgx]; simp) _)
  have X8 : Hid (Box4 (w7.setCell ⟨gx + 1, 0, none⟩ (.int .i64 i3)) gx ⟨0, 0, 0, 0⟩) := Lib.hid (X7.out.other (by omega) _ _)
  have Y8 : Hid (Box4 (w7.setCell ⟨gx + 1, 0, none⟩ (.int .i64 i3)) (gx + 1) ⟨i3, 0, i1, i2⟩) := Lib.hid ((Y7.out.set i3).1)
  generalize w7.setCell ⟨gx + 1, 0, none⟩ (.int .i64 i3) = w8 at R8 M8 X8 Y8 ⊢
  clear R7 M7 X7 Y7
  go_wp2_with fail
  refine (KS.out 44 b3 _ R8.out hbn3).mono ?_
  rintro e w9 ⟨hm9, ⟨x3, hn, hlt3, rfl, hr9⟩ | ⟨v, hnum, rfl, hf⟩⟩
  case inr =>
    have M9 := Lib.hid (M8.out.trans hm9)
    have HP := Lib.hid ((P3.out).trans (bn_err _ hnum))
    have HF := Lib.hid hf
    clear hm9 hnum hf
    go_wp2
    exact ⟨rfl, M9.out, .inr ⟨2, b3, v, HP.out, by decide, rfl, HF.out⟩⟩
  have M9 := Lib.hid (M8.out.trans hm9)
  have R9 := Lib.hid hr9
  have X9 := Lib.hid (X8.out.mv hm9 NX.out)
  have Y9 := Lib.hid (Y8.out.mv hm9 NY.out)
  have Q3 := Lib.hid ((P3.out).trans (bn_go _ hn))
  clear hm9 hr9 hn R8 M8 X8 Y8
  go_wp2_with fail
  refine (KN.out (b3 + 1) _ R9.out (by omega)).mono ?_
  rintro e w10 ⟨hm10, ⟨i4, b4, hn4, hi4, hab4, hbn4, rfl, hr10⟩ | ⟨er, v, hnum, hne, rfl, hf⟩⟩
  case inr =>
    have M10 := Lib.hid (M9.out.trans hm10)
    have HP := Lib.hid ((Q3.out).trans (bn_err _ hnum))
    have HF := Lib.hid hf
    clear hm10 hnum hf
    go_wp2
    exact ⟨rfl, M10.out, .inr ⟨er, (b3 + 1), v, HP.out, hne, rfl, HF.out⟩⟩
  have M10 := Lib.hid (M9.out.trans hm10)
  have R10 := Lib.hid hr10
  have X10 := Lib.hid (X9.out.mv hm10 NX.out)
  have Y10 := Lib.hid (Y9.out.mv hm10 NY.out)
  have P4 := Lib.hid ((Q3.out).trans (bn_go _ hn4))
  clear hm10 hr10 hn4
  have fy := Y10.out.free 1
  obtain ⟨y0, y1, y2, y3⟩ := Y10.out.cells
  go_upto_region 10 with (fail)
  change Code.wp _ _ _ _ (w10.setCell ⟨gx + 1, 1, none⟩ (.int .i64 i4))
  clear fy y0 y1 y2 y3
  have R11 : Hid (Rdr (w10.setCell ⟨gx + 1, 1, none⟩ (.int .i64 i4)) g s (b4 : Int)) := Lib.hid (R10.out.other (Ne.symm NY.out) _ _)
  have M11 : Hid (Mv g w (w10.setCell ⟨gx + 1, 1, none⟩ (.int .i64 i4))) := Lib.hid (M10.out.put (by rw [hgx]; simp) _)
  have X11 : Hid (Box4 (w10.setCell ⟨gx + 1, 1, none⟩ (.int .i64 i4)) gx ⟨0, 0, 0, 0⟩) := Lib.hid (X10.out.other (by omega) _ _)
  have Y11 : Hid (Box4 (w10.setCell ⟨gx + 1, 1, none⟩ (.int .i64 i4)) (gx + 1) ⟨i3, i4, i1, i2⟩) := Lib.hid ((Y10.out.set i4).2.1)
  generalize w10.setCell ⟨gx + 1, 1, none⟩ (.int .i64 i4) = w11 at R11 M11 X11 Y11 ⊢
  clear R10 M10 X10 Y10
  obtain ⟨y0, y1, y2, y3⟩ := Y11.out.cells
  obtain ⟨x0, x1, x2, x3⟩ := X11.out.cells
  have f0 := X11.out.free 0
  have f1 := X11.out.free 1
  have f2 := X11.out.free 2
  have f3 := X11.out.free 3
  go_wp2
  refine bodyPost_ret (results_rect1 rfl _ _ gx ⟨i3, i4, i1, i2⟩ rfl (X11.out.put ⟨i3, i4, i1, i2⟩)) rfl ?_
  refine ⟨(((M11.out.put (by simp [hgx]) _).put (by simp [hgx]) _).put (by simp [hgx]) _).put (by simp [hgx]) _, .inl ⟨⟨i3, i4, i1, i2⟩, b4, P4.out, hbn4, rfl, ?_⟩⟩
  exact (((R11.out.other (Ne.symm NX.out) _ _).other (Ne.symm NX.out) _ _).other (Ne.symm NX.out) _ _).other (Ne.symm NX.out) _ _
end Go.Proofs.YtbelpnfgdjnpoaaGreatDoor
