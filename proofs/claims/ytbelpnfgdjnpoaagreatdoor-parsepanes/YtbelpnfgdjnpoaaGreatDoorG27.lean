/- Texts of this seat, 3 in one file. -/
import Derived.Test.YtbelpnfgdjnpoaaGreatDoorG26
import Derived.Test.YtbelpnfgdjnpoaaGreatDoorG01
import Derived.Test.YtbelpnfgdjnpoaaGreatDoorG18
import Derived.LoopN
/- A body that stands further on in a text is read the same, so much further on: the program's own words for what it reads. No walk. -/
namespace Go.Proofs.YtbelpnfgdjnpoaaGreatDoor
open Go.RowKit
open Sash.Sum (cutE cutX)

theorem num_up {S : List UInt8} {k a : Nat} : (∀ i b, numAt (S.drop k) a = .ok (i, b) → numAt S (k + a) = .ok (i, k + b)) ∧ ∀ e x, numAt (S.drop k) a = .error (e, x) → numAt S (k + a) = .error (e, k + x) := by
  have hd : (S.drop k).drop a = S.drop (k + a) := List.drop_drop ..
  unfold numAt
  rw [hd]
  constructor
  · intro i b h
    split at h
    · rename_i h0
      rw [if_pos h0]
      obtain ⟨rfl, rfl⟩ := Prod.mk.inj (Except.ok.inj h)
      congr 2
      omega
    · cases h
  · intro e x h
    split at h
    · cases h
    · rename_i h0
      rw [if_neg h0]
      obtain ⟨rfl, rfl⟩ := Prod.mk.inj (Except.error.inj h)
      rfl
theorem get_up {S : List UInt8} {k a : Nat} : (S.drop k)[a]? = S[k + a]? := List.getElem?_drop ..
theorem sep_up {S : List UInt8} {k a : Nat} {c : UInt8} : (∀ b, sepAt (S.drop k) a c = .ok b → sepAt S (k + a) c = .ok (k + b)) ∧ ∀ e x, sepAt (S.drop k) a c = .error (e, x) → sepAt S (k + a) c = .error (e, k + x) := by
  unfold sepAt
  rw [get_up]
  constructor
  · intro b h
    split at h
    · rename_i h0
      rw [if_pos h0]
      obtain rfl := Except.ok.inj h
      rfl
    · cases h
  · intro e x h
    split at h
    · cases h
    · rename_i h0
      rw [if_neg h0]
      obtain ⟨rfl, rfl⟩ := Prod.mk.inj (Except.error.inj h)
      rfl
theorem bgo {α β : Type} {x : Rs α} {v : α} {f : α → Rs β} {o : Rs β} (h : x = .ok v) (h2 : f v = o) : bnd x f = o := by rw [h]; exact h2
theorem ber {α β : Type} {x : Rs α} {e : Int × Nat} {f : α → Rs β} (h : x = .error e) : bnd x f = .error e := by rw [h]; rfl
theorem head_up {S : List UInt8} {k a : Nat} {r : R} {b : Nat} (h : headP (S.drop k) a = .ok (r, b)) : headP S (k + a) = .ok (r, k + b) := by
  unfold headP at h ⊢
  obtain ⟨⟨w, a1⟩, e1, h⟩ := bnd_ok.1 h
  obtain ⟨b1, e2, h⟩ := bnd_ok.1 h
  obtain ⟨⟨ht, a2⟩, e3, h⟩ := bnd_ok.1 h
  obtain ⟨b2, e4, h⟩ := bnd_ok.1 h
  obtain ⟨⟨x, a3⟩, e5, h⟩ := bnd_ok.1 h
  obtain ⟨b3, e6, h⟩ := bnd_ok.1 h
  obtain ⟨⟨y, a4⟩, e7, h⟩ := bnd_ok.1 h
  simp only at e2 e4 e6 h
  obtain ⟨rfl, rfl⟩ := Prod.mk.inj (Except.ok.inj h)
  exact bgo (num_up.1 _ _ e1) (bgo (sep_up.1 _ e2) (bgo (num_up.1 _ _ e3) (bgo (sep_up.1 _ e4) (bgo (num_up.1 _ _ e5) (bgo (sep_up.1 _ e6) (bgo (num_up.1 _ _ e7) rfl))))))
theorem head_upE {S : List UInt8} {k a : Nat} {e : Int} {x : Nat} (h : headP (S.drop k) a = .error (e, x)) : headP S (k + a) = .error (e, k + x) := by
  unfold headP at h ⊢
  rcases bnd_er h with h | ⟨⟨p, a1⟩, e1, h⟩
  · exact ber (num_up.2 _ _ h)
  refine bgo (num_up.1 _ _ e1) ?_
  rcases bnd_er h with h | ⟨b, e2, h⟩
  · exact ber (sep_up.2 _ _ h)
  refine bgo (sep_up.1 _ e2) ?_
  rcases bnd_er h with h | ⟨⟨q, a2⟩, e3, h⟩
  · exact ber (num_up.2 _ _ h)
  refine bgo (num_up.1 _ _ e3) ?_
  rcases bnd_er h with h | ⟨b, e4, h⟩
  · exact ber (sep_up.2 _ _ h)
  refine bgo (sep_up.1 _ e4) ?_
  rcases bnd_er h with h | ⟨⟨y, a3⟩, e5, h⟩
  · exact ber (num_up.2 _ _ h)
  refine bgo (num_up.1 _ _ e5) ?_
  rcases bnd_er h with h | ⟨b, e6, h⟩
  · exact ber (sep_up.2 _ _ h)
  refine bgo (sep_up.1 _ e6) ?_
  rcases bnd_er h with h | ⟨⟨z, a4⟩, e7, h⟩
  · exact ber (num_up.2 _ _ h)
  · cases h
def St.up (k : Nat) : St → St
  | .cell a d => .cell (k + a) d
  | .kids a d c acc => .kids (k + a) d c acc
def PR.up (k : Nat) : PR → PR
  | .bad e x => .bad e (k + x)
  | .ok l x => .ok l (k + x)
theorem opens_up {S : List UInt8} {k b : Nat} {kd : Int} {c : UInt8} (h : opens (S.drop k) b kd c) : opens S (k + b) kd c := by
  unfold opens at h ⊢
  rw [get_up] at h
  exact h
theorem ends_up {S : List UInt8} {k b : Nat} {c : UInt8} {acc : List T} : ends S (k + b) c acc ↔ ends (S.drop k) b c acc := by
  unfold ends
  rw [get_up]
theorem next_up {acc : List T} {k a : Nat} : next acc (k + a) = k + next acc a := by
  unfold next; split <;> omega
theorem Rd.up {S : List UInt8} {k : Nat} {st : St} {o : PR} (h : Rd (S.drop k) st o) : Rd S (st.up k) (o.up k) := by
  induction h with
  | headBad h => exact .headBad (head_upE h)
  | form h h1 h2 h3 => rw [get_up] at h1 h2 h3; exact .form (head_up h) h1 h2 h3
  | idBad h h1 h2 => rw [get_up] at h1; exact .idBad (head_up h) h1 (by have := num_up.2 _ _ h2; rw [← Nat.add_assoc] at this; exact this)
  | leaf h h1 h2 => rw [get_up] at h1; exact .leaf (head_up h) h1 (by have := num_up.1 _ _ h2; rw [← Nat.add_assoc] at this; exact this)
  | long h h1 h2 => exact .long (head_up h) (opens_up h1) h2
  | kidsBad h h1 h2 _ ih => exact .kidsBad (head_up h) (opens_up h1) h2 (by have := ih; simp only [St.up, PR.up, ← Nat.add_assoc] at this; exact this)
  | kids h h1 h2 _ ih => exact .kids (head_up h) (opens_up h1) h2 (by have := ih; simp only [St.up, PR.up, ← Nat.add_assoc] at this; exact this)
  | done h =>
    have := Rd.done (deep := ‹_›) (ends_up.2 h)
    simp only [St.up, PR.up]
    rw [← Nat.add_assoc]
    exact this
  | comma h h1 h2 => rw [get_up] at h2; exact .comma (fun e => h (ends_up.1 e)) h1 h2
  | kidBad h h1 _ ih => rw [get_up] at h1; exact .kidBad (fun e => h (ends_up.1 e)) h1 (by rw [next_up]; exact ih)
  | kid h h1 _ _ ih ih2 => rw [get_up] at h1; exact .kid (fun e => h (ends_up.1 e)) h1 (by rw [next_up]; exact ih) ih2

/-- What the program says of a body that stands in a text from a place on. -/
def TreeR (S : List UInt8) (k : Nat) : WR → Prop
  | .no e pl => (∃ x : Nat, Rd S (.cell k 1) (.bad e x) ∧ pl = (x : Int)) ∨ (∃ (l : List T) (x : Nat), Rd S (.cell k 1) (.ok l x) ∧ x < S.length ∧ e = 2 ∧ pl = (x : Int)) ∨ (∃ t, Rd S (.cell k 1) (.ok [t] S.length) ∧ mayT t = false ∧ e = 1 ∧ pl = 0) ∨ (∃ t, Rd S (.cell k 1) (.ok [t] S.length) ∧ mayT t = true ∧ tileB t = false ∧ e = 5 ∧ pl = 0)
  | .yes t => Rd S (.cell k 1) (.ok [t] S.length) ∧ tileB t = true
theorem TreeR.one {S : List UInt8} {k : Nat} {a b : WR} (ha : TreeR S k a) (hb : TreeR S k b) : a = b := by
  cases a with
  | no e pl =>
    cases b with
    | no e' pl' =>
      rcases ha with ⟨x, h1, rfl⟩ | ⟨l, x, h1, h2, rfl, rfl⟩ | ⟨t, h1, h2, rfl, rfl⟩ | ⟨t, h1, h2, h3, rfl, rfl⟩ <;> rcases hb with ⟨x', g1, rfl⟩ | ⟨l', x', g1, g2, rfl, rfl⟩ | ⟨t', g1, g2, rfl, rfl⟩ | ⟨t', g1, g2, g3, rfl, rfl⟩ <;> have e := h1.one _ g1
      · cases e; rfl
      · cases e
      · cases e
      · cases e
      · cases e
      · cases e; rfl
      · cases e; omega
      · cases e; omega
      · cases e
      · cases e; omega
      · rfl
      · cases e; rw [h2] at g2; cases g2
      · cases e
      · cases e; omega
      · cases e; rw [h2] at g2; cases g2
      · rfl
    | yes t' =>
      exfalso
      rcases ha with ⟨x, h1, rfl⟩ | ⟨l, x, h1, h2, rfl, rfl⟩ | ⟨t, h1, h2, rfl, rfl⟩ | ⟨t, h1, h2, h3, rfl, rfl⟩ <;> have e := h1.one _ hb.1
      · cases e
      · cases e; omega
      · cases e; rw [tile_may hb.2] at h2; cases h2
      · cases e; rw [hb.2] at h3; cases h3
  | yes t =>
    cases b with
    | no e' pl' =>
      exfalso
      rcases hb with ⟨x, h1, rfl⟩ | ⟨l, x, h1, h2, rfl, rfl⟩ | ⟨t', h1, h2, rfl, rfl⟩ | ⟨t', h1, h2, h3, rfl, rfl⟩ <;> have e := h1.one _ ha.1
      · cases e
      · cases e; omega
      · cases e; rw [tile_may ha.2] at h2; cases h2
      · cases e; rw [ha.2] at h3; cases h3
    | yes t' => have e := ha.1.one _ hb.1; cases e; rfl
theorem tree_of {S : List UInt8} {k : Nat} (hk : k ≤ S.length) {o : WR} (h : WholeR (S.drop k) (k : Int) o) : TreeR S k o := by
  have hl : (S.drop k).length = S.length - k := List.length_drop ..
  have hkk : k + (S.drop k).length = S.length := by omega
  cases o with
  | no e pl =>
    rcases h with ⟨x, h1, rfl⟩ | ⟨l, x, h1, h2, rfl, rfl⟩ | ⟨t, h1, h2, rfl, rfl⟩ | ⟨t, h1, h2, h3, rfl, rfl⟩
    · exact .inl ⟨k + x, h1.up, by omega⟩
    · exact .inr (.inl ⟨l, k + x, h1.up, by omega, rfl, by omega⟩)
    · refine .inr (.inr (.inl ⟨t, ?_, h2, rfl, rfl⟩))
      have := h1.up
      simp only [St.up, PR.up, hkk] at this
      exact this
    · refine .inr (.inr (.inr ⟨t, ?_, h2, h3, rfl, rfl⟩))
      have := h1.up
      simp only [St.up, PR.up, hkk] at this
      exact this
  | yes t =>
    refine ⟨?_, h.2⟩
    have := h.1.up
    simp only [St.up, PR.up, hkk] at this
    exact this
def TextP (S : List UInt8) : WR → Prop
  | .no e pl => (cutE S ≠ 0 ∧ e = cutE S ∧ pl = 0) ∨ (cutE S = 0 ∧ TreeR S 5 (.no e pl))
  | .yes t => cutE S = 0 ∧ TreeR S 5 (.yes t)
def BodyP (S : List UInt8) : WR → Prop
  | .no e pl => (65530 < S.length ∧ e = 3 ∧ pl = 0) ∨ (S.length ≤ 65530 ∧ TreeR S 0 (.no e pl))
  | .yes t => S.length ≤ 65530 ∧ TreeR S 0 (.yes t)
theorem TextP.one {S : List UInt8} {a b : WR} (ha : TextP S a) (hb : TextP S b) : a = b := by
  cases a with
  | no e pl =>
    cases b with
    | no e' pl' =>
      rcases ha with ⟨h1, rfl, rfl⟩ | ⟨h1, h2⟩ <;> rcases hb with ⟨g1, rfl, rfl⟩ | ⟨g1, g2⟩
      · rfl
      · exact absurd g1 h1
      · exact absurd h1 g1
      · exact h2.one g2
    | yes t' =>
      rcases ha with ⟨h1, -, -⟩ | ⟨h1, h2⟩
      · exact absurd hb.1 h1
      · exact h2.one hb.2
  | yes t =>
    cases b with
    | no e' pl' =>
      rcases hb with ⟨h1, -, -⟩ | ⟨h1, h2⟩
      · exact absurd ha.1 h1
      · exact ha.2.one h2
    | yes t' => exact ha.2.one hb.2
theorem BodyP.one {S : List UInt8} {a b : WR} (ha : BodyP S a) (hb : BodyP S b) : a = b := by
  cases a with
  | no e pl =>
    cases b with
    | no e' pl' =>
      rcases ha with ⟨h1, rfl, rfl⟩ | ⟨h1, h2⟩ <;> rcases hb with ⟨g1, rfl, rfl⟩ | ⟨g1, g2⟩
      · rfl
      · omega
      · omega
      · exact h2.one g2
    | yes t' =>
      rcases ha with ⟨h1, -, -⟩ | ⟨h1, h2⟩
      · have := hb.1; omega
      · exact h2.one hb.2
  | yes t =>
    cases b with
    | no e' pl' =>
      rcases hb with ⟨h1, -, -⟩ | ⟨h1, h2⟩
      · have := ha.1; omega
      · exact ha.2.one h2
    | yes t' => exact ha.2.one hb.2
theorem cut_five {S : List UInt8} (h : cutE S = 0) : cutX S = S.drop 5 ∧ 5 ≤ S.length := by
  have hp := Sash.Sum.put_cut S h
  have hl := congrArg List.length hp
  rw [Sash.Sum.putL_len] at hl
  refine ⟨?_, by omega⟩
  unfold cutX
  rw [if_pos h]
theorem TextP.of {S : List UInt8} {o : WR} (h : TextR S o) : TextP S o := by
  cases o with
  | no e pl =>
    rcases h with h | ⟨h1, h2⟩
    · exact .inl h
    · obtain ⟨c1, c2⟩ := cut_five h1
      rw [c1] at h2
      exact .inr ⟨h1, tree_of c2 h2⟩
  | yes t =>
    obtain ⟨h1, h2⟩ := h
    obtain ⟨c1, c2⟩ := cut_five h1
    rw [c1] at h2
    exact ⟨h1, tree_of c2 h2⟩
theorem BodyP.of {S : List UInt8} {o : WR} (h : BodyR S o) : BodyP S o := by
  cases o with
  | no e pl =>
    rcases h with h | ⟨h1, h2⟩
    · exact .inl h
    · exact .inr ⟨h1, tree_of (Nat.zero_le _) (by simpa using h2)⟩
  | yes t => exact ⟨h.1, tree_of (Nat.zero_le _) (by simpa using h.2)⟩
end Go.Proofs.YtbelpnfgdjnpoaaGreatDoor
/- What an error that Check made tells: its number and its place. -/
namespace Go.Proofs.YtbelpnfgdjnpoaaGreatDoor
open Go.RowKit

theorem et_up {w w' : World} (h : Er.EtLaid w) (hb : Below w.heap.size w w') : Er.EtLaid w' := (hb.cell (lt_of_cell h)).trans h
theorem hit_up {w w1 w' : World} {t : Addr} {v : Value} (hb : Below w.heap.size w w1) (h : Er.Hit w1 w' t v) : Er.Hit w w' t v := by
  obtain ⟨u, hu, rfl⟩ := h
  exact ⟨u, hb.trans (hu.mono hb.size), rfl⟩
theorem hit_cellD {w w' : World} {t : Addr} {old v : Value} (h : Er.Hit w w' t v) (ht : w.cell? t = some old) : w'.cell? t = some v := by
  obtain ⟨u, hu, rfl⟩ := h
  exact World.cell?_setCell_same _ _ _ ((hu.cell (lt_of_cell ht)).trans ht)
theorem hit_belowD {w0 w w' : World} {t : Addr} {v : Value} (h : Er.Hit w w' t v) (hb : Below w0.heap.size w0 w) (ht : w0.heap.size ≤ t.block) : Below w0.heap.size w0 w' := by
  obtain ⟨u, hu, rfl⟩ := h
  exact (hb.trans (hu.mono hb.size)).setCell ht _
theorem cellD_new (w : World) (v : Value) (ty : TypeId) : (w.alloc (.cells #[v] ty)).cell? ⟨w.heap.size, 0, none⟩ = some v := by simp
theorem freeD_new (w : World) (v : Value) (ty : TypeId) : (w.alloc (.cells #[v] ty)).frozen? ⟨w.heap.size, 0, none⟩ = false := by
  have h := heap_alloc_new w (.cells #[v] ty)
  simp only [World.frozen?]
  rw [h]
  simp
theorem neqS (u : TypeId) (x : Value) (w : World) : (binOp .neq 29 (.iface u x) .nilIface).run Tryz.prog w = .ok (.bool true) w := by kernel_rfl
theorem neqN (w : World) : (binOp .neq 29 .nilIface .nilIface).run Tryz.prog w = .ok (.bool false) w := by kernel_rfl
theorem eqlS (u : TypeId) (x : Value) (w : World) : (binOp .eql 29 (.iface u x) .nilIface).run Tryz.prog w = .ok (.bool false) w := by kernel_rfl
theorem eqlN (w : World) : (binOp .eql 29 .nilIface .nilIface).run Tryz.prog w = .ok (.bool true) w := by kernel_rfl
theorem asF_E (v : Value) (w : World) : (Instr.typeAssert (.iface 92 v) 29 37 true).run Tryz.prog w = .ok (.tuple #[.int .i64 0, .bool false]) w := by kernel_rfl
theorem asF_F (v : Value) (w : World) : (Instr.typeAssert (.iface 92 v) 29 92 true).run Tryz.prog w = .ok (.tuple #[v, .bool true]) w := by kernel_rfl
theorem entersC1 : Enters 47 := enters_of Tryz.func47 (by kernel_rfl) rfl
theorem entersA1 : Enters 59 := enters_of Tryz.func59 (by kernel_rfl) rfl

theorem codeF1 (b : Nat) (n : Int) (t : Addr) (old : Value) (w : World) (h : w.cell? ⟨b, 0, none⟩ = some (.int .i64 n)) (hg : Er.EtLaid w) (ht : w.cell? t = some old) (hf : w.frozen? t = false) :
    Calls Tryz.prog 47 #[.iface 92 (.pointer (some ⟨b, 0, none⟩)), .pointer (some t)] w fun e w' => e = .returned (.bool true) ∧ Er.Hit w w' t (.int .i64 n) := by
  have hS := Lib.hid (Er.as_fault_code b 0 n t old w hg h ht hf)
  clear hg ht hf h
  go_enter Tryz.func47, Tryz.ntmps47
  go_wp2_with (go_at_call 48; refine hS.out.mono ?_; rintro e w1 ⟨rfl, hq⟩)
  go_ret
  exact ⟨rfl, hq⟩
theorem atF1 (b : Nat) (t : Addr) (old : Value) (w : World) (hg : Er.EtLaid w) (ht : w.cell? t = some old) (hf : w.frozen? t = false) :
    Calls Tryz.prog 59 #[.iface 92 (.pointer (some ⟨b, 0, none⟩)), .pointer (some t)] w fun e w' => e = .returned (.bool true) ∧ Er.Hit w w' t (.pointer (some ⟨b, 0, none⟩)) := by
  have hS := Lib.hid (Er.as_fault_at ⟨b, 0, none⟩ t old w hg ht hf)
  clear hg ht hf
  go_enter Tryz.func59, Tryz.ntmps59
  go_wp2_with (go_at_call 48; refine hS.out.mono ?_; rintro e w1 ⟨rfl, hq⟩)
  go_ret
  exact ⟨rfl, hq⟩

set_option maxRecDepth 100000 in
/-- some, at a fault: it is asked. -/
theorem someF (F : Nat) (hE : Enters F) (c : Value) (b : Nat) (w : World) (Q : World → Prop) (hF : ∀ w1, Below w.heap.size w w1 → Calls Tryz.prog F #[.iface 92 (.pointer (some ⟨b, 0, none⟩)), c] w1 fun e w' => e = .returned (.bool true) ∧ Q w') :
    Calls Tryz.prog 46 #[.iface 92 (.pointer (some ⟨b, 0, none⟩)), .func (.func F) #[] #[c]] w fun e w' => e = .returned (.bool true) ∧ Q w' := by
  have HF := Lib.hid hF
  clear hF
  have nS := neqS
  have b2 := asF_E
  have d2 := asF_F
  have hent : ∀ (args : Array Value) (w : World), (callFunc F args).run Tryz.prog w = .ok (.enter F args) w := hE
  have HA : Hid (Below w.heap.size w (w.alloc (.cells #[.func (.func F) #[] #[c]] 77))) := (Below.refl _ _).alloc (Nat.le_refl _) _
  go_enter Tryz.func46, Tryz.ntmps46
  go_wp2
  refine wp_loop_rounds 1 ?_
  rw [rounds_succ]
  go_wp2
  refine (HF.out _ HA.out).mono ?_
  rintro e w2 ⟨rfl, hq⟩
  have HQ := Lib.hid hq
  clear hq
  go_wp2
  go_ret
  exact ⟨rfl, HQ.out⟩
theorem someN (f : Value) (w : World) (hf : ∃ F c, f = .func (.func F) #[] #[c]) : Calls Tryz.prog 46 #[.nilIface, f] w fun e w' => e = .returned (.bool false) ∧ Below w.heap.size w w' := by
  have nN := neqN
  obtain ⟨F, c, rfl⟩ := hf
  go_enter Tryz.func46, Tryz.ntmps46
  go_wp2
  refine wp_loop_rounds 1 ?_
  rw [rounds_succ]
  go_wp2
  go_ret
  exact ⟨rfl, (Below.refl w.heap.size w).alloc (Nat.le_refl _) _⟩

theorem codeN (w : World) : Calls Tryz.prog 24 #[.nilIface] w fun e w' => e = .returned (.int .i64 0) ∧ Below w.heap.size w w' := by
  have e1 := eqlN
  go_enter Tryz.func24, Tryz.ntmps24
  go_wp2
  go_ret
  exact ⟨rfl, Below.refl _ _⟩
theorem codeF (b : Nat) (n : Int) (w : World) (h : w.cell? ⟨b, 0, none⟩ = some (.int .i64 n)) (hg : Er.EtLaid w) : Calls Tryz.prog 24 #[.iface 92 (.pointer (some ⟨b, 0, none⟩))] w fun e w' => e = .returned (.int .i64 n) ∧ Below w.heap.size w w' := by
  have e1 := eqlS
  have hmf : ∀ (fn : Fn) (first cap : Array Value) (w : World), (Instr.makeFunc fn first cap).run Tryz.prog w = .ok (.func fn first cap) w := fun _ _ _ _ => rfl
  have hb := (Below.refl w.heap.size w).alloc (Nat.le_refl _) (.cells #[.int .i64 10] 37)
  have H := Lib.hid (someF 47 entersC1 (.pointer (some ⟨w.heap.size, 0, none⟩)) b (w.alloc (.cells #[.int .i64 10] 37)) (fun w' => Er.Hit (w.alloc (.cells #[.int .i64 10] 37)) w' ⟨w.heap.size, 0, none⟩ (.int .i64 n)) (fun w1 h1 =>
    (codeF1 b n ⟨w.heap.size, 0, none⟩ (.int .i64 10) w1 ((h1.cell (Nat.lt_of_lt_of_le (lt_of_cell h) hb.size)).trans ((hb.cell (lt_of_cell h)).trans h)) (et_up (et_up hg hb) h1) ((h1.cell (lt_of_cell (cellD_new w _ _))).trans (cellD_new w _ _)) ((h1.frozen (lt_of_cell (cellD_new w (.int .i64 10) 37))).trans (freeD_new w _ _))).mono fun e w' ⟨h1', h2'⟩ => ⟨h1', hit_up h1 h2'⟩))
  have HB := Lib.hid hb
  clear hb hg h
  go_enter Tryz.func24, Tryz.ntmps24
  go_wp2_with (go_at_call 46; refine H.out.mono ?_; rintro e w1 ⟨rfl, hq⟩; have HQ := Lib.hid hq; have hc := hit_cellD hq (cellD_new _ _ _); clear hq)
  go_ret
  exact ⟨rfl, hit_belowD HQ.out HB.out (Nat.le_refl _)⟩
theorem atN (w : World) : Calls Tryz.prog 32 #[.nilIface] w fun e w' => e = .returned (.tuple #[.int .i64 0, .bool false]) ∧ Below w.heap.size w w' := by
  have hmf : ∀ (fn : Fn) (first cap : Array Value) (w : World), (Instr.makeFunc fn first cap).run Tryz.prog w = .ok (.func fn first cap) w := fun _ _ _ _ => rfl
  have hb := (Below.refl w.heap.size w).alloc (Nat.le_refl _) (.cells #[.pointer none] 92)
  have H := Lib.hid (someN (.func (.func 59) #[] #[.pointer (some ⟨w.heap.size, 0, none⟩)]) (w.alloc (.cells #[.pointer none] 92)) ⟨_, _, rfl⟩)
  have HB := Lib.hid hb
  clear hb
  go_enter Tryz.func32, Tryz.ntmps32
  go_wp2_with (go_at_call 46; refine H.out.mono ?_; rintro e w1 ⟨rfl, hq⟩; have HQ := Lib.hid hq; clear hq)
  all_goals go_ret2
  all_goals exact ⟨rfl, HB.out.trans (HQ.out.mono HB.out.size)⟩
theorem atF (b : Nat) (k : Int) (w : World) (hk : w.cell? ⟨b, 1, none⟩ = some (.int .i64 k)) (hg : Er.EtLaid w) : Calls Tryz.prog 32 #[.iface 92 (.pointer (some ⟨b, 0, none⟩))] w fun e w' => e = .returned (.tuple #[.int .i64 k, .bool true]) ∧ Below w.heap.size w w' := by
  have hmf : ∀ (fn : Fn) (first cap : Array Value) (w : World), (Instr.makeFunc fn first cap).run Tryz.prog w = .ok (.func fn first cap) w := fun _ _ _ _ => rfl
  have hb := (Below.refl w.heap.size w).alloc (Nat.le_refl _) (.cells #[.pointer none] 92)
  have H := Lib.hid (someF 59 entersA1 (.pointer (some ⟨w.heap.size, 0, none⟩)) b (w.alloc (.cells #[.pointer none] 92)) (fun w' => Er.Hit (w.alloc (.cells #[.pointer none] 92)) w' ⟨w.heap.size, 0, none⟩ (.pointer (some ⟨b, 0, none⟩))) (fun w1 h1 =>
    (atF1 b ⟨w.heap.size, 0, none⟩ (.pointer none) w1 (et_up (et_up hg hb) h1) ((h1.cell (lt_of_cell (cellD_new w _ _))).trans (cellD_new w _ _)) ((h1.frozen (lt_of_cell (cellD_new w (.pointer none) 92))).trans (freeD_new w _ _))).mono fun e w' ⟨h1', h2'⟩ => ⟨h1', hit_up h1 h2'⟩))
  have HB := Lib.hid hb
  have HK := Lib.hid hk
  clear hb hg hk
  go_enter Tryz.func32, Tryz.ntmps32
  go_wp2_with (go_at_call 46; refine H.out.mono ?_; rintro e w1 ⟨rfl, hq⟩; have HQ := Lib.hid (hit_belowD hq HB.out (Nat.le_refl _)); have hc := hit_cellD hq (cellD_new _ _ _); have hk' := (HQ.out.cell (lt_of_cell HK.out)).trans HK.out; clear hq)
  all_goals go_ret2
  all_goals exact ⟨rfl, HQ.out⟩
end Go.Proofs.YtbelpnfgdjnpoaaGreatDoor
/- The tree of a body that stands in a text: read, whole, tiling; else an error is thrown. -/
namespace Go.Proofs.YtbelpnfgdjnpoaaGreatDoor
open Go.RowKit

/-- What is thrown tells a number and a place. -/
def Thr (w : World) (v : Value) (er pl : Int) : Prop := FltIn w v er pl ∨ (pl = 0 ∧ v = .iface 37 (.int .i64 er))
theorem ask_ok (w : World) : Calls Tryz.prog 28 #[.int .i64 0] w fun e w' => e = .returned (.tuple #[]) ∧ w' = w := by
  go_enter Tryz.func28, Tryz.ntmps28
  go_wp2
  go_end0
  exact ⟨rfl, rfl⟩
theorem ask_no (n : Int) (hn : n ≠ 0) (w : World) : Calls Tryz.prog 28 #[.int .i64 n] w fun e w' => e = threw (.iface 37 (.int .i64 n)) ∧ w' = w := by
  have q : (n != 0) = true := by simp [hn]
  go_enter Tryz.func28, Tryz.ntmps28
  go_wp2
  exact ⟨rfl, rfl, rfl⟩
/-- Check, and its number asked: nothing, or a number is thrown. -/
def TfSays (Rel : WR → Prop) (w : World) (e : Ending) (w' : World) : Prop :=
  Below w.heap.size w w' ∧ ((∃ (t : T) (d : C) (Bd : List Nat), Rel (.yes t) ∧ e = .returned (cval d) ∧ OwnT w' w.heap.size d t Bd) ∨ ∃ (er pl : Int) (v : Value), Rel (.no er pl) ∧ er ≠ 0 ∧ e = threw v ∧ Thr w' v er pl)
theorem flt_up {w w' : World} {v : Value} {n k : Int} (h : FltIn w v n k) (hb : Below w.heap.size w w') : FltIn w' v n k := by
  obtain ⟨b, h1, h2, h3⟩ := h
  exact ⟨b, h1, (hb.cell (lt_of_cell h2)).trans h2, (hb.cell (lt_of_cell h3)).trans h3⟩

set_option maxRecDepth 100000 in
set_option maxHeartbeats 4000000 in
theorem treeFrom_any (s : ByteArray) (hs : s.size ≤ 100000) (k : Nat) (hk : k ≤ s.size) (w : World) (hg : Er.EtLaid w) :
    Calls Tryz.prog 29 #[.string s, .int .i64 (k : Int)] w (TfSays (TreeR s.data.toList k) w) := by
  have hSL : s.data.toList.length = s.size := by simp
  have KC : Hid (∀ (g : Nat) (W : World), Rdr W g s (k : Int) → Calls Tryz.prog 53 #[.pointer (some ⟨g, 0, none⟩), .int .i64 1] W (CdSays s.data.toList s g k 1 W)) := Lib.hid (fun g W h => cell_any s hs g (s.size + 1) k 1 W (by omega) hk (by omega) h)
  generalize s.data.toList = S at KC hSL ⊢
  have HSL := Lib.hid hSL
  have HE := Lib.hid hg
  have HW0 := Lib.hid (lt_of_cell hg)
  clear hSL hg
  have B0 : Hid (Below w.heap.size w ((w.alloc (cbox zC)).alloc (rdbox s (k : Int)))) := Lib.hid (((Below.refl _ _).alloc (Nat.le_refl _) _).alloc (by simp) _)
  have X0 : Hid (Box7 ((w.alloc (cbox zC)).alloc (rdbox s (k : Int))) w.heap.size zC) := Lib.hid ((Box7.new w zC).up ((Below.refl _ _).alloc (Nat.le_refl _) _))
  have R0 : Hid (Rdr ((w.alloc (cbox zC)).alloc (rdbox s (k : Int))) (w.heap.size + 1) s (k : Int)) := Lib.hid (by have := Rdr.new (w.alloc (cbox zC)) s (k : Int); simpa using this)
  have HZ0 : Hid (((w.alloc (cbox zC)).alloc (rdbox s (k : Int))).heap.size = w.heap.size + 2) := Lib.hid (by simp)
  go_enter Tryz.func29, Tryz.ntmps29
  go_upto_region 2 with (fail)
  change Code.wp _ _ _ _ ((w.alloc (cbox zC)).alloc (rdbox s (k : Int)))
  generalize (w.alloc (cbox zC)).alloc (rdbox s (k : Int)) = w0 at B0 X0 R0 HZ0 ⊢
  generalize hgx : w.heap.size = gx at B0 X0 R0 HZ0 HW0 ⊢
  go_wp2_with fail
  refine (KC.out (gx + 1) w0 R0.out).mono ?_
  rintro e w1 ⟨hm1, ⟨t, d, Bs, x, hrd, hkx, hxs, rfl, hown, hnd, hr1⟩ | ⟨er, x, v, hrd, hne, rfl, hf⟩⟩
  case inr =>
    have B1 : Hid (Below gx w w1) := Lib.hid (B0.out.trans (hm1.below (by omega) (by have := HZ0.out; omega)))
    have HRD := Lib.hid hrd
    have HF := Lib.hid hf
    clear hm1 hrd hf
    go_wp2
    exact ⟨rfl, by rw [hgx]; exact B1.out, .inr ⟨er, (x : Int), v, .inl ⟨x, HRD.out, rfl⟩, hne, rfl, .inl HF.out⟩⟩
  have B2 : Hid (Below gx w (w1.alloc (cbox d))) := Lib.hid ((B0.out.trans (hm1.below (by omega) (by have := HZ0.out; omega))).alloc (by have := HZ0.out; have := hm1.size; omega) _)
  have X2 : Hid (Box7 (w1.alloc (cbox d)) gx zC) := Lib.hid ((X0.out.mv hm1 (by omega)).up ((Below.refl _ _).alloc (Nat.le_refl _) _))
  have R2 : Hid (Rdr (w1.alloc (cbox d)) (gx + 1) s (x : Int)) := Lib.hid (hr1.up ((Below.refl _ _).alloc (Nat.le_refl _) _))
  have Y2 := Lib.hid (Box7.new w1 d)
  have O2 : Hid (OwnT (w1.alloc (cbox d)) (gx + 2) d t Bs) := Lib.hid (by rw [← HZ0.out]; exact hown.up ((Below.refl _ _).alloc (Nat.le_refl _) _))
  have NY : Hid (gx + 1 < w1.heap.size) := Lib.hid hr1.lt
  have HRD := Lib.hid hrd
  clear hm1 hrd hown hnd hr1
  go_upto_region 3 with (fail)
  change Code.wp _ _ _ _ (w1.alloc (cbox d))
  generalize w1.alloc (cbox d) = w2 at B2 X2 R2 Y2 O2 ⊢
  generalize w1.heap.size = gy at Y2 NY ⊢
  obtain ⟨h0, h1⟩ := R2.out.cells
  by_cases hlt : x < s.size
  · have q : decide ((x : Int) < (s.size : Int)) = true := decide_eq_true (by omega)
    have q' : decide (x < s.size) = true := decide_eq_true hlt
    have q'' : (x < s.size) = True := eq_true hlt
    go_wp2_with fail
    refine (wrong_any (gx + 1) s x 2 w2 (by decide) R2.out).mono ?_
    rintro e w3 ⟨v, rfl, hf, hb3⟩
    have B3 : Hid (Below gx w w3) := Lib.hid (B2.out.trans (hb3.mono (by have := B2.out.size; omega)))
    have HF := Lib.hid hf
    clear hb3 hf
    go_wp2
    exact ⟨rfl, by rw [hgx]; exact B3.out, .inr ⟨2, (x : Int), v, .inr (.inl ⟨[t], x, HRD.out, by rw [HSL.out]; exact hlt, rfl, rfl⟩), by decide, rfl, .inl HF.out⟩⟩
  · have q : decide ((x : Int) < (s.size : Int)) = false := decide_eq_false (by omega)
    have q' : decide (x < s.size) = false := decide_eq_false hlt
    have q'' : (x < s.size) = False := eq_false hlt
    have HX : Hid (x = S.length) := Lib.hid (by have := HSL.out; omega)
    have HE2 : Hid (Er.EtLaid w2) := Lib.hid ((B2.out.cell HW0.out).trans HE.out)
    have HCK := Lib.hid (check_any t d w2 O2.out.is may_small)
    obtain ⟨c0, c1, c2, c3, c4, c5, c6⟩ := Y2.out.cat
    simp only [Nat.zero_add] at c1 c2 c3 c4 c5 c6
    go_wp2_with fail
    refine HCK.out.mono ?_
    rintro e w3 ⟨v, rfl, hb3, hv⟩
    have B3 : Hid (Below gx w w3) := Lib.hid (B2.out.trans (hb3.mono (by have := B2.out.size; omega)))
    have X3 := Lib.hid (X2.out.up hb3)
    have Y3 := Lib.hid (Y2.out.up hb3)
    have O3 := Lib.hid (O2.out.up hb3)
    have HE3 : Hid (Er.EtLaid w3) := Lib.hid (et_up HE2.out hb3)
    clear hb3 c0 c1 c2 c3 c4 c5 c6 h0 h1
    rcases hv with ⟨hmay, hfa⟩ | ⟨hmay, hall, rfl⟩ | ⟨hmay, hall, hfa⟩
    · have HMY := Lib.hid hmay
      clear hmay
      obtain ⟨bb, rfl, hv0, -⟩ := hfa
      have KF := Lib.hid (codeF bb 1 w3 hv0 HE3.out)
      clear hv0
      go_wp2_with fail
      refine KF.out.mono ?_
      rintro e w4 ⟨rfl, hb4⟩
      have B4 : Hid (Below gx w w4) := Lib.hid (B3.out.trans (hb4.mono (by have := B3.out.size; omega)))
      clear hb4
      go_wp2_with fail
      refine (ask_no 1 (by decide) w4).mono ?_
      rintro e w5 ⟨rfl, rfl⟩
      go_wp2
      exact ⟨rfl, by rw [hgx]; exact B4.out, .inr ⟨1, 0, _, .inr (.inr (.inl ⟨t, by rw [← HX.out]; exact HRD.out, HMY.out, rfl, rfl⟩)), by decide, rfl, .inr ⟨rfl, rfl⟩⟩⟩
    · have HTL : Hid (tileB t = true) := Lib.hid (by unfold tileB; rw [hmay, hall]; rfl)
      clear hmay hall
      go_wp2_with fail
      refine (codeN w3).mono ?_
      rintro e w4 ⟨rfl, hb4⟩
      have B4 : Hid (Below gx w w4) := Lib.hid (B3.out.trans (hb4.mono (by have := B3.out.size; omega)))
      have X4 := Lib.hid (X3.out.up hb4)
      have Y4 := Lib.hid (Y3.out.up hb4)
      have O4 := Lib.hid (O3.out.up hb4)
      clear hb4
      go_wp2_with fail
      refine (ask_ok w4).mono ?_
      rintro e w5 ⟨rfl, hw5⟩
      rw [hw5]
      clear hw5 w5
      obtain ⟨c0, c1, c2, c3, c4, c5, c6⟩ := Y4.out.cat
      simp only [Nat.zero_add] at c1 c2 c3 c4 c5 c6
      obtain ⟨e0, e1, e2, e3, e4, e5, e6⟩ := X4.out.cat
      simp only [Nat.zero_add] at e1 e2 e3 e4 e5 e6
      have k0 := X4.out.free 0
      have k1 := X4.out.free 1
      have k2 := X4.out.free 2
      have k3 := X4.out.free 3
      have k4 := X4.out.free 4
      have k5 := X4.out.free 5
      have k6 := X4.out.free 6
      go_wp2
      refine bodyPost_ret (results_cell1 rfl _ _ gx d rfl (X4.out.put d)) rfl ?_
      have T1 : Below w.heap.size w (put7 w4 gx d) := below_put7 (by rw [hgx]; exact B4.out) (by omega) d
      have T2 : OwnT (put7 w4 gx d) w.heap.size d t Bs := (O4.out.frame fun m hm => heap_put7 (by have := (O4.out.ge m hm).1; omega)).lower (by omega)
      have T3 : TreeR S k (.yes t) := ⟨by rw [← HX.out]; exact HRD.out, HTL.out⟩
      exact ⟨T1, .inl ⟨t, d, Bs, T3, rfl, T2⟩⟩
    · have HTL : Hid (tileB t = false) := Lib.hid (by unfold tileB; rw [hmay, hall]; rfl)
      have HMY := Lib.hid hmay
      clear hmay hall
      obtain ⟨bb, rfl, hv0, -⟩ := hfa
      have KF := Lib.hid (codeF bb 5 w3 hv0 HE3.out)
      clear hv0
      go_wp2_with fail
      refine KF.out.mono ?_
      rintro e w4 ⟨rfl, hb4⟩
      have B4 : Hid (Below gx w w4) := Lib.hid (B3.out.trans (hb4.mono (by have := B3.out.size; omega)))
      clear hb4
      go_wp2_with fail
      refine (ask_no 5 (by decide) w4).mono ?_
      rintro e w5 ⟨rfl, rfl⟩
      go_wp2
      exact ⟨rfl, by rw [hgx]; exact B4.out, .inr ⟨5, 0, _, .inr (.inr (.inr ⟨t, by rw [← HX.out]; exact HRD.out, HMY.out, HTL.out, rfl, rfl⟩)), by decide, rfl, .inr ⟨rfl, rfl⟩⟩⟩
end Go.Proofs.YtbelpnfgdjnpoaaGreatDoor
