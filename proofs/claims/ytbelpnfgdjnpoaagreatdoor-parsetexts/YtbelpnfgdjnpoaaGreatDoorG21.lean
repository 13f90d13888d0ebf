/- Texts of this seat, 3 in one file. -/
import Derived.Test.YtbelpnfgdjnpoaaGreatDoorG20
import Derived.Test.YtbelpnfgdjnpoaaGreatDoorG09
import Derived.Test.YtbelpnfgdjnpoaaGreatDoorG10
import Derived.Test.YtbelpnfgdjnpoaaGreatDoorG11
import Derived.Deep.Cut
import Derived.Test.YtbelpnfgdjnpoaaGreatDoorG16
import Derived.Deep.AppendLies
/- A whole body: what it comes to, as a relation; one answer only. No walk. -/
namespace Go.Proofs.YtbelpnfgdjnpoaaGreatDoor
open Go.RowKit

theorem bnd_er {α β : Type} {x : Rs α} {f : α → Rs β} {e : Int × Nat} (h : bnd x f = .error e) : x = .error e ∨ ∃ u, x = .ok u ∧ f u = .error e := by
  cases x with
  | error e' => left; simp only [bnd] at h; rw [Except.error.inj h]
  | ok u => right; exact ⟨u, rfl, h⟩
theorem num_place {S : List UInt8} {a : Nat} {e : Int} {x : Nat} (h : numAt S a = .error (e, x)) : x = a := by
  unfold numAt at h
  split at h
  · cases h
  · exact (Prod.mk.inj (Except.error.inj h)).2.symm
theorem sep_place {S : List UInt8} {a : Nat} {c : UInt8} {e : Int} {x : Nat} (h : sepAt S a c = .error (e, x)) : x = a := by
  unfold sepAt at h
  split at h
  · cases h
  · exact (Prod.mk.inj (Except.error.inj h)).2.symm
theorem sep_next {S : List UInt8} {a b : Nat} {c : UInt8} (h : sepAt S a c = .ok b) : b ≤ S.length := by
  obtain ⟨h1, rfl⟩ := sep_ok h
  exact at_lt h1
theorem head_place {S : List UInt8} {a : Nat} {e : Int} {x : Nat} (ha : a ≤ S.length) (h : headP S a = .error (e, x)) : x ≤ S.length := by
  unfold headP at h
  rcases bnd_er h with h | ⟨p, h1, h⟩
  · rw [num_place h]; exact ha
  have l1 := (num_sound (i := p.1) (b := p.2) h1).2.2.2.2
  rcases bnd_er h with h | ⟨b, h2, h⟩
  · rw [sep_place h]; exact l1
  have l2 := sep_next h2
  rcases bnd_er h with h | ⟨q, h3, h⟩
  · rw [num_place h]; exact l2
  have l3 := (num_sound (i := q.1) (b := q.2) h3).2.2.2.2
  rcases bnd_er h with h | ⟨b, h4, h⟩
  · rw [sep_place h]; exact l3
  have l4 := sep_next h4
  rcases bnd_er h with h | ⟨y, h5, h⟩
  · rw [num_place h]; exact l4
  have l5 := (num_sound (i := y.1) (b := y.2) h5).2.2.2.2
  rcases bnd_er h with h | ⟨b, h6, h⟩
  · rw [sep_place h]; exact l5
  have l6 := sep_next h6
  rcases bnd_er h with h | ⟨z, h7, h⟩
  · rw [num_place h]; exact l6
  · cases h
/-- An error's place is in the text, or at its end. -/
def PlaceR (S : List UInt8) : St → PR → Prop
  | .cell a _, .bad _ x => a ≤ S.length → x ≤ S.length
  | .kids a _ _ _, .bad _ x => a ≤ S.length → x ≤ S.length
  | _, .ok _ _ => True
theorem opens_lt {S : List UInt8} {b : Nat} {k : Int} {c : UInt8} (h : opens S b k c) : b < S.length := by
  rcases h with ⟨-, h, -⟩ | ⟨-, h, -⟩ <;> exact at_lt h
theorem Rd.place {s : List UInt8} {st : St} {o : PR} (h : Rd s st o) : PlaceR s st o := by
  induction h with
  | headBad h => exact fun ha => head_place ha h
  | form h => exact fun _ => (head_sound h).2.2.2.2
  | idBad h h1 h2 => intro _; rw [num_place h2]; exact at_lt h1
  | leaf => exact trivial
  | long h => exact fun _ => (head_sound h).2.2.2.2
  | kidsBad h h1 h2 _ ih => exact fun _ => ih (opens_lt h1)
  | kids => exact trivial
  | done => exact trivial
  | comma => exact fun ha => ha
  | @kidBad a deep c acc e x h h1 _ ih =>
    intro ha
    refine ih ?_
    unfold next
    split
    · exact ha
    · rename_i hn
      exact at_lt (h1.resolve_left hn)
  | @kid a deep c acc t b o h h1 h2 _ _ ih2 =>
    cases o with
    | ok l x => exact trivial
    | bad e x =>
      intro _
      obtain ⟨-, -, -, -, -, hb⟩ := h2.back
      exact ih2 hb
/-- What a whole body comes to: an error and its place; or a tree. -/
inductive WR where
  | no (e pl : Int)
  | yes (t : T)
def WholeR (S : List UInt8) (off : Int) : WR → Prop
  | .no e pl => (∃ x : Nat, Rd S (.cell 0 1) (.bad e x) ∧ pl = (x : Int) + off) ∨ (∃ (l : List T) (x : Nat), Rd S (.cell 0 1) (.ok l x) ∧ x < S.length ∧ e = 2 ∧ pl = (x : Int) + off) ∨ (∃ t, Rd S (.cell 0 1) (.ok [t] S.length) ∧ mayT t = false ∧ e = 1 ∧ pl = 0) ∨ (∃ t, Rd S (.cell 0 1) (.ok [t] S.length) ∧ mayT t = true ∧ tileB t = false ∧ e = 5 ∧ pl = 0)
  | .yes t => Rd S (.cell 0 1) (.ok [t] S.length) ∧ tileB t = true
theorem WholeR.one {S : List UInt8} {off : Int} {a b : WR} (ha : WholeR S off a) (hb : WholeR S off b) : a = b := by
  cases a with
  | no e pl =>
    cases b with
    | no e' pl' =>
      rcases ha with ⟨x, h1, rfl⟩ | ⟨l, x, h1, h2, rfl, rfl⟩ | ⟨t, h1, h2, rfl, rfl⟩ | ⟨t, h1, h2, h3, rfl, rfl⟩ <;> rcases hb with ⟨x', g1, rfl⟩ | ⟨l', x', g1, g2, rfl, rfl⟩ | ⟨t', g1, g2, rfl, rfl⟩ | ⟨t', g1, g2, g3, rfl, rfl⟩ <;> have e := h1.one _ g1
      · cases e; rfl
      · cases e
      · cases e
      · cases e
      · cases e
      · cases e; rfl
      · cases e; omega
      · cases e; omega
      · cases e
      · cases e; omega
      · rfl
      · cases e; rw [h2] at g2; cases g2
      · cases e
      · cases e; omega
      · cases e; rw [h2] at g2; cases g2
      · rfl
    | yes t' =>
      exfalso
      rcases ha with ⟨x, h1, rfl⟩ | ⟨l, x, h1, h2, rfl, rfl⟩ | ⟨t, h1, h2, rfl, rfl⟩ | ⟨t, h1, h2, h3, rfl, rfl⟩ <;> have e := h1.one _ hb.1
      · cases e
      · cases e; omega
      · cases e; rw [tile_may hb.2] at h2; cases h2
      · cases e; rw [hb.2] at h3; cases h3
  | yes t =>
    cases b with
    | no e' pl' =>
      exfalso
      rcases hb with ⟨x, h1, rfl⟩ | ⟨l, x, h1, h2, rfl, rfl⟩ | ⟨t', h1, h2, rfl, rfl⟩ | ⟨t', h1, h2, h3, rfl, rfl⟩ <;> have e := h1.one _ ha.1
      · cases e
      · cases e; omega
      · cases e; rw [tile_may ha.2] at h2; cases h2
      · cases e; rw [ha.2] at h3; cases h3
    | yes t' => have e := ha.1.one _ hb.1; cases e; rfl
/-- What is read whole is printed the same. -/
theorem WholeR.back {S : List UInt8} {off : Int} {t : T} (h : WholeR S off (.yes t)) : S = bodyT t ∧ OkB t ∧ dpT t ≤ 1000 ∧ 9 * sz t ≤ S.length := by
  obtain ⟨h1, h2⟩ := h
  have hd := h1.deep t (List.mem_singleton.2 rfl) (by decide)
  obtain ⟨t', e, hok, hb⟩ := body_read h1
  cases e
  refine ⟨hb, hok, by omega, ?_⟩
  rw [hb]
  exact body_ge hok
/-- What has a text is read from it. -/
theorem WholeR.full {t : T} {off : Int} (hs : sz t ≤ 1000) (ht : tileB t = true) (hok : OkB t) : WholeR (bodyT t) off (.yes t) := by
  refine ⟨read_body hok ?_, ht⟩
  have := dp_sz t
  omega
end Go.Proofs.YtbelpnfgdjnpoaaGreatDoor
/- The document reads a cell: the relation, walked. -/
namespace Go.Proofs.YtbelpnfgdjnpoaaGreatDoor
open Go.RowKit

def hd3 (S : List UInt8) (w h x : Int) (a : Nat) : Rs (R × Nat) := bnd (sepAt S a 44) fun b => bnd (numAt S b) fun y => .ok (⟨x, y.1, w, h⟩, y.2)
def hd2 (S : List UInt8) (w h : Int) (a : Nat) : Rs (R × Nat) := bnd (sepAt S a 44) fun b => bnd (numAt S b) fun x => hd3 S w h x.1 x.2
def hd1 (S : List UInt8) (w : Int) (a : Nat) : Rs (R × Nat) := bnd (sepAt S a 120) fun b => bnd (numAt S b) fun q => hd2 S w q.1 q.2
theorem headP_eq (S : List UInt8) (a : Nat) : headP S a = bnd (numAt S a) fun p => hd1 S p.1 p.2 := rfl
/-- So many numbers of a rectangle are read. -/
def HdI (S : List UInt8) (a0 k a : Nat) (r : R) : Prop :=
  (k = 0 ∧ a = a0 ∧ r = ⟨0, 0, 0, 0⟩) ∨ (k = 1 ∧ r = ⟨0, 0, r.w, 0⟩ ∧ headP S a0 = hd1 S r.w a) ∨ (k = 2 ∧ r = ⟨0, 0, r.w, r.h⟩ ∧ headP S a0 = hd2 S r.w r.h a) ∨ (k = 3 ∧ r = ⟨r.x, 0, r.w, r.h⟩ ∧ headP S a0 = hd3 S r.w r.h r.x a) ∨ (k = 4 ∧ headP S a0 = .ok (r, a))
theorem bnd_err {α β : Type} {x : Rs α} {e : Int × Nat} (f : α → Rs β) (h : x = .error e) : bnd x f = .error e := by rw [h]; rfl
theorem bnd_go {α β : Type} {x : Rs α} {v : α} (f : α → Rs β) (h : x = .ok v) : bnd x f = f v := by rw [h]; rfl
theorem sep_is {S : List UInt8} {a : Nat} {c : UInt8} (h : isB S a c = true) : sepAt S a c = .ok (a + 1) := by
  unfold sepAt; rw [if_pos (of_decide_eq_true h)]
theorem sep_not {S : List UInt8} {a : Nat} {c : UInt8} (h : isB S a c = false) : sepAt S a c = .error (2, a) := by
  unfold sepAt; rw [if_neg (of_decide_eq_false h)]
theorem is_lt {S : List UInt8} {a : Nat} {c : UInt8} (h : isB S a c = true) : a < S.length := at_lt (of_decide_eq_true h)

theorem not_is {S : List UInt8} {a : Nat} {c : UInt8} (h : isB S a c = false) : S[a]? ≠ some c := of_decide_eq_false h
theorem yes_is {S : List UInt8} {a : Nat} {c : UInt8} (h : isB S a c = true) : S[a]? = some c := of_decide_eq_true h
theorem is_other {S : List UInt8} {a : Nat} {c d : UInt8} (h : isB S a c = true) (hne : c ≠ d) : isB S a d = false := decide_eq_false fun e => hne (by rw [yes_is h] at e; exact Option.some.inj e)
theorem own_leaf (w : World) (base : Nat) (r : R) (i : Int) (hr : r.fits) (hi : fits i) : OwnT w base ⟨1, r, i, none, 0, 0⟩ (.node 1 r i []) [] :=
  .mk ⟨1, r, i, none, 0, 0⟩ [] [] [] ⟨⟨by show (0 : Int) ≤ 1; decide, by show (1 : Int) ≤ 255; decide⟩, hr, hi, by simp⟩ (OwnC.nil w base) rfl rfl (fun j x t S hx => by simp at hx)
theorem ok_fits {i : Int} (h : okN i) : fits i := ⟨by have := h.1; omega, by have := h.2; omega⟩
theorem okR_fits {r : R} (h : okR r) : r.fits := ⟨ok_fits h.1, ok_fits h.2.1, ok_fits h.2.2.1, ok_fits h.2.2.2⟩

/-- What reading a cell answers. -/
def RcSays (S : List UInt8) (a deep : Nat) (w : World) (e : Ending) (w' : World) : Prop :=
  Below w.heap.size w w' ∧ ((∃ (er : Int) (x : Nat), Rd S (.cell a deep) (.bad er x) ∧ er ≠ 0 ∧ e = .returned (pval10 zC 0 er x)) ∨
    ∃ (t : T) (d : C) (Bs : List Nat) (x : Nat), Rd S (.cell a deep) (.ok [t] x) ∧ e = .returned (pval10 d x 0 0) ∧ OwnT w' w.heap.size d t Bs ∧ Bs.Nodup)

abbrev RW (w : World) (c : C) : World := (w.alloc (pbox zC 0 0 0)).alloc (cbox c)
theorem below_rw (w : World) (c : C) : Below w.heap.size w (RW w c) := ((Below.refl _ _).alloc (Nat.le_refl _) _).alloc (by simp) _
theorem box_rw (w : World) (c : C) : Box10 (RW w c) w.heap.size zC 0 0 0 := (Box10.new w zC 0 0 0).up ((Below.refl _ _).alloc (Nat.le_refl _) _)

/-- What was read: its kids' rows are as they were. -/
theorem read_end {w wr : World} {kd : Int} {r : R} {a : Option Addr} {cap : Nat} {cs : List C} {l : List T} {Ss : List (List Nat)} (hb : Below w.heap.size w wr) (hsz : w.heap.size + 2 ≤ wr.heap.size) (h : Forest wr (w.heap.size + 2) (.slice a cs.length cap) cs l Ss) (hk : 0 ≤ kd ∧ kd ≤ 255) (hr : r.fits) (hl : l.length ≤ 1954687338211) (x : Int) :
    OwnT (put10 (wr.setCell ⟨w.heap.size + 1, 6, none⟩ (.slice a cs.length cap)) w.heap.size ⟨kd, r, 0, a, cs.length, cap⟩ x 0 0) w.heap.size ⟨kd, r, 0, a, cs.length, cap⟩ (.node kd r 0 l) (blk (.slice a cs.length cap) ++ Ss.flatten) ∧ (blk (.slice a cs.length cap) ++ Ss.flatten).Nodup ∧ Below w.heap.size w (put10 (wr.setCell ⟨w.heap.size + 1, 6, none⟩ (.slice a cs.length cap)) w.heap.size ⟨kd, r, 0, a, cs.length, cap⟩ x 0 0) := by
  have hsame : ∀ j, w.heap.size + 2 ≤ j → (put10 (wr.setCell ⟨w.heap.size + 1, 6, none⟩ (.slice a cs.length cap)) w.heap.size ⟨kd, r, 0, a, cs.length, cap⟩ x 0 0).heap[j]? = wr.heap[j]? := fun j hj => by
    rw [heap_put10 (by omega), Below.heap_setCell wr ⟨w.heap.size + 1, 6, none⟩ _ j (by simp; omega)]
  refine ⟨?_, ?_, ?_⟩
  · refine .mk ⟨kd, r, 0, a, cs.length, cap⟩ l cs Ss ⟨hk, hr, ⟨by show (-9223372036854775808 : Int) ≤ 0; decide, by show (0 : Int) ≤ 9223372036854775807; decide⟩, by simp only; rw [h.len]; exact hl⟩ ((ownC_kept h.row fun g hg => hsame g (own_block h.row hg).1).lower (by omega)) h.len h.slen fun j x t S hx ht hS => ?_
    exact ((h.each j x t S hx ht hS).frame fun m hm => hsame m ((h.each j x t S hx ht hS).ge m hm).1).lower (by omega)
  · rw [List.nodup_append]
    refine ⟨?_, h.nodup, fun x hx y hy e => ?_⟩
    · unfold blk; split <;> simp
    · subst e
      unfold blk at hx
      split at hx
      · rename_i g hg
        simp at hx; subst hx
        exact h.apart _ hg hy
      · cases hx
  · exact below_put10 (hb.setCell (by simp) _) (Nat.le_refl _) _ _ _ _
theorem forest_new (w : World) (base : Nat) (hb : base ≤ w.heap.size) : Forest (w.alloc (.cells #[] 27)) base (.slice (some ⟨w.heap.size, 0, none⟩) 0 0) [] [] [] := ⟨OwnC.empty w base hb, rfl, rfl, fun j x t S hx => by simp at hx, List.nodup_nil, fun g hg => by simp⟩
theorem box7_rw (w : World) (c : C) : Box7 (RW w c) (w.heap.size + 1) c := by
  have := Box7.new (w.alloc (pbox zC 0 0 0)) c
  simpa using this
theorem box10_grown {W W' : World} {g : Nat} {c : C} {i j k : Int} {row : Option Nat} (h : Box10 W g c i j k) (hg : W.grownBy W' row) (hne : row ≠ some g) : Box10 W' g c i j k :=
  (hg.block g (lt_of_block h) (fun e => hne e.symm)).trans h
theorem size_rw (w : World) (c : C) : (RW w c).heap.size = w.heap.size + 2 := by simp

set_option maxRecDepth 100000 in
set_option maxHeartbeats 32000000 in
theorem rcell_any (s : ByteArray) (hs : s.size ≤ 100000) (N : Nat) : ∀ (a deep : Nat) (w : World), s.size - a < N → a ≤ s.size → deep ≤ 1000 →
    Calls Tryz.prog 57 #[.string s, .int .i64 (a : Int), .int .i64 (deep : Int)] w (RcSays s.data.toList a deep w) := by
  have hsm : s.size ≤ maxLen := by unfold maxLen; omega
  induction N with
  | zero => intro a deep w h; omega
  | succ N ih =>
    intro a0 deep w hN ha0 hdeep
    have hSL : s.data.toList.length = s.size := by simp
    have KN := Lib.hid (fun a W => numHead_any s a W hsm)
    have KI := Lib.hid (fun a (c : UInt8) W => is_any s a c W hsm)
    have HIH := Lib.hid ih
    clear ih
    generalize s.data.toList = S at KN KI HIH hSL
    have HSL := Lib.hid hSL
    clear hSL
    go_enter Tryz.func57, Tryz.ntmps57
    go_wp2
    go_loopg [1, 8] 5 (fun g at' kk wr => ∃ (k a : Nat) (r : R), g + k = 5 ∧ at' = .int .i64 (a : Int) ∧ kk = .int .i64 (k : Int) ∧ a0 ≤ a ∧ a ≤ s.size ∧ wr = RW w ⟨0, r, 0, none, 0, 0⟩ ∧ HdI S a0 k a r)
    case atStart => exact ⟨0, a0, ⟨0, 0, 0, 0⟩, by omega, rfl, rfl, Nat.le_refl _, ha0, rfl, .inl ⟨rfl, rfl, rfl⟩⟩
    case round =>
      obtain ⟨k, a, r, hg, rfl, rfl, ha1, ha2, rfl, hI⟩ := hrel
      have HG := Lib.hid hg
      have BX := Lib.hid (box_rw w ⟨0, r, 0, none, 0, 0⟩)
      have BB := Lib.hid (below_rw w ⟨0, r, 0, none, 0, 0⟩)
      clear hg
      rcases hI with ⟨rfl, rfl, rfl⟩ | hI | hI | hI | hI
      · go_wp2_with fail
        refine (KN.out a _).mono ?_
        rintro e w2 ⟨rfl, ⟨i, b, hnum, hi, hab, hbn, rfl⟩ | ⟨er, hnum, hne, rfl⟩⟩
        · have HP := Lib.hid (show headP S a = hd1 S i b by rw [headP_eq, bnd_go _ hnum])
          clear hnum
          go_wp2
          go_roundg (gk - 1)
          case measure => have := HG.out; omega
          case rel => exact ⟨1, b, ⟨0, 0, i, 0⟩, by have := HG.out; omega, by congr 1; omega, rfl, by omega, hbn, rfl, .inr (.inl ⟨rfl, rfl, HP.out⟩)⟩
        · have HP := Lib.hid (show headP S a = .error (er, a) by rw [headP_eq, bnd_err _ hnum])
          have q : (er != 0) = true := by simp [hne]
          clear hnum
          go_wp2_with fail
          refine (bad_any _ _ _).mono ?_
          rintro e w3 ⟨rfl, hb3⟩
          have X3 := Lib.hid (BX.out.up hb3)
          have B3 := Lib.hid (BB.out.trans (hb3.mono BB.out.size))
          clear hb3
          obtain ⟨z0, z1, z2, z3, z4, z5, z6, z7, z8, z9⟩ := X3.out.cells
          have f0 := X3.out.free 0
          have f1 := X3.out.free 1
          have f2 := X3.out.free 2
          have f3 := X3.out.free 3
          have f4 := X3.out.free 4
          have f5 := X3.out.free 5
          have f6 := X3.out.free 6
          have f7 := X3.out.free 7
          have f8 := X3.out.free 8
          have f9 := X3.out.free 9
          go_wp2
          refine bodyPost_ret (results_p1 rfl _ _ w.heap.size zC 0 er a rfl (X3.out.put zC 0 er a)) rfl ?_
          exact ⟨below_put10 B3.out (Nat.le_refl _) zC 0 er a, .inl ⟨er, a, .headBad HP.out, hne, rfl⟩⟩
      · obtain ⟨rfl, hrr, hP⟩ := hI
        rw [hrr] at BX BB ⊢
        have HP := Lib.hid hP
        clear hP hrr
        go_wp2_with fail
        refine (KI.out a 120 _).mono ?_
        rintro e w2 ⟨rfl, rfl⟩
        cases hb : isB S a 120 with
        | false =>
          have HE := Lib.hid (HP.out.trans (bnd_err _ (sep_not hb)))
          clear hb
          go_wp2_with fail
          refine (bad_any _ _ _).mono ?_
          rintro e w3 ⟨rfl, hb3⟩
          have X3 := Lib.hid (BX.out.up hb3)
          have B3 := Lib.hid (BB.out.trans (hb3.mono BB.out.size))
          clear hb3
          obtain ⟨z0, z1, z2, z3, z4, z5, z6, z7, z8, z9⟩ := X3.out.cells
          have f0 := X3.out.free 0
          have f1 := X3.out.free 1
          have f2 := X3.out.free 2
          have f3 := X3.out.free 3
          have f4 := X3.out.free 4
          have f5 := X3.out.free 5
          have f6 := X3.out.free 6
          have f7 := X3.out.free 7
          have f8 := X3.out.free 8
          have f9 := X3.out.free 9
          go_wp2
          refine bodyPost_ret (results_p1 rfl _ _ w.heap.size zC 0 2 a rfl (X3.out.put zC 0 2 a)) rfl ?_
          exact ⟨below_put10 B3.out (Nat.le_refl _) zC 0 2 a, .inl ⟨2, a, .headBad HE.out, by decide, rfl⟩⟩
        | true =>
          have hlt : a < s.size := by have := is_lt hb; have := HSL.out; omega
          have HP2 := Lib.hid (HP.out.trans (bnd_go _ (sep_is hb)))
          clear hb HP
          go_wp2_with fail
          refine (KN.out (a + 1) _).mono ?_
          rintro e w2 ⟨rfl, ⟨i, b, hnum, hi, hab, hbn, rfl⟩ | ⟨er, hnum, hne, rfl⟩⟩
          · have HP3 := Lib.hid (HP2.out.trans (bnd_go _ hnum))
            clear hnum HP2
            go_wp2
            go_roundg (gk - 1)
            case measure => have := HG.out; omega
            case rel => exact ⟨2, b, ⟨0, 0, r.w, i⟩, by have := HG.out; omega, by congr 1; omega, rfl, by omega, hbn, rfl, .inr (.inr (.inl ⟨rfl, rfl, HP3.out⟩))⟩
          · have HE := Lib.hid (HP2.out.trans (bnd_err _ hnum))
            have q : (er != 0) = true := by simp [hne]
            clear hnum HP2
            go_wp2_with fail
            refine (bad_any _ _ _).mono ?_
            rintro e w3 ⟨rfl, hb3⟩
            have X3 := Lib.hid (BX.out.up hb3)
            have B3 := Lib.hid (BB.out.trans (hb3.mono BB.out.size))
            clear hb3
            obtain ⟨z0, z1, z2, z3, z4, z5, z6, z7, z8, z9⟩ := X3.out.cells
            have f0 := X3.out.free 0
            have f1 := X3.out.free 1
            have f2 := X3.out.free 2
            have f3 := X3.out.free 3
            have f4 := X3.out.free 4
            have f5 := X3.out.free 5
            have f6 := X3.out.free 6
            have f7 := X3.out.free 7
            have f8 := X3.out.free 8
            have f9 := X3.out.free 9
            go_wp2
            refine bodyPost_ret (results_p1 rfl _ _ w.heap.size zC 0 er ((a + 1 : Nat) : Int) rfl (X3.out.put zC 0 er ((a + 1 : Nat) : Int))) rfl ?_
            exact ⟨below_put10 B3.out (Nat.le_refl _) zC 0 er ((a + 1 : Nat) : Int), .inl ⟨er, (a + 1), .headBad HE.out, hne, rfl⟩⟩
      · obtain ⟨rfl, hrr, hP⟩ := hI
        rw [hrr] at BX BB ⊢
        have HP := Lib.hid hP
        clear hP hrr
        go_wp2_with fail
        refine (KI.out a 44 _).mono ?_
        rintro e w2 ⟨rfl, rfl⟩
        cases hb : isB S a 44 with
        | false =>
          have HE := Lib.hid (HP.out.trans (bnd_err _ (sep_not hb)))
          clear hb
          go_wp2_with fail
          refine (bad_any _ _ _).mono ?_
          rintro e w3 ⟨rfl, hb3⟩
          have X3 := Lib.hid (BX.out.up hb3)
          have B3 := Lib.hid (BB.out.trans (hb3.mono BB.out.size))
          clear hb3
          obtain ⟨z0, z1, z2, z3, z4, z5, z6, z7, z8, z9⟩ := X3.out.cells
          have f0 := X3.out.free 0
          have f1 := X3.out.free 1
          have f2 := X3.out.free 2
          have f3 := X3.out.free 3
          have f4 := X3.out.free 4
          have f5 := X3.out.free 5
          have f6 := X3.out.free 6
          have f7 := X3.out.free 7
          have f8 := X3.out.free 8
          have f9 := X3.out.free 9
          go_wp2
          refine bodyPost_ret (results_p1 rfl _ _ w.heap.size zC 0 2 a rfl (X3.out.put zC 0 2 a)) rfl ?_
          exact ⟨below_put10 B3.out (Nat.le_refl _) zC 0 2 a, .inl ⟨2, a, .headBad HE.out, by decide, rfl⟩⟩
        | true =>
          have hlt : a < s.size := by have := is_lt hb; have := HSL.out; omega
          have HP2 := Lib.hid (HP.out.trans (bnd_go _ (sep_is hb)))
          clear hb HP
          go_wp2_with fail
          refine (KN.out (a + 1) _).mono ?_
          rintro e w2 ⟨rfl, ⟨i, b, hnum, hi, hab, hbn, rfl⟩ | ⟨er, hnum, hne, rfl⟩⟩
          · have HP3 := Lib.hid (HP2.out.trans (bnd_go _ hnum))
            clear hnum HP2
            go_wp2
            go_roundg (gk - 1)
            case measure => have := HG.out; omega
            case rel => exact ⟨3, b, ⟨i, 0, r.w, r.h⟩, by have := HG.out; omega, by congr 1; omega, rfl, by omega, hbn, rfl, .inr (.inr (.inr (.inl ⟨rfl, rfl, HP3.out⟩)))⟩
          · have HE := Lib.hid (HP2.out.trans (bnd_err _ hnum))
            have q : (er != 0) = true := by simp [hne]
            clear hnum HP2
            go_wp2_with fail
            refine (bad_any _ _ _).mono ?_
            rintro e w3 ⟨rfl, hb3⟩
            have X3 := Lib.hid (BX.out.up hb3)
            have B3 := Lib.hid (BB.out.trans (hb3.mono BB.out.size))
            clear hb3
            obtain ⟨z0, z1, z2, z3, z4, z5, z6, z7, z8, z9⟩ := X3.out.cells
            have f0 := X3.out.free 0
            have f1 := X3.out.free 1
            have f2 := X3.out.free 2
            have f3 := X3.out.free 3
            have f4 := X3.out.free 4
            have f5 := X3.out.free 5
            have f6 := X3.out.free 6
            have f7 := X3.out.free 7
            have f8 := X3.out.free 8
            have f9 := X3.out.free 9
            go_wp2
            refine bodyPost_ret (results_p1 rfl _ _ w.heap.size zC 0 er ((a + 1 : Nat) : Int) rfl (X3.out.put zC 0 er ((a + 1 : Nat) : Int))) rfl ?_
            exact ⟨below_put10 B3.out (Nat.le_refl _) zC 0 er ((a + 1 : Nat) : Int), .inl ⟨er, (a + 1), .headBad HE.out, hne, rfl⟩⟩
      · obtain ⟨rfl, hrr, hP⟩ := hI
        rw [hrr] at BX BB ⊢
        have HP := Lib.hid hP
        clear hP hrr
        go_wp2_with fail
        refine (KI.out a 44 _).mono ?_
        rintro e w2 ⟨rfl, rfl⟩
        cases hb : isB S a 44 with
        | false =>
          have HE := Lib.hid (HP.out.trans (bnd_err _ (sep_not hb)))
          clear hb
          go_wp2_with fail
          refine (bad_any _ _ _).mono ?_
          rintro e w3 ⟨rfl, hb3⟩
          have X3 := Lib.hid (BX.out.up hb3)
          have B3 := Lib.hid (BB.out.trans (hb3.mono BB.out.size))
          clear hb3
          obtain ⟨z0, z1, z2, z3, z4, z5, z6, z7, z8, z9⟩ := X3.out.cells
          have f0 := X3.out.free 0
          have f1 := X3.out.free 1
          have f2 := X3.out.free 2
          have f3 := X3.out.free 3
          have f4 := X3.out.free 4
          have f5 := X3.out.free 5
          have f6 := X3.out.free 6
          have f7 := X3.out.free 7
          have f8 := X3.out.free 8
          have f9 := X3.out.free 9
          go_wp2
          refine bodyPost_ret (results_p1 rfl _ _ w.heap.size zC 0 2 a rfl (X3.out.put zC 0 2 a)) rfl ?_
          exact ⟨below_put10 B3.out (Nat.le_refl _) zC 0 2 a, .inl ⟨2, a, .headBad HE.out, by decide, rfl⟩⟩
        | true =>
          have hlt : a < s.size := by have := is_lt hb; have := HSL.out; omega
          have HP2 := Lib.hid (HP.out.trans (bnd_go _ (sep_is hb)))
          clear hb HP
          go_wp2_with fail
          refine (KN.out (a + 1) _).mono ?_
          rintro e w2 ⟨rfl, ⟨i, b, hnum, hi, hab, hbn, rfl⟩ | ⟨er, hnum, hne, rfl⟩⟩
          · have HP3 := Lib.hid (HP2.out.trans (bnd_go _ hnum))
            clear hnum HP2
            go_wp2
            go_roundg (gk - 1)
            case measure => have := HG.out; omega
            case rel => exact ⟨4, b, ⟨r.x, i, r.w, r.h⟩, by have := HG.out; omega, by congr 1; omega, rfl, by omega, hbn, rfl, .inr (.inr (.inr (.inr ⟨rfl, HP3.out⟩)))⟩
          · have HE := Lib.hid (HP2.out.trans (bnd_err _ hnum))
            have q : (er != 0) = true := by simp [hne]
            clear hnum HP2
            go_wp2_with fail
            refine (bad_any _ _ _).mono ?_
            rintro e w3 ⟨rfl, hb3⟩
            have X3 := Lib.hid (BX.out.up hb3)
            have B3 := Lib.hid (BB.out.trans (hb3.mono BB.out.size))
            clear hb3
            obtain ⟨z0, z1, z2, z3, z4, z5, z6, z7, z8, z9⟩ := X3.out.cells
            have f0 := X3.out.free 0
            have f1 := X3.out.free 1
            have f2 := X3.out.free 2
            have f3 := X3.out.free 3
            have f4 := X3.out.free 4
            have f5 := X3.out.free 5
            have f6 := X3.out.free 6
            have f7 := X3.out.free 7
            have f8 := X3.out.free 8
            have f9 := X3.out.free 9
            go_wp2
            refine bodyPost_ret (results_p1 rfl _ _ w.heap.size zC 0 er ((a + 1 : Nat) : Int) rfl (X3.out.put zC 0 er ((a + 1 : Nat) : Int))) rfl ?_
            exact ⟨below_put10 B3.out (Nat.le_refl _) zC 0 er ((a + 1 : Nat) : Int), .inl ⟨er, (a + 1), .headBad HE.out, hne, rfl⟩⟩
      · obtain ⟨rfl, hP⟩ := hI
        have HP := Lib.hid hP
        have hrf := okR_fits (head_sound hP).1
        clear hP
        cases hc : isB S a 123 with
        | true =>
          have HOP : Hid (opens S a 2 125) := Lib.hid (.inl ⟨rfl, yes_is hc, rfl⟩)
          have hlt : a < s.size := by have := is_lt hc; have := HSL.out; omega
          have hb := is_other hc (show (123 : UInt8) ≠ 91 by decide)
          go_wp2_with fail
          refine (KI.out a 123 _).mono ?_
          rintro e w2 ⟨rfl, rfl⟩
          rw [hc]
          go_wp2_with fail
          refine (KI.out a 91 _).mono ?_
          rintro e w2 ⟨rfl, rfl⟩
          rw [hb]
          clear hc hb
          have BX2 := Lib.hid (box_rw w ⟨2, r, 0, none, 0, 0⟩)
          have BB2 := Lib.hid (below_rw w ⟨2, r, 0, none, 0, 0⟩)
          by_cases hdl : deep < 1000
          · have q : decide ((1000 : Int) ≤ (deep : Int)) = false := decide_eq_false (by omega)
            have q' : decide (1000 ≤ deep) = false := decide_eq_false (by omega)
            have q'' : (1000 ≤ deep) = False := eq_false (by omega)
            go_wp2
            go_loopg [1, 16] (s.size - a) (fun g at' v wr => ∃ (x : Nat) (acc : List T) (cs : List C) (Bs : List (List Nat)), g + x = s.size + 1 ∧ a + 1 ≤ x ∧ x ≤ s.size ∧ at' = .int .i64 (x : Int) ∧ cs.length ≤ x ∧ Forest wr (w.heap.size + 2) v cs acc Bs ∧ Below (RW w ⟨2, r, 0, none, 0, 0⟩).heap.size (RW w ⟨2, r, 0, none, 0, 0⟩) wr ∧ (∀ o, Rd S (.kids x (deep + 1) 125 acc) o → Rd S (.kids (a + 1) (deep + 1) 125 []) o))
            case atStart => exact ⟨a + 1, [], [], [], by omega, Nat.le_refl _, by omega, by go_num, by simp, by simpa using forest_new (RW w ⟨2, r, 0, none, 0, 0⟩) (w.heap.size + 2) (by rw [size_rw]; exact Nat.le_refl _), (Below.refl _ _).alloc (Nat.le_refl _) _, fun o h => h⟩
            case round =>
              obtain ⟨x, acc, cs, Bs, hg, hx1, hx2, rfl, hcx, hfo, hb, hcn⟩ := hrel
              have HG := Lib.hid hg
              have HF := Lib.hid hfo
              have HB := Lib.hid hb
              have HC := Lib.hid hcn
              have HCX := Lib.hid hcx
              have HCL : Hid (cs.length ≤ 100001) := Lib.hid (by omega)
              have HBW := Lib.hid (BB2.out.trans (hb.mono BB2.out.size))
              have BXL := Lib.hid (BX2.out.up hb)
              have HLA := Lib.hid hfo.len
              obtain ⟨av, capv, rfl⟩ := hfo.row.row.shape
              clear hg hfo hb hcn hcx
              by_cases hl2 : cs.length < 2
              · have l0 : decide ((cs.length : Int) < 2) = true := decide_eq_true (by omega)
                have l1 : decide (cs.length < 2) = true := decide_eq_true hl2
                have l2 : (cs.length < 2) = True := eq_true hl2
                have HNE : Hid (¬ ends S x 125 acc) := Lib.hid (fun h => by have := h.1; have := HLA.out; omega)
                by_cases hl0 : cs.length = 0
                · have HA : Hid (acc = []) := Lib.hid (List.eq_nil_of_length_eq_zero (by have := HLA.out; omega))
                  have HNX : Hid (next acc x = x) := Lib.hid (by unfold next; rw [if_pos HA.out])
                  have p0 : decide ((0 : Int) < (cs.length : Int)) = false := decide_eq_false (by omega)
                  have p1 : decide (0 < cs.length) = false := decide_eq_false (by omega)
                  have p2 : (0 < cs.length) = False := eq_false (by omega)
                  clear hl0
                  go_wp2_with fail
                  refine (HIH.out x (deep + 1) _ (by omega) (by omega) (by omega)).mono ?_
                  rintro e w2 ⟨hb2, ⟨er, z, hrd, hne, rfl⟩ | ⟨t', d, Bd, z, hrd, rfl, hown2, hnd2⟩⟩
                  · have HRD := Lib.hid (HC.out _ (.kidBad HNE.out (.inl HA.out) (by rw [HNX.out]; exact hrd)))
                    have q : (er != 0) = true := by simp [hne]
                    have X3 := Lib.hid ((BXL.out.up hb2).up ((Below.refl _ _).alloc (Nat.le_refl _) (pbox zC 0 er z)))
                    have B3 := Lib.hid ((HBW.out.trans (hb2.mono HBW.out.size)).alloc (Nat.le_trans HBW.out.size hb2.size) (pbox zC 0 er z))
                    have Y3 := Lib.hid (Box10.new w2 zC 0 er z)
                    clear hb2 hrd
                    go_upto_region 45 with (fail)
                    change Code.wp _ _ _ _ (w2.alloc (pbox zC 0 er z))
                    generalize w2.alloc (pbox zC 0 er z) = W3 at X3 B3 Y3 ⊢
                    generalize w2.heap.size = g3 at Y3 ⊢
                    obtain ⟨z0, z1, z2, z3, z4, z5, z6, z7, z8, z9⟩ := X3.out.cells
                    have f0 := X3.out.free 0
                    have f1 := X3.out.free 1
                    have f2 := X3.out.free 2
                    have f3 := X3.out.free 3
                    have f4 := X3.out.free 4
                    have f5 := X3.out.free 5
                    have f6 := X3.out.free 6
                    have f7 := X3.out.free 7
                    have f8 := X3.out.free 8
                    have f9 := X3.out.free 9
                    obtain ⟨y0, y1, y2, y3, y4, y5, y6, y7, y8, y9⟩ := Y3.out.cells
                    go_wp2
                    refine bodyPost_ret (results_p1 rfl _ _ w.heap.size zC 0 er z rfl (X3.out.put zC 0 er z)) rfl ?_
                    exact ⟨below_put10 B3.out (Nat.le_refl _) zC 0 er z, .inl ⟨er, z, .kidsBad HP.out HOP.out hdl HRD.out, hne, rfl⟩⟩
                  · have HRD := Lib.hid (fun o h => HC.out o (.kid HNE.out (.inl HA.out) (by rw [HNX.out]; exact hrd) h))
                    have hbk := hrd.back
                    have HZ : Hid (x < z ∧ z ≤ s.size) := Lib.hid (by obtain ⟨-, -, -, -, g1, g2⟩ := hbk; have := HSL.out; exact ⟨g1, by omega⟩)
                    have HB2 := Lib.hid (hb2.trans (((Below.refl _ _).alloc (Nat.le_refl _) (pbox d z 0 0)).mono hb2.size))
                    have HO2 := Lib.hid (hown2.up ((Below.refl _ _).alloc (Nat.le_refl _) (pbox d z 0 0)))
                    have HN2 := Lib.hid hnd2
                    have Y3 := Lib.hid (Box10.new w2 d z 0 0)
                    have HG3 := Lib.hid hb2.size
                    clear hb2 hrd hbk hown2 hnd2
                    go_upto_region 45 with (fail)
                    change Code.wp _ _ _ _ (w2.alloc (pbox d z 0 0))
                    generalize w2.alloc (pbox d z 0 0) = W3 at HB2 HO2 Y3 ⊢
                    generalize w2.heap.size = g3 at Y3 HG3 ⊢
                    obtain ⟨y0, y1, y2, y3, y4, y5, y6, y7, y8, y9⟩ := Y3.out.cells
                    have Y4 := Lib.hid (Y3.out.up ((Below.refl _ _).alloc (Nat.le_refl _) (cbox d)))
                    have HLN : Hid (cs.length + [d].length ≤ 1954687338211) := Lib.hid (by have := HCL.out; simp; omega)
                    have HBW3 := Lib.hid (HB.out.trans (HB2.out.mono HB.out.size))
                    have HSR : Hid (w.heap.size + 2 ≤ wr.heap.size) := Lib.hid (by have := HB.out.size; rw [size_rw] at this; exact this)
                    go_upto_region 48 with (at_builtin; refine wpList_append_cells rfl _ _ rfl (w.heap.size + 2) _ _ cs [d] rfl (HF.out.row.up (HB2.out.trans ((Below.refl W3.heap.size W3).alloc (Nat.le_refl _) (cbox d) |>.mono HB2.out.size))) rfl (OwnC.one W3 0 (Nat.zero_le _) d).row (by simp) HLN.out (RW w ⟨2, r, 0, none, 0, 0⟩) (by rw [← size_rw w ⟨2, r, 0, none, 0, 0⟩]; exact HBW3.out.alloc HBW3.out.size _) (by rw [size_rw]; exact Nat.le_refl _) ?_; intro g4 cap4 w4 hown4 hb4 hgr4 hpl4)
                    have HF4 := Lib.hid (HF.out.add HB2.out HO2.out HN2.out (Nat.le_refl _) HSR.out hown4 hgr4 hpl4)
                    have HB4 : Hid (Below (RW w ⟨2, r, 0, none, 0, 0⟩).heap.size (RW w ⟨2, r, 0, none, 0, 0⟩) w4) := Lib.hid (by rw [size_rw]; exact hb4)
                    have Y5 := Lib.hid (box10_grown Y4.out hgr4 (fun e => by
                      have h1 := own_block HF.out.row e
                      have h2 := HG3.out
                      omega))
                    clear hown4 hb4 hgr4 hpl4 y0 y1 y2 y3 y4 y5 y6 y7 y8 y9
                    obtain ⟨y0, y1, y2, y3, y4, y5, y6, y7, y8, y9⟩ := Y5.out.cells
                    go_wp2
                    go_roundg (gk - (z - x))
                    case measure => have := HG.out; have := HZ.out; omega
                    case rel => exact ⟨z, acc ++ [t'], cs ++ [d], Bs ++ [Bd], by have := HG.out; have := HZ.out; omega, by have := HZ.out; omega, HZ.out.2, rfl, by have := HZ.out; have := HCX.out; simp; omega, by have := HF4.out; simpa using this, HB4.out, HRD.out⟩
                · have hl1 : 0 < cs.length := by omega
                  have HAN : Hid (acc ≠ []) := Lib.hid (fun e => by have := HLA.out; rw [e, List.length_nil] at this; omega)
                  have p0 : decide ((0 : Int) < (cs.length : Int)) = true := decide_eq_true (by omega)
                  have p1 : decide (0 < cs.length) = true := decide_eq_true (by omega)
                  have p2 : (0 < cs.length) = True := eq_true (by omega)
                  go_wp2_with fail
                  refine (KI.out x 44 _).mono ?_
                  rintro e w2 ⟨rfl, rfl⟩
                  cases hm : isB S x 44 with
                  | false =>
                    have HM := Lib.hid (not_is hm)
                    clear hm
                    go_wp2_with fail
                    refine (bad_any _ _ _).mono ?_
                    rintro e w3 ⟨rfl, hb3⟩
                    have X3 := Lib.hid (BXL.out.up hb3)
                    have B3 := Lib.hid (HBW.out.trans (hb3.mono HBW.out.size))
                    clear hb3
                    obtain ⟨z0, z1, z2, z3, z4, z5, z6, z7, z8, z9⟩ := X3.out.cells
                    have f0 := X3.out.free 0
                    have f1 := X3.out.free 1
                    have f2 := X3.out.free 2
                    have f3 := X3.out.free 3
                    have f4 := X3.out.free 4
                    have f5 := X3.out.free 5
                    have f6 := X3.out.free 6
                    have f7 := X3.out.free 7
                    have f8 := X3.out.free 8
                    have f9 := X3.out.free 9
                    go_wp2
                    refine bodyPost_ret (results_p1 rfl _ _ w.heap.size zC 0 2 x rfl (X3.out.put zC 0 2 x)) rfl ?_
                    exact ⟨below_put10 B3.out (Nat.le_refl _) zC 0 2 x, .inl ⟨2, x, .kidsBad HP.out HOP.out hdl (HC.out _ (.comma HNE.out HAN.out HM.out)), by decide, rfl⟩⟩
                  | true =>
                    have hlx : x < s.size := by have := is_lt hm; have := HSL.out; omega
                    have HM := Lib.hid (yes_is hm)
                    have HNX : Hid (next acc x = x + 1) := Lib.hid (by unfold next; rw [if_neg HAN.out])
                    clear hm
                    go_wp2_with fail
                    refine (HIH.out (x + 1) (deep + 1) _ (by omega) (by omega) (by omega)).mono ?_
                    rintro e w2 ⟨hb2, ⟨er, z, hrd, hne, rfl⟩ | ⟨t', d, Bd, z, hrd, rfl, hown2, hnd2⟩⟩
                    · have HRD := Lib.hid (HC.out _ (.kidBad HNE.out (.inr HM.out) (by rw [HNX.out]; exact hrd)))
                      have q : (er != 0) = true := by simp [hne]
                      have X3 := Lib.hid ((BXL.out.up hb2).up ((Below.refl _ _).alloc (Nat.le_refl _) (pbox zC 0 er z)))
                      have B3 := Lib.hid ((HBW.out.trans (hb2.mono HBW.out.size)).alloc (Nat.le_trans HBW.out.size hb2.size) (pbox zC 0 er z))
                      have Y3 := Lib.hid (Box10.new w2 zC 0 er z)
                      clear hb2 hrd
                      go_upto_region 45 with (fail)
                      change Code.wp _ _ _ _ (w2.alloc (pbox zC 0 er z))
                      generalize w2.alloc (pbox zC 0 er z) = W3 at X3 B3 Y3 ⊢
                      generalize w2.heap.size = g3 at Y3 ⊢
                      obtain ⟨z0, z1, z2, z3, z4, z5, z6, z7, z8, z9⟩ := X3.out.cells
                      have f0 := X3.out.free 0
                      have f1 := X3.out.free 1
                      have f2 := X3.out.free 2
                      have f3 := X3.out.free 3
                      have f4 := X3.out.free 4
                      have f5 := X3.out.free 5
                      have f6 := X3.out.free 6
                      have f7 := X3.out.free 7
                      have f8 := X3.out.free 8
                      have f9 := X3.out.free 9
                      obtain ⟨y0, y1, y2, y3, y4, y5, y6, y7, y8, y9⟩ := Y3.out.cells
                      go_wp2
                      refine bodyPost_ret (results_p1 rfl _ _ w.heap.size zC 0 er z rfl (X3.out.put zC 0 er z)) rfl ?_
                      exact ⟨below_put10 B3.out (Nat.le_refl _) zC 0 er z, .inl ⟨er, z, .kidsBad HP.out HOP.out hdl HRD.out, hne, rfl⟩⟩
                    · have HRD := Lib.hid (fun o h => HC.out o (.kid HNE.out (.inr HM.out) (by rw [HNX.out]; exact hrd) h))
                      have hbk := hrd.back
                      have HZ : Hid ((x + 1) < z ∧ z ≤ s.size) := Lib.hid (by obtain ⟨-, -, -, -, g1, g2⟩ := hbk; have := HSL.out; exact ⟨g1, by omega⟩)
                      have HB2 := Lib.hid (hb2.trans (((Below.refl _ _).alloc (Nat.le_refl _) (pbox d z 0 0)).mono hb2.size))
                      have HO2 := Lib.hid (hown2.up ((Below.refl _ _).alloc (Nat.le_refl _) (pbox d z 0 0)))
                      have HN2 := Lib.hid hnd2
                      have Y3 := Lib.hid (Box10.new w2 d z 0 0)
                      have HG3 := Lib.hid hb2.size
                      clear hb2 hrd hbk hown2 hnd2
                      go_upto_region 45 with (fail)
                      change Code.wp _ _ _ _ (w2.alloc (pbox d z 0 0))
                      generalize w2.alloc (pbox d z 0 0) = W3 at HB2 HO2 Y3 ⊢
                      generalize w2.heap.size = g3 at Y3 HG3 ⊢
                      obtain ⟨y0, y1, y2, y3, y4, y5, y6, y7, y8, y9⟩ := Y3.out.cells
                      have Y4 := Lib.hid (Y3.out.up ((Below.refl _ _).alloc (Nat.le_refl _) (cbox d)))
                      have HLN : Hid (cs.length + [d].length ≤ 1954687338211) := Lib.hid (by have := HCL.out; simp; omega)
                      have HBW3 := Lib.hid (HB.out.trans (HB2.out.mono HB.out.size))
                      have HSR : Hid (w.heap.size + 2 ≤ wr.heap.size) := Lib.hid (by have := HB.out.size; rw [size_rw] at this; exact this)
                      go_upto_region 48 with (at_builtin; refine wpList_append_cells rfl _ _ rfl (w.heap.size + 2) _ _ cs [d] rfl (HF.out.row.up (HB2.out.trans ((Below.refl W3.heap.size W3).alloc (Nat.le_refl _) (cbox d) |>.mono HB2.out.size))) rfl (OwnC.one W3 0 (Nat.zero_le _) d).row (by simp) HLN.out (RW w ⟨2, r, 0, none, 0, 0⟩) (by rw [← size_rw w ⟨2, r, 0, none, 0, 0⟩]; exact HBW3.out.alloc HBW3.out.size _) (by rw [size_rw]; exact Nat.le_refl _) ?_; intro g4 cap4 w4 hown4 hb4 hgr4 hpl4)
                      have HF4 := Lib.hid (HF.out.add HB2.out HO2.out HN2.out (Nat.le_refl _) HSR.out hown4 hgr4 hpl4)
                      have HB4 : Hid (Below (RW w ⟨2, r, 0, none, 0, 0⟩).heap.size (RW w ⟨2, r, 0, none, 0, 0⟩) w4) := Lib.hid (by rw [size_rw]; exact hb4)
                      have Y5 := Lib.hid (box10_grown Y4.out hgr4 (fun e => by
                        have h1 := own_block HF.out.row e
                        have h2 := HG3.out
                        omega))
                      clear hown4 hb4 hgr4 hpl4 y0 y1 y2 y3 y4 y5 y6 y7 y8 y9
                      obtain ⟨y0, y1, y2, y3, y4, y5, y6, y7, y8, y9⟩ := Y5.out.cells
                      go_wp2
                      go_roundg (gk - (z - x))
                      case measure => have := HG.out; have := HZ.out; omega
                      case rel => exact ⟨z, acc ++ [t'], cs ++ [d], Bs ++ [Bd], by have := HG.out; have := HZ.out; omega, by have := HZ.out; omega, HZ.out.2, rfl, by have := HZ.out; have := HCX.out; simp; omega, by have := HF4.out; simpa using this, HB4.out, HRD.out⟩
              · have l0 : decide ((cs.length : Int) < 2) = false := decide_eq_false (by omega)
                have l1 : decide (cs.length < 2) = false := decide_eq_false hl2
                have l2 : (cs.length < 2) = False := eq_false hl2
                go_wp2_with fail
                refine (KI.out x 125 _).mono ?_
                rintro e w2 ⟨rfl, rfl⟩
                cases he : isB S x 125 with
                | false =>
                  have HNE : Hid (¬ ends S x 125 acc) := Lib.hid (fun h => not_is he h.2)
                  have hl1 : 0 < cs.length := by omega
                  clear he
                  have HAN : Hid (acc ≠ []) := Lib.hid (fun e => by have := HLA.out; rw [e, List.length_nil] at this; omega)
                  have p0 : decide ((0 : Int) < (cs.length : Int)) = true := decide_eq_true (by omega)
                  have p1 : decide (0 < cs.length) = true := decide_eq_true (by omega)
                  have p2 : (0 < cs.length) = True := eq_true (by omega)
                  go_wp2_with fail
                  refine (KI.out x 44 _).mono ?_
                  rintro e w2 ⟨rfl, rfl⟩
                  cases hm : isB S x 44 with
                  | false =>
                    have HM := Lib.hid (not_is hm)
                    clear hm
                    go_wp2_with fail
                    refine (bad_any _ _ _).mono ?_
                    rintro e w3 ⟨rfl, hb3⟩
                    have X3 := Lib.hid (BXL.out.up hb3)
                    have B3 := Lib.hid (HBW.out.trans (hb3.mono HBW.out.size))
                    clear hb3
                    obtain ⟨z0, z1, z2, z3, z4, z5, z6, z7, z8, z9⟩ := X3.out.cells
                    have f0 := X3.out.free 0
                    have f1 := X3.out.free 1
                    have f2 := X3.out.free 2
                    have f3 := X3.out.free 3
                    have f4 := X3.out.free 4
                    have f5 := X3.out.free 5
                    have f6 := X3.out.free 6
                    have f7 := X3.out.free 7
                    have f8 := X3.out.free 8
                    have f9 := X3.out.free 9
                    go_wp2
                    refine bodyPost_ret (results_p1 rfl _ _ w.heap.size zC 0 2 x rfl (X3.out.put zC 0 2 x)) rfl ?_
                    exact ⟨below_put10 B3.out (Nat.le_refl _) zC 0 2 x, .inl ⟨2, x, .kidsBad HP.out HOP.out hdl (HC.out _ (.comma HNE.out HAN.out HM.out)), by decide, rfl⟩⟩
                  | true =>
                    have hlx : x < s.size := by have := is_lt hm; have := HSL.out; omega
                    have HM := Lib.hid (yes_is hm)
                    have HNX : Hid (next acc x = x + 1) := Lib.hid (by unfold next; rw [if_neg HAN.out])
                    clear hm
                    go_wp2_with fail
                    refine (HIH.out (x + 1) (deep + 1) _ (by omega) (by omega) (by omega)).mono ?_
                    rintro e w2 ⟨hb2, ⟨er, z, hrd, hne, rfl⟩ | ⟨t', d, Bd, z, hrd, rfl, hown2, hnd2⟩⟩
                    · have HRD := Lib.hid (HC.out _ (.kidBad HNE.out (.inr HM.out) (by rw [HNX.out]; exact hrd)))
                      have q : (er != 0) = true := by simp [hne]
                      have X3 := Lib.hid ((BXL.out.up hb2).up ((Below.refl _ _).alloc (Nat.le_refl _) (pbox zC 0 er z)))
                      have B3 := Lib.hid ((HBW.out.trans (hb2.mono HBW.out.size)).alloc (Nat.le_trans HBW.out.size hb2.size) (pbox zC 0 er z))
                      have Y3 := Lib.hid (Box10.new w2 zC 0 er z)
                      clear hb2 hrd
                      go_upto_region 45 with (fail)
                      change Code.wp _ _ _ _ (w2.alloc (pbox zC 0 er z))
                      generalize w2.alloc (pbox zC 0 er z) = W3 at X3 B3 Y3 ⊢
                      generalize w2.heap.size = g3 at Y3 ⊢
                      obtain ⟨z0, z1, z2, z3, z4, z5, z6, z7, z8, z9⟩ := X3.out.cells
                      have f0 := X3.out.free 0
                      have f1 := X3.out.free 1
                      have f2 := X3.out.free 2
                      have f3 := X3.out.free 3
                      have f4 := X3.out.free 4
                      have f5 := X3.out.free 5
                      have f6 := X3.out.free 6
                      have f7 := X3.out.free 7
                      have f8 := X3.out.free 8
                      have f9 := X3.out.free 9
                      obtain ⟨y0, y1, y2, y3, y4, y5, y6, y7, y8, y9⟩ := Y3.out.cells
                      go_wp2
                      refine bodyPost_ret (results_p1 rfl _ _ w.heap.size zC 0 er z rfl (X3.out.put zC 0 er z)) rfl ?_
                      exact ⟨below_put10 B3.out (Nat.le_refl _) zC 0 er z, .inl ⟨er, z, .kidsBad HP.out HOP.out hdl HRD.out, hne, rfl⟩⟩
                    · have HRD := Lib.hid (fun o h => HC.out o (.kid HNE.out (.inr HM.out) (by rw [HNX.out]; exact hrd) h))
                      have hbk := hrd.back
                      have HZ : Hid ((x + 1) < z ∧ z ≤ s.size) := Lib.hid (by obtain ⟨-, -, -, -, g1, g2⟩ := hbk; have := HSL.out; exact ⟨g1, by omega⟩)
                      have HB2 := Lib.hid (hb2.trans (((Below.refl _ _).alloc (Nat.le_refl _) (pbox d z 0 0)).mono hb2.size))
                      have HO2 := Lib.hid (hown2.up ((Below.refl _ _).alloc (Nat.le_refl _) (pbox d z 0 0)))
                      have HN2 := Lib.hid hnd2
                      have Y3 := Lib.hid (Box10.new w2 d z 0 0)
                      have HG3 := Lib.hid hb2.size
                      clear hb2 hrd hbk hown2 hnd2
                      go_upto_region 45 with (fail)
                      change Code.wp _ _ _ _ (w2.alloc (pbox d z 0 0))
                      generalize w2.alloc (pbox d z 0 0) = W3 at HB2 HO2 Y3 ⊢
                      generalize w2.heap.size = g3 at Y3 HG3 ⊢
                      obtain ⟨y0, y1, y2, y3, y4, y5, y6, y7, y8, y9⟩ := Y3.out.cells
                      have Y4 := Lib.hid (Y3.out.up ((Below.refl _ _).alloc (Nat.le_refl _) (cbox d)))
                      have HLN : Hid (cs.length + [d].length ≤ 1954687338211) := Lib.hid (by have := HCL.out; simp; omega)
                      have HBW3 := Lib.hid (HB.out.trans (HB2.out.mono HB.out.size))
                      have HSR : Hid (w.heap.size + 2 ≤ wr.heap.size) := Lib.hid (by have := HB.out.size; rw [size_rw] at this; exact this)
                      go_upto_region 48 with (at_builtin; refine wpList_append_cells rfl _ _ rfl (w.heap.size + 2) _ _ cs [d] rfl (HF.out.row.up (HB2.out.trans ((Below.refl W3.heap.size W3).alloc (Nat.le_refl _) (cbox d) |>.mono HB2.out.size))) rfl (OwnC.one W3 0 (Nat.zero_le _) d).row (by simp) HLN.out (RW w ⟨2, r, 0, none, 0, 0⟩) (by rw [← size_rw w ⟨2, r, 0, none, 0, 0⟩]; exact HBW3.out.alloc HBW3.out.size _) (by rw [size_rw]; exact Nat.le_refl _) ?_; intro g4 cap4 w4 hown4 hb4 hgr4 hpl4)
                      have HF4 := Lib.hid (HF.out.add HB2.out HO2.out HN2.out (Nat.le_refl _) HSR.out hown4 hgr4 hpl4)
                      have HB4 : Hid (Below (RW w ⟨2, r, 0, none, 0, 0⟩).heap.size (RW w ⟨2, r, 0, none, 0, 0⟩) w4) := Lib.hid (by rw [size_rw]; exact hb4)
                      have Y5 := Lib.hid (box10_grown Y4.out hgr4 (fun e => by
                        have h1 := own_block HF.out.row e
                        have h2 := HG3.out
                        omega))
                      clear hown4 hb4 hgr4 hpl4 y0 y1 y2 y3 y4 y5 y6 y7 y8 y9
                      obtain ⟨y0, y1, y2, y3, y4, y5, y6, y7, y8, y9⟩ := Y5.out.cells
                      go_wp2
                      go_roundg (gk - (z - x))
                      case measure => have := HG.out; have := HZ.out; omega
                      case rel => exact ⟨z, acc ++ [t'], cs ++ [d], Bs ++ [Bd], by have := HG.out; have := HZ.out; omega, by have := HZ.out; omega, HZ.out.2, rfl, by have := HZ.out; have := HCX.out; simp; omega, by have := HF4.out; simpa using this, HB4.out, HRD.out⟩
                | true =>
                  have HEN : Hid (ends S x 125 acc) := Lib.hid ⟨by have := HLA.out; omega, yes_is he⟩
                  have BC := Lib.hid ((box7_rw w ⟨2, r, 0, none, 0, 0⟩).up HB.out)
                  clear he
                  obtain ⟨c0, c1, c2, c3, c4, c5, c6⟩ := BC.out.cat
                  simp only [Nat.zero_add] at c1 c2 c3 c4 c5 c6
                  have g6 := BC.out.free 6
                  have X3 := BXL
                  obtain ⟨z0, z1, z2, z3, z4, z5, z6, z7, z8, z9⟩ := X3.out.cells
                  have f0 := X3.out.free 0
                  have f1 := X3.out.free 1
                  have f2 := X3.out.free 2
                  have f3 := X3.out.free 3
                  have f4 := X3.out.free 4
                  have f5 := X3.out.free 5
                  have f6 := X3.out.free 6
                  have f7 := X3.out.free 7
                  have f8 := X3.out.free 8
                  have f9 := X3.out.free 9
                  have hset : (wr.setCell ⟨w.heap.size + 1, 6, none⟩ (.slice av cs.length capv)).heap[w.heap.size]? = wr.heap[w.heap.size]? := Below.heap_setCell wr ⟨w.heap.size + 1, 6, none⟩ _ _ (by simp)
                  have HZ2 : Hid (Box10 (wr.setCell ⟨w.heap.size + 1, 6, none⟩ (.slice av cs.length capv)) w.heap.size zC 0 0 0) := Lib.hid (hset.trans BXL.out)
                  have HEND := Lib.hid (read_end (kd := 2) (r := r) HBW.out (by have := HB.out.size; rw [size_rw] at this; exact this) HF.out ⟨by decide, by decide⟩ hrf (by have := HLA.out; have := HCL.out; omega) ((x : Int) + 1))
                  clear hset
                  go_wp2
                  refine bodyPost_ret (results_p1 rfl _ _ w.heap.size ⟨2, r, 0, av, cs.length, capv⟩ ((x : Int) + 1) 0 0 rfl (HZ2.out.put ⟨2, r, 0, av, cs.length, capv⟩ ((x : Int) + 1) 0 0)) rfl ?_
                  exact ⟨HEND.out.2.2, .inr ⟨.node 2 r 0 acc, ⟨2, r, 0, av, cs.length, capv⟩, _, x + 1, .kids HP.out HOP.out hdl (HC.out _ (.done HEN.out)), rfl, HEND.out.1, HEND.out.2.1⟩⟩
          · have q : decide ((1000 : Int) ≤ (deep : Int)) = true := decide_eq_true (by omega)
            have q' : decide (1000 ≤ deep) = true := decide_eq_true (by omega)
            have q'' : (1000 ≤ deep) = True := eq_true (by omega)
            go_wp2_with fail
            refine (bad_any _ _ _).mono ?_
            rintro e w3 ⟨rfl, hb3⟩
            have X3 := Lib.hid (BX2.out.up hb3)
            have B3 := Lib.hid (BB2.out.trans (hb3.mono BB2.out.size))
            clear hb3
            obtain ⟨z0, z1, z2, z3, z4, z5, z6, z7, z8, z9⟩ := X3.out.cells
            have f0 := X3.out.free 0
            have f1 := X3.out.free 1
            have f2 := X3.out.free 2
            have f3 := X3.out.free 3
            have f4 := X3.out.free 4
            have f5 := X3.out.free 5
            have f6 := X3.out.free 6
            have f7 := X3.out.free 7
            have f8 := X3.out.free 8
            have f9 := X3.out.free 9
            go_wp2
            refine bodyPost_ret (results_p1 rfl _ _ w.heap.size zC 0 3 a rfl (X3.out.put zC 0 3 a)) rfl ?_
            exact ⟨below_put10 B3.out (Nat.le_refl _) zC 0 3 a, .inl ⟨3, a, .long HP.out HOP.out (by omega), by decide, rfl⟩⟩
        | false =>
          cases hb : isB S a 91 with
          | true =>
            have HOP : Hid (opens S a 3 93) := Lib.hid (.inr ⟨rfl, yes_is hb, rfl⟩)
            have hlt : a < s.size := by have := is_lt hb; have := HSL.out; omega
            go_wp2_with fail
            refine (KI.out a 123 _).mono ?_
            rintro e w2 ⟨rfl, rfl⟩
            rw [hc]
            go_wp2_with fail
            refine (KI.out a 91 _).mono ?_
            rintro e w2 ⟨rfl, rfl⟩
            rw [hb]
            go_wp2_with fail
            refine (KI.out a 91 _).mono ?_
            rintro e w2 ⟨rfl, rfl⟩
            rw [hb]
            clear hc hb
            have BX2 := Lib.hid (box_rw w ⟨3, r, 0, none, 0, 0⟩)
            have BB2 := Lib.hid (below_rw w ⟨3, r, 0, none, 0, 0⟩)
            by_cases hdl : deep < 1000
            · have q : decide ((1000 : Int) ≤ (deep : Int)) = false := decide_eq_false (by omega)
              have q' : decide (1000 ≤ deep) = false := decide_eq_false (by omega)
              have q'' : (1000 ≤ deep) = False := eq_false (by omega)
              go_wp2
              go_loopg [1, 16] (s.size - a) (fun g at' v wr => ∃ (x : Nat) (acc : List T) (cs : List C) (Bs : List (List Nat)), g + x = s.size + 1 ∧ a + 1 ≤ x ∧ x ≤ s.size ∧ at' = .int .i64 (x : Int) ∧ cs.length ≤ x ∧ Forest wr (w.heap.size + 2) v cs acc Bs ∧ Below (RW w ⟨3, r, 0, none, 0, 0⟩).heap.size (RW w ⟨3, r, 0, none, 0, 0⟩) wr ∧ (∀ o, Rd S (.kids x (deep + 1) 93 acc) o → Rd S (.kids (a + 1) (deep + 1) 93 []) o))
              case atStart => exact ⟨a + 1, [], [], [], by omega, Nat.le_refl _, by omega, by go_num, by simp, by simpa using forest_new (RW w ⟨3, r, 0, none, 0, 0⟩) (w.heap.size + 2) (by rw [size_rw]; exact Nat.le_refl _), (Below.refl _ _).alloc (Nat.le_refl _) _, fun o h => h⟩
              case round =>
                obtain ⟨x, acc, cs, Bs, hg, hx1, hx2, rfl, hcx, hfo, hb, hcn⟩ := hrel
                have HG := Lib.hid hg
                have HF := Lib.hid hfo
                have HB := Lib.hid hb
                have HC := Lib.hid hcn
                have HCX := Lib.hid hcx
                have HCL : Hid (cs.length ≤ 100001) := Lib.hid (by omega)
                have HBW := Lib.hid (BB2.out.trans (hb.mono BB2.out.size))
                have BXL := Lib.hid (BX2.out.up hb)
                have HLA := Lib.hid hfo.len
                obtain ⟨av, capv, rfl⟩ := hfo.row.row.shape
                clear hg hfo hb hcn hcx
                by_cases hl2 : cs.length < 2
                · have l0 : decide ((cs.length : Int) < 2) = true := decide_eq_true (by omega)
                  have l1 : decide (cs.length < 2) = true := decide_eq_true hl2
                  have l2 : (cs.length < 2) = True := eq_true hl2
                  have HNE : Hid (¬ ends S x 93 acc) := Lib.hid (fun h => by have := h.1; have := HLA.out; omega)
                  by_cases hl0 : cs.length = 0
                  · have HA : Hid (acc = []) := Lib.hid (List.eq_nil_of_length_eq_zero (by have := HLA.out; omega))
                    have HNX : Hid (next acc x = x) := Lib.hid (by unfold next; rw [if_pos HA.out])
                    have p0 : decide ((0 : Int) < (cs.length : Int)) = false := decide_eq_false (by omega)
                    have p1 : decide (0 < cs.length) = false := decide_eq_false (by omega)
                    have p2 : (0 < cs.length) = False := eq_false (by omega)
                    clear hl0
                    go_wp2_with fail
                    refine (HIH.out x (deep + 1) _ (by omega) (by omega) (by omega)).mono ?_
                    rintro e w2 ⟨hb2, ⟨er, z, hrd, hne, rfl⟩ | ⟨t', d, Bd, z, hrd, rfl, hown2, hnd2⟩⟩
                    · have HRD := Lib.hid (HC.out _ (.kidBad HNE.out (.inl HA.out) (by rw [HNX.out]; exact hrd)))
                      have q : (er != 0) = true := by simp [hne]
                      have X3 := Lib.hid ((BXL.out.up hb2).up ((Below.refl _ _).alloc (Nat.le_refl _) (pbox zC 0 er z)))
                      have B3 := Lib.hid ((HBW.out.trans (hb2.mono HBW.out.size)).alloc (Nat.le_trans HBW.out.size hb2.size) (pbox zC 0 er z))
                      have Y3 := Lib.hid (Box10.new w2 zC 0 er z)
                      clear hb2 hrd
                      go_upto_region 45 with (fail)
                      change Code.wp _ _ _ _ (w2.alloc (pbox zC 0 er z))
                      generalize w2.alloc (pbox zC 0 er z) = W3 at X3 B3 Y3 ⊢
                      generalize w2.heap.size = g3 at Y3 ⊢
                      obtain ⟨z0, z1, z2, z3, z4, z5, z6, z7, z8, z9⟩ := X3.out.cells
                      have f0 := X3.out.free 0
                      have f1 := X3.out.free 1
                      have f2 := X3.out.free 2
                      have f3 := X3.out.free 3
                      have f4 := X3.out.free 4
                      have f5 := X3.out.free 5
                      have f6 := X3.out.free 6
                      have f7 := X3.out.free 7
                      have f8 := X3.out.free 8
                      have f9 := X3.out.free 9
                      obtain ⟨y0, y1, y2, y3, y4, y5, y6, y7, y8, y9⟩ := Y3.out.cells
                      go_wp2
                      refine bodyPost_ret (results_p1 rfl _ _ w.heap.size zC 0 er z rfl (X3.out.put zC 0 er z)) rfl ?_
                      exact ⟨below_put10 B3.out (Nat.le_refl _) zC 0 er z, .inl ⟨er, z, .kidsBad HP.out HOP.out hdl HRD.out, hne, rfl⟩⟩
                    · have HRD := Lib.hid (fun o h => HC.out o (.kid HNE.out (.inl HA.out) (by rw [HNX.out]; exact hrd) h))
                      have hbk := hrd.back
                      have HZ : Hid (x < z ∧ z ≤ s.size) := Lib.hid (by obtain ⟨-, -, -, -, g1, g2⟩ := hbk; have := HSL.out; exact ⟨g1, by omega⟩)
                      have HB2 := Lib.hid (hb2.trans (((Below.refl _ _).alloc (Nat.le_refl _) (pbox d z 0 0)).mono hb2.size))
                      have HO2 := Lib.hid (hown2.up ((Below.refl _ _).alloc (Nat.le_refl _) (pbox d z 0 0)))
                      have HN2 := Lib.hid hnd2
                      have Y3 := Lib.hid (Box10.new w2 d z 0 0)
                      have HG3 := Lib.hid hb2.size
                      clear hb2 hrd hbk hown2 hnd2
                      go_upto_region 45 with (fail)
                      change Code.wp _ _ _ _ (w2.alloc (pbox d z 0 0))
                      generalize w2.alloc (pbox d z 0 0) = W3 at HB2 HO2 Y3 ⊢
                      generalize w2.heap.size = g3 at Y3 HG3 ⊢
                      obtain ⟨y0, y1, y2, y3, y4, y5, y6, y7, y8, y9⟩ := Y3.out.cells
                      have Y4 := Lib.hid (Y3.out.up ((Below.refl _ _).alloc (Nat.le_refl _) (cbox d)))
                      have HLN : Hid (cs.length + [d].length ≤ 1954687338211) := Lib.hid (by have := HCL.out; simp; omega)
                      have HBW3 := Lib.hid (HB.out.trans (HB2.out.mono HB.out.size))
                      have HSR : Hid (w.heap.size + 2 ≤ wr.heap.size) := Lib.hid (by have := HB.out.size; rw [size_rw] at this; exact this)
                      go_upto_region 48 with (at_builtin; refine wpList_append_cells rfl _ _ rfl (w.heap.size + 2) _ _ cs [d] rfl (HF.out.row.up (HB2.out.trans ((Below.refl W3.heap.size W3).alloc (Nat.le_refl _) (cbox d) |>.mono HB2.out.size))) rfl (OwnC.one W3 0 (Nat.zero_le _) d).row (by simp) HLN.out (RW w ⟨3, r, 0, none, 0, 0⟩) (by rw [← size_rw w ⟨3, r, 0, none, 0, 0⟩]; exact HBW3.out.alloc HBW3.out.size _) (by rw [size_rw]; exact Nat.le_refl _) ?_; intro g4 cap4 w4 hown4 hb4 hgr4 hpl4)
                      have HF4 := Lib.hid (HF.out.add HB2.out HO2.out HN2.out (Nat.le_refl _) HSR.out hown4 hgr4 hpl4)
                      have HB4 : Hid (Below (RW w ⟨3, r, 0, none, 0, 0⟩).heap.size (RW w ⟨3, r, 0, none, 0, 0⟩) w4) := Lib.hid (by rw [size_rw]; exact hb4)
                      have Y5 := Lib.hid (box10_grown Y4.out hgr4 (fun e => by
                        have h1 := own_block HF.out.row e
                        have h2 := HG3.out
                        omega))
                      clear hown4 hb4 hgr4 hpl4 y0 y1 y2 y3 y4 y5 y6 y7 y8 y9
                      obtain ⟨y0, y1, y2, y3, y4, y5, y6, y7, y8, y9⟩ := Y5.out.cells
                      go_wp2
                      go_roundg (gk - (z - x))
                      case measure => have := HG.out; have := HZ.out; omega
                      case rel => exact ⟨z, acc ++ [t'], cs ++ [d], Bs ++ [Bd], by have := HG.out; have := HZ.out; omega, by have := HZ.out; omega, HZ.out.2, rfl, by have := HZ.out; have := HCX.out; simp; omega, by have := HF4.out; simpa using this, HB4.out, HRD.out⟩
                  · have hl1 : 0 < cs.length := by omega
                    have HAN : Hid (acc ≠ []) := Lib.hid (fun e => by have := HLA.out; rw [e, List.length_nil] at this; omega)
                    have p0 : decide ((0 : Int) < (cs.length : Int)) = true := decide_eq_true (by omega)
                    have p1 : decide (0 < cs.length) = true := decide_eq_true (by omega)
                    have p2 : (0 < cs.length) = True := eq_true (by omega)
                    go_wp2_with fail
                    refine (KI.out x 44 _).mono ?_
                    rintro e w2 ⟨rfl, rfl⟩
                    cases hm : isB S x 44 with
                    | false =>
                      have HM := Lib.hid (not_is hm)
                      clear hm
                      go_wp2_with fail
                      refine (bad_any _ _ _).mono ?_
                      rintro e w3 ⟨rfl, hb3⟩
                      have X3 := Lib.hid (BXL.out.up hb3)
                      have B3 := Lib.hid (HBW.out.trans (hb3.mono HBW.out.size))
                      clear hb3
                      obtain ⟨z0, z1, z2, z3, z4, z5, z6, z7, z8, z9⟩ := X3.out.cells
                      have f0 := X3.out.free 0
                      have f1 := X3.out.free 1
                      have f2 := X3.out.free 2
                      have f3 := X3.out.free 3
                      have f4 := X3.out.free 4
                      have f5 := X3.out.free 5
                      have f6 := X3.out.free 6
                      have f7 := X3.out.free 7
                      have f8 := X3.out.free 8
                      have f9 := X3.out.free 9
                      go_wp2
                      refine bodyPost_ret (results_p1 rfl _ _ w.heap.size zC 0 2 x rfl (X3.out.put zC 0 2 x)) rfl ?_
                      exact ⟨below_put10 B3.out (Nat.le_refl _) zC 0 2 x, .inl ⟨2, x, .kidsBad HP.out HOP.out hdl (HC.out _ (.comma HNE.out HAN.out HM.out)), by decide, rfl⟩⟩
                    | true =>
                      have hlx : x < s.size := by have := is_lt hm; have := HSL.out; omega
                      have HM := Lib.hid (yes_is hm)
                      have HNX : Hid (next acc x = x + 1) := Lib.hid (by unfold next; rw [if_neg HAN.out])
                      clear hm
                      go_wp2_with fail
                      refine (HIH.out (x + 1) (deep + 1) _ (by omega) (by omega) (by omega)).mono ?_
                      rintro e w2 ⟨hb2, ⟨er, z, hrd, hne, rfl⟩ | ⟨t', d, Bd, z, hrd, rfl, hown2, hnd2⟩⟩
                      · have HRD := Lib.hid (HC.out _ (.kidBad HNE.out (.inr HM.out) (by rw [HNX.out]; exact hrd)))
                        have q : (er != 0) = true := by simp [hne]
                        have X3 := Lib.hid ((BXL.out.up hb2).up ((Below.refl _ _).alloc (Nat.le_refl _) (pbox zC 0 er z)))
                        have B3 := Lib.hid ((HBW.out.trans (hb2.mono HBW.out.size)).alloc (Nat.le_trans HBW.out.size hb2.size) (pbox zC 0 er z))
                        have Y3 := Lib.hid (Box10.new w2 zC 0 er z)
                        clear hb2 hrd
                        go_upto_region 45 with (fail)
                        change Code.wp _ _ _ _ (w2.alloc (pbox zC 0 er z))
                        generalize w2.alloc (pbox zC 0 er z) = W3 at X3 B3 Y3 ⊢
                        generalize w2.heap.size = g3 at Y3 ⊢
                        obtain ⟨z0, z1, z2, z3, z4, z5, z6, z7, z8, z9⟩ := X3.out.cells
                        have f0 := X3.out.free 0
                        have f1 := X3.out.free 1
                        have f2 := X3.out.free 2
                        have f3 := X3.out.free 3
                        have f4 := X3.out.free 4
                        have f5 := X3.out.free 5
                        have f6 := X3.out.free 6
                        have f7 := X3.out.free 7
                        have f8 := X3.out.free 8
                        have f9 := X3.out.free 9
                        obtain ⟨y0, y1, y2, y3, y4, y5, y6, y7, y8, y9⟩ := Y3.out.cells
                        go_wp2
                        refine bodyPost_ret (results_p1 rfl _ _ w.heap.size zC 0 er z rfl (X3.out.put zC 0 er z)) rfl ?_
                        exact ⟨below_put10 B3.out (Nat.le_refl _) zC 0 er z, .inl ⟨er, z, .kidsBad HP.out HOP.out hdl HRD.out, hne, rfl⟩⟩
                      · have HRD := Lib.hid (fun o h => HC.out o (.kid HNE.out (.inr HM.out) (by rw [HNX.out]; exact hrd) h))
                        have hbk := hrd.back
                        have HZ : Hid ((x + 1) < z ∧ z ≤ s.size) := Lib.hid (by obtain ⟨-, -, -, -, g1, g2⟩ := hbk; have := HSL.out; exact ⟨g1, by omega⟩)
                        have HB2 := Lib.hid (hb2.trans (((Below.refl _ _).alloc (Nat.le_refl _) (pbox d z 0 0)).mono hb2.size))
                        have HO2 := Lib.hid (hown2.up ((Below.refl _ _).alloc (Nat.le_refl _) (pbox d z 0 0)))
                        have HN2 := Lib.hid hnd2
                        have Y3 := Lib.hid (Box10.new w2 d z 0 0)
                        have HG3 := Lib.hid hb2.size
                        clear hb2 hrd hbk hown2 hnd2
                        go_upto_region 45 with (fail)
                        change Code.wp _ _ _ _ (w2.alloc (pbox d z 0 0))
                        generalize w2.alloc (pbox d z 0 0) = W3 at HB2 HO2 Y3 ⊢
                        generalize w2.heap.size = g3 at Y3 HG3 ⊢
                        obtain ⟨y0, y1, y2, y3, y4, y5, y6, y7, y8, y9⟩ := Y3.out.cells
                        have Y4 := Lib.hid (Y3.out.up ((Below.refl _ _).alloc (Nat.le_refl _) (cbox d)))
                        have HLN : Hid (cs.length + [d].length ≤ 1954687338211) := Lib.hid (by have := HCL.out; simp; omega)
                        have HBW3 := Lib.hid (HB.out.trans (HB2.out.mono HB.out.size))
                        have HSR : Hid (w.heap.size + 2 ≤ wr.heap.size) := Lib.hid (by have := HB.out.size; rw [size_rw] at this; exact this)
                        go_upto_region 48 with (at_builtin; refine wpList_append_cells rfl _ _ rfl (w.heap.size + 2) _ _ cs [d] rfl (HF.out.row.up (HB2.out.trans ((Below.refl W3.heap.size W3).alloc (Nat.le_refl _) (cbox d) |>.mono HB2.out.size))) rfl (OwnC.one W3 0 (Nat.zero_le _) d).row (by simp) HLN.out (RW w ⟨3, r, 0, none, 0, 0⟩) (by rw [← size_rw w ⟨3, r, 0, none, 0, 0⟩]; exact HBW3.out.alloc HBW3.out.size _) (by rw [size_rw]; exact Nat.le_refl _) ?_; intro g4 cap4 w4 hown4 hb4 hgr4 hpl4)
                        have HF4 := Lib.hid (HF.out.add HB2.out HO2.out HN2.out (Nat.le_refl _) HSR.out hown4 hgr4 hpl4)
                        have HB4 : Hid (Below (RW w ⟨3, r, 0, none, 0, 0⟩).heap.size (RW w ⟨3, r, 0, none, 0, 0⟩) w4) := Lib.hid (by rw [size_rw]; exact hb4)
                        have Y5 := Lib.hid (box10_grown Y4.out hgr4 (fun e => by
                          have h1 := own_block HF.out.row e
                          have h2 := HG3.out
                          omega))
                        clear hown4 hb4 hgr4 hpl4 y0 y1 y2 y3 y4 y5 y6 y7 y8 y9
                        obtain ⟨y0, y1, y2, y3, y4, y5, y6, y7, y8, y9⟩ := Y5.out.cells
                        go_wp2
                        go_roundg (gk - (z - x))
                        case measure => have := HG.out; have := HZ.out; omega
                        case rel => exact ⟨z, acc ++ [t'], cs ++ [d], Bs ++ [Bd], by have := HG.out; have := HZ.out; omega, by have := HZ.out; omega, HZ.out.2, rfl, by have := HZ.out; have := HCX.out; simp; omega, by have := HF4.out; simpa using this, HB4.out, HRD.out⟩
                · have l0 : decide ((cs.length : Int) < 2) = false := decide_eq_false (by omega)
                  have l1 : decide (cs.length < 2) = false := decide_eq_false hl2
                  have l2 : (cs.length < 2) = False := eq_false hl2
                  go_wp2_with fail
                  refine (KI.out x 93 _).mono ?_
                  rintro e w2 ⟨rfl, rfl⟩
                  cases he : isB S x 93 with
                  | false =>
                    have HNE : Hid (¬ ends S x 93 acc) := Lib.hid (fun h => not_is he h.2)
                    have hl1 : 0 < cs.length := by omega
                    clear he
                    have HAN : Hid (acc ≠ []) := Lib.hid (fun e => by have := HLA.out; rw [e, List.length_nil] at this; omega)
                    have p0 : decide ((0 : Int) < (cs.length : Int)) = true := decide_eq_true (by omega)
                    have p1 : decide (0 < cs.length) = true := decide_eq_true (by omega)
                    have p2 : (0 < cs.length) = True := eq_true (by omega)
                    go_wp2_with fail
                    refine (KI.out x 44 _).mono ?_
                    rintro e w2 ⟨rfl, rfl⟩
                    cases hm : isB S x 44 with
                    | false =>
                      have HM := Lib.hid (not_is hm)
                      clear hm
                      go_wp2_with fail
                      refine (bad_any _ _ _).mono ?_
                      rintro e w3 ⟨rfl, hb3⟩
                      have X3 := Lib.hid (BXL.out.up hb3)
                      have B3 := Lib.hid (HBW.out.trans (hb3.mono HBW.out.size))
                      clear hb3
                      obtain ⟨z0, z1, z2, z3, z4, z5, z6, z7, z8, z9⟩ := X3.out.cells
                      have f0 := X3.out.free 0
                      have f1 := X3.out.free 1
                      have f2 := X3.out.free 2
                      have f3 := X3.out.free 3
                      have f4 := X3.out.free 4
                      have f5 := X3.out.free 5
                      have f6 := X3.out.free 6
                      have f7 := X3.out.free 7
                      have f8 := X3.out.free 8
                      have f9 := X3.out.free 9
                      go_wp2
                      refine bodyPost_ret (results_p1 rfl _ _ w.heap.size zC 0 2 x rfl (X3.out.put zC 0 2 x)) rfl ?_
                      exact ⟨below_put10 B3.out (Nat.le_refl _) zC 0 2 x, .inl ⟨2, x, .kidsBad HP.out HOP.out hdl (HC.out _ (.comma HNE.out HAN.out HM.out)), by decide, rfl⟩⟩
                    | true =>
                      have hlx : x < s.size := by have := is_lt hm; have := HSL.out; omega
                      have HM := Lib.hid (yes_is hm)
                      have HNX : Hid (next acc x = x + 1) := Lib.hid (by unfold next; rw [if_neg HAN.out])
                      clear hm
                      go_wp2_with fail
                      refine (HIH.out (x + 1) (deep + 1) _ (by omega) (by omega) (by omega)).mono ?_
                      rintro e w2 ⟨hb2, ⟨er, z, hrd, hne, rfl⟩ | ⟨t', d, Bd, z, hrd, rfl, hown2, hnd2⟩⟩
                      · have HRD := Lib.hid (HC.out _ (.kidBad HNE.out (.inr HM.out) (by rw [HNX.out]; exact hrd)))
                        have q : (er != 0) = true := by simp [hne]
                        have X3 := Lib.hid ((BXL.out.up hb2).up ((Below.refl _ _).alloc (Nat.le_refl _) (pbox zC 0 er z)))
                        have B3 := Lib.hid ((HBW.out.trans (hb2.mono HBW.out.size)).alloc (Nat.le_trans HBW.out.size hb2.size) (pbox zC 0 er z))
                        have Y3 := Lib.hid (Box10.new w2 zC 0 er z)
                        clear hb2 hrd
                        go_upto_region 45 with (fail)
                        change Code.wp _ _ _ _ (w2.alloc (pbox zC 0 er z))
                        generalize w2.alloc (pbox zC 0 er z) = W3 at X3 B3 Y3 ⊢
                        generalize w2.heap.size = g3 at Y3 ⊢
                        obtain ⟨z0, z1, z2, z3, z4, z5, z6, z7, z8, z9⟩ := X3.out.cells
                        have f0 := X3.out.free 0
                        have f1 := X3.out.free 1
                        have f2 := X3.out.free 2
                        have f3 := X3.out.free 3
                        have f4 := X3.out.free 4
                        have f5 := X3.out.free 5
                        have f6 := X3.out.free 6
                        have f7 := X3.out.free 7
                        have f8 := X3.out.free 8
                        have f9 := X3.out.free 9
                        obtain ⟨y0, y1, y2, y3, y4, y5, y6, y7, y8, y9⟩ := Y3.out.cells
                        go_wp2
                        refine bodyPost_ret (results_p1 rfl _ _ w.heap.size zC 0 er z rfl (X3.out.put zC 0 er z)) rfl ?_
                        exact ⟨below_put10 B3.out (Nat.le_refl _) zC 0 er z, .inl ⟨er, z, .kidsBad HP.out HOP.out hdl HRD.out, hne, rfl⟩⟩
                      · have HRD := Lib.hid (fun o h => HC.out o (.kid HNE.out (.inr HM.out) (by rw [HNX.out]; exact hrd) h))
                        have hbk := hrd.back
                        have HZ : Hid ((x + 1) < z ∧ z ≤ s.size) := Lib.hid (by obtain ⟨-, -, -, -, g1, g2⟩ := hbk; have := HSL.out; exact ⟨g1, by omega⟩)
                        have HB2 := Lib.hid (hb2.trans (((Below.refl _ _).alloc (Nat.le_refl _) (pbox d z 0 0)).mono hb2.size))
                        have HO2 := Lib.hid (hown2.up ((Below.refl _ _).alloc (Nat.le_refl _) (pbox d z 0 0)))
                        have HN2 := Lib.hid hnd2
                        have Y3 := Lib.hid (Box10.new w2 d z 0 0)
                        have HG3 := Lib.hid hb2.size
                        clear hb2 hrd hbk hown2 hnd2
                        go_upto_region 45 with (fail)
                        change Code.wp _ _ _ _ (w2.alloc (pbox d z 0 0))
                        generalize w2.alloc (pbox d z 0 0) = W3 at HB2 HO2 Y3 ⊢
                        generalize w2.heap.size = g3 at Y3 HG3 ⊢
                        obtain ⟨y0, y1, y2, y3, y4, y5, y6, y7, y8, y9⟩ := Y3.out.cells
                        have Y4 := Lib.hid (Y3.out.up ((Below.refl _ _).alloc (Nat.le_refl _) (cbox d)))
                        have HLN : Hid (cs.length + [d].length ≤ 1954687338211) := Lib.hid (by have := HCL.out; simp; omega)
                        have HBW3 := Lib.hid (HB.out.trans (HB2.out.mono HB.out.size))
                        have HSR : Hid (w.heap.size + 2 ≤ wr.heap.size) := Lib.hid (by have := HB.out.size; rw [size_rw] at this; exact this)
                        go_upto_region 48 with (at_builtin; refine wpList_append_cells rfl _ _ rfl (w.heap.size + 2) _ _ cs [d] rfl (HF.out.row.up (HB2.out.trans ((Below.refl W3.heap.size W3).alloc (Nat.le_refl _) (cbox d) |>.mono HB2.out.size))) rfl (OwnC.one W3 0 (Nat.zero_le _) d).row (by simp) HLN.out (RW w ⟨3, r, 0, none, 0, 0⟩) (by rw [← size_rw w ⟨3, r, 0, none, 0, 0⟩]; exact HBW3.out.alloc HBW3.out.size _) (by rw [size_rw]; exact Nat.le_refl _) ?_; intro g4 cap4 w4 hown4 hb4 hgr4 hpl4)
                        have HF4 := Lib.hid (HF.out.add HB2.out HO2.out HN2.out (Nat.le_refl _) HSR.out hown4 hgr4 hpl4)
                        have HB4 : Hid (Below (RW w ⟨3, r, 0, none, 0, 0⟩).heap.size (RW w ⟨3, r, 0, none, 0, 0⟩) w4) := Lib.hid (by rw [size_rw]; exact hb4)
                        have Y5 := Lib.hid (box10_grown Y4.out hgr4 (fun e => by
                          have h1 := own_block HF.out.row e
                          have h2 := HG3.out
                          omega))
                        clear hown4 hb4 hgr4 hpl4 y0 y1 y2 y3 y4 y5 y6 y7 y8 y9
                        obtain ⟨y0, y1, y2, y3, y4, y5, y6, y7, y8, y9⟩ := Y5.out.cells
                        go_wp2
                        go_roundg (gk - (z - x))
                        case measure => have := HG.out; have := HZ.out; omega
                        case rel => exact ⟨z, acc ++ [t'], cs ++ [d], Bs ++ [Bd], by have := HG.out; have := HZ.out; omega, by have := HZ.out; omega, HZ.out.2, rfl, by have := HZ.out; have := HCX.out; simp; omega, by have := HF4.out; simpa using this, HB4.out, HRD.out⟩
                  | true =>
                    have HEN : Hid (ends S x 93 acc) := Lib.hid ⟨by have := HLA.out; omega, yes_is he⟩
                    have BC := Lib.hid ((box7_rw w ⟨3, r, 0, none, 0, 0⟩).up HB.out)
                    clear he
                    obtain ⟨c0, c1, c2, c3, c4, c5, c6⟩ := BC.out.cat
                    simp only [Nat.zero_add] at c1 c2 c3 c4 c5 c6
                    have g6 := BC.out.free 6
                    have X3 := BXL
                    obtain ⟨z0, z1, z2, z3, z4, z5, z6, z7, z8, z9⟩ := X3.out.cells
                    have f0 := X3.out.free 0
                    have f1 := X3.out.free 1
                    have f2 := X3.out.free 2
                    have f3 := X3.out.free 3
                    have f4 := X3.out.free 4
                    have f5 := X3.out.free 5
                    have f6 := X3.out.free 6
                    have f7 := X3.out.free 7
                    have f8 := X3.out.free 8
                    have f9 := X3.out.free 9
                    have hset : (wr.setCell ⟨w.heap.size + 1, 6, none⟩ (.slice av cs.length capv)).heap[w.heap.size]? = wr.heap[w.heap.size]? := Below.heap_setCell wr ⟨w.heap.size + 1, 6, none⟩ _ _ (by simp)
                    have HZ2 : Hid (Box10 (wr.setCell ⟨w.heap.size + 1, 6, none⟩ (.slice av cs.length capv)) w.heap.size zC 0 0 0) := Lib.hid (hset.trans BXL.out)
                    have HEND := Lib.hid (read_end (kd := 3) (r := r) HBW.out (by have := HB.out.size; rw [size_rw] at this; exact this) HF.out ⟨by decide, by decide⟩ hrf (by have := HLA.out; have := HCL.out; omega) ((x : Int) + 1))
                    clear hset
                    go_wp2
                    refine bodyPost_ret (results_p1 rfl _ _ w.heap.size ⟨3, r, 0, av, cs.length, capv⟩ ((x : Int) + 1) 0 0 rfl (HZ2.out.put ⟨3, r, 0, av, cs.length, capv⟩ ((x : Int) + 1) 0 0)) rfl ?_
                    exact ⟨HEND.out.2.2, .inr ⟨.node 3 r 0 acc, ⟨3, r, 0, av, cs.length, capv⟩, _, x + 1, .kids HP.out HOP.out hdl (HC.out _ (.done HEN.out)), rfl, HEND.out.1, HEND.out.2.1⟩⟩
            · have q : decide ((1000 : Int) ≤ (deep : Int)) = true := decide_eq_true (by omega)
              have q' : decide (1000 ≤ deep) = true := decide_eq_true (by omega)
              have q'' : (1000 ≤ deep) = True := eq_true (by omega)
              go_wp2_with fail
              refine (bad_any _ _ _).mono ?_
              rintro e w3 ⟨rfl, hb3⟩
              have X3 := Lib.hid (BX2.out.up hb3)
              have B3 := Lib.hid (BB2.out.trans (hb3.mono BB2.out.size))
              clear hb3
              obtain ⟨z0, z1, z2, z3, z4, z5, z6, z7, z8, z9⟩ := X3.out.cells
              have f0 := X3.out.free 0
              have f1 := X3.out.free 1
              have f2 := X3.out.free 2
              have f3 := X3.out.free 3
              have f4 := X3.out.free 4
              have f5 := X3.out.free 5
              have f6 := X3.out.free 6
              have f7 := X3.out.free 7
              have f8 := X3.out.free 8
              have f9 := X3.out.free 9
              go_wp2
              refine bodyPost_ret (results_p1 rfl _ _ w.heap.size zC 0 3 a rfl (X3.out.put zC 0 3 a)) rfl ?_
              exact ⟨below_put10 B3.out (Nat.le_refl _) zC 0 3 a, .inl ⟨3, a, .long HP.out HOP.out (by omega), by decide, rfl⟩⟩
          | false =>
            go_wp2_with fail
            refine (KI.out a 123 _).mono ?_
            rintro e w2 ⟨rfl, rfl⟩
            rw [hc]
            go_wp2_with fail
            refine (KI.out a 91 _).mono ?_
            rintro e w2 ⟨rfl, rfl⟩
            rw [hb]
            have HN := Lib.hid (And.intro (not_is hc) (not_is hb))
            clear hc hb
            go_wp2_with fail
            refine (KI.out a 44 _).mono ?_
            rintro e w2 ⟨rfl, rfl⟩
            cases hm : isB S a 44 with
            | false =>
              have HM := Lib.hid (not_is hm)
              clear hm
              go_wp2_with fail
              refine (bad_any _ _ _).mono ?_
              rintro e w3 ⟨rfl, hb3⟩
              have X3 := Lib.hid (BX.out.up hb3)
              have B3 := Lib.hid (BB.out.trans (hb3.mono BB.out.size))
              clear hb3
              obtain ⟨z0, z1, z2, z3, z4, z5, z6, z7, z8, z9⟩ := X3.out.cells
              have f0 := X3.out.free 0
              have f1 := X3.out.free 1
              have f2 := X3.out.free 2
              have f3 := X3.out.free 3
              have f4 := X3.out.free 4
              have f5 := X3.out.free 5
              have f6 := X3.out.free 6
              have f7 := X3.out.free 7
              have f8 := X3.out.free 8
              have f9 := X3.out.free 9
              go_wp2
              refine bodyPost_ret (results_p1 rfl _ _ w.heap.size zC 0 2 a rfl (X3.out.put zC 0 2 a)) rfl ?_
              exact ⟨below_put10 B3.out (Nat.le_refl _) zC 0 2 a, .inl ⟨2, a, .form HP.out HM.out HN.out.1 HN.out.2, by decide, rfl⟩⟩
            | true =>
              have hlt : a < s.size := by have := is_lt hm; have := HSL.out; omega
              have HM := Lib.hid (yes_is hm)
              clear hm
              go_wp2_with fail
              refine (KN.out (a + 1) _).mono ?_
              rintro e w2 ⟨rfl, ⟨i, b, hnum, hi, hab, hbn, rfl⟩ | ⟨er, hnum, hne, rfl⟩⟩
              · have HNU := Lib.hid hnum
                have HI := Lib.hid (ok_fits hi)
                clear hnum
                have hX : (a : Int) + 1 + ((b : Int) - ((a : Int) + 1)) = (b : Int) := by omega
                go_wp2
                refine bodyPost_ret (results_p1 rfl _ _ w.heap.size ⟨1, r, i, none, 0, 0⟩ (b : Int) 0 0 rfl ((Box10.new w _ _ _ _).up ((Below.refl _ _).alloc (Nat.le_refl _) _))) rfl ?_
                exact ⟨((Below.refl _ _).alloc (Nat.le_refl _) _).alloc (by simp) _, .inr ⟨.node 1 r i [], ⟨1, r, i, none, 0, 0⟩, [], b, .leaf HP.out HM.out HNU.out, rfl, own_leaf _ _ r i hrf HI.out, List.nodup_nil⟩⟩
              · have HNU := Lib.hid hnum
                have q : (er != 0) = true := by simp [hne]
                clear hnum
                go_wp2_with fail
                refine (bad_any _ _ _).mono ?_
                rintro e w3 ⟨rfl, hb3⟩
                have X3 := Lib.hid (BX.out.up hb3)
                have B3 := Lib.hid (BB.out.trans (hb3.mono BB.out.size))
                clear hb3
                obtain ⟨z0, z1, z2, z3, z4, z5, z6, z7, z8, z9⟩ := X3.out.cells
                have f0 := X3.out.free 0
                have f1 := X3.out.free 1
                have f2 := X3.out.free 2
                have f3 := X3.out.free 3
                have f4 := X3.out.free 4
                have f5 := X3.out.free 5
                have f6 := X3.out.free 6
                have f7 := X3.out.free 7
                have f8 := X3.out.free 8
                have f9 := X3.out.free 9
                go_wp2
                refine bodyPost_ret (results_p1 rfl _ _ w.heap.size zC 0 er ((a + 1 : Nat) : Int) rfl (X3.out.put zC 0 er ((a + 1 : Nat) : Int))) rfl ?_
                exact ⟨below_put10 B3.out (Nat.le_refl _) zC 0 er ((a + 1 : Nat) : Int), .inl ⟨er, (a + 1), .idBad HP.out HM.out HNU.out, hne, rfl⟩⟩
end Go.Proofs.YtbelpnfgdjnpoaaGreatDoor
/- Rectangles, many or none, added to a row of one's own. -/
namespace Go.Proofs.YtbelpnfgdjnpoaaGreatDoor
open Go.RowKit

theorem runR_zero {w : World} {base : Nat} {v : Value} {l : List R} (h : Owns w base v l) (ty : TypeId) (a : Option Addr) (c : Nat) : (Builtin.append_ #[68, 68] ty #[v, .slice a 0 c]).run Tryz.prog w = .ok v w := by
  obtain ⟨i, hi, hz0, hz1, hz2⟩ := rinfo
  have ht := Tryz.underlying68
  have hz : ∀ ad : Addr, (loadCells ad 0).run Tryz.prog w = .ok #[] w := fun ad => by first | rfl | simp [loadCells]
  rcases h.2 with ⟨rfl, hn⟩ | ⟨g, cap, cur, rfl, -, -, hnc, -⟩
  · cases a <;> simp [Builtin.append_, run_underlying ht, sizeOf, typeInfo, hi, Builtin.lenOf, Builtin.firstCells, hz]
  · cases a <;> simp [Builtin.append_, run_underlying ht, sizeOf, typeInfo, hi, Builtin.lenOf, Builtin.firstCells, hnc, storeCells, hz]

theorem rrow_cells {w : World} {a : Option Addr} {cap : Nat} {l : List R} (h : RRow w (.slice a l.length cap) l) (hp : 0 < l.length) : ∃ ad, a = some ad ∧ ∀ j u, (flat l)[j]? = some u → w.cell? (ad.add j) = some u := by
  obtain ⟨b, o, rfl, hf⟩ := h.place hp
  exact ⟨⟨b, o, none⟩, rfl, rat_cells hf⟩

/-- append(own.., rectangles...): what is owned then is both; where it lies. -/
theorem wpList_append_rects {w : World} {ops : Array Oper} {rest : List Oper} {o : Oper} {a : Act} {Q : Exit → Act → World → Prop} (hgd : o.guard = none) (s x : Operand)
    (ho : o.op = .call { callee := .builtin .append, args := #[s, x], argTypes := #[68, 68] })
    (base : Nat) (v src : Value) (xs news : List R) (hs : a.eval s = v) (hown : Owns w base v xs) (hx : a.eval x = src) (hrow : RRow w src news)
    (h63 : xs.length + news.length ≤ 1000000000) (w0 : World) (hb : Below base w0 w) (hbase0 : base ≤ w0.heap.size)
    (h : ∀ v' w', Owns w' base v' (xs ++ news) → Below base w0 w' → w.grownBy w' v.ownBlock → (v'.ownBlock = v.ownBlock ∨ v'.ownBlock = some w.heap.size) → wpList Tryz.prog ops Q rest (a.put o.dst v') w') : wpList Tryz.prog ops Q (o :: rest) a w := by
  have hbase : base ≤ w.heap.size := Nat.le_trans hbase0 hb.size
  obtain ⟨i, hi, hz0, hz1, hz2⟩ := rinfo
  obtain ⟨ad', cap, rfl⟩ := hrow.shape
  rcases Nat.eq_zero_or_pos news.length with h0 | hp
  · have hn : news = [] := List.length_eq_zero_iff.1 h0
    subst hn
    refine wpList_plain hgd fun K hK => ?_
    unfold Oper.wp execOp
    simp only [ho, resolve, invoke, builtin, Sem.run_bind, Sem.run_pure, Result.andThen_ok, List.map_toArray, List.map_cons, List.map_nil, hs, hx]
    rw [show ([] : List R).length = 0 from rfl, runR_zero hown]
    refine hK _ _ (h v w (by simpa using hown) hb ?_ (.inl rfl))
    exact ⟨rfl, rfl, rfl, Nat.le_refl _, fun _ _ _ => rfl⟩
  · obtain ⟨ad, rfl, hc⟩ := rrow_cells hrow hp
    refine wpList_append_lies w hgd s x 68 ho base 24 i zeroR 4 32 Tryz.underlying68 hi hz0 hz1 hz2 rfl (by decide) v xs.length (flat xs) hs hown ad news.length cap (flat news) hx (flat_length _) hc (flat_oneCell _) hp (by unfold maxLen; omega) (by omega) hbase w.heap.size rfl ?_
    intro g cap' w' g1 g2 g3 _
    have g1' : Owns w' base (.slice (some ⟨g, 0, none⟩) (xs.length + news.length) cap') (xs ++ news) := by
      have : w'.ownsRow base 24 4 (.slice (some ⟨g, 0, none⟩) (xs.length + news.length) cap') (xs ++ news).length (flat (xs ++ news)) := by
        rw [flat_append, List.length_append]; exact g1
      exact this
    refine h _ w' g1' (hb.grown g2 hbase (fun k hk => (hown.lt k hk).1)) g2 ?_
    rcases g3 with g3 | g3
    · exact .inl (by rw [g3]; rfl)
    · exact .inr (by rw [g3]; rfl)
end Go.Proofs.YtbelpnfgdjnpoaaGreatDoor
