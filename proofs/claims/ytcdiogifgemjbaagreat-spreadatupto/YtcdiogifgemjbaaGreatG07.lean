/- Texts of this seat, 3 in one file. -/
import Derived.Test.YtcdiogifgemjbaaGreatG02
import Derived.Laws.StructEq
import Derived.StillTailTactics
import Derived.Test.YtcdiogifgemjbaaGreatG06
/- Are two trees the same? The program's answer. -/
namespace Go.Proofs.YtcdiogifgemjbaaGreat
open Go.RowKit

def eqR (r q : R) : Bool := decide (r = q)
theorem eqR_parts (r q : R) : eqR r q = (r.x == q.x && (r.y == q.y && (r.w == q.w && r.h == q.h))) := by
  obtain ⟨a, b, c, d⟩ := r
  obtain ⟨a', b', c', d'⟩ := q
  unfold eqR
  rw [Bool.eq_iff_iff]
  simp

theorem eq_guardS : Tryz.prog.eqGuardType Tryz.prog.depth 23 = false := by kernel_rfl
theorem eq_rect (r q : R) (w : World) : (Op.equalIn 10000 23 (val r) (val q)).run Tryz.prog w = .ok (eqR r q) w := by
  have u3 := Tryz.underlying3
  have a3 := Tryz.isAgg3
  have z3 := Tryz.sizeOf3
  have hS : Tryz.prog.underlying 23 = some (.struct (Tryz.prog.fieldsOf 23)) := by kernel_rfl
  have hp : Tryz.prog.stoodInHeld 23 = false := by kernel_rfl
  rw [show (10000 : Nat) = 9999 + 1 from rfl, run_equalIn_agg w 9999 23 _ _ hS hp]
  simp only [Program.fieldsOf, Tryz.underlying23]
  rw [eqR_parts]
  cases h1 : r.x == q.x <;> cases h2 : r.y == q.y <;> cases h3 : r.w == q.w <;> cases h4 : r.h == q.h
  all_goals
    go_simp
    try simp [h1, h2, h3, h4]

mutual
def sameT : T → T → Bool
  | .node k r i l, .node k' r' i' l' => decide (k = k') && (eqR r r' && (decide (i = i') && sameL l l'))
def sameL : List T → List T → Bool
  | [], [] => true
  | t :: l, u :: m => sameT t u && sameL l m
  | [], _ :: _ => false
  | _ :: _, [] => false
end
theorem sameT_eq (a b : T) : sameT a b = (decide (a.k = b.k) && (eqR a.r b.r && (decide (a.id = b.id) && sameL a.kids b.kids))) := by cases a; cases b; rw [sameT]; rfl
mutual
theorem sameT_iff : ∀ a b : T, sameT a b = true ↔ a = b
  | .node k r i l, .node k' r' i' l' => by
    rw [sameT]
    simp only [Bool.and_eq_true, decide_eq_true_eq, sameL_iff l l', eqR, T.node.injEq]
theorem sameL_iff : ∀ a b : List T, sameL a b = true ↔ a = b
  | [], [] => by simp [sameL]
  | t :: l, u :: m => by
    rw [sameL, Bool.and_eq_true, sameT_iff t u, sameL_iff l m, List.cons.injEq]
  | [], _ :: _ => by simp [sameL]
  | _ :: _, [] => by simp [sameL]
end
theorem sameL_len {a b : List T} (h : a.length ≠ b.length) : sameL a b = false := by
  cases e : sameL a b with
  | false => rfl
  | true => exact absurd (congrArg List.length ((sameL_iff a b).1 e)) h
theorem sameL_no {a b : List T} {k : Nat} {t u : T} (ha : a[k]? = some t) (hb : b[k]? = some u) (h : sameT t u = false) : sameL a b = false := by
  cases e : sameL a b with
  | false => rfl
  | true =>
    have := (sameL_iff a b).1 e
    subst this
    rw [ha] at hb; cases hb
    rw [(sameT_iff t t).2 rfl] at h; cases h
theorem sameL_yes {a b : List T} (hl : a.length = b.length) (h : ∀ (k : Nat) (t u : T), a[k]? = some t → b[k]? = some u → sameT t u = true) : sameL a b = true := by
  rw [sameL_iff]
  refine List.ext_getElem? fun k => ?_
  rcases Nat.lt_or_ge k a.length with hk | hk
  · have h1 := List.getElem?_eq_getElem hk
    have h2 := List.getElem?_eq_getElem (show k < b.length by omega)
    rw [h1, h2, (sameT_iff _ _).1 (h k _ _ h1 h2)]
  · rw [List.getElem?_eq_none hk, List.getElem?_eq_none (by omega)]
end Go.Proofs.YtcdiogifgemjbaaGreat
/- Are two trees the same? The document's walk. -/
namespace Go.Proofs.YtcdiogifgemjbaaGreat
open Go.RowKit

theorem beq_dec (a b : Int) : (a == b) = decide (a = b) := by rw [Bool.eq_iff_iff]; simp
theorem cat_new (w : World) (c : C) : CAt (w.alloc (cbox c)) w.heap.size 0 c := by
  refine ⟨?_, ?_, ?_, ?_, ?_, ?_, ?_⟩ <;> simp
/-- Two boxes, one behind the other. -/
abbrev two (w : World) (c d : C) : World := (w.alloc (cbox c)).alloc (cbox d)
theorem two_fst {w w' : World} {c d : C} (h : Below (two w c d).heap.size (two w c d) w') : CAt w' w.heap.size 0 c :=
  ((cat_new w c).up ((Below.refl _ _).alloc (Nat.le_refl _) _)).up h
theorem two_snd {w w' : World} {c d : C} (h : Below (two w c d).heap.size (two w c d) w') : CAt w' (w.heap.size + 1) 0 d := by
  have := (cat_new (w.alloc (cbox c)) d).up h
  simpa using this

set_option maxRecDepth 100000 in
theorem rsame_any (N : Nat) : ∀ (t u : T) (c d : C) (w : World), sz t ≤ N → Is w c t → Is w d u →
    Calls Tryz.prog 11 #[cval c, cval d] w fun e w' => e = .returned (.bool (sameT t u)) ∧ Below w.heap.size w w' := by
  induction N with
  | zero => intro t u c d w h; have := sz_pos t; omega
  | succ N ih =>
    intro t u c d w hs hc hd
    have HA : Hid (Below w.heap.size w (two w c d)) := ((Below.refl _ _).alloc (Nat.le_refl _) _).alloc (by simp) _
    have HIH := Lib.hid ih
    have HS := Lib.hid hs
    have HC := Lib.hid hc.row
    have HD := Lib.hid hd.row
    have hcn := hc.n
    have hdn := hd.n
    have hlen := hc.len
    have hres : sameT t u = ((c.k == d.k) && (eqR c.r d.r && ((c.id == d.id) && sameL t.kids u.kids))) := by
      rw [sameT_eq, hc.split.1, hc.split.2.1, hc.split.2.2.1, hd.split.1, hd.split.2.1, hd.split.2.2.1, beq_dec, beq_dec]
    clear ih hs hc hd
    rw [hres]
    clear hres
    obtain ⟨ck, cr, cid, ca, cn, ccap⟩ := c
    obtain ⟨dk, dr, did, da, dn, dcap⟩ := d
    simp only at hcn hdn
    subst hcn
    subst hdn
    simp only
    have hg := eq_guardS
    have hE : ∀ w, (Op.equalIn 10000 23 (.agg #[.int .i64 cr.x, .int .i64 cr.y, .int .i64 cr.w, .int .i64 cr.h]) (.agg #[.int .i64 dr.x, .int .i64 dr.y, .int .i64 dr.w, .int .i64 dr.h])).run Tryz.prog w = .ok (eqR cr dr) w := eq_rect cr dr
    cases h1 : ck == dk with
    | false =>
      have h1' : (ck != dk) = true := by rw [bne, h1]; rfl
      go_enter Tryz.func11, Tryz.ntmps11
      go_wp2
      go_ret
      exact ⟨rfl, HA.out⟩
    | true =>
      have h1' : (ck != dk) = false := by rw [bne, h1]; rfl
      cases h2 : eqR cr dr with
      | false =>
        rw [h2] at hE
        go_enter Tryz.func11, Tryz.ntmps11
        go_wp2
        go_ret
        exact ⟨rfl, HA.out⟩
      | true =>
        rw [h2] at hE
        cases h3 : cid == did with
        | false =>
          have h3' : (cid != did) = true := by rw [bne, h3]; rfl
          go_enter Tryz.func11, Tryz.ntmps11
          go_wp2
          go_ret
          exact ⟨rfl, HA.out⟩
        | true =>
          have h3' : (cid != did) = false := by rw [bne, h3]; rfl
          simp only [Bool.true_and]
          by_cases h4 : t.kids.length = u.kids.length
          · have HLEN := Lib.hid h4
            have d0 : ((t.kids.length : Int) != (u.kids.length : Int)) = false := by simp; omega
            rw [← h4] at d0
            rw [← h4] at HD
            rw [← h4] at HA ⊢
            clear h4
            go_enter Tryz.func11, Tryz.ntmps11
            go_wp2
            go_loopg [37] (t.kids.length + 1) (fun g i wr => ∃ k : Nat, g + k = t.kids.length + 1 ∧ k ≤ t.kids.length ∧ i = .int .i64 k ∧ (∀ (j : Nat) (a b : T), j < k → t.kids[j]? = some a → u.kids[j]? = some b → sameT a b = true) ∧ Below (two w ⟨ck, cr, cid, ca, t.kids.length, ccap⟩ ⟨dk, dr, did, da, t.kids.length, dcap⟩).heap.size (two w ⟨ck, cr, cid, ca, t.kids.length, ccap⟩ ⟨dk, dr, did, da, t.kids.length, dcap⟩) wr)
            case atStart => exact ⟨0, by omega, by omega, rfl, fun j a b hj => by omega, Below.refl _ _⟩
            case round =>
              obtain ⟨k, hg', hk, rfl, hsame, hb⟩ := hrel
              have HG := Lib.hid hg'
              have HSM := Lib.hid hsame
              have HB := Lib.hid hb
              clear hg' hsame hb
              by_cases hlt : k < t.kids.length
              · obtain ⟨a, ha⟩ : ∃ a, t.kids[k]? = some a := ⟨_, List.getElem?_eq_getElem hlt⟩
                obtain ⟨b, hb⟩ : ∃ b, u.kids[k]? = some b := ⟨_, List.getElem?_eq_getElem (by have := HLEN.out; omega)⟩
                obtain ⟨b1, o1, rfl, hf1⟩ := HC.out.place (by omega)
                obtain ⟨b2, o2, rfl, hf2⟩ := HD.out.place (by have := HLEN.out; omega)
                obtain ⟨x, hx, hix⟩ := hf1 k a ha
                obtain ⟨y, hy, hiy⟩ := hf2 k b hb
                clear hf1 hf2
                have HBW := Lib.hid (HA.out.trans (HB.out.mono HA.out.size))
                obtain ⟨c0, c1, c2, c3, c4, c5, c6⟩ := hx.up HBW.out
                obtain ⟨e0, e1, e2, e3, e4, e5, e6⟩ := hy.up HBW.out
                have p6 := (two_fst HB.out).2.2.2.2.2.2
                have q6 := (two_snd HB.out).2.2.2.2.2.2
                have HX := Lib.hid hix
                have HY := Lib.hid hiy
                have HT := Lib.hid ha
                have HU := Lib.hid hb
                clear ha hb hx hy hix hiy
                have BD := Lib.hid HB.out.drew
                go_wp2
                go_still_tail 10, (by kernel_rfl)
                change wpList _ _ _ _ _ wr.drew
                generalize wr.drew = w4 at BD ⊢
                clear c0 c1 c2 c3 c4 c5 c6 e0 e1 e2 e3 e4 e5 e6 p6 q6
                have HW4 := Lib.hid (HA.out.trans (BD.out.mono HA.out.size))
                have HK := Lib.hid (HIH.out a b x y w4 (by have := HS.out; have := sz_kid HT.out; omega) (HX.out.up HW4.out) (HY.out.up HW4.out))
                cases hst : sameT a b with
                | true =>
                  rw [hst] at HK
                  have HST := Lib.hid hst
                  clear hst
                  go_wp2_with fail
                  refine HK.out.mono ?_
                  rintro e w5 ⟨rfl, hb5⟩
                  have B5 := Lib.hid (BD.out.trans (hb5.mono BD.out.size))
                  clear hb5
                  go_wp2
                  go_roundg (gk - 1)
                  case measure => have := HG.out; omega
                  case rel =>
                    refine ⟨k + 1, by have := HG.out; omega, by omega, by go_num, fun j p q hj hp hq => ?_, B5.out⟩
                    rcases Nat.lt_or_ge j k with h | h
                    · exact HSM.out j p q h hp hq
                    · obtain rfl : j = k := by omega
                      rw [HT.out] at hp; rw [HU.out] at hq
                      cases hp; cases hq
                      exact HST.out
                | false =>
                  rw [hst] at HK
                  have HST := Lib.hid (sameL_no HT.out HU.out hst)
                  clear hst
                  go_wp2_with fail
                  refine HK.out.mono ?_
                  rintro e w5 ⟨rfl, hb5⟩
                  have B5 := Lib.hid (BD.out.trans (hb5.mono BD.out.size))
                  clear hb5
                  go_wp2
                  go_ret
                  exact ⟨by rw [HST.out]; rfl, HA.out.trans (B5.out.mono HA.out.size)⟩
              · obtain rfl : k = t.kids.length := by omega
                have hkl : ((t.kids.length : Int) < (t.kids.length : Int)) = False := by simp
                have HST := Lib.hid (sameL_yes HLEN.out (fun k a b ha hb => HSM.out k a b (by
                  rcases Nat.lt_or_ge k t.kids.length with h | h
                  · exact h
                  · rw [List.getElem?_eq_none h] at ha; cases ha) ha hb))
                go_wp2
                go_ret
                exact ⟨by rw [HST.out]; rfl, HA.out.trans (HB.out.mono HA.out.size)⟩
          · have d0 : ((t.kids.length : Int) != (u.kids.length : Int)) = true := by simp; omega
            have d1 : (t.kids.length == u.kids.length) = false := by simpa using h4
            have HV := Lib.hid (sameL_len h4)
            go_enter Tryz.func11, Tryz.ntmps11
            go_wp2
            go_ret
            exact ⟨by rw [HV.out]; rfl, HA.out⟩
end Go.Proofs.YtcdiogifgemjbaaGreat
/- A tree that is set: each cell begins behind those ahead of it. No walk. -/
namespace Go.Proofs.YtcdiogifgemjbaaGreat
open Go.RowKit

def nxX (k x : Int) (t : T) : Int := if k = 2 then IntKind.i64.wrap (x + t.r.w + 1) else x
def nxY (k y : Int) (t : T) : Int := if k = 3 then IntKind.i64.wrap (y + t.r.h + 1) else y
mutual
def setT (x y : Int) : T → T
  | .node k r i l => .node k ⟨x, y, r.w, r.h⟩ i (setL k x y l)
def setL (k x y : Int) : List T → List T
  | [] => []
  | t :: l => setT x y t :: setL k (nxX k x t) (nxY k y t) l
end
theorem setT_eq (x y : Int) (t : T) : setT x y t = .node t.k ⟨x, y, t.r.w, t.r.h⟩ t.id (setL t.k x y t.kids) := by cases t; rw [setT]; rfl

/-- Where the kid behind these begins. -/
def pX (k x : Int) (l : List T) : Int := l.foldl (nxX k) x
def pY (k y : Int) (l : List T) : Int := l.foldl (nxY k) y
theorem setL_snoc (k : Int) (t : T) (l : List T) : ∀ x y, setL k x y (l ++ [t]) = setL k x y l ++ [setT (pX k x l) (pY k y l) t] := by
  induction l with
  | nil => intro x y; simp [setL, pX, pY]
  | cons u l ih => intro x y; simp only [List.cons_append, setL]; rw [ih]; simp [pX, pY]
theorem pX_take {k x : Int} {l : List T} {j : Nat} {t : T} (h : l[j]? = some t) : pX k x (l.take (j + 1)) = nxX k (pX k x (l.take j)) t := by
  rw [List.take_add_one, h]; simp [pX]
theorem pY_take {k y : Int} {l : List T} {j : Nat} {t : T} (h : l[j]? = some t) : pY k y (l.take (j + 1)) = nxY k (pY k y (l.take j)) t := by
  rw [List.take_add_one, h]; simp [pY]
theorem nxX_fits {k x : Int} {t : T} (h : fits x) : fits (nxX k x t) := by unfold nxX; split; exact wrap_fits _; exact h
theorem nxY_fits {k x : Int} {t : T} (h : fits x) : fits (nxY k x t) := by unfold nxY; split; exact wrap_fits _; exact h
theorem pX_fits {k x : Int} (l : List T) (h : fits x) : fits (pX k x l) := by
  induction l generalizing x with
  | nil => exact h
  | cons t l ih => exact ih (nxX_fits h)
theorem pY_fits {k x : Int} (l : List T) (h : fits x) : fits (pY k x l) := by
  induction l generalizing x with
  | nil => exact h
  | cons t l ih => exact ih (nxY_fits h)
theorem setL_length (k : Int) (l : List T) : ∀ x y, (setL k x y l).length = l.length := by
  induction l with
  | nil => intro x y; simp [setL]
  | cons t l ih => intro x y; simp [setL, ih]
theorem wrap_a (x b : Int) : IntKind.i64.wrap (x + IntKind.i64.wrap (b + 1)) = IntKind.i64.wrap (x + b + 1) := by
  simp only [IntKind.wrap_i64]; omega
theorem wrap_b (x b : Int) : IntKind.i64.wrap (IntKind.i64.wrap (x + b) + 1) = IntKind.i64.wrap (x + b + 1) := by
  simp only [IntKind.wrap_i64]; omega
theorem wrapE (n : Int) : IntKind.i64.wrap n = wrap64 n := IntWalk.i64_left n
theorem nxX_row {x : Int} {t : T} : nxX 2 x t = IntKind.i64.wrap (x + t.r.w + 1) := if_pos rfl
theorem nxY_col {y : Int} {t : T} : nxY 3 y t = IntKind.i64.wrap (y + t.r.h + 1) := if_pos rfl
theorem nxX_no {k x : Int} {t : T} (h : k ≠ 2) : nxX k x t = x := if_neg h
theorem nxY_no {k y : Int} {t : T} (h : k ≠ 3) : nxY k y t = y := if_neg h

def SetSays (t : T) (w : World) (e : Ending) (w' : World) : Prop := ∃ d S, e = .returned (cval d) ∧ OwnT w' w.heap.size d t S ∧ S.Nodup ∧ Below w.heap.size w w'

theorem take_snoc {α : Type} {l : List α} {k : Nat} {x : α} (h : l[k]? = some x) : l.take (k + 1) = l.take k ++ [x] := by
  rw [List.take_add_one, h]; rfl

/-- What was made: its kids' rows are as they were, its own cell is new. -/
theorem set_end {w wr : World} {k : Int} {r : R} {id : Int} {a : Option Addr} {cap : Nat} {cs : List C} {l : List T} {Ss : List (List Nat)} (hb : Below w.heap.size w wr) (hsz : w.heap.size + 2 ≤ wr.heap.size) (h : Forest wr (w.heap.size + 2) (.slice a cs.length cap) cs l Ss) (hk : 0 ≤ k ∧ k ≤ 255) (hr : r.fits) (hi : fits id) (hl : l.length ≤ 1954687338211) :
    OwnT (put7 (wr.setCell ⟨w.heap.size, 6, none⟩ (.slice a cs.length cap)) (w.heap.size + 1) ⟨k, r, id, a, cs.length, cap⟩) w.heap.size ⟨k, r, id, a, cs.length, cap⟩ (.node k r id l) (blk (.slice a cs.length cap) ++ Ss.flatten) ∧ (blk (.slice a cs.length cap) ++ Ss.flatten).Nodup ∧ Below w.heap.size w (put7 (wr.setCell ⟨w.heap.size, 6, none⟩ (.slice a cs.length cap)) (w.heap.size + 1) ⟨k, r, id, a, cs.length, cap⟩) := by
  have hsame : ∀ j, w.heap.size + 2 ≤ j → (put7 (wr.setCell ⟨w.heap.size, 6, none⟩ (.slice a cs.length cap)) (w.heap.size + 1) ⟨k, r, id, a, cs.length, cap⟩).heap[j]? = wr.heap[j]? := fun j hj => by
    rw [heap_put7 (by omega), Below.heap_setCell wr ⟨w.heap.size, 6, none⟩ _ j (by simp; omega)]
  refine ⟨?_, ?_, ?_⟩
  · refine .mk ⟨k, r, id, a, cs.length, cap⟩ l cs Ss ⟨hk, hr, hi, by simp only; rw [h.len]; exact hl⟩ ((ownC_kept h.row fun g hg => hsame g (own_block h.row hg).1).lower (by omega)) h.len h.slen fun j x t S hx ht hS => ?_
    exact ((h.each j x t S hx ht hS).frame fun m hm => hsame m ((h.each j x t S hx ht hS).ge m hm).1).lower (by omega)
  · rw [List.nodup_append]
    refine ⟨?_, h.nodup, fun x hx y hy e => ?_⟩
    · unfold blk; split <;> simp
    · subst e
      unfold blk at hx
      split at hx
      · rename_i g hg
        simp at hx; subst hx
        exact h.apart _ hg hy
      · cases hx
  · exact below_put7 (hb.setCell (Nat.le_refl _) _) (by omega) _
theorem Forest.empty (w : World) (base : Nat) (hb : base ≤ w.heap.size) : Forest (w.alloc (.cells #[] 26)) base (.slice (some ⟨w.heap.size, 0, none⟩) 0 0) [] [] [] := ⟨OwnC.empty w base hb, rfl, rfl, fun j x t S hx => by simp at hx, List.nodup_nil, fun g hg => by simp⟩

/-- A box that isn't the row's own block stands behind an append. -/
theorem Box7.grown {w w' : World} {b : Nat} {c : C} {g : Option Nat} (h : Box7 w b c) (hg : w.grownBy w' g) (hn : g ≠ some b) : Box7 w' b c := (hg.block b (lt_of_block h) (fun e => hn e.symm)).trans h
end Go.Proofs.YtcdiogifgemjbaaGreat
