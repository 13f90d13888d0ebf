/- Texts of this seat, 3 in one file. -/
import Derived.Test.YtbelpnfgdjnpoaaGreatDoorG03
import Derived.Laws.StructEq
import Derived.StillTailTactics
import Derived.Test.YtbelpnfgdjnpoaaGreatDoorG12
import Derived.OneCell
/- Are two trees the same? The program's answer. -/
namespace Go.Proofs.YtbelpnfgdjnpoaaGreatDoor
open Go.RowKit

def eqR (r q : R) : Bool := decide (r = q)
theorem eqR_parts (r q : R) : eqR r q = (r.x == q.x && (r.y == q.y && (r.w == q.w && r.h == q.h))) := by
  obtain ⟨a, b, c, d⟩ := r
  obtain ⟨a', b', c', d'⟩ := q
  unfold eqR
  rw [Bool.eq_iff_iff]
  simp

theorem eq_guardS : Tryz.prog.eqGuardType Tryz.prog.depth 24 = false := by kernel_rfl
theorem eq_rect (r q : R) (w : World) : (Op.equalIn 10000 24 (val r) (val q)).run Tryz.prog w = .ok (eqR r q) w := by
  have u3 := Tryz.underlying3
  have a3 := Tryz.isAgg3
  have z3 := Tryz.sizeOf3
  have hS : Tryz.prog.underlying 24 = some (.struct (Tryz.prog.fieldsOf 24)) := by kernel_rfl
  have hp : Tryz.prog.stoodInHeld 24 = false := by kernel_rfl
  rw [show (10000 : Nat) = 9999 + 1 from rfl, run_equalIn_agg w 9999 24 _ _ hS hp]
  simp only [Program.fieldsOf, Tryz.underlying24]
  rw [eqR_parts]
  cases h1 : r.x == q.x <;> cases h2 : r.y == q.y <;> cases h3 : r.w == q.w <;> cases h4 : r.h == q.h
  all_goals
    go_simp
    try simp [h1, h2, h3, h4]

mutual
def sameT : T → T → Bool
  | .node k r i l, .node k' r' i' l' => decide (k = k') && (eqR r r' && (decide (i = i') && sameL l l'))
def sameL : List T → List T → Bool
  | [], [] => true
  | t :: l, u :: m => sameT t u && sameL l m
  | [], _ :: _ => false
  | _ :: _, [] => false
end
theorem sameT_eq (a b : T) : sameT a b = (decide (a.k = b.k) && (eqR a.r b.r && (decide (a.id = b.id) && sameL a.kids b.kids))) := by cases a; cases b; rw [sameT]; rfl
mutual
theorem sameT_iff : ∀ a b : T, sameT a b = true ↔ a = b
  | .node k r i l, .node k' r' i' l' => by
    rw [sameT]
    simp only [Bool.and_eq_true, decide_eq_true_eq, sameL_iff l l', eqR, T.node.injEq]
theorem sameL_iff : ∀ a b : List T, sameL a b = true ↔ a = b
  | [], [] => by simp [sameL]
  | t :: l, u :: m => by
    rw [sameL, Bool.and_eq_true, sameT_iff t u, sameL_iff l m, List.cons.injEq]
  | [], _ :: _ => by simp [sameL]
  | _ :: _, [] => by simp [sameL]
end
theorem sameL_len {a b : List T} (h : a.length ≠ b.length) : sameL a b = false := by
  cases e : sameL a b with
  | false => rfl
  | true => exact absurd (congrArg List.length ((sameL_iff a b).1 e)) h
theorem sameL_no {a b : List T} {k : Nat} {t u : T} (ha : a[k]? = some t) (hb : b[k]? = some u) (h : sameT t u = false) : sameL a b = false := by
  cases e : sameL a b with
  | false => rfl
  | true =>
    have := (sameL_iff a b).1 e
    subst this
    rw [ha] at hb; cases hb
    rw [(sameT_iff t t).2 rfl] at h; cases h
theorem sameL_yes {a b : List T} (hl : a.length = b.length) (h : ∀ (k : Nat) (t u : T), a[k]? = some t → b[k]? = some u → sameT t u = true) : sameL a b = true := by
  rw [sameL_iff]
  refine List.ext_getElem? fun k => ?_
  rcases Nat.lt_or_ge k a.length with hk | hk
  · have h1 := List.getElem?_eq_getElem hk
    have h2 := List.getElem?_eq_getElem (show k < b.length by omega)
    rw [h1, h2, (sameT_iff _ _).1 (h k _ _ h1 h2)]
  · rw [List.getElem?_eq_none hk, List.getElem?_eq_none (by omega)]
end Go.Proofs.YtbelpnfgdjnpoaaGreatDoor
/- Are two trees the same? The document's walk. -/
namespace Go.Proofs.YtbelpnfgdjnpoaaGreatDoor
open Go.RowKit

theorem beq_dec (a b : Int) : (a == b) = decide (a = b) := by rw [Bool.eq_iff_iff]; simp
theorem cat_new (w : World) (c : C) : CAt (w.alloc (cbox c)) w.heap.size 0 c := by
  refine ⟨?_, ?_, ?_, ?_, ?_, ?_, ?_⟩ <;> simp
/-- Two boxes, one behind the other. -/
abbrev two (w : World) (c d : C) : World := (w.alloc (cbox c)).alloc (cbox d)
theorem two_fst {w w' : World} {c d : C} (h : Below (two w c d).heap.size (two w c d) w') : CAt w' w.heap.size 0 c :=
  ((cat_new w c).up ((Below.refl _ _).alloc (Nat.le_refl _) _)).up h
theorem two_snd {w w' : World} {c d : C} (h : Below (two w c d).heap.size (two w c d) w') : CAt w' (w.heap.size + 1) 0 d := by
  have := (cat_new (w.alloc (cbox c)) d).up h
  simpa using this

set_option maxRecDepth 100000 in
theorem rsame_any (N : Nat) : ∀ (t u : T) (c d : C) (w : World), sz t ≤ N → Is w c t → Is w d u →
    Calls Tryz.prog 12 #[cval c, cval d] w fun e w' => e = .returned (.bool (sameT t u)) ∧ Below w.heap.size w w' := by
  induction N with
  | zero => intro t u c d w h; have := sz_pos t; omega
  | succ N ih =>
    intro t u c d w hs hc hd
    have HA : Hid (Below w.heap.size w (two w c d)) := ((Below.refl _ _).alloc (Nat.le_refl _) _).alloc (by simp) _
    have HIH := Lib.hid ih
    have HS := Lib.hid hs
    have HC := Lib.hid hc.row
    have HD := Lib.hid hd.row
    have hcn := hc.n
    have hdn := hd.n
    have hlen := hc.len
    have hres : sameT t u = ((c.k == d.k) && (eqR c.r d.r && ((c.id == d.id) && sameL t.kids u.kids))) := by
      rw [sameT_eq, hc.split.1, hc.split.2.1, hc.split.2.2.1, hd.split.1, hd.split.2.1, hd.split.2.2.1, beq_dec, beq_dec]
    clear ih hs hc hd
    rw [hres]
    clear hres
    obtain ⟨ck, cr, cid, ca, cn, ccap⟩ := c
    obtain ⟨dk, dr, did, da, dn, dcap⟩ := d
    simp only at hcn hdn
    subst hcn
    subst hdn
    simp only
    have hg := eq_guardS
    have hE : ∀ w, (Op.equalIn 10000 24 (.agg #[.int .i64 cr.x, .int .i64 cr.y, .int .i64 cr.w, .int .i64 cr.h]) (.agg #[.int .i64 dr.x, .int .i64 dr.y, .int .i64 dr.w, .int .i64 dr.h])).run Tryz.prog w = .ok (eqR cr dr) w := eq_rect cr dr
    cases h1 : ck == dk with
    | false =>
      have h1' : (ck != dk) = true := by rw [bne, h1]; rfl
      go_enter Tryz.func12, Tryz.ntmps12
      go_wp2
      go_ret
      exact ⟨rfl, HA.out⟩
    | true =>
      have h1' : (ck != dk) = false := by rw [bne, h1]; rfl
      cases h2 : eqR cr dr with
      | false =>
        rw [h2] at hE
        go_enter Tryz.func12, Tryz.ntmps12
        go_wp2
        go_ret
        exact ⟨rfl, HA.out⟩
      | true =>
        rw [h2] at hE
        cases h3 : cid == did with
        | false =>
          have h3' : (cid != did) = true := by rw [bne, h3]; rfl
          go_enter Tryz.func12, Tryz.ntmps12
          go_wp2
          go_ret
          exact ⟨rfl, HA.out⟩
        | true =>
          have h3' : (cid != did) = false := by rw [bne, h3]; rfl
          simp only [Bool.true_and]
          by_cases h4 : t.kids.length = u.kids.length
          · have HLEN := Lib.hid h4
            have d0 : ((t.kids.length : Int) != (u.kids.length : Int)) = false := by simp; omega
            rw [← h4] at d0
            rw [← h4] at HD
            rw [← h4] at HA ⊢
            clear h4
            go_enter Tryz.func12, Tryz.ntmps12
            go_wp2
            go_loopg [37] (t.kids.length + 1) (fun g i wr => ∃ k : Nat, g + k = t.kids.length + 1 ∧ k ≤ t.kids.length ∧ i = .int .i64 k ∧ (∀ (j : Nat) (a b : T), j < k → t.kids[j]? = some a → u.kids[j]? = some b → sameT a b = true) ∧ Below (two w ⟨ck, cr, cid, ca, t.kids.length, ccap⟩ ⟨dk, dr, did, da, t.kids.length, dcap⟩).heap.size (two w ⟨ck, cr, cid, ca, t.kids.length, ccap⟩ ⟨dk, dr, did, da, t.kids.length, dcap⟩) wr)
            case atStart => exact ⟨0, by omega, by omega, rfl, fun j a b hj => by omega, Below.refl _ _⟩
            case round =>
              obtain ⟨k, hg', hk, rfl, hsame, hb⟩ := hrel
              have HG := Lib.hid hg'
              have HSM := Lib.hid hsame
              have HB := Lib.hid hb
              clear hg' hsame hb
              by_cases hlt : k < t.kids.length
              · obtain ⟨a, ha⟩ : ∃ a, t.kids[k]? = some a := ⟨_, List.getElem?_eq_getElem hlt⟩
                obtain ⟨b, hb⟩ : ∃ b, u.kids[k]? = some b := ⟨_, List.getElem?_eq_getElem (by have := HLEN.out; omega)⟩
                obtain ⟨b1, o1, rfl, hf1⟩ := HC.out.place (by omega)
                obtain ⟨b2, o2, rfl, hf2⟩ := HD.out.place (by have := HLEN.out; omega)
                obtain ⟨x, hx, hix⟩ := hf1 k a ha
                obtain ⟨y, hy, hiy⟩ := hf2 k b hb
                clear hf1 hf2
                have HBW := Lib.hid (HA.out.trans (HB.out.mono HA.out.size))
                obtain ⟨c0, c1, c2, c3, c4, c5, c6⟩ := hx.up HBW.out
                obtain ⟨e0, e1, e2, e3, e4, e5, e6⟩ := hy.up HBW.out
                have p6 := (two_fst HB.out).2.2.2.2.2.2
                have q6 := (two_snd HB.out).2.2.2.2.2.2
                have HX := Lib.hid hix
                have HY := Lib.hid hiy
                have HT := Lib.hid ha
                have HU := Lib.hid hb
                clear ha hb hx hy hix hiy
                have BD := Lib.hid HB.out.drew
                go_wp2
                go_still_tail 10, (by kernel_rfl)
                change wpList _ _ _ _ _ wr.drew
                generalize wr.drew = w4 at BD ⊢
                clear c0 c1 c2 c3 c4 c5 c6 e0 e1 e2 e3 e4 e5 e6 p6 q6
                have HW4 := Lib.hid (HA.out.trans (BD.out.mono HA.out.size))
                have HK := Lib.hid (HIH.out a b x y w4 (by have := HS.out; have := sz_kid HT.out; omega) (HX.out.up HW4.out) (HY.out.up HW4.out))
                cases hst : sameT a b with
                | true =>
                  rw [hst] at HK
                  have HST := Lib.hid hst
                  clear hst
                  go_wp2_with fail
                  refine HK.out.mono ?_
                  rintro e w5 ⟨rfl, hb5⟩
                  have B5 := Lib.hid (BD.out.trans (hb5.mono BD.out.size))
                  clear hb5
                  go_wp2
                  go_roundg (gk - 1)
                  case measure => have := HG.out; omega
                  case rel =>
                    refine ⟨k + 1, by have := HG.out; omega, by omega, by go_num, fun j p q hj hp hq => ?_, B5.out⟩
                    rcases Nat.lt_or_ge j k with h | h
                    · exact HSM.out j p q h hp hq
                    · obtain rfl : j = k := by omega
                      rw [HT.out] at hp; rw [HU.out] at hq
                      cases hp; cases hq
                      exact HST.out
                | false =>
                  rw [hst] at HK
                  have HST := Lib.hid (sameL_no HT.out HU.out hst)
                  clear hst
                  go_wp2_with fail
                  refine HK.out.mono ?_
                  rintro e w5 ⟨rfl, hb5⟩
                  have B5 := Lib.hid (BD.out.trans (hb5.mono BD.out.size))
                  clear hb5
                  go_wp2
                  go_ret
                  exact ⟨by rw [HST.out]; rfl, HA.out.trans (B5.out.mono HA.out.size)⟩
              · obtain rfl : k = t.kids.length := by omega
                have hkl : ((t.kids.length : Int) < (t.kids.length : Int)) = False := by simp
                have HST := Lib.hid (sameL_yes HLEN.out (fun k a b ha hb => HSM.out k a b (by
                  rcases Nat.lt_or_ge k t.kids.length with h | h
                  · exact h
                  · rw [List.getElem?_eq_none h] at ha; cases ha) ha hb))
                go_wp2
                go_ret
                exact ⟨by rw [HST.out]; rfl, HA.out.trans (HB.out.mono HA.out.size)⟩
          · have d0 : ((t.kids.length : Int) != (u.kids.length : Int)) = true := by simp; omega
            have d1 : (t.kids.length == u.kids.length) = false := by simpa using h4
            have HV := Lib.hid (sameL_len h4)
            go_enter Tryz.func12, Tryz.ntmps12
            go_wp2
            go_ret
            exact ⟨by rw [HV.out]; rfl, HA.out⟩
end Go.Proofs.YtbelpnfgdjnpoaaGreatDoor
/- What is done with all cells of trees; how many there are. -/
namespace Go.Proofs.YtbelpnfgdjnpoaaGreatDoor
open Go.RowKit

/-- What is done with a cell, and what is kept. -/
def Does {σ : Type} (rem : σ → Nat) (w0 : World) (own : σ → Option Obj → Nat → Prop) (I : σ → World → Prop) (F : Nat) (lb : Array Value) (g : σ → T → σ) (t : T) : Prop :=
  ∀ (s : σ) (c : C) (W : World), sz t ≤ rem s → Is w0 c t → I s W → Calls Tryz.prog F (#[cval c] ++ lb) W fun e w' => e = .returned (.tuple #[]) ∧ I (g s t) w' ∧ Fr own s W (g s t) w'

set_option maxRecDepth 100000 in
theorem each1_any {σ : Type} {w0 : World} {own : σ → Option Obj → Nat → Prop} {I : σ → World → Prop} (hM : Mach w0 own I) (G : Nat) (hE : Enters G) (lb : Array Value) (g : σ → T → σ) (t : T) (rem : σ → Nat) (hD : Does rem w0 own I G lb g t)
    (c : C) (W : World) (s : σ) (hsz : sz t ≤ rem s) (hi : Is w0 c t) (hI : I s W) (bx : Nat) (hc : W.cell? ⟨bx, 0, none⟩ = some (.func (.func G) #[] lb)) :
    Calls Tryz.prog 102 #[cval c, .pointer (some ⟨bx, 0, none⟩)] W fun e w' => e = .returned (.bool false) ∧ I (g s t) w' ∧ Fr own s W (g s t) w' := by
  have hent : ∀ (args : Array Value) (w : World), (callFunc G args).run Tryz.prog w = .ok (.enter G args) w := hE
  have HA : Hid (Below W.heap.size W (W.alloc (cbox c))) := (Below.refl _ _).alloc (Nat.le_refl _) _
  have hb : bx < W.heap.size := lt_of_cell hc
  have hne : bx ≠ W.heap.size := by omega
  have HK := Lib.hid (hD s c (W.alloc (cbox c)) hsz hi (hM.up _ _ _ hI HA.out))
  clear hD hi hI
  generalize g s t = rs at HK ⊢
  go_enter Tryz.func102, Tryz.ntmps102
  go_wp2_with fail
  refine HK.out.mono ?_
  rintro e w2 ⟨rfl, hi2, hfr2⟩
  have HI2 := Lib.hid hi2
  have HF2 := Lib.hid hfr2
  clear hi2 hfr2
  go_wp2
  go_ret
  exact ⟨rfl, HI2.out, (Fr.of HA.out).trans HF2.out⟩

theorem enters46 : Enters 102 := enters_of Tryz.func102 (by kernel_rfl) rfl

mutual
def doT {σ : Type} (g : σ → T → σ) (s : σ) : T → σ
  | .node k r i l => doL g (g s (.node k r i l)) l
def doL {σ : Type} (g : σ → T → σ) (s : σ) : List T → σ
  | [] => s
  | t :: l => doL g (doT g s t) l
end
mutual
theorem goT_do {σ : Type} (g : σ → T → σ) (s : σ) : ∀ t, goT (fun s t => (false, g s t)) s t = (false, doT g s t)
  | .node k r i l => by
    have := goL_do g (g s (.node k r i l)) l
    rw [goT, doT]; simpa using this
theorem goL_do {σ : Type} (g : σ → T → σ) (s : σ) : ∀ l, goL (fun s t => (false, g s t)) s l = (false, doL g s l)
  | [] => by rw [goL, doL]
  | t :: l => by
    have h1 := goT_do g s t
    have h2 := goL_do g (doT g s t) l
    rw [goL, doL, h1]; simpa using h2
end

set_option maxRecDepth 100000 in
theorem each_any {σ : Type} {w0 : World} {own : σ → Option Obj → Nat → Prop} {I : σ → World → Prop} (hM : Mach w0 own I) (G : Nat) (hE : Enters G) (lb : Array Value) (g : σ → T → σ) (l : List T) (rem : σ → Nat) (hrem : ∀ s t, rem s ≤ rem (g s t) + 1) (hD : ∀ t, Does rem w0 own I G lb g t)
    (s : σ) (W : World) (v : Value) (hsz : szL l ≤ rem s) (hr : RowIn w0 I v l) (hI : I s W) :
    Calls Tryz.prog 68 #[v, .func (.func G) #[] lb] W fun e w' => e = .returned (.tuple #[]) ∧ I (doL g s l) w' ∧ Fr own s W (doL g s l) w' := by
  have HA : Hid (Below W.heap.size W (W.alloc (.cells #[.func (.func G) #[] lb] 103))) := (Below.refl _ _).alloc (Nat.le_refl _) _
  let I' : σ → World → Prop := fun s W' => I s W' ∧ W'.cell? ⟨W.heap.size, 0, none⟩ = some (.func (.func G) #[] lb) ∧ ¬ own s W'.heap[W.heap.size]? W.heap.size
  have hM' : Mach w0 own I' := ⟨fun s W cs t h ht => hM.new s W cs t h.1 ht, fun s W h => hM.below s W h.1, fun s W1 W2 h hb => ⟨hM.up _ _ _ h.1 hb, (hb.cell (lt_of_cell h.2.1)).trans h.2.1, by rw [hb.block _ (lt_of_cell h.2.1)]; exact h.2.2⟩⟩
  have hJ' : ∀ t, Judge2 rem w0 own I' 102 #[.pointer (some ⟨W.heap.size, 0, none⟩)] (fun s t => (false, g s t)) t := fun t s1 c W1 hs1 hi h1 => by
    refine (each1_any hM G hE lb g t rem (hD t) c W1 s1 hs1 hi h1.1 W.heap.size h1.2.1).mono ?_
    rintro e w' ⟨rfl, h2, h3⟩
    exact ⟨rfl, fun _ => ⟨h2, h3.cell h1.2.1 h1.2.2, h3.keep (lt_of_cell h1.2.1) h1.2.2⟩, h3⟩
  have hdeep : ∀ (N : Nat) (t : T), sz t ≤ N → Deep (Judge2 rem w0 own I' 102 #[.pointer (some ⟨W.heap.size, 0, none⟩)] (fun s t => (false, g s t))) t := by
    intro N
    induction N with
    | zero => intro t h; have := sz_pos t; omega
    | succ N ih =>
      intro t h
      refine .mk t (hJ' t) fun u hu => ih u ?_
      obtain ⟨j, hj, rfl⟩ := List.getElem_of_mem hu
      have := sz_kid (List.getElem?_eq_getElem hj)
      omega
  have hI' : I' s (W.alloc (.cells #[.func (.func G) #[] lb] 103)) := ⟨hM.up _ _ _ hI HA.out, by simp, by rw [heap_alloc_new]; exact hM.new s W _ 103 hI (by decide)⟩
  have H := Lib.hid (noneIn_any hM' 102 enters46 _ (fun s t => (false, g s t)) rem (fun s t => hrem s t) (szL l) l (Nat.le_refl _) (fun t _ => hdeep _ t (Nat.le_refl _)) s _ v hsz (hr.mono fun s W h => h.1) hI')
  obtain ⟨⟨cs, hrow, -⟩, -⟩ := hr
  obtain ⟨a, cap, rfl⟩ := (hrow s W hI).shape
  clear hrow hJ' hI' hM' hdeep hI
  rw [goL_do] at H
  have H2 : Hid (Calls Tryz.prog 101 #[.slice a cs.length cap, .func (.func 102) #[] #[.pointer (some ⟨W.heap.size, 0, none⟩)]] (W.alloc (.cells #[.func (.func G) #[] lb] 103)) fun e w' => e = .returned (.bool true) ∧ I (doL g s l) w' ∧ Fr own s (W.alloc (.cells #[.func (.func G) #[] lb] 103)) (doL g s l) w') :=
    H.out.mono fun e w' ⟨h1, h2, h3⟩ => ⟨h1, (h2 rfl).1, h3⟩
  clear H
  generalize doL g s l = rs at H2 ⊢
  go_enter Tryz.func68, Tryz.ntmps68
  go_wp2_with fail
  refine H2.out.mono ?_
  rintro e w2 ⟨rfl, hi2, hfr2⟩
  have HI2 := Lib.hid hi2
  have HF2 := Lib.hid ((Fr.of HA.out).trans hfr2)
  clear hi2 hfr2
  go_wp2
  go_end0
  exact ⟨rfl, HI2.out, HF2.out⟩
end Go.Proofs.YtbelpnfgdjnpoaaGreatDoor
