/- Texts of this seat, 3 in one file. -/
import Derived.Test.YtakofjbjciljjaaGreatG21
import Derived.Test.YtakofjbjciljjaaGreatG18
import Derived.Test.YtakofjbjciljjaaGreatG07
import Derived.Test.YtakofjbjciljjaaGreatG20
/- Does a tree tile, and which of its cells doesn't? -/
namespace Go.Proofs.YtakofjbjciljjaaGreat
open Go.RowKit

theorem idx_any {q : T → Bool} {l : List T} : l.findIdx q < l.length ↔ l.any q = true := by
  rw [List.findIdx_lt_length, List.any_eq_true]
theorem idx_all {q : T → Bool} {l : List T} (h : l.any q = false) : l.findIdx q = l.length := by
  have h1 := List.findIdx_le_length (xs := l) (p := q)
  rcases Nat.lt_or_ge (l.findIdx q) l.length with h2 | h2
  · rw [idx_any, h] at h2; cases h2
  · omega
def visit (q : T → Bool) (l : List T) : List T := l.take (l.findIdx q + 1)
theorem visit_any {q : T → Bool} {a b : List T} (h : a.any q = true) : visit q (a ++ b) = visit q a := by
  have h1 := idx_any.2 h
  unfold visit
  rw [List.findIdx_append, if_pos h1, List.take_append_of_le_length (by omega)]
theorem visit_none {q : T → Bool} {a : List T} (h : a.any q = false) : visit q a = a := by
  unfold visit
  rw [idx_all h]
  exact List.take_of_length_le (by omega)
theorem visit_on {q : T → Bool} {a b : List T} (h : a.any q = false) : visit q (a ++ b) = a ++ visit q b := by
  have h1 := idx_all h
  unfold visit
  rw [List.findIdx_append, if_neg (by omega), show List.findIdx q b + a.length + 1 = a.length + (List.findIdx q b + 1) by omega, List.take_length_add_append]
theorem idx_on {q : T → Bool} {a b : List T} (h : a.any q = false) : (a ++ b).findIdx q = a.length + b.findIdx q := by
  rw [List.findIdx_append, if_neg (by have := idx_all h; omega)]; omega
theorem idx_in {q : T → Bool} {a b : List T} (h : a.any q = true) : (a ++ b).findIdx q = a.findIdx q := by
  rw [List.findIdx_append, if_pos (idx_any.2 h)]

mutual
theorem firstT_pre {σ : Type} (q : T → Bool) (g : σ → T → σ) : ∀ (t : T) (s : σ), firstT (fun s t => (q t, g s t)) s t = (((preT t).findIdx q, (preT t).any q), (visit q (preT t)).foldl g s)
  | .node k r i l, s => by
    rw [firstT, preT_eq]
    show (if q (.node k r i l) = true then _ else _) = _
    by_cases h : q (.node k r i l) = true
    · rw [if_pos h]
      simp [visit, List.findIdx_cons, h]
    · rw [if_neg h, firstL_pre q g l _ 1]
      have h' : q (.node k r i l) = false := by simpa using h
      have hv : visit q (T.node k r i l :: preL l) = T.node k r i l :: visit q (preL l) := visit_on (a := [T.node k r i l]) (by simp [h'])
      show _ = (((T.node k r i l :: preL l).findIdx q, (T.node k r i l :: preL l).any q), (visit q (T.node k r i l :: preL l)).foldl g s)
      rw [hv, List.foldl_cons, List.any_cons, h', Bool.false_or, List.findIdx_cons, h']
      simp [Nat.add_comm]
theorem firstL_pre {σ : Type} (q : T → Bool) (g : σ → T → σ) : ∀ (l : List T) (s : σ) (n : Nat), firstL (fun s t => (q t, g s t)) s n l = ((n + (preL l).findIdx q, (preL l).any q), (visit q (preL l)).foldl g s)
  | [], s, n => by rw [firstL, preL]; simp [visit]
  | t :: l, s, n => by
    rw [firstL, preL, firstT_pre q g t s]
    cases h : (preT t).any q with
    | true => simp [visit_any h, idx_in h, h]
    | false =>
      simp only [Bool.false_eq_true, if_false]
      rw [firstL_pre q g l _ _, visit_on h, idx_on h, idx_all h, List.foldl_append, visit_none h, List.any_append, h, Nat.add_assoc]
      rfl
end

def FaultAt (w : World) (v : Value) (n k : Int) : Prop := ∃ b, v = .iface 100 (.pointer (some ⟨b, 0, none⟩)) ∧ w.cell? ⟨b, 0, none⟩ = some (.int .i64 n) ∧ w.cell? ⟨b, 1, none⟩ = some (.int .i64 k)
set_option maxRecDepth 100000 in
theorem newf_any (n k : Int) (w : World) (hn : ¬ n = 0) : Calls Tryz.prog 53 #[.int .i64 n, .int .i64 k] w fun e w' => ∃ v, e = .returned v ∧ FaultAt w' v n k ∧ Below w.heap.size w w' := by
  have d0 : (n == 0) = false := by simpa using hn
  go_enter Tryz.func53, Tryz.ntmps53
  go_wp2
  go_ret
  refine ⟨_, rfl, ⟨w.heap.size, rfl, ?_, ?_⟩, (Below.refl _ _).alloc (Nat.le_refl _) _⟩ <;> simp

/-- What Check says. -/
def CheckSays (t : T) (w : World) (e : Ending) (w' : World) : Prop := ∃ v, e = .returned v ∧ Below w.heap.size w w' ∧
  ((mayT t = false ∧ FaultAt w' v 1 0) ∨ (mayT t = true ∧ (preT t).all fitB = true ∧ v = .nilIface) ∨ (mayT t = true ∧ (preT t).all fitB = false ∧ FaultAt w' v 5 ((preT t).findIdx fun u => !fitB u : Nat)))

theorem enters61 : Enters 55 := enters_of Tryz.func55 (by kernel_rfl) rfl
theorem trow1 {w : World} {c : C} {t : T} (h : Is w c t) : TRow (w.alloc (cbox c)) (.slice (some ⟨w.heap.size, 0, none⟩) 1 1) [t] := by
  refine ⟨[c], .inr ⟨w.heap.size, 0, 1, rfl, fun j x hx => ?_⟩, rfl, fun j x u hx hu => ?_⟩
  · cases j with
    | zero => simp at hx; subst hx; simpa using cbox_new w c
    | succ j => simp at hx
  · cases j with
    | zero => simp at hx hu; subst hx; subst hu; exact h.up ((Below.refl _ _).alloc (Nat.le_refl _) _)
    | succ j => simp at hx
theorem kids_le {t : T} {n : Nat} (h : sz t ≤ n) : t.kids.length ≤ n := by
  have := szL_len t.kids
  have := sz_node t
  omega

set_option maxRecDepth 100000 in
theorem check1_any (t : T) (c : C) (w : World) (hi : Is w c t) (hl : t.kids.length ≤ 20000) : Calls Tryz.prog 55 #[cval c] w fun e w' => e = .returned (.bool (!fitB t)) ∧ Below w.heap.size w w' := by
  have HA : Hid (Below w.heap.size w (w.alloc (cbox c))) := (Below.refl _ _).alloc (Nat.le_refl _) _
  have HBW := Lib.hid (between_any t c (w.alloc (cbox c)) (hi.up HA.out) hl)
  clear hi
  go_enter Tryz.func55, Tryz.ntmps55
  go_wp2_with fail
  refine HBW.out.mono ?_
  rintro e w2 ⟨v2, rfl, -, hb2⟩
  have HB2 := Lib.hid (HA.out.trans (hb2.mono HA.out.size))
  clear hb2
  go_wp2
  go_ret
  exact ⟨rfl, HB2.out⟩

theorem checkF_any (t : T) (c : C) (w : World) (hi : Is w c t) (hs : sz t ≤ 20000) :
    Calls Tryz.prog 54 #[cval c, .func (.func 55) #[] #[]] w fun e w' => e = .returned (.tuple #[.int .i64 ((preT t).findIdx (fun u => !fitB u) : Nat), .bool ((preT t).any fun u => !fitB u)]) ∧ Below w.heap.size w w' := by
  have hM : MachF w (fun (_ : Unit) (_ : Option Obj) (_ : Nat) => False) (fun _ W => Below w.heap.size w W) := ⟨fun _ _ _ _ h => h.elim, fun _ _ h => h, fun _ _ _ h hb => h.trans (hb.mono h.size)⟩
  have H := first_any hM 55 enters61 #[] (fun s u => (!fitB u, s)) (fun _ => 20000) (fun _ _ => by omega) (fun u s c W hz hi hI => (check1_any u c W (hi.up hI) (kids_le hz)).mono fun e w' ⟨h1, h2⟩ => ⟨h1, hI.trans (h2.mono hI.size), Fr.of h2⟩) (sz t) t c () w (Nat.le_refl _) (by omega) hs hi (Below.refl _ _)
  refine H.mono fun e w' ⟨h1, h2, _⟩ => ⟨?_, h2⟩
  rw [h1, firstT_pre (fun u => !fitB u) (fun s _ => s) t ()]

theorem all_not_any (l : List T) : (l.any fun u => !fitB u) = !(l.all fitB) := by
  induction l with
  | nil => rfl
  | cons t l ih => rw [List.any_cons, List.all_cons, ih, Bool.not_and]

set_option maxRecDepth 100000 in
set_option maxHeartbeats 800000 in
theorem check_any (t : T) (c : C) (w : World) (hi : Is w c t) (hs0 : mayT t = true → sz t ≤ 20000) : Calls Tryz.prog 38 #[cval c] w (CheckSays t w) := by
  have HA : Hid (Below w.heap.size w (w.alloc (cbox c))) := (Below.refl _ _).alloc (Nat.le_refl _) _
  have HC := Lib.hid (cbox_new w c)
  have HMY := Lib.hid (mayAll_any (.slice (some ⟨w.heap.size + 1, 0, none⟩) 1 1) [t] ((w.alloc (cbox c)).alloc (cbox c)) (by have := trow1 (hi.up HA.out); simpa using this) (by simp))
  have HA2 : Hid (Below w.heap.size w ((w.alloc (cbox c)).alloc (cbox c))) := Lib.hid (HA.out.alloc (by simp) _)
  have HI := Lib.hid hi
  have HS0 := Lib.hid hs0
  have HC2 := Lib.hid (HC.out.up ((Below.refl _ _).alloc (Nat.le_refl _) (cbox c)))
  have hall : [t].all mayT = mayT t := by simp
  rw [hall] at HMY
  clear hi hs0 hall
  go_enter Tryz.func38, Tryz.ntmps38
  go_wp2_with fail
  refine HMY.out.mono ?_
  rintro e w2 ⟨rfl, hb2⟩
  have HB2 := Lib.hid (HA2.out.trans (hb2.mono HA2.out.size))
  have C2 := Lib.hid (HC2.out.up hb2)
  clear hb2
  cases hm : mayT t with
  | false =>
    have HM := Lib.hid hm
    clear hm
    go_wp2_with fail
    refine (newf_any 1 0 w2 (by decide)).mono ?_
    rintro e w3 ⟨v3, rfl, hf3, hb3⟩
    have HB3 := Lib.hid (HB2.out.trans (hb3.mono HB2.out.size))
    have HF3 := Lib.hid hf3
    clear hb3 hf3
    go_wp2
    go_ret
    exact ⟨v3, rfl, HB3.out, .inl ⟨HM.out, HF3.out⟩⟩
  | true =>
    have HM := Lib.hid hm
    have HS := Lib.hid (HS0.out hm)
    clear hm
    obtain ⟨c0, c1, c2, c3, c4, c5, c6⟩ := C2.out
    simp only [Nat.zero_add] at c1 c2 c3 c4 c5 c6
    have HF := Lib.hid (checkF_any t c w2 (HI.out.up HB2.out) HS.out)
    rw [all_not_any] at HF
    have HX : Hid (((preT t).findIdx (fun u => !fitB u) : Nat) ≤ 20000) := Lib.hid (by
      have := List.findIdx_le_length (xs := preT t) (p := fun u => !fitB u)
      rw [preT_len] at this
      have := HS.out
      omega)
    have HEQ : Hid (∃ n, (preT t).findIdx (fun u => !fitB u) = n) := Lib.hid ⟨_, rfl⟩
    obtain ⟨n, hn⟩ := HEQ.out
    rw [hn] at HF
    cases hfa : (preT t).all fitB with
    | true =>
      rw [hfa] at HF
      have HFA := Lib.hid hfa
      clear hfa hn
      go_wp2_with fail
      refine HF.out.mono ?_
      rintro e w3 ⟨rfl, hb3⟩
      have HB3 := Lib.hid (HB2.out.trans (hb3.mono HB2.out.size))
      clear hb3 c0 c1 c2 c3 c4 c5 c6
      go_wp2
      go_ret
      exact ⟨_, rfl, HB3.out, .inr (.inl ⟨HM.out, HFA.out, rfl⟩)⟩
    | false =>
      rw [hfa] at HF
      have HFA := Lib.hid hfa
      have HN := Lib.hid hn
      clear hfa hn
      go_wp2_with fail
      refine HF.out.mono ?_
      rintro e w3 ⟨rfl, hb3⟩
      have HB3 := Lib.hid (HB2.out.trans (hb3.mono HB2.out.size))
      clear hb3 c0 c1 c2 c3 c4 c5 c6
      go_wp2_with fail
      refine (newf_any 5 n w3 (by decide)).mono ?_
      rintro e w4 ⟨v4, rfl, hf4, hb4⟩
      have HB4 := Lib.hid (HB3.out.trans (hb4.mono HB3.out.size))
      have HF4 := Lib.hid hf4
      clear hb4 hf4
      go_wp2
      go_ret
      exact ⟨v4, rfl, HB4.out, .inr (.inr ⟨HM.out, HFA.out, by rw [HN.out]; exact HF4.out⟩)⟩
end Go.Proofs.YtakofjbjciljjaaGreat
/- Do all these trees tile? -/
namespace Go.Proofs.YtakofjbjciljjaaGreat
open Go.RowKit

noncomputable def tileB (t : T) : Bool := mayT t && (preT t).all fitB
theorem neq_some (u : TypeId) (x : Value) (w : World) : (binOp .neq 64 (.iface u x) .nilIface).run Tryz.prog w = .ok (.bool true) w := by kernel_rfl
theorem neq_none (w : World) : (binOp .neq 64 .nilIface .nilIface).run Tryz.prog w = .ok (.bool false) w := by kernel_rfl
theorem enters36 : Enters 37 := enters_of Tryz.func37 (by kernel_rfl) rfl

theorem check_nil {t : T} {w : World} {e : Ending} {w' : World} (h : CheckSays t w e w') : Below w.heap.size w w' ∧ ((tileB t = true ∧ e = .returned .nilIface) ∨ (tileB t = false ∧ ∃ u x, e = .returned (.iface u x))) := by
  obtain ⟨v, rfl, hb, ⟨h1, b, rfl, -⟩ | ⟨h1, h2, rfl⟩ | ⟨h1, h2, b, rfl, -⟩⟩ := h
  · exact ⟨hb, .inr ⟨by unfold tileB; rw [h1]; rfl, _, _, rfl⟩⟩
  · exact ⟨hb, .inl ⟨by unfold tileB; rw [h1, h2]; rfl, rfl⟩⟩
  · exact ⟨hb, .inr ⟨by unfold tileB; rw [h1, h2]; rfl, _, _, rfl⟩⟩

set_option maxRecDepth 100000 in
theorem tiles1_any (t : T) (c : C) (w : World) (hi : Is w c t) (hs : mayT t = true → sz t ≤ 20000) : Calls Tryz.prog 37 #[cval c] w fun e w' => e = .returned (.bool (!tileB t)) ∧ Below w.heap.size w w' := by
  have HA : Hid (Below w.heap.size w (w.alloc (cbox c))) := (Below.refl _ _).alloc (Nat.le_refl _) _
  have HCK := Lib.hid ((check_any t c (w.alloc (cbox c)) (hi.up HA.out) hs).mono fun e w' h => check_nil h)
  have nS := neq_some
  have nN := neq_none
  clear hi
  generalize tileB t = b at HCK ⊢
  go_enter Tryz.func37, Tryz.ntmps37
  go_wp2_with fail
  refine HCK.out.mono ?_
  rintro e w2 ⟨hb2, ⟨rfl, rfl⟩ | ⟨rfl, u, x, rfl⟩⟩
  · have HB2 := Lib.hid (HA.out.trans (hb2.mono HA.out.size))
    clear hb2
    go_wp2
    go_ret
    exact ⟨rfl, HB2.out⟩
  · have HB2 := Lib.hid (HA.out.trans (hb2.mono HA.out.size))
    clear hb2
    go_wp2
    go_ret
    exact ⟨rfl, HB2.out⟩

def IdxSays (l : List T) (w : World) (e : Ending) (w' : World) : Prop := ∃ n : Int, e = .returned (.int .i64 n) ∧ (l.all tileB = true → n = -1) ∧ (l.all tileB = false → 0 ≤ n) ∧ Below w.heap.size w w'
theorem all_no {l : List T} {k : Nat} {t : T} (h : l[k]? = some t) (ht : tileB t = false) : l.all tileB = false := by
  cases e : l.all tileB with
  | false => rfl
  | true => rw [List.all_eq_true.1 e t (List.mem_of_getElem? h)] at ht; cases ht
theorem all_yes {l : List T} (h : ∀ (k : Nat) (t : T), l[k]? = some t → tileB t = true) : l.all tileB = true := by
  rw [List.all_eq_true]
  intro t ht
  obtain ⟨k, hk⟩ := List.getElem?_of_mem ht
  exact h k t hk

set_option maxRecDepth 100000 in
set_option maxHeartbeats 800000 in
theorem idxT_any (l : List T) (v : Value) (w : World) (hr : TRow w v l) (hl : l.length ≤ 1954687338211) (hs : ∀ t ∈ l, mayT t = true → sz t ≤ 20000) :
    Calls Tryz.prog 51 #[v, .func (.func 37) #[] #[]] w (IdxSays l w) := by
  have hent : ∀ (args : Array Value) (w : World), (callFunc 37 args).run Tryz.prog w = .ok (.enter 37 args) w := enters36
  obtain ⟨a, cap, rfl⟩ := hr.shape
  have HR := Lib.hid hr
  have HS := Lib.hid hs
  clear hr hs
  go_enter Tryz.func51, Tryz.ntmps51
  go_wp2
  go_loopg [8] (l.length + 1) (fun g i wr => ∃ k : Nat, g + k = l.length + 1 ∧ k ≤ l.length ∧ i = .int .i64 k ∧ (∀ (j : Nat) (t : T), j < k → l[j]? = some t → tileB t = true) ∧ Below w.heap.size w wr)
  case atStart => exact ⟨0, by omega, by omega, rfl, fun j t hj => by omega, Below.refl _ _⟩
  case round =>
    obtain ⟨k, hg, hk, rfl, hsame, hb⟩ := hrel
    have HG := Lib.hid hg
    have HSM := Lib.hid hsame
    have HB := Lib.hid hb
    clear hg hsame hb
    by_cases hlt : k < l.length
    · obtain ⟨t, ht⟩ : ∃ t, l[k]? = some t := ⟨_, List.getElem?_eq_getElem hlt⟩
      obtain ⟨b1, o1, rfl, hf1⟩ := HR.out.place (by omega)
      obtain ⟨x, hx, hix⟩ := hf1 k t ht
      clear hf1
      obtain ⟨c0, c1, c2, c3, c4, c5, c6⟩ := hx.up HB.out
      have HC := Lib.hid (tiles1_any t x wr (hix.up HB.out) (HS.out t (List.mem_of_getElem? ht)))
      have HT := Lib.hid ht
      clear ht hx hix
      cases hst : tileB t with
      | true =>
        rw [hst] at HC
        have HST := Lib.hid hst
        clear hst
        go_wp2_with fail
        refine HC.out.mono ?_
        rintro e w2 ⟨rfl, hb2⟩
        have HB2 := Lib.hid (HB.out.trans (hb2.mono HB.out.size))
        clear hb2
        go_wp2
        go_roundg (gk - 1)
        case measure => have := HG.out; omega
        case rel =>
          refine ⟨k + 1, by have := HG.out; omega, by omega, by go_num, fun j a hj ha => ?_, HB2.out⟩
          rcases Nat.lt_or_ge j k with h | h
          · exact HSM.out j a h ha
          · obtain rfl : j = k := by omega
            rw [HT.out] at ha
            cases ha
            exact HST.out
      | false =>
        rw [hst] at HC
        have HST := Lib.hid (all_no HT.out hst)
        clear hst
        go_wp2_with fail
        refine HC.out.mono ?_
        rintro e w2 ⟨rfl, hb2⟩
        have HB2 := Lib.hid (HB.out.trans (hb2.mono HB.out.size))
        clear hb2
        go_wp2
        go_ret
        exact ⟨k, rfl, (fun h => by rw [HST.out] at h; cases h), fun _ => by omega, HB2.out⟩
    · obtain rfl : k = l.length := by omega
      have hkl : ((l.length : Int) < (l.length : Int)) = False := by simp
      have HST := Lib.hid (all_yes (fun k t ht => HSM.out k t (by
        rcases Nat.lt_or_ge k l.length with h | h
        · exact h
        · rw [List.getElem?_eq_none h] at ht; cases ht) ht))
      go_wp2
      go_ret
      exact ⟨-1, rfl, fun _ => rfl, (fun h => by rw [HST.out] at h; cases h), HB.out⟩

set_option maxRecDepth 100000 in
theorem hasT_any (l : List T) (v : Value) (w : World) (hr : TRow w v l) (hl : l.length ≤ 1954687338211) (hs : ∀ t ∈ l, mayT t = true → sz t ≤ 20000) :
    Calls Tryz.prog 36 #[v, .func (.func 37) #[] #[]] w fun e w' => e = .returned (.bool (!(l.all tileB))) ∧ Below w.heap.size w w' := by
  have H2 : Hid (Calls Tryz.prog 51 #[v, .func (.func 37) #[] #[]] w fun e w' => ∃ n : Int, e = .returned (.int .i64 n) ∧ decide (0 ≤ n) = (!(l.all tileB)) ∧ Below w.heap.size w w') := Lib.hid ((idxT_any l v w hr hl hs).mono fun e w' ⟨n, h1, h2, h3, h4⟩ => ⟨n, h1, by
    cases hb : l.all tileB with
    | true => rw [h2 hb]; rfl
    | false => exact decide_eq_true (h3 hb), h4⟩)
  obtain ⟨a, cap, rfl⟩ := hr.shape
  clear hr hs
  generalize (!(l.all tileB)) = b at H2 ⊢
  go_enter Tryz.func36, Tryz.ntmps36
  go_wp2_with fail
  refine H2.out.mono ?_
  rintro e w2 ⟨n, rfl, hd, hb2⟩
  have HB2 := Lib.hid hb2
  clear hb2
  subst hd
  go_wp2
  go_ret
  exact ⟨rfl, HB2.out⟩

set_option maxRecDepth 100000 in
theorem tiles_any (l : List T) (v : Value) (w : World) (hr : TRow w v l) (hl : l.length ≤ 1954687338211) (hs : ∀ t ∈ l, mayT t = true → sz t ≤ 20000) :
    Calls Tryz.prog 24 #[v] w fun e w' => e = .returned (.bool (l.all tileB)) ∧ Below w.heap.size w w' := by
  have H := Lib.hid (hasT_any l v w hr hl hs)
  obtain ⟨a, cap, rfl⟩ := hr.shape
  clear hr hs
  generalize l.all tileB = b at H ⊢
  go_enter Tryz.func24, Tryz.ntmps24
  go_wp2_with fail
  refine H.out.mono ?_
  rintro e w2 ⟨rfl, hb2⟩
  have HB2 := Lib.hid hb2
  clear hb2
  go_wp2
  go_ret
  exact ⟨by simp, HB2.out⟩
/-- Of one. -/
theorem tilesOne_any (t : T) (c : C) (w : World) (hi : Is w c t) (hs : mayT t = true → sz t ≤ 20000) (n : Nat) (hn : n = w.heap.size) :
    Calls Tryz.prog 24 #[.slice (some ⟨n, 0, none⟩) 1 1] (w.alloc (cbox c)) fun e w' => e = .returned (.bool (tileB t)) ∧ Below w.heap.size w w' := by
  subst hn
  refine (tiles_any [t] _ _ (trow1 hi) (by simp) (fun u hu => by simp at hu; subst hu; exact hs)).mono ?_
  rintro e w' ⟨rfl, hb⟩
  exact ⟨by simp, below_one hb⟩
end Go.Proofs.YtakofjbjciljjaaGreat
/- May a tree be? The program's answer is the document's. -/
namespace Go.Proofs.YtakofjbjciljjaaGreat
open Go.RowKit

def idsP (l : List T) : List Int := (l.filter leafB).map T.id
theorem idsP_append (a b : List T) : idsP (a ++ b) = idsP a ++ idsP b := by simp [idsP]
theorem idsP_cons (t : T) (l : List T) : idsP (t :: l) = (if leafB t then [t.id] else []) ++ idsP l := by
  unfold idsP
  cases h : leafB t <;> simp [h]
/-- All may be, and no number was met ahead. -/
def okP (l : List T) (ms : List Int) : Prop := l.all wellT = true ∧ ((idsP l).reverse ++ ms).Nodup
theorem nodup_rev {a : List Int} : a.reverse.Nodup ↔ a.Nodup := by
  unfold List.Nodup
  rw [List.pairwise_reverse]
  exact ⟨fun h => h.imp fun hab e => hab e.symm, fun h => h.imp fun hab e => hab e.symm⟩
theorem nodup_right {a b : List Int} (h : (a ++ b).Nodup) : b.Nodup := h.sublist (List.sublist_append_right a b)

theorem step_bad {n : Nat} {ms : List Int} {t : T} (hn : n + 1 ≤ 20000) (h : wellT t = false) : (mayStep (n, ms) t).1 = true := by
  rw [mayStep, if_pos (.inr h)]
theorem step_row {n : Nat} {ms : List Int} {t : T} (hn : n + 1 ≤ 20000) (h : wellT t = true) (hk : leafB t = false) : mayStep (n, ms) t = (false, (n + 1, ms)) := by
  rw [mayStep, if_neg (by simp [h]; omega), if_pos (by simpa [leafB] using hk)]
theorem step_leaf {n : Nat} {ms : List Int} {t : T} (hn : n + 1 ≤ 20000) (h : wellT t = true) (hk : leafB t = true) : mayStep (n, ms) t = (decide (t.id ∈ ms), (n + 1, t.id :: ms)) := by
  rw [mayStep, if_neg (by simp [h]; omega), if_neg (by simpa [leafB] using hk)]

mutual
theorem goT_may : ∀ (t : T) (n : Nat) (ms : List Int), n + sz t ≤ 20000 → ms.Nodup →
    (okP (preT t) ms → goT mayStep (n, ms) t = (false, (n + sz t, (idsP (preT t)).reverse ++ ms))) ∧ (¬ okP (preT t) ms → (goT mayStep (n, ms) t).1 = true)
  | .node k r i l, n, ms, hn, hms => by
    have ihl := goL_may l
    rw [sz] at hn
    rw [goT_eq, preT, idsP_cons]
    cases hw : wellT (.node k r i l) with
    | false =>
      have h1 := step_bad (ms := ms) (show n + 1 ≤ 20000 by omega) hw
      refine ⟨fun h => ?_, fun _ => by rw [if_pos h1]; exact h1⟩
      have := h.1
      rw [List.all_cons, hw] at this
      cases this
    | true =>
      cases hk : leafB (.node k r i l) with
      | false =>
        rw [step_row (by omega) hw hk]
        obtain ⟨h1, h2⟩ := ihl (n + 1) ms (by omega) hms
        have hok : okP (.node k r i l :: preL l) ms ↔ okP (preL l) ms := by
          unfold okP
          rw [List.all_cons, hw, idsP_cons, hk]
          simp
        simp only [Bool.false_eq_true, if_false, List.nil_append, T.kids]
        refine ⟨fun h => ?_, fun h => h2 (fun g => h (hok.2 g))⟩
        rw [h1 (hok.1 h), sz]
        simp only [Prod.mk.injEq, true_and, and_true]
        omega
      | true =>
        rw [step_leaf (by omega) hw hk]
        have hid : (T.node k r i l).id = i := rfl
        rw [hid]
        have hok : okP (.node k r i l :: preL l) ms ↔ okP (preL l) (i :: ms) := by
          unfold okP
          rw [List.all_cons, hw, idsP_cons, hk, hid]
          simp
        by_cases hm : i ∈ ms
        · refine ⟨fun h => ?_, fun _ => by simp [hm]⟩
          have := nodup_right (hok.1 h).2
          rw [List.nodup_cons] at this
          exact absurd hm this.1
        · obtain ⟨h1, h2⟩ := ihl (n + 1) (i :: ms) (by omega) (List.nodup_cons.2 ⟨hm, hms⟩)
          simp only [decide_eq_false hm, Bool.false_eq_true, if_false, T.kids]
          refine ⟨fun h => ?_, fun h => h2 (fun g => h (hok.2 g))⟩
          rw [h1 (hok.1 h), sz]
          simp
          omega
theorem goL_may : ∀ (l : List T) (n : Nat) (ms : List Int), n + szL l ≤ 20000 → ms.Nodup →
    (okP (preL l) ms → goL mayStep (n, ms) l = (false, (n + szL l, (idsP (preL l)).reverse ++ ms))) ∧ (¬ okP (preL l) ms → (goL mayStep (n, ms) l).1 = true)
  | [], n, ms, hn, hms => by
    rw [goL, preL, szL]
    refine ⟨fun _ => by simp [idsP], fun h => absurd ⟨rfl, by simpa [idsP] using hms⟩ h⟩
  | t :: l, n, ms, hn, hms => by
    rw [szL] at hn
    obtain ⟨h1, h2⟩ := goT_may t n ms (by omega) hms
    have ihl := goL_may l
    rw [goL, preL, szL, idsP_append]
    by_cases ht : okP (preT t) ms
    · rw [h1 ht]
      obtain ⟨g1, g2⟩ := ihl (n + sz t) ((idsP (preT t)).reverse ++ ms) (by omega) ht.2
      have hok : okP (preT t ++ preL l) ms ↔ okP (preL l) ((idsP (preT t)).reverse ++ ms) := by
        unfold okP
        rw [List.all_append, ht.1, idsP_append]
        simp
      simp only [Bool.false_eq_true, if_false]
      refine ⟨fun h => ?_, fun h => g2 (fun g => h (hok.2 g))⟩
      rw [g1 (hok.1 h)]
      simp
      omega
    · have h3 := h2 ht
      rw [if_pos h3]
      refine ⟨fun h => absurd ⟨?_, ?_⟩ ht, fun _ => h3⟩
      · have := h.1
        rw [List.all_append, Bool.and_eq_true] at this
        exact this.1
      · have := h.2
        rw [idsP_append, List.reverse_append, List.append_assoc] at this
        exact nodup_right this
end

theorem may_is {t : T} (h : sz t ≤ 20000) : mayT t = rmayT t := by
  obtain ⟨h1, h2⟩ := goT_may t 0 [] (by omega) List.nodup_nil
  rw [mayT, rmayT]
  by_cases hk : okP (preT t) []
  · rw [h1 hk]
    have hnd : (((preT t).filter leafB).map T.id).Nodup := by
      have := hk.2
      rw [List.append_nil] at this
      have := nodup_rev.1 this
      exact this
    rw [hk.1, decide_eq_true hnd]; rfl
  · rw [h2 hk]
    symm
    cases e : (preT t).all wellT with
    | false => rfl
    | true =>
      rw [decide_eq_false]; rfl
      intro hnd
      exact hk ⟨e, by rw [List.append_nil]; exact nodup_rev.2 hnd⟩
end Go.Proofs.YtakofjbjciljjaaGreat
