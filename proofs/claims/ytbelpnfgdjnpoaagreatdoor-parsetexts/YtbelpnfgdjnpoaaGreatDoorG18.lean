/- Texts of this seat, 3 in one file. -/
import Derived.Test.YtbelpnfgdjnpoaaGreatDoorG12
import Derived.Test.YtbelpnfgdjnpoaaGreatDoorG16
import Derived.Test.YtbelpnfgdjnpoaaGreatDoorG17
/- Does a tree tile, and which of its cells doesn't? -/
namespace Go.Proofs.YtbelpnfgdjnpoaaGreatDoor
open Go.RowKit

theorem idx_any {q : T → Bool} {l : List T} : l.findIdx q < l.length ↔ l.any q = true := by
  rw [List.findIdx_lt_length, List.any_eq_true]
theorem idx_all {q : T → Bool} {l : List T} (h : l.any q = false) : l.findIdx q = l.length := by
  have h1 := List.findIdx_le_length (xs := l) (p := q)
  rcases Nat.lt_or_ge (l.findIdx q) l.length with h2 | h2
  · rw [idx_any, h] at h2; cases h2
  · omega
def visit (q : T → Bool) (l : List T) : List T := l.take (l.findIdx q + 1)
theorem visit_any {q : T → Bool} {a b : List T} (h : a.any q = true) : visit q (a ++ b) = visit q a := by
  have h1 := idx_any.2 h
  unfold visit
  rw [List.findIdx_append, if_pos h1, List.take_append_of_le_length (by omega)]
theorem visit_none {q : T → Bool} {a : List T} (h : a.any q = false) : visit q a = a := by
  unfold visit
  rw [idx_all h]
  exact List.take_of_length_le (by omega)
theorem visit_on {q : T → Bool} {a b : List T} (h : a.any q = false) : visit q (a ++ b) = a ++ visit q b := by
  have h1 := idx_all h
  unfold visit
  rw [List.findIdx_append, if_neg (by omega), show List.findIdx q b + a.length + 1 = a.length + (List.findIdx q b + 1) by omega, List.take_length_add_append]
theorem idx_on {q : T → Bool} {a b : List T} (h : a.any q = false) : (a ++ b).findIdx q = a.length + b.findIdx q := by
  rw [List.findIdx_append, if_neg (by have := idx_all h; omega)]; omega
theorem idx_in {q : T → Bool} {a b : List T} (h : a.any q = true) : (a ++ b).findIdx q = a.findIdx q := by
  rw [List.findIdx_append, if_pos (idx_any.2 h)]

mutual
theorem firstT_pre {σ : Type} (q : T → Bool) (g : σ → T → σ) : ∀ (t : T) (s : σ), firstT (fun s t => (q t, g s t)) s t = (((preT t).findIdx q, (preT t).any q), (visit q (preT t)).foldl g s)
  | .node k r i l, s => by
    rw [firstT, preT_eq]
    show (if q (.node k r i l) = true then _ else _) = _
    by_cases h : q (.node k r i l) = true
    · rw [if_pos h]
      simp [visit, List.findIdx_cons, h]
    · rw [if_neg h, firstL_pre q g l _ 1]
      have h' : q (.node k r i l) = false := by simpa using h
      have hv : visit q (T.node k r i l :: preL l) = T.node k r i l :: visit q (preL l) := visit_on (a := [T.node k r i l]) (by simp [h'])
      show _ = (((T.node k r i l :: preL l).findIdx q, (T.node k r i l :: preL l).any q), (visit q (T.node k r i l :: preL l)).foldl g s)
      rw [hv, List.foldl_cons, List.any_cons, h', Bool.false_or, List.findIdx_cons, h']
      simp [Nat.add_comm]
theorem firstL_pre {σ : Type} (q : T → Bool) (g : σ → T → σ) : ∀ (l : List T) (s : σ) (n : Nat), firstL (fun s t => (q t, g s t)) s n l = ((n + (preL l).findIdx q, (preL l).any q), (visit q (preL l)).foldl g s)
  | [], s, n => by rw [firstL, preL]; simp [visit]
  | t :: l, s, n => by
    rw [firstL, preL, firstT_pre q g t s]
    cases h : (preT t).any q with
    | true => simp [visit_any h, idx_in h, h]
    | false =>
      simp only [Bool.false_eq_true, if_false]
      rw [firstL_pre q g l _ _, visit_on h, idx_on h, idx_all h, List.foldl_append, visit_none h, List.any_append, h, Nat.add_assoc]
      rfl
end

def FaultAt (w : World) (v : Value) (n k : Int) : Prop := ∃ b, v = .iface 92 (.pointer (some ⟨b, 0, none⟩)) ∧ w.cell? ⟨b, 0, none⟩ = some (.int .i64 n) ∧ w.cell? ⟨b, 1, none⟩ = some (.int .i64 k)
set_option maxRecDepth 100000 in
theorem newf_any (n k : Int) (w : World) (hn : ¬ n = 0) : Calls Tryz.prog 50 #[.int .i64 n, .int .i64 k] w fun e w' => ∃ v, e = .returned v ∧ FaultAt w' v n k ∧ Below w.heap.size w w' := by
  have d0 : (n == 0) = false := by simpa using hn
  go_enter Tryz.func50, Tryz.ntmps50
  go_wp2
  go_ret
  refine ⟨_, rfl, ⟨w.heap.size, rfl, ?_, ?_⟩, (Below.refl _ _).alloc (Nat.le_refl _) _⟩ <;> simp

/-- What Check says. -/
def CheckSays (t : T) (w : World) (e : Ending) (w' : World) : Prop := ∃ v, e = .returned v ∧ Below w.heap.size w w' ∧
  ((mayT t = false ∧ FaultAt w' v 1 0) ∨ (mayT t = true ∧ (preT t).all fitB = true ∧ v = .nilIface) ∨ (mayT t = true ∧ (preT t).all fitB = false ∧ FaultAt w' v 5 ((preT t).findIdx fun u => !fitB u : Nat)))

theorem enters61 : Enters 87 := enters_of Tryz.func87 (by kernel_rfl) rfl
theorem trow1 {w : World} {c : C} {t : T} (h : Is w c t) : TRow (w.alloc (cbox c)) (.slice (some ⟨w.heap.size, 0, none⟩) 1 1) [t] := by
  refine ⟨[c], .inr ⟨w.heap.size, 0, 1, rfl, fun j x hx => ?_⟩, rfl, fun j x u hx hu => ?_⟩
  · cases j with
    | zero => simp at hx; subst hx; simpa using cbox_new w c
    | succ j => simp at hx
  · cases j with
    | zero => simp at hx hu; subst hx; subst hu; exact h.up ((Below.refl _ _).alloc (Nat.le_refl _) _)
    | succ j => simp at hx
theorem kids_le {t : T} {n : Nat} (h : sz t ≤ n) : t.kids.length ≤ n := by
  have := szL_len t.kids
  have := sz_node t
  omega

set_option maxRecDepth 100000 in
theorem check1_any (t : T) (c : C) (w : World) (hi : Is w c t) (hl : t.kids.length ≤ 20000) : Calls Tryz.prog 87 #[cval c] w fun e w' => e = .returned (.bool (!fitB t)) ∧ Below w.heap.size w w' := by
  have HA : Hid (Below w.heap.size w (w.alloc (cbox c))) := (Below.refl _ _).alloc (Nat.le_refl _) _
  have HBW := Lib.hid (between_any t c (w.alloc (cbox c)) (hi.up HA.out) hl)
  clear hi
  go_enter Tryz.func87, Tryz.ntmps87
  go_wp2_with fail
  refine HBW.out.mono ?_
  rintro e w2 ⟨v2, rfl, -, hb2⟩
  have HB2 := Lib.hid (HA.out.trans (hb2.mono HA.out.size))
  clear hb2
  go_wp2
  go_ret
  exact ⟨rfl, HB2.out⟩

theorem checkF_any (t : T) (c : C) (w : World) (hi : Is w c t) (hs : sz t ≤ 20000) :
    Calls Tryz.prog 86 #[cval c, .func (.func 87) #[] #[]] w fun e w' => e = .returned (.tuple #[.int .i64 ((preT t).findIdx (fun u => !fitB u) : Nat), .bool ((preT t).any fun u => !fitB u)]) ∧ Below w.heap.size w w' := by
  have hM : MachF w (fun (_ : Unit) (_ : Option Obj) (_ : Nat) => False) (fun _ W => Below w.heap.size w W) := ⟨fun _ _ _ _ h => h.elim, fun _ _ h => h, fun _ _ _ h hb => h.trans (hb.mono h.size)⟩
  have H := first_any hM 87 enters61 #[] (fun s u => (!fitB u, s)) (fun _ => 20000) (fun _ _ => by omega) (fun u s c W hz hi hI => (check1_any u c W (hi.up hI) (kids_le hz)).mono fun e w' ⟨h1, h2⟩ => ⟨h1, hI.trans (h2.mono hI.size), Fr.of h2⟩) (sz t) t c () w (Nat.le_refl _) (by omega) hs hi (Below.refl _ _)
  refine H.mono fun e w' ⟨h1, h2, _⟩ => ⟨?_, h2⟩
  rw [h1, firstT_pre (fun u => !fitB u) (fun s _ => s) t ()]

theorem all_not_any (l : List T) : (l.any fun u => !fitB u) = !(l.all fitB) := by
  induction l with
  | nil => rfl
  | cons t l ih => rw [List.any_cons, List.all_cons, ih, Bool.not_and]

set_option maxRecDepth 100000 in
set_option maxHeartbeats 800000 in
theorem check_any (t : T) (c : C) (w : World) (hi : Is w c t) (hs0 : mayT t = true → sz t ≤ 20000) : Calls Tryz.prog 55 #[cval c] w (CheckSays t w) := by
  have HA : Hid (Below w.heap.size w (w.alloc (cbox c))) := (Below.refl _ _).alloc (Nat.le_refl _) _
  have HC := Lib.hid (cbox_new w c)
  have HMY := Lib.hid (mayAll_any (.slice (some ⟨w.heap.size + 1, 0, none⟩) 1 1) [t] ((w.alloc (cbox c)).alloc (cbox c)) (by have := trow1 (hi.up HA.out); simpa using this) (by simp))
  have HA2 : Hid (Below w.heap.size w ((w.alloc (cbox c)).alloc (cbox c))) := Lib.hid (HA.out.alloc (by simp) _)
  have HI := Lib.hid hi
  have HS0 := Lib.hid hs0
  have HC2 := Lib.hid (HC.out.up ((Below.refl _ _).alloc (Nat.le_refl _) (cbox c)))
  have hall : [t].all mayT = mayT t := by simp
  rw [hall] at HMY
  clear hi hs0 hall
  go_enter Tryz.func55, Tryz.ntmps55
  go_wp2_with fail
  refine HMY.out.mono ?_
  rintro e w2 ⟨rfl, hb2⟩
  have HB2 := Lib.hid (HA2.out.trans (hb2.mono HA2.out.size))
  have C2 := Lib.hid (HC2.out.up hb2)
  clear hb2
  cases hm : mayT t with
  | false =>
    have HM := Lib.hid hm
    clear hm
    go_wp2_with fail
    refine (newf_any 1 0 w2 (by decide)).mono ?_
    rintro e w3 ⟨v3, rfl, hf3, hb3⟩
    have HB3 := Lib.hid (HB2.out.trans (hb3.mono HB2.out.size))
    have HF3 := Lib.hid hf3
    clear hb3 hf3
    go_wp2
    go_ret
    exact ⟨v3, rfl, HB3.out, .inl ⟨HM.out, HF3.out⟩⟩
  | true =>
    have HM := Lib.hid hm
    have HS := Lib.hid (HS0.out hm)
    clear hm
    obtain ⟨c0, c1, c2, c3, c4, c5, c6⟩ := C2.out
    simp only [Nat.zero_add] at c1 c2 c3 c4 c5 c6
    have HF := Lib.hid (checkF_any t c w2 (HI.out.up HB2.out) HS.out)
    rw [all_not_any] at HF
    have HX : Hid (((preT t).findIdx (fun u => !fitB u) : Nat) ≤ 20000) := Lib.hid (by
      have := List.findIdx_le_length (xs := preT t) (p := fun u => !fitB u)
      rw [preT_len] at this
      have := HS.out
      omega)
    have HEQ : Hid (∃ n, (preT t).findIdx (fun u => !fitB u) = n) := Lib.hid ⟨_, rfl⟩
    obtain ⟨n, hn⟩ := HEQ.out
    rw [hn] at HF
    cases hfa : (preT t).all fitB with
    | true =>
      rw [hfa] at HF
      have HFA := Lib.hid hfa
      clear hfa hn
      go_wp2_with fail
      refine HF.out.mono ?_
      rintro e w3 ⟨rfl, hb3⟩
      have HB3 := Lib.hid (HB2.out.trans (hb3.mono HB2.out.size))
      clear hb3 c0 c1 c2 c3 c4 c5 c6
      go_wp2
      go_ret
      exact ⟨_, rfl, HB3.out, .inr (.inl ⟨HM.out, HFA.out, rfl⟩)⟩
    | false =>
      rw [hfa] at HF
      have HFA := Lib.hid hfa
      have HN := Lib.hid hn
      clear hfa hn
      go_wp2_with fail
      refine HF.out.mono ?_
      rintro e w3 ⟨rfl, hb3⟩
      have HB3 := Lib.hid (HB2.out.trans (hb3.mono HB2.out.size))
      clear hb3 c0 c1 c2 c3 c4 c5 c6
      go_wp2_with fail
      refine (newf_any 5 n w3 (by decide)).mono ?_
      rintro e w4 ⟨v4, rfl, hf4, hb4⟩
      have HB4 := Lib.hid (HB3.out.trans (hb4.mono HB3.out.size))
      have HF4 := Lib.hid hf4
      clear hb4 hf4
      go_wp2
      go_ret
      exact ⟨v4, rfl, HB4.out, .inr (.inr ⟨HM.out, HFA.out, by rw [HN.out]; exact HF4.out⟩)⟩
end Go.Proofs.YtbelpnfgdjnpoaaGreatDoor
/- Do all these trees tile? -/
namespace Go.Proofs.YtbelpnfgdjnpoaaGreatDoor
open Go.RowKit

noncomputable def tileB (t : T) : Bool := mayT t && (preT t).all fitB
theorem neq_some (u : TypeId) (x : Value) (w : World) : (binOp .neq 29 (.iface u x) .nilIface).run Tryz.prog w = .ok (.bool true) w := by kernel_rfl
theorem neq_none (w : World) : (binOp .neq 29 .nilIface .nilIface).run Tryz.prog w = .ok (.bool false) w := by kernel_rfl
theorem enters36 : Enters 94 := enters_of Tryz.func94 (by kernel_rfl) rfl

theorem check_nil {t : T} {w : World} {e : Ending} {w' : World} (h : CheckSays t w e w') : Below w.heap.size w w' ∧ ((tileB t = true ∧ e = .returned .nilIface) ∨ (tileB t = false ∧ ∃ u x, e = .returned (.iface u x))) := by
  obtain ⟨v, rfl, hb, ⟨h1, b, rfl, -⟩ | ⟨h1, h2, rfl⟩ | ⟨h1, h2, b, rfl, -⟩⟩ := h
  · exact ⟨hb, .inr ⟨by unfold tileB; rw [h1]; rfl, _, _, rfl⟩⟩
  · exact ⟨hb, .inl ⟨by unfold tileB; rw [h1, h2]; rfl, rfl⟩⟩
  · exact ⟨hb, .inr ⟨by unfold tileB; rw [h1, h2]; rfl, _, _, rfl⟩⟩

set_option maxRecDepth 100000 in
theorem tiles1_any (t : T) (c : C) (w : World) (hi : Is w c t) (hs : mayT t = true → sz t ≤ 20000) : Calls Tryz.prog 94 #[cval c] w fun e w' => e = .returned (.bool (!tileB t)) ∧ Below w.heap.size w w' := by
  have HA : Hid (Below w.heap.size w (w.alloc (cbox c))) := (Below.refl _ _).alloc (Nat.le_refl _) _
  have HCK := Lib.hid ((check_any t c (w.alloc (cbox c)) (hi.up HA.out) hs).mono fun e w' h => check_nil h)
  have nS := neq_some
  have nN := neq_none
  clear hi
  generalize tileB t = b at HCK ⊢
  go_enter Tryz.func94, Tryz.ntmps94
  go_wp2_with fail
  refine HCK.out.mono ?_
  rintro e w2 ⟨hb2, ⟨rfl, rfl⟩ | ⟨rfl, u, x, rfl⟩⟩
  · have HB2 := Lib.hid (HA.out.trans (hb2.mono HA.out.size))
    clear hb2
    go_wp2
    go_ret
    exact ⟨rfl, HB2.out⟩
  · have HB2 := Lib.hid (HA.out.trans (hb2.mono HA.out.size))
    clear hb2
    go_wp2
    go_ret
    exact ⟨rfl, HB2.out⟩

def IdxSays (l : List T) (w : World) (e : Ending) (w' : World) : Prop := ∃ n : Int, e = .returned (.int .i64 n) ∧ (l.all tileB = true → n = -1) ∧ (l.all tileB = false → 0 ≤ n) ∧ Below w.heap.size w w'
theorem all_no {l : List T} {k : Nat} {t : T} (h : l[k]? = some t) (ht : tileB t = false) : l.all tileB = false := by
  cases e : l.all tileB with
  | false => rfl
  | true => rw [List.all_eq_true.1 e t (List.mem_of_getElem? h)] at ht; cases ht
theorem all_yes {l : List T} (h : ∀ (k : Nat) (t : T), l[k]? = some t → tileB t = true) : l.all tileB = true := by
  rw [List.all_eq_true]
  intro t ht
  obtain ⟨k, hk⟩ := List.getElem?_of_mem ht
  exact h k t hk

set_option maxRecDepth 100000 in
set_option maxHeartbeats 800000 in
theorem idxT_any (l : List T) (v : Value) (w : World) (hr : TRow w v l) (hl : l.length ≤ 1954687338211) (hs : ∀ t ∈ l, mayT t = true → sz t ≤ 20000) :
    Calls Tryz.prog 122 #[v, .func (.func 94) #[] #[]] w (IdxSays l w) := by
  have hent : ∀ (args : Array Value) (w : World), (callFunc 94 args).run Tryz.prog w = .ok (.enter 94 args) w := enters36
  obtain ⟨a, cap, rfl⟩ := hr.shape
  have HR := Lib.hid hr
  have HS := Lib.hid hs
  clear hr hs
  go_enter Tryz.func122, Tryz.ntmps122
  go_wp2
  go_loopg [8] (l.length + 1) (fun g i wr => ∃ k : Nat, g + k = l.length + 1 ∧ k ≤ l.length ∧ i = .int .i64 k ∧ (∀ (j : Nat) (t : T), j < k → l[j]? = some t → tileB t = true) ∧ Below w.heap.size w wr)
  case atStart => exact ⟨0, by omega, by omega, rfl, fun j t hj => by omega, Below.refl _ _⟩
  case round =>
    obtain ⟨k, hg, hk, rfl, hsame, hb⟩ := hrel
    have HG := Lib.hid hg
    have HSM := Lib.hid hsame
    have HB := Lib.hid hb
    clear hg hsame hb
    by_cases hlt : k < l.length
    · obtain ⟨t, ht⟩ : ∃ t, l[k]? = some t := ⟨_, List.getElem?_eq_getElem hlt⟩
      obtain ⟨b1, o1, rfl, hf1⟩ := HR.out.place (by omega)
      obtain ⟨x, hx, hix⟩ := hf1 k t ht
      clear hf1
      obtain ⟨c0, c1, c2, c3, c4, c5, c6⟩ := hx.up HB.out
      have HC := Lib.hid (tiles1_any t x wr (hix.up HB.out) (HS.out t (List.mem_of_getElem? ht)))
      have HT := Lib.hid ht
      clear ht hx hix
      cases hst : tileB t with
      | true =>
        rw [hst] at HC
        have HST := Lib.hid hst
        clear hst
        go_wp2_with fail
        refine HC.out.mono ?_
        rintro e w2 ⟨rfl, hb2⟩
        have HB2 := Lib.hid (HB.out.trans (hb2.mono HB.out.size))
        clear hb2
        go_wp2
        go_roundg (gk - 1)
        case measure => have := HG.out; omega
        case rel =>
          refine ⟨k + 1, by have := HG.out; omega, by omega, by go_num, fun j a hj ha => ?_, HB2.out⟩
          rcases Nat.lt_or_ge j k with h | h
          · exact HSM.out j a h ha
          · obtain rfl : j = k := by omega
            rw [HT.out] at ha
            cases ha
            exact HST.out
      | false =>
        rw [hst] at HC
        have HST := Lib.hid (all_no HT.out hst)
        clear hst
        go_wp2_with fail
        refine HC.out.mono ?_
        rintro e w2 ⟨rfl, hb2⟩
        have HB2 := Lib.hid (HB.out.trans (hb2.mono HB.out.size))
        clear hb2
        go_wp2
        go_ret
        exact ⟨k, rfl, (fun h => by rw [HST.out] at h; cases h), fun _ => by omega, HB2.out⟩
    · obtain rfl : k = l.length := by omega
      have hkl : ((l.length : Int) < (l.length : Int)) = False := by simp
      have HST := Lib.hid (all_yes (fun k t ht => HSM.out k t (by
        rcases Nat.lt_or_ge k l.length with h | h
        · exact h
        · rw [List.getElem?_eq_none h] at ht; cases ht) ht))
      go_wp2
      go_ret
      exact ⟨-1, rfl, fun _ => rfl, (fun h => by rw [HST.out] at h; cases h), HB.out⟩

set_option maxRecDepth 100000 in
theorem hasT_any (l : List T) (v : Value) (w : World) (hr : TRow w v l) (hl : l.length ≤ 1954687338211) (hs : ∀ t ∈ l, mayT t = true → sz t ≤ 20000) :
    Calls Tryz.prog 93 #[v, .func (.func 94) #[] #[]] w fun e w' => e = .returned (.bool (!(l.all tileB))) ∧ Below w.heap.size w w' := by
  have H2 : Hid (Calls Tryz.prog 122 #[v, .func (.func 94) #[] #[]] w fun e w' => ∃ n : Int, e = .returned (.int .i64 n) ∧ decide (0 ≤ n) = (!(l.all tileB)) ∧ Below w.heap.size w w') := Lib.hid ((idxT_any l v w hr hl hs).mono fun e w' ⟨n, h1, h2, h3, h4⟩ => ⟨n, h1, by
    cases hb : l.all tileB with
    | true => rw [h2 hb]; rfl
    | false => exact decide_eq_true (h3 hb), h4⟩)
  obtain ⟨a, cap, rfl⟩ := hr.shape
  clear hr hs
  generalize (!(l.all tileB)) = b at H2 ⊢
  go_enter Tryz.func93, Tryz.ntmps93
  go_wp2_with fail
  refine H2.out.mono ?_
  rintro e w2 ⟨n, rfl, hd, hb2⟩
  have HB2 := Lib.hid hb2
  clear hb2
  subst hd
  go_wp2
  go_ret
  exact ⟨rfl, HB2.out⟩

set_option maxRecDepth 100000 in
theorem tiles_any (l : List T) (v : Value) (w : World) (hr : TRow w v l) (hl : l.length ≤ 1954687338211) (hs : ∀ t ∈ l, mayT t = true → sz t ≤ 20000) :
    Calls Tryz.prog 61 #[v] w fun e w' => e = .returned (.bool (l.all tileB)) ∧ Below w.heap.size w w' := by
  have H := Lib.hid (hasT_any l v w hr hl hs)
  obtain ⟨a, cap, rfl⟩ := hr.shape
  clear hr hs
  generalize l.all tileB = b at H ⊢
  go_enter Tryz.func61, Tryz.ntmps61
  go_wp2_with fail
  refine H.out.mono ?_
  rintro e w2 ⟨rfl, hb2⟩
  have HB2 := Lib.hid hb2
  clear hb2
  go_wp2
  go_ret
  exact ⟨by simp, HB2.out⟩
/-- Of one. -/
theorem tilesOne_any (t : T) (c : C) (w : World) (hi : Is w c t) (hs : mayT t = true → sz t ≤ 20000) (n : Nat) (hn : n = w.heap.size) :
    Calls Tryz.prog 61 #[.slice (some ⟨n, 0, none⟩) 1 1] (w.alloc (cbox c)) fun e w' => e = .returned (.bool (tileB t)) ∧ Below w.heap.size w w' := by
  subst hn
  refine (tiles_any [t] _ _ (trow1 hi) (by simp) (fun u hu => by simp at hu; subst hu; exact hs)).mono ?_
  rintro e w' ⟨rfl, hb⟩
  exact ⟨by simp, below_one hb⟩
end Go.Proofs.YtbelpnfgdjnpoaaGreatDoor
/- The document's row of a tree's leaves. -/
namespace Go.Proofs.YtbelpnfgdjnpoaaGreatDoor
open Go.RowKit

def leafB (t : T) : Bool := t.k == 1
theorem filter_step {l : List T} {k : Nat} {t : T} (p : T → Bool) (h : l[k]? = some t) : (l.take (k + 1)).filter p = (l.take k).filter p ++ (if p t then [t] else []) := by
  rw [List.take_add_one, h, List.filter_append]
  cases hp : p t <;> simp [hp]

theorem CAt.grown {w w' : World} {b o : Nat} {c : C} {row : Option Nat} (h : CAt w b o c) (hb : w.grownBy w' row) (hne : some b ≠ row) : CAt w' b o c := by
  obtain ⟨h1, h2, h3, h4, h5, h6, h7⟩ := h
  exact ⟨hb.cell h1 hne, hb.cell h2 hne, hb.cell h3 hne, hb.cell h4 hne, hb.cell h5 hne, hb.cell h6 hne, hb.cell h7 hne⟩

/-- A row of one's own that is added to: it lies in one block, or in one that came later. -/
def OwnLater (w2 : World) (b : Nat) (v : Value) : Prop := v.ownBlock = some b ∨ ∃ g, v.ownBlock = some g ∧ w2.heap.size ≤ g
theorem later_gb {w2 wr w' : World} {b : Nat} {v : Value} (hb : b < w2.heap.size) (hl : OwnLater w2 b v) (h : w2.grownBy wr (some b)) (g : wr.grownBy w' v.ownBlock) : w2.grownBy w' (some b) := by
  rcases hl with hl | ⟨x, hl, hx⟩
  · rw [hl] at g; exact h.trans g
  · rw [hl] at g
    refine ⟨g.os.trans h.os, g.tape.trans h.tape, g.output.trans h.output, Nat.le_trans h.size g.size, fun k hk hne => ?_⟩
    exact (g.block k (Nat.lt_of_lt_of_le hk h.size) (fun e => by cases e; omega)).trans (h.block k hk hne)
theorem gb_alloc {w2 wr : World} {b : Nat} (h : w2.grownBy wr (some b)) (o : Obj) : w2.grownBy (wr.alloc o) (some b) := h.trans (Below.gb ((Below.refl _ _).alloc (Nat.le_refl _) _) _)

set_option maxRecDepth 100000 in
theorem rleaves_any (w0 : World) (t : T) (c : C) (w : World) (hm : sz t ≤ 1000000) (hi : Is w0 c t) (hb0 : Below w0.heap.size w0 w) : Calls Tryz.prog 44 #[cval c] w (RowSays ((preT t).filter leafB) w0 w) := by
  have B1 : Hid (Below w.heap.size w ((w.alloc (cbox c)).alloc (.cells #[] 27))) := ((Below.refl _ _).alloc (Nat.le_refl _) _).alloc (by simp) _
  have H := Lib.hid (rall_any w0 (sz t) t c ((w.alloc (cbox c)).alloc (.cells #[] 27)) (Nat.le_refl _) hm hi (hb0.trans (B1.out.mono hb0.size)))
  have HE : Hid (OwnC ((w.alloc (cbox c)).alloc (.cells #[] 27)) (w.heap.size + 1) (.slice (some ⟨w.heap.size + 1, 0, none⟩) 0 0) []) := by
    have := OwnC.empty (w.alloc (cbox c)) (w.heap.size + 1) (by simp)
    exact Lib.hid (by simpa using this)
  have HM := Lib.hid hm
  clear hi hb0 hm
  go_enter Tryz.func44, Tryz.ntmps44
  go_wp2_with fail
  refine H.out.mono ?_
  rintro e w2 ⟨vl, al, rfl, howl, htl, hb2⟩
  have hsz2 : w.heap.size + 2 ≤ w2.heap.size := by have := hb2.size; simpa using this
  have HT := Lib.hid htl
  have hal : al.length = sz t := by rw [htl.1, preT_len]
  have hp : 0 < al.length := by rw [hal]; exact sz_pos t
  obtain ⟨gl, capl, hvl, hgl, hgl2⟩ := howl.form hp
  have hgl' : w.heap.size + 2 ≤ gl := by simpa using hgl
  have HROW : Hid (∀ (j : Nat) (x : C), al[j]? = some x → CAt w2 gl (j * 7) x) := fun j x hx => by
    rw [hvl] at howl
    exact cat_of_flat (howl.cells (g := gl) rfl) j x hx
  subst hvl
  have HOE := Lib.hid (HE.out.up hb2)
  have HB2 := Lib.hid (B1.out.trans (hb2.mono B1.out.size))
  have hall : al.length ≤ 1000000 := by rw [hal]; exact HM.out
  clear hb2 howl htl hgl hal
  go_wp2
  go_loopg [3, 11] (al.length + 1) (fun g v i wr => ∃ (k : Nat) (cs : List C), g + k = al.length + 1 ∧ k ≤ al.length ∧ i = .int .i64 k ∧ OwnC wr (w.heap.size + 1) v cs ∧ Tops w0 cs (((preT t).take k).filter leafB) ∧ OwnLater w2 (w.heap.size + 1) v ∧ w2.grownBy wr (some (w.heap.size + 1)))
  case atStart => exact ⟨0, [], by omega, by omega, rfl, HOE.out, by simpa using Tops.nil w0, .inl rfl, World.grownBy.refl _ _⟩
  case round =>
    obtain ⟨k, cs, hg, hk, rfl, hown, htops, hlat, hgr⟩ := hrel
    have HG := Lib.hid hg
    have HO := Lib.hid hown
    have HTS := Lib.hid htops
    have HLT := Lib.hid hlat
    have HGR := Lib.hid hgr
    clear hg hown htops hlat hgr
    by_cases hlt : k < al.length
    · obtain ⟨x, u, hx, hu, hxu⟩ := HT.out.at hlt
      obtain ⟨c0, c1, c2, c3, c4, c5, c6⟩ := (HROW.out k x hx).grown HGR.out (by intro e; cases e; omega)
      have htk := hxu.split.1
      have HST := Lib.hid (filter_step leafB hu)
      have HXU := Lib.hid hxu
      clear hxu hx hu
      cases hk1 : (x.k == 1) with
      | true =>
        have hlf : Hid (leafB u = true) := Lib.hid (by rw [leafB, htk]; exact hk1)
        clear htk
        have hcl : cs.length + [x].length ≤ 1954687338211 := by
          have h1 := HTS.out.1
          have h2 := List.length_filter_le leafB ((preT t).take k)
          have h3 : ((preT t).take k).length ≤ k := List.length_take_le _ _
          simp; omega
        have HCL := Lib.hid hcl
        clear hcl
        go_wp2_with (at_builtin; refine wpList_append_cells rfl _ _ rfl (w.heap.size + 1) u3 _ cs [x] rfl (HO.out.up ((Below.refl _ _).alloc (Nat.le_refl _) (cbox x))) rfl (OwnC.one wr 0 (Nat.zero_le _) x).row (by simp) HCL.out wr ((Below.refl _ _).alloc (by have := HGR.out.size; omega) _) (by have := HGR.out.size; omega) ?_; intro g cap3 w3 hown3 hb3 hgr3 hpl3)
        have HO3 := Lib.hid hown3
        have HG3 := Lib.hid (later_gb (by omega) HLT.out (gb_alloc HGR.out (cbox x)) hgr3)
        have HL3 : Hid (OwnLater w2 (w.heap.size + 1) (.slice (some ⟨g, 0, none⟩) (cs ++ [x]).length cap3)) := by
          rcases hpl3 with h | h
          · rcases HLT.out with h2 | ⟨y, h2, h3⟩
            · rw [h2] at h; cases h; exact .inl rfl
            · rw [h2] at h; cases h; exact .inr ⟨_, rfl, h3⟩
          · refine .inr ⟨g, rfl, ?_⟩
            rw [h]; have := HGR.out.size; simp; omega
        clear hown3 hb3 hgr3 hpl3
        go_wp2
        go_roundg (gk - 1)
        case measure => have := HG.out; omega
        case rel =>
          refine ⟨k + 1, cs ++ [x], by have := HG.out; omega, by omega, by go_num, by simpa using HO3.out, ?_, by simpa using HL3.out, HG3.out⟩
          rw [HST.out, hlf.out, if_pos rfl]
          exact HTS.out.append (Tops.one HXU.out)
      | false =>
        have hlf : Hid (leafB u = false) := Lib.hid (by rw [leafB, htk]; exact hk1)
        clear htk
        go_wp2
        go_roundg (gk - 1)
        case measure => have := HG.out; omega
        case rel =>
          refine ⟨k + 1, cs, by have := HG.out; omega, by omega, by go_num, HO.out, ?_, HLT.out, HGR.out⟩
          rw [HST.out, hlf.out]
          simpa using HTS.out
    · obtain rfl : k = al.length := by omega
      have hkl : ((al.length : Int) < (al.length : Int)) = False := by simp
      go_wp2
      go_ret
      refine ⟨_, cs, rfl, HO.out.lower (by omega), ?_, ?_⟩
      · have := HTS.out
        rw [List.take_of_length_le (by rw [← HT.out.1]; omega)] at this
        exact this
      · exact HB2.out.trans ⟨HGR.out.os, HGR.out.tape, HGR.out.output, HGR.out.size, fun j hj => HGR.out.block j (by omega) (by intro e; cases e; omega)⟩
end Go.Proofs.YtbelpnfgdjnpoaaGreatDoor
