/- Texts of this seat, 3 in one file. -/
import Derived.Test.YtcdiogifgemjbaaGreatG09
import Derived.Test.YtcdiogifgemjbaaGreatG13
import Derived.Test.YtcdiogifgemjbaaGreatG04
import Derived.Test.YtcdiogifgemjbaaGreatG14
import Derived.Test.YtcdiogifgemjbaaGreatG05
/- Does a tree tile, and which of its cells doesn't? -/
namespace Go.Proofs.YtcdiogifgemjbaaGreat
open Go.RowKit

theorem idx_any {q : T → Bool} {l : List T} : l.findIdx q < l.length ↔ l.any q = true := by
  rw [List.findIdx_lt_length, List.any_eq_true]
theorem idx_all {q : T → Bool} {l : List T} (h : l.any q = false) : l.findIdx q = l.length := by
  have h1 := List.findIdx_le_length (xs := l) (p := q)
  rcases Nat.lt_or_ge (l.findIdx q) l.length with h2 | h2
  · rw [idx_any, h] at h2; cases h2
  · omega
def visit (q : T → Bool) (l : List T) : List T := l.take (l.findIdx q + 1)
theorem visit_any {q : T → Bool} {a b : List T} (h : a.any q = true) : visit q (a ++ b) = visit q a := by
  have h1 := idx_any.2 h
  unfold visit
  rw [List.findIdx_append, if_pos h1, List.take_append_of_le_length (by omega)]
theorem visit_none {q : T → Bool} {a : List T} (h : a.any q = false) : visit q a = a := by
  unfold visit
  rw [idx_all h]
  exact List.take_of_length_le (by omega)
theorem visit_on {q : T → Bool} {a b : List T} (h : a.any q = false) : visit q (a ++ b) = a ++ visit q b := by
  have h1 := idx_all h
  unfold visit
  rw [List.findIdx_append, if_neg (by omega), show List.findIdx q b + a.length + 1 = a.length + (List.findIdx q b + 1) by omega, List.take_length_add_append]
theorem idx_on {q : T → Bool} {a b : List T} (h : a.any q = false) : (a ++ b).findIdx q = a.length + b.findIdx q := by
  rw [List.findIdx_append, if_neg (by have := idx_all h; omega)]; omega
theorem idx_in {q : T → Bool} {a b : List T} (h : a.any q = true) : (a ++ b).findIdx q = a.findIdx q := by
  rw [List.findIdx_append, if_pos (idx_any.2 h)]

mutual
theorem firstT_pre {σ : Type} (q : T → Bool) (g : σ → T → σ) : ∀ (t : T) (s : σ), firstT (fun s t => (q t, g s t)) s t = (((preT t).findIdx q, (preT t).any q), (visit q (preT t)).foldl g s)
  | .node k r i l, s => by
    rw [firstT, preT_eq]
    show (if q (.node k r i l) = true then _ else _) = _
    by_cases h : q (.node k r i l) = true
    · rw [if_pos h]
      simp [visit, List.findIdx_cons, h]
    · rw [if_neg h, firstL_pre q g l _ 1]
      have h' : q (.node k r i l) = false := by simpa using h
      have hv : visit q (T.node k r i l :: preL l) = T.node k r i l :: visit q (preL l) := visit_on (a := [T.node k r i l]) (by simp [h'])
      show _ = (((T.node k r i l :: preL l).findIdx q, (T.node k r i l :: preL l).any q), (visit q (T.node k r i l :: preL l)).foldl g s)
      rw [hv, List.foldl_cons, List.any_cons, h', Bool.false_or, List.findIdx_cons, h']
      simp [Nat.add_comm]
theorem firstL_pre {σ : Type} (q : T → Bool) (g : σ → T → σ) : ∀ (l : List T) (s : σ) (n : Nat), firstL (fun s t => (q t, g s t)) s n l = ((n + (preL l).findIdx q, (preL l).any q), (visit q (preL l)).foldl g s)
  | [], s, n => by rw [firstL, preL]; simp [visit]
  | t :: l, s, n => by
    rw [firstL, preL, firstT_pre q g t s]
    cases h : (preT t).any q with
    | true => simp [visit_any h, idx_in h, h]
    | false =>
      simp only [Bool.false_eq_true, if_false]
      rw [firstL_pre q g l _ _, visit_on h, idx_on h, idx_all h, List.foldl_append, visit_none h, List.any_append, h, Nat.add_assoc]
      rfl
end

def FaultAt (w : World) (v : Value) (n k : Int) : Prop := ∃ b, v = .iface 86 (.pointer (some ⟨b, 0, none⟩)) ∧ w.cell? ⟨b, 0, none⟩ = some (.int .i64 n) ∧ w.cell? ⟨b, 1, none⟩ = some (.int .i64 k)
set_option maxRecDepth 100000 in
theorem newf_any (n k : Int) (w : World) (hn : ¬ n = 0) : Calls Tryz.prog 44 #[.int .i64 n, .int .i64 k] w fun e w' => ∃ v, e = .returned v ∧ FaultAt w' v n k ∧ Below w.heap.size w w' := by
  have d0 : (n == 0) = false := by simpa using hn
  go_enter Tryz.func44, Tryz.ntmps44
  go_wp2
  go_ret
  refine ⟨_, rfl, ⟨w.heap.size, rfl, ?_, ?_⟩, (Below.refl _ _).alloc (Nat.le_refl _) _⟩ <;> simp

/-- What Check says. -/
def CheckSays (t : T) (w : World) (e : Ending) (w' : World) : Prop := ∃ v, e = .returned v ∧ Below w.heap.size w w' ∧
  ((mayT t = false ∧ FaultAt w' v 1 0) ∨ (mayT t = true ∧ (preT t).all fitB = true ∧ v = .nilIface) ∨ (mayT t = true ∧ (preT t).all fitB = false ∧ FaultAt w' v 5 ((preT t).findIdx fun u => !fitB u : Nat)))

theorem enters61 : Enters 46 := enters_of Tryz.func46 (by kernel_rfl) rfl
theorem trow1 {w : World} {c : C} {t : T} (h : Is w c t) : TRow (w.alloc (cbox c)) (.slice (some ⟨w.heap.size, 0, none⟩) 1 1) [t] := by
  refine ⟨[c], .inr ⟨w.heap.size, 0, 1, rfl, fun j x hx => ?_⟩, rfl, fun j x u hx hu => ?_⟩
  · cases j with
    | zero => simp at hx; subst hx; simpa using cbox_new w c
    | succ j => simp at hx
  · cases j with
    | zero => simp at hx hu; subst hx; subst hu; exact h.up ((Below.refl _ _).alloc (Nat.le_refl _) _)
    | succ j => simp at hx
theorem kids_le {t : T} {n : Nat} (h : sz t ≤ n) : t.kids.length ≤ n := by
  have := szL_len t.kids
  have := sz_node t
  omega

set_option maxRecDepth 100000 in
theorem check1_any (t : T) (c : C) (w : World) (hi : Is w c t) (hl : t.kids.length ≤ 20000) : Calls Tryz.prog 46 #[cval c] w fun e w' => e = .returned (.bool (!fitB t)) ∧ Below w.heap.size w w' := by
  have HA : Hid (Below w.heap.size w (w.alloc (cbox c))) := (Below.refl _ _).alloc (Nat.le_refl _) _
  have HBW := Lib.hid (between_any t c (w.alloc (cbox c)) (hi.up HA.out) hl)
  clear hi
  go_enter Tryz.func46, Tryz.ntmps46
  go_wp2_with fail
  refine HBW.out.mono ?_
  rintro e w2 ⟨v2, rfl, -, hb2⟩
  have HB2 := Lib.hid (HA.out.trans (hb2.mono HA.out.size))
  clear hb2
  go_wp2
  go_ret
  exact ⟨rfl, HB2.out⟩

theorem checkF_any (t : T) (c : C) (w : World) (hi : Is w c t) (hs : sz t ≤ 20000) :
    Calls Tryz.prog 45 #[cval c, .func (.func 46) #[] #[]] w fun e w' => e = .returned (.tuple #[.int .i64 ((preT t).findIdx (fun u => !fitB u) : Nat), .bool ((preT t).any fun u => !fitB u)]) ∧ Below w.heap.size w w' := by
  have hM : MachF w (fun (_ : Unit) (_ : Option Obj) (_ : Nat) => False) (fun _ W => Below w.heap.size w W) := ⟨fun _ _ _ _ h => h.elim, fun _ _ h => h, fun _ _ _ h hb => h.trans (hb.mono h.size)⟩
  have H := first_any hM 46 enters61 #[] (fun s u => (!fitB u, s)) (fun _ => 20000) (fun _ _ => by omega) (fun u s c W hz hi hI => (check1_any u c W (hi.up hI) (kids_le hz)).mono fun e w' ⟨h1, h2⟩ => ⟨h1, hI.trans (h2.mono hI.size), Fr.of h2⟩) (sz t) t c () w (Nat.le_refl _) (by omega) hs hi (Below.refl _ _)
  refine H.mono fun e w' ⟨h1, h2, _⟩ => ⟨?_, h2⟩
  rw [h1, firstT_pre (fun u => !fitB u) (fun s _ => s) t ()]

theorem all_not_any (l : List T) : (l.any fun u => !fitB u) = !(l.all fitB) := by
  induction l with
  | nil => rfl
  | cons t l ih => rw [List.any_cons, List.all_cons, ih, Bool.not_and]

set_option maxRecDepth 100000 in
set_option maxHeartbeats 800000 in
theorem check_any (t : T) (c : C) (w : World) (hi : Is w c t) (hs0 : mayT t = true → sz t ≤ 20000) : Calls Tryz.prog 30 #[cval c] w (CheckSays t w) := by
  have HA : Hid (Below w.heap.size w (w.alloc (cbox c))) := (Below.refl _ _).alloc (Nat.le_refl _) _
  have HC := Lib.hid (cbox_new w c)
  have HMY := Lib.hid (mayAll_any (.slice (some ⟨w.heap.size + 1, 0, none⟩) 1 1) [t] ((w.alloc (cbox c)).alloc (cbox c)) (by have := trow1 (hi.up HA.out); simpa using this) (by simp))
  have HA2 : Hid (Below w.heap.size w ((w.alloc (cbox c)).alloc (cbox c))) := Lib.hid (HA.out.alloc (by simp) _)
  have HI := Lib.hid hi
  have HS0 := Lib.hid hs0
  have HC2 := Lib.hid (HC.out.up ((Below.refl _ _).alloc (Nat.le_refl _) (cbox c)))
  have hall : [t].all mayT = mayT t := by simp
  rw [hall] at HMY
  clear hi hs0 hall
  go_enter Tryz.func30, Tryz.ntmps30
  go_wp2_with fail
  refine HMY.out.mono ?_
  rintro e w2 ⟨rfl, hb2⟩
  have HB2 := Lib.hid (HA2.out.trans (hb2.mono HA2.out.size))
  have C2 := Lib.hid (HC2.out.up hb2)
  clear hb2
  cases hm : mayT t with
  | false =>
    have HM := Lib.hid hm
    clear hm
    go_wp2_with fail
    refine (newf_any 1 0 w2 (by decide)).mono ?_
    rintro e w3 ⟨v3, rfl, hf3, hb3⟩
    have HB3 := Lib.hid (HB2.out.trans (hb3.mono HB2.out.size))
    have HF3 := Lib.hid hf3
    clear hb3 hf3
    go_wp2
    go_ret
    exact ⟨v3, rfl, HB3.out, .inl ⟨HM.out, HF3.out⟩⟩
  | true =>
    have HM := Lib.hid hm
    have HS := Lib.hid (HS0.out hm)
    clear hm
    obtain ⟨c0, c1, c2, c3, c4, c5, c6⟩ := C2.out
    simp only [Nat.zero_add] at c1 c2 c3 c4 c5 c6
    have HF := Lib.hid (checkF_any t c w2 (HI.out.up HB2.out) HS.out)
    rw [all_not_any] at HF
    have HX : Hid (((preT t).findIdx (fun u => !fitB u) : Nat) ≤ 20000) := Lib.hid (by
      have := List.findIdx_le_length (xs := preT t) (p := fun u => !fitB u)
      rw [preT_len] at this
      have := HS.out
      omega)
    have HEQ : Hid (∃ n, (preT t).findIdx (fun u => !fitB u) = n) := Lib.hid ⟨_, rfl⟩
    obtain ⟨n, hn⟩ := HEQ.out
    rw [hn] at HF
    cases hfa : (preT t).all fitB with
    | true =>
      rw [hfa] at HF
      have HFA := Lib.hid hfa
      clear hfa hn
      go_wp2_with fail
      refine HF.out.mono ?_
      rintro e w3 ⟨rfl, hb3⟩
      have HB3 := Lib.hid (HB2.out.trans (hb3.mono HB2.out.size))
      clear hb3 c0 c1 c2 c3 c4 c5 c6
      go_wp2
      go_ret
      exact ⟨_, rfl, HB3.out, .inr (.inl ⟨HM.out, HFA.out, rfl⟩)⟩
    | false =>
      rw [hfa] at HF
      have HFA := Lib.hid hfa
      have HN := Lib.hid hn
      clear hfa hn
      go_wp2_with fail
      refine HF.out.mono ?_
      rintro e w3 ⟨rfl, hb3⟩
      have HB3 := Lib.hid (HB2.out.trans (hb3.mono HB2.out.size))
      clear hb3 c0 c1 c2 c3 c4 c5 c6
      go_wp2_with fail
      refine (newf_any 5 n w3 (by decide)).mono ?_
      rintro e w4 ⟨v4, rfl, hf4, hb4⟩
      have HB4 := Lib.hid (HB3.out.trans (hb4.mono HB3.out.size))
      have HF4 := Lib.hid hf4
      clear hb4 hf4
      go_wp2
      go_ret
      exact ⟨v4, rfl, HB4.out, .inr (.inr ⟨HM.out, HFA.out, by rw [HN.out]; exact HF4.out⟩)⟩
end Go.Proofs.YtcdiogifgemjbaaGreat
/- Do all these trees tile? -/
namespace Go.Proofs.YtcdiogifgemjbaaGreat
open Go.RowKit

noncomputable def tileB (t : T) : Bool := mayT t && (preT t).all fitB
theorem neq_some (u : TypeId) (x : Value) (w : World) : (binOp .neq 58 (.iface u x) .nilIface).run Tryz.prog w = .ok (.bool true) w := by kernel_rfl
theorem neq_none (w : World) : (binOp .neq 58 .nilIface .nilIface).run Tryz.prog w = .ok (.bool false) w := by kernel_rfl
theorem enters36 : Enters 29 := enters_of Tryz.func29 (by kernel_rfl) rfl

theorem check_nil {t : T} {w : World} {e : Ending} {w' : World} (h : CheckSays t w e w') : Below w.heap.size w w' ∧ ((tileB t = true ∧ e = .returned .nilIface) ∨ (tileB t = false ∧ ∃ u x, e = .returned (.iface u x))) := by
  obtain ⟨v, rfl, hb, ⟨h1, b, rfl, -⟩ | ⟨h1, h2, rfl⟩ | ⟨h1, h2, b, rfl, -⟩⟩ := h
  · exact ⟨hb, .inr ⟨by unfold tileB; rw [h1]; rfl, _, _, rfl⟩⟩
  · exact ⟨hb, .inl ⟨by unfold tileB; rw [h1, h2]; rfl, rfl⟩⟩
  · exact ⟨hb, .inr ⟨by unfold tileB; rw [h1, h2]; rfl, _, _, rfl⟩⟩

set_option maxRecDepth 100000 in
theorem tiles1_any (t : T) (c : C) (w : World) (hi : Is w c t) (hs : mayT t = true → sz t ≤ 20000) : Calls Tryz.prog 29 #[cval c] w fun e w' => e = .returned (.bool (!tileB t)) ∧ Below w.heap.size w w' := by
  have HA : Hid (Below w.heap.size w (w.alloc (cbox c))) := (Below.refl _ _).alloc (Nat.le_refl _) _
  have HCK := Lib.hid ((check_any t c (w.alloc (cbox c)) (hi.up HA.out) hs).mono fun e w' h => check_nil h)
  have nS := neq_some
  have nN := neq_none
  clear hi
  generalize tileB t = b at HCK ⊢
  go_enter Tryz.func29, Tryz.ntmps29
  go_wp2_with fail
  refine HCK.out.mono ?_
  rintro e w2 ⟨hb2, ⟨rfl, rfl⟩ | ⟨rfl, u, x, rfl⟩⟩
  · have HB2 := Lib.hid (HA.out.trans (hb2.mono HA.out.size))
    clear hb2
    go_wp2
    go_ret
    exact ⟨rfl, HB2.out⟩
  · have HB2 := Lib.hid (HA.out.trans (hb2.mono HA.out.size))
    clear hb2
    go_wp2
    go_ret
    exact ⟨rfl, HB2.out⟩

def IdxSays (l : List T) (w : World) (e : Ending) (w' : World) : Prop := ∃ n : Int, e = .returned (.int .i64 n) ∧ (l.all tileB = true → n = -1) ∧ (l.all tileB = false → 0 ≤ n) ∧ Below w.heap.size w w'
theorem all_no {l : List T} {k : Nat} {t : T} (h : l[k]? = some t) (ht : tileB t = false) : l.all tileB = false := by
  cases e : l.all tileB with
  | false => rfl
  | true => rw [List.all_eq_true.1 e t (List.mem_of_getElem? h)] at ht; cases ht
theorem all_yes {l : List T} (h : ∀ (k : Nat) (t : T), l[k]? = some t → tileB t = true) : l.all tileB = true := by
  rw [List.all_eq_true]
  intro t ht
  obtain ⟨k, hk⟩ := List.getElem?_of_mem ht
  exact h k t hk

set_option maxRecDepth 100000 in
set_option maxHeartbeats 800000 in
theorem idxT_any (l : List T) (v : Value) (w : World) (hr : TRow w v l) (hl : l.length ≤ 1954687338211) (hs : ∀ t ∈ l, mayT t = true → sz t ≤ 20000) :
    Calls Tryz.prog 42 #[v, .func (.func 29) #[] #[]] w (IdxSays l w) := by
  have hent : ∀ (args : Array Value) (w : World), (callFunc 29 args).run Tryz.prog w = .ok (.enter 29 args) w := enters36
  obtain ⟨a, cap, rfl⟩ := hr.shape
  have HR := Lib.hid hr
  have HS := Lib.hid hs
  clear hr hs
  go_enter Tryz.func42, Tryz.ntmps42
  go_wp2
  go_loopg [8] (l.length + 1) (fun g i wr => ∃ k : Nat, g + k = l.length + 1 ∧ k ≤ l.length ∧ i = .int .i64 k ∧ (∀ (j : Nat) (t : T), j < k → l[j]? = some t → tileB t = true) ∧ Below w.heap.size w wr)
  case atStart => exact ⟨0, by omega, by omega, rfl, fun j t hj => by omega, Below.refl _ _⟩
  case round =>
    obtain ⟨k, hg, hk, rfl, hsame, hb⟩ := hrel
    have HG := Lib.hid hg
    have HSM := Lib.hid hsame
    have HB := Lib.hid hb
    clear hg hsame hb
    by_cases hlt : k < l.length
    · obtain ⟨t, ht⟩ : ∃ t, l[k]? = some t := ⟨_, List.getElem?_eq_getElem hlt⟩
      obtain ⟨b1, o1, rfl, hf1⟩ := HR.out.place (by omega)
      obtain ⟨x, hx, hix⟩ := hf1 k t ht
      clear hf1
      obtain ⟨c0, c1, c2, c3, c4, c5, c6⟩ := hx.up HB.out
      have HC := Lib.hid (tiles1_any t x wr (hix.up HB.out) (HS.out t (List.mem_of_getElem? ht)))
      have HT := Lib.hid ht
      clear ht hx hix
      cases hst : tileB t with
      | true =>
        rw [hst] at HC
        have HST := Lib.hid hst
        clear hst
        go_wp2_with fail
        refine HC.out.mono ?_
        rintro e w2 ⟨rfl, hb2⟩
        have HB2 := Lib.hid (HB.out.trans (hb2.mono HB.out.size))
        clear hb2
        go_wp2
        go_roundg (gk - 1)
        case measure => have := HG.out; omega
        case rel =>
          refine ⟨k + 1, by have := HG.out; omega, by omega, by go_num, fun j a hj ha => ?_, HB2.out⟩
          rcases Nat.lt_or_ge j k with h | h
          · exact HSM.out j a h ha
          · obtain rfl : j = k := by omega
            rw [HT.out] at ha
            cases ha
            exact HST.out
      | false =>
        rw [hst] at HC
        have HST := Lib.hid (all_no HT.out hst)
        clear hst
        go_wp2_with fail
        refine HC.out.mono ?_
        rintro e w2 ⟨rfl, hb2⟩
        have HB2 := Lib.hid (HB.out.trans (hb2.mono HB.out.size))
        clear hb2
        go_wp2
        go_ret
        exact ⟨k, rfl, (fun h => by rw [HST.out] at h; cases h), fun _ => by omega, HB2.out⟩
    · obtain rfl : k = l.length := by omega
      have hkl : ((l.length : Int) < (l.length : Int)) = False := by simp
      have HST := Lib.hid (all_yes (fun k t ht => HSM.out k t (by
        rcases Nat.lt_or_ge k l.length with h | h
        · exact h
        · rw [List.getElem?_eq_none h] at ht; cases ht) ht))
      go_wp2
      go_ret
      exact ⟨-1, rfl, fun _ => rfl, (fun h => by rw [HST.out] at h; cases h), HB.out⟩

set_option maxRecDepth 100000 in
theorem hasT_any (l : List T) (v : Value) (w : World) (hr : TRow w v l) (hl : l.length ≤ 1954687338211) (hs : ∀ t ∈ l, mayT t = true → sz t ≤ 20000) :
    Calls Tryz.prog 28 #[v, .func (.func 29) #[] #[]] w fun e w' => e = .returned (.bool (!(l.all tileB))) ∧ Below w.heap.size w w' := by
  have H2 : Hid (Calls Tryz.prog 42 #[v, .func (.func 29) #[] #[]] w fun e w' => ∃ n : Int, e = .returned (.int .i64 n) ∧ decide (0 ≤ n) = (!(l.all tileB)) ∧ Below w.heap.size w w') := Lib.hid ((idxT_any l v w hr hl hs).mono fun e w' ⟨n, h1, h2, h3, h4⟩ => ⟨n, h1, by
    cases hb : l.all tileB with
    | true => rw [h2 hb]; rfl
    | false => exact decide_eq_true (h3 hb), h4⟩)
  obtain ⟨a, cap, rfl⟩ := hr.shape
  clear hr hs
  generalize (!(l.all tileB)) = b at H2 ⊢
  go_enter Tryz.func28, Tryz.ntmps28
  go_wp2_with fail
  refine H2.out.mono ?_
  rintro e w2 ⟨n, rfl, hd, hb2⟩
  have HB2 := Lib.hid hb2
  clear hb2
  subst hd
  go_wp2
  go_ret
  exact ⟨rfl, HB2.out⟩

set_option maxRecDepth 100000 in
theorem tiles_any (l : List T) (v : Value) (w : World) (hr : TRow w v l) (hl : l.length ≤ 1954687338211) (hs : ∀ t ∈ l, mayT t = true → sz t ≤ 20000) :
    Calls Tryz.prog 15 #[v] w fun e w' => e = .returned (.bool (l.all tileB)) ∧ Below w.heap.size w w' := by
  have H := Lib.hid (hasT_any l v w hr hl hs)
  obtain ⟨a, cap, rfl⟩ := hr.shape
  clear hr hs
  generalize l.all tileB = b at H ⊢
  go_enter Tryz.func15, Tryz.ntmps15
  go_wp2_with fail
  refine H.out.mono ?_
  rintro e w2 ⟨rfl, hb2⟩
  have HB2 := Lib.hid hb2
  clear hb2
  go_wp2
  go_ret
  exact ⟨by simp, HB2.out⟩
/-- Of one. -/
theorem tilesOne_any (t : T) (c : C) (w : World) (hi : Is w c t) (hs : mayT t = true → sz t ≤ 20000) (n : Nat) (hn : n = w.heap.size) :
    Calls Tryz.prog 15 #[.slice (some ⟨n, 0, none⟩) 1 1] (w.alloc (cbox c)) fun e w' => e = .returned (.bool (tileB t)) ∧ Below w.heap.size w w' := by
  subst hn
  refine (tiles_any [t] _ _ (trow1 hi) (by simp) (fun u hu => by simp at hu; subst hu; exact hs)).mono ?_
  rintro e w' ⟨rfl, hb⟩
  exact ⟨by simp, below_one hb⟩
end Go.Proofs.YtcdiogifgemjbaaGreat
/- May a tree be? The document's walk. -/
namespace Go.Proofs.YtcdiogifgemjbaaGreat
open Go.RowKit

theorem well_no {k : Int} {r : R} {id : Int} {n : Nat} (h : ¬ (mayB r = true ∧ ((k = 1 ∧ (0 ≤ id ∧ id ≤ 2147483647) ∧ n = 0) ∨ ((k = 2 ∨ k = 3) ∧ id = 0 ∧ 2 ≤ n)))) : wellB k r id n = false := by
  cases e : wellB k r id n with
  | false => rfl
  | true =>
    refine absurd ?_ h
    simpa [wellB] using e
theorem well_yes {k : Int} {r : R} {id : Int} {n : Nat} (h : mayB r = true ∧ ((k = 1 ∧ (0 ≤ id ∧ id ≤ 2147483647) ∧ n = 0) ∨ ((k = 2 ∨ k = 3) ∧ id = 0 ∧ 2 ≤ n))) : wellB k r id n = true := by
  simpa [wellB] using h

/-- No number twice among the first ones. -/
def apartI (ms : List Int) (i : Nat) : Prop := ∀ (a b : Nat) (x y : Int), a < b → b < i → ms[a]? = some x → ms[b]? = some y → y ≠ x
theorem apart_nodup (ms : List Int) : apartI ms ms.length ↔ ms.Nodup := by
  unfold List.Nodup
  rw [List.pairwise_iff_getElem]
  constructor
  · intro h i j hi hj hij e
    exact h i j _ _ hij hj (List.getElem?_eq_getElem hi) (List.getElem?_eq_getElem hj) e.symm
  · intro h a b x y hab hb hx hy e
    obtain ⟨ha', rfl⟩ := List.getElem?_eq_some_iff.1 hx
    obtain ⟨hb', rfl⟩ := List.getElem?_eq_some_iff.1 hy
    exact h a b ha' hb' hab e.symm

def rmayT (t : T) : Bool := (preT t).all wellT && decide ((((preT t).filter leafB).map T.id).Nodup)
theorem rmay_no1 {t u : T} {k : Nat} (h : (preT t)[k]? = some u) (hw : wellT u = false) : rmayT t = false := by
  have : (preT t).all wellT = false := by
    cases e : (preT t).all wellT with
    | false => rfl
    | true => rw [List.all_eq_true.1 e u (List.mem_of_getElem? h)] at hw; cases hw
  rw [rmayT, this]; rfl

set_option maxRecDepth 100000 in
set_option maxHeartbeats 4000000 in
theorem rmayOne_any (t : T) (c : C) (w : World) (hm : sz t ≤ 20000) (hi : Is w c t) : Calls Tryz.prog 56 #[cval c] w fun e w' => e = .returned (.bool (rmayT t)) ∧ Below w.heap.size w w' := by
  have B1 : Hid (Below w.heap.size w (w.alloc (cbox c))) := (Below.refl _ _).alloc (Nat.le_refl _) _
  have H := Lib.hid (rall_any w (sz t) t c (w.alloc (cbox c)) (Nat.le_refl _) (by omega) hi B1.out)
  have HI := Lib.hid hi
  have HM := Lib.hid hm
  clear hi hm
  go_enter Tryz.func56, Tryz.ntmps56
  go_wp2_with fail
  refine H.out.mono ?_
  rintro e w2 ⟨vl, al, rfl, howl, htl, hb2⟩
  have HT := Lib.hid htl
  have hall : al.length ≤ 20000 := by rw [htl.1, preT_len]; exact HM.out
  have HROW := Lib.hid howl.row
  obtain ⟨aa, capl, rfl⟩ := howl.row.shape
  have HBX := Lib.hid hb2
  have HB2 := Lib.hid (below_one hb2)
  clear hb2 howl htl
  have d20 : decide (20000 < (al.length : Int)) = false := decide_eq_false (by omega)
  have d20' : decide (20000 < al.length) = false := decide_eq_false (by omega)
  go_wp2
  go_loopg [15] (al.length + 1) (fun g i wr => ∃ (k : Nat), g + k = al.length + 1 ∧ k ≤ al.length ∧ i = .int .i64 k ∧ (∀ (j : Nat) (u : T), j < k → (preT t)[j]? = some u → wellT u = true) ∧ Below w2.heap.size w2 wr)
  case atStart => exact ⟨0, by omega, by omega, rfl, fun j u hj => by omega, Below.refl _ _⟩
  case round =>
    obtain ⟨k, hg, hk, rfl, hwell, hb⟩ := hrel
    have HG := Lib.hid hg
    have HW := Lib.hid hwell
    have HB := Lib.hid hb
    clear hg hwell hb
    by_cases hlt : k < al.length
    · obtain ⟨x, u, hx, hu, hxu⟩ := HT.out.at hlt
      obtain ⟨b, o, rfl, hf⟩ := HROW.out.place (by omega)
      have HX := Lib.hid (hf k x hx)
      clear hf
      have HU := Lib.hid hu
      have hfine := hxu.fine
      have hwe := well_is hxu
      obtain ⟨xk, xr, xid, xa, xn, xcap⟩ := x
      have hk0 := hfine.1
      have hn0 := hfine.2.2.2
      simp only at hk0 hn0
      have HMY := Lib.hid (rmay_any xr wr hfine.2.1)
      have HWE : Hid (wellB xk xr xid xn = wellT u) := hwe
      clear hxu hx hu hfine hwe
      have HBW := Lib.hid (HB2.out.trans (HB.out.mono HB2.out.size))
      obtain ⟨c0, c1, c2, c3, c4, c5, c6⟩ := HX.out.up HB.out
      cases hmy : mayB xr with
      | false =>
        rw [hmy] at HMY
        have HNO := Lib.hid (rmay_no1 HU.out (HWE.out.symm.trans (well_no (by rw [hmy]; simp))))
        clear hmy
        go_wp2_with fail
        refine HMY.out.mono ?_
        rintro e w3 ⟨rfl, hb3⟩
        have HB3 := Lib.hid (HBW.out.trans (hb3.mono HBW.out.size))
        clear hb3
        go_wp2
        go_ret
        exact ⟨by rw [HNO.out]; rfl, HB3.out⟩
      | true =>
        rw [hmy] at HMY
        by_cases h1 : xk < 1
        · have d1 : decide (xk < 1) = true := decide_eq_true h1
          have HNO := Lib.hid (rmay_no1 HU.out (HWE.out.symm.trans (well_no (by omega))))
          clear hmy
          go_wp2_with fail
          refine HMY.out.mono ?_
          rintro e w3 ⟨rfl, hb3⟩
          have HB3 := Lib.hid (HBW.out.trans (hb3.mono HBW.out.size))
          obtain ⟨e0, e1, e2, e3, e4, e5, e6⟩ := (HX.out.up HB.out).up hb3
          clear hb3 c0 c1 c2 c3 c4 c5 c6
          go_wp2
          go_ret
          exact ⟨by rw [HNO.out]; rfl, HB3.out⟩
        have d1 : decide (xk < 1) = false := decide_eq_false h1
        by_cases h3 : 3 < xk
        · have d3 : decide (3 < xk) = true := decide_eq_true h3
          have HNO := Lib.hid (rmay_no1 HU.out (HWE.out.symm.trans (well_no (by omega))))
          clear hmy
          go_wp2_with fail
          refine HMY.out.mono ?_
          rintro e w3 ⟨rfl, hb3⟩
          have HB3 := Lib.hid (HBW.out.trans (hb3.mono HBW.out.size))
          obtain ⟨e0, e1, e2, e3, e4, e5, e6⟩ := (HX.out.up HB.out).up hb3
          clear hb3 c0 c1 c2 c3 c4 c5 c6
          go_wp2
          go_ret
          exact ⟨by rw [HNO.out]; rfl, HB3.out⟩
        have d3 : decide (3 < xk) = false := decide_eq_false h3
        by_cases hk1 : xk = 1
        · have f1 : (xk == 1) = true := by rw [beq_iff_eq]; exact hk1
          have f2 : decide (1 < xk) = false := decide_eq_false (by omega)
          by_cases hn : 0 < xn
          · have g1 : decide (0 < (xn : Int)) = true := decide_eq_true (by omega)
            have g2 : decide (0 < xn) = true := decide_eq_true hn
            have HNO := Lib.hid (rmay_no1 HU.out (HWE.out.symm.trans (well_no (by omega))))
            clear hmy
            go_wp2_with fail
            refine HMY.out.mono ?_
            rintro e w3 ⟨rfl, hb3⟩
            have HB3 := Lib.hid (HBW.out.trans (hb3.mono HBW.out.size))
            obtain ⟨e0, e1, e2, e3, e4, e5, e6⟩ := (HX.out.up HB.out).up hb3
            clear hb3 c0 c1 c2 c3 c4 c5 c6
            go_wp2
            go_ret
            exact ⟨by rw [HNO.out]; rfl, HB3.out⟩
          have g1 : decide (0 < (xn : Int)) = false := decide_eq_false (by omega)
          have g2 : decide (0 < xn) = false := decide_eq_false hn
          by_cases hi0 : xid < 0
          · have i1 : decide (xid < 0) = true := decide_eq_true hi0
            have HNO := Lib.hid (rmay_no1 HU.out (HWE.out.symm.trans (well_no (by omega))))
            clear hmy
            go_wp2_with fail
            refine HMY.out.mono ?_
            rintro e w3 ⟨rfl, hb3⟩
            have HB3 := Lib.hid (HBW.out.trans (hb3.mono HBW.out.size))
            obtain ⟨e0, e1, e2, e3, e4, e5, e6⟩ := (HX.out.up HB.out).up hb3
            clear hb3 c0 c1 c2 c3 c4 c5 c6
            go_wp2
            go_ret
            exact ⟨by rw [HNO.out]; rfl, HB3.out⟩
          have i1 : decide (xid < 0) = false := decide_eq_false hi0
          by_cases him : 2147483647 < xid
          · have i2 : decide (2147483647 < xid) = true := decide_eq_true him
            have HNO := Lib.hid (rmay_no1 HU.out (HWE.out.symm.trans (well_no (by omega))))
            clear hmy
            go_wp2_with fail
            refine HMY.out.mono ?_
            rintro e w3 ⟨rfl, hb3⟩
            have HB3 := Lib.hid (HBW.out.trans (hb3.mono HBW.out.size))
            obtain ⟨e0, e1, e2, e3, e4, e5, e6⟩ := (HX.out.up HB.out).up hb3
            clear hb3 c0 c1 c2 c3 c4 c5 c6
            go_wp2
            go_ret
            exact ⟨by rw [HNO.out]; rfl, HB3.out⟩
          have i2 : decide (2147483647 < xid) = false := decide_eq_false him
          have HYES := Lib.hid (HWE.out.symm.trans (well_yes ⟨hmy, by omega⟩))
          clear hmy
          go_wp2_with fail
          refine HMY.out.mono ?_
          rintro e w3 ⟨rfl, hb3⟩
          have HB3 := Lib.hid (HB.out.trans (hb3.mono HB.out.size))
          obtain ⟨e0, e1, e2, e3, e4, e5, e6⟩ := (HX.out.up HB.out).up hb3
          clear hb3 c0 c1 c2 c3 c4 c5 c6
          go_wp2
          go_roundg (gk - 1)
          case measure => have := HG.out; omega
          case rel =>
            refine ⟨k + 1, by have := HG.out; omega, by omega, by go_num, fun j y hj hy => ?_, HB3.out⟩
            rcases Nat.lt_or_ge j k with h | h
            · exact HW.out j y h hy
            · obtain rfl : j = k := by omega
              rw [HU.out] at hy; cases hy
              exact HYES.out
        · have f1 : (xk == 1) = false := by rw [beq_eq_false_iff_ne]; exact hk1
          have f2 : decide (1 < xk) = true := decide_eq_true (by omega)
          by_cases hn : xn < 2
          · have g1 : decide ((xn : Int) < 2) = true := decide_eq_true (by omega)
            have g2 : decide (xn < 2) = true := decide_eq_true hn
            have HNO := Lib.hid (rmay_no1 HU.out (HWE.out.symm.trans (well_no (by omega))))
            clear hmy
            go_wp2_with fail
            refine HMY.out.mono ?_
            rintro e w3 ⟨rfl, hb3⟩
            have HB3 := Lib.hid (HBW.out.trans (hb3.mono HBW.out.size))
            obtain ⟨e0, e1, e2, e3, e4, e5, e6⟩ := (HX.out.up HB.out).up hb3
            clear hb3 c0 c1 c2 c3 c4 c5 c6
            go_wp2
            go_ret
            exact ⟨by rw [HNO.out]; rfl, HB3.out⟩
          have g1 : decide ((xn : Int) < 2) = false := decide_eq_false (by omega)
          have g2 : decide (xn < 2) = false := decide_eq_false hn
          by_cases hi0 : xid = 0
          · have i1 : (xid != 0) = false := by rw [hi0]; rfl
            have i2 : (xid == 0) = true := by rw [hi0]; rfl
            have HYES := Lib.hid (HWE.out.symm.trans (well_yes ⟨hmy, by omega⟩))
            clear hmy
            go_wp2_with fail
            refine HMY.out.mono ?_
            rintro e w3 ⟨rfl, hb3⟩
            have HB3 := Lib.hid (HB.out.trans (hb3.mono HB.out.size))
            obtain ⟨e0, e1, e2, e3, e4, e5, e6⟩ := (HX.out.up HB.out).up hb3
            clear hb3 c0 c1 c2 c3 c4 c5 c6
            go_wp2
            go_roundg (gk - 1)
            case measure => have := HG.out; omega
            case rel =>
              refine ⟨k + 1, by have := HG.out; omega, by omega, by go_num, fun j y hj hy => ?_, HB3.out⟩
              rcases Nat.lt_or_ge j k with h | h
              · exact HW.out j y h hy
              · obtain rfl : j = k := by omega
                rw [HU.out] at hy; cases hy
                exact HYES.out
          have i1 : (xid != 0) = true := by simpa using hi0
          have i2 : (xid == 0) = false := by simpa using hi0
          have HNO := Lib.hid (rmay_no1 HU.out (HWE.out.symm.trans (well_no (by omega))))
          clear hmy
          go_wp2_with fail
          refine HMY.out.mono ?_
          rintro e w3 ⟨rfl, hb3⟩
          have HB3 := Lib.hid (HBW.out.trans (hb3.mono HBW.out.size))
          obtain ⟨e0, e1, e2, e3, e4, e5, e6⟩ := (HX.out.up HB.out).up hb3
          clear hb3 c0 c1 c2 c3 c4 c5 c6
          go_wp2
          go_ret
          exact ⟨by rw [HNO.out]; rfl, HB3.out⟩
    · obtain rfl : k = al.length := by omega
      have hkl : ((al.length : Int) < (al.length : Int)) = False := by simp
      have HWL : Hid ((preT t).all wellT = true) := Lib.hid (by
        rw [List.all_eq_true]
        intro u hu
        obtain ⟨j, hj, rfl⟩ := List.getElem_of_mem hu
        exact HW.out j _ (by rw [HT.out.1]; exact hj) (List.getElem?_eq_getElem hj))
      have HBW := Lib.hid (HB2.out.trans (HB.out.mono HB2.out.size))
      obtain ⟨q0, q1, q2, q3, q4, q5, q6⟩ := box_at (HBX.out.trans (HB.out.mono HBX.out.size))
      have HK := Lib.hid (rleaves_any w t c wr (by have := HM.out; omega) HI.out HBW.out)
      have hres : rmayT t = decide ((((preT t).filter leafB).map T.id).Nodup) := by rw [rmayT, HWL.out]; rfl
      have HRES := Lib.hid hres
      have HLL := Lib.hid (show ((preT t).filter leafB).length ≤ 20000 by have := List.length_filter_le leafB (preT t); rw [preT_len] at this; have := HM.out; omega)
      clear hres
      generalize (preT t).filter leafB = ls at HK HRES HLL
      go_wp2_with fail
      refine HK.out.mono ?_
      rintro e w3 ⟨v3, lv, rfl, how3, ht3, hb3⟩
      have HT3 := Lib.hid ht3
      have HROW3 := Lib.hid how3.row
      obtain ⟨a3, cap3, rfl⟩ := how3.row.shape
      have HB3 := Lib.hid (HBW.out.trans (hb3.mono HBW.out.size))
      have hl3 : lv.length ≤ 20000 := by rw [ht3.1]; exact HLL.out
      have HIDS : Hid (∀ (j : Nat) (x : C), lv[j]? = some x → (ls.map T.id)[j]? = some x.id) := fun j x hx => by
        have hj : j < ls.length := by
          rw [← ht3.1]; exact (List.getElem?_eq_some_iff.1 hx).1
        have h1 := List.getElem?_eq_getElem hj
        have h2 := (ht3.2 j x _ hx h1).split.2.2.1
        rw [List.getElem?_map, h1, Option.map_some, h2]
      clear how3 ht3 hb3 q0 q1 q2 q3 q4 q5 q6
      go_wp2
      go_loopg [102] (lv.length + 1) (fun g i wr => ∃ (k : Nat), g + k = lv.length + 1 ∧ k ≤ lv.length ∧ i = .int .i64 k ∧ apartI (ls.map T.id) k ∧ Below w3.heap.size w3 wr)
      case atStart => exact ⟨0, by omega, by omega, rfl, fun a b x y hab hb => by omega, Below.refl _ _⟩
      case round =>
        obtain ⟨i, hg, hi', rfl, hap, hb⟩ := hrel
        have HG2 := Lib.hid hg
        have HAP := Lib.hid hap
        have HB4 := Lib.hid hb
        clear hg hap hb
        by_cases hlt2 : i < lv.length
        · have hlti : (i : Int) < (lv.length : Int) := by omega
          obtain ⟨b, o, rfl, hf⟩ := HROW3.out.place (by omega)
          obtain ⟨x, hx⟩ : ∃ x, lv[i]? = some x := ⟨_, List.getElem?_eq_getElem hlt2⟩
          have HF := Lib.hid hf
          have HX := Lib.hid hx
          clear hf hx
          obtain ⟨gko, hgko⟩ : ∃ n, n = gk := ⟨_, rfl⟩
          have HGK := Lib.hid hgko
          clear hgko
          go_wp2
          go_loopg [7] (i + 1) (fun g q wr => ∃ (k : Nat), g + k = i + 1 ∧ k ≤ i ∧ q = .int .i64 k ∧ (∀ (a : Nat) (y : C), a < k → lv[a]? = some y → x.id ≠ y.id) ∧ Below w3.heap.size w3 wr)
          case atStart => exact ⟨0, by omega, by omega, rfl, fun a y ha => by omega, HB4.out⟩
          case round =>
            obtain ⟨q, hg, hq, rfl, hno, hb⟩ := hrel
            have HG3 := Lib.hid hg
            have HNO := Lib.hid hno
            have HB5 := Lib.hid hb
            clear hg hno hb
            by_cases hlt3 : q < i
            · have hqi : (q : Int) < (i : Int) := by omega
              have hqi' : decide (q < i) = true := decide_eq_true hlt3
              obtain ⟨y, hy⟩ : ∃ y, lv[q]? = some y := ⟨_, List.getElem?_eq_getElem (by omega)⟩
              have c5 := ((HF.out i x HX.out).up HB5.out).2.2.2.2.2.1
              have e5 := ((HF.out q y hy).up HB5.out).2.2.2.2.2.1
              have hql : (q : Int) < (lv.length : Int) := by omega
              have HY := Lib.hid hy
              clear hy
              by_cases hxy : x.id = y.id
              · have d1 : (x.id == y.id) = true := by simpa using hxy
                have HV : Hid (rmayT t = false) := Lib.hid (by
                  rw [HRES.out, decide_eq_false]
                  intro hnd
                  have := (apart_nodup (ls.map T.id)).2 hnd
                  exact this q i _ _ hlt3 (by rw [List.length_map, ← HT3.out.1]; exact hlt2) (HIDS.out q y HY.out) (HIDS.out i x HX.out) hxy)
                go_wp2
                go_quiet (fail)
                go_wp2
                go_ret
                exact ⟨by rw [HV.out]; rfl, HB3.out.trans (Below.mono ⟨HB5.out.os, HB5.out.tape, HB5.out.output, HB5.out.size, HB5.out.block⟩ HB3.out.size)⟩
              · have d1 : (x.id == y.id) = false := by simpa using hxy
                go_wp2
                go_quiet (fail)
                go_wp2
                go_roundg (gk - 1)
                case measure => have := HG3.out; omega
                case rel =>
                  refine ⟨q + 1, by have := HG3.out; omega, by omega, by go_num, fun a z ha hz => ?_, ⟨HB5.out.os, HB5.out.tape, HB5.out.output, HB5.out.size, HB5.out.block⟩⟩
                  rcases Nat.lt_or_ge a q with h | h
                  · exact HNO.out a z h hz
                  · obtain rfl : a = q := by omega
                    rw [HY.out] at hz; cases hz
                    exact hxy
            · obtain rfl : q = i := by omega
              have hkl2 : ((q : Int) < (q : Int)) = False := by simp
              go_wp2
              go_roundg (gko - 1)
              case measure => have := HG2.out; have := HGK.out; omega
              case rel =>
                refine ⟨q + 1, by have := HG2.out; have := HGK.out; omega, by omega, by go_num, fun a b' z z' hab hb' hz hz' => ?_, HB5.out⟩
                rcases Nat.lt_or_ge b' q with h | h
                · exact HAP.out a b' z z' hab h hz hz'
                · obtain rfl : b' = q := by omega
                  rw [HIDS.out b' x HX.out] at hz'; cases hz'
                  obtain ⟨y, hy⟩ : ∃ y, lv[a]? = some y := ⟨_, List.getElem?_eq_getElem (by omega)⟩
                  rw [HIDS.out a y hy] at hz; cases hz
                  exact HNO.out a y hab hy
        · obtain rfl : i = lv.length := by omega
          have hkl2 : ((lv.length : Int) < (lv.length : Int)) = False := by simp
          have HV : Hid (rmayT t = true) := Lib.hid (by
            rw [HRES.out, decide_eq_true]
            refine (apart_nodup (ls.map T.id)).1 ?_
            rw [List.length_map, ← HT3.out.1]; exact HAP.out)
          go_wp2
          go_ret
          exact ⟨by rw [HV.out]; rfl, HB3.out.trans (HB4.out.mono HB3.out.size)⟩
end Go.Proofs.YtcdiogifgemjbaaGreat
