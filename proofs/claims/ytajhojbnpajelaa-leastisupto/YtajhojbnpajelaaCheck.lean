/- Does a tree tile, and which of its cells doesn't? -/
import Derived.Test.YtajhojbnpajelaaFirst
import Derived.Test.YtajhojbnpajelaaBetween
import Derived.Test.YtajhojbnpajelaaRAll
import Derived.Test.YtajhojbnpajelaaMay
namespace Go.Proofs.Ytajhojbnpajelaa
open Go.RowKit

theorem idx_any {q : T → Bool} {l : List T} : l.findIdx q < l.length ↔ l.any q = true := by
  rw [List.findIdx_lt_length, List.any_eq_true]
theorem idx_all {q : T → Bool} {l : List T} (h : l.any q = false) : l.findIdx q = l.length := by
  have h1 := List.findIdx_le_length (xs := l) (p := q)
  rcases Nat.lt_or_ge (l.findIdx q) l.length with h2 | h2
  · rw [idx_any, h] at h2; cases h2
  · omega
def visit (q : T → Bool) (l : List T) : List T := l.take (l.findIdx q + 1)
theorem visit_any {q : T → Bool} {a b : List T} (h : a.any q = true) : visit q (a ++ b) = visit q a := by
  have h1 := idx_any.2 h
  unfold visit
  rw [List.findIdx_append, if_pos h1, List.take_append_of_le_length (by omega)]
theorem visit_none {q : T → Bool} {a : List T} (h : a.any q = false) : visit q a = a := by
  unfold visit
  rw [idx_all h]
  exact List.take_of_length_le (by omega)
theorem visit_on {q : T → Bool} {a b : List T} (h : a.any q = false) : visit q (a ++ b) = a ++ visit q b := by
  have h1 := idx_all h
  unfold visit
  rw [List.findIdx_append, if_neg (by omega), show List.findIdx q b + a.length + 1 = a.length + (List.findIdx q b + 1) by omega, List.take_length_add_append]
theorem idx_on {q : T → Bool} {a b : List T} (h : a.any q = false) : (a ++ b).findIdx q = a.length + b.findIdx q := by
  rw [List.findIdx_append, if_neg (by have := idx_all h; omega)]; omega
theorem idx_in {q : T → Bool} {a b : List T} (h : a.any q = true) : (a ++ b).findIdx q = a.findIdx q := by
  rw [List.findIdx_append, if_pos (idx_any.2 h)]

mutual
theorem firstT_pre {σ : Type} (q : T → Bool) (g : σ → T → σ) : ∀ (t : T) (s : σ), firstT (fun s t => (q t, g s t)) s t = (((preT t).findIdx q, (preT t).any q), (visit q (preT t)).foldl g s)
  | .node k r i l, s => by
    rw [firstT, preT_eq]
    show (if q (.node k r i l) = true then _ else _) = _
    by_cases h : q (.node k r i l) = true
    · rw [if_pos h]
      simp [visit, List.findIdx_cons, h]
    · rw [if_neg h, firstL_pre q g l _ 1]
      have h' : q (.node k r i l) = false := by simpa using h
      have hv : visit q (T.node k r i l :: preL l) = T.node k r i l :: visit q (preL l) := visit_on (a := [T.node k r i l]) (by simp [h'])
      show _ = (((T.node k r i l :: preL l).findIdx q, (T.node k r i l :: preL l).any q), (visit q (T.node k r i l :: preL l)).foldl g s)
      rw [hv, List.foldl_cons, List.any_cons, h', Bool.false_or, List.findIdx_cons, h']
      simp [Nat.add_comm]
theorem firstL_pre {σ : Type} (q : T → Bool) (g : σ → T → σ) : ∀ (l : List T) (s : σ) (n : Nat), firstL (fun s t => (q t, g s t)) s n l = ((n + (preL l).findIdx q, (preL l).any q), (visit q (preL l)).foldl g s)
  | [], s, n => by rw [firstL, preL]; simp [visit]
  | t :: l, s, n => by
    rw [firstL, preL, firstT_pre q g t s]
    cases h : (preT t).any q with
    | true => simp [visit_any h, idx_in h, h]
    | false =>
      simp only [Bool.false_eq_true, if_false]
      rw [firstL_pre q g l _ _, visit_on h, idx_on h, idx_all h, List.foldl_append, visit_none h, List.any_append, h, Nat.add_assoc]
      rfl
end

def FaultAt (w : World) (v : Value) (n k : Int) : Prop := ∃ b, v = .iface 65 (.pointer (some ⟨b, 0, none⟩)) ∧ w.cell? ⟨b, 0, none⟩ = some (.int .i64 n) ∧ w.cell? ⟨b, 1, none⟩ = some (.int .i64 k)
set_option maxRecDepth 100000 in
theorem newf_any (n k : Int) (w : World) (hn : ¬ n = 0) : Calls Try.prog 47 #[.int .i64 n, .int .i64 k] w fun e w' => ∃ v, e = .returned v ∧ FaultAt w' v n k ∧ Below w.heap.size w w' := by
  have d0 : (n == 0) = false := by simpa using hn
  go_enter Try.func47, Try.ntmps47
  go_wp2
  go_ret
  refine ⟨_, rfl, ⟨w.heap.size, rfl, ?_, ?_⟩, (Below.refl _ _).alloc (Nat.le_refl _) _⟩ <;> simp

/-- What Check says. -/
def CheckSays (t : T) (w : World) (e : Ending) (w' : World) : Prop := ∃ v, e = .returned v ∧ Below w.heap.size w w' ∧
  ((mayT t = false ∧ FaultAt w' v 1 0) ∨ (mayT t = true ∧ (preT t).all fitB = true ∧ v = .nilIface) ∨ (mayT t = true ∧ (preT t).all fitB = false ∧ FaultAt w' v 5 ((preT t).findIdx fun u => !fitB u : Nat)))

theorem enters61 : Enters 49 := enters_of Try.func49 (by kernel_rfl) rfl
theorem trow1 {w : World} {c : C} {t : T} (h : Is w c t) : TRow (w.alloc (cbox c)) (.slice (some ⟨w.heap.size, 0, none⟩) 1 1) [t] := by
  refine ⟨[c], .inr ⟨w.heap.size, 0, 1, rfl, fun j x hx => ?_⟩, rfl, fun j x u hx hu => ?_⟩
  · cases j with
    | zero => simp at hx; subst hx; simpa using cbox_new w c
    | succ j => simp at hx
  · cases j with
    | zero => simp at hx hu; subst hx; subst hu; exact h.up ((Below.refl _ _).alloc (Nat.le_refl _) _)
    | succ j => simp at hx
theorem kids_le {t : T} {n : Nat} (h : sz t ≤ n) : t.kids.length ≤ n := by
  have := szL_len t.kids
  have := sz_node t
  omega

set_option maxRecDepth 100000 in
theorem check1_any (t : T) (c : C) (w : World) (hi : Is w c t) (hl : t.kids.length ≤ 999) : Calls Try.prog 49 #[cval c] w fun e w' => e = .returned (.bool (!fitB t)) ∧ Below w.heap.size w w' := by
  have HA : Hid (Below w.heap.size w (w.alloc (cbox c))) := (Below.refl _ _).alloc (Nat.le_refl _) _
  have HBW := Lib.hid (between_any t c (w.alloc (cbox c)) (hi.up HA.out) hl)
  clear hi
  go_enter Try.func49, Try.ntmps49
  go_wp2_with fail
  refine HBW.out.mono ?_
  rintro e w2 ⟨v2, rfl, -, hb2⟩
  have HB2 := Lib.hid (HA.out.trans (hb2.mono HA.out.size))
  clear hb2
  go_wp2
  go_ret
  exact ⟨rfl, HB2.out⟩

theorem checkF_any (t : T) (c : C) (w : World) (hi : Is w c t) (hs : sz t ≤ 999) :
    Calls Try.prog 48 #[cval c, .func (.func 49) #[] #[]] w fun e w' => e = .returned (.tuple #[.int .i64 ((preT t).findIdx (fun u => !fitB u) : Nat), .bool ((preT t).any fun u => !fitB u)]) ∧ Below w.heap.size w w' := by
  have hM : MachF w (fun (_ : Unit) (_ : Option Obj) (_ : Nat) => False) (fun _ W => Below w.heap.size w W) := ⟨fun _ _ _ _ h => h.elim, fun _ _ h => h, fun _ _ _ h hb => h.trans (hb.mono h.size)⟩
  have H := first_any hM 49 enters61 #[] (fun s u => (!fitB u, s)) (fun _ => 999) (fun _ _ => by omega) (fun u s c W hz hi hI => (check1_any u c W (hi.up hI) (kids_le hz)).mono fun e w' ⟨h1, h2⟩ => ⟨h1, hI.trans (h2.mono hI.size), Fr.of h2⟩) (sz t) t c () w (Nat.le_refl _) (by omega) hs hi (Below.refl _ _)
  refine H.mono fun e w' ⟨h1, h2, _⟩ => ⟨?_, h2⟩
  rw [h1, firstT_pre (fun u => !fitB u) (fun s _ => s) t ()]

theorem all_not_any (l : List T) : (l.any fun u => !fitB u) = !(l.all fitB) := by
  induction l with
  | nil => rfl
  | cons t l ih => rw [List.any_cons, List.all_cons, ih, Bool.not_and]

set_option maxRecDepth 100000 in
set_option maxHeartbeats 800000 in
theorem check_any (t : T) (c : C) (w : World) (hi : Is w c t) (hs0 : mayT t = true → sz t ≤ 999) : Calls Try.prog 40 #[cval c] w (CheckSays t w) := by
  have HA : Hid (Below w.heap.size w (w.alloc (cbox c))) := (Below.refl _ _).alloc (Nat.le_refl _) _
  have HC := Lib.hid (cbox_new w c)
  have HMY := Lib.hid (mayAll_any (.slice (some ⟨w.heap.size + 1, 0, none⟩) 1 1) [t] ((w.alloc (cbox c)).alloc (cbox c)) (by have := trow1 (hi.up HA.out); simpa using this) (by simp))
  have HA2 : Hid (Below w.heap.size w ((w.alloc (cbox c)).alloc (cbox c))) := Lib.hid (HA.out.alloc (by simp) _)
  have HI := Lib.hid hi
  have HS0 := Lib.hid hs0
  have HC2 := Lib.hid (HC.out.up ((Below.refl _ _).alloc (Nat.le_refl _) (cbox c)))
  have hall : [t].all mayT = mayT t := by simp
  rw [hall] at HMY
  clear hi hs0 hall
  go_enter Try.func40, Try.ntmps40
  go_wp2_with fail
  refine HMY.out.mono ?_
  rintro e w2 ⟨rfl, hb2⟩
  have HB2 := Lib.hid (HA2.out.trans (hb2.mono HA2.out.size))
  have C2 := Lib.hid (HC2.out.up hb2)
  clear hb2
  cases hm : mayT t with
  | false =>
    have HM := Lib.hid hm
    clear hm
    go_wp2_with fail
    refine (newf_any 1 0 w2 (by decide)).mono ?_
    rintro e w3 ⟨v3, rfl, hf3, hb3⟩
    have HB3 := Lib.hid (HB2.out.trans (hb3.mono HB2.out.size))
    have HF3 := Lib.hid hf3
    clear hb3 hf3
    go_wp2
    go_ret
    exact ⟨v3, rfl, HB3.out, .inl ⟨HM.out, HF3.out⟩⟩
  | true =>
    have HM := Lib.hid hm
    have HS := Lib.hid (HS0.out hm)
    clear hm
    obtain ⟨c0, c1, c2, c3, c4, c5, c6⟩ := C2.out
    simp only [Nat.zero_add] at c1 c2 c3 c4 c5 c6
    have HF := Lib.hid (checkF_any t c w2 (HI.out.up HB2.out) HS.out)
    rw [all_not_any] at HF
    have HX : Hid (((preT t).findIdx (fun u => !fitB u) : Nat) ≤ 999) := Lib.hid (by
      have := List.findIdx_le_length (xs := preT t) (p := fun u => !fitB u)
      rw [preT_len] at this
      have := HS.out
      omega)
    have HEQ : Hid (∃ n, (preT t).findIdx (fun u => !fitB u) = n) := Lib.hid ⟨_, rfl⟩
    obtain ⟨n, hn⟩ := HEQ.out
    rw [hn] at HF
    cases hfa : (preT t).all fitB with
    | true =>
      rw [hfa] at HF
      have HFA := Lib.hid hfa
      clear hfa hn
      go_wp2_with fail
      refine HF.out.mono ?_
      rintro e w3 ⟨rfl, hb3⟩
      have HB3 := Lib.hid (HB2.out.trans (hb3.mono HB2.out.size))
      clear hb3 c0 c1 c2 c3 c4 c5 c6
      go_wp2
      go_ret
      exact ⟨_, rfl, HB3.out, .inr (.inl ⟨HM.out, HFA.out, rfl⟩)⟩
    | false =>
      rw [hfa] at HF
      have HFA := Lib.hid hfa
      have HN := Lib.hid hn
      clear hfa hn
      go_wp2_with fail
      refine HF.out.mono ?_
      rintro e w3 ⟨rfl, hb3⟩
      have HB3 := Lib.hid (HB2.out.trans (hb3.mono HB2.out.size))
      clear hb3 c0 c1 c2 c3 c4 c5 c6
      go_wp2_with fail
      refine (newf_any 5 n w3 (by decide)).mono ?_
      rintro e w4 ⟨v4, rfl, hf4, hb4⟩
      have HB4 := Lib.hid (HB3.out.trans (hb4.mono HB3.out.size))
      have HF4 := Lib.hid hf4
      clear hb4 hf4
      go_wp2
      go_ret
      exact ⟨v4, rfl, HB4.out, .inr (.inr ⟨HM.out, HFA.out, by rw [HN.out]; exact HF4.out⟩)⟩
end Go.Proofs.Ytajhojbnpajelaa
