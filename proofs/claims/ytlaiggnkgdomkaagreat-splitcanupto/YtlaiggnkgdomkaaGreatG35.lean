/- Texts of this seat, 3 in one file. -/
import Derived.Test.YtlaiggnkgdomkaaGreatG34
import Derived.Test.YtlaiggnkgdomkaaGreatG07
import Derived.Test.YtlaiggnkgdomkaaGreatG08
import Derived.Deep.RegionLaw
/- Shares, the program's walk. -/
namespace Go.Proofs.YtlaiggnkgdomkaaGreat
open Go.RowKit Sh

theorem row_nil (w : World) : Row w (.slice none 0 0) (ints []) := ⟨none, 0, rfl, fun _ => ⟨rfl, rfl⟩, fun x hx => by cases hx⟩
theorem sh_no {b : Int} {gs : List Int} {w w' : World} (hb : Below w.heap.size w w') (h : ¬ okS b gs) : ShSays b gs w (.returned (.tuple #[.slice none 0 0, .bool false])) w' := ⟨hb, .inr ⟨h, _, rfl, row_nil _⟩⟩

set_option maxRecDepth 100000 in
theorem shares_any (b : Int) (v : Value) (gs : List Int) (w : World) (hv : Row w v (ints gs)) (hb : fits b) (hl : gs.length ≤ 1000) :
    Calls Tryz.prog 97 #[.int .i64 b, v] w (ShSays b gs w) := by
  have HB := Lib.hid (Below.refl w.heap.size w)
  obtain ⟨hb1, hb2⟩ := hb
  obtain ⟨a, cap, rfl⟩ := row_shape hv
  have HV := Lib.hid hv
  clear hv
  by_cases h0 : gs.length = 0
  · have HN : Hid (¬ okS b gs) := Lib.hid fun h => h.1 (List.length_eq_zero_iff.1 h0)
    rw [h0]
    clear HV h0 hl
    go_enter Tryz.func97, Tryz.ntmps97
    go_wp2
    go_ret2
    exact sh_no HB.out HN.out
  have d0 : ((gs.length : Int) == 0) = false := by rw [beq_eq_false_iff_ne]; omega
  have hne : gs ≠ [] := fun h => h0 (by rw [h]; rfl)
  by_cases h1 : b < -2147483647
  · have d1 : decide (b < -2147483647) = true := decide_eq_true h1
    have HN : Hid (¬ okS b gs) := Lib.hid fun h => by have := h.2.2.1; omega
    go_enter Tryz.func97, Tryz.ntmps97
    go_wp2
    go_ret2
    exact sh_no HB.out HN.out
  have d1 : decide (b < -2147483647) = false := decide_eq_false h1
  by_cases h2 : 2147483647 < b
  · have d2 : decide (2147483647 < b) = true := decide_eq_true h2
    have HN : Hid (¬ okS b gs) := Lib.hid fun h => by have := h.2.2.2.1; omega
    go_enter Tryz.func97, Tryz.ntmps97
    go_wp2
    go_ret2
    exact sh_no HB.out HN.out
  have d2 : decide (2147483647 < b) = false := decide_eq_false h2
  have HC := Lib.hid (containsI_any _ gs w HV.out (by omega))
  cases hbad : anyBad gs with
  | true =>
    rw [hbad] at HC
    have HN : Hid (¬ okS b gs) := Lib.hid fun h => anyBad_yes hbad h.2.1
    clear hbad
    go_enter Tryz.func97, Tryz.ntmps97
    go_wp2_with fail
    refine HC.out.mono ?_
    rintro e w1 ⟨rfl, hw1⟩
    rw [hw1]
    clear hw1 w1
    go_wp2
    go_ret2
    exact sh_no HB.out HN.out
  | false =>
    rw [hbad] at HC
    have HGD := Lib.hid (anyBad_no hbad)
    clear hbad
    by_cases hneg : b < 0
    · have d3 : decide (b < 0) = true := decide_eq_true hneg
      obtain ⟨need, hneed⟩ : ∃ need : Nat, -b = (need : Int) := ⟨(-b).toNat, by omega⟩
      have HNT := Lib.hid (show (-b).toNat = need by omega)
      have HL := Lib.hid (show (gs.map Int.toNat).length = gs.length by simp)
      have HS := Lib.hid (shrink_any need (gs.map Int.toNat) (.slice a gs.length cap) w (by rw [← natI_of HGD.out]; exact HV.out) (goodN_of HGD.out) (by omega) (by rw [HL.out]; exact hl))
      have HNE := Lib.hid hne
      clear hne
      go_enter Tryz.func97, Tryz.ntmps97
      go_wp2_with fail
      refine HC.out.mono ?_
      rintro e w1 ⟨rfl, hw1⟩
      rw [hw1]
      clear hw1 w1
      go_wp2_with fail
      refine HS.out.mono ?_
      rintro e w2 ⟨hb3, hres⟩
      have HB3 := Lib.hid hb3
      clear hb3
      rcases hres with ⟨hle, v', m, rfl, hsum, hrow⟩ | ⟨hgt, rfl⟩
      · have HLE := Lib.hid hle
        have HSM := Lib.hid hsum
        have HRW := Lib.hid hrow
        clear hle hsum hrow
        go_wp2
        go_ret2
        refine ⟨HB3.out, .inl ⟨⟨HNE.out, HGD.out, by omega, by omega, fun _ => by rw [HNT.out]; exact HLE.out⟩, v', _, rfl, .inr ⟨hneg, m, rfl, ?_⟩, ?_⟩⟩
        · have := HSM.out; rw [HL.out] at this; rw [this, HNT.out]
        · have := HRW.out; rw [HL.out] at this; exact this
      · have HGT := Lib.hid hgt
        clear hgt
        go_wp2
        go_ret2
        exact sh_no HB3.out fun h => by have := h.2.2.2.2 hneg; rw [HNT.out] at this; have := HGT.out; omega
    · have d3 : decide (b < 0) = false := decide_eq_false hneg
      obtain ⟨m, rfl⟩ : ∃ m : Nat, b = (m : Int) := ⟨b.toNat, by omega⟩
      have HS := Lib.hid (grow_any m gs.length w (by omega) (by omega) (by omega))
      have HNE := Lib.hid hne
      clear hne
      go_enter Tryz.func97, Tryz.ntmps97
      go_wp2_with fail
      refine HC.out.mono ?_
      rintro e w1 ⟨rfl, hw1⟩
      rw [hw1]
      clear hw1 w1
      go_wp2_with fail
      refine HS.out.mono ?_
      rintro e w2 ⟨g, rfl, hgw, hblk, hb3⟩
      have HB3 := Lib.hid hb3
      have HBK := Lib.hid hblk
      clear hb3 hblk
      go_wp2
      go_ret2
      refine ⟨HB3.out, .inl ⟨⟨HNE.out, HGD.out, by omega, by omega, fun h => by omega⟩, _, natI (out none gs.length m), rfl, .inl ⟨by omega, by simp⟩, ?_⟩⟩
      exact HBK.out.row _ _ (by rw [natI_length, out_len])
end Go.Proofs.YtlaiggnkgdomkaaGreat
/- The document's row of the leaves' numbers. -/
namespace Go.Proofs.YtlaiggnkgdomkaaGreat
open Go.RowKit

/-- A row of numbers of the call's own. -/
def OwnI (w : World) (base : Nat) (v : Value) (l : List Int) : Prop := w.ownsRow base 3 1 v l.length (ints l)
theorem OwnI.row {w : World} {base : Nat} {v : Value} {l : List Int} (h : OwnI w base v l) : Row w v (ints l) := Row.of_owns h
theorem OwnI.up {w w' : World} {base : Nat} {v : Value} {l : List Int} (h : OwnI w base v l) (hb : Below w.heap.size w w') : OwnI w' base v l := owns_up h hb
theorem OwnI.lower {w : World} {base base' : Nat} {v : Value} {l : List Int} (h : OwnI w base v l) (hb : base' ≤ base) : OwnI w base' v l := owns_base h hb
theorem OwnI.empty (w : World) (base : Nat) (hb : base ≤ w.heap.size) : OwnI (w.alloc (.cells #[] 3)) base (.slice (some ⟨w.heap.size, 0, none⟩) 0 0) [] := World.ownsRow_made w #[] 0 hb (Nat.zero_le _) (by simp)
theorem OwnI.nil (w : World) (base : Nat) : OwnI w base (.slice none 0 0) [] := World.ownsRow_nil w base _ _

/-- append(own.., numbers...): what is owned then is both; where it lies. -/
theorem wpList_append_ints {w : World} {ops : Array Oper} {rest : List Oper} {o : Oper} {a : Act} {Q : Exit → Act → World → Prop} (hgd : o.guard = none) (s x : Operand)
    (ho : o.op = .call { callee := .builtin .append, args := #[s, x], argTypes := #[47, 47] })
    (base : Nat) (v src : Value) (xs news : List Int) (hs : a.eval s = v) (hown : OwnI w base v xs) (hx : a.eval x = src) (hrow : Row w src (ints news)) (hp : 0 < news.length)
    (h63 : xs.length + news.length ≤ 1954687338211) (w0 : World) (hb : Below base w0 w) (hbase0 : base ≤ w0.heap.size)
    (h : ∀ g cap w', OwnI w' base (.slice (some ⟨g, 0, none⟩) (xs ++ news).length cap) (xs ++ news) → Below base w0 w' → w.grownBy w' v.ownBlock → (v.ownBlock = some g ∨ g = w.heap.size) → wpList Tryz.prog ops Q rest (a.put o.dst (.slice (some ⟨g, 0, none⟩) (xs ++ news).length cap)) w') : wpList Tryz.prog ops Q (o :: rest) a w := by
  have hbase : base ≤ w.heap.size := Nat.le_trans hbase0 hb.size
  obtain ⟨i, hi, hz0, hz2, hz3⟩ := info_parts infoI
  obtain ⟨ad', cap, rfl⟩ := row_shape hrow
  obtain ⟨a', cap', he, h0, hc⟩ := hrow
  rw [ints_length] at he
  cases he
  cases ad' with
  | none => have := (h0 rfl).1; rw [← List.length_eq_zero_iff, ints_length] at this; omega
  | some ad =>
    refine wpList_append_lies w hgd s x 47 ho base 3 i (.int .i64 0) 1 8 Tryz.underlying47 hi hz0 hz2 hz3 rfl (by decide) v xs.length (ints xs) hs hown ad news.length cap (ints news) hx (by rw [ints_length, Nat.mul_one]) (hc ad rfl) (ints_one _) hp (by unfold maxLen; omega) (by omega) hbase w.heap.size rfl ?_
    intro g cap' w' g1 g2 g3 _
    rw [← List.length_append] at g1 ⊢
    exact h g cap' w' (by rw [← ints_append] at g1; exact g1) (hb.grown g2 hbase (fun k hk => (hown.lt k hk).1)) g2 g3

def idsT (t : T) : List Int := ((preT t).filter leafB).map T.id
def IdsSays (l : List Int) (w : World) (e : Ending) (w' : World) : Prop := ∃ v, e = .returned v ∧ OwnI w' w.heap.size v l ∧ Below w.heap.size w w'

end Go.Proofs.YtlaiggnkgdomkaaGreat
/- One number more in a row of the call's own, in a statement that draws its order. -/
namespace Go.Proofs.YtlaiggnkgdomkaaGreat
open Go.RowKit

theorem step_append_int {w : World} {ops : Array Oper} {o : Oper} {a : Act} {K : Act → World → Prop} {Q : Exit → Act → World → Prop} {E : Prop} (hgd : o.guard = none) (s x : Operand)
    (ho : o.op = .call { callee := .builtin .append, args := #[s, x], argTypes := #[47, 47] })
    (base : Nat) (v : Value) (xs : List Int) (g0 : Nat) (m : Int) (hs : a.eval s = v) (hown : OwnI w base v xs) (hx : a.eval x = .slice (some ⟨g0, 0, none⟩) 1 1) (hc0 : w.cell? ⟨g0, 0, none⟩ = some (.int .i64 m))
    (h63 : xs.length + 1 ≤ 1000000) (w0 : World) (hb : Below base w0 w) (hbase0 : base ≤ w0.heap.size)
    (h : ∀ g cap w', OwnI w' base (.slice (some ⟨g, 0, none⟩) (xs.length + 1) cap) (xs ++ [m]) → Below base w0 w' → w.grownBy w' v.ownBlock → (v.ownBlock = some g ∨ g = w.heap.size) → K (a.put o.dst (.slice (some ⟨g, 0, none⟩) (xs.length + 1) cap)) w') :
    if Region.wanted o (yielded ops a.tmps) = true then Oper.wp Tryz.prog o a w K Q else E := by
  have hbase : base ≤ w.heap.size := Nat.le_trans hbase0 hb.size
  obtain ⟨i, hi, hz0, hz2, hz3⟩ := info_parts infoI
  have hc : ∀ j u, (ints [m])[j]? = some u → w.cell? ((⟨g0, 0, none⟩ : Addr).add j) = some u := fun j u hu => by
    cases j with
    | zero => simp [ints] at hu; subst hu; simpa [Addr.add] using hc0
    | succ j => simp [ints] at hu
  refine step_append_lies w hgd s x 47 ho base 3 i (.int .i64 0) 1 8 Tryz.underlying47 hi hz0 hz2 hz3 rfl (by decide) v xs.length (ints xs) hs hown ⟨g0, 0, none⟩ 1 1 (ints [m]) hx (by simp [ints]) hc (ints_one _) (by decide) (by unfold maxLen; omega) (by omega) hbase w.heap.size rfl ?_
  intro g cap' w' g1 g2 g3 _
  refine h g cap' w' ?_ (hb.grown g2 hbase (fun k hk => (hown.lt k hk).1)) g2 g3
  rw [← ints_append] at g1
  have hl : (xs ++ [m]).length = xs.length + 1 := by simp
  unfold OwnI
  rw [hl]; exact g1
end Go.Proofs.YtlaiggnkgdomkaaGreat
