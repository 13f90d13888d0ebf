/- How many cells of a path are along an axis: the program's walk. -/
import Derived.Test.YtajhojbnpajelaaAsks
import Derived.Test.YtajhojbnpajelaaInts
namespace Go.Proofs.Ytajhojbnpajelaa
open Go.RowKit

/-- Numbers that can be cut: as many as there is room for. -/
structure Path (w : World) (v : Value) (p : List Int) : Prop where
  row : Row w v (ints p)
  cap : ∃ a cap, v = .slice a p.length cap ∧ p.length ≤ cap
theorem Path.up {w w' : World} {v : Value} {p : List Int} (h : Path w v p) (hb : Below w.heap.size w w') : Path w' v p := ⟨h.row.up hb, h.cap⟩
/-- The rest of a path. -/
theorem Path.tail {w : World} {b o cap : Nat} {k : Int} {p : List Int} (h : Path w (.slice (some ⟨b, o, none⟩) (k :: p).length cap) (k :: p)) (A : Addr) (hA : A = ⟨b, o + 1, none⟩ ∨ p = []) (c : Nat) (hc : p.length ≤ c) : Path w (.slice (some A) p.length c) p := by
  refine ⟨⟨some A, c, by rw [ints_length], (fun h => by cases h), fun x hx j u hu => ?_⟩, _, c, rfl, hc⟩
  cases hx
  rcases hA with rfl | rfl
  · obtain ⟨b', o', he, hf⟩ := int_at h.row (by simp)
    cases he
    have hj : j < p.length := by
      rcases Nat.lt_or_ge j p.length with h | h
      · exact h
      · rw [List.getElem?_eq_none (by rw [ints_length]; exact h)] at hu; cases hu
    simp [ints, hj] at hu
    rw [← hu, Go.WideShapes.add_plain, Nat.add_assoc, Nat.add_comm 1 j]
    exact hf (j + 1) _ (by simp [hj])
  · simp [ints] at hu

theorem path_if {w : World} {b o cap : Nat} {k : Int} {p : List Int} (h : Path w (.slice (some ⟨b, o, none⟩) (k :: p).length cap) (k :: p)) (hc : p.length + 1 ≤ cap) : Path w (.slice (if cap = 1 then some ⟨b, o, none⟩ else some ⟨b, o + 1, none⟩) p.length (cap - 1)) p := by
  split
  · exact h.tail _ (.inr (List.length_eq_zero_iff.1 (by omega))) _ (by omega)
  · exact h.tail _ (.inl rfl) _ (by omega)

abbrev Nine (n : Nat) (s m : Value) (pb po bb oo : Nat) (y : C) (W : World) : Prop := W.cell? ⟨n, 6, none⟩ = some s ∧ W.cell? ⟨pb, po, none⟩ = some m ∧ W.cell? ⟨bb, oo, none⟩ = some (.int .u8 y.k) ∧ W.cell? ⟨bb, oo + 1, none⟩ = some (.int .i64 y.r.x) ∧ W.cell? ⟨bb, oo + 2, none⟩ = some (.int .i64 y.r.y) ∧ W.cell? ⟨bb, oo + 3, none⟩ = some (.int .i64 y.r.w) ∧ W.cell? ⟨bb, oo + 4, none⟩ = some (.int .i64 y.r.h) ∧ W.cell? ⟨bb, oo + 5, none⟩ = some (.int .i64 y.id) ∧ W.cell? ⟨bb, oo + 6, none⟩ = some (.slice y.a y.n y.cap)
theorem Nine.up {n : Nat} {s m : Value} {pb po bb oo : Nat} {y : C} {W W' : World} (h : Nine n s m pb po bb oo y W) (hb : Below W.heap.size W W') : Nine n s m pb po bb oo y W' := by
  obtain ⟨h0, h1, h2, h3, h4, h5, h6, h7, h8⟩ := h
  exact ⟨(hb.cell (lt_of_cell h0)).trans h0, (hb.cell (lt_of_cell h1)).trans h1, (hb.cell (lt_of_cell h2)).trans h2, (hb.cell (lt_of_cell h3)).trans h3, (hb.cell (lt_of_cell h4)).trans h4, (hb.cell (lt_of_cell h5)).trans h5, (hb.cell (lt_of_cell h6)).trans h6, (hb.cell (lt_of_cell h7)).trans h7, (hb.cell (lt_of_cell h8)).trans h8⟩
theorem Nine.put {n : Nat} {s m : Value} {pb po bb oo : Nat} {y d : C} {W : World} {b : Nat} (h : Nine n s m pb po bb oo y W) (h1 : n ≠ b) (h2 : pb ≠ b) (h3 : bb ≠ b) : Nine n s m pb po bb oo y (put7 W b d) := by
  obtain ⟨h0, h1, h2, h3, h4, h5, h6, h7, h8⟩ := h
  exact ⟨(World.cell?_of_block (heap_put7 (by assumption))).trans h0, (World.cell?_of_block (heap_put7 (by assumption))).trans h1, (World.cell?_of_block (heap_put7 (by assumption))).trans h2, (World.cell?_of_block (heap_put7 (by assumption))).trans h3, (World.cell?_of_block (heap_put7 (by assumption))).trans h4, (World.cell?_of_block (heap_put7 (by assumption))).trans h5, (World.cell?_of_block (heap_put7 (by assumption))).trans h6, (World.cell?_of_block (heap_put7 (by assumption))).trans h7, (World.cell?_of_block (heap_put7 (by assumption))).trans h8⟩


/-- How many of a path are along an axis. -/
def one8 (b : Bool) : Nat := if b = true then 1 else 0
def pathT (ax : Int) : T → List Int → Nat
  | _, [] => 0
  | t, k :: p => one8 (alB t.k ax) + match kidAt t k with
    | some u => pathT ax u p
    | none => 0
theorem path_len (ax : Int) : ∀ (p : List Int) (t : T), pathT ax t p ≤ p.length
  | [], t => by simp [pathT]
  | k :: p, t => by
    rw [pathT, List.length_cons]
    have h1 : one8 (alB t.k ax) ≤ 1 := by unfold one8; split <;> omega
    split
    · rename_i u _
      have := path_len ax p u; omega
    · omega
theorem path_in {ax : Int} {t u : T} {p : List Int} {i : Nat} {k : Int} (hk : p[i]? = some k) (h : kidAt t k = some u) : pathT ax t (p.drop i) = one8 (alB t.k ax) + pathT ax u (p.drop (i + 1)) := by
  obtain ⟨hl, he⟩ := List.getElem?_eq_some_iff.1 hk
  rw [List.drop_eq_getElem_cons hl, he, pathT, h]
theorem path_out {ax : Int} {t : T} {p : List Int} {i : Nat} {k : Int} (hk : p[i]? = some k) (h : kidAt t k = none) : pathT ax t (p.drop i) = one8 (alB t.k ax) := by
  obtain ⟨hl, he⟩ := List.getElem?_eq_some_iff.1 hk
  rw [List.drop_eq_getElem_cons hl, he, pathT, h]; rfl

set_option maxRecDepth 100000 in
set_option maxHeartbeats 1600000 in
theorem path_any (t : T) (c : C) (ax : Int) (v : Value) (p : List Int) (w : World) (hi : Is w c t) (hr : Row w v (ints p)) (hl : p.length ≤ 1000000) :
    Calls Try.prog 19 #[cval c, .int .u8 ax, v] w fun e w' => e = .returned (.int .i64 (pathT ax t p : Nat)) ∧ Below w.heap.size w w' := by
  obtain ⟨a, cap, rfl⟩ := row_shape hr
  have HR := Lib.hid hr
  have HI := Lib.hid hi
  have HBX := Lib.hid (Box7.new w c)
  have HA : Hid (Below w.heap.size w (w.alloc (cbox c))) := (Below.refl _ _).alloc (Nat.le_refl _) _
  clear hr hi
  have HPL := Lib.hid (path_len ax p t)
  have H0 : Hid (pathT ax t p = 0 + pathT ax t (p.drop 0)) := Lib.hid (by rw [List.drop_zero]; omega)
  generalize pathT ax t p = P at H0 HPL ⊢
  go_enter Try.func19, Try.ntmps19
  go_wp2
  go_loopg [7, 12] (p.length + 1) (fun g n i wr => ∃ (k m : Nat) (u : T) (y : C), g + k = p.length + 1 ∧ k ≤ p.length ∧ i = .int .i64 k ∧ n = .int .i64 (m : Int) ∧ m ≤ k ∧ P = m + pathT ax u (p.drop k) ∧ Is w y u ∧ Box7 wr w.heap.size y ∧ Below w.heap.size w wr)
  case atStart => exact ⟨0, 0, t, c, by omega, by omega, rfl, rfl, by omega, H0.out, HI.out, HBX.out, HA.out⟩
  case round =>
    obtain ⟨k, m, u, y, hg, hk, rfl, rfl, hmk, hP, hiy, hby, hb⟩ := hrel
    have HG := Lib.hid hg
    have HP := Lib.hid hP
    have HIY := Lib.hid hiy
    have HBY := Lib.hid hby
    have HB := Lib.hid hb
    clear hg hP hiy hby hb
    by_cases hlt : k < p.length
    · have hlti : (k : Int) < (p.length : Int) := by omega
      obtain ⟨x, hx⟩ : ∃ x, p[k]? = some x := ⟨_, List.getElem?_eq_getElem hlt⟩
      obtain ⟨pb, po, rfl, hf⟩ := int_at HR.out (by omega)
      have x0 := (HB.out.cell (lt_of_cell (hf k x hx))).trans (hf k x hx)
      clear hf
      have HAL := Lib.hid (along8_any y ax wr)
      have HYK : Hid (alB u.k ax = alB y.k ax) := Lib.hid (by rw [HIY.out.split.1])
      obtain ⟨c0, c1, c2, c3, c4, c5, c6⟩ := c7_of HBY.out.cat
      have HYN := Lib.hid HIY.out.n
      cases hkid : kidAt u x with
      | none =>
        have HF := Lib.hid (path_out (ax := ax) hx hkid)
        rw [HYK.out] at HF
        have hkn := kid_none hkid
        clear hkid hx
        generalize alB y.k ax = ab at HF HAL
        go_wp2_with fail
        refine HAL.out.mono ?_
        rintro e w2 ⟨rfl, hb2⟩
        have HB2 := Lib.hid (HB.out.trans (hb2.mono HB.out.size))
        have BX2 := Lib.hid (HBY.out.up hb2)
        clear hb2 c0 c1 c2 c3 c4 c5 c6
        obtain ⟨c0, c1, c2, c3, c4, c5, c6⟩ := c7_of BX2.out.cat
        rw [HYN.out] at c6
        cases ab with
        | true =>
          have HFF : Hid (P = m + 1) := Lib.hid (by have := HP.out; rw [HF.out] at this; exact this)
          by_cases h0 : x < 0
          · have g0 : decide (x < 0) = true := decide_eq_true h0
            go_wp2
            go_ret
            exact ⟨ret_int (by rw [HFF.out]; omega), HB2.out⟩
          · have g0 : decide (x < 0) = false := decide_eq_false h0
            have g1 : decide ((u.kids.length : Int) ≤ x) = true := decide_eq_true (by omega)
            go_wp2
            go_ret
            exact ⟨ret_int (by rw [HFF.out]; omega), HB2.out⟩
        | false =>
          have HFF : Hid (P = m) := Lib.hid (by have := HP.out; rw [HF.out] at this; exact this)
          by_cases h0 : x < 0
          · have g0 : decide (x < 0) = true := decide_eq_true h0
            go_wp2
            go_ret
            exact ⟨ret_int (by rw [HFF.out]), HB2.out⟩
          · have g0 : decide (x < 0) = false := decide_eq_false h0
            have g1 : decide ((u.kids.length : Int) ≤ x) = true := decide_eq_true (by omega)
            go_wp2
            go_ret
            exact ⟨ret_int (by rw [HFF.out]), HB2.out⟩
      | some u2 =>
        have HF := Lib.hid (path_in (ax := ax) hx hkid)
        rw [HYK.out] at HF
        obtain ⟨j, rfl, hj⟩ := kid_some hkid
        have hjl : j < u.kids.length := (List.getElem?_eq_some_iff.1 hj).1
        have g0 : decide ((j : Int) < 0) = false := decide_eq_false (by omega)
        have g1 : decide ((u.kids.length : Int) ≤ (j : Int)) = false := decide_eq_false (by omega)
        have g2 : decide (u.kids.length ≤ j) = false := decide_eq_false (by omega)
        obtain ⟨bb, o, hya, hf⟩ := HIY.out.row.place (by omega)
        obtain ⟨y2, hy2, hi2⟩ := hf j u2 hj
        have HY2 := Lib.hid hy2
        have HI2 := Lib.hid hi2
        have HYA := Lib.hid hya
        have hbl : bb < w.heap.size := hy2.lt
        clear hkid hx hf hj hy2 hi2 hya
        generalize alB y.k ax = ab at HF HAL
        go_wp2_with fail
        refine HAL.out.mono ?_
        rintro e w2 ⟨rfl, hb2⟩
        have HB2 := Lib.hid (HB.out.trans (hb2.mono HB.out.size))
        have BX2 := Lib.hid (HBY.out.up hb2)
        clear hb2 c0 c1 c2 c3 c4 c5 c6
        obtain ⟨c0, c1, c2, c3, c4, c5, c6⟩ := c7_of BX2.out.cat
        rw [HYN.out, HYA.out] at c6
        obtain ⟨e0, e1, e2, e3, e4, e5, e6⟩ := HY2.out.up HB2.out
        have f0 := BX2.out.free 0
        have f1 := BX2.out.free 1
        have f2 := BX2.out.free 2
        have f3 := BX2.out.free 3
        have f4 := BX2.out.free 4
        have f5 := BX2.out.free 5
        have f6 := BX2.out.free 6
        have HBP := Lib.hid (BX2.out.put y2)
        have HB3 := Lib.hid (below_put7 HB2.out (Nat.le_refl _) y2)
        cases ab with
        | true =>
          have HFF : Hid (P = (m + 1) + pathT ax u2 (p.drop (k + 1))) := Lib.hid (by have := HP.out; rw [HF.out] at this; rw [this, show one8 true = 1 from rfl]; omega)
          go_wp2
          go_roundg (gk - 1)
          case measure => have := HG.out; omega
          case rel => exact ⟨k + 1, m + 1, u2, y2, by have := HG.out; omega, by omega, by go_num, by go_num, by omega, HFF.out, HI2.out, HBP.out, HB3.out⟩
        | false =>
          have HFF : Hid (P = m + pathT ax u2 (p.drop (k + 1))) := Lib.hid (by have := HP.out; rw [HF.out] at this; rw [this, show one8 false = 0 from rfl]; omega)
          go_wp2
          go_roundg (gk - 1)
          case measure => have := HG.out; omega
          case rel => exact ⟨k + 1, m, u2, y2, by have := HG.out; omega, by omega, by go_num, rfl, by omega, HFF.out, HI2.out, HBP.out, HB3.out⟩
    · obtain rfl : k = p.length := by omega
      have hkl : ((p.length : Int) < (p.length : Int)) = False := by simp
      have HF : Hid (P = m) := Lib.hid (by have := HP.out; rw [List.drop_length, pathT] at this; exact this)
      go_wp2
      go_ret
      exact ⟨ret_int (by rw [HF.out]), HB.out⟩
end Go.Proofs.Ytajhojbnpajelaa
