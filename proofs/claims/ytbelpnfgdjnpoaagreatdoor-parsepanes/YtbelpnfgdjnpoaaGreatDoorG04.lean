/- Texts of this seat, 3 in one file. -/
import Derived.Test.YtbelpnfgdjnpoaaGreatDoorG03
import Derived.Laws.AppendOwn
import Derived.Laws.AppendOwnNone
import Derived.OwnWalk
import Derived.WideShapes
import Derived.Lib.ItoaNum
/- Rows of one-cell values in memory, own ones and others; append on them. -/
namespace Go.Proofs.YtbelpnfgdjnpoaaGreatDoor
open Go.RowKit

/-- A slice that reads as these values, each one cell. -/
def Row (w : World) (v : Value) (xs : List Value) : Prop :=
  ∃ a cap, v = .slice a xs.length cap ∧ (a = none → xs = [] ∧ cap = 0) ∧ ∀ x, a = some x → ∀ j u, xs[j]? = some u → w.cell? (x.add j) = some u

theorem Row.below {B : Nat} {w w' : World} {v : Value} {xs : List Value} (h : Row w v xs) (hB : w.heap.size ≤ B) (hb : Below B w w') : Row w' v xs := by
  obtain ⟨a, cap, rfl, h0, hc⟩ := h
  refine ⟨a, cap, rfl, h0, fun x hx j u hu => ?_⟩
  have := hc x hx j u hu
  exact (hb.cell (Nat.lt_of_lt_of_le (lt_of_cell this) hB)).trans this

theorem Row.up {w w' : World} {v : Value} {xs : List Value} (h : Row w v xs) (hb : Below w.heap.size w w') : Row w' v xs := h.below (Nat.le_refl _) hb

theorem Row.of_owns {w : World} {base : Nat} {e : TypeId} {v : Value} {n : Nat} {xs : List Value} (h : w.ownsRow base e 1 v n xs) : Row w v xs := by
  have hl : xs.length = n := by simpa using h.1
  rcases h.2 with ⟨rfl, rfl⟩ | ⟨g, cap, cur, rfl, hb, hg, hn, hm, hs, ht⟩
  · obtain rfl : xs = [] := List.length_eq_zero_iff.1 hl
    exact ⟨none, 0, rfl, fun _ => ⟨rfl, rfl⟩, fun x hx => by cases hx⟩
  · refine ⟨some ⟨g, 0, none⟩, cap, by rw [hl], fun h => (by cases h), fun x hx j u hu => ?_⟩
    cases hx
    exact h.cells (g := g) rfl j u hu

/-- Where a row that isn't empty lies. -/
theorem row_at {w : World} {a : Option Addr} {cap : Nat} {xs : List Value} (h0 : a = none → xs = [] ∧ cap = 0) (hc : ∀ x, a = some x → ∀ j u, xs[j]? = some u → w.cell? (x.add j) = some u) (hp : 0 < xs.length) :
    ∃ b o, a = some ⟨b, o, none⟩ ∧ ∀ j u, xs[j]? = some u → w.cell? ⟨b, o + j, none⟩ = some u := by
  cases a with
  | none => rw [(h0 rfl).1] at hp; simp at hp
  | some x =>
    obtain ⟨b, o, spot⟩ := x
    have h1 := hc _ rfl 0 _ (List.getElem?_eq_getElem hp)
    have hspot : spot = none := by simpa [Addr.add] using World.cell?_spot h1
    subst hspot
    refine ⟨b, o, rfl, fun j u hu => ?_⟩
    rw [← Go.WideShapes.add_plain]
    exact hc _ rfl j u hu

theorem owns_up {w w' : World} {base : Nat} {e : TypeId} {size : Nat} {v : Value} {n : Nat} {xs : List Value} (h : w.ownsRow base e size v n xs) (hb : Below w.heap.size w w') : w'.ownsRow base e size v n xs := by
  refine ⟨h.1, ?_⟩
  rcases h.2 with hn | ⟨g, cap, cur, rfl, hg0, hg, rest⟩
  · exact .inl hn
  · exact .inr ⟨g, cap, cur, rfl, hg0, (hb.block g (Array.getElem?_eq_some_iff.1 hg).1).trans hg, rest⟩

theorem owns_base {w : World} {base base' : Nat} {e : TypeId} {size : Nat} {v : Value} {n : Nat} {xs : List Value} (h : w.ownsRow base e size v n xs) (hb : base' ≤ base) : w.ownsRow base' e size v n xs := by
  refine ⟨h.1, ?_⟩
  rcases h.2 with hn | ⟨g, cap, cur, rfl, hg0, rest⟩
  · exact .inl hn
  · exact .inr ⟨g, cap, cur, rfl, Nat.le_trans hb hg0, rest⟩

/-- append(own.., row...): what is owned then is both; no other block is turned. -/
theorem wpList_append_row2 {P : Program} {w : World} {ops : Array Oper} {rest : List Oper} {o : Oper} {a : Act} {Q : Exit → Act → World → Prop} (hgd : o.guard = none) (s x : Operand) (t : TypeId)
    (ho : o.op = .call { callee := .builtin .append, args := #[s, x], argTypes := #[t, t] })
    (base : Nat) (e : TypeId) (z : Value) (bytes : Nat) (ht : P.underlying t = some (.slice e)) (hinfo : (P.info? e).map (fun i => (i.zero, i.size, i.bytes)) = some (some z, 1, bytes)) (hz1 : z.cells.size = 1)
    (v src : Value) (xs news : List Value) (hs : a.eval s = v) (hown : w.ownsRow base e 1 v xs.length xs) (hx : a.eval x = src) (hrow : Row w src news) (h1 : ∀ u ∈ news, u.oneCell' = true)
    (h63 : xs.length + news.length ≤ 1000000) (hbytes : bytes ≤ 64) (w0 : World) (hb : Below base w0 w) (hbase0 : base ≤ w0.heap.size)
    (h : ∀ v' w', w'.ownsRow base e 1 v' (xs ++ news).length (xs ++ news) → Below base w0 w' → w.grownBy w' v.ownBlock → wpList P ops Q rest (a.put o.dst v') w') : wpList P ops Q (o :: rest) a w := by
  have hbase : base ≤ w.heap.size := Nat.le_trans hbase0 hb.size
  obtain ⟨i, hi, hz0, hz2, hz3⟩ := info_parts hinfo
  obtain ⟨ad, cap, rfl, h0, hc⟩ := hrow
  cases ad with
  | none =>
    obtain ⟨rfl, rfl⟩ := h0 rfl
    refine wpList_append_own_none hgd s x t ho base e i 1 ht hi v xs.length xs hs hown hx (h v w (by simpa using hown) hb ⟨rfl, rfl, rfl, Nat.le_refl _, fun _ _ _ => rfl⟩)
  | some ad =>
    refine wpList_append_own w hgd s x t ho base e i z 1 bytes ht hi hz0 hz2 hz3 hz1 (by decide) v xs.length xs hs hown ad news.length cap news hx (by simp) (hc ad rfl) h1 (by unfold maxLen; omega) ?_ hbase ?_
    · exact Nat.le_trans (Nat.mul_le_mul h63 hbytes) (by decide)
    · intro v' w' g1 g2 _
      exact h v' w' (by rw [List.length_append]; exact g1) (hb.grown g2 hbase (fun k hk => (hown.lt k hk).1)) g2
/-- append(own.., row...): what is owned then is both. -/
theorem wpList_append_row {P : Program} {w : World} {ops : Array Oper} {rest : List Oper} {o : Oper} {a : Act} {Q : Exit → Act → World → Prop} (hgd : o.guard = none) (s x : Operand) (t : TypeId)
    (ho : o.op = .call { callee := .builtin .append, args := #[s, x], argTypes := #[t, t] })
    (base : Nat) (e : TypeId) (z : Value) (bytes : Nat) (ht : P.underlying t = some (.slice e)) (hinfo : (P.info? e).map (fun i => (i.zero, i.size, i.bytes)) = some (some z, 1, bytes)) (hz1 : z.cells.size = 1)
    (v src : Value) (xs news : List Value) (hs : a.eval s = v) (hown : w.ownsRow base e 1 v xs.length xs) (hx : a.eval x = src) (hrow : Row w src news) (h1 : ∀ u ∈ news, u.oneCell' = true)
    (h63 : xs.length + news.length ≤ 1000000) (hbytes : bytes ≤ 64) (w0 : World) (hb : Below base w0 w) (hbase0 : base ≤ w0.heap.size)
    (h : ∀ v' w', w'.ownsRow base e 1 v' (xs ++ news).length (xs ++ news) → Below base w0 w' → wpList P ops Q rest (a.put o.dst v') w') : wpList P ops Q (o :: rest) a w :=
  wpList_append_row2 hgd s x t ho base e z bytes ht hinfo hz1 v src xs news hs hown hx hrow h1 h63 hbytes w0 hb hbase0 fun v' w' g1 g2 _ => h v' w' g1 g2
end Go.Proofs.YtbelpnfgdjnpoaaGreatDoor
/- The way to a leaf. -/
namespace Go.Proofs.YtbelpnfgdjnpoaaGreatDoor
open Go.RowKit

def ints (p : List Int) : List Value := p.map (Value.int .i64)
theorem ints_length (p : List Int) : (ints p).length = p.length := by simp [ints]
theorem ints_append (p q : List Int) : ints (p ++ q) = ints p ++ ints q := by simp [ints]
theorem ints_one (p : List Int) : ∀ u ∈ ints p, u.oneCell' = true := by
  intro u hu
  obtain ⟨n, -, rfl⟩ := List.mem_map.1 hu
  rfl
theorem row_one (w : World) (v : Value) (t : TypeId) : Row (w.alloc (.cells #[v] t)) (.slice (some ⟨w.heap.size, 0, none⟩) 1 1) [v] := by
  refine ⟨_, 1, rfl, (fun h => by cases h), fun x hx j u hu => ?_⟩
  cases hx
  cases j with
  | zero => simp at hu; subst hu; simp [Addr.add]
  | succ j => simp at hu
theorem infoI : (Tryz.prog.info? 3).map (fun i => (i.zero, i.size, i.bytes)) = some (some (.int .i64 0), 1, 8) := by kernel_rfl

end Go.Proofs.YtbelpnfgdjnpoaaGreatDoor
/- The plain mathematics of numbers as text: digits that a text begins with, the number that digits tell, hexadecimal digits. No program stands in it. -/
namespace Sash.Num
open Go

def isD (c : UInt8) : Bool := decide (48 ≤ c.toNat) && decide (c.toNat ≤ 57)
/-- How many digits a text begins with. -/
def cnt : List UInt8 → Nat
  | [] => 0
  | c :: r => if isD c then cnt r + 1 else 0
/-- The number that digits tell. -/
def val (l : List UInt8) : Nat := l.foldl (fun n c => n * 10 + (c.toNat - 48)) 0

def headN (l : List UInt8) : Int :=
  if cnt l = 0 ∨ (1 < cnt l ∧ l.head? = some 48) then 0 else if 2147483647 < val (l.take (cnt l)) then 0 else (val (l.take (cnt l)) : Int)
def headK (l : List UInt8) : Int :=
  if cnt l = 0 ∨ (1 < cnt l ∧ l.head? = some 48) then 0 else if 2147483647 < val (l.take (cnt l)) then 0 else (cnt l : Int)
def headE (l : List UInt8) : Int :=
  if cnt l = 0 ∨ (1 < cnt l ∧ l.head? = some 48) then 2 else if 2147483647 < val (l.take (cnt l)) then 3 else 0
def readN (l : List UInt8) : Int := if cnt l = l.length then headN l else 0
def readE (l : List UInt8) : Int := if cnt l = l.length then headE l else 2

theorem isD_iff (c : UInt8) : isD c = true ↔ 48 ≤ c.toNat ∧ c.toNat ≤ 57 := by simp [isD]

theorem cnt_le (l : List UInt8) : cnt l ≤ l.length := by
  induction l with
  | nil => simp [cnt]
  | cons c r ih => simp only [cnt]; split <;> simp <;> omega

theorem cnt_yes : ∀ (l : List UInt8) (k : Nat) (h : k < l.length), k ≤ cnt l → isD l[k] = true → k + 1 ≤ cnt l
  | [], k, h, _, _ => by simp at h
  | c :: r, 0, _, _, hd => by simp at hd; simp [cnt, hd]
  | c :: r, k + 1, h, hk, hd => by
    by_cases hc : isD c
    · simp [cnt, hc] at hk ⊢
      exact cnt_yes r k (by simpa using h) hk (by simpa using hd)
    · simp [cnt, hc] at hk

theorem cnt_no : ∀ (l : List UInt8) (k : Nat) (h : k < l.length), k ≤ cnt l → isD l[k] = false → cnt l = k
  | [], k, h, _, _ => by simp at h
  | c :: r, 0, _, _, hd => by simp at hd; simp [cnt, hd]
  | c :: r, k + 1, h, hk, hd => by
    by_cases hc : isD c
    · simp [cnt, hc] at hk ⊢
      exact cnt_no r k (by simpa using h) hk (by simpa using hd)
    · simp [cnt, hc] at hk

theorem cnt_isD : ∀ (l : List UInt8) (k : Nat) (h : k < l.length), k < cnt l → isD l[k] = true
  | [], k, h, _ => by simp at h
  | c :: r, 0, _, hk => by
    by_cases hc : isD c
    · simpa using hc
    · simp [cnt, hc] at hk
  | c :: r, k + 1, h, hk => by
    by_cases hc : isD c
    · simp [cnt, hc] at hk
      simpa using cnt_isD r k (by simpa using h) hk
    · simp [cnt, hc] at hk

theorem cnt_take : ∀ (l : List UInt8) (k : Nat), k ≤ cnt l → cnt (l.take k) = k
  | _, 0, _ => by simp [cnt]
  | [], k + 1, h => by simp [cnt] at h
  | c :: r, k + 1, h => by
    by_cases hc : isD c
    · simp [cnt, hc] at h ⊢
      exact cnt_take r k h
    · simp [cnt, hc] at h

theorem val_append (a b : List UInt8) : val (a ++ b) = b.foldl (fun n c => n * 10 + (c.toNat - 48)) (val a) := by
  simp [val, List.foldl_append]

theorem val_snoc (a : List UInt8) (c : UInt8) : val (a ++ [c]) = val a * 10 + (c.toNat - 48) := by
  rw [val_append]; rfl

theorem val_le_append (a b : List UInt8) : val a ≤ val (a ++ b) := by
  rw [val_append]
  suffices h : ∀ (b : List UInt8) (n : Nat), n ≤ b.foldl (fun n c => n * 10 + (c.toNat - 48)) n from h b _
  intro b
  induction b with
  | nil => intro n; simp
  | cons c r ih => intro n; simp only [List.foldl_cons]; exact Nat.le_trans (by omega) (ih _)

theorem val_take_le (l : List UInt8) (k : Nat) : val (l.take k) ≤ val l := by
  have := val_le_append (l.take k) (l.drop k)
  rwa [List.take_append_drop] at this

theorem val_take_mono (l : List UInt8) (j k : Nat) (h : j ≤ k) : val (l.take j) ≤ val (l.take k) := by
  have := val_take_le (l.take k) j
  rwa [List.take_take, Nat.min_eq_left h] at this

theorem val_take_succ (l : List UInt8) (k : Nat) (h : k < l.length) : val (l.take (k + 1)) = val (l.take k) * 10 + (l[k].toNat - 48) := by
  rw [List.take_succ_eq_append_getElem h, val_snoc]

/-! The same over a string's bytes. -/
theorem bcnt_yes (s : ByteArray) (k : Nat) (h : k < s.size) (hk : k ≤ cnt s.data.toList) (h1 : 48 ≤ s[k].toNat) (h2 : s[k].toNat ≤ 57) : k + 1 ≤ cnt s.data.toList :=
  cnt_yes s.data.toList k (by simpa using h) hk ((isD_iff _).2 ⟨h1, h2⟩)
theorem bcnt_no (s : ByteArray) (k : Nat) (h : k < s.size) (hk : k ≤ cnt s.data.toList) (h1 : s[k].toNat < 48 ∨ 57 < s[k].toNat) : cnt s.data.toList = k := by
  refine cnt_no s.data.toList k (by simpa using h) hk ?_
  have hn : ¬ (isD s[k] = true) := by rw [isD_iff]; omega
  exact Bool.eq_false_iff.2 hn
theorem bcnt_le (s : ByteArray) : cnt s.data.toList ≤ s.size := by simpa using cnt_le s.data.toList
theorem bcnt_isD (s : ByteArray) (k : Nat) (h : k < s.size) (hk : k < cnt s.data.toList) : 48 ≤ s[k].toNat ∧ s[k].toNat ≤ 57 :=
  (isD_iff _).1 (cnt_isD s.data.toList k (by simpa using h) hk)
theorem bval_succ (s : ByteArray) (k : Nat) (h : k < s.size) : val (s.data.toList.take (k + 1)) = val (s.data.toList.take k) * 10 + (s[k].toNat - 48) :=
  val_take_succ s.data.toList k (by simpa using h)
theorem bhead (s : ByteArray) (h : 0 < s.size) : (s.data.toList.head? = some 48) ↔ s[0].toNat = 48 := by
  rw [List.head?_eq_getElem?, List.getElem?_eq_getElem (by simpa using h)]
  show some s[0] = some 48 ↔ _
  constructor
  · intro e; rw [Option.some.inj e]; rfl
  · intro e; congr 1; exact UInt8.toNat_inj.1 e

theorem head_form (l : List UInt8) (h : cnt l = 0 ∨ (1 < cnt l ∧ l.head? = some 48)) : headN l = 0 ∧ headK l = 0 ∧ headE l = 2 := by
  simp only [headN, headK, headE, if_pos h]; simp
theorem head_long (l : List UInt8) (h : ¬ (cnt l = 0 ∨ (1 < cnt l ∧ l.head? = some 48))) (hv : 2147483647 < val (l.take (cnt l))) : headN l = 0 ∧ headK l = 0 ∧ headE l = 3 := by
  simp only [headN, headK, headE, if_neg h, if_pos hv]; simp
theorem head_ok (l : List UInt8) (h : ¬ (cnt l = 0 ∨ (1 < cnt l ∧ l.head? = some 48))) (hv : val (l.take (cnt l)) ≤ 2147483647) : headN l = val (l.take (cnt l)) ∧ headK l = cnt l ∧ headE l = 0 := by
  simp only [headN, headK, headE, if_neg h, if_neg (Nat.not_lt.2 hv)]; simp

/-! Digits of a number. -/
def dig (n : Int) : List UInt8 := if n < 0 ∨ 2147483647 < n then [] else Lib.decDigits n.toNat
def hexc (k : Nat) : UInt8 := if k < 10 then UInt8.ofNat (48 + k) else UInt8.ofNat (87 + k)
def hexS : ByteArray := ⟨#[48, 49, 50, 51, 52, 53, 54, 55, 56, 57, 97, 98, 99, 100, 101, 102]⟩
theorem hex_ext_fin : ∀ k : Fin 16, hexS.extract k.val (k.val + 1) = ⟨#[hexc k.val]⟩ := by decide +kernel
theorem hex_ext (k : Nat) (h : k < 16) : hexS.extract k (k + 1) = ⟨#[hexc k]⟩ := hex_ext_fin ⟨k, h⟩
theorem dec_small (u : Nat) (h : u < 10) : Lib.decDigits u = [hexc u] := by
  rw [Lib.decDigits, dif_pos h, hexc, if_pos h]
theorem dec_big (u : Nat) (h : ¬ u < 10) : Lib.decDigits u = Lib.decDigits (u / 10) ++ [hexc (u % 10)] := by
  rw [Lib.decDigits, dif_neg h, hexc, if_pos (by omega)]
/-- What the document's Digits keeps: what is still to be written, and what is. -/
def digInv (n m : Nat) (l : List UInt8) : Prop := (if m < 10 then [] else Lib.decDigits (m / 10)) ++ l = Lib.decDigits n
theorem digInv_start (n : Nat) : digInv n n [hexc (n % 10)] := by
  unfold digInv
  by_cases h : n < 10
  · rw [if_pos h, dec_small n h, Nat.mod_eq_of_lt h]; rfl
  · rw [if_neg h, dec_big n h]
theorem digInv_step (n m : Nat) (l : List UInt8) (hm : ¬ m < 10) (h : digInv n m l) : digInv n (m / 10) (hexc (m / 10 % 10) :: l) := by
  unfold digInv at *
  rw [if_neg hm] at h
  rw [← h]
  by_cases h2 : m / 10 < 10
  · rw [if_pos h2, dec_small _ h2, Nat.mod_eq_of_lt h2]; rfl
  · rw [if_neg h2, dec_big (m / 10) h2, List.append_assoc]; rfl
theorem digInv_end (n m : Nat) (l : List UInt8) (hm : m < 10) (h : digInv n m l) : l = Lib.decDigits n := by
  unfold digInv at h; rw [if_pos hm] at h; exact h
theorem digInv_len (n m : Nat) (l : List UInt8) (h : digInv n m l) : l.length ≤ (Lib.decDigits n).length := by
  rw [← h, List.length_append]; omega
theorem dec_len : ∀ (k u : Nat), u < 10 ^ (k + 1) → (Lib.decDigits u).length ≤ k + 1
  | 0, u, h => by rw [dec_small u (by omega)]; simp
  | k + 1, u, h => by
    by_cases h10 : u < 10
    · rw [dec_small u h10]; simp
    · rw [dec_big u h10, List.length_append]
      have := dec_len k (u / 10) (by rw [Nat.pow_succ] at h; omega)
      simp; omega
theorem dig_len (n : Int) : (dig n).length ≤ 10 := by
  unfold dig
  split
  · simp
  · exact dec_len 9 _ (by omega)

/-- Texts, with commas. -/
def joinD : List Int → List UInt8
  | [] => []
  | [x] => dig x
  | x :: r => dig x ++ (44 :: joinD r)
theorem joinD_snoc : ∀ (l : List Int) (x : Int), l ≠ [] → joinD (l ++ [x]) = joinD l ++ (44 :: dig x)
  | [], _, h => absurd rfl h
  | [a], x, _ => rfl
  | a :: b :: r, x, _ => by
    have := joinD_snoc (b :: r) x (by simp)
    simp only [List.cons_append] at this ⊢
    simp only [joinD, List.append_assoc, List.cons_append] at this ⊢
    rw [this]
theorem join_eq : ∀ l : List Int, ([44] : List UInt8).intercalate (l.map dig) = joinD l
  | [] => rfl
  | [a] => by simp [List.intercalate, joinD]
  | a :: b :: r => by
    have := join_eq (b :: r)
    simp only [List.map_cons, List.intercalate, joinD, List.intersperse_cons_cons, List.flatten_cons] at this ⊢
    rw [this]; rfl
theorem joinD_len : ∀ l : List Int, (joinD l).length ≤ 11 * l.length
  | [] => by simp [joinD]
  | [a] => by have := dig_len a; simp [joinD]; omega
  | a :: b :: r => by
    have := joinD_len (b :: r)
    have := dig_len a
    simp only [joinD, List.length_append, List.length_cons] at *
    omega

end Sash.Num
