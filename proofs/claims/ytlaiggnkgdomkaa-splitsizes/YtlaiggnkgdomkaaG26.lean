/- Texts of this seat, 3 in one file. -/
import Derived.Test.YtlaiggnkgdomkaaG08
import Derived.Test.YtlaiggnkgdomkaaG09
import Derived.Test.YtlaiggnkgdomkaaG24
import Derived.Test.YtlaiggnkgdomkaaG25
import Derived.Test.YtlaiggnkgdomkaaG16
/- A leaf with a number: the program's find, and whether a number is free. -/
namespace Go.Proofs.Ytlaiggnkgdomkaa
open Go.RowKit

set_option maxRecDepth 100000 in
theorem results_c3 {fn : Func} {p u u2 : Tmp} (h : fn.results = #[.cell p 31, .tmp u, .tmp u2]) (tmps : Array Value) (w : World) (g : Nat) (c : C) (hp : tmps.getD p undef = .pointer (some ⟨g, 0, none⟩)) (hg : Box7 w g c) :
    (results fn tmps).run Try.prog w = .ok (.tuple #[cval c, tmps.getD u undef, tmps.getD u2 undef]) w := by
  have hg' : w.heap[g]? = some (cbox c) := hg
  have hl := run_loadVar_row (P := Try.prog) w g 31 31 _ (0, 0) _ hg' Try.underlying31 rfl (by kernel_rfl)
  have hp' : tmps[p]?.getD undef = .pointer (some ⟨g, 0, none⟩) := by simpa using hp
  simp only [results, h]
  simp [Sem.run_bind, asAddr, Result.andThen]
  rw [hp']
  simp [hl]

/-- Numbers in a row that the call made. -/
def PRow (w : World) (base : Nat) (v : Value) (p : List Int) : Prop := Row w v (ints p) ∧ (∀ a n cap, v = .slice (some a) n cap → ∃ g, a = ⟨g, 0, none⟩ ∧ base ≤ g) ∧ ∀ a n cap, v = .slice a n cap → n ≤ cap
theorem PRow.up {w w' : World} {base : Nat} {v : Value} {p : List Int} (h : PRow w base v p) (hb : Below w.heap.size w w') : PRow w' base v p := ⟨h.1.up hb, h.2⟩
theorem PRow.lower {w : World} {base base' : Nat} {v : Value} {p : List Int} (h : PRow w base v p) (hb : base' ≤ base) : PRow w base' v p := ⟨h.1, fun a n cap e => by obtain ⟨g, h1, h2⟩ := h.2.1 a n cap e; exact ⟨g, h1, by omega⟩, h.2.2⟩
theorem PRow.kept {w w' : World} {base : Nat} {v : Value} {p : List Int} (h : PRow w base v p) (hk : ∀ g, base ≤ g → w'.heap[g]? = w.heap[g]?) : PRow w' base v p := by
  refine ⟨?_, h.2⟩
  obtain ⟨a, n, rfl, h0, h1⟩ := h.1
  refine ⟨a, n, rfl, h0, fun x hx j u hu => ?_⟩
  subst hx
  obtain ⟨g, rfl, hg⟩ := h.2.1 x _ _ rfl
  have := h1 _ rfl j u hu
  rw [Go.WideShapes.add_plain] at this ⊢
  exact (World.cell?_of_block (a := ⟨g, 0 + j, none⟩) (hk g hg)).trans this

def FindO (r : Option (List Int)) (w : World) (e : Ending) (w' : World) : Prop :=
  Below w.heap.size w w' ∧ match r with
  | some p => ∃ a cap, e = .returned (.tuple #[.slice a p.length cap, .bool true]) ∧ PRow w' w.heap.size (.slice a p.length cap) p
  | none => e = .returned (.tuple #[.slice none 0 0, .bool false])
set_option maxRecDepth 100000 in
theorem findO_any (id : Int) (t : T) (c : C) (w : World) (hs : sz t ≤ 1000000) (hi : Is w c t) : Calls Try.prog 16 #[cval c, .int .i64 id] w (FindO (findT id t) w) := by
  have HA : Hid (Below w.heap.size w (w.alloc (cbox c))) := (Below.refl _ _).alloc (Nat.le_refl _) _
  have H := Lib.hid (way_any id (sz t) t c (w.alloc (cbox c)) (Nat.le_refl _) hs (hi.up HA.out))
  have HS := Lib.hid hs
  clear hi hs
  cases hf : findT id t with
  | none =>
    rw [hf] at H
    clear hf
    go_enter Try.func16, Try.ntmps16
    go_wp2_with fail
    refine H.out.mono ?_
    rintro e w2 ⟨hb, rfl⟩
    have HB := Lib.hid hb
    clear hb
    go_wp2_with fail
    refine (Try.slices_Reverse_int_empty none 0 w2).mono ?_
    rintro e w3 ⟨rfl, hw⟩
    rw [hw]
    clear hw w3
    go_wp2
    go_ret2
    exact ⟨below_one HB.out, rfl⟩
  | some p =>
    rw [hf] at H
    have HL := Lib.hid (show p.length ≤ 1000000 by have := findT_len id p t hf; have := HS.out; omega)
    clear hf
    go_enter Try.func16, Try.ntmps16
    go_wp2_with fail
    refine H.out.mono ?_
    rintro e w2 ⟨hb, v, rfl, hown⟩
    have HB := Lib.hid hb
    have HO := Lib.hid hown
    have HFAR : Hid (∀ a n cap, v = .slice (some a) n cap → ∃ g, a = ⟨g, 0, none⟩ ∧ w.heap.size ≤ g) := Lib.hid fun a n cap e => by
      rcases hown.2 with ⟨h0, -⟩ | ⟨g, cap', cur, h0, hg, -⟩
      · rw [h0] at e; cases e
      · rw [h0] at e; cases e; exact ⟨g, rfl, by simp at hg; omega⟩
    have HCP : Hid (∀ a n cap, v = .slice a n cap → n ≤ cap) := Lib.hid fun a n cap e => by
      rcases hown.2 with ⟨h0, -⟩ | ⟨g, cap', cur, h0, -, -, hn, -⟩
      · rw [h0] at e; cases e; exact Nat.le_refl _
      · rw [h0] at e; cases e; exact hn
    clear hb hown
    go_wp2_with fail
    refine (rev_any v p _ w2 HO.out HL.out).mono ?_
    rintro e w3 ⟨rfl, hr, hb⟩
    have HR := Lib.hid hr
    have HB3 := Lib.hid (HB.out.trans hb)
    clear hr hb
    obtain ⟨a, cap, rfl⟩ := row_shape HR.out
    go_wp2
    go_ret2
    exact ⟨below_one HB3.out, a, cap, rfl, HR.out, HFAR.out, HCP.out⟩

set_option maxRecDepth 100000 in
theorem atO_any (t u : T) (c : C) (v : Value) (p : List Int) (w : World) (hi : Is w c t) (hr : Row w v (ints p)) (hl : p.length ≤ 1000000) (hat : atT t p = some u) : Calls Try.prog 17 #[cval c, v] w fun e w' => ∃ d S, e = .returned (.tuple #[cval d, .bool true]) ∧ OwnT w' w.heap.size d u S ∧ S.Nodup ∧ Below w.heap.size w w' := by
  have B1 : Hid (Below w.heap.size w ((w.alloc (cbox c)).alloc zeroBox)) := ((Below.refl _ _).alloc (Nat.le_refl _) _).alloc (by simp) _
  have Z1 : Hid (Zero7 ((w.alloc (cbox c)).alloc zeroBox) (w.heap.size + 1)) := Lib.hid (by
    have := zero_new (w.alloc (cbox c))
    simpa using this)
  have HC := Lib.hid (follow_any w t c v p ((w.alloc (cbox c)).alloc zeroBox) B1.out hi hr hl)
  obtain ⟨a, cap, rfl⟩ := row_shape hr
  clear hi hr
  have HC2 : Hid (Calls Try.prog 28 #[cval c, .slice a p.length cap] ((w.alloc (cbox c)).alloc zeroBox) fun e w' => ∃ y, e = .returned (.tuple #[cval y, .bool true]) ∧ Is w y u ∧ Below ((w.alloc (cbox c)).alloc zeroBox).heap.size ((w.alloc (cbox c)).alloc zeroBox) w') := HC.out.mono fun e w' h => by
    unfold FollowSays at h; rw [hat] at h
    obtain ⟨hb, y, h1, h2⟩ := h
    exact ⟨y, h1, h2, hb⟩
  clear HC hat
  go_enter Try.func17, Try.ntmps17
  go_wp2_with fail
  refine HC2.out.mono ?_
  rintro e w2 ⟨y, rfl, hiy, hb2⟩
  have HB2 := Lib.hid (B1.out.trans (hb2.mono B1.out.size))
  have HZ2 := Lib.hid (zero_up Z1.out hb2)
  have HA : Hid (Below w2.heap.size w2 (w2.alloc (cbox y))) := (Below.refl _ _).alloc (Nat.le_refl _) _
  have HF := Lib.hid (fresh_any (sz u) u y (w2.alloc (cbox y)) (Nat.le_refl _) ((hiy.up HB2.out).up HA.out))
  clear hiy hb2
  go_wp2_with fail
  refine HF.out.mono ?_
  rintro e w3 ⟨d, S3, rfl, hown, hnd, hb3⟩
  have HO := Lib.hid hown
  have HND := Lib.hid hnd
  have HB3 := Lib.hid (HB2.out.trans ((below_one hb3).mono HB2.out.size))
  have HZ3 := Lib.hid (zero_up HZ2.out (below_one hb3))
  have HSZ : Hid (w.heap.size + 2 ≤ w2.heap.size) := Lib.hid (by have := lt_of_block HZ2.out; omega)
  obtain ⟨⟨z0, z1, z2, z3, z4, z5, z6⟩, f0, f1, f2, f3, f4, f5, f6⟩ := zero_parts HZ3.out
  clear hown hb3 hnd
  go_wp2
  (try simp only [Exit.inBlock, Exit.then])
  refine bodyPost_ret (results_cell2 rfl _ _ (w.heap.size + 1) d rfl ((Box7.of_zero HZ3.out).put d)) rfl ?_
  refine ⟨d, S3, rfl, ?_, HND.out, below_put7 HB3.out (by omega) d⟩
  refine (HO.out.frame fun k hk => ?_).lower (by have := HSZ.out; simp; omega)
  have := (HO.out.ge k hk).1
  have := HSZ.out
  simp at *
  exact heap_put7 (by omega)

def freeB (id : Int) (t : T) : Bool := (decide (0 ≤ id) && decide (id ≤ 2147483647)) && !(findT id t).isSome
/-- A leaf, the path to it, and whether there is one. -/
def PfSays (id : Int) (t : T) (w : World) (e : Ending) (w' : World) : Prop :=
  Below w.heap.size w w' ∧ match findT id t with
  | some p => ∃ d u a cap, e = .returned (.tuple #[cval d, .slice a p.length cap, .bool true]) ∧ atT t p = some u ∧ (∃ S, OwnT w' w.heap.size d u S) ∧ PRow w' w.heap.size (.slice a p.length cap) p
  | none => e = .returned (.tuple #[cval noC, .slice none 0 0, .bool false])
theorem pf_no {id : Int} {t : T} {w w' : World} (h : findT id t = none) (hb : Below w.heap.size w w') : PfSays id t w (.returned (.tuple #[cval noC, .slice none 0 0, .bool false])) w' := by
  unfold PfSays; rw [h]; exact ⟨hb, rfl⟩
theorem pf_yes {id : Int} {t u : T} {p : List Int} {w w' : World} {d : C} {a : Option Addr} {cap : Nat} (h : findT id t = some p) (hu : atT t p = some u) (hi : ∃ S, OwnT w' w.heap.size d u S) (hr : PRow w' w.heap.size (.slice a p.length cap) p) (hb : Below w.heap.size w w') : PfSays id t w (.returned (.tuple #[cval d, .slice a p.length cap, .bool true])) w' := by
  unfold PfSays; rw [h]; exact ⟨hb, d, u, a, cap, rfl, hu, hi, hr⟩

set_option maxHeartbeats 1000000 in
set_option maxRecDepth 100000 in
theorem pfind_any (t : T) (c : C) (id : Int) (w : World) (hm : sz t ≤ 1000000) (hi : Is w c t) : Calls Try.prog 9 #[cval c, .int .i64 id] w (PfSays id t w) := by
  have B1 := Lib.hid (cellW_below w c)
  have Z1 := Lib.hid (cellW_zero w c)
  have X1 := Lib.hid (cellW_box w c)
  have HF := Lib.hid (findO_any id t c (cellW w c) hm (hi.up B1.out))
  have HI := Lib.hid hi
  have HM := Lib.hid hm
  clear hi hm
  obtain ⟨c0, c1, c2, c3, c4, c5, c6⟩ := c7_of X1.out.cat
  cases hf : findT id t with
  | none =>
    have HF2 : Hid (Calls Try.prog 16 #[cval c, .int .i64 id] (cellW w c) fun e w' => e = .returned (.tuple #[.slice none 0 0, .bool false]) ∧ Below (cellW w c).heap.size (cellW w c) w') := HF.out.mono fun e w' h => by
      obtain ⟨hb, h⟩ := h
      rw [hf] at h
      exact ⟨h, hb⟩
    have HNO := Lib.hid hf
    clear HF hf
    go_enter Try.func9, Try.ntmps9
    go_wp2_with fail
    refine HF2.out.mono ?_
    rintro e w2 ⟨rfl, hb2⟩
    have B2 := Lib.hid (B1.out.trans (hb2.mono B1.out.size))
    have Z2 := Lib.hid (zero_up Z1.out hb2)
    clear hb2 c0 c1 c2 c3 c4 c5 c6 HF2
    obtain ⟨⟨z0, z1, z2, z3, z4, z5, z6⟩, f0, f1, f2, f3, f4, f5, f6⟩ := zero_parts Z2.out
    go_wp2
    (try simp only [Exit.inBlock, Exit.then])
    refine bodyPost_ret (results_c3 rfl _ _ (w.heap.size + 1) noC rfl ((Box7.of_zero Z2.out).put noC)) rfl ?_
    exact pf_no HNO.out (below_put7 B2.out (by omega) noC)
  | some p =>
    obtain ⟨u, hu, -, -, -⟩ := find_there hf
    have HPL : Hid (p.length ≤ 1000000) := Lib.hid (by have := findT_len id p t hf; have := HM.out; omega)
    have HF2 : Hid (Calls Try.prog 16 #[cval c, .int .i64 id] (cellW w c) fun e w' => ∃ a cap, e = .returned (.tuple #[.slice a p.length cap, .bool true]) ∧ PRow w' (cellW w c).heap.size (.slice a p.length cap) p ∧ Below (cellW w c).heap.size (cellW w c) w') := HF.out.mono fun e w' h => by
      obtain ⟨hb, h⟩ := h
      rw [hf] at h
      obtain ⟨a, cap, he, hr⟩ := h
      exact ⟨a, cap, he, hr, hb⟩
    have HYES := Lib.hid hf
    have HU := Lib.hid hu
    clear HF hf hu
    go_enter Try.func9, Try.ntmps9
    go_wp2_with fail
    refine HF2.out.mono ?_
    rintro e w2 ⟨a, cap, rfl, hr2, hb2⟩
    have B2 := Lib.hid (B1.out.trans (hb2.mono B1.out.size))
    have Z2 := Lib.hid (zero_up Z1.out hb2)
    have X2 := Lib.hid (X1.out.up hb2)
    have R2 := Lib.hid hr2
    clear hb2 hr2 c0 c1 c2 c3 c4 c5 c6 HF2
    obtain ⟨c0, c1, c2, c3, c4, c5, c6⟩ := c7_of X2.out.cat
    have HA : Hid (Calls Try.prog 17 #[cval c, .slice a p.length cap] w2 fun e w' => ∃ d S, e = .returned (.tuple #[cval d, .bool true]) ∧ OwnT w' w2.heap.size d u S ∧ S.Nodup ∧ Below w2.heap.size w2 w') := Lib.hid (atO_any t u c (.slice a p.length cap) p w2 (HI.out.up B2.out) R2.out.1 HPL.out HU.out)
    go_wp2_with fail
    refine HA.out.mono ?_
    rintro e w3 ⟨d, S, rfl, hd3, -, hb3⟩
    have HB : Below w3.heap.size w3 (w3.alloc (cbox d)) := (Below.refl _ _).alloc (Nat.le_refl _) _
    have B3 := Lib.hid (B2.out.trans ((hb3.trans (HB.mono hb3.size)).mono B2.out.size))
    have Z3 := Lib.hid (zero_up (zero_up Z2.out hb3) HB)
    have D3 := Lib.hid (hd3.up HB)
    have R3 := Lib.hid ((R2.out.up hb3).up HB)
    have ZL : Hid (w.heap.size + 1 < w3.heap.size) := Lib.hid (lt_of_block (zero_up Z2.out hb3))
    clear hb3 hd3 HB c0 c1 c2 c3 c4 c5 c6 HA
    have BX := Lib.hid (Box7.new w3 d)
    obtain ⟨⟨z0, z1, z2, z3, z4, z5, z6⟩, f0, f1, f2, f3, f4, f5, f6⟩ := zero_parts Z3.out
    obtain ⟨c0, c1, c2, c3, c4, c5, c6⟩ := c7_of BX.out.cat
    go_wp2
    (try simp only [Exit.inBlock, Exit.then])
    refine bodyPost_ret (results_c3 rfl _ _ (w.heap.size + 1) d rfl ((Box7.of_zero Z3.out).put d)) rfl ?_
    have HW2 : w.heap.size + 1 < w2.heap.size := lt_of_block Z2.out
    refine pf_yes HYES.out HU.out ⟨S, (D3.out.frame fun k hk => heap_put7 ?_).lower B2.out.size⟩ ((R3.out.kept fun g hg => heap_put7 ?_).lower (by simp; omega)) (below_put7 B3.out (by omega) d)
    · have := (D3.out.ge k hk).1; omega
    · simp at hg; omega
end Go.Proofs.Ytlaiggnkgdomkaa
/- Whether a leaf can be split along axes: the program's Can. -/
namespace Go.Proofs.Ytlaiggnkgdomkaa
open Go.RowKit

/-- Axes in a slice. -/
def u8s (l : List Int) : List Value := l.map (Value.int .u8)
theorem u8s_length (l : List Int) : (u8s l).length = l.length := by simp [u8s]
theorem u8_shape {w : World} {v : Value} {l : List Int} (h : Row w v (u8s l)) : ∃ a cap, v = .slice a l.length cap := by
  obtain ⟨a, cap, rfl, -, -⟩ := h
  rw [u8s_length]; exact ⟨_, _, rfl⟩
theorem u8_at {w : World} {a : Option Addr} {cap n : Nat} {l : List Int} (h : Row w (.slice a n cap) (u8s l)) (hp : 0 < l.length) : ∃ ad : Addr, a = some ad ∧ ∀ (j : Nat) (m : Int), l[j]? = some m → w.cell? (ad.add j) = some (.int .u8 m) := by
  obtain ⟨a', cap', he, h0, hc⟩ := h
  cases he
  cases a with
  | none => have := (h0 rfl).1; simp [u8s] at this; subst this; simp at hp
  | some ad => exact ⟨ad, rfl, fun j m hm => hc ad rfl j _ (by simp [u8s, hm])⟩

def lessB (r : R) (ax : Int) : Bool := decide (szA r ax < 3)
theorem can1_any (d : C) (b : Nat) (ax : Int) (w : World) (hx : Box7 w b d) : Calls Try.prog 11 #[.int .u8 ax, .pointer (some ⟨b, 0, none⟩)] w fun e w' => e = .returned (.bool (lessB d.r ax)) ∧ Below w.heap.size w w' := by
  obtain ⟨c0, c1, c2, c3, c4, c5, c6⟩ := c7_of hx.cat
  have HS := Lib.hid (lsize_any d.r ax w)
  unfold lessB
  generalize szA d.r ax = s at HS ⊢
  clear hx
  go_enter Try.func11, Try.ntmps11
  go_wp2_with fail
  refine HS.out.mono ?_
  rintro e w2 ⟨rfl, hb2⟩
  have B2 := Lib.hid hb2
  clear hb2
  go_wp2
  go_ret
  exact ⟨rfl, B2.out⟩
theorem entersC : Enters 11 := enters_of Try.func11 (by kernel_rfl) rfl

set_option maxHeartbeats 800000 in
set_option maxRecDepth 100000 in
theorem idxC_any (l : List Int) (v : Value) (d : C) (b : Nat) (w : World) (hr : Row w v (u8s l)) (hl : l.length ≤ 1000000) (hx : Box7 w b d) :
    Calls Try.prog 18 #[v, .func (.func 11) #[] #[.pointer (some ⟨b, 0, none⟩)]] w fun e w' => ∃ n : Int, e = .returned (.int .i64 n) ∧ decide (0 ≤ n) = l.any (lessB d.r) ∧ Below w.heap.size w w' := by
  have hent : ∀ (args : Array Value) (w : World), (callFunc 11 args).run Try.prog w = .ok (.enter 11 args) w := entersC
  obtain ⟨a, cap, rfl⟩ := u8_shape hr
  have HR := Lib.hid hr
  have HX := Lib.hid hx
  clear hr hx
  go_enter Try.func18, Try.ntmps18
  go_wp2
  go_loopg [8] (l.length + 1) (fun g i wr => ∃ k : Nat, g + k = l.length + 1 ∧ k ≤ l.length ∧ i = .int .i64 k ∧ (∀ (j : Nat) (x : Int), j < k → l[j]? = some x → lessB d.r x = false) ∧ Below w.heap.size w wr)
  case atStart => exact ⟨0, by omega, by omega, rfl, fun j x hj => by omega, Below.refl _ _⟩
  case round =>
    obtain ⟨k, hgk, hk, rfl, hno, hb⟩ := hrel
    have HG := Lib.hid hgk
    have HN := Lib.hid hno
    have HB := Lib.hid hb
    clear hgk hno hb
    by_cases hlt : k < l.length
    · have hlti : (k : Int) < (l.length : Int) := by omega
      obtain ⟨x, hx⟩ : ∃ x, l[k]? = some x := ⟨_, List.getElem?_eq_getElem hlt⟩
      obtain ⟨ad, rfl, hf⟩ := u8_at HR.out (by omega)
      have c0 := hf k x hx
      have c0 := (HB.out.cell (lt_of_cell c0)).trans c0
      have HLX := Lib.hid hx
      clear hf hx
      have HC := Lib.hid (can1_any d b x wr (HX.out.up HB.out))
      cases hbx : lessB d.r x with
      | true =>
        rw [hbx] at HC
        have HBX := Lib.hid hbx
        clear hbx
        go_wp2_with fail
        refine HC.out.mono ?_
        rintro e w2 ⟨rfl, hb2⟩
        have HB2 := Lib.hid (HB.out.trans (hb2.mono HB.out.size))
        clear hb2
        go_wp2
        go_ret
        refine ⟨_, rfl, ?_, HB2.out⟩
        rw [decide_eq_true (by omega)]
        exact (List.any_eq_true.2 ⟨x, List.mem_of_getElem? HLX.out, HBX.out⟩).symm
      | false =>
        rw [hbx] at HC
        have HBX := Lib.hid hbx
        clear hbx
        go_wp2_with fail
        refine HC.out.mono ?_
        rintro e w2 ⟨rfl, hb2⟩
        have HB2 := Lib.hid (HB.out.trans (hb2.mono HB.out.size))
        clear hb2
        go_wp2
        go_roundg (gk - 1)
        case measure => have := HG.out; omega
        case rel =>
          refine ⟨k + 1, by have := HG.out; omega, by omega, by go_num, fun j y hj hy => ?_, HB2.out⟩
          rcases Nat.lt_or_ge j k with h | h
          · exact HN.out j y h hy
          · obtain rfl : j = k := by omega
            rw [HLX.out] at hy; cases hy; exact HBX.out
    · obtain rfl : k = l.length := by omega
      have hkl : ((l.length : Int) < (l.length : Int)) = False := by simp
      go_wp2
      go_ret
      refine ⟨_, rfl, ?_, HB.out⟩
      rw [decide_eq_false (by omega)]
      refine (Eq.symm ?_)
      rw [List.any_eq_false]
      intro x hx
      obtain ⟨j, hj, rfl⟩ := List.getElem_of_mem hx
      rw [HN.out j _ hj (List.getElem?_eq_getElem hj)]
      decide

set_option maxRecDepth 100000 in
theorem hasC_any (l : List Int) (v : Value) (d : C) (b : Nat) (w : World) (hr : Row w v (u8s l)) (hl : l.length ≤ 1000000) (hx : Box7 w b d) :
    Calls Try.prog 10 #[v, .func (.func 11) #[] #[.pointer (some ⟨b, 0, none⟩)]] w fun e w' => e = .returned (.bool (l.any (lessB d.r))) ∧ Below w.heap.size w w' := by
  have H2 := Lib.hid (idxC_any l v d b w hr hl hx)
  obtain ⟨a, cap, rfl⟩ := u8_shape hr
  clear hr hx
  generalize l.any (lessB d.r) = q at H2 ⊢
  go_enter Try.func10, Try.ntmps10
  go_wp2_with fail
  refine H2.out.mono ?_
  rintro e w2 ⟨n, rfl, hd, hb2⟩
  have HB2 := Lib.hid hb2
  clear hb2
  subst hd
  go_wp2
  go_ret
  exact ⟨rfl, HB2.out⟩

/-- Can it be split along all these? -/
noncomputable def canT (id : Int) (axs : List Int) (t : T) : Bool := tileB t && match lfF id t with | some u => !(axs.any (lessB u.r)) | none => false
theorem can_no {id : Int} {axs : List Int} {t : T} (h : tileB t = false) : canT id axs t = false := by unfold canT; rw [h]; rfl
theorem can_none {id : Int} {axs : List Int} {t : T} (h : lfF id t = none) : canT id axs t = false := by unfold canT; rw [h]; simp
theorem can_yes {id : Int} {axs : List Int} {t u : T} (ht : tileB t = true) (h : lfF id t = some u) : canT id axs t = !(axs.any (lessB u.r)) := by unfold canT; rw [h, ht]; rfl

set_option maxHeartbeats 800000 in
set_option maxRecDepth 100000 in
theorem pcan_any (t : T) (c : C) (id : Int) (v : Value) (axs : List Int) (w : World) (hm : sz t ≤ 1000000) (hs : mayT t = true → sz t ≤ 20000) (hi : Is w c t) (hr : Row w v (u8s axs)) (hl : axs.length ≤ 1000000) :
    Calls Try.prog 7 #[cval c, .int .i64 id, v] w fun e w' => e = .returned (.bool (canT id axs t)) ∧ Below w.heap.size w w' := by
  have B1 : Hid (Below w.heap.size w (w.alloc (cbox c))) := Lib.hid ((Below.refl _ _).alloc (Nat.le_refl _) _)
  have X1 := Lib.hid (Box7.new w c)
  have HT := Lib.hid (tilesOne_any t c (w.alloc (cbox c)) (hi.up B1.out) hs (w.heap.size + 1) (by simp))
  have HI := Lib.hid hi
  have HM := Lib.hid hm
  obtain ⟨va, vcap, rfl⟩ := u8_shape hr
  have HR := Lib.hid hr
  have HS := Lib.hid hs
  clear hi hm hr hs
  obtain ⟨c0, c1, c2, c3, c4, c5, c6⟩ := c7_of X1.out.cat
  cases ht : tileB t with
  | false =>
    rw [ht] at HT
    have HC := Lib.hid (can_no (id := id) (axs := axs) ht)
    clear ht
    go_enter Try.func7, Try.ntmps7
    go_wp2_with fail
    refine HT.out.mono ?_
    rintro e w1 ⟨rfl, hb1⟩
    have L1 := Lib.hid (B1.out.trans (hb1.mono B1.out.size))
    clear hb1
    go_wp2
    go_ret
    exact ⟨by rw [HC.out] <;> rfl, L1.out⟩
  | true =>
    rw [ht] at HT
    have HTT := Lib.hid ht
    clear ht
    go_enter Try.func7, Try.ntmps7
    go_wp2_with fail
    refine HT.out.mono ?_
    rintro e w1 ⟨rfl, hb1⟩
    have L1 := Lib.hid (B1.out.trans (hb1.mono B1.out.size))
    have X2 := Lib.hid (X1.out.up hb1)
    clear hb1 c0 c1 c2 c3 c4 c5 c6 HT
    obtain ⟨c0, c1, c2, c3, c4, c5, c6⟩ := c7_of X2.out.cat
    have HF := Lib.hid (pfind_any t c id w1 HM.out (HI.out.up L1.out))
    cases hf : findT id t with
    | none =>
      have HF2 : Hid (Calls Try.prog 9 #[cval c, .int .i64 id] w1 fun e w' => e = .returned (.tuple #[cval noC, .slice none 0 0, .bool false]) ∧ Below w1.heap.size w1 w') := HF.out.mono fun e w' h => by
        unfold PfSays at h; rw [hf] at h; exact ⟨h.2, h.1⟩
      have HC := Lib.hid (can_none (id := id) (axs := axs) (lf_none hf))
      clear HF hf
      go_wp2_with fail
      refine HF2.out.mono ?_
      rintro e w2 ⟨rfl, hb2⟩
      have L2 := Lib.hid (L1.out.trans ((hb2.trans (((Below.refl w2.heap.size w2).alloc (Nat.le_refl _) (cbox noC)).mono hb2.size)).mono L1.out.size))
      clear hb2 c0 c1 c2 c3 c4 c5 c6
      go_wp2
      go_ret
      exact ⟨by rw [HC.out] <;> rfl, L2.out⟩
    | some p =>
      obtain ⟨u, hu, -, -, -⟩ := find_there hf
      have hs20 := may_small (tile_may HTT.out)
      have hlf := (lf_some hs20 HTT.out hf hu).1
      have HC := Lib.hid (can_yes (axs := axs) HTT.out hlf)
      have HF2 : Hid (Calls Try.prog 9 #[cval c, .int .i64 id] w1 fun e w' => ∃ d a cap, e = .returned (.tuple #[cval d, .slice a p.length cap, .bool true]) ∧ d.r = u.r ∧ Below w1.heap.size w1 w') := HF.out.mono fun e w' h => by
        unfold PfSays at h; rw [hf] at h
        obtain ⟨hb, d, u', a, cap, he, hu', ⟨S, hS⟩, hr⟩ := h
        rw [hu] at hu'; cases hu'
        exact ⟨d, a, cap, he, hS.is.split.2.1.symm, hb⟩
      clear HF hf hu hs20 hlf
      go_wp2_with fail
      refine HF2.out.mono ?_
      rintro e w2 ⟨d, pa, pcap, rfl, hdr, hb2⟩
      have BN : Below w2.heap.size w2 (w2.alloc (cbox d)) := (Below.refl _ _).alloc (Nat.le_refl _) _
      have L2 := Lib.hid (L1.out.trans ((hb2.trans (BN.mono hb2.size)).mono L1.out.size))
      have HK := Lib.hid (hasC_any axs (.slice va axs.length vcap) d w2.heap.size (w2.alloc (cbox d)) (HR.out.up L2.out) hl (Box7.new w2 d))
      rw [hdr] at HK
      have HQ : Hid (canT id axs t = !(axs.any (lessB u.r))) := HC
      clear hb2 BN hdr c0 c1 c2 c3 c4 c5 c6 HC
      generalize axs.any (lessB u.r) = q at HK HQ
      go_wp2_with fail
      refine HK.out.mono ?_
      rintro e w3 ⟨rfl, hb3⟩
      have L3 := Lib.hid (L2.out.trans (hb3.mono L2.out.size))
      clear hb3
      go_wp2
      go_ret
      exact ⟨by rw [HQ.out] <;> rfl, L3.out⟩
end Go.Proofs.Ytlaiggnkgdomkaa
/- What both have of a size: the program's Sizes. -/
namespace Go.Proofs.Ytlaiggnkgdomkaa
open Go.RowKit

set_option maxRecDepth 100000 in
theorem psizes_any (s z : Int) (hs : fits s) (hz : fits z) (w : World) : Calls Try.prog 4 #[.int .i64 s, .int .i64 z] w (SzSays s z w) := by
  obtain ⟨a1, a2⟩ := hs
  obtain ⟨b1, b2⟩ := hz
  by_cases h1 : s < 3
  · have HN := Lib.hid (sz_no (s := s) (z := z) w (by unfold spOk; rw [decide_eq_false (by omega)]; rfl))
    have q1 : decide (s < 3) = true := decide_eq_true h1
    clear h1
    go_enter Try.func4, Try.ntmps4
    go_wp2
    go_ret3
    exact HN.out
  have q1 : decide (s < 3) = false := decide_eq_false h1
  by_cases h2 : z < 0
  · have HN := Lib.hid (sz_no (s := s) (z := z) w (by unfold spOk; rw [decide_eq_true (by omega), decide_eq_false (by omega)]; rfl))
    have q2 : decide (z < 0) = true := decide_eq_true h2
    clear h2
    go_enter Try.func4, Try.ntmps4
    go_wp2
    go_ret3
    exact HN.out
  have q2 : decide (z < 0) = false := decide_eq_false h2
  have hok : spOk s z = true := by unfold spOk; rw [decide_eq_true (by omega), decide_eq_true (by omega)]; rfl
  have e1 : (s - 1).tdiv 2 = (s - 1) / 2 := Int.tdiv_eq_ediv_of_nonneg (by omega)
  by_cases h3 : z = 0
  · subst h3
    have HN := Lib.hid (sz_yes (s := s) (z := 0) (n := (s - 1) / 2) w hok (by unfold spB; rw [if_pos rfl]; omega))
    clear hok
    go_enter Try.func4, Try.ntmps4
    go_wp2
    go_ret3
    exact HN.out
  · have q3 : decide (0 < z) = true := decide_eq_true (by omega)
    by_cases h4 : s - 2 < z
    · have HN := Lib.hid (sz_yes (s := s) (z := z) (n := s - 2) w hok (by unfold spB; rw [if_neg h3, if_pos h4]))
      have m1 : min z (s - 2) = s - 2 := by omega
      have p2 : decide (s - 2 < z) = true := decide_eq_true h4
      clear h3 hok
      go_enter Try.func4, Try.ntmps4
      go_wp2
      go_ret3
      exact HN.out
    · have HN := Lib.hid (sz_yes (s := s) (z := z) (n := z) w hok (by unfold spB; rw [if_neg h3, if_neg h4]))
      have m1 : min z (s - 2) = z := by omega
      have p2 : decide (s - 2 < z) = false := decide_eq_false h4
      clear h3 hok
      go_enter Try.func4, Try.ntmps4
      go_wp2
      go_ret3
      exact HN.out
end Go.Proofs.Ytlaiggnkgdomkaa
