/- Texts of this seat, 3 in one file. -/
import Derived.Test.YtcdiogifgemjbaaGreatG34
import Derived.Test.YtcdiogifgemjbaaGreatG26
/- The law SpreadAt. -/
namespace Go.Proofs.YtcdiogifgemjbaaGreat
open Go.RowKit

def SpAtK : Prop := ∀ (t : T) (c : C) (v : Value) (p : List Int) (w : World), sz t ≤ 990 → Is w c t → Path w v p → p.length ≤ 1000 → Calls Tryz.prog 7 #[cval c, v] w (PrSays (atE t p) (atS t p) w)
def SpArK : Prop := ∀ (t : T) (c : C) (id : Int) (w : World), sz t ≤ 990 → Is w c t → fits id → Calls Tryz.prog 9 #[cval c, .int .i64 id] w (PrSays (arE t id) (arS t id) w)

set_option maxHeartbeats 4000000 in
set_option maxRecDepth 100000 in
theorem spreadAt_any (HK : EvnK) (HA : SpAtK) (HR : SpArK) (t : T) (c : C) (id : Int) (v : Value) (p : List Int) (w : World) (hi : Is w c t) (hfi : fits id) (hp : Path w v p) (hs : sz t ≤ 1099511627776) : Calls Tryz.prog 3 #[cval c, .int .i64 id, v] w fun e w' => e = .returned (.bool true) ∧ Below w.heap.size w w' := by
  obtain ⟨pa, pcap, rfl, -⟩ := hp.cap
  have S0 := Lib.hid (QSp.new w c)
  have HG := Lib.hid (great_any t c (w.alloc (cbox c)) (hi.up S0.out.below))
  have HI := Lib.hid hi
  have HP := Lib.hid hp
  have HAW := Lib.hid (awake16_any HK)
  clear hi HK hp
  obtain ⟨c0, c1, c2, c3, c4, c5, c6⟩ := S0.out.c7
  go_enter Tryz.func3, Tryz.ntmps3
  go_wp2_with fail
  refine HG.out.mono ?_
  rintro e w1 ⟨g, rfl, hg, hb1⟩
  have S1 := Lib.hid (S0.out.up hb1)
  have HGR := Lib.hid hg
  clear hb1 hg c0 c1 c2 c3 c4 c5 c6
  cases g with
  | true =>
    go_wp2_with fail
    refine (HAW.out w1).mono ?_
    rintro e w2 ⟨rfl, hb2⟩
    have S2 := Lib.hid (S1.out.up hb2)
    clear hb2
    go_wp2
    go_ret
    exact ⟨rfl, S2.out.below⟩
  | false =>
    have hsz : sz t ≤ 200 := HGR.out rfl hs
    have HRA := Lib.hid (rall_any w1 (sz t) t c w1 (Nat.le_refl _) (by omega) (HI.out.up S1.out.below) (Below.refl _ _))
    obtain ⟨c0, c1, c2, c3, c4, c5, c6⟩ := S1.out.c7
    go_wp2_with fail
    refine HRA.out.mono ?_
    rintro e wA ⟨v, cs, rfl, hown, -, hbA⟩
    have SA := Lib.hid (S1.out.up hbA)
    obtain ⟨va, vcap, rfl⟩ := hown.row.shape
    clear hbA hown c0 c1 c2 c3 c4 c5 c6 HRA
    generalize cs.length = m
    by_cases hm : 100 < m
    · have d1 : decide ((100 : Int) < (m : Int)) = true := decide_eq_true (by omega)
      go_wp2_with fail
      refine (HAW.out wA).mono ?_
      rintro e w2 ⟨rfl, hb2⟩
      have S2 := Lib.hid (SA.out.up hb2)
      clear hb2
      go_wp2
      go_ret
      exact ⟨rfl, S2.out.below⟩
    have d1 : decide ((100 : Int) < (m : Int)) = false := decide_eq_false (by omega)
    by_cases hpl : 50 < p.length
    · have d2 : decide ((50 : Int) < (p.length : Int)) = true := decide_eq_true (by omega)
      have d2' : decide (50 < p.length) = true := decide_eq_true hpl
      go_wp2_with fail
      refine (HAW.out wA).mono ?_
      rintro e w2 ⟨rfl, hb2⟩
      have S2 := Lib.hid (SA.out.up hb2)
      clear hb2
      go_wp2
      go_ret
      exact ⟨rfl, S2.out.below⟩
    have d2 : decide ((50 : Int) < (p.length : Int)) = false := decide_eq_false (by omega)
    have d2' : decide (50 < p.length) = false := decide_eq_false hpl
    have K1 : Hid (∀ W, QSp w c W → Calls Tryz.prog 7 #[cval c, .slice pa p.length pcap] W fun e w' => ∃ d, e = .returned (.tuple #[cval d, .int .i64 (atE t p)]) ∧ Is w' d (if atE t p = 0 then atS t p else zT) ∧ Below W.heap.size W w') := Lib.hid fun W h => HA t c _ p W (by omega) (HI.out.up h.below) (HP.out.up h.below) (by omega)
    have K2 : Hid (∀ W, QSp w c W → Calls Tryz.prog 8 #[cval c, .slice pa p.length pcap] W fun e w' => ∃ d, e = .returned (.tuple #[cval d, .int .i64 (atE t p)]) ∧ Is w' d (if atE t p = 0 then atS t p else zT) ∧ Below W.heap.size W w') := Lib.hid fun W h => (ratS_any t c _ p W (by omega) (HI.out.up h.below) (HP.out.up h.below) (by omega)).mono fun e w' h => at_all h
    have K3 : Hid (∀ W, QSp w c W → Calls Tryz.prog 9 #[cval c, .int .i64 id] W fun e w' => ∃ d, e = .returned (.tuple #[cval d, .int .i64 (arE t id)]) ∧ Is w' d (if arE t id = 0 then arS t id else zT) ∧ Below W.heap.size W w') := Lib.hid fun W h => HR t c id W (by omega) (HI.out.up h.below) hfi
    have K4 : Hid (∀ W, QSp w c W → Calls Tryz.prog 10 #[cval c, .int .i64 id] W fun e w' => ∃ d, e = .returned (.tuple #[cval d, .int .i64 (arE t id)]) ∧ Is w' d (if arE t id = 0 then arS t id else zT) ∧ Below W.heap.size W w') := Lib.hid fun W h => (rarS_any t c id W (by omega) (HI.out.up h.below)).mono fun e w' h => at_all h
    clear hsz hs HGR HA HR hm hpl
    generalize (if atE t p = 0 then atS t p else zT) = u at K1 K2
    generalize atE t p = n at K1 K2
    generalize (if arE t id = 0 then arS t id else zT) = u' at K3 K4
    generalize arE t id = n' at K3 K4
    have K5 := Lib.hid (fun (u : T) (d f : C) W (h : Is W d u) (h' : Is W f u) => rsame_any (sz u) u u d f W (Nat.le_refl _) h h')
    have HSM : Hid (∀ u : T, sameT u u = true) := Lib.hid fun u => (sameT_iff u u).2 rfl
    have b1 : (n == n) = true := by simp
    have b2 : (n' == n') = true := by simp
    obtain ⟨c0, c1, c2, c3, c4, c5, c6⟩ := SA.out.c7
    go_wp2_with fail
    refine (K1.out wA SA.out).mono ?_
    rintro e w2 ⟨d, rfl, hd, hb2⟩
    have al2 : Below w2.heap.size w2 (w2.alloc (cbox d)) := (Below.refl _ _).alloc (Nat.le_refl _) _
    have S2 := Lib.hid ((SA.out.up hb2).up al2)
    have D2 := Lib.hid (hd.up al2)
    have X2 := Lib.hid (Box7.new w2 d)
    clear hb2 hd al2 c0 c1 c2 c3 c4 c5 c6 d1 d2 d2'
    obtain ⟨c0, c1, c2, c3, c4, c5, c6⟩ := S2.out.c7
    go_wp2_with fail
    refine (K2.out _ S2.out).mono ?_
    rintro e w3 ⟨f, rfl, hf, hb3⟩
    have al3 : Below w3.heap.size w3 (w3.alloc (cbox f)) := (Below.refl _ _).alloc (Nat.le_refl _) _
    have S3 := Lib.hid ((S2.out.up hb3).up al3)
    have D3 := Lib.hid ((D2.out.up hb3).up al3)
    have F3 := Lib.hid (hf.up al3)
    have X3 := Lib.hid ((X2.out.up hb3).up al3)
    have Y3 := Lib.hid (Box7.new w3 f)
    clear hb3 hf al3 c0 c1 c2 c3 c4 c5 c6 S2 D2 X2
    obtain ⟨c0, c1, c2, c3, c4, c5, c6⟩ := S3.out.c7
    go_wp2_with fail
    refine (K3.out _ S3.out).mono ?_
    rintro e w4 ⟨d4, rfl, hd4, hb4⟩
    have al4 : Below w4.heap.size w4 (w4.alloc (cbox d4)) := (Below.refl _ _).alloc (Nat.le_refl _) _
    have S4 := Lib.hid ((S3.out.up hb4).up al4)
    have D4 := Lib.hid ((D3.out.up hb4).up al4)
    have F4 := Lib.hid ((F3.out.up hb4).up al4)
    have X4 := Lib.hid ((X3.out.up hb4).up al4)
    have Y4 := Lib.hid ((Y3.out.up hb4).up al4)
    have DD4 := Lib.hid (hd4.up al4)
    have XX4 := Lib.hid (Box7.new w4 d4)
    clear hb4 hd4 al4 c0 c1 c2 c3 c4 c5 c6 S3 D3 F3 X3 Y3
    obtain ⟨c0, c1, c2, c3, c4, c5, c6⟩ := S4.out.c7
    go_wp2_with fail
    refine (K4.out _ S4.out).mono ?_
    rintro e w5 ⟨f5, rfl, hf5, hb5⟩
    have al5 : Below w5.heap.size w5 (w5.alloc (cbox f5)) := (Below.refl _ _).alloc (Nat.le_refl _) _
    have S5 := Lib.hid ((S4.out.up hb5).up al5)
    have D5 := Lib.hid ((D4.out.up hb5).up al5)
    have F5 := Lib.hid ((F4.out.up hb5).up al5)
    have X5 := Lib.hid ((X4.out.up hb5).up al5)
    have Y5 := Lib.hid ((Y4.out.up hb5).up al5)
    have DD5 := Lib.hid ((DD4.out.up hb5).up al5)
    have XX5 := Lib.hid ((XX4.out.up hb5).up al5)
    have FF5 := Lib.hid (hf5.up al5)
    have YY5 := Lib.hid (Box7.new w5 f5)
    clear hb5 hf5 al5 c0 c1 c2 c3 c4 c5 c6 S4 D4 F4 X4 Y4 DD4 XX4
    have K6 := Lib.hid (K5.out u d f _ D5.out F5.out)
    rw [HSM.out u] at K6
    obtain ⟨c0, c1, c2, c3, c4, c5, c6⟩ := c7_of X5.out.cat
    obtain ⟨q0, q1, q2, q3, q4, q5, q6⟩ := c7_of Y5.out.cat
    go_wp2_with fail
    refine K6.out.mono ?_
    rintro e w6 ⟨rfl, hb6⟩
    have S6 := Lib.hid (S5.out.up hb6)
    have DD6 := Lib.hid (DD5.out.up hb6)
    have XX6 := Lib.hid (XX5.out.up hb6)
    have FF6 := Lib.hid (FF5.out.up hb6)
    have YY6 := Lib.hid (YY5.out.up hb6)
    clear hb6 c0 c1 c2 c3 c4 c5 c6 q0 q1 q2 q3 q4 q5 q6 K6 S5 DD5 XX5 FF5 YY5
    have K7 := Lib.hid (K5.out u' d4 f5 _ DD6.out FF6.out)
    rw [HSM.out u'] at K7
    obtain ⟨c0, c1, c2, c3, c4, c5, c6⟩ := c7_of XX6.out.cat
    obtain ⟨q0, q1, q2, q3, q4, q5, q6⟩ := c7_of YY6.out.cat
    go_wp2_with fail
    refine K7.out.mono ?_
    rintro e w7 ⟨rfl, hb7⟩
    have S7 := Lib.hid (S6.out.up hb7)
    clear hb7 c0 c1 c2 c3 c4 c5 c6 q0 q1 q2 q3 q4 q5 q6 K7
    go_wp2_with fail
    refine (HAW.out w7).mono ?_
    rintro e w8 ⟨rfl, hb8⟩
    have S8 := Lib.hid (S7.out.up hb8)
    clear hb8
    go_wp2
    go_ret
    exact ⟨rfl, S8.out.below⟩
theorem spreadAt_wf (HK : EvnK) (HA : SpAtK) (HR : SpArK) (v0 : Value) (t : T) (c : C) (id : Int) (v : Value) (p : List Int) (w : World) (e0 : v0 = cval c) (hi : Is w c t) (hfi : fits id) (hp : Path w v p) (hs : sz t ≤ 1048576) :
    Calls Tryz.prog 3 #[v0, .int .i64 id, v] w fun e w' => e = .returned (.bool true) ∧ Below w.heap.size w w' := by
  subst e0
  exact spreadAt_any HK HA HR t c id v p w hi hfi hp (by omega)
end Go.Proofs.YtcdiogifgemjbaaGreat
/- A cell whose kids are of one size, as the program makes it: each cell's least sizes are told beforehand, and kids stand where their cell begins. No walk. -/
namespace Go.Proofs.YtcdiogifgemjbaaGreat
open Go.RowKit

mutual
/-- Each cell as small as it can be. -/
def loT : T → T
  | .node k r i l => .node k ⟨0, 0, lsT 1 (.node k r i l), lsT 2 (.node k r i l)⟩ 0 (loL l)
def loL : List T → List T
  | [] => []
  | t :: l => loT t :: loL l
end
theorem loL_map : ∀ l : List T, loL l = l.map loT
  | [] => rfl
  | t :: l => by rw [loL, List.map_cons, loL_map l]
theorem loT_eq (t : T) : loT t = .node t.k ⟨0, 0, lsT 1 t, lsT 2 t⟩ 0 (loL t.kids) := by cases t; rw [loT]; rfl
theorem loL_get (l : List T) (j : Nat) : (loL l)[j]? = (l[j]?).map loT := by rw [loL_map, List.getElem?_map]
theorem loL_len (l : List T) : (loL l).length = l.length := by rw [loL_map, List.length_map]
theorem loL_step {l : List T} {j : Nat} {u : T} (h : l[j]? = some u) : loL (l.take (j + 1)) = loL (l.take j) ++ [loT u] := by
  rw [loL_map, loL_map, List.take_add_one, h]; simp
mutual
theorem lo_set : ∀ (x y : Int) (t : T), loT (setT x y t) = loT t
  | x, y, .node k r i l => by
    have h1 := ls_set 1 x y (.node k r i l)
    have h2 := ls_set 2 x y (.node k r i l)
    rw [setT] at h1 h2 ⊢
    rw [loT, loT, h1, h2, lo_setL k x y l]
theorem lo_setL (k : Int) : ∀ (x y : Int) (l : List T), loL (setL k x y l) = loL l
  | x, y, [] => by simp [setL]
  | x, y, t :: l => by rw [setL, loL, loL, lo_set x y t, lo_setL k _ _ l]
end
mutual
theorem lo_adj (ax : Int) : ∀ (b : Int) (t : T), loT (adjT ax b t) = loT t
  | b, .node k r i l => by
    have h1 := ls_adj ax 1 b (.node k r i l)
    have h2 := ls_adj ax 2 b (.node k r i l)
    rw [adjT] at h1 h2 ⊢
    rw [loT, loT, h1, h2, lo_adjL ax _ l]
theorem lo_adjL (ax : Int) : ∀ (s : Nat → Int) (l : List T), loL (adjL ax s l) = loL l
  | s, [] => by simp [adjL]
  | s, t :: l => by rw [adjL, loL, loL, lo_adj ax (s 0) t, lo_adjL ax _ l]
end
mutual
theorem lo_sz : ∀ t : T, sz (loT t) = sz t
  | .node k r i l => by rw [loT, sz, sz, loL_sz l]
theorem loL_sz : ∀ l : List T, szL (loL l) = szL l
  | [] => rfl
  | t :: l => by rw [loL, szL, szL, lo_sz t, loL_sz l]
end
theorem lo_szA {ax : Int} (hax : ax = 1 ∨ ax = 2) (t : T) : szA (loT t).r ax = lsT ax t := by
  rw [loT_eq]
  rcases hax with rfl | rfl <;> rfl

/-- The kids, where the cell begins. -/
noncomputable def svQ (t : T) : List T := (adjL (t.k - 1) (svS t) t.kids).map (setT t.r.x t.r.y)
noncomputable def svP (t : T) : T := .node t.k t.r t.id (svQ t)
theorem svQ_len (t : T) : (svQ t).length = t.kids.length := by unfold svQ; rw [List.length_map, adjL_len]
theorem aj_at {ax b x y : Int} {u : T} : ajT ax b (setT x y u) = setT x y (adjT ax b u) := by
  unfold ajT
  rw [set_r]
  exact adj_set ax b x y x y u
theorem svQ_get {t : T} {j : Nat} {u : T} (h : t.kids[j]? = some u) : (svQ t)[j]? = some (ajT (t.k - 1) (svS t j) (setT t.r.x t.r.y u)) := by
  unfold svQ
  rw [List.getElem?_map, adjL_get, h, aj_at]; rfl
theorem svQ_step {t : T} {j : Nat} {u : T} (h : t.kids[j]? = some u) : (svQ t).take (j + 1) = (svQ t).take j ++ [ajT (t.k - 1) (svS t j) (setT t.r.x t.r.y u)] := by
  rw [List.take_add_one, svQ_get h]; rfl
theorem svQ_sz (t : T) : szL (svQ t) = szL t.kids := by
  unfold svQ
  rw [szL_map _ fun u _ => setT_sz _ _ u, adjL_sz]
theorem svQ_lo (t : T) : (svQ t).map loT = t.kids.map loT := by
  refine List.ext_getElem? fun j => ?_
  rw [List.getElem?_map, List.getElem?_map]
  cases h : t.kids[j]? with
  | none =>
    have : t.kids.length ≤ j := List.getElem?_eq_none_iff.1 h
    rw [List.getElem?_eq_none (by rw [svQ_len]; exact this)]
  | some u => rw [svQ_get h, aj_at]; simp only [Option.map_some, lo_set, lo_adj]

/-- A kid of what tiles can be of that size, where the cell begins, just if it is no smaller than it can be least. -/
theorem svp_kid {t : T} {j : Nat} {u : T} (hs : sz t ≤ 20000) (ht : tileB t = true) (hk : t.k ≠ 1) (ho : okEv (szA t.r (t.k - 1)) t.kids.length) (h : t.kids[j]? = some u) :
    tileB (setT t.r.x t.r.y u) = true ∧ (ajE (t.k - 1) (svS t j) (setT t.r.x t.r.y u) = 0 ↔ lsT (t.k - 1) u ≤ evZ (szA t.r (t.k - 1)) t.kids.length j) := by
  obtain ⟨-, hax, h3, h4, h5, h6, -⟩ := sv_kid hs ht hk ho h
  have hw := (tile_top hs ht).1
  have hr := may_rect (well_rect hw)
  have hin := kid_in hs ht h
  have htu := tile_kid hs ht h
  have hsu : sz u ≤ 20000 := by have := sz_kid h; omega
  have hru := may_rect (well_rect (tile_top hsu htu).1)
  have hset : tileB (setT t.r.x t.r.y u) = true := set_tile hsu htu (by omega) (by omega) (by omega) (by omega)
  have hb := ev_bounds ho j
  have haxb : axB (t.k - 1) = true := (axB_iff _).2 hax
  have hat : atA t.r (t.k - 1) + szA t.r (t.k - 1) ≤ 10000 := by
    rcases hax with e | e <;> rw [e]
    · show t.r.x + t.r.w ≤ 10000; omega
    · show t.r.y + t.r.h ≤ 10000; omega
  have hau : atA (setT t.r.x t.r.y u).r (t.k - 1) = atA t.r (t.k - 1) := by rw [set_r]; rfl
  refine ⟨hset, ?_⟩
  rw [aj_do ⟨hset, haxb⟩, hau, set_szA, ls_set, svS_at h]
  obtain ⟨hb1, hb2, -⟩ := hb
  generalize evZ (szA t.r (t.k - 1)) t.kids.length j = e at *
  generalize szA t.r (t.k - 1) = S at *
  constructor
  · intro h0
    split at h0
    · omega
    · omega
  · intro h0
    rw [if_neg (by omega)]
theorem svp_ok {t : T} (hs : sz t ≤ 20000) (ht : tileB t = true) (hk : t.k ≠ 1) (ho : okEv (szA t.r (t.k - 1)) t.kids.length) (h : ∀ (j : Nat) (u : T), t.kids[j]? = some u → lsT (t.k - 1) u ≤ evZ (szA t.r (t.k - 1)) t.kids.length j) : svE t = 0 :=
  svE_ok hk ho fun hb => by
    obtain ⟨j, u, hu, hn⟩ := (sv_bad_iff hs ht hk ho).1 hb
    have := h j u hu; omega
theorem svp_no {t : T} {j : Nat} {u : T} (hs : sz t ≤ 20000) (ht : tileB t = true) (hk : t.k ≠ 1) (ho : okEv (szA t.r (t.k - 1)) t.kids.length) (h : t.kids[j]? = some u) (hn : evZ (szA t.r (t.k - 1)) t.kids.length j < lsT (t.k - 1) u) : svE t = 7 :=
  svE_bad hk ho ((sv_bad_iff hs ht hk ho).2 ⟨j, u, h, hn⟩)
/-- What is spread has kids that tile. -/
theorem svQ_tile {t : T} (hs : sz t ≤ 20000) (ht : tileB t = true) (h0 : svE t = 0) : ∀ v ∈ svQ t, tileB v = true := by
  intro v hv
  obtain ⟨hk, ho, hb⟩ := svE_zero h0
  obtain ⟨j, hj, rfl⟩ := List.getElem_of_mem hv
  have hj' : j < t.kids.length := by rw [svQ_len] at hj; exact hj
  obtain ⟨u, hu⟩ : ∃ u, t.kids[j]? = some u := ⟨_, List.getElem?_eq_getElem hj'⟩
  have hg := svQ_get hu
  have hg0 := svL_get hu
  rw [List.getElem?_eq_getElem hj] at hg
  rw [Option.some.inj hg]
  have hsu : sz u ≤ 20000 := by have := sz_kid hu; omega
  have h1 := sv_tile hs ht h0 _ (List.mem_of_getElem? hg0)
  obtain ⟨-, hax, h3, h4, h5, h6, h7⟩ := sv_kid hs ht hk ho hu
  have hr := may_rect (well_rect (tile_top hs ht).1)
  have hin := kid_in hs ht hu
  have he := svS_at hu
  obtain ⟨hb1, hb2, -⟩ := ev_bounds ho j
  rw [aj_sp] at h1
  rw [aj_at]
  have h2 : setT t.r.x t.r.y (adjT (t.k - 1) (svS t j) u) = setT t.r.x t.r.y (setT 0 0 (adjT (t.k - 1) (svS t j) u)) := (set_set ..).symm
  rw [h2]
  have hrw : (setT 0 0 (adjT (t.k - 1) (svS t j) u)).r = ⟨0, 0, (adjR (t.k - 1) (svS t j) u.r).w, (adjR (t.k - 1) (svS t j) u.r).h⟩ := by rw [set_r, adjT_r]
  refine set_tile (by rw [setT_sz, adjT_sz]; exact hsu) h1 (by omega) ?_ (by omega) ?_
  · rw [hrw]
    unfold adjR
    unfold szA at he hb2
    split
    · rename_i h; rw [if_pos h] at he hb2; rw [if_pos h] at he; simp only; omega
    · simp only; omega
  · rw [hrw]
    unfold adjR
    unfold szA at he hb2
    split
    · simp only; omega
    · rename_i h; rw [if_neg h] at he hb2; rw [if_neg h] at he; simp only; omega

/-- The same, wherever they stand. -/
def eqS (u v : T) : Prop := setT 0 0 u = setT 0 0 v
theorem eqS_at {u v : T} (h : eqS u v) (x y : Int) : setT x y u = setT x y v := by
  rw [← set_set 0 0 x y u, ← set_set 0 0 x y v, show setT 0 0 u = setT 0 0 v from h]
theorem eqS_set (x y : Int) (u : T) : eqS (setT x y u) u := set_set x y 0 0 u
theorem eqS_r {u v : T} (h : eqS u v) : u.r.w = v.r.w ∧ u.r.h = v.r.h := by
  have h1 : (setT 0 0 u).r = (setT 0 0 v).r := by rw [show setT 0 0 u = setT 0 0 v from h]
  rw [set_r, set_r] at h1
  injection h1 with g1 g2 g3 g4
  exact ⟨g3, g4⟩
theorem map_setL (k : Int) : ∀ (x y : Int) (l : List T), (setL k x y l).map (setT 0 0) = l.map (setT 0 0)
  | x, y, [] => by simp [setL]
  | x, y, t :: l => by rw [setL, List.map_cons, List.map_cons, set_set, map_setL k _ _ l]
theorem setL_eqS (k : Int) : ∀ (l m : List T) (x y : Int), l.map (setT 0 0) = m.map (setT 0 0) → setL k x y l = setL k x y m
  | [], [], x, y, _ => rfl
  | [], _ :: _, x, y, h => by simp at h
  | _ :: _, [], x, y, h => by simp at h
  | t :: l, u :: m, x, y, h => by
    rw [List.map_cons, List.map_cons] at h
    injection h with h1 h2
    have h3 : eqS t u := h1
    rw [setL, setL, eqS_at h3 x y, nxX_w (eqS_r h3).1, nxY_h (eqS_r h3).2, setL_eqS k l m _ _ h2]
theorem eqS_node {k i : Int} {r s : R} {l m : List T} (hw : r.w = s.w) (hh : r.h = s.h) (h : l.map (setT 0 0) = m.map (setT 0 0)) : eqS (.node k r i l) (.node k s i m) := by
  unfold eqS
  rw [setT, setT, hw, hh, setL_eqS k l m 0 0 h]
theorem eqS_parts {u v : T} (h : eqS u v) : u.k = v.k ∧ u.id = v.id ∧ u.kids.map (setT 0 0) = v.kids.map (setT 0 0) := by
  have h1 : setT 0 0 u = setT 0 0 v := h
  rw [setT_eq, setT_eq] at h1
  injection h1 with g1 g2 g3 g4
  refine ⟨g1, g3, ?_⟩
  rw [← map_setL u.k 0 0 u.kids, g4, map_setL]

theorem svS_set (x y : Int) (t : T) : svS (setT x y t) = svS t := by
  funext j
  unfold svS
  rw [setT_eq]
  show evZ (szA ⟨x, y, t.r.w, t.r.h⟩ (t.k - 1)) (setL t.k x y t.kids).length j - szA ((setL t.k x y t.kids).getD j default).r (t.k - 1) = _
  rw [setL_length, List.getD_eq_getElem?_getD, List.getD_eq_getElem?_getD, setL_get]
  cases t.kids[j]? with
  | none => rfl
  | some u =>
    simp only [Option.map_some, Option.getD_some]
    rw [set_szA]; rfl
theorem svB_set (x y : Int) (t : T) : svB (setT x y t) ↔ svB t := by
  have hs := svS_set x y t
  have hk : (setT x y t).k = t.k := by rw [setT_eq]; rfl
  have hg : ∀ j, (setT x y t).kids[j]? = (t.kids[j]?).map (setT (pX t.k x (t.kids.take j)) (pY t.k y (t.kids.take j))) := fun j => by
    rw [setT_eq]; exact setL_get t.k t.kids x y j
  unfold svB
  rw [hs, hk]
  constructor
  · rintro ⟨j, u, hu, hn⟩
    rw [hg] at hu
    cases hv : t.kids[j]? with
    | none => rw [hv] at hu; cases hu
    | some v =>
      rw [hv] at hu; cases hu
      rw [set_set] at hn
      exact ⟨j, v, hv, hn⟩
  · rintro ⟨j, u, hu, hn⟩
    refine ⟨j, setT (pX t.k x (t.kids.take j)) (pY t.k y (t.kids.take j)) u, by rw [hg, hu]; rfl, ?_⟩
    rw [set_set]; exact hn
theorem svE_set (x y : Int) (t : T) : svE (setT x y t) = svE t := by
  have hb : svB (setT x y t) = svB t := propext (svB_set x y t)
  unfold svE
  rw [hb]
  rw [setT_eq]
  show (if t.k = 1 then (10 : Int) else @ite Int (okEv (szA ⟨x, y, t.r.w, t.r.h⟩ (t.k - 1)) (setL t.k x y t.kids).length) (Classical.propDecidable _) _ 7) = _
  rw [setL_length]; rfl
theorem svL_set (x y : Int) (t : T) : svL (setT x y t) = svL t := by
  refine List.ext_getElem? fun j => ?_
  unfold svL
  rw [svS_set, List.getElem?_map, List.getElem?_map, adjL_get, adjL_get]
  have hk : (setT x y t).k = t.k := by rw [setT_eq]; rfl
  have hg : (setT x y t).kids[j]? = (t.kids[j]?).map (setT (pX t.k x (t.kids.take j)) (pY t.k y (t.kids.take j))) := by
    rw [setT_eq]; exact setL_get t.k t.kids x y j
  rw [hk, hg]
  cases t.kids[j]? with
  | none => rfl
  | some u => simp only [Option.map_some, adj_set]
theorem svQ_map (t : T) : (svQ t).map (setT 0 0) = (svL t).map (setT 0 0) := by
  unfold svQ svL
  rw [List.map_map, List.map_map]
  refine List.map_congr_left fun u _ => ?_
  simp only [Function.comp, set_set]

/-- All of them, as the program spreads them. -/
noncomputable def prK (t : T) : List T := if svE t = 0 then svQ t else t.kids
noncomputable def prF : Nat → T → T
  | 0, t => t
  | n + 1, t => .node t.k t.r t.id ((prK t).map (prF n))
theorem map_two {f g : T → T} (h : ∀ u v, eqS u v → eqS (f u) (g v)) : ∀ l m : List T, l.map (setT 0 0) = m.map (setT 0 0) → (l.map f).map (setT 0 0) = (m.map g).map (setT 0 0)
  | [], [], _ => rfl
  | [], _ :: _, h => by simp at h
  | _ :: _, [], h => by simp at h
  | t :: l, u :: m, hm => by
    rw [List.map_cons, List.map_cons] at hm
    injection hm with h1 h2
    have h3 : setT 0 0 (f t) = setT 0 0 (g u) := h t u h1
    simp only [List.map_cons]
    rw [h3, map_two h l m h2]
theorem pr_al : ∀ (N : Nat) (u v : T), eqS u v → eqS (prF N u) (alF N v)
  | 0, u, v, h => h
  | N + 1, u, v, h => by
    obtain ⟨hk, hi, hm⟩ := eqS_parts h
    obtain ⟨hw, hh⟩ := eqS_r h
    have hse : svE u = svE v := by
      rw [← svE_set 0 0 u, ← svE_set 0 0 v, show setT 0 0 u = setT 0 0 v from h]
    have hsl : svL u = svL v := by
      rw [← svL_set 0 0 u, ← svL_set 0 0 v, show setT 0 0 u = setT 0 0 v from h]
    have hkk : (prK u).map (setT 0 0) = (if svE v = 0 then svL v else v.kids).map (setT 0 0) := by
      unfold prK
      rw [hse]
      split
      · rw [svQ_map, hsl]
      · exact hm
    rw [prF, alF, hk, hi]
    exact eqS_node hw hh (map_two (fun a b hab => pr_al N a b hab) _ _ hkk)
theorem prK_all {t : T} (hs : sz t ≤ 20000) (ht : tileB t = true) : (prK t).length = t.kids.length ∧ szL (prK t) = szL t.kids ∧ (prK t).map loT = t.kids.map loT ∧ ∀ (j : Nat) (u : T), (prK t)[j]? = some u → tileB u = true ∧ sz u < sz t := by
  have hL : szL (prK t) = szL t.kids := by unfold prK; split; exact svQ_sz t; rfl
  refine ⟨by unfold prK; split; exact svQ_len t; rfl, hL, by unfold prK; split; exact svQ_lo t; rfl, fun j u hu => ⟨?_, ?_⟩⟩
  · unfold prK at hu
    split at hu
    · rename_i h0
      exact svQ_tile hs ht h0 u (List.mem_of_getElem? hu)
    · exact tile_kid hs ht hu
  · have h1 := szL_mem hu
    have := sz_node t
    omega

/-- A cell of what tiles, in whose place another one of its size stands. -/
theorem put_size : ∀ (q : List Int) (t y X : T), sz t ≤ 20000 → tileB t = true → atT t q = some y → X.r.w = y.r.w → X.r.h = y.r.h →
    ∃ Y, putT X t q = some Y ∧ Y.r.w = t.r.w ∧ Y.r.h = t.r.h ∧ putT (setT y.r.x y.r.y X) t q = some (setT t.r.x t.r.y Y)
  | [], t, y, X, hs, ht, hy, hw, hh => by
    rw [atT] at hy; cases hy
    exact ⟨X, rfl, hw, hh, rfl⟩
  | k :: q, t, y, X, hs, ht, hy, hw, hh => by
    rw [atT] at hy
    cases hk : kidAt t k with
    | none => rw [hk] at hy; cases hy
    | some v =>
      rw [hk] at hy
      obtain ⟨j, rfl, hj⟩ := kid_some hk
      have h1 := sz_kid hj
      obtain ⟨Y, g1, g2, g3, g4⟩ := put_size q v y X (by omega) (tile_kid hs ht hj) hy hw hh
      refine ⟨setKid t j Y, ?_, rfl, rfl, ?_⟩
      · rw [putT, hk]; simp only [g1, Int.toNat_natCast]
      · rw [putT, hk]
        simp only [g4, Int.toNat_natCast]
        congr 1
        have hjl := (List.getElem?_eq_some_iff.1 hj).1
        have hk2 : setL t.k t.r.x t.r.y (t.kids.set j Y) = t.kids.set j (setT v.r.x v.r.y Y) := by
          refine List.ext_getElem? fun i => ?_
          rw [setL_get, pX_same _ (t.kids.take i) _ (map_set_same hj g2 i), pY_same _ (t.kids.take i) _ (map_set_same hj g3 i)]
          by_cases hij : j = i
          · subst hij
            obtain ⟨h1, h2⟩ := fit_at hs ht hj
            rw [List.getElem?_set_self hjl, List.getElem?_set_self hjl, h1, h2]
            rfl
          · rw [List.getElem?_set_ne hij, List.getElem?_set_ne hij]
            cases hu : t.kids[i]? with
            | none => rfl
            | some u =>
              obtain ⟨h1, h2⟩ := fit_at hs ht hu
              have h3 := sz_kid hu
              rw [h1, h2]
              exact congrArg some (set_id (sz u) u (Nat.le_refl _) (by omega) (tile_kid hs ht hu))
        rw [setT_eq t.r.x t.r.y (setKid t j Y)]
        show setKid t j (setT v.r.x v.r.y Y) = T.node t.k ⟨t.r.x, t.r.y, t.r.w, t.r.h⟩ t.id (setL t.k t.r.x t.r.y (t.kids.set j Y))
        rw [hk2]; rfl
/-- What the program puts there is what the document's is, when all is set. -/
theorem at_put {t u : T} {p : List Int} (hs : sz t ≤ 20000) (ht : tileB t = true) (hu : atT t p = some u) : putT (setT u.r.x u.r.y (svP u)) t p = some (atS t p) := by
  obtain ⟨Y, g1, -, -, g4⟩ := put_size p t u (svN u) hs ht hu rfl rfl
  have he : eqS (svP u) (svN u) := eqS_node rfl rfl (svQ_map u)
  rw [eqS_at he, g4]
  unfold atS
  rw [hu]
  simp only [Option.getD_some]
  rw [g1]; rfl
end Go.Proofs.YtcdiogifgemjbaaGreat
/- Even sizes: the program's answer. -/
namespace Go.Proofs.YtcdiogifgemjbaaGreat
open Go.RowKit

set_option maxHeartbeats 2000000 in
set_option maxRecDepth 100000 in
theorem psizesE_no (s n : Int) (w : World) (h : ¬ okEv s n) : Calls Tryz.prog 13 #[.int .i64 s, .int .i64 n] w fun e w' =>
    ∃ v, ((okEv s n ∧ e = .returned (.tuple #[v, .bool true]) ∧ Row w' v (ints (evL s n.toNat))) ∨ (¬ okEv s n ∧ e = .returned (.tuple #[v, .bool false]) ∧ Row w' v (ints []))) ∧ Below w.heap.size w w' := by
  have O0 : Hid (Row w (.slice none 0 0) (ints [])) := Lib.hid (OwnI.nil w w.heap.size).row
  have B0 : Hid (Below w.heap.size w w) := Lib.hid (Below.refl _ _)
  have HN := Lib.hid h
  have hc : (decide (n < 1) = true) ∨ (decide (n < 1) = false ∧ decide (20000 < n) = true) ∨ (decide (n < 1) = false ∧ decide (20000 < n) = false ∧ wrap64 (2 * n) = 2 * n ∧ wrap64 (2 * n - 1) = 2 * n - 1 ∧ decide (s < 2 * n - 1) = true) ∨ (decide (n < 1) = false ∧ decide (20000 < n) = false ∧ wrap64 (2 * n) = 2 * n ∧ wrap64 (2 * n - 1) = 2 * n - 1 ∧ decide (s < 2 * n - 1) = false ∧ decide (2147483647 < s) = true) := by
    by_cases h1 : n < 1
    · exact .inl (decide_eq_true h1)
    · by_cases h2 : 20000 < n
      · exact .inr (.inl ⟨decide_eq_false h1, decide_eq_true h2⟩)
      · have e1 : wrap64 (2 * n) = 2 * n := by rw [← wrapE]; exact wrap_id (by omega)
        have e2 : wrap64 (2 * n - 1) = 2 * n - 1 := by rw [← wrapE]; exact wrap_id (by omega)
        by_cases h3 : s < 2 * n - 1
        · exact .inr (.inr (.inl ⟨decide_eq_false h1, decide_eq_false h2, e1, e2, decide_eq_true h3⟩))
        · refine .inr (.inr (.inr ⟨decide_eq_false h1, decide_eq_false h2, e1, e2, decide_eq_false h3, decide_eq_true ?_⟩))
          unfold okEv at h
          omega
  clear h
  rcases hc with d1 | ⟨d1, d2⟩ | ⟨d1, d2, e1, e2, d3⟩ | ⟨d1, d2, e1, e2, d3, d4⟩
  all_goals
    go_enter Tryz.func13, Tryz.ntmps13
    go_wp2
    go_ret2
    refine ⟨_, .inr ⟨HN.out, rfl, ?_⟩, ?_⟩
    · exact O0.out
    · exact B0.out

set_option maxHeartbeats 2000000 in
set_option maxRecDepth 100000 in
theorem psizesE_yes (s : Int) (n : Nat) (w : World) (h : okEv s n) : Calls Tryz.prog 13 #[.int .i64 s, .int .i64 n] w fun e w' =>
    ∃ v, ((okEv s n ∧ e = .returned (.tuple #[v, .bool true]) ∧ Row w' v (ints (evL s (n : Int).toNat))) ∨ (¬ okEv s n ∧ e = .returned (.tuple #[v, .bool false]) ∧ Row w' v (ints []))) ∧ Below w.heap.size w w' := by
  have HN := Lib.hid h
  obtain ⟨h1, h2, h3, h4⟩ := h
  have d1 : decide ((n : Int) < 1) = false := decide_eq_false (by omega)
  have d2 : decide (20000 < (n : Int)) = false := decide_eq_false (by omega)
  have e1 : wrap64 (2 * (n : Int)) = 2 * n := by rw [← wrapE]; exact wrap_id (by omega)
  have e2 : wrap64 (2 * (n : Int) - 1) = 2 * n - 1 := by rw [← wrapE]; exact wrap_id (by omega)
  have d3 : decide (s < 2 * (n : Int) - 1) = false := decide_eq_false (by omega)
  have d4 : decide (2147483647 < s) = false := decide_eq_false (by omega)
  have e3 : wrap64 (s - (n : Int)) = s - n := by rw [← wrapE]; exact wrap_id (by omega)
  have e4 : wrap64 (s - (n : Int) + 1) = s - n + 1 := by rw [← wrapE]; exact wrap_id (by omega)
  have s0 : ((n : Int) == 0) = false := by rw [beq_eq_false_iff_ne]; omega
  have s0' : (n == 0) = false := by rw [beq_eq_false_iff_ne]; omega
  have s1 : ((n : Int) = 0) = False := by simp; omega
  have s1' : (n = 0) = False := by simp; omega
  have hsn : s - (n : Int) + 1 = s - ((n : Int) - 1) := by omega
  have hq : (s - (n : Int) + 1).tdiv n = (s - ((n : Int) - 1)) / n := by rw [hsn]; exact Int.tdiv_eq_ediv_of_nonneg (by omega)
  have hr : (s - (n : Int) + 1).tmod n = (s - ((n : Int) - 1)) % n := by rw [hsn]; exact Int.tmod_eq_emod_of_nonneg (by omega)
  obtain ⟨-, -, b1, b2, b3, b4⟩ := ev_bounds HN.out 0
  have HEV : Hid (∀ k : Nat, evZ s n k = if (k : Int) < (s - ((n : Int) - 1)) % n then (s - ((n : Int) - 1)) / n + 1 else (s - ((n : Int) - 1)) / n) := Lib.hid fun k => rfl
  clear hsn
  generalize hqq : (s - ((n : Int) - 1)) / n = q at hq b1 b2 HEV
  generalize hrr : (s - ((n : Int) - 1)) % n = r at hr b3 b4 HEV
  have e5 : wrap64 q = q := by rw [← wrapE]; exact wrap_id (by omega)
  have e6 : wrap64 (q + 1) = q + 1 := by rw [← wrapE]; exact wrap_id (by omega)
  clear hqq hrr
  have HLIM := Lib.hid h2
  clear h1 h2 h3 h4 b1 b2 b3 b4
  go_enter Tryz.func13, Tryz.ntmps13
  go_wp2_with fail
  go_quiet (fail)
  have OQ : Hid (OwnI (w.drewN nq) w.heap.size (.slice none 0 0) []) := Lib.hid (OwnI.nil _ _)
  have BQ : Hid (Below w.heap.size w (w.drewN nq)) := Lib.hid (below_drewN (Below.refl _ _) nq)
  generalize w.drewN nq = wq at OQ BQ ⊢
  go_wp2
  simp only [e1, e2, e3, e4, e5]
  clear e1 e2 e3 e4 e5
  go_loopg [8, 41] (n + 1) (fun g v i wr => ∃ (k : Nat), g + k = n + 1 ∧ k ≤ n ∧ i = .int .i64 k ∧ OwnI wr w.heap.size v ((evL s n).take k) ∧ Below w.heap.size w wr)
  case atStart => exact ⟨0, by omega, by omega, rfl, by simpa using OQ.out, BQ.out⟩
  case round =>
    obtain ⟨k, hg, hk, rfl, hown, hbr⟩ := hrel
    have HG := Lib.hid hg
    have HO := Lib.hid hown
    have HBR := Lib.hid hbr
    clear hg hown hbr
    by_cases hlt : k < n
    · have HST := Lib.hid (evL_step (s := s) hlt)
      have hlti : (k : Int) < (n : Int) := by omega
      have hv := HEV.out k
      have e9 : wrap64 ((k : Int) + 1) = ((k + 1 : Nat) : Int) := by have := HLIM.out; rw [← wrapE, wrap_id (by omega)]; omega
      have HCL : Hid (((evL s n).take k).length + [evZ s n k].length ≤ 1954687338211) := Lib.hid (by
        have h3 : ((evL s n).take k).length ≤ k := List.length_take_le _ _; have := HLIM.out; rw [List.length_singleton]; omega)
      have A1 : Hid (OwnI (wr.alloc (.cells #[.int .i64 (evZ s n k)] 3)) w.heap.size u8 ((evL s n).take k)) := Lib.hid (HO.out.up ((Below.refl _ _).alloc (Nat.le_refl _) _))
      have A2 : Hid (Below w.heap.size w (wr.alloc (.cells #[.int .i64 (evZ s n k)] 3))) := Lib.hid (HBR.out.alloc (by have := HBR.out.size; omega) _)
      have A3 : Hid (Row (wr.alloc (.cells #[.int .i64 (evZ s n k)] 3)) (.slice (some ⟨wr.heap.size, 0, none⟩) 1 1) (ints [evZ s n k])) := Lib.hid (row_one wr (.int .i64 (evZ s n k)) 3)
      have hcase : (decide ((k : Int) < r) = true ∧ evZ s n k = q + 1) ∨ (decide ((k : Int) < r) = false ∧ evZ s n k = q) := by
        by_cases hkr : (k : Int) < r
        · exact .inl ⟨decide_eq_true hkr, by rw [hv, if_pos hkr]⟩
        · exact .inr ⟨decide_eq_false hkr, by rw [hv, if_neg hkr]⟩
      clear hv
      rcases hcase with ⟨d5, hv⟩ | ⟨d5, hv⟩
      all_goals
        rw [hv] at HST HCL A1 A2 A3
        clear hv
        go_wp2_with (at_builtin; refine wpList_append_ints rfl _ _ rfl w.heap.size u8 _ ((evL s n).take k) [_] rfl A1.out rfl A3.out (by simp) HCL.out w A2.out (Nat.le_refl _) ?_; intro g cap3 w5 hown5 hb5 hgr5 hpl5)
        have HO5 := Lib.hid hown5
        have HB5 := Lib.hid hb5
        clear hown5 hb5 hgr5 hpl5
        go_wp2
        go_roundg (gk - 1)
        case measure => have := HG.out; omega
        case rel =>
          refine ⟨k + 1, by have := HG.out; omega, by omega, by first | rfl | exact congrArg _ e9 | (rw [e9]) | (congr 1; omega) | (simp only [IntKind.wrap_i64, e9]), ?_, HB5.out⟩
          rw [HST.out]
          simpa using HO5.out
    · obtain rfl : k = n := by omega
      have hkl : ((k : Int) < (k : Int)) = False := by simp
      go_wp2
      go_ret2
      refine ⟨_, .inl ⟨HN.out, rfl, ?_⟩, HBR.out⟩
      have := HO.out
      rw [List.take_of_length_le (by rw [evL_len]; omega)] at this
      rw [Int.toNat_natCast]
      exact this.row
theorem evn_any : EvnK := by
  intro s n w hs hn
  by_cases h : okEv s n
  · obtain ⟨m, rfl⟩ := Int.eq_ofNat_of_zero_le (show 0 ≤ n by have := h.1; omega)
    exact psizesE_yes s m w h
  · exact psizesE_no s n w h
end Go.Proofs.YtcdiogifgemjbaaGreat
