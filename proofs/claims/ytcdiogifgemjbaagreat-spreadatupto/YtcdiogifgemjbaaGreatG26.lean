/- Texts of this seat, 3 in one file. -/
import Derived.Test.YtcdiogifgemjbaaGreatG08
import Derived.Test.YtcdiogifgemjbaaGreatG25
import Derived.Test.YtcdiogifgemjbaaGreatG24
import Derived.Test.YtcdiogifgemjbaaGreatG05
import Derived.Deep.RegionLaw
/- A cell whose kids are of one size: the document's answers, in words. No walk. -/
namespace Go.Proofs.YtcdiogifgemjbaaGreat
open Go.RowKit

/-- By how much the kids change. -/
def svS (t : T) (j : Nat) : Int := evZ (szA t.r (t.k - 1)) t.kids.length j - szA (t.kids.getD j default).r (t.k - 1)
noncomputable def svL (t : T) : List T := (adjL (t.k - 1) (svS t) t.kids).map (setT 0 0)
noncomputable def svN (t : T) : T := .node t.k t.r t.id (svL t)
/-- A kid can't be of that size. -/
def svB (t : T) : Prop := ∃ (j : Nat) (u : T), t.kids[j]? = some u ∧ ajE (t.k - 1) (svS t j) (setT 0 0 u) ≠ 0
noncomputable def svE (t : T) : Int := if t.k = 1 then 10 else @ite Int (okEv (szA t.r (t.k - 1)) t.kids.length) (Classical.propDecidable _) (@ite Int (svB t) (Classical.propDecidable _) 7 0) 7
theorem svE_leaf {t : T} (h : t.k = 1) : svE t = 10 := if_pos h
theorem svE_none {t : T} (h : t.k ≠ 1) (ho : ¬ okEv (szA t.r (t.k - 1)) t.kids.length) : svE t = 7 := by
  unfold svE; rw [if_neg h, if_neg ho]
theorem svE_bad {t : T} (h : t.k ≠ 1) (ho : okEv (szA t.r (t.k - 1)) t.kids.length) (hb : svB t) : svE t = 7 := by
  unfold svE; rw [if_neg h, if_pos ho, if_pos hb]
theorem svE_ok {t : T} (h : t.k ≠ 1) (ho : okEv (szA t.r (t.k - 1)) t.kids.length) (hb : ¬ svB t) : svE t = 0 := by
  unfold svE; rw [if_neg h, if_pos ho, if_neg hb]
theorem svE_zero {t : T} (h : svE t = 0) : t.k ≠ 1 ∧ okEv (szA t.r (t.k - 1)) t.kids.length ∧ ¬ svB t := by
  unfold svE at h
  split at h
  · omega
  · rename_i h1
    split at h
    · rename_i h2
      split at h
      · omega
      · rename_i h3
        exact ⟨h1, h2, h3⟩
    · omega
theorem svL_len (t : T) : (svL t).length = t.kids.length := by
  unfold svL; rw [List.length_map, adjL_len]
theorem aj_sp {ax b : Int} {u : T} : ajT ax b (setT 0 0 u) = setT 0 0 (adjT ax b u) := by
  unfold ajT
  rw [set_r]
  exact adj_set ax b 0 0 0 0 u
theorem svL_get {t : T} {j : Nat} {u : T} (h : t.kids[j]? = some u) : (svL t)[j]? = some (ajT (t.k - 1) (svS t j) (setT 0 0 u)) := by
  unfold svL
  rw [List.getElem?_map, adjL_get, h, aj_sp]; rfl
theorem svL_step {t : T} {j : Nat} {u : T} (h : t.kids[j]? = some u) : (svL t).take (j + 1) = (svL t).take j ++ [ajT (t.k - 1) (svS t j) (setT 0 0 u)] := by
  rw [List.take_add_one, svL_get h]; rfl
theorem szL_map {f : T → T} : ∀ l : List T, (∀ u ∈ l, sz (f u) = sz u) → szL (l.map f) = szL l
  | [], _ => rfl
  | t :: l, h => by
    rw [List.map_cons, szL, szL, h t (List.mem_cons_self ..), szL_map l fun u hu => h u (List.mem_cons_of_mem _ hu)]
theorem svL_sz (t : T) : szL (svL t) = szL t.kids := by
  unfold svL
  rw [szL_map _ fun u _ => setT_sz 0 0 u, adjL_sz]
theorem svN_sz (t : T) : sz (svN t) = sz t := by
  have h := sz_node t
  unfold svN
  rw [sz, svL_sz]; omega
theorem svS_at {t : T} {j : Nat} {u : T} (h : t.kids[j]? = some u) : svS t j = evZ (szA t.r (t.k - 1)) t.kids.length j - szA u.r (t.k - 1) := by
  unfold svS; rw [List.getD_eq_getElem?_getD, h]; rfl

/-- A kid of what tiles can be of that size just if it is no smaller than it can be least. -/
theorem sv_kid {t : T} {j : Nat} {u : T} (hs : sz t ≤ 20000) (ht : tileB t = true) (hk : t.k ≠ 1) (ho : okEv (szA t.r (t.k - 1)) t.kids.length) (h : t.kids[j]? = some u) :
    tileB (setT 0 0 u) = true ∧ (t.k - 1 = 1 ∨ t.k - 1 = 2) ∧ 1 ≤ evZ (szA t.r (t.k - 1)) t.kids.length j ∧ evZ (szA t.r (t.k - 1)) t.kids.length j ≤ 10000 ∧ 1 ≤ szA u.r (t.k - 1) ∧ szA u.r (t.k - 1) ≤ 10000 ∧
    (ajE (t.k - 1) (svS t j) (setT 0 0 u) = 0 ↔ lsT (t.k - 1) u ≤ evZ (szA t.r (t.k - 1)) t.kids.length j) := by
  have hw := (tile_top hs ht).1
  have hr := may_rect (well_rect hw)
  have htu := tile_kid hs ht h
  have hsu : sz u ≤ 20000 := by have := sz_kid h; omega
  have hru := may_rect (well_rect (tile_top hsu htu).1)
  have hax : t.k - 1 = 1 ∨ t.k - 1 = 2 := by rcases well_kind hw with h | h | h <;> omega
  have hset : tileB (setT 0 0 u) = true := set_tile hsu htu (by omega) (by omega) (by omega) (by omega)
  have hb := ev_bounds ho j
  have hst : szA t.r (t.k - 1) ≤ 10000 := by unfold szA; split <;> omega
  have hsz : 1 ≤ szA u.r (t.k - 1) ∧ szA u.r (t.k - 1) ≤ 10000 := by unfold szA; split <;> omega
  have haxb : axB (t.k - 1) = true := (axB_iff _).2 hax
  have hat : atA (setT 0 0 u).r (t.k - 1) = 0 := by rw [set_r]; unfold atA; split <;> (try split) <;> rfl
  refine ⟨hset, hax, hb.1, by omega, hsz.1, hsz.2, ?_⟩
  rw [aj_do ⟨hset, haxb⟩, hat, set_szA, ls_set, svS_at h]
  generalize evZ (szA t.r (t.k - 1)) t.kids.length j = e at *
  constructor
  · intro h0
    split at h0
    · omega
    · omega
  · intro h0
    rw [if_neg (by omega)]
theorem sv_bad_iff {t : T} (hs : sz t ≤ 20000) (ht : tileB t = true) (hk : t.k ≠ 1) (ho : okEv (szA t.r (t.k - 1)) t.kids.length) :
    svB t ↔ ∃ (j : Nat) (u : T), t.kids[j]? = some u ∧ evZ (szA t.r (t.k - 1)) t.kids.length j < lsT (t.k - 1) u := by
  constructor
  · rintro ⟨j, u, hu, hn⟩
    have := (sv_kid hs ht hk ho hu).2.2.2.2.2.2
    exact ⟨j, u, hu, Int.not_le.1 fun h => hn (this.2 h)⟩
  · rintro ⟨j, u, hu, hn⟩
    have := (sv_kid hs ht hk ho hu).2.2.2.2.2.2
    exact ⟨j, u, hu, fun h => by have := this.1 h; omega⟩

/-- What is spread has kids that tile. -/
theorem sv_tile {t : T} (hs : sz t ≤ 20000) (ht : tileB t = true) (h0 : svE t = 0) : ∀ v ∈ svL t, tileB v = true := by
  obtain ⟨hk, ho, hb⟩ := svE_zero h0
  intro v hv
  obtain ⟨j, hj, rfl⟩ := List.getElem_of_mem hv
  have hj' : j < t.kids.length := by rw [svL_len] at hj; exact hj
  obtain ⟨u, hu⟩ : ∃ u, t.kids[j]? = some u := ⟨_, List.getElem?_eq_getElem hj'⟩
  have hg := svL_get hu
  rw [List.getElem?_eq_getElem hj] at hg
  rw [Option.some.inj hg]
  obtain ⟨h1, hax, h3, h4, h5, h6, h7⟩ := sv_kid hs ht hk ho hu
  have hsu : sz u ≤ 20000 := by have := sz_kid hu; omega
  have htu := tile_kid hs ht hu
  have hru := may_rect (well_rect (tile_top hsu htu).1)
  have hls : lsT (t.k - 1) u ≤ evZ (szA t.r (t.k - 1)) t.kids.length j := h7.1 (Classical.byContradiction fun h => hb ⟨j, u, hu, h⟩)
  have he := svS_at hu
  rw [aj_sp]
  have hcan : canB (t.k - 1) (svS t j) u := by
    unfold canB gvT; rw [he]; omega
  refine adj_tile hax hsu htu hcan (by omega) ?_ (by omega) ?_
  · unfold adjR; unfold szA at he h4
    split
    · rename_i h; rw [if_pos h] at he h4; simp only; omega
    · simp only; omega
  · unfold adjR; unfold szA at he h4
    split
    · simp only; omega
    · rename_i h; rw [if_neg h] at he h4; simp only; omega

/-- The cell at a path, or around a leaf, is spread. -/
noncomputable def atS (t : T) (p : List Int) : T := setT t.r.x t.r.y ((putT (svN ((atT t p).getD zT)) t p).getD zT)
noncomputable def atE (t : T) (p : List Int) : Int := if tileB t = true then (if (atT t p).isSome = true then svE ((atT t p).getD zT) else 6) else 1
noncomputable def arE (t : T) (id : Int) : Int := if tileB t = true then (match findT id t with | none => 6 | some p => if p = [] then 10 else atE t (p.take (p.length - 1))) else 1
noncomputable def arS (t : T) (id : Int) : T := atS t (((findT id t).getD []).take (((findT id t).getD []).length - 1))

/-- All of them. -/
noncomputable def alF : Nat → T → T
  | 0, t => t
  | n + 1, t => .node t.k t.r t.id ((if svE t = 0 then svL t else t.kids).map (alF n))
theorem alF_fuel : ∀ (n m : Nat) (t : T), sz t ≤ n → sz t ≤ m → alF n t = alF m t
  | 0, m, t, h, _ => by have := sz_pos t; omega
  | n + 1, 0, t, _, h => by have := sz_pos t; omega
  | n + 1, m + 1, t, h1, h2 => by
    rw [alF, alF]
    congr 1
    refine List.map_congr_left fun u hu => alF_fuel n m u ?_ ?_
    all_goals
      have hsz : sz u ≤ szL t.kids := by
        have hL : szL (if svE t = 0 then svL t else t.kids) = szL t.kids := by split; exact svL_sz t; rfl
        rw [← hL]
        obtain ⟨j, hj, rfl⟩ := List.getElem_of_mem hu
        exact szL_mem (List.getElem?_eq_getElem hj)
      have := sz_node t
      omega
noncomputable def alT (t : T) : T := alF (sz t) t
noncomputable def alE (t : T) : Int := if tileB t = true then 0 else 1
end Go.Proofs.YtcdiogifgemjbaaGreat
/- One number more in a row of the call's own, in a statement that draws its order. -/
namespace Go.Proofs.YtcdiogifgemjbaaGreat
open Go.RowKit

theorem step_append_int {w : World} {ops : Array Oper} {o : Oper} {a : Act} {K : Act → World → Prop} {Q : Exit → Act → World → Prop} {E : Prop} (hgd : o.guard = none) (s x : Operand)
    (ho : o.op = .call { callee := .builtin .append, args := #[s, x], argTypes := #[27, 27] })
    (base : Nat) (v : Value) (xs : List Int) (g0 : Nat) (m : Int) (hs : a.eval s = v) (hown : OwnI w base v xs) (hx : a.eval x = .slice (some ⟨g0, 0, none⟩) 1 1) (hc0 : w.cell? ⟨g0, 0, none⟩ = some (.int .i64 m))
    (h63 : xs.length + 1 ≤ 1000000) (w0 : World) (hb : Below base w0 w) (hbase0 : base ≤ w0.heap.size)
    (h : ∀ g cap w', OwnI w' base (.slice (some ⟨g, 0, none⟩) (xs.length + 1) cap) (xs ++ [m]) → Below base w0 w' → w.grownBy w' v.ownBlock → (v.ownBlock = some g ∨ g = w.heap.size) → K (a.put o.dst (.slice (some ⟨g, 0, none⟩) (xs.length + 1) cap)) w') :
    if Region.wanted o (yielded ops a.tmps) = true then Oper.wp Tryz.prog o a w K Q else E := by
  have hbase : base ≤ w.heap.size := Nat.le_trans hbase0 hb.size
  obtain ⟨i, hi, hz0, hz2, hz3⟩ := info_parts infoI
  have hc : ∀ j u, (ints [m])[j]? = some u → w.cell? ((⟨g0, 0, none⟩ : Addr).add j) = some u := fun j u hu => by
    cases j with
    | zero => simp [ints] at hu; subst hu; simpa [Addr.add] using hc0
    | succ j => simp [ints] at hu
  refine step_append_lies w hgd s x 27 ho base 3 i (.int .i64 0) 1 8 Tryz.underlying27 hi hz0 hz2 hz3 rfl (by decide) v xs.length (ints xs) hs hown ⟨g0, 0, none⟩ 1 1 (ints [m]) hx (by simp [ints]) hc (ints_one _) (by decide) (by unfold maxLen; omega) (by omega) hbase w.heap.size rfl ?_
  intro g cap' w' g1 g2 g3 _
  refine h g cap' w' ?_ (hb.grown g2 hbase (fun k hk => (hown.lt k hk).1)) g2 g3
  rw [← ints_append] at g1
  have hl : (xs ++ [m]).length = xs.length + 1 := by simp
  unfold OwnI
  rw [hl]; exact g1
end Go.Proofs.YtcdiogifgemjbaaGreat
/- Both, the elder one and the new one: the document's answer. -/
namespace Go.Proofs.YtcdiogifgemjbaaGreat
open Go.RowKit

abbrev pairC (c d : C) : Obj := .cells #[.int .u8 c.k, .int .i64 c.r.x, .int .i64 c.r.y, .int .i64 c.r.w, .int .i64 c.r.h, .int .i64 c.id, .slice c.a c.n c.cap, .int .u8 d.k, .int .i64 d.r.x, .int .i64 d.r.y, .int .i64 d.r.w, .int .i64 d.r.h, .int .i64 d.id, .slice d.a d.n d.cap] 26
theorem pair_own (w : World) (base : Nat) (hb : base ≤ w.heap.size) (c d : C) : OwnC (w.alloc (pairC c d)) base (.slice (some ⟨w.heap.size, 0, none⟩) 2 2) [c, d] := by
  refine ⟨by simp [flatC_length], .inr ⟨w.heap.size, 2, _, rfl, hb, heap_alloc_new w _, by simp, by unfold maxLen; omega, rfl, ?_⟩⟩
  rfl

def BothSays (l : List C) (w : World) (e : Ending) (w' : World) : Prop := ∃ v, e = .returned v ∧ OwnC w' w.heap.size v l ∧ Below w.heap.size w w'
theorem both_end {w W : World} {l : List C} {c d x y : C} {n : Nat} (hn : n = W.heap.size + 2) (h : l = [c, d]) (hb : Below w.heap.size w W) : BothSays l w (.returned (.slice (some ⟨n, 0, none⟩) 2 2)) (((W.alloc (cbox x)).alloc (cbox y)).alloc (pairC c d)) := by
  subst h
  have hb2 : Below w.heap.size w ((W.alloc (cbox x)).alloc (cbox y)) := (hb.alloc hb.size _).alloc (by have := hb.size; simp; omega) _
  have hs : ((W.alloc (cbox x)).alloc (cbox y)).heap.size = n := by simp; omega
  have h := pair_own ((W.alloc (cbox x)).alloc (cbox y)) _ hb2.size c d
  rw [hs] at h
  exact ⟨_, rfl, h, hb2.alloc hb2.size _⟩

end Go.Proofs.YtcdiogifgemjbaaGreat
