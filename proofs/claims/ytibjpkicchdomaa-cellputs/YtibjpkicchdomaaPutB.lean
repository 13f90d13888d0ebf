/- A place in a tree of one's own, and what the tree is if another one stands there. -/
import Derived.Test.YtibjpkicchdomaaPutA
namespace Go.Proofs.Ytibjpkicchdomaa
open Go.RowKit

def HasRow (w : World) (base : Nat) (y : C) : Prop := ∃ cs, OwnC w base (.slice y.a y.n y.cap) cs

structure PlaceAt (W : World) (base B : Nat) (t : T) (q : List Int) (b o : Nat) (u : T) (x : C) (S : List Nat) (cur : Array Value) : Prop where
  cat : CAt W b o x
  own : OwnT W base x u S
  nodup : S.Nodup
  out : b ∉ S
  ge : base ≤ b
  blk : W.heap[b]? = some (.cells cur 26 (0, 0))
  path : atT t q = some u
  ctx : ∀ (w' : World) (y : C) (u' : T), (∀ k, base ≤ k → k < W.heap.size → k ∉ S → k ≠ b → w'.heap[k]? = W.heap[k]?) → w'.heap[b]? = some (.cells (setO cur o y) 26 (0, 0)) → Is w' y u' → HasRow w' base y →
    ∃ z t', putT u' t q = some t' ∧ CAt w' B 0 z ∧ Is w' z t' ∧ HasRow w' base z
def Place (W : World) (base B : Nat) (t : T) (q : List Int) (b o : Nat) (u : T) : Prop := ∃ x S cur, PlaceAt W base B t q b o u x S cur

theorem place_top {W : World} {base B : Nat} {t : T} {x : C} {S : List Nat} (hx : Box7 W B x) (ho : OwnT W base x t S) (hn : S.Nodup) (hout : B ∉ S) (hge : base ≤ B) : Place W base B t [] B 0 t := by
  have hb : W.heap[B]? = some (cbox x) := hx
  refine ⟨x, S, _, hx.cat, ho, hn, hout, hge, hb, rfl, fun w' y u' _ hbl hi hr => ?_⟩
  exact ⟨y, u', rfl, cat_of_block hbl (by simp), hi, hr⟩

theorem OwnT.cases' {w : World} {base : Nat} {c : C} {t : T} {S : List Nat} (h : OwnT w base c t S) : ∃ (cs : List C) (Ss : List (List Nat)), OwnC w base (.slice c.a c.n c.cap) cs ∧ cs.length = t.kids.length ∧ Ss.length = t.kids.length ∧ c.fine ∧ t.k = c.k ∧ t.r = c.r ∧ t.id = c.id ∧ S = blk (.slice c.a c.n c.cap) ++ Ss.flatten ∧
    ∀ (j : Nat) (x : C) (u : T) (S' : List Nat), cs[j]? = some x → t.kids[j]? = some u → Ss[j]? = some S' → OwnT w base x u S' := by
  cases h with
  | mk c kids cs Ss fine row len slen each => exact ⟨cs, Ss, row, len, slen, fine, rfl, rfl, rfl, rfl, each⟩

/-- One step further. -/
theorem place_step {W : World} {base B : Nat} {t u u2 : T} {q : List Int} {b o : Nat} {j : Nat} (h : Place W base B t q b o u) (hk : u.kids[j]? = some u2) :
    ∃ (x : C) (g : Nat), CAt W b o x ∧ x.a = some ⟨g, 0, none⟩ ∧ x.n = u.kids.length ∧ Place W base B t (q ++ [(j : Int)]) g (j * 7) u2 := by
  obtain ⟨x, S, cur, h⟩ := h
  obtain ⟨cs, Ss, row, len, slen, fine, e1, e2, e3, rfl, each⟩ := h.own.cases'
  have hjl := (List.getElem?_eq_some_iff.1 hk).1
  have hxn : x.n = u.kids.length := h.own.is.n
  obtain ⟨g, cap, hv, hbg, hgl⟩ := row.form (by omega)
  have hxa : x.a = some ⟨g, 0, none⟩ := by injection hv
  have hjc : j < cs.length := by omega
  have hxc := List.getElem?_eq_getElem hjc
  have hSj := List.getElem?_eq_getElem (show j < Ss.length by omega)
  have hown2 := each j _ u2 _ hxc hk hSj
  have hkid : kidAt u (j : Int) = some u2 := by unfold kidAt; rw [if_pos (by omega)]; simpa using hk
  have hblk : blk (.slice x.a x.n x.cap) = [g] := by rw [hxa]; rfl
  have hgS : g ∈ blk (.slice x.a x.n x.cap) ++ Ss.flatten := List.mem_append_left _ (by rw [hblk]; simp)
  have hbne : b ≠ g := fun e => h.out (e ▸ hgS)
  have hnd := List.nodup_append.1 h.nodup
  have hgn : g ∉ Ss.flatten := fun hm => hnd.2.2 g (by rw [hblk]; simp) g hm rfl
  have hrow2 : OwnC W base (.slice (some ⟨g, 0, none⟩) x.n x.cap) cs := by rw [← hxa]; exact row
  obtain ⟨curg, hcurg⟩ : ∃ curg, W.heap[g]? = some (.cells curg 26 (0, 0)) := by
    rcases hrow2.2 with ⟨h0, -⟩ | ⟨g', cap', cur', he, _, hgg, _⟩
    · cases h0
    · have e : g = g' := by injection he with e1 e2 e3; injection e1 with e1; injection e1
      subst e; exact ⟨cur', hgg⟩
  have hcat : CAt W g (j * 7) cs[j] := cat_of_flat (hrow2.cells (g := g) rfl) j _ hxc
  refine ⟨x, g, h.cat, hxa, hxn, cs[j], Ss[j], curg, hcat, hown2, flat_one_nodup hnd.2.1 hSj, fun hm => hgn (mem_flat.2 ⟨j, _, hSj, hm⟩), hbg, hcurg, ?_, fun w' y u' hsame hbl hi hr => ?_⟩
  · rw [atT_append, h.path]
    simp only [atT, hkid]
  · have hrw : OwnC w' base (.slice x.a x.n x.cap) (cs.set j y) := by
      rw [hxa]
      exact own_put hrow2 hjc (by rw [hbl, putO_block hcurg y])
    have hbB : w'.heap[b]? = some (.cells (setO cur o x) 26 (0, 0)) := by
      rw [hsame b h.ge (lt_of_block h.blk) (fun hm => h.out (List.mem_append_right _ (mem_flat.2 ⟨j, _, hSj, hm⟩))) hbne, h.blk, setO_same h.blk h.cat]
    have hix : Is w' x (setKid u j u') := by
      unfold setKid
      rw [e1, e2, e3]
      refine .mk x (u.kids.set j u') (cs.set j y) hrw.row (by rw [List.length_set, List.length_set]; exact len) fine fun i a c' ha hc' => ?_
      by_cases hij : j = i
      · subst hij
        rw [List.getElem?_set_self hjc] at ha
        rw [List.getElem?_set_self hjl] at hc'
        cases ha; cases hc'
        exact hi
      · rw [List.getElem?_set_ne hij] at ha hc'
        have hil : i < Ss.length := by rw [slen]; exact (List.getElem?_eq_some_iff.1 hc').1
        have hSi := List.getElem?_eq_getElem hil
        have hoi := each i a c' _ ha hc' hSi
        refine (hoi.frame fun m hm => hsame m (hoi.ge m hm).1 (hoi.ge m hm).2 (fun hmj => hij ?_) (fun e => hgn (mem_flat.2 ⟨i, _, hSi, e ▸ hm⟩))).is
        exact (flat_disj hnd.2.1 hSi hSj hm hmj).symm
    obtain ⟨z, t', hp, hz⟩ := h.ctx w' x (setKid u j u') (fun m hm0 hm hmS hmb => hsame m hm0 hm (fun hmj => hmS (List.mem_append_right _ (mem_flat.2 ⟨j, _, hSj, hmj⟩))) (fun e => hmS (e ▸ hgS))) hbB hix ⟨_, hrw⟩
    exact ⟨z, t', by rw [put_append h.path hkid]; exact hp, hz⟩
theorem cat_inj {w : World} {b o : Nat} {c d : C} (h : CAt w b o c) (g : CAt w b o d) : c = d := by
  obtain ⟨h0, h1, h2, h3, h4, h5, h6⟩ := h
  obtain ⟨g0, g1, g2, g3, g4, g5, g6⟩ := g
  obtain ⟨ck, ⟨x, y, z, v⟩, ci, ca, cn, cc⟩ := c
  obtain ⟨dk, ⟨x', y', z', v'⟩, di, da, dn, dc⟩ := d
  simp only at *
  rw [h0] at g0; rw [h1] at g1; rw [h2] at g2; rw [h3] at g3; rw [h4] at g4; rw [h5] at g5; rw [h6] at g6
  cases g0; cases g1; cases g2; cases g3; cases g4; cases g5; cases g6
  rfl
end Go.Proofs.Ytibjpkicchdomaa
