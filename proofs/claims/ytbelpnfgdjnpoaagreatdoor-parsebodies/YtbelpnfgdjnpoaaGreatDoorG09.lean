/- Texts of this seat, 3 in one file. -/
import Derived.Test.YtbelpnfgdjnpoaaGreatDoorG08
import Derived.Test.YtbelpnfgdjnpoaaGreatDoorG01
import Derived.Test.YtbelpnfgdjnpoaaGreatDoorG04
/- Reading a body: one answer only; what is read is printed the same; what is printed is read. No walk. -/
namespace Go.Proofs.YtbelpnfgdjnpoaaGreatDoor
open Sash.Num

theorem opens_one {s : List UInt8} {b : Nat} {k k' : Int} {c c' : UInt8} (h : opens s b k c) (h' : opens s b k' c') : k = k' ∧ c = c' := by
  rcases h with ⟨rfl, h1, rfl⟩ | ⟨rfl, h1, rfl⟩ <;> rcases h' with ⟨rfl, h2, rfl⟩ | ⟨rfl, h2, rfl⟩
  · exact ⟨rfl, rfl⟩
  · rw [h1] at h2; exact absurd (Option.some.inj h2) (by decide)
  · rw [h1] at h2; exact absurd (Option.some.inj h2) (by decide)
  · exact ⟨rfl, rfl⟩
theorem opens_44 {s : List UInt8} {b : Nat} {k : Int} {c : UInt8} (h : opens s b k c) : s[b]? ≠ some 44 := fun e => by
  rcases h with ⟨-, h1, -⟩ | ⟨-, h1, -⟩
  · rw [h1] at e; exact absurd (Option.some.inj e) (by decide)
  · rw [h1] at e; exact absurd (Option.some.inj e) (by decide)
theorem opens_no {s : List UInt8} {b : Nat} {k : Int} {c : UInt8} (h : opens s b k c) (h2 : s[b]? ≠ some 123) (h3 : s[b]? ≠ some 91) : False := by
  rcases h with ⟨-, h1, -⟩ | ⟨-, h1, -⟩
  · exact h2 h1
  · exact h3 h1

/-- One answer only. -/
theorem Rd.one {s : List UInt8} {st : St} {o : PR} (h : Rd s st o) : ∀ o', Rd s st o' → o = o' := by
  induction h with
  | headBad h =>
    intro o' h'
    cases h' with
    | headBad g => rw [h] at g; cases g; rfl
    | form g => rw [h] at g; cases g
    | idBad g => rw [h] at g; cases g
    | leaf g => rw [h] at g; cases g
    | long g => rw [h] at g; cases g
    | kidsBad g => rw [h] at g; cases g
    | kids g => rw [h] at g; cases g
  | form h h1 h2 h3 =>
    intro o' h'
    cases h' with
    | headBad g => rw [h] at g; cases g
    | form g => rw [h] at g; cases g; rfl
    | idBad g g1 => rw [h] at g; cases g; exact absurd g1 h1
    | leaf g g1 => rw [h] at g; cases g; exact absurd g1 h1
    | long g g1 => rw [h] at g; cases g; exact (opens_no g1 h2 h3).elim
    | kidsBad g g1 => rw [h] at g; cases g; exact (opens_no g1 h2 h3).elim
    | kids g g1 => rw [h] at g; cases g; exact (opens_no g1 h2 h3).elim
  | idBad h h1 h2 =>
    intro o' h'
    cases h' with
    | headBad g => rw [h] at g; cases g
    | form g g1 => rw [h] at g; cases g; exact absurd h1 g1
    | idBad g g1 g2 => rw [h] at g; cases g; rw [h2] at g2; cases g2; rfl
    | leaf g g1 g2 => rw [h] at g; cases g; rw [h2] at g2; cases g2
    | long g g1 => rw [h] at g; cases g; exact absurd h1 (opens_44 g1)
    | kidsBad g g1 => rw [h] at g; cases g; exact absurd h1 (opens_44 g1)
    | kids g g1 => rw [h] at g; cases g; exact absurd h1 (opens_44 g1)
  | leaf h h1 h2 =>
    intro o' h'
    cases h' with
    | headBad g => rw [h] at g; cases g
    | form g g1 => rw [h] at g; cases g; exact absurd h1 g1
    | idBad g g1 g2 => rw [h] at g; cases g; rw [h2] at g2; cases g2
    | leaf g g1 g2 => rw [h] at g; cases g; rw [h2] at g2; cases g2; rfl
    | long g g1 => rw [h] at g; cases g; exact absurd h1 (opens_44 g1)
    | kidsBad g g1 => rw [h] at g; cases g; exact absurd h1 (opens_44 g1)
    | kids g g1 => rw [h] at g; cases g; exact absurd h1 (opens_44 g1)
  | long h h1 h2 =>
    intro o' h'
    cases h' with
    | headBad g => rw [h] at g; cases g
    | form g _ g2 g3 => rw [h] at g; cases g; exact (opens_no h1 g2 g3).elim
    | idBad g g1 => rw [h] at g; cases g; exact absurd g1 (opens_44 h1)
    | leaf g g1 => rw [h] at g; cases g; exact absurd g1 (opens_44 h1)
    | long g => rw [h] at g; cases g; rfl
    | kidsBad g _ g2 => omega
    | kids g _ g2 => omega
  | kidsBad h h1 h2 _ ih =>
    intro o' h'
    cases h' with
    | headBad g => rw [h] at g; cases g
    | form g _ g2 g3 => rw [h] at g; cases g; exact (opens_no h1 g2 g3).elim
    | idBad g g1 => rw [h] at g; cases g; exact absurd g1 (opens_44 h1)
    | leaf g g1 => rw [h] at g; cases g; exact absurd g1 (opens_44 h1)
    | long g _ g2 => omega
    | kidsBad g g1 _ g3 =>
      rw [h] at g; cases g
      obtain ⟨rfl, rfl⟩ := opens_one h1 g1
      have := ih _ g3
      cases this; rfl
    | kids g g1 _ g3 =>
      rw [h] at g; cases g
      obtain ⟨rfl, rfl⟩ := opens_one h1 g1
      have := ih _ g3
      cases this
  | kids h h1 h2 _ ih =>
    intro o' h'
    cases h' with
    | headBad g => rw [h] at g; cases g
    | form g _ g2 g3 => rw [h] at g; cases g; exact (opens_no h1 g2 g3).elim
    | idBad g g1 => rw [h] at g; cases g; exact absurd g1 (opens_44 h1)
    | leaf g g1 => rw [h] at g; cases g; exact absurd g1 (opens_44 h1)
    | long g _ g2 => omega
    | kidsBad g g1 _ g3 =>
      rw [h] at g; cases g
      obtain ⟨rfl, rfl⟩ := opens_one h1 g1
      have := ih _ g3
      cases this
    | kids g g1 _ g3 =>
      rw [h] at g; cases g
      obtain ⟨rfl, rfl⟩ := opens_one h1 g1
      have := ih _ g3
      cases this; rfl
  | done h =>
    intro o' h'
    cases h' with
    | done => rfl
    | comma g => exact absurd h g
    | kidBad g => exact absurd h g
    | kid g => exact absurd h g
  | comma h h1 h2 =>
    intro o' h'
    cases h' with
    | done g => exact absurd g h
    | comma => rfl
    | kidBad _ g1 => rcases g1 with g1 | g1
                     · exact absurd g1 h1
                     · exact absurd g1 h2
    | kid _ g1 => rcases g1 with g1 | g1
                  · exact absurd g1 h1
                  · exact absurd g1 h2
  | kidBad h h1 _ ih =>
    intro o' h'
    cases h' with
    | done g => exact absurd g h
    | comma _ g1 g2 => rcases h1 with h1 | h1
                       · exact absurd h1 g1
                       · exact absurd h1 g2
    | kidBad _ _ g2 => exact ih _ g2
    | kid _ _ g2 => have := ih _ g2; cases this
  | kid h h1 _ _ ih ih2 =>
    intro o' h'
    cases h' with
    | done g => exact absurd g h
    | comma _ g1 g2 => rcases h1 with h1 | h1
                       · exact absurd h1 g1
                       · exact absurd h1 g2
    | kidBad _ _ g2 => have := ih _ g2; cases this
    | kid _ _ g2 g3 =>
      have := ih _ g2
      cases this
      exact ih2 _ g3

/-- What is read is printed the same. -/
def Back (s : List UInt8) : St → PR → Prop
  | .cell a _, .ok l x => ∃ t, l = [t] ∧ OkB t ∧ s.drop a = bodyT t ++ s.drop x ∧ a < x ∧ x ≤ s.length
  | .kids a _ c acc, .ok l x => ∃ m, l = acc ++ m ∧ 2 ≤ l.length ∧ (∀ t ∈ m, OkB t) ∧ s.drop a = (if acc = [] then bodyK m else bodyR m) ++ c :: s.drop x ∧ a < x ∧ x ≤ s.length
  | _, .bad _ _ => True
theorem Rd.back {s : List UInt8} {st : St} {o : PR} (h : Rd s st o) : Back s st o := by
  induction h with
  | headBad => exact trivial
  | form => exact trivial
  | idBad => exact trivial
  | leaf h h1 h2 =>
    obtain ⟨g1, g2, -, g4, -⟩ := head_sound h
    obtain ⟨k1, k2, -, k4, k5⟩ := num_sound h2
    refine ⟨_, rfl, .leaf _ _ g1 k1, ?_, by omega, k5⟩
    rw [g2, at_drop.1 h1, k2]
    simp [bodyT]
  | long => exact trivial
  | kidsBad => exact trivial
  | kids h h1 h2 _ ih =>
    obtain ⟨g1, g2, -, g4, -⟩ := head_sound h
    obtain ⟨m, e1, k2, k3, k4, k5, k6⟩ := ih
    simp only [List.nil_append] at e1
    subst e1
    rw [if_pos rfl] at k4
    rcases h1 with ⟨rfl, c1, rfl⟩ | ⟨rfl, c1, rfl⟩
    · refine ⟨_, rfl, .kids 2 _ _ (.inl rfl) g1 k2 k3, ?_, by omega, k6⟩
      rw [g2, at_drop.1 c1, k4]
      simp [bodyT]
    · refine ⟨_, rfl, .kids 3 _ _ (.inr rfl) g1 k2 k3, ?_, by omega, k6⟩
      rw [g2, at_drop.1 c1, k4]
      simp [bodyT]
  | @done a deep c acc h =>
    have hne := ne_of_two h.1
    refine ⟨[], by simp, h.1, fun t ht => by simp at ht, ?_, by omega, at_lt h.2⟩
    rw [if_neg hne, at_drop.1 h.2]
    simp [bodyR]
  | comma => exact trivial
  | kidBad => exact trivial
  | @kid a deep c acc t b o h h1 _ _ ih ih2 =>
    cases o with
    | bad e x => exact trivial
    | ok l x =>
      obtain ⟨t', e1, k2, k3, k4, k5⟩ := ih
      obtain rfl : t = t' := (List.cons.inj e1).1
      obtain ⟨m, rfl, j2, j3, j4, j5, j6⟩ := ih2
      rw [if_neg (by simp)] at j4
      refine ⟨t :: m, by simp, j2, fun u hu => ?_, ?_, ?_, j6⟩
      · rcases List.mem_cons.1 hu with rfl | hu
        · exact k2
        · exact j3 u hu
      · by_cases ha : acc = []
        · rw [if_pos ha]
          unfold next at k3
          rw [if_pos ha] at k3
          rw [k3, j4]
          simp [bodyK]
        · rw [if_neg ha]
          unfold next at k3
          rw [if_neg ha] at k3
          rw [at_drop.1 (h1.resolve_left ha), k3, j4]
          simp [bodyR]
      · unfold next at k4
        split at k4 <;> omega

mutual
/-- How deep a tree is. -/
def dpT : T → Nat
  | .node _ _ _ l => 1 + dpL l
def dpL : List T → Nat
  | [] => 0
  | t :: l => max (dpT t) (dpL l)
end
theorem dp_mem {l : List T} {t : T} (h : t ∈ l) : dpT t ≤ dpL l := by
  induction l with
  | nil => simp at h
  | cons u l ih =>
    rw [dpL]
    rcases List.mem_cons.1 h with rfl | h
    · omega
    · have := ih h; omega
theorem dpT_pos (t : T) : 1 ≤ dpT t := by cases t; rw [dpT]; omega
mutual
theorem dp_sz : ∀ t : T, dpT t ≤ sz t
  | .node _ _ _ l => by have := dp_szL l; rw [dpT, sz]; omega
theorem dp_szL : ∀ l : List T, dpL l ≤ szL l
  | [] => by rw [dpL, szL]; omega
  | t :: l => by have := dp_sz t; have := dp_szL l; rw [dpL, szL]; omega
end

theorem kids_full {s : List UInt8} {N deep : Nat} {c : UInt8} (hc : isD c = false) (hc4 : c ≠ 44) (ih : ∀ t, sz t ≤ N → OkB t → ∀ a rest, deep + dpT t ≤ 1001 → stop rest → s.drop a = bodyT t ++ rest → Rd s (.cell a deep) (.ok [t] (a + (bodyT t).length))) :
    ∀ (m : List T) (acc : List T) (a : Nat) (rest : List UInt8), (∀ t ∈ m, sz t ≤ N ∧ OkB t ∧ deep + dpT t ≤ 1001) → 2 ≤ (acc ++ m).length → s.drop a = (if acc = [] then bodyK m else bodyR m) ++ c :: rest →
      Rd s (.kids a deep c acc) (.ok (acc ++ m) (a + (if acc = [] then bodyK m else bodyR m).length + 1)) := by
  intro m
  induction m with
  | nil =>
    intro acc a rest _ h2 h
    rw [List.append_nil] at h2 ⊢
    have hne := ne_of_two h2
    rw [if_neg hne] at h ⊢
    simp only [bodyR, List.nil_append, List.length_nil, Nat.add_zero] at h ⊢
    refine .done ⟨h2, ?_⟩
    have := congrArg List.head? h
    simpa using this
  | cons t m ihm =>
    intro acc a rest hm h2 h
    obtain ⟨hs, hok, hdp⟩ := hm t (List.mem_cons_self ..)
    have hst := stop_rest m c rest hc
    have hacc : acc ++ t :: m = (acc ++ [t]) ++ m := by simp
    by_cases ha : acc = []
    · rw [if_pos ha] at h ⊢
      rw [bodyK, List.append_assoc] at h
      have h1 := ih t hs hok a _ hdp hst h
      have hd := drop_more h
      have h3 := ihm (acc ++ [t]) (a + (bodyT t).length) rest (fun u hu => hm u (List.mem_cons_of_mem _ hu)) (by rw [← hacc]; exact h2) (by rw [if_neg (by simp)]; exact hd)
      rw [if_neg (by simp), ← hacc] at h3
      refine .kid (fun he => by have := he.1; rw [ha] at this; simp at this) (.inl ha) (by unfold next; rw [if_pos ha]; exact h1) ?_
      rw [bodyK, List.length_append, ← Nat.add_assoc]
      exact h3
    · rw [if_neg ha] at h ⊢
      rw [bodyR, List.cons_append, List.append_assoc] at h
      obtain ⟨-, hd1⟩ := sep_full h
      have h44 : s[a]? = some 44 := by
        have := congrArg List.head? h
        simpa using this
      have h1 := ih t hs hok (a + 1) _ hdp hst hd1
      have hd := drop_more hd1
      have h3 := ihm (acc ++ [t]) (a + 1 + (bodyT t).length) rest (fun u hu => hm u (List.mem_cons_of_mem _ hu)) (by rw [← hacc]; exact h2) (by rw [if_neg (by simp)]; exact hd)
      rw [if_neg (by simp), ← hacc] at h3
      refine .kid (fun he => by have := he.2; rw [h44] at this; exact hc4 (Option.some.inj this).symm) (.inr h44) (by unfold next; rw [if_neg ha]; exact h1) ?_
      rw [bodyR, List.length_cons, List.length_append]
      have e : a + ((bodyT t).length + (bodyR m).length + 1) + 1 = a + 1 + (bodyT t).length + (bodyR m).length + 1 := by omega
      rw [e]
      exact h3
/-- What is printed is read. -/
theorem read_full {s : List UInt8} (N : Nat) : ∀ t, sz t ≤ N → OkB t → ∀ deep a rest, deep + dpT t ≤ 1001 → stop rest → s.drop a = bodyT t ++ rest → Rd s (.cell a deep) (.ok [t] (a + (bodyT t).length)) := by
  induction N with
  | zero => intro t h; have := sz_pos t; omega
  | succ N ih =>
    intro t hs hok deep a rest hdp hst h
    cases hok with
    | leaf r i hr hi =>
      simp only [bodyT, if_true, List.append_assoc, List.cons_append] at h
      have h1 := head_full hr (stop_cons _ no44) h
      have hd := drop_more h
      obtain ⟨-, hd2⟩ := sep_full hd
      have h2 := num_full hi hst hd2
      have h44 : s[a + (headL r).length]? = some 44 := by
        have := congrArg List.head? hd
        simpa using this
      have := Rd.leaf (deep := deep) h1 h44 h2
      simp only [bodyT, if_true, List.length_append, List.length_cons]
      have e : a + ((headL r).length + ((dig i).length + 1)) = a + (headL r).length + 1 + (dig i).length := by omega
      rw [e]; exact this
    | kids k r l hk hr two each =>
      have hsl : ∀ t ∈ l, sz t ≤ N ∧ OkB t ∧ (deep + 1) + dpT t ≤ 1001 := fun x hx => by
        have h1 := sz_mem hx
        have h2 := dp_mem hx
        rw [sz] at hs
        rw [dpT] at hdp
        exact ⟨by omega, each x hx, by omega⟩
      have hdeep : deep < 1000 := by
        obtain ⟨x, hx⟩ : ∃ x, x ∈ l := List.exists_mem_of_ne_nil _ (ne_of_two two)
        have h1 := dp_mem hx
        have h2 := dpT_pos x
        rw [dpT] at hdp
        omega
      rcases hk with rfl | rfl
      · simp only [bodyT, if_true, if_neg (show (2 : Int) ≠ 1 by decide), List.append_assoc, List.cons_append, List.nil_append] at h
        have h1 := head_full hr (stop_cons _ no123) h
        have hd := drop_more h
        obtain ⟨-, hd2⟩ := sep_full hd
        have hc : s[a + (headL r).length]? = some 123 := by
          have := congrArg List.head? hd
          simpa using this
        have h2 := kids_full (s := s) (N := N) (deep := deep + 1) no125 (by decide) (fun u hu hou b rest' => ih u hu hou (deep + 1) b rest') l [] (a + (headL r).length + 1) rest hsl (by simpa using two) (by rw [if_pos rfl]; exact hd2)
        rw [if_pos rfl, List.nil_append] at h2
        have := Rd.kids (deep := deep) h1 (.inl ⟨rfl, hc, rfl⟩) hdeep h2
        simp only [bodyT, if_true, if_neg (show (2 : Int) ≠ 1 by decide), List.length_append, List.length_cons, List.length_nil]
        have e : a + ((headL r).length + ((bodyK l).length + (0 + 1) + 1)) = a + (headL r).length + 1 + (bodyK l).length + 1 := by omega
        rw [e]; exact this
      · simp only [bodyT, if_neg (show (3 : Int) ≠ 1 by decide), if_neg (show (3 : Int) ≠ 2 by decide), List.append_assoc, List.cons_append, List.nil_append] at h
        have h1 := head_full hr (stop_cons _ no91) h
        have hd := drop_more h
        obtain ⟨-, hd2⟩ := sep_full hd
        have hc : s[a + (headL r).length]? = some 91 := by
          have := congrArg List.head? hd
          simpa using this
        have h2 := kids_full (s := s) (N := N) (deep := deep + 1) no93 (by decide) (fun u hu hou b rest' => ih u hu hou (deep + 1) b rest') l [] (a + (headL r).length + 1) rest hsl (by simpa using two) (by rw [if_pos rfl]; exact hd2)
        rw [if_pos rfl, List.nil_append] at h2
        have := Rd.kids (deep := deep) h1 (.inr ⟨rfl, hc, rfl⟩) hdeep h2
        simp only [bodyT, if_neg (show (3 : Int) ≠ 1 by decide), if_neg (show (3 : Int) ≠ 2 by decide), List.length_append, List.length_cons, List.length_nil]
        have e : a + ((headL r).length + ((bodyK l).length + (0 + 1) + 1)) = a + (headL r).length + 1 + (bodyK l).length + 1 := by omega
        rw [e]; exact this
/-- A whole body: what is printed is read as it, and nothing is left. -/
theorem read_body {t : T} (hok : OkB t) (hd : dpT t ≤ 1000) : Rd (bodyT t) (.cell 0 1) (.ok [t] (bodyT t).length) := by
  have := read_full (s := bodyT t) (sz t) t (Nat.le_refl _) hok 1 0 [] (by omega) stop_nil (by simp)
  rw [Nat.zero_add] at this
  exact this
/-- What is read whole is the body of what was read. -/
theorem body_read {s : List UInt8} {l : List T} (h : Rd s (.cell 0 1) (.ok l s.length)) : ∃ t, l = [t] ∧ OkB t ∧ s = bodyT t := by
  obtain ⟨t, h1, h2, h3, -, -⟩ := h.back
  refine ⟨t, h1, h2, ?_⟩
  simpa using h3
end Go.Proofs.YtbelpnfgdjnpoaaGreatDoor
/- The document's Head: the number with which a text begins. -/
namespace Go.Proofs.YtbelpnfgdjnpoaaGreatDoor
open Go.RowKit Sash.Num

theorem min_of {y v m : Nat} (h : y = min v m) (hv : ¬ m < v) : v = y := by omega
set_option maxHeartbeats 1000000 in
set_option maxRecDepth 100000 in
theorem refHead_any (s : ByteArray) (w : World) (hs : s.size ≤ maxLen) :
    Calls Tryz.prog 91 #[.string s] w fun e w' => e = .returned (.tuple #[.int .i64 (headN s.data.toList), .int .i64 (headK s.data.toList), .int .i64 (headE s.data.toList)]) ∧ w = w' := by
  unfold maxLen at hs
  go_enter Tryz.func91, Tryz.ntmps91
  go_wp2
  go_loop [5, 6, 7] (fun n x g => ∃ (k : Nat) (y : Nat) (b : Bool), k ≤ s.size ∧ k ≤ cnt s.data.toList ∧ y ≤ 2147483647 ∧ n = .int .i64 k ∧ x = .int .i64 y ∧ g = .bool b ∧ Hid (y = min (Sash.Num.val (s.data.toList.take k)) 2147483647 ∧ b = decide (2147483647 < Sash.Num.val (s.data.toList.take k)))) (fun n _ _ => s.size - (intOf n).toNat)
  case atStart => exact ⟨0, 0, false, Nat.zero_le _, Nat.zero_le _, by omega, rfl, rfl, rfl, Lib.hid ⟨by simp [Sash.Num.val], by simp [Sash.Num.val]⟩⟩
  case round =>
    obtain ⟨k, y, b, hk, hc, hy, rfl, rfl, rfl, HR⟩ := hrel
    have hle := bcnt_le s
    by_cases hd : k < cnt s.data.toList
    · have hlt : k < s.size := by omega
      obtain ⟨h1, h2⟩ := bcnt_isD s k hlt hd
      have d1 : decide ((48 : Int) ≤ ((s[k]'hlt).toNat : Int)) = true := by simp; omega
      have d2 : decide (((s[k]'hlt).toNat : Int) ≤ 57) = true := by simp; omega
      have HS := Lib.hid (bval_succ s k hlt)
      by_cases hg : (2147483647 : Int) < 10 * (y : Int) + (((s[k]'hlt).toNat : Int) - 48)
      · have d3 : decide ((2147483647 : Int) < 10 * (y : Int) + (((s[k]'hlt).toNat : Int) - 48)) = true := by simp; omega
        go_wp2
        go_round
        case rel => exact ⟨k + 1, 2147483647, true, by omega, by omega, by omega, by go_num, rfl, rfl, Lib.hid (by obtain ⟨e1, e2⟩ := HR.out; have := HS.out; exact ⟨by omega, by simp; omega⟩)⟩
        case measure => simp [intOf]; omega
      · have d3 : decide ((2147483647 : Int) < 10 * (y : Int) + (((s[k]'hlt).toNat : Int) - 48)) = false := by simp; omega
        go_wp2
        go_round
        case rel => exact ⟨k + 1, 10 * y + ((s[k]'hlt).toNat - 48), b, by omega, by omega, by omega, by go_num, by congr 1; omega, rfl, Lib.hid (by obtain ⟨e1, e2⟩ := HR.out; have := HS.out; rw [e2]; exact ⟨by omega, by simp; omega⟩)⟩
        case measure => simp [intOf]; omega
    · have hck : cnt s.data.toList = k := by omega
      obtain ⟨e1, e2⟩ := HR.out
      have hexit : (¬ k < s.size) ∨ (∃ h : k < s.size, s[k].toNat < 48) ∨ (∃ h : k < s.size, 48 ≤ s[k].toNat ∧ 57 < s[k].toNat) := by
        by_cases hlt : k < s.size
        · right
          by_cases h1 : s[k].toNat < 48
          · exact Or.inl ⟨hlt, h1⟩
          · by_cases h2 : s[k].toNat ≤ 57
            · have := bcnt_yes s k hlt hc (by omega) h2; omega
            · exact Or.inr ⟨hlt, by omega, by omega⟩
        · exact Or.inl hlt
      by_cases h0 : k = 0
      · have HF := Lib.hid (head_form s.data.toList (Or.inl (by omega)))
        have q0 : ((k : Int) == 0) = true := by simp; omega
        clear e1 e2 hck HR h0
        rcases hexit with hx | ⟨hlt, hx⟩ | ⟨hlt, hx1, hx2⟩
        · go_wp2
          go_ret3
          exact ⟨ret3 HF.out.1.symm HF.out.2.1.symm HF.out.2.2.symm, rfl⟩
        · have d1 : decide ((48 : Int) ≤ ((s[k]'hlt).toNat : Int)) = false := by simp; omega
          go_wp2
          go_ret3
          exact ⟨ret3 HF.out.1.symm HF.out.2.1.symm HF.out.2.2.symm, rfl⟩
        · have d1 : decide ((48 : Int) ≤ ((s[k]'hlt).toNat : Int)) = true := by simp; omega
          have d2 : decide (((s[k]'hlt).toNat : Int) ≤ 57) = false := by simp; omega
          go_wp2
          go_ret3
          exact ⟨ret3 HF.out.1.symm HF.out.2.1.symm HF.out.2.2.symm, rfl⟩
      · have q0 : ((k : Int) == 0) = false := by simp; omega
        have h00 : 0 < s.size := by omega
        have hbh := bhead s h00
        by_cases hf : 1 < k ∧ s[0].toNat = 48
        · have HF := Lib.hid (head_form s.data.toList (Or.inr ⟨by omega, hbh.2 hf.2⟩))
          have q1 : decide ((1 : Int) < (k : Int)) = true := by simp; omega
          have q2 : ((s[0].toNat : Int) == 48) = true := by simp; omega
          clear e1 e2 hck HR h0 hf hbh
          rcases hexit with hx | ⟨hlt, hx⟩ | ⟨hlt, hx1, hx2⟩
          · go_wp2
            go_ret3
            exact ⟨ret3 HF.out.1.symm HF.out.2.1.symm HF.out.2.2.symm, rfl⟩
          · have d1 : decide ((48 : Int) ≤ ((s[k]'hlt).toNat : Int)) = false := by simp; omega
            go_wp2
            go_ret3
            exact ⟨ret3 HF.out.1.symm HF.out.2.1.symm HF.out.2.2.symm, rfl⟩
          · have d1 : decide ((48 : Int) ≤ ((s[k]'hlt).toNat : Int)) = true := by simp; omega
            have d2 : decide (((s[k]'hlt).toNat : Int) ≤ 57) = false := by simp; omega
            go_wp2
            go_ret3
            exact ⟨ret3 HF.out.1.symm HF.out.2.1.symm HF.out.2.2.symm, rfl⟩
        · have hnf : ¬ (cnt s.data.toList = 0 ∨ (1 < cnt s.data.toList ∧ s.data.toList.head? = some 48)) := by rw [hbh, hck]; omega
          have HF : Hid (headN s.data.toList = (if b then 0 else (y : Int)) ∧ headK s.data.toList = (if b then 0 else (k : Int)) ∧ headE s.data.toList = if b then 3 else 0) := by
            by_cases hv : 2147483647 < Sash.Num.val (s.data.toList.take (cnt s.data.toList))
            · have := head_long _ hnf hv
              rw [hck] at hv
              have hb : b = true := by rw [e2]; simpa using hv
              subst hb
              exact this
            · have hyv : Sash.Num.val (s.data.toList.take k) = y := min_of e1 (by rw [hck] at hv; exact hv)
              have := head_ok _ hnf (by omega)
              rw [hck] at hv this
              have hb : b = false := by rw [e2]; simpa using hv
              subst hb
              rw [hyv] at this
              exact this
          have hq : (((k : Int) == 1) = true ∧ k = 1) ∨ (decide ((1 : Int) < (k : Int)) = true ∧ ((s[0].toNat : Int) == 48) = false) := by
            by_cases h1 : k = 1
            · left; exact ⟨by simp; omega, h1⟩
            · right; exact ⟨by simp; omega, by simp; omega⟩
          clear e1 e2 hck HR h0 hf hbh hnf
          rcases hq with ⟨_, h1⟩ | ⟨q1, q2⟩
          · have q1 : decide ((1 : Int) < (k : Int)) = false := by simp; omega
            clear h1
            cases b
            all_goals
              rcases hexit with hx | ⟨hlt, hx⟩ | ⟨hlt, hx1, hx2⟩
              · go_wp2
                go_ret3
                exact ⟨ret3 HF.out.1.symm HF.out.2.1.symm HF.out.2.2.symm, rfl⟩
              · have d1 : decide ((48 : Int) ≤ ((s[k]'hlt).toNat : Int)) = false := by simp; omega
                go_wp2
                go_ret3
                exact ⟨ret3 HF.out.1.symm HF.out.2.1.symm HF.out.2.2.symm, rfl⟩
              · have d1 : decide ((48 : Int) ≤ ((s[k]'hlt).toNat : Int)) = true := by simp; omega
                have d2 : decide (((s[k]'hlt).toNat : Int) ≤ 57) = false := by simp; omega
                go_wp2
                go_ret3
                exact ⟨ret3 HF.out.1.symm HF.out.2.1.symm HF.out.2.2.symm, rfl⟩
          · cases b
            all_goals
              rcases hexit with hx | ⟨hlt, hx⟩ | ⟨hlt, hx1, hx2⟩
              · go_wp2
                go_ret3
                exact ⟨ret3 HF.out.1.symm HF.out.2.1.symm HF.out.2.2.symm, rfl⟩
              · have d1 : decide ((48 : Int) ≤ ((s[k]'hlt).toNat : Int)) = false := by simp; omega
                go_wp2
                go_ret3
                exact ⟨ret3 HF.out.1.symm HF.out.2.1.symm HF.out.2.2.symm, rfl⟩
              · have d1 : decide ((48 : Int) ≤ ((s[k]'hlt).toNat : Int)) = true := by simp; omega
                have d2 : decide (((s[k]'hlt).toNat : Int) ≤ 57) = false := by simp; omega
                go_wp2
                go_ret3
                exact ⟨ret3 HF.out.1.symm HF.out.2.1.symm HF.out.2.2.symm, rfl⟩
end Go.Proofs.YtbelpnfgdjnpoaaGreatDoor
/- The document's reading: is a byte at a place, a number at a place. -/
namespace Go.Proofs.YtbelpnfgdjnpoaaGreatDoor
open Go.RowKit Sash.Num

theorem drop_data (s : ByteArray) (a : Nat) : (s.extract a s.size).data.toList = s.data.toList.drop a := by
  rw [Lib.extract_data, List.take_of_length_le]
  simp
/-- A number at a place, by the document. -/
def NumSays (S : List UInt8) (a n : Nat) (w : World) (e : Ending) (w' : World) : Prop := w = w' ∧ ((∃ (i : Int) (b : Nat), numAt S a = .ok (i, b) ∧ okN i ∧ a < b ∧ b ≤ n ∧ e = .returned (.tuple #[.int .i64 i, .int .i64 ((b : Int) - (a : Int)), .int .i64 0])) ∨ ∃ er : Int, numAt S a = .error (er, a) ∧ er ≠ 0 ∧ e = .returned (.tuple #[.int .i64 0, .int .i64 0, .int .i64 er]))
theorem num_says (S : List UInt8) (a n : Nat) (hn : S.length = n) (w : World) : NumSays S a n w (.returned (.tuple #[.int .i64 (headN (S.drop a)), .int .i64 (headK (S.drop a)), .int .i64 (headE (S.drop a))])) w := by
  refine ⟨rfl, ?_⟩
  by_cases h0 : headE (S.drop a) = 0
  · left
    have hnum : numAt S a = .ok (headN (S.drop a), a + (headK (S.drop a)).toNat) := by unfold numAt; rw [if_pos h0]
    obtain ⟨h1, -, -, h4, h5⟩ := num_sound hnum
    refine ⟨_, _, hnum, h1, h4, by omega, ?_⟩
    have hk : ((a + (headK (S.drop a)).toNat : Nat) : Int) - (a : Int) = headK (S.drop a) := by
      have : 0 ≤ headK (S.drop a) := by unfold headK; split <;> (try split) <;> omega
      omega
    rw [hk, h0]
  · right
    refine ⟨headE (S.drop a), by unfold numAt; rw [if_neg h0], h0, ?_⟩
    by_cases hf : cnt (S.drop a) = 0 ∨ (1 < cnt (S.drop a) ∧ (S.drop a).head? = some 48)
    · obtain ⟨g1, g2, g3⟩ := head_form _ hf
      rw [g1, g2]
    · by_cases hv : 2147483647 < Sash.Num.val ((S.drop a).take (cnt (S.drop a)))
      · obtain ⟨g1, g2, g3⟩ := head_long _ hf hv
        rw [g1, g2]
      · exact absurd (head_ok _ hf (by omega)).2.2 h0
theorem numHead_any (s : ByteArray) (a : Nat) (w : World) (hs : s.size ≤ maxLen) : Calls Tryz.prog 91 #[.string (s.extract a s.size)] w (NumSays s.data.toList a s.size w) := by
  have h := refHead_any (s.extract a s.size) w (by simp [ByteArray.size_extract]; omega)
  rw [drop_data] at h
  refine h.mono ?_
  rintro e w' ⟨rfl, rfl⟩
  exact num_says s.data.toList a s.size (by simp) w

def isB (S : List UInt8) (a : Nat) (c : UInt8) : Bool := decide (S[a]? = some c)
set_option maxRecDepth 100000 in
theorem is_any (s : ByteArray) (a : Nat) (c : UInt8) (w : World) (hs : s.size ≤ maxLen) : Calls Tryz.prog 89 #[.string s, .int .i64 (a : Int), .int .u8 (c.toNat : Int)] w fun e w' => e = .returned (.bool (isB s.data.toList a c)) ∧ w = w' := by
  unfold maxLen at hs
  by_cases hlt : a < s.size
  · have hb : isB s.data.toList a c = (((s[a]'hlt).toNat : Int) == (c.toNat : Int)) := by
      unfold isB
      rw [List.getElem?_eq_getElem (by simpa using hlt)]
      show decide (some s[a] = some c) = _
      rw [Bool.eq_iff_iff]
      simp only [decide_eq_true_eq, Option.some.injEq, beq_iff_eq]
      constructor
      · rintro rfl; rfl
      · intro h; exact UInt8.toNat_inj.1 (by omega)
    rw [hb]
    clear hb
    go_enter Tryz.func89, Tryz.ntmps89
    go_wp2
    go_ret
    exact ⟨rfl, rfl⟩
  · have hb : isB s.data.toList a c = false := by
      unfold isB
      rw [List.getElem?_eq_none (by simp; omega)]
      rfl
    rw [hb]
    have d : decide ((a : Int) < (s.size : Int)) = false := decide_eq_false (by omega)
    clear hb
    go_enter Tryz.func89, Tryz.ntmps89
    go_wp2
    go_ret
    exact ⟨rfl, rfl⟩
end Go.Proofs.YtbelpnfgdjnpoaaGreatDoor
