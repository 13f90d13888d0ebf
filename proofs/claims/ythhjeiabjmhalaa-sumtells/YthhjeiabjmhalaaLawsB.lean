/- The laws SumTells and SumLong, walked. -/
import Derived.Test.YthhjeiabjmhalaaLawsA
namespace Go.Proofs.Ythhjeiabjmhalaa
open Go.RowKit Sash.Num Sash.Sum

theorem conv1 (w : World) (a : UInt8) :
    (convert 37 9 (.slice (some ⟨w.heap.size, 0, none⟩) 1 1)).run Try.prog (w.alloc (.cells #[.int .u8 (a.toNat : Int)] 5)).drew = .ok (.string ⟨#[a]⟩) (w.alloc (.cells #[.int .u8 (a.toNat : Int)] 5)).drew :=
  run_convert_bytes_back _ 37 9 5 ⟨w.heap.size, 0, none⟩ 1 [a] Try.underlying37 Try.underlying5 Try.underlying9 (fun j hj => by
    match j, hj with
    | 0, _ => simp [Addr.add_lit])

/-- A text, another byte at one place. -/
theorem tell_data (s : ByteArray) (i : Nat) (c : UInt8) : (s.extract 0 i ++ ⟨#[c]⟩ ++ s.extract (i + 1) s.size).data.toList = s.data.toList.take i ++ c :: s.data.toList.drop (i + 1) := by
  have h1 : (s.extract 0 i).data.toList = s.data.toList.take i := by rw [Lib.extract_data]; simp
  have h2 : (s.extract (i + 1) s.size).data.toList = s.data.toList.drop (i + 1) := by
    rw [Lib.extract_data, List.take_of_length_le]; simp
  rw [ByteArray.data_append, ByteArray.data_append, Array.toList_append, Array.toList_append, h1, h2, List.append_assoc]; rfl
theorem self_split (s : ByteArray) (i : Nat) (hi : i < s.size) : s.data.toList = s.data.toList.take i ++ s[i] :: s.data.toList.drop (i + 1) := by
  have h : i < s.data.toList.length := by simpa using hi
  have e : s.data.toList.drop i = s[i] :: s.data.toList.drop (i + 1) := List.drop_eq_getElem_cons h
  rw [← e, List.take_append_drop]
/-- Another text, another sum. -/
theorem tell_other (s t : ByteArray) (i : Nat) (c : UInt8) (hi : i < s.size) (ht : t.data.toList = s.data.toList.take i ++ c :: s.data.toList.drop (i + 1)) (hne : t ≠ s) : sumF 0 s.data.toList ≠ sumF 0 t.data.toList := by
  rw [ht]
  conv => lhs; rw [self_split s i hi]
  refine sumF_other 0 _ _ _ _ ?_
  intro e
  apply hne
  apply ByteArray.ext
  apply Array.ext'
  rw [ht, ← e, ← self_split s i hi]

theorem ahead_data (l : List UInt8) (p t : ByteArray) (hp : p = ⟨(putL l).toArray⟩) : (p.extract 0 5 ++ t).data.toList = hex4 (sumF 0 l) ++ 44 :: t.data.toList := by
  subst hp
  rw [ByteArray.data_append, Array.toList_append, Lib.extract_data]
  rfl

theorem tell_cut_same (s p : ByteArray) (w : World) (hp : p = ⟨(putL s.data.toList).toArray⟩) (hs : s.size ≤ 65530) :
    Calls Try.prog 14 #[.string (p.extract 0 5 ++ s)] w fun e w' => (∃ x, e = .returned (.tuple #[.string x, .int .i64 0])) ∧ Below w.heap.size w w' := by
  have h := cut_any (p.extract 0 5 ++ s) w
  rw [ahead_data _ _ _ hp, ((cut_ahead _ s.data.toList (sumF_lt _ 0 (by omega)) (by simpa using hs)).1 rfl).1] at h
  exact h.mono fun e w' ⟨he, hb⟩ => ⟨⟨_, he⟩, hb⟩
theorem tell_cut_other (s t p : ByteArray) (w : World) (hp : p = ⟨(putL s.data.toList).toArray⟩) (hs : t.size ≤ 65530) (hne : sumF 0 s.data.toList ≠ sumF 0 t.data.toList) :
    Calls Try.prog 14 #[.string (p.extract 0 5 ++ t)] w fun e w' => (∃ x, e = .returned (.tuple #[.string x, .int .i64 4])) ∧ Below w.heap.size w w' := by
  have h := cut_any (p.extract 0 5 ++ t) w
  rw [ahead_data _ _ _ hp, (cut_ahead _ t.data.toList (sumF_lt _ 0 (by omega)) (by simpa using hs)).2 hne] at h
  exact h.mono fun e w' ⟨he, hb⟩ => ⟨⟨_, he⟩, hb⟩

set_option maxHeartbeats 400000 in
set_option maxRecDepth 100000 in
theorem sumTells_any (s : ByteArray) (at' : Nat) (c : UInt8) (w : World) (ha : at' < 65536) :
    Calls Try.prog 6 #[.string s, .int .u16 (at' : Int), .int .u8 (c.toNat : Int)] w fun e w' => e = .returned (.bool true) ∧ Below w.heap.size w w' := by
  by_cases hl : 1000 < s.size
  · have d0 : decide ((1000 : Int) < (s.size : Int)) = true := by simp; omega
    go_enter Try.func6, Try.ntmps6
    go_wp2_with (go_at_call 8; refine (awake_any _).mono ?_; rintro e w1 ⟨rfl, hb1⟩)
    go_ret
    exact ⟨rfl, hb1⟩
  · have d0 : decide ((1000 : Int) < (s.size : Int)) = false := by simp; omega
    by_cases hz : s.size = 0
    · have d1 : ((s.size : Int) == 0) = true := by rw [beq_iff_eq]; omega
      clear hz
      go_enter Try.func6, Try.ntmps6
      go_wp2_with (go_at_call 8; refine (awake_any _).mono ?_; rintro e w1 ⟨rfl, hb1⟩)
      go_ret
      exact ⟨rfl, hb1⟩
    · have d1 : ((s.size : Int) == 0) = false := by rw [beq_eq_false_iff_ne]; omega
      have hcv := conv1 w c
      go_enter Try.func6, Try.ntmps6
      go_wp2
      have hmod : ((at' : Int) % (s.size : Int)) = ((at' % s.size : Nat) : Int) := (Int.natCast_emod at' s.size).symm
      rw [hmod]
      have hi : at' % s.size < s.size := Nat.mod_lt _ (by omega)
      generalize at' % s.size = i at *
      clear hmod
      have HD := Lib.hid (tell_data s i c)
      have hts : (s.extract 0 i ++ ⟨#[c]⟩ ++ s.extract (i + 1) s.size).size = s.size := by
        simp only [ByteArray.size_append, ByteArray.size_extract]
        show min i s.size - 0 + 1 + (min s.size s.size - (i + 1)) = s.size
        omega
      go_region
      generalize s.extract 0 i ++ ⟨#[c]⟩ ++ s.extract (i + 1) s.size = t at *
      have hb1 : Below w.heap.size w (w.alloc (Obj.cells #[Value.int IntKind.u8 (c.toNat : Int)] 5)).drew := ((Below.refl _ w).alloc (Nat.le_refl _) _).drew
      generalize (w.alloc (Obj.cells #[Value.int IntKind.u8 (c.toNat : Int)] 5)).drew = w1 at *
      clear hcv
      have hs : s.size ≤ 1000000 := by omega
      have HTS := Lib.hid hts
      clear hts
      go_wp2_with fail
      refine (put_any s _ hs).mono ?_
      rintro e w2 ⟨rfl, hb2⟩
      have hb12 := hb1.trans (hb2.mono hb1.size)
      have hps : (⟨(putL s.data.toList).toArray⟩ : ByteArray).size = s.size + 5 := by
        show (putL s.data.toList).toArray.size = _
        rw [List.size_toArray, putL_len]; simp
      obtain ⟨p, HP⟩ : ∃ p : ByteArray, Hid (p = ⟨(putL s.data.toList).toArray⟩) := ⟨_, Lib.hid rfl⟩
      rw [← HP.out] at hps ⊢
      by_cases hts : t = s
      · subst hts
        go_wp2_with fail
        refine (tell_cut_same t p _ HP.out (by omega)).mono ?_
        rintro e w3 ⟨⟨x, rfl⟩, hb3⟩
        have hb13 := hb12.trans (hb3.mono hb12.size)
        go_wp2_with (go_at_call 8; refine (awake_any _).mono ?_; rintro e w7 ⟨rfl, hb7⟩)
        go_ret
        exact ⟨rfl, hb13.trans (hb7.mono hb13.size)⟩
      · have hne := tell_other s t i c hi HD.out hts
        have HNE := Lib.hid hne
        have HTT := Lib.hid (show t.size ≤ 65530 by rw [HTS.out]; omega)
        have HT2 := Lib.hid (show t.size ≤ 1000000 by rw [HTS.out]; omega)
        have dq : (t.toList == s.toList) = false := by
          rw [beq_eq_false_iff_ne]
          intro e
          rw [Lib.toList_data, Lib.toList_data] at e
          exact hts (ByteArray.ext (Array.ext' e))
        have d4 : (((sumF 0 s.data.toList : Nat) : Int) != ((sumF 0 t.data.toList : Nat) : Int)) = true := by rw [bne_iff_ne]; omega
        have ht5 : t.size ≤ 1000 := by rw [HTS.out]; omega
        clear hts hne
        go_wp2_with fail
        refine (tell_cut_other s t p _ HP.out HTT.out HNE.out).mono ?_
        rintro e w3 ⟨⟨x, rfl⟩, hb3⟩
        have hb13 := hb12.trans (hb3.mono hb12.size)
        go_wp2_with fail
        refine (of_one s _ hs).mono ?_
        rintro e w4 ⟨rfl, hb4⟩
        have hb14 := hb13.trans (hb4.mono hb13.size)
        go_wp2_with fail
        refine (of_one t _ HT2.out).mono ?_
        rintro e w5 ⟨rfl, hb5⟩
        have hb15 := hb14.trans (hb5.mono hb14.size)
        go_wp2_with (go_at_call 8; refine (awake_any _).mono ?_; rintro e w7 ⟨rfl, hb7⟩)
        go_ret
        exact ⟨rfl, hb15.trans (hb7.mono hb15.size)⟩
end Go.Proofs.Ythhjeiabjmhalaa
