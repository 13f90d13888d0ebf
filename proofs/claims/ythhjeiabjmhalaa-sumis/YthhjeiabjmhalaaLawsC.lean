/- The law SumLong, walked. -/
import Derived.Test.YthhjeiabjmhalaaLawsB
namespace Go.Proofs.Ythhjeiabjmhalaa
open Go.RowKit Sash.Num Sash.Sum

theorem conv_zeros (w0 w : World) (n : Nat) (h : w.ownsRow w0.heap.size 5 1 (.slice (some ⟨w0.heap.size, 0, none⟩) n n) n (List.replicate n (.int .u8 0))) :
    (convert 37 9 (.slice (some ⟨w0.heap.size, 0, none⟩) n n)).run Try.prog w = .ok (.string ⟨(List.replicate n (0 : UInt8)).toArray⟩) w := by
  have h2 := run_convert_bytes_back w 37 9 5 ⟨w0.heap.size, 0, none⟩ n (List.replicate n (0 : UInt8)) Try.underlying37 Try.underlying5 Try.underlying9 (fun j hj => by
    have hjn : j < n := by simpa using hj
    have h1 := h.cellAt j (by omega)
    rw [List.getElem?_replicate, if_pos hjn] at h1
    rw [List.getElem_replicate]
    rw [show (⟨w0.heap.size, 0, none⟩ : Addr).add j = ⟨w0.heap.size, j, none⟩ by unfold Addr.add; split; (rename_i e; subst e; rfl); simp]
    exact h1)
  rw [List.length_replicate] at h2
  exact h2

theorem zeros_put (n : Nat) : putL (List.replicate n 0) = hex4 0 ++ 44 :: List.replicate n 0 := by unfold putL; rw [sumF_zeros]

/-- So many zeros, put, and cut. -/
theorem refPut_zeros (n : Nat) (w : World) (hn : n ≤ 100000) :
    Calls Try.prog 13 #[.string ⟨(List.replicate n (0 : UInt8)).toArray⟩] w fun e w' => (∃ s : ByteArray, e = .returned (.string s) ∧ s.size = n + 5 ∧ s.data.toList = putL (List.replicate n 0)) ∧ w = w' := by
  refine (refPut_any ⟨(List.replicate n (0 : UInt8)).toArray⟩ w (by show (List.replicate n (0 : UInt8)).toArray.size ≤ _; rw [List.size_toArray, List.length_replicate]; omega)).mono ?_
  rintro e w1 ⟨rfl, rfl⟩
  refine ⟨⟨_, rfl, ?_, ?_⟩, rfl⟩
  · show (putL _).toArray.size = _
    rw [List.size_toArray, putL_len]; simp
  · simp
theorem cut_zeros_long (s : ByteArray) (w : World) (h : 65535 < s.size) :
    Calls Try.prog 14 #[.string s] w fun e w' => e = .returned (.tuple #[.string ⟨#[]⟩, .int .i64 3]) ∧ Below w.heap.size w w' := by
  have h1 := cut_any s w
  have e := cut_long s.data.toList (by simpa using h)
  rw [e.1, e.2] at h1
  exact h1
theorem cut_zeros (n : Nat) (s : ByteArray) (w : World) (hn : n ≤ 65530) (h : s.data.toList = putL (List.replicate n 0)) :
    Calls Try.prog 14 #[.string s] w fun e w' => (∃ x : ByteArray, e = .returned (.tuple #[.string x, .int .i64 0]) ∧ x.size = n) ∧ Below w.heap.size w w' := by
  have h1 := cut_any s w
  have e := cut_put (List.replicate n 0) (by simpa using hn)
  rw [h, e.1, e.2] at h1
  refine h1.mono fun e' w' ⟨he, hb⟩ => ⟨⟨_, he, ?_⟩, hb⟩
  show (List.replicate n (0 : UInt8)).toArray.size = n
  simp

set_option maxHeartbeats 400000 in
set_option maxRecDepth 100000 in
theorem sumLong_any (m : Nat) (w : World) (hm : m < 256) :
    Calls Try.prog 7 #[.int .u8 (m : Int)] w fun e w' => e = .returned (.bool true) ∧ Below w.heap.size w w' := by
  obtain ⟨ti, hti, hz, hsz, hby⟩ := info_parts (P := Try.prog) (e := 5) (z := .int .u8 0) (size := 1) (bytes := 1) (by kernel_rfl)
  have HTI := Lib.hid (And.intro hti (And.intro hz (And.intro hsz hby)))
  clear hti hz hsz hby
  obtain ⟨n, HN⟩ : ∃ n, Hid (n = 65528 + m % 6) := ⟨_, Lib.hid rfl⟩
  have hn1 : n ≤ 65533 := by have := HN.out; omega
  go_enter Try.func7, Try.ntmps7
  go_wp2_with (at_make; refine wpList_make_full _ rfl _ _ _ rfl w.heap.size 5 ti (.int .u8 0) 1 Try.underlying37 HTI.out.1 HTI.out.2.1 HTI.out.2.2.1 .i64 .i64 _ _ n rfl rfl ?_ ?_ ?_ ?_ (Nat.le_refl _) ?_; (have := HN.out; omega); (have := HN.out; omega); (rw [HTI.out.2.2.2]; omega); (unfold maxLen; omega); intro w1 hown hgr; refine Hid.out ?_)
  refine Lib.hid ?_
  have hb1 : Below w.heap.size w w1 := (Below.refl _ w).grown hgr (Nat.le_refl _) (by simp)
  have hrow : (madeCells (Value.int .u8 0).cells (n * 1)).toList = List.replicate n (.int .u8 0) := by
    rw [Nat.mul_one]; exact toList_madeCells_one _ _
  rw [hrow] at hown
  have hcv := conv_zeros w w1 n hown
  clear hown hgr hrow
  go_wp2_with fail
  refine (refPut_zeros n _ (by omega)).mono ?_
  rintro e w2 ⟨⟨s, rfl, hs, hd⟩, rfl⟩
  have HD := Lib.hid hd
  clear hd hcv
  by_cases hl : 65535 < s.size
  · have d0 : decide ((65535 : Int) < (s.size : Int)) = true := by simp; omega
    have HL := Lib.hid hl
    clear hs hl
    go_wp2_with fail
    refine (cut_zeros_long s _ HL.out).mono ?_
    rintro e w3 ⟨rfl, hb3⟩
    have hb13 := hb1.trans (hb3.mono hb1.size)
    go_wp2_with (go_at_call 8; refine (awake_any _).mono ?_; rintro e w7 ⟨rfl, hb7⟩)
    go_ret
    exact ⟨rfl, hb13.trans (hb7.mono hb13.size)⟩
  · have d0 : decide ((65535 : Int) < (s.size : Int)) = false := by simp; omega
    have hn2 : n ≤ 65530 := by omega
    clear hs hl
    go_wp2_with fail
    refine (cut_zeros n s _ hn2 HD.out).mono ?_
    rintro e w3 ⟨⟨x, rfl, hxs⟩, hb3⟩
    have hb13 := hb1.trans (hb3.mono hb1.size)
    go_wp2_with (go_at_call 8; refine (awake_any _).mono ?_; rintro e w7 ⟨rfl, hb7⟩)
    go_ret
    exact ⟨rfl, hb13.trans (hb7.mono hb13.size)⟩
end Go.Proofs.Ythhjeiabjmhalaa
