/- errors.Is by its contracts, at numbers and faults. -/
import Derived.Test.YtmlmgkaghcnpnaaDoorAsA
namespace Go.Proofs.YtmlmgkaghcnpnaaDoor
open Go.RowKit Go.Extern.Stop Go.Stop Go.Extern

theorem Tryd.callComparableE (w : World) : (callFunc 80 #[.agg #[.pointer (some ⟨1, 33, none⟩)]]).run Tryd.prog w = .ok (.value (.bool true)) w := by
  rw [@run_callFunc_extern Tryd.prog 80 _ (ReflectliteType.method fun t => do Rtype.noPackHeld "Comparable" t; pure (.bool (← typeInfo t).comparable)) Tryd.func80 (by kernel_rfl) (by kernel_rfl) (by kernel_rfl) (by kernel_rfl)]
  kernel_rfl
theorem Tryd.eqlE (n m : Int) (w : World) : (binOp .eql 29 (.iface 33 (.int .i64 n)) (.iface 33 (.int .i64 m))).run Tryd.prog w = .ok (.bool (n == m)) w := by kernel_rfl
theorem Tryd.eqlE_same (n : Int) (w : World) : (binOp .eql 29 (.iface 33 (.int .i64 n)) (.iface 33 (.int .i64 n))).run Tryd.prog w = .ok (.bool true) w := by
  rw [Tryd.eqlE]; simp
theorem Tryd.eqlE_other (n m : Int) (h : ¬ n = m) (w : World) : (binOp .eql 29 (.iface 33 (.int .i64 n)) (.iface 33 (.int .i64 m))).run Tryd.prog w = .ok (.bool false) w := by
  rw [Tryd.eqlE]; simp [h]

/-- Whether a number is the one that is asked for. -/
theorem is_errno (n m : Int) (w : World) :
    Calls Tryd.prog 31 #[.iface 33 (.int .i64 n), .iface 33 (.int .i64 m)] w fun e w' => e = .returned (.bool (decide (n = m))) ∧ w' = w := by
  have h43 := @run_callFunc_extern Tryd.prog 43 _ Extern.ReflectliteType.typeOf Tryd.func43 (by kernel_rfl) (by kernel_rfl) (by kernel_rfl) (by kernel_rfl)
  have h80 := Tryd.callComparableE
  have tO := Tryd.typeOfE
  have mC := Tryd.methodComparable
  have nI := Tryd.noIsE
  have uE := Tryd.noUnwrapE
  have uS := Tryd.noUnwrapsE
  by_cases h : n = m
  · subst h
    have heq := Tryd.eqlE_same n
    rw [show decide (n = n) = true from by simp]
    go_enter Tryd.func31, Tryd.ntmps31
    go_wp2
    refine wp_loop_rounds 1 ?_
    rw [rounds_succ]
    go_wp2
    go_ret
    exact ⟨rfl, rfl⟩
  · have heq := Tryd.eqlE_other n m h
    rw [show decide (n = m) = false from by simp [h]]
    clear h
    go_enter Tryd.func31, Tryd.ntmps31
    go_wp2
    refine wp_loop_rounds 1 ?_
    rw [rounds_succ]
    go_wp2
    go_ret
    exact ⟨rfl, rfl⟩

/-- Whether a fault is of the number that is asked for. -/
theorem is_fault (b o : Nat) (n m : Int) (w : World) (hp : w.cell? ⟨b, o, none⟩ = some (.int .i64 n)) :
    Calls Tryd.prog 31 #[.iface 52 (.pointer (some ⟨b, o, none⟩)), .iface 33 (.int .i64 m)] w fun e w' => e = .returned (.bool (decide (n = m))) ∧ w' = w := by
  have h43 := @run_callFunc_extern Tryd.prog 43 _ Extern.ReflectliteType.typeOf Tryd.func43 (by kernel_rfl) (by kernel_rfl) (by kernel_rfl) (by kernel_rfl)
  have h80 := Tryd.callComparableE
  have tO := Tryd.typeOfE
  have mC := Tryd.methodComparable
  have nI := Tryd.noIsE
  have nF := Tryd.noIsF
  have uF := Tryd.unwrapF
  have mU := Tryd.methodUnwrapF
  have uE := Tryd.noUnwrapE
  have uS := Tryd.noUnwrapsE
  have hty := run_eql_iface_types (P := Tryd.prog) 52 33 (.pointer (some ⟨b, o, none⟩)) (.int .i64 m) Tryd.underlying29 (by decide) w
  by_cases h : n = m
  · subst h
    have heq := Tryd.eqlE_same n
    rw [show decide (n = n) = true from by simp]
    go_enter Tryd.func31, Tryd.ntmps31
    go_wp2
    refine wp_loop_rounds 2 ?_
    rw [rounds_succ]
    go_wp2
    rw [rounds_succ]
    go_wp2
    go_ret
    exact ⟨rfl, rfl⟩
  · have heq := Tryd.eqlE_other n m h
    rw [show decide (n = m) = false from by simp [h]]
    clear h
    go_enter Tryd.func31, Tryd.ntmps31
    go_wp2
    refine wp_loop_rounds 2 ?_
    rw [rounds_succ]
    go_wp2
    rw [rounds_succ]
    go_wp2
    go_ret
    exact ⟨rfl, rfl⟩
end Go.Proofs.YtmlmgkaghcnpnaaDoor
