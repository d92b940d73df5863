/- errors.Is at a diagnosis and its code: true. -/
import Derived.Test.YtoeljmiefbaajaaDoorAs
namespace Go.Proofs.YtoeljmiefbaajaaDoor
open Go.RowKit Go.Extern.Stop Go.Stop Go.Extern

theorem unwrap_any (c p q : Int) (s : ByteArray) (w : World) : Calls Tryd.prog 94 #[.agg #[.int .i64 c, .int .i64 p, .int .i64 q, .string s]] w fun e w' => e = .returned (.iface 29 (.int .i64 c)) ∧ Below w.heap.size w w' := by
  have hb : ∀ o, Below w.heap.size w (w.alloc o) := fun o => (Below.refl _ _).alloc (Nat.le_refl _) _
  have HB := Lib.hid hb; clear hb
  go_enter Tryd.func94, Tryd.ntmps94
  go_wp2
  go_ret
  exact ⟨rfl, by first | exact HB.out _ | exact Below.refl _ _⟩

theorem Tryd.comparable29b (w : World) : ((Extern.ReflectliteType.method fun t => do Rtype.noPackHeld "Comparable" t; (fun a => Value.bool a.comparable) <$> typeInfo t) #[.agg #[.pointer (some ⟨9, 29, none⟩)]]).run Tryd.prog w = .ok (.bool true) w := by kernel_rfl
theorem Tryd.comp29 : (Tryd.prog.info? 29).map (·.comparable) = some true := by kernel_rfl

set_option maxRecDepth 100000 in
set_option maxHeartbeats 4000000 in
theorem is_hit (c p q : Int) (s : ByteArray) (w : World) :
    Calls Tryd.prog 19 #[.iface 33 (.agg #[.int .i64 c, .int .i64 p, .int .i64 q, .string s]), .iface 29 (.int .i64 c)] w fun e w' => e = .returned (.bool true) ∧ Below w.heap.size w w' := by
  obtain ⟨i, hi, hcmp⟩ := Option.map_eq_some_iff.1 Tryd.comp29
  have k36 := @run_callFunc_extern Tryd.prog 36 _ ReflectliteType.typeOf Tryd.func36 (by kernel_rfl) (by kernel_rfl) (by kernel_rfl) (by kernel_rfl)
  have k100 := @run_callFunc_extern Tryd.prog 100 _ (Extern.ReflectliteType.method fun t => do Rtype.noPackHeld "Comparable" t; pure (.bool (← typeInfo t).comparable)) Tryd.func100 (by kernel_rfl) (by kernel_rfl) (by kernel_rfl) (by kernel_rfl)
  have tT := Tryd.typeOf29
  have cT := Tryd.comparable29
  have cT2 := Tryd.comparable29b
  have mR := Tryd.methodComparable
  have nI := Tryd.noIs33
  have uW := Tryd.hasUnwrap33
  have mU := Tryd.methodUnwrap
  have h1 : ∀ (v : Value) (w : World), (binOp .eql 25 (.iface 33 v) (.iface 29 (.int .i64 c))).run Tryd.prog w = .ok (.bool false) w := fun v w => run_eql_iface_types 33 29 v (.int .i64 c) Tryd.underlying25 (by decide) w
  have h2 : ∀ (w : World), (binOp .eql 25 (.iface 29 (.int .i64 c)) (.iface 29 (.int .i64 c))).run Tryd.prog w = .ok (.bool true) w := fun w => by
    have := run_eql_iface_int (P := Tryd.prog) w c c Tryd.underlying25 Tryd.underlying29 hi hcmp
    simpa using this
  clear hi hcmp
  go_enter Tryd.func19, Tryd.ntmps19
  go_wp2
  refine wp_loop_rounds 2 ?_
  rw [rounds_succ]
  go_wp2_with fail
  refine (unwrap_any c p q s _).mono ?_
  rintro e w' ⟨rfl, hb⟩
  go_wp2
  rw [rounds_succ]
  go_wp2
  go_ret
  exact ⟨rfl, hb⟩
end Go.Proofs.YtoeljmiefbaajaaDoor
