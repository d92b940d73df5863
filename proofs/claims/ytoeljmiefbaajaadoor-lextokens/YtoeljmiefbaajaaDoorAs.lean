/- errors.As at a diagnosis and a variable of that type: true, and the variable holds it. -/
import Derived.Test.YtoeljmiefbaajaaDoorSame
import Derived.LaidEql
import Derived.Stop.Asserts
import Derived.RowKitTokens
namespace Go.Proofs.YtoeljmiefbaajaaDoor
open Go.RowKit Go.Extern.Stop Go.Stop Go.Extern
theorem Tryd.valueOf54 (t : Addr) (w : World) : (ReflectliteValue.unpack (.iface 54 (.pointer (some t)))).run Tryd.prog w
    = .ok (.agg #[.pointer (some ⟨9, 54, none⟩), .pointer (some ⟨w.heap.size, 0, none⟩), .int .u64 150]) (w.alloc (.cells #[.pointer (some t)] 54)) := by kernel_rfl
theorem Tryd.valueOf33 (a b c d : Value) (w : World) : (ReflectliteValue.unpack (.iface 33 (.agg #[a, b, c, d]))).run Tryd.prog w
    = .ok (.agg #[.pointer (some ⟨9, 33, none⟩), .pointer (some ⟨w.heap.size, 0, none⟩), .int .u64 153]) (w.alloc (.cells #[a, b, c, d] 33)) := by kernel_rfl
theorem Tryd.type54 (a : Addr) (w : World) : (ReflectliteValue.methodAny (ReflectliteValue.valueError "reflectlite.Value.Type" 0) (fun t _ _ _ => ReflectliteType.toType t) #[.agg #[.pointer (some ⟨9, 54, none⟩), .pointer (some a), .int .u64 150]]).run Tryd.prog w
    = .ok (.iface 81 (.agg #[.pointer (some ⟨9, 54, none⟩)])) w := by kernel_rfl
theorem Tryd.methodKind (h : Value) (w : World) : (Go.method 264 81 (.agg #[h]) "Kind").run Tryd.prog w = .ok (89, h) w := by kernel_rfl
theorem Tryd.kind54 (w : World) : ((ReflectliteType.abiMethod fun t => (fun a : Nat => Value.int IntKind.u8 (a : Int)) <$> Rtype.kind t) #[.pointer (some ⟨9, 54, none⟩)]).run Tryd.prog w = .ok (.int .u8 22) w := by kernel_rfl
theorem Tryd.kind33 (w : World) : ((ReflectliteType.abiMethod fun t => (fun a : Nat => Value.int IntKind.u8 (a : Int)) <$> Rtype.kind t) #[.pointer (some ⟨9, 33, none⟩)]).run Tryd.prog w = .ok (.int .u8 25) w := by kernel_rfl
theorem Tryd.parts54 (a : Addr) (w : World) : (ReflectliteValue.parts (.agg #[.pointer (some ⟨9, 54, none⟩), .pointer (some a), .int .u64 150])).run Tryd.prog w = .ok (some (54, a, 150)) w := by kernel_rfl
theorem Tryd.methodElem (h : Value) (w : World) : (Go.method 264 81 (.agg #[h]) "Elem").run Tryd.prog w = .ok (101, .agg #[h]) w := by kernel_rfl
theorem Tryd.methodImplements (h : Value) (w : World) : (Go.method 264 81 (.agg #[h]) "Implements").run Tryd.prog w = .ok (102, .agg #[h]) w := by kernel_rfl
theorem Tryd.methodAssignableTo (h : Value) (w : World) : (Go.method 264 81 (.agg #[h]) "AssignableTo").run Tryd.prog w = .ok (99, .agg #[h]) w := by kernel_rfl
theorem Tryd.methodComparable (h : Value) (w : World) : (Go.method 264 81 (.agg #[h]) "Comparable").run Tryd.prog w = .ok (100, .agg #[h]) w := by kernel_rfl
theorem Tryd.elem54 (w : World) : (ReflectliteType.method ReflectliteType.elem #[.agg #[.pointer (some ⟨9, 54, none⟩)]]).run Tryd.prog w = .ok (.iface 81 (.agg #[.pointer (some ⟨9, 33, none⟩)])) w := by kernel_rfl
theorem Tryd.implements33 (w : World) : (ReflectliteType.relation "Implements" ReflectliteType.implements_ #[.agg #[.pointer (some ⟨9, 33, none⟩)], .iface 81 (.agg #[.pointer (some ⟨9, 25, none⟩)])]).run Tryd.prog w = .ok (.bool true) w := by kernel_rfl
theorem Tryd.typeOf33 (v : Value) (w : World) : (ReflectliteType.typeOf #[.iface 33 v]).run Tryd.prog w = .ok (.iface 81 (.agg #[.pointer (some ⟨9, 33, none⟩)])) w := by kernel_rfl
theorem Tryd.typeOf29 (v : Value) (w : World) : (ReflectliteType.typeOf #[.iface 29 v]).run Tryd.prog w = .ok (.iface 81 (.agg #[.pointer (some ⟨9, 29, none⟩)])) w := by kernel_rfl
theorem Tryd.assignable33 (w : World) : (ReflectliteType.relation "AssignableTo" ReflectliteType.assignableTo #[.agg #[.pointer (some ⟨9, 33, none⟩)], .iface 81 (.agg #[.pointer (some ⟨9, 33, none⟩)])]).run Tryd.prog w = .ok (.bool true) w := by kernel_rfl
theorem Tryd.comparable29 (w : World) : ((Extern.ReflectliteType.method fun t => (fun a => Value.bool a.comparable) <$> typeInfo t) #[.agg #[.pointer (some ⟨9, 29, none⟩)]]).run Tryd.prog w = .ok (.bool true) w := by kernel_rfl
theorem Tryd.elemOf54 (w : World) : (Rtype.elem? 54).run Tryd.prog w = .ok (some 33) w := by kernel_rfl
theorem Tryd.mk33 (p : Addr) (w : World) : (ReflectliteValue.mk 33 p ReflectliteValue.flagAddr).run Tryd.prog w = .ok (.agg #[.pointer (some ⟨9, 33, none⟩), .pointer (some p), .int .u64 409]) w := by kernel_rfl
theorem Tryd.parts33a (a : Addr) (w : World) : (ReflectliteValue.parts (.agg #[.pointer (some ⟨9, 33, none⟩), .pointer (some a), .int .u64 409])).run Tryd.prog w = .ok (some (33, a, 409)) w := by kernel_rfl
theorem Tryd.parts33 (a : Addr) (w : World) : (ReflectliteValue.parts (.agg #[.pointer (some ⟨9, 33, none⟩), .pointer (some a), .int .u64 153])).run Tryd.prog w = .ok (some (33, a, 153)) w := by kernel_rfl
theorem Tryd.direct33 (w : World) : (Rtype.directlyAssignable 33 33).run Tryd.prog w = .ok true w := by kernel_rfl
theorem Tryd.noIs33 (v : Value) (xT : TypeId) (w : World) : (Instr.typeAssert (.iface 33 v) xT 93 true).run Tryd.prog w = .ok (.tuple #[.nilIface, .bool false]) w := run_typeAssert_lacksB Tryd.underlying93 (by kernel_rfl) (by kernel_rfl) v xT w
theorem Tryd.hasUnwrap33 (v : Value) (xT : TypeId) (w : World) : (Instr.typeAssert (.iface 33 v) xT 88 true).run Tryd.prog w = .ok (.tuple #[.iface 33 v, .bool true]) w := run_typeAssert_hasB Tryd.underlying88 (by kernel_rfl) v xT w
theorem Tryd.methodUnwrap (v : Value) (w : World) : (Go.method 264 33 v "Unwrap").run Tryd.prog w = .ok (94, v) w := by kernel_rfl

section
variable {P : Program} (w : World)
theorem run_equalIn_iface_int (d : Nat) {ti tn : TypeId} {ms : Array (String × TypeId)} {i : TypeInfo} {k : IntKind} (a b : Int)
    (hi : P.underlying ti = some (.interface ms)) (hn : P.underlying tn = some (.int k)) (hinfo : P.info? tn = some i) (hcomp : i.comparable = true) :
    (Op.equalIn (d + 2) ti (.iface tn (.int k a)) (.iface tn (.int k b))).run P w = .ok (a == b) w := by
  simp [Op.equalIn, run_underlying hi, run_underlying hn, typeInfo, hinfo, hcomp]
/-- Two interface values of one integer type: equal as the numbers are. -/
theorem run_eql_iface_int {ti tn : TypeId} {ms : Array (String × TypeId)} {i : TypeInfo} {k : IntKind} (a b : Int)
    (hi : P.underlying ti = some (.interface ms)) (hn : P.underlying tn = some (.int k)) (hinfo : P.info? tn = some i) (hcomp : i.comparable = true) :
    (binOp .eql ti (.iface tn (.int k a)) (.iface tn (.int k b))).run P w = .ok (.bool (a == b)) w := by
  simp only [binOp]
  simp [Op.equal, Op.maxDepth, run_equalIn_iface_int w 9998 a b hi hn hinfo hcomp]
end

theorem rlm (z : Sem Value) (f : TypeId → Addr → Nat → Nat → Sem Value) (v : Value) :
    ReflectliteValue.method z f #[v] = (do match ← ReflectliteValue.parts v with | none => z | some (t, a, fl) => f t a fl (fl % 32)) := rfl
theorem Tryd.isNil54 (a p : Addr) (W : World) (ha : W.cell? a = some (.pointer (some p))) :
    (ReflectliteValue.method (ReflectliteValue.valueError "reflectlite.Value.IsNil" 0) ReflectliteValue.isNil #[.agg #[.pointer (some ⟨9, 54, none⟩), .pointer (some a), .int .u64 150]]).run Tryd.prog W = .ok (.bool false) W := by
  rw [rlm]
  simp only [Sem.run_bind, Tryd.parts54, Result.andThen]
  simp [ReflectliteValue.isNil, loadVar, isAgg, underlying, Tryd.underlying54, ha, Result.andThen]
theorem Tryd.elemV54 (a p : Addr) (W : World) (ha : W.cell? a = some (.pointer (some p))) :
    (ReflectliteValue.method (ReflectliteValue.valueError "reflectlite.Value.Elem" 0) ReflectliteValue.elem #[.agg #[.pointer (some ⟨9, 54, none⟩), .pointer (some a), .int .u64 150]]).run Tryd.prog W
      = .ok (.agg #[.pointer (some ⟨9, 33, none⟩), .pointer (some p), .int .u64 409]) W := by
  rw [rlm]
  simp only [Sem.run_bind, Tryd.parts54, Result.andThen]
  simp [ReflectliteValue.elem, loadVar, isAgg, underlying, Tryd.underlying54, ha, Result.andThen, Tryd.elemOf54, Tryd.mk33]
theorem rls (v x : Value) : ReflectliteValue.set #[v, x] = (do
    let (some (dst, a, fl), some (src, b, _)) := (← ReflectliteValue.parts v, ← ReflectliteValue.parts x)
      | unsupported (.noEntry "extern/(internal/reflectlite.Value).Set.zeroValue")
    if fl / ReflectliteValue.flagAddr % 2 == 0 then unsupported (.noEntry "extern/(internal/reflectlite.Value).Set.unaddressable")
    let val ← loadVar src b
    if ← Rtype.directlyAssignable dst src then storeVar dst a val
    else if ← Rtype.implements dst src then
      if (← Rtype.kind src) == 20 then
        match val with
        | .nilIface => unsupported (.noEntry "extern/reflectlite: a nil value of one interface type handed on as a value of another")
        | _ => storeVar dst a val
      else storeVar dst a (.iface src val)
    else panicString ("reflectlite.Set: value of type " ++ (← Rtype.spelt src) ++ " is not assignable to type " ++ (← Rtype.spelt dst))
    pure (.tuple #[])) := rfl
theorem Tryd.size33 (w : World) : (sizeOf 33).run Tryd.prog w = .ok 4 w := by kernel_rfl
theorem Tryd.agg33 (w : World) : (isAgg 33).run Tryd.prog w = .ok true w := by kernel_rfl
theorem load33 (B : Nat) (x0 x1 x2 x3 : Value) (W : World) (h0 : W.cell? ⟨B, 0, none⟩ = some x0) (h1 : W.cell? ⟨B, 1, none⟩ = some x1) (h2 : W.cell? ⟨B, 2, none⟩ = some x2) (h3 : W.cell? ⟨B, 3, none⟩ = some x3) :
    (loadVar 33 ⟨B, 0, none⟩).run Tryd.prog W = .ok (.agg #[x0, x1, x2, x3]) W := by
  simp [loadVar, Result.andThen, loadCells, loadCellsFrom, Addr.add, h0, h1, h2, h3]
theorem one_store (W : World) (a : Addr) (v y : Value) (hv : v.oneCell' = true) (h : W.cell? a = some y) (f : W.frozen? a = false) : (store a v).run Tryd.prog W = .ok () (W.setCell a v) := by
  rw [run_store Tryd.prog W a v _ hv]; simp [h, f]
theorem store33 (B : Nat) (c p q : Int) (s : ByteArray) (y0 y1 y2 y3 : Value) (W : World) (h0 : W.cell? ⟨B, 0, none⟩ = some y0) (h1 : W.cell? ⟨B, 1, none⟩ = some y1) (h2 : W.cell? ⟨B, 2, none⟩ = some y2) (h3 : W.cell? ⟨B, 3, none⟩ = some y3)
    (f : ∀ i, W.frozen? ⟨B, i, none⟩ = false) :
    (storeVar 33 ⟨B, 0, none⟩ (.agg #[.int .i64 c, .int .i64 p, .int .i64 q, .string s])).run Tryd.prog W = .ok () ((((W.setCell ⟨B, 0, none⟩ (.int .i64 c)).setCell ⟨B, 1, none⟩ (.int .i64 p)).setCell ⟨B, 2, none⟩ (.int .i64 q)).setCell ⟨B, 3, none⟩ (.string s)) := by
  have e0 := one_store W ⟨B, 0, none⟩ (.int .i64 c) _ rfl h0 (f 0)
  have e1 := one_store (W.setCell ⟨B, 0, none⟩ (.int .i64 c)) ⟨B, 1, none⟩ (.int .i64 p) y1 rfl (by rw [World.cell?_setCell_other _ _ _ _ (by simp)]; exact h1) (by simpa using f 1)
  have e2 := one_store ((W.setCell ⟨B, 0, none⟩ (.int .i64 c)).setCell ⟨B, 1, none⟩ (.int .i64 p)) ⟨B, 2, none⟩ (.int .i64 q) y2 rfl (by rw [World.cell?_setCell_other _ _ _ _ (by simp), World.cell?_setCell_other _ _ _ _ (by simp)]; exact h2) (by simpa using f 2)
  have e3 := one_store (((W.setCell ⟨B, 0, none⟩ (.int .i64 c)).setCell ⟨B, 1, none⟩ (.int .i64 p)).setCell ⟨B, 2, none⟩ (.int .i64 q)) ⟨B, 3, none⟩ (.string s) y3 rfl (by rw [World.cell?_setCell_other _ _ _ _ (by simp), World.cell?_setCell_other _ _ _ _ (by simp), World.cell?_setCell_other _ _ _ _ (by simp)]; exact h3) (by simpa using f 3)
  simp only [storeVar, Sem.run_bind, Tryd.size33, Result.andThen, Value.cells]
  simp [storeCells, Addr.add, Sem.run_bind, Result.andThen]
  rw [e0]; simp only
  rw [e1]; simp only
  rw [e2]; simp only
  rw [e3]
theorem Tryd.set33 (B S : Nat) (c p q : Int) (s : ByteArray) (y0 y1 y2 y3 : Value) (W : World) (h0 : W.cell? ⟨B, 0, none⟩ = some y0) (h1 : W.cell? ⟨B, 1, none⟩ = some y1) (h2 : W.cell? ⟨B, 2, none⟩ = some y2) (h3 : W.cell? ⟨B, 3, none⟩ = some y3)
    (f : ∀ i, W.frozen? ⟨B, i, none⟩ = false) (s0 : W.cell? ⟨S, 0, none⟩ = some (.int .i64 c)) (s1 : W.cell? ⟨S, 1, none⟩ = some (.int .i64 p)) (s2 : W.cell? ⟨S, 2, none⟩ = some (.int .i64 q)) (s3 : W.cell? ⟨S, 3, none⟩ = some (.string s)) :
    (ReflectliteValue.set #[.agg #[.pointer (some ⟨9, 33, none⟩), .pointer (some ⟨B, 0, none⟩), .int .u64 409], .agg #[.pointer (some ⟨9, 33, none⟩), .pointer (some ⟨S, 0, none⟩), .int .u64 153]]).run Tryd.prog W
      = .ok (.tuple #[]) ((((W.setCell ⟨B, 0, none⟩ (.int .i64 c)).setCell ⟨B, 1, none⟩ (.int .i64 p)).setCell ⟨B, 2, none⟩ (.int .i64 q)).setCell ⟨B, 3, none⟩ (.string s)) := by
  have hl := load33 S _ _ _ _ W s0 s1 s2 s3
  have hst := store33 B c p q s y0 y1 y2 y3 W h0 h1 h2 h3 f
  rw [rls]
  simp only [Sem.run_bind, Tryd.parts33a, Tryd.parts33, Result.andThen]
  simp [ReflectliteValue.flagAddr, hl, Result.andThen, Tryd.direct33, hst]

set_option maxRecDepth 100000 in
set_option maxHeartbeats 4000000 in
/-- errors.As at a diagnosis, its target a variable of that very type: true; the variable holds the diagnosis. -/
theorem as_hit (c p q : Int) (s : ByteArray) (B : Nat) (y0 y1 y2 y3 : Value) (w : World) (hg : w.cell? ⟨0, 0, none⟩ = some (.iface 81 (.agg #[.pointer (some ⟨9, 25, none⟩)])))
    (h0 : w.cell? ⟨B, 0, none⟩ = some y0) (h1 : w.cell? ⟨B, 1, none⟩ = some y1) (h2 : w.cell? ⟨B, 2, none⟩ = some y2) (h3 : w.cell? ⟨B, 3, none⟩ = some y3) (f : ∀ i, w.frozen? ⟨B, i, none⟩ = false) :
    Calls Tryd.prog 18 #[.iface 33 (.agg #[.int .i64 c, .int .i64 p, .int .i64 q, .string s]), .iface 54 (.pointer (some ⟨B, 0, none⟩))] w fun e w' => e = .returned (.bool true) ∧ Near B w w' ∧
      (w'.cell? ⟨B, 0, none⟩ = some (.int .i64 c) ∧ w'.cell? ⟨B, 1, none⟩ = some (.int .i64 p) ∧ w'.cell? ⟨B, 2, none⟩ = some (.int .i64 q) ∧ w'.cell? ⟨B, 3, none⟩ = some (.string s)) := by
  have k32 := @run_callFunc_extern Tryd.prog 32 _ (fun args => ReflectliteValue.unpack (args.getD 0 (.tuple #[]))) Tryd.func32 (by kernel_rfl) (by kernel_rfl) (by kernel_rfl) (by kernel_rfl)
  have k33 := @run_callFunc_extern Tryd.prog 33 _ (ReflectliteValue.methodAny (ReflectliteValue.valueError "reflectlite.Value.Type" 0) (fun t _ _ _ => ReflectliteType.toType t)) Tryd.func33 (by kernel_rfl) (by kernel_rfl) (by kernel_rfl) (by kernel_rfl)
  have k34 := @run_callFunc_extern Tryd.prog 34 _ (ReflectliteValue.method (ReflectliteValue.valueError "reflectlite.Value.IsNil" 0) ReflectliteValue.isNil) Tryd.func34 (by kernel_rfl) (by kernel_rfl) (by kernel_rfl) (by kernel_rfl)
  have k89 := @run_callFunc_extern Tryd.prog 89 _ (ReflectliteType.abiMethod fun t => do pure (.int .u8 (← Rtype.kind t))) Tryd.func89 (by kernel_rfl) (by kernel_rfl) (by kernel_rfl) (by kernel_rfl)
  have k101 := @run_callFunc_extern Tryd.prog 101 _ (ReflectliteType.method ReflectliteType.elem) Tryd.func101 (by kernel_rfl) (by kernel_rfl) (by kernel_rfl) (by kernel_rfl)
  have k102 := @run_callFunc_extern Tryd.prog 102 _ (ReflectliteType.relation "Implements" ReflectliteType.implements_) Tryd.func102 (by kernel_rfl) (by kernel_rfl) (by kernel_rfl) (by kernel_rfl)
  have k36 := @run_callFunc_extern Tryd.prog 36 _ ReflectliteType.typeOf Tryd.func36 (by kernel_rfl) (by kernel_rfl) (by kernel_rfl) (by kernel_rfl)
  have k99 := @run_callFunc_extern Tryd.prog 99 _ (ReflectliteType.relation "AssignableTo" ReflectliteType.assignableTo) Tryd.func99 (by kernel_rfl) (by kernel_rfl) (by kernel_rfl) (by kernel_rfl)
  have k45 := @run_callFunc_extern Tryd.prog 45 _ (ReflectliteValue.method (ReflectliteValue.valueError "reflectlite.Value.Elem" 0) ReflectliteValue.elem) Tryd.func45 (by kernel_rfl) (by kernel_rfl) (by kernel_rfl) (by kernel_rfl)
  have k46 := @run_callFunc_extern Tryd.prog 46 _ ReflectliteValue.set Tryd.func46 (by kernel_rfl) (by kernel_rfl) (by kernel_rfl) (by kernel_rfl)
  have tO := Tryd.typeOf33
  have mA := Tryd.methodAssignableTo
  have a33 := Tryd.assignable33
  have v33 := Tryd.valueOf33
  have v54 := Tryd.valueOf54
  have t54 := Tryd.type54
  have mK := Tryd.methodKind
  have mE := Tryd.methodElem
  have mI := Tryd.methodImplements
  have d54 := Tryd.kind54
  have d33 := Tryd.kind33
  have e54 := Tryd.elem54
  have i33 := Tryd.implements33
  have n34 := Tryd.isNil54 ⟨w.heap.size, 0, none⟩ ⟨B, 0, none⟩ ((w.alloc (.cells #[.pointer (some ⟨B, 0, none⟩)] 54)).alloc (.cells #[.pointer (some ⟨9, 54, none⟩), .pointer (some ⟨w.heap.size, 0, none⟩), .int .u64 150] 63)) (by simp)
  have hlt : 0 < w.heap.size := World.block_lt_of_cell? _ _ hg
  have hB : B < w.heap.size := World.block_lt_of_cell? _ _ h0
  have hg2 : ((w.alloc (.cells #[.pointer (some ⟨B, 0, none⟩)] 54)).alloc (.cells #[.pointer (some ⟨9, 54, none⟩), .pointer (some ⟨w.heap.size, 0, none⟩), .int .u64 150] 63)).cell? ⟨0, 0, none⟩ = some (.iface 81 (.agg #[.pointer (some ⟨9, 25, none⟩)])) := by
    rw [World.cell?_alloc_lt _ _ ⟨0, 0, none⟩ (by simp), World.cell?_alloc_lt _ _ ⟨0, 0, none⟩ hlt]; exact hg
  have el := Tryd.elemV54 ⟨w.heap.size, 0, none⟩ ⟨B, 0, none⟩ (((w.alloc (.cells #[.pointer (some ⟨B, 0, none⟩)] 54)).alloc (.cells #[.pointer (some ⟨9, 54, none⟩), .pointer (some ⟨w.heap.size, 0, none⟩), .int .u64 150] 63)).alloc (.cells #[.pointer (some ⟨9, 54, none⟩), .pointer (some ⟨w.heap.size, 0, none⟩), .int .u64 150] 63)) (by rw [World.cell?_alloc_lt _ _ ⟨w.heap.size, 0, none⟩ (by simp; omega)]; simp)
  have hbW : Below w.heap.size w ((((w.alloc (.cells #[.pointer (some ⟨B, 0, none⟩)] 54)).alloc (.cells #[.pointer (some ⟨9, 54, none⟩), .pointer (some ⟨w.heap.size, 0, none⟩), .int .u64 150] 63)).alloc (.cells #[.pointer (some ⟨9, 54, none⟩), .pointer (some ⟨w.heap.size, 0, none⟩), .int .u64 150] 63)).alloc (.cells #[.int .i64 c, .int .i64 p, .int .i64 q, .string s] 33)) :=
    ((((Below.refl _ w).alloc (Nat.le_refl _) _).alloc (by simp) _).alloc (by simp; omega) _).alloc (by simp; omega) _
  have sx := Tryd.set33 B (w.heap.size + 1 + 1 + 1) c p q s y0 y1 y2 y3 ((((w.alloc (.cells #[.pointer (some ⟨B, 0, none⟩)] 54)).alloc (.cells #[.pointer (some ⟨9, 54, none⟩), .pointer (some ⟨w.heap.size, 0, none⟩), .int .u64 150] 63)).alloc (.cells #[.pointer (some ⟨9, 54, none⟩), .pointer (some ⟨w.heap.size, 0, none⟩), .int .u64 150] 63)).alloc (.cells #[.int .i64 c, .int .i64 p, .int .i64 q, .string s] 33))
    ((hbW.cell (p := ⟨B, 0, none⟩) hB).trans h0) ((hbW.cell (p := ⟨B, 1, none⟩) hB).trans h1) ((hbW.cell (p := ⟨B, 2, none⟩) hB).trans h2) ((hbW.cell (p := ⟨B, 3, none⟩) hB).trans h3) (fun i => (hbW.frozen (p := ⟨B, i, none⟩) hB).trans (f i))
    (by rw [World.cell?_alloc_at _ _ _ _ (by simp)]; rfl) (by rw [World.cell?_alloc_at _ _ _ _ (by simp)]; rfl) (by rw [World.cell?_alloc_at _ _ _ _ (by simp)]; rfl) (by rw [World.cell?_alloc_at _ _ _ _ (by simp)]; rfl)
  have s4 := set_four ((((w.alloc (.cells #[.pointer (some ⟨B, 0, none⟩)] 54)).alloc (.cells #[.pointer (some ⟨9, 54, none⟩), .pointer (some ⟨w.heap.size, 0, none⟩), .int .u64 150] 63)).alloc (.cells #[.pointer (some ⟨9, 54, none⟩), .pointer (some ⟨w.heap.size, 0, none⟩), .int .u64 150] 63)).alloc (.cells #[.int .i64 c, .int .i64 p, .int .i64 q, .string s] 33)) B (.int .i64 c) (.int .i64 p) (.int .i64 q) (.string s) _ _ _ _
    ((hbW.cell (p := ⟨B, 0, none⟩) hB).trans h0) ((hbW.cell (p := ⟨B, 1, none⟩) hB).trans h1) ((hbW.cell (p := ⟨B, 2, none⟩) hB).trans h2) ((hbW.cell (p := ⟨B, 3, none⟩) hB).trans h3)
  have hN : Near B w ((((((((w.alloc (.cells #[.pointer (some ⟨B, 0, none⟩)] 54)).alloc (.cells #[.pointer (some ⟨9, 54, none⟩), .pointer (some ⟨w.heap.size, 0, none⟩), .int .u64 150] 63)).alloc (.cells #[.pointer (some ⟨9, 54, none⟩), .pointer (some ⟨w.heap.size, 0, none⟩), .int .u64 150] 63)).alloc (.cells #[.int .i64 c, .int .i64 p, .int .i64 q, .string s] 33)).setCell ⟨B, 0, none⟩ (.int .i64 c)).setCell ⟨B, 1, none⟩ (.int .i64 p)).setCell ⟨B, 2, none⟩ (.int .i64 q)).setCell ⟨B, 3, none⟩ (.string s)) :=
    (((((Near.refl B w).below hbW).setCell 0 _).setCell 1 _).setCell 2 _).setCell 3 _
  have HS4 := Lib.hid s4; have HNN := Lib.hid hN
  clear s4 hN hbW h0 h1 h2 h3 f hg
  go_enter Tryd.func18, Tryd.ntmps18
  go_wp2
  refine wp_loop_rounds 1 ?_
  rw [rounds_succ]
  go_wp2
  go_ret
  exact ⟨rfl, HNN.out, HS4.out⟩
end Go.Proofs.YtoeljmiefbaajaaDoor
