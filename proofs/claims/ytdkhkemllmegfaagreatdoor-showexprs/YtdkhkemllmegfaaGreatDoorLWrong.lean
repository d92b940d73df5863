import Derived.Test.YtdkhkemllmegfaaGreatDoorLToks
import Derived.LaidEql
import Derived.Stop.Asserts
import Derived.RowKitTokens

/- A diagnosis in memory (for seats without the document's layer 3; RToks has the same). -/
namespace Go.Proofs.YtdkhkemllmegfaaGreatDoor
open Go.RowKit

structure DiagAt (A : Nat) (w : World) : Prop where
  d0 : w.cell? ⟨A, 0, none⟩ = some (.int .i64 0)
  d1 : w.cell? ⟨A, 1, none⟩ = some (.int .i64 0)
  d2 : w.cell? ⟨A, 2, none⟩ = some (.int .i64 0)
  d3 : w.cell? ⟨A, 3, none⟩ = some (.string ⟨#[]⟩)
  df : ∀ i, w.frozen? ⟨A, i, none⟩ = false
theorem DiagAt.below {A : Nat} {w w' : World} (h : DiagAt A w) (hb : Below w.heap.size w w') : DiagAt A w' := by
  have hl : A < w.heap.size := World.block_lt_of_cell? _ _ h.d0
  exact ⟨(hb.cell (p := ⟨A, 0, none⟩) hl).trans h.d0, (hb.cell (p := ⟨A, 1, none⟩) hl).trans h.d1, (hb.cell (p := ⟨A, 2, none⟩) hl).trans h.d2, (hb.cell (p := ⟨A, 3, none⟩) hl).trans h.d3, fun i => (hb.frozen (p := ⟨A, i, none⟩) hl).trans (h.df i)⟩

theorem set_four (w : World) (B : Nat) (a b c d x y z u : Value) (h0 : w.cell? ⟨B, 0, none⟩ = some x) (h1 : w.cell? ⟨B, 1, none⟩ = some y) (h2 : w.cell? ⟨B, 2, none⟩ = some z) (h3 : w.cell? ⟨B, 3, none⟩ = some u) :
    ((((w.setCell ⟨B, 0, none⟩ a).setCell ⟨B, 1, none⟩ b).setCell ⟨B, 2, none⟩ c).setCell ⟨B, 3, none⟩ d).cell? ⟨B, 0, none⟩ = some a ∧ ((((w.setCell ⟨B, 0, none⟩ a).setCell ⟨B, 1, none⟩ b).setCell ⟨B, 2, none⟩ c).setCell ⟨B, 3, none⟩ d).cell? ⟨B, 1, none⟩ = some b ∧
    ((((w.setCell ⟨B, 0, none⟩ a).setCell ⟨B, 1, none⟩ b).setCell ⟨B, 2, none⟩ c).setCell ⟨B, 3, none⟩ d).cell? ⟨B, 2, none⟩ = some c ∧ ((((w.setCell ⟨B, 0, none⟩ a).setCell ⟨B, 1, none⟩ b).setCell ⟨B, 2, none⟩ c).setCell ⟨B, 3, none⟩ d).cell? ⟨B, 3, none⟩ = some d := by
  refine ⟨?_, ?_, ?_, ?_⟩
  · rw [World.cell?_setCell_other _ _ _ _ (by simp), World.cell?_setCell_other _ _ _ _ (by simp), World.cell?_setCell_other _ _ _ _ (by simp)]; exact World.cell?_setCell_same _ _ _ h0
  · rw [World.cell?_setCell_other _ _ _ _ (by simp), World.cell?_setCell_other _ _ _ _ (by simp)]
    exact World.cell?_setCell_same _ _ _ (by rw [World.cell?_setCell_other _ _ _ _ (by simp)]; exact h1)
  · rw [World.cell?_setCell_other _ _ _ _ (by simp)]
    exact World.cell?_setCell_same _ _ _ (by rw [World.cell?_setCell_other _ _ _ _ (by simp), World.cell?_setCell_other _ _ _ _ (by simp)]; exact h2)
  · exact World.cell?_setCell_same _ _ _ (by rw [World.cell?_setCell_other _ _ _ _ (by simp), World.cell?_setCell_other _ _ _ _ (by simp), World.cell?_setCell_other _ _ _ _ (by simp)]; exact h3)

end Go.Proofs.YtdkhkemllmegfaaGreatDoor


/- errors.As at a diagnosis and a variable of that type: true, and the variable holds it. -/
namespace Go.Proofs.YtdkhkemllmegfaaGreatDoor
open Go.RowKit Go.Extern.Stop Go.Stop Go.Extern
theorem Tryz.valueOf54 (t : Addr) (w : World) : (ReflectliteValue.unpack (.iface 93 (.pointer (some t)))).run Tryz.prog w
    = .ok (.agg #[.pointer (some ⟨9, 93, none⟩), .pointer (some ⟨w.heap.size, 0, none⟩), .int .u64 150]) (w.alloc (.cells #[.pointer (some t)] 93)) := by kernel_rfl
theorem Tryz.valueOf33 (a b c d : Value) (w : World) : (ReflectliteValue.unpack (.iface 85 (.agg #[a, b, c, d]))).run Tryz.prog w
    = .ok (.agg #[.pointer (some ⟨9, 85, none⟩), .pointer (some ⟨w.heap.size, 0, none⟩), .int .u64 153]) (w.alloc (.cells #[a, b, c, d] 85)) := by kernel_rfl
theorem Tryz.type54 (a : Addr) (w : World) : (ReflectliteValue.methodAny (ReflectliteValue.valueError "reflectlite.Value.Type" 0) (fun t _ _ _ => ReflectliteType.toType t) #[.agg #[.pointer (some ⟨9, 93, none⟩), .pointer (some a), .int .u64 150]]).run Tryz.prog w
    = .ok (.iface 158 (.agg #[.pointer (some ⟨9, 93, none⟩)])) w := by kernel_rfl
theorem Tryz.methodKind (h : Value) (w : World) : (Go.method 372 158 (.agg #[h]) "Kind").run Tryz.prog w = .ok (195, h) w := by kernel_rfl
theorem Tryz.kind54 (w : World) : ((ReflectliteType.abiMethod fun t => (fun a : Nat => Value.int IntKind.u8 (a : Int)) <$> Rtype.kind t) #[.pointer (some ⟨9, 93, none⟩)]).run Tryz.prog w = .ok (.int .u8 22) w := by kernel_rfl
theorem Tryz.kind33 (w : World) : ((ReflectliteType.abiMethod fun t => (fun a : Nat => Value.int IntKind.u8 (a : Int)) <$> Rtype.kind t) #[.pointer (some ⟨9, 85, none⟩)]).run Tryz.prog w = .ok (.int .u8 25) w := by kernel_rfl
theorem Tryz.parts54 (a : Addr) (w : World) : (ReflectliteValue.parts (.agg #[.pointer (some ⟨9, 93, none⟩), .pointer (some a), .int .u64 150])).run Tryz.prog w = .ok (some (93, a, 150)) w := by kernel_rfl
theorem Tryz.methodElem (h : Value) (w : World) : (Go.method 372 158 (.agg #[h]) "Elem").run Tryz.prog w = .ok (208, .agg #[h]) w := by kernel_rfl
theorem Tryz.methodImplements (h : Value) (w : World) : (Go.method 372 158 (.agg #[h]) "Implements").run Tryz.prog w = .ok (209, .agg #[h]) w := by kernel_rfl
theorem Tryz.methodAssignableTo (h : Value) (w : World) : (Go.method 372 158 (.agg #[h]) "AssignableTo").run Tryz.prog w = .ok (206, .agg #[h]) w := by kernel_rfl
theorem Tryz.methodComparable (h : Value) (w : World) : (Go.method 372 158 (.agg #[h]) "Comparable").run Tryz.prog w = .ok (207, .agg #[h]) w := by kernel_rfl
theorem Tryz.elem54 (w : World) : (ReflectliteType.method ReflectliteType.elem #[.agg #[.pointer (some ⟨9, 93, none⟩)]]).run Tryz.prog w = .ok (.iface 158 (.agg #[.pointer (some ⟨9, 85, none⟩)])) w := by kernel_rfl
theorem Tryz.implements33 (w : World) : (ReflectliteType.relation "Implements" ReflectliteType.implements_ #[.agg #[.pointer (some ⟨9, 85, none⟩)], .iface 158 (.agg #[.pointer (some ⟨9, 25, none⟩)])]).run Tryz.prog w = .ok (.bool true) w := by kernel_rfl
theorem Tryz.typeOf33 (v : Value) (w : World) : (ReflectliteType.typeOf #[.iface 85 v]).run Tryz.prog w = .ok (.iface 158 (.agg #[.pointer (some ⟨9, 85, none⟩)])) w := by kernel_rfl
theorem Tryz.typeOf29 (v : Value) (w : World) : (ReflectliteType.typeOf #[.iface 28 v]).run Tryz.prog w = .ok (.iface 158 (.agg #[.pointer (some ⟨9, 28, none⟩)])) w := by kernel_rfl
theorem Tryz.assignable33 (w : World) : (ReflectliteType.relation "AssignableTo" ReflectliteType.assignableTo #[.agg #[.pointer (some ⟨9, 85, none⟩)], .iface 158 (.agg #[.pointer (some ⟨9, 85, none⟩)])]).run Tryz.prog w = .ok (.bool true) w := by kernel_rfl
theorem Tryz.comparable29 (w : World) : ((Extern.ReflectliteType.method fun t => (fun a => Value.bool a.comparable) <$> typeInfo t) #[.agg #[.pointer (some ⟨9, 28, none⟩)]]).run Tryz.prog w = .ok (.bool true) w := by kernel_rfl
theorem Tryz.elemOf54 (w : World) : (Rtype.elem? 93).run Tryz.prog w = .ok (some 85) w := by kernel_rfl
theorem Tryz.mk33 (p : Addr) (w : World) : (ReflectliteValue.mk 85 p ReflectliteValue.flagAddr).run Tryz.prog w = .ok (.agg #[.pointer (some ⟨9, 85, none⟩), .pointer (some p), .int .u64 409]) w := by kernel_rfl
theorem Tryz.parts33a (a : Addr) (w : World) : (ReflectliteValue.parts (.agg #[.pointer (some ⟨9, 85, none⟩), .pointer (some a), .int .u64 409])).run Tryz.prog w = .ok (some (85, a, 409)) w := by kernel_rfl
theorem Tryz.parts33 (a : Addr) (w : World) : (ReflectliteValue.parts (.agg #[.pointer (some ⟨9, 85, none⟩), .pointer (some a), .int .u64 153])).run Tryz.prog w = .ok (some (85, a, 153)) w := by kernel_rfl
theorem Tryz.direct33 (w : World) : (Rtype.directlyAssignable 85 85).run Tryz.prog w = .ok true w := by kernel_rfl
theorem Tryz.hasUnwrap33 (v : Value) (xT : TypeId) (w : World) : (Instr.typeAssert (.iface 85 v) xT 166 true).run Tryz.prog w = .ok (.tuple #[.iface 85 v, .bool true]) w := run_typeAssert_hasB Tryz.underlying166 (by kernel_rfl) v xT w
theorem Tryz.methodUnwrap (v : Value) (w : World) : (Go.method 372 85 v "Unwrap").run Tryz.prog w = .ok (201, v) w := by kernel_rfl

section
variable {P : Program} (w : World)
theorem run_equalIn_iface_int (d : Nat) {ti tn : TypeId} {ms : Array (String × TypeId)} {i : TypeInfo} {k : IntKind} (a b : Int)
    (hi : P.underlying ti = some (.interface ms)) (hn : P.underlying tn = some (.int k)) (hinfo : P.info? tn = some i) (hcomp : i.comparable = true) :
    (Op.equalIn (d + 2) ti (.iface tn (.int k a)) (.iface tn (.int k b))).run P w = .ok (a == b) w := by
  simp [Op.equalIn, run_underlying hi, run_underlying hn, typeInfo, hinfo, hcomp]
/-- Two interface values of one integer type: equal as the numbers are. -/
theorem run_eql_iface_int {ti tn : TypeId} {ms : Array (String × TypeId)} {i : TypeInfo} {k : IntKind} (a b : Int)
    (hi : P.underlying ti = some (.interface ms)) (hn : P.underlying tn = some (.int k)) (hinfo : P.info? tn = some i) (hcomp : i.comparable = true) :
    (binOp .eql ti (.iface tn (.int k a)) (.iface tn (.int k b))).run P w = .ok (.bool (a == b)) w := by
  simp only [binOp]
  simp [Op.equal, Op.maxDepth, run_equalIn_iface_int w 9998 a b hi hn hinfo hcomp]
end

theorem rlm (z : Sem Value) (f : TypeId → Addr → Nat → Nat → Sem Value) (v : Value) :
    ReflectliteValue.method z f #[v] = (do match ← ReflectliteValue.parts v with | none => z | some (t, a, fl) => f t a fl (fl % 32)) := rfl
theorem Tryz.isNil54 (a p : Addr) (W : World) (ha : W.cell? a = some (.pointer (some p))) :
    (ReflectliteValue.method (ReflectliteValue.valueError "reflectlite.Value.IsNil" 0) ReflectliteValue.isNil #[.agg #[.pointer (some ⟨9, 93, none⟩), .pointer (some a), .int .u64 150]]).run Tryz.prog W = .ok (.bool false) W := by
  rw [rlm]
  simp only [Sem.run_bind, Tryz.parts54, Result.andThen]
  simp [ReflectliteValue.isNil, loadVar, isAgg, underlying, Tryz.underlying93, ha, Result.andThen]
theorem Tryz.elemV54 (a p : Addr) (W : World) (ha : W.cell? a = some (.pointer (some p))) :
    (ReflectliteValue.method (ReflectliteValue.valueError "reflectlite.Value.Elem" 0) ReflectliteValue.elem #[.agg #[.pointer (some ⟨9, 93, none⟩), .pointer (some a), .int .u64 150]]).run Tryz.prog W
      = .ok (.agg #[.pointer (some ⟨9, 85, none⟩), .pointer (some p), .int .u64 409]) W := by
  rw [rlm]
  simp only [Sem.run_bind, Tryz.parts54, Result.andThen]
  simp [ReflectliteValue.elem, loadVar, isAgg, underlying, Tryz.underlying93, ha, Result.andThen, Tryz.elemOf54, Tryz.mk33]
theorem rls (v x : Value) : ReflectliteValue.set #[v, x] = (do
    let (some (dst, a, fl), some (src, b, _)) := (← ReflectliteValue.parts v, ← ReflectliteValue.parts x)
      | unsupported (.noEntry "extern/(internal/reflectlite.Value).Set.zeroValue")
    if fl / ReflectliteValue.flagAddr % 2 == 0 then unsupported (.noEntry "extern/(internal/reflectlite.Value).Set.unaddressable")
    let val ← loadVar src b
    if ← Rtype.directlyAssignable dst src then storeVar dst a val
    else if ← Rtype.implements dst src then
      if (← Rtype.kind src) == 20 then
        match val with
        | .nilIface => unsupported (.noEntry "extern/reflectlite: a nil value of one interface type handed on as a value of another")
        | _ => storeVar dst a val
      else storeVar dst a (.iface src val)
    else panicString ("reflectlite.Set: value of type " ++ (← Rtype.spelt src) ++ " is not assignable to type " ++ (← Rtype.spelt dst))
    pure (.tuple #[])) := rfl
theorem Tryz.size33 (w : World) : (sizeOf 85).run Tryz.prog w = .ok 4 w := by kernel_rfl
theorem Tryz.agg33 (w : World) : (isAgg 85).run Tryz.prog w = .ok true w := by kernel_rfl
theorem load33 (B : Nat) (x0 x1 x2 x3 : Value) (W : World) (h0 : W.cell? ⟨B, 0, none⟩ = some x0) (h1 : W.cell? ⟨B, 1, none⟩ = some x1) (h2 : W.cell? ⟨B, 2, none⟩ = some x2) (h3 : W.cell? ⟨B, 3, none⟩ = some x3) :
    (loadVar 85 ⟨B, 0, none⟩).run Tryz.prog W = .ok (.agg #[x0, x1, x2, x3]) W := by
  simp [loadVar, Result.andThen, loadCells, loadCellsFrom, Addr.add, h0, h1, h2, h3]
theorem one_store (W : World) (a : Addr) (v y : Value) (hv : v.oneCell' = true) (h : W.cell? a = some y) (f : W.frozen? a = false) : (store a v).run Tryz.prog W = .ok () (W.setCell a v) := by
  rw [run_store Tryz.prog W a v _ hv]; simp [h, f]
theorem store33 (B : Nat) (c p q : Int) (s : ByteArray) (y0 y1 y2 y3 : Value) (W : World) (h0 : W.cell? ⟨B, 0, none⟩ = some y0) (h1 : W.cell? ⟨B, 1, none⟩ = some y1) (h2 : W.cell? ⟨B, 2, none⟩ = some y2) (h3 : W.cell? ⟨B, 3, none⟩ = some y3)
    (f : ∀ i, W.frozen? ⟨B, i, none⟩ = false) :
    (storeVar 85 ⟨B, 0, none⟩ (.agg #[.int .i64 c, .int .i64 p, .int .i64 q, .string s])).run Tryz.prog W = .ok () ((((W.setCell ⟨B, 0, none⟩ (.int .i64 c)).setCell ⟨B, 1, none⟩ (.int .i64 p)).setCell ⟨B, 2, none⟩ (.int .i64 q)).setCell ⟨B, 3, none⟩ (.string s)) := by
  have e0 := one_store W ⟨B, 0, none⟩ (.int .i64 c) _ rfl h0 (f 0)
  have e1 := one_store (W.setCell ⟨B, 0, none⟩ (.int .i64 c)) ⟨B, 1, none⟩ (.int .i64 p) y1 rfl (by rw [World.cell?_setCell_other _ _ _ _ (by simp)]; exact h1) (by simpa using f 1)
  have e2 := one_store ((W.setCell ⟨B, 0, none⟩ (.int .i64 c)).setCell ⟨B, 1, none⟩ (.int .i64 p)) ⟨B, 2, none⟩ (.int .i64 q) y2 rfl (by rw [World.cell?_setCell_other _ _ _ _ (by simp), World.cell?_setCell_other _ _ _ _ (by simp)]; exact h2) (by simpa using f 2)
  have e3 := one_store (((W.setCell ⟨B, 0, none⟩ (.int .i64 c)).setCell ⟨B, 1, none⟩ (.int .i64 p)).setCell ⟨B, 2, none⟩ (.int .i64 q)) ⟨B, 3, none⟩ (.string s) y3 rfl (by rw [World.cell?_setCell_other _ _ _ _ (by simp), World.cell?_setCell_other _ _ _ _ (by simp), World.cell?_setCell_other _ _ _ _ (by simp)]; exact h3) (by simpa using f 3)
  simp only [storeVar, Sem.run_bind, Tryz.size33, Result.andThen, Value.cells]
  simp [storeCells, Addr.add, Sem.run_bind, Result.andThen]
  rw [e0]; simp only
  rw [e1]; simp only
  rw [e2]; simp only
  rw [e3]
theorem Tryz.set33 (B S : Nat) (c p q : Int) (s : ByteArray) (y0 y1 y2 y3 : Value) (W : World) (h0 : W.cell? ⟨B, 0, none⟩ = some y0) (h1 : W.cell? ⟨B, 1, none⟩ = some y1) (h2 : W.cell? ⟨B, 2, none⟩ = some y2) (h3 : W.cell? ⟨B, 3, none⟩ = some y3)
    (f : ∀ i, W.frozen? ⟨B, i, none⟩ = false) (s0 : W.cell? ⟨S, 0, none⟩ = some (.int .i64 c)) (s1 : W.cell? ⟨S, 1, none⟩ = some (.int .i64 p)) (s2 : W.cell? ⟨S, 2, none⟩ = some (.int .i64 q)) (s3 : W.cell? ⟨S, 3, none⟩ = some (.string s)) :
    (ReflectliteValue.set #[.agg #[.pointer (some ⟨9, 85, none⟩), .pointer (some ⟨B, 0, none⟩), .int .u64 409], .agg #[.pointer (some ⟨9, 85, none⟩), .pointer (some ⟨S, 0, none⟩), .int .u64 153]]).run Tryz.prog W
      = .ok (.tuple #[]) ((((W.setCell ⟨B, 0, none⟩ (.int .i64 c)).setCell ⟨B, 1, none⟩ (.int .i64 p)).setCell ⟨B, 2, none⟩ (.int .i64 q)).setCell ⟨B, 3, none⟩ (.string s)) := by
  have hl := load33 S _ _ _ _ W s0 s1 s2 s3
  have hst := store33 B c p q s y0 y1 y2 y3 W h0 h1 h2 h3 f
  rw [rls]
  simp only [Sem.run_bind, Tryz.parts33a, Tryz.parts33, Result.andThen]
  simp [ReflectliteValue.flagAddr, hl, Result.andThen, Tryz.direct33, hst]

set_option maxRecDepth 100000 in
set_option maxHeartbeats 4000000 in
/-- errors.As at a diagnosis, its target a variable of that very type: true; the variable holds the diagnosis. -/
theorem as_hit_fz (c p q : Int) (s : ByteArray) (B : Nat) (y0 y1 y2 y3 : Value) (w : World) (hg : w.cell? ⟨0, 0, none⟩ = some (.iface 158 (.agg #[.pointer (some ⟨9, 25, none⟩)])))
    (h0 : w.cell? ⟨B, 0, none⟩ = some y0) (h1 : w.cell? ⟨B, 1, none⟩ = some y1) (h2 : w.cell? ⟨B, 2, none⟩ = some y2) (h3 : w.cell? ⟨B, 3, none⟩ = some y3) (f : ∀ i, w.frozen? ⟨B, i, none⟩ = false) :
    Calls Tryz.prog 32 #[.iface 85 (.agg #[.int .i64 c, .int .i64 p, .int .i64 q, .string s]), .iface 93 (.pointer (some ⟨B, 0, none⟩))] w fun e w' => e = .returned (.bool true) ∧ Near B w w' ∧
      (w'.cell? ⟨B, 0, none⟩ = some (.int .i64 c) ∧ w'.cell? ⟨B, 1, none⟩ = some (.int .i64 p) ∧ w'.cell? ⟨B, 2, none⟩ = some (.int .i64 q) ∧ w'.cell? ⟨B, 3, none⟩ = some (.string s)) ∧ ∀ i, w'.frozen? ⟨B, i, none⟩ = false := by
  have k32 := @run_callFunc_extern Tryz.prog 54 _ (fun args => ReflectliteValue.unpack (args.getD 0 (.tuple #[]))) Tryz.func54 (by kernel_rfl) (by kernel_rfl) (by kernel_rfl) (by kernel_rfl)
  have k33 := @run_callFunc_extern Tryz.prog 55 _ (ReflectliteValue.methodAny (ReflectliteValue.valueError "reflectlite.Value.Type" 0) (fun t _ _ _ => ReflectliteType.toType t)) Tryz.func55 (by kernel_rfl) (by kernel_rfl) (by kernel_rfl) (by kernel_rfl)
  have k34 := @run_callFunc_extern Tryz.prog 56 _ (ReflectliteValue.method (ReflectliteValue.valueError "reflectlite.Value.IsNil" 0) ReflectliteValue.isNil) Tryz.func56 (by kernel_rfl) (by kernel_rfl) (by kernel_rfl) (by kernel_rfl)
  have k89 := @run_callFunc_extern Tryz.prog 195 _ (ReflectliteType.abiMethod fun t => do pure (.int .u8 (← Rtype.kind t))) Tryz.func195 (by kernel_rfl) (by kernel_rfl) (by kernel_rfl) (by kernel_rfl)
  have k101 := @run_callFunc_extern Tryz.prog 208 _ (ReflectliteType.method ReflectliteType.elem) Tryz.func208 (by kernel_rfl) (by kernel_rfl) (by kernel_rfl) (by kernel_rfl)
  have k102 := @run_callFunc_extern Tryz.prog 209 _ (ReflectliteType.relation "Implements" ReflectliteType.implements_) Tryz.func209 (by kernel_rfl) (by kernel_rfl) (by kernel_rfl) (by kernel_rfl)
  have k36 := @run_callFunc_extern Tryz.prog 80 _ ReflectliteType.typeOf Tryz.func80 (by kernel_rfl) (by kernel_rfl) (by kernel_rfl) (by kernel_rfl)
  have k99 := @run_callFunc_extern Tryz.prog 206 _ (ReflectliteType.relation "AssignableTo" ReflectliteType.assignableTo) Tryz.func206 (by kernel_rfl) (by kernel_rfl) (by kernel_rfl) (by kernel_rfl)
  have k45 := @run_callFunc_extern Tryz.prog 81 _ (ReflectliteValue.method (ReflectliteValue.valueError "reflectlite.Value.Elem" 0) ReflectliteValue.elem) Tryz.func81 (by kernel_rfl) (by kernel_rfl) (by kernel_rfl) (by kernel_rfl)
  have k46 := @run_callFunc_extern Tryz.prog 82 _ ReflectliteValue.set Tryz.func82 (by kernel_rfl) (by kernel_rfl) (by kernel_rfl) (by kernel_rfl)
  have tO := Tryz.typeOf33
  have mA := Tryz.methodAssignableTo
  have a33 := Tryz.assignable33
  have v33 := Tryz.valueOf33
  have v54 := Tryz.valueOf54
  have t54 := Tryz.type54
  have mK := Tryz.methodKind
  have mE := Tryz.methodElem
  have mI := Tryz.methodImplements
  have d54 := Tryz.kind54
  have d33 := Tryz.kind33
  have e54 := Tryz.elem54
  have i33 := Tryz.implements33
  have n34 := Tryz.isNil54 ⟨w.heap.size, 0, none⟩ ⟨B, 0, none⟩ ((w.alloc (.cells #[.pointer (some ⟨B, 0, none⟩)] 93)).alloc (.cells #[.pointer (some ⟨9, 93, none⟩), .pointer (some ⟨w.heap.size, 0, none⟩), .int .u64 150] 131)) (by simp)
  have hlt : 0 < w.heap.size := World.block_lt_of_cell? _ _ hg
  have hB : B < w.heap.size := World.block_lt_of_cell? _ _ h0
  have hg2 : ((w.alloc (.cells #[.pointer (some ⟨B, 0, none⟩)] 93)).alloc (.cells #[.pointer (some ⟨9, 93, none⟩), .pointer (some ⟨w.heap.size, 0, none⟩), .int .u64 150] 131)).cell? ⟨0, 0, none⟩ = some (.iface 158 (.agg #[.pointer (some ⟨9, 25, none⟩)])) := by
    rw [World.cell?_alloc_lt _ _ ⟨0, 0, none⟩ (by simp), World.cell?_alloc_lt _ _ ⟨0, 0, none⟩ hlt]; exact hg
  have el := Tryz.elemV54 ⟨w.heap.size, 0, none⟩ ⟨B, 0, none⟩ (((w.alloc (.cells #[.pointer (some ⟨B, 0, none⟩)] 93)).alloc (.cells #[.pointer (some ⟨9, 93, none⟩), .pointer (some ⟨w.heap.size, 0, none⟩), .int .u64 150] 131)).alloc (.cells #[.pointer (some ⟨9, 93, none⟩), .pointer (some ⟨w.heap.size, 0, none⟩), .int .u64 150] 131)) (by rw [World.cell?_alloc_lt _ _ ⟨w.heap.size, 0, none⟩ (by simp; omega)]; simp)
  have hbW : Below w.heap.size w ((((w.alloc (.cells #[.pointer (some ⟨B, 0, none⟩)] 93)).alloc (.cells #[.pointer (some ⟨9, 93, none⟩), .pointer (some ⟨w.heap.size, 0, none⟩), .int .u64 150] 131)).alloc (.cells #[.pointer (some ⟨9, 93, none⟩), .pointer (some ⟨w.heap.size, 0, none⟩), .int .u64 150] 131)).alloc (.cells #[.int .i64 c, .int .i64 p, .int .i64 q, .string s] 85)) :=
    ((((Below.refl _ w).alloc (Nat.le_refl _) _).alloc (by simp) _).alloc (by simp; omega) _).alloc (by simp; omega) _
  have sx := Tryz.set33 B (w.heap.size + 1 + 1 + 1) c p q s y0 y1 y2 y3 ((((w.alloc (.cells #[.pointer (some ⟨B, 0, none⟩)] 93)).alloc (.cells #[.pointer (some ⟨9, 93, none⟩), .pointer (some ⟨w.heap.size, 0, none⟩), .int .u64 150] 131)).alloc (.cells #[.pointer (some ⟨9, 93, none⟩), .pointer (some ⟨w.heap.size, 0, none⟩), .int .u64 150] 131)).alloc (.cells #[.int .i64 c, .int .i64 p, .int .i64 q, .string s] 85))
    ((hbW.cell (p := ⟨B, 0, none⟩) hB).trans h0) ((hbW.cell (p := ⟨B, 1, none⟩) hB).trans h1) ((hbW.cell (p := ⟨B, 2, none⟩) hB).trans h2) ((hbW.cell (p := ⟨B, 3, none⟩) hB).trans h3) (fun i => (hbW.frozen (p := ⟨B, i, none⟩) hB).trans (f i))
    (by rw [World.cell?_alloc_at _ _ _ _ (by simp)]; rfl) (by rw [World.cell?_alloc_at _ _ _ _ (by simp)]; rfl) (by rw [World.cell?_alloc_at _ _ _ _ (by simp)]; rfl) (by rw [World.cell?_alloc_at _ _ _ _ (by simp)]; rfl)
  have s4 := set_four ((((w.alloc (.cells #[.pointer (some ⟨B, 0, none⟩)] 93)).alloc (.cells #[.pointer (some ⟨9, 93, none⟩), .pointer (some ⟨w.heap.size, 0, none⟩), .int .u64 150] 131)).alloc (.cells #[.pointer (some ⟨9, 93, none⟩), .pointer (some ⟨w.heap.size, 0, none⟩), .int .u64 150] 131)).alloc (.cells #[.int .i64 c, .int .i64 p, .int .i64 q, .string s] 85)) B (.int .i64 c) (.int .i64 p) (.int .i64 q) (.string s) _ _ _ _
    ((hbW.cell (p := ⟨B, 0, none⟩) hB).trans h0) ((hbW.cell (p := ⟨B, 1, none⟩) hB).trans h1) ((hbW.cell (p := ⟨B, 2, none⟩) hB).trans h2) ((hbW.cell (p := ⟨B, 3, none⟩) hB).trans h3)
  have hN : Near B w ((((((((w.alloc (.cells #[.pointer (some ⟨B, 0, none⟩)] 93)).alloc (.cells #[.pointer (some ⟨9, 93, none⟩), .pointer (some ⟨w.heap.size, 0, none⟩), .int .u64 150] 131)).alloc (.cells #[.pointer (some ⟨9, 93, none⟩), .pointer (some ⟨w.heap.size, 0, none⟩), .int .u64 150] 131)).alloc (.cells #[.int .i64 c, .int .i64 p, .int .i64 q, .string s] 85)).setCell ⟨B, 0, none⟩ (.int .i64 c)).setCell ⟨B, 1, none⟩ (.int .i64 p)).setCell ⟨B, 2, none⟩ (.int .i64 q)).setCell ⟨B, 3, none⟩ (.string s)) :=
    (((((Near.refl B w).below hbW).setCell 0 _).setCell 1 _).setCell 2 _).setCell 3 _
  have hfz : ∀ i, ((((((((w.alloc (.cells #[.pointer (some ⟨B, 0, none⟩)] 93)).alloc (.cells #[.pointer (some ⟨9, 93, none⟩), .pointer (some ⟨w.heap.size, 0, none⟩), .int .u64 150] 131)).alloc (.cells #[.pointer (some ⟨9, 93, none⟩), .pointer (some ⟨w.heap.size, 0, none⟩), .int .u64 150] 131)).alloc (.cells #[.int .i64 c, .int .i64 p, .int .i64 q, .string s] 85)).setCell ⟨B, 0, none⟩ (.int .i64 c)).setCell ⟨B, 1, none⟩ (.int .i64 p)).setCell ⟨B, 2, none⟩ (.int .i64 q)).setCell ⟨B, 3, none⟩ (.string s)).frozen? ⟨B, i, none⟩ = false := fun i => by simpa using (hbW.frozen (p := ⟨B, i, none⟩) hB).trans (f i)
  have HS4 := Lib.hid s4; have HNN := Lib.hid hN; have HFZ := Lib.hid hfz
  clear s4 hN hfz hbW h0 h1 h2 h3 f hg
  go_enter Tryz.func32, Tryz.ntmps32
  go_wp2
  refine wp_loop_rounds 1 ?_
  rw [rounds_succ]
  go_wp2
  go_ret
  exact ⟨rfl, HNN.out, HS4.out, HFZ.out⟩
theorem as_hit (c p q : Int) (s : ByteArray) (B : Nat) (y0 y1 y2 y3 : Value) (w : World) (hg : w.cell? ⟨0, 0, none⟩ = some (.iface 158 (.agg #[.pointer (some ⟨9, 25, none⟩)])))
    (h0 : w.cell? ⟨B, 0, none⟩ = some y0) (h1 : w.cell? ⟨B, 1, none⟩ = some y1) (h2 : w.cell? ⟨B, 2, none⟩ = some y2) (h3 : w.cell? ⟨B, 3, none⟩ = some y3) (f : ∀ i, w.frozen? ⟨B, i, none⟩ = false) :
    Calls Tryz.prog 32 #[.iface 85 (.agg #[.int .i64 c, .int .i64 p, .int .i64 q, .string s]), .iface 93 (.pointer (some ⟨B, 0, none⟩))] w fun e w' => e = .returned (.bool true) ∧ Near B w w' ∧
      (w'.cell? ⟨B, 0, none⟩ = some (.int .i64 c) ∧ w'.cell? ⟨B, 1, none⟩ = some (.int .i64 p) ∧ w'.cell? ⟨B, 2, none⟩ = some (.int .i64 q) ∧ w'.cell? ⟨B, 3, none⟩ = some (.string s)) :=
  (as_hit_fz c p q s B y0 y1 y2 y3 w hg h0 h1 h2 h3 f).mono fun _ _ h => ⟨h.1, h.2.1, h.2.2.1⟩
end Go.Proofs.YtdkhkemllmegfaaGreatDoor


/- errors.Is at a diagnosis and its code: true. -/
namespace Go.Proofs.YtdkhkemllmegfaaGreatDoor
open Go.RowKit Go.Extern.Stop Go.Stop Go.Extern

theorem unwrap_any (c p q : Int) (s : ByteArray) (w : World) : Calls Tryz.prog 201 #[.agg #[.int .i64 c, .int .i64 p, .int .i64 q, .string s]] w fun e w' => e = .returned (.iface 28 (.int .i64 c)) ∧ Below w.heap.size w w' := by
  have hb : ∀ o, Below w.heap.size w (w.alloc o) := fun o => (Below.refl _ _).alloc (Nat.le_refl _) _
  have HB := Lib.hid hb; clear hb
  go_enter Tryz.func201, Tryz.ntmps201
  go_wp2
  go_ret
  exact ⟨rfl, by first | exact HB.out _ | exact Below.refl _ _⟩

theorem Tryz.comparable29b (w : World) : ((Extern.ReflectliteType.method fun t => do Rtype.noPackHeld "Comparable" t; (fun a => Value.bool a.comparable) <$> typeInfo t) #[.agg #[.pointer (some ⟨9, 28, none⟩)]]).run Tryz.prog w = .ok (.bool true) w := by kernel_rfl
theorem Tryz.comp29 : (Tryz.prog.info? 28).map (·.comparable) = some true := by kernel_rfl

end Go.Proofs.YtdkhkemllmegfaaGreatDoor


/- The law's own look at a diagnosis; what the tokens' errors are (for seats without the law of tokens; LawTok has the same). -/
namespace Go.Proofs.YtdkhkemllmegfaaGreatDoor
open Go.RowKit

namespace Lx
theorem toks_bad_code : ∀ (f : Nat) (note : Bool) (p : Pos) (l : B) (c : Int) (q : Pos), toks f note p l = .bad c q → c = 6 ∨ c = 4
  | 0, _, _, _, _, _, h => by simp [toks] at h
  | f + 1, note, p, l, c, q, h => by
    rw [toks] at h
    cases ho : one (l.drop (blanks note l)) with
    | bad e =>
      rw [ho] at h
      simp only [Res.bad.injEq] at h
      obtain ⟨rfl, _⟩ := h
      exact (one_bad ho).1
    | tok k n v =>
      rw [ho] at h
      simp only at h
      by_cases hk : k = 0
      · rw [if_pos hk] at h; cases h
      · rw [if_neg hk] at h
        cases hr : toks f false (adv p (l.take (blanks note l + n))) (l.drop (blanks note l + n)) with
        | bad c' q' =>
          rw [hr] at h
          simp only [Res.after, Res.bad.injEq] at h
          obtain ⟨rfl, _⟩ := h
          exact toks_bad_code f _ _ _ _ _ hr
        | ok ts => rw [hr] at h; simp [Res.after] at h
theorem whole_bad {l : B} {c : Int} {p : Pos} (h : whole l = .bad c p) : c = 6 ∨ c = 3 ∨ c = 4 := by
  unfold whole at h
  split at h
  · simp only [Res.bad.injEq] at h; omega
  · split at h
    · simp only [Res.bad.injEq] at h; omega
    · have := toks_bad_code _ _ _ _ _ _ h; omega
theorem toks_some (f : Nat) (note : Bool) (p : Pos) (l : B) (ts : List Tok) (h : toks (f + 1) note p l = .ok ts) : 0 < ts.length := by
  rw [toks] at h
  cases ho : one (l.drop (blanks note l)) with
  | bad e => rw [ho] at h; cases h
  | tok k n v =>
    rw [ho] at h
    simp only at h
    by_cases hk : k = 0
    · rw [if_pos hk] at h; cases h; simp
    · rw [if_neg hk] at h
      cases hr : toks f false (adv p (l.take (blanks note l + n))) (l.drop (blanks note l + n)) with
      | bad c' q' => rw [hr] at h; simp [Res.after] at h
      | ok us => rw [hr] at h; simp only [Res.after, Res.ok.injEq] at h; subst h; simp
theorem whole_some {l : B} {ts : List Tok} (h : whole l = .ok ts) : 0 < ts.length := by
  unfold whole at h
  split at h
  · cases h
  · split at h
    · cases h
    · exact toks_some _ _ _ _ _ h
end Lx

theorem own_slice2 {w : World} {base : Nat} {e : TypeId} {size : Nat} {v : Value} {n : Nat} {xs : List Value} (h : w.ownsRow base e size v n xs) (hn : 0 < n) :
    ∃ g cap, v = .slice (some ⟨g, 0, none⟩) n cap ∧ n ≤ cap ∧ cap ≤ 9223372036854775807 ∧ ∀ j u, xs[j]? = some u → w.cell? ⟨g, j, none⟩ = some u := by
  rcases h.2 with ⟨rfl, h0⟩ | ⟨g, cap, cur, rfl, hb, hg, hc, hm, _⟩
  · omega
  · refine ⟨g, cap, rfl, hc, by unfold maxLen at hm; omega, fun j u hu => ?_⟩
    have := h.cells (g := g) rfl j u hu
    have hadd : (⟨g, 0, none⟩ : Addr).add j = ⟨g, j, none⟩ := by unfold Addr.add; split <;> simp_all
    rwa [hadd] at this

end Go.Proofs.YtdkhkemllmegfaaGreatDoor
