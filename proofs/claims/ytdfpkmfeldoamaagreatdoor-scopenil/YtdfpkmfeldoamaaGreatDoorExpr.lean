/- A part of the proof: A part of the proof. -/
import Derived.Test.YtdfpkmfeldoamaaGreatDoorLDiag
import Derived.LaidEql
import Derived.Stop.Asserts
import Derived.RowKitTokens
import Derived.Recover
set_option linter.unusedSimpArgs false
set_option linter.unusedVariables false
set_option maxRecDepth 100000
set_option maxHeartbeats 4000000
namespace Go.Proofs.YtdfpkmfeldoamaaGreatDoor
section
open Go.RowKit Go.Extern.Stop Go.Stop Go.Extern
theorem Tryz.valueOf54 (t:Addr)(w:World):(ReflectliteValue.unpack (.iface 94 (.pointer (some t)))).run Tryz.prog w
  = .ok (.agg #[.pointer (some ⟨9,94,none⟩),.pointer (some ⟨w.heap.size,0,none⟩),.int .u64 150]) (w.alloc (.cells #[.pointer (some t)] 94)):=by kernel_rfl
theorem Tryz.valueOf33 (a b c d:Value)(w:World):(ReflectliteValue.unpack (.iface 43 (.agg #[a,b,c,d]))).run Tryz.prog w
  = .ok (.agg #[.pointer (some ⟨9,43,none⟩),.pointer (some ⟨w.heap.size,0,none⟩),.int .u64 153]) (w.alloc (.cells #[a,b,c,d] 43)):=by kernel_rfl
theorem Tryz.type54 (a:Addr)(w:World):(ReflectliteValue.methodAny (ReflectliteValue.valueError "reflectlite.Value.Type" 0) (fun t _ _ _=>ReflectliteType.toType t) #[.agg #[.pointer (some ⟨9,94,none⟩),.pointer (some a),.int .u64 150]]).run Tryz.prog w
  = .ok (.iface 202 (.agg #[.pointer (some ⟨9,94,none⟩)])) w:=by kernel_rfl
theorem Tryz.methodKind (h:Value)(w:World):(Go.method 468 202 (.agg #[h]) "Kind").run Tryz.prog w = .ok (252,h) w:=by kernel_rfl
theorem Tryz.kind54 (w:World):((ReflectliteType.abiMethod fun t=>(fun a:Nat=>Value.int IntKind.u8 (a:Int)) <$> Rtype.kind t) #[.pointer (some ⟨9,94,none⟩)]).run Tryz.prog w = .ok (.int .u8 22) w:=by kernel_rfl
theorem Tryz.kind33 (w:World):((ReflectliteType.abiMethod fun t=>(fun a:Nat=>Value.int IntKind.u8 (a:Int)) <$> Rtype.kind t) #[.pointer (some ⟨9,43,none⟩)]).run Tryz.prog w = .ok (.int .u8 25) w:=by kernel_rfl
theorem Tryz.parts54 (a:Addr)(w:World):(ReflectliteValue.parts (.agg #[.pointer (some ⟨9,94,none⟩),.pointer (some a),.int .u64 150])).run Tryz.prog w = .ok (some (94,a,150)) w:=by kernel_rfl
theorem Tryz.methodElem (h:Value)(w:World):(Go.method 468 202 (.agg #[h]) "Elem").run Tryz.prog w = .ok (264,.agg #[h]) w:=by kernel_rfl
theorem Tryz.methodImplements (h:Value)(w:World):(Go.method 468 202 (.agg #[h]) "Implements").run Tryz.prog w = .ok (265,.agg #[h]) w:=by kernel_rfl
theorem Tryz.methodAssignableTo (h:Value)(w:World):(Go.method 468 202 (.agg #[h]) "AssignableTo").run Tryz.prog w = .ok (262,.agg #[h]) w:=by kernel_rfl
theorem Tryz.elem54 (w:World):(ReflectliteType.method ReflectliteType.elem #[.agg #[.pointer (some ⟨9,94,none⟩)]]).run Tryz.prog w = .ok (.iface 202 (.agg #[.pointer (some ⟨9,43,none⟩)])) w:=by kernel_rfl
theorem Tryz.implements33 (w:World):(ReflectliteType.relation "Implements" ReflectliteType.implements_ #[.agg #[.pointer (some ⟨9,43,none⟩)],.iface 202 (.agg #[.pointer (some ⟨9,27,none⟩)])]).run Tryz.prog w = .ok (.bool true) w:=by kernel_rfl
theorem Tryz.typeOf33 (v:Value)(w:World):(ReflectliteType.typeOf #[.iface 43 v]).run Tryz.prog w = .ok (.iface 202 (.agg #[.pointer (some ⟨9,43,none⟩)])) w:=by kernel_rfl
theorem Tryz.assignable33 (w:World):(ReflectliteType.relation "AssignableTo" ReflectliteType.assignableTo #[.agg #[.pointer (some ⟨9,43,none⟩)],.iface 202 (.agg #[.pointer (some ⟨9,43,none⟩)])]).run Tryz.prog w = .ok (.bool true) w:=by kernel_rfl
theorem Tryz.elemOf54 (w:World):(Rtype.elem? 94).run Tryz.prog w = .ok (some 43) w:=by kernel_rfl
theorem Tryz.mk33 (p:Addr)(w:World):(ReflectliteValue.mk 43 p ReflectliteValue.flagAddr).run Tryz.prog w = .ok (.agg #[.pointer (some ⟨9,43,none⟩),.pointer (some p),.int .u64 409]) w:=by kernel_rfl
theorem Tryz.parts33a (a:Addr)(w:World):(ReflectliteValue.parts (.agg #[.pointer (some ⟨9,43,none⟩),.pointer (some a),.int .u64 409])).run Tryz.prog w = .ok (some (43,a,409)) w:=by kernel_rfl
theorem Tryz.parts33 (a:Addr)(w:World):(ReflectliteValue.parts (.agg #[.pointer (some ⟨9,43,none⟩),.pointer (some a),.int .u64 153])).run Tryz.prog w = .ok (some (43,a,153)) w:=by kernel_rfl
theorem Tryz.direct33 (w:World):(Rtype.directlyAssignable 43 43).run Tryz.prog w = .ok true w:=by kernel_rfl
section
variable {P:Program} (w:World)
end
theorem rlm (z:Sem Value)(f:TypeId->Addr->Nat->Nat->Sem Value)(v:Value):
  ReflectliteValue.method z f #[v]=(do match <- ReflectliteValue.parts v with | none=>z | some (t,a,fl)=>f t a fl (fl % 32)):=rfl
theorem Tryz.isNil54 (a p:Addr)(W:World)(ha:W.cell? a=some (.pointer (some p))):
  (ReflectliteValue.method (ReflectliteValue.valueError "reflectlite.Value.IsNil" 0) ReflectliteValue.isNil #[.agg #[.pointer (some ⟨9,94,none⟩),.pointer (some a),.int .u64 150]]).run Tryz.prog W = .ok (.bool false) W:=by
 rw [rlm];simp only [Sem.run_bind,Tryz.parts54,Result.andThen];simp [ReflectliteValue.isNil,loadVar,isAgg,underlying,Tryz.underlying94,ha,Result.andThen]
theorem Tryz.elemV54 (a p:Addr)(W:World)(ha:W.cell? a=some (.pointer (some p))):
  (ReflectliteValue.method (ReflectliteValue.valueError "reflectlite.Value.Elem" 0) ReflectliteValue.elem #[.agg #[.pointer (some ⟨9,94,none⟩),.pointer (some a),.int .u64 150]]).run Tryz.prog W
   = .ok (.agg #[.pointer (some ⟨9,43,none⟩),.pointer (some p),.int .u64 409]) W:=by
 rw [rlm];simp only [Sem.run_bind,Tryz.parts54,Result.andThen];simp [ReflectliteValue.elem,loadVar,isAgg,underlying,Tryz.underlying94,ha,Result.andThen,Tryz.elemOf54,Tryz.mk33]
theorem rls (v x:Value):ReflectliteValue.set #[v,x]=(do
  let (some (dst,a,fl),some (src,b,_)):=(<- ReflectliteValue.parts v,<- ReflectliteValue.parts x)
   | unsupported (.noEntry "extern/(internal/reflectlite.Value).Set.zeroValue")
  if fl / ReflectliteValue.flagAddr % 2==0 then unsupported (.noEntry "extern/(internal/reflectlite.Value).Set.unaddressable")
  let val <- loadVar src b
  if <- Rtype.directlyAssignable dst src then storeVar dst a val
  else if <- Rtype.implements dst src then
   if (<- Rtype.kind src)==20 then
    match val with
    | .nilIface=>unsupported (.noEntry "extern/reflectlite: a nil value of one interface type handed on as a value of another")
    | _=>storeVar dst a val
   else storeVar dst a (.iface src val)
  else panicString ("reflectlite.Set: value of type " ++ (<- Rtype.spelt src) ++ " is not assignable to type " ++ (<- Rtype.spelt dst))
  pure (.tuple #[])):=rfl
theorem Tryz.size33 (w:World):(sizeOf 43).run Tryz.prog w = .ok 4 w:=by kernel_rfl
theorem load33 (B:Nat)(x0 x1 x2 x3:Value)(W:World)(h0:W.cell? ⟨B,0,none⟩=some x0)(h1:W.cell? ⟨B,1,none⟩=some x1)(h2:W.cell? ⟨B,2,none⟩=some x2)(h3:W.cell? ⟨B,3,none⟩=some x3):
  (loadVar 43 ⟨B,0,none⟩).run Tryz.prog W = .ok (.agg #[x0,x1,x2,x3]) W:=by
 simp [loadVar,Result.andThen,loadCells,loadCellsFrom,Addr.add,h0,h1,h2,h3]
theorem one_store (W:World)(a:Addr)(v y:Value)(hv:v.oneCell'=true)(h:W.cell? a=some y)(f:W.frozen? a=false):(store a v).run Tryz.prog W = .ok () (W.setCell a v):=by
 rw [run_store Tryz.prog W a v _ hv];simp [h,f]
theorem store33 (B:Nat)(c p q:Int)(s:ByteArray)(y0 y1 y2 y3:Value)(W:World)(h0:W.cell? ⟨B,0,none⟩=some y0)(h1:W.cell? ⟨B,1,none⟩=some y1)(h2:W.cell? ⟨B,2,none⟩=some y2)(h3:W.cell? ⟨B,3,none⟩=some y3)
  (f:∀ i,W.frozen? ⟨B,i,none⟩=false):
  (storeVar 43 ⟨B,0,none⟩ (.agg #[.int .i64 c,.int .i64 p,.int .i64 q,.string s])).run Tryz.prog W = .ok () ((((W.setCell ⟨B,0,none⟩ (.int .i64 c)).setCell ⟨B,1,none⟩ (.int .i64 p)).setCell ⟨B,2,none⟩ (.int .i64 q)).setCell ⟨B,3,none⟩ (.string s)):=by
 have e0:=one_store W ⟨B,0,none⟩ (.int .i64 c) _ rfl h0 (f 0);have e1:=one_store (W.setCell ⟨B,0,none⟩ (.int .i64 c)) ⟨B,1,none⟩ (.int .i64 p) y1 rfl (by rw [World.cell?_setCell_other _ _ _ _ (by simp)];exact h1) (by simpa using f 1);have e2:=one_store ((W.setCell ⟨B,0,none⟩ (.int .i64 c)).setCell ⟨B,1,none⟩ (.int .i64 p)) ⟨B,2,none⟩ (.int .i64 q) y2 rfl (by rw [World.cell?_setCell_other _ _ _ _ (by simp),World.cell?_setCell_other _ _ _ _ (by simp)];exact h2) (by simpa using f 2);have e3:=one_store (((W.setCell ⟨B,0,none⟩ (.int .i64 c)).setCell ⟨B,1,none⟩ (.int .i64 p)).setCell ⟨B,2,none⟩ (.int .i64 q)) ⟨B,3,none⟩ (.string s) y3 rfl (by rw [World.cell?_setCell_other _ _ _ _ (by simp),World.cell?_setCell_other _ _ _ _ (by simp),World.cell?_setCell_other _ _ _ _ (by simp)];exact h3) (by simpa using f 3);simp only [storeVar,Sem.run_bind,Tryz.size33,Result.andThen,Value.cells];simp [storeCells,Addr.add,Sem.run_bind,Result.andThen];rw [e0];simp only;rw [e1];simp only;rw [e2];simp only;rw [e3]
theorem Tryz.set33 (B S:Nat)(c p q:Int)(s:ByteArray)(y0 y1 y2 y3:Value)(W:World)(h0:W.cell? ⟨B,0,none⟩=some y0)(h1:W.cell? ⟨B,1,none⟩=some y1)(h2:W.cell? ⟨B,2,none⟩=some y2)(h3:W.cell? ⟨B,3,none⟩=some y3)
  (f:∀ i,W.frozen? ⟨B,i,none⟩=false) (s0:W.cell? ⟨S,0,none⟩=some (.int .i64 c)) (s1:W.cell? ⟨S,1,none⟩=some (.int .i64 p)) (s2:W.cell? ⟨S,2,none⟩=some (.int .i64 q)) (s3:W.cell? ⟨S,3,none⟩=some (.string s)):
  (ReflectliteValue.set #[.agg #[.pointer (some ⟨9,43,none⟩),.pointer (some ⟨B,0,none⟩),.int .u64 409],.agg #[.pointer (some ⟨9,43,none⟩),.pointer (some ⟨S,0,none⟩),.int .u64 153]]).run Tryz.prog W
   = .ok (.tuple #[]) ((((W.setCell ⟨B,0,none⟩ (.int .i64 c)).setCell ⟨B,1,none⟩ (.int .i64 p)).setCell ⟨B,2,none⟩ (.int .i64 q)).setCell ⟨B,3,none⟩ (.string s)):=by
 have hl:=load33 S _ _ _ _ W s0 s1 s2 s3;have hst:=store33 B c p q s y0 y1 y2 y3 W h0 h1 h2 h3 f;rw [rls];simp only [Sem.run_bind,Tryz.parts33a,Tryz.parts33,Result.andThen];simp [ReflectliteValue.flagAddr,hl,Result.andThen,Tryz.direct33,hst]
theorem as_hit_fz (c p q:Int)(s:ByteArray)(B:Nat)(y0 y1 y2 y3:Value)(w:World)(hg:w.cell? ⟨0,0,none⟩=some (.iface 202 (.agg #[.pointer (some ⟨9,27,none⟩)])))
  (h0:w.cell? ⟨B,0,none⟩=some y0) (h1:w.cell? ⟨B,1,none⟩=some y1) (h2:w.cell? ⟨B,2,none⟩=some y2) (h3:w.cell? ⟨B,3,none⟩=some y3) (f:∀ i,w.frozen? ⟨B,i,none⟩=false):
  Calls Tryz.prog 21 #[.iface 43 (.agg #[.int .i64 c,.int .i64 p,.int .i64 q,.string s]),.iface 94 (.pointer (some ⟨B,0,none⟩))] w fun e w'=>e = .returned (.bool true)/\Near B w w' /\
   (w'.cell? ⟨B,0,none⟩=some (.int .i64 c)/\w'.cell? ⟨B,1,none⟩=some (.int .i64 p)/\w'.cell? ⟨B,2,none⟩=some (.int .i64 q)/\w'.cell? ⟨B,3,none⟩=some (.string s))/\∀ i,w'.frozen? ⟨B,i,none⟩=false:=by
 have k32:=@run_callFunc_extern Tryz.prog 48 _ (fun args=>ReflectliteValue.unpack (args.getD 0 (.tuple #[]))) Tryz.func48 (by kernel_rfl) (by kernel_rfl) (by kernel_rfl) (by kernel_rfl);have k33:=@run_callFunc_extern Tryz.prog 49 _ (ReflectliteValue.methodAny (ReflectliteValue.valueError "reflectlite.Value.Type" 0) (fun t _ _ _=>ReflectliteType.toType t)) Tryz.func49 (by kernel_rfl) (by kernel_rfl) (by kernel_rfl) (by kernel_rfl);have k34:=@run_callFunc_extern Tryz.prog 50 _ (ReflectliteValue.method (ReflectliteValue.valueError "reflectlite.Value.IsNil" 0) ReflectliteValue.isNil) Tryz.func50 (by kernel_rfl) (by kernel_rfl) (by kernel_rfl) (by kernel_rfl);have k89:=@run_callFunc_extern Tryz.prog 252 _ (ReflectliteType.abiMethod fun t=>do pure (.int .u8 (<- Rtype.kind t))) Tryz.func252 (by kernel_rfl) (by kernel_rfl) (by kernel_rfl) (by kernel_rfl);have k101:=@run_callFunc_extern Tryz.prog 264 _ (ReflectliteType.method ReflectliteType.elem) Tryz.func264 (by kernel_rfl) (by kernel_rfl) (by kernel_rfl) (by kernel_rfl);have k102:=@run_callFunc_extern Tryz.prog 265 _ (ReflectliteType.relation "Implements" ReflectliteType.implements_) Tryz.func265 (by kernel_rfl) (by kernel_rfl) (by kernel_rfl) (by kernel_rfl);have k36:=@run_callFunc_extern Tryz.prog 97 _ ReflectliteType.typeOf Tryz.func97 (by kernel_rfl) (by kernel_rfl) (by kernel_rfl) (by kernel_rfl);have k99:=@run_callFunc_extern Tryz.prog 262 _ (ReflectliteType.relation "AssignableTo" ReflectliteType.assignableTo) Tryz.func262 (by kernel_rfl) (by kernel_rfl) (by kernel_rfl) (by kernel_rfl);have k45:=@run_callFunc_extern Tryz.prog 98 _ (ReflectliteValue.method (ReflectliteValue.valueError "reflectlite.Value.Elem" 0) ReflectliteValue.elem) Tryz.func98 (by kernel_rfl) (by kernel_rfl) (by kernel_rfl) (by kernel_rfl);have k46:=@run_callFunc_extern Tryz.prog 99 _ ReflectliteValue.set Tryz.func99 (by kernel_rfl) (by kernel_rfl) (by kernel_rfl) (by kernel_rfl);have tO:=Tryz.typeOf33;have mA:=Tryz.methodAssignableTo;have a33:=Tryz.assignable33;have v33:=Tryz.valueOf33;have v54:=Tryz.valueOf54;have t54:=Tryz.type54;have mK:=Tryz.methodKind;have mE:=Tryz.methodElem;have mI:=Tryz.methodImplements;have d54:=Tryz.kind54;have d33:=Tryz.kind33;have e54:=Tryz.elem54;have i33:=Tryz.implements33;have n34:=Tryz.isNil54 ⟨w.heap.size,0,none⟩ ⟨B,0,none⟩ ((w.alloc (.cells #[.pointer (some ⟨B,0,none⟩)] 94)).alloc (.cells #[.pointer (some ⟨9,94,none⟩),.pointer (some ⟨w.heap.size,0,none⟩),.int .u64 150] 133)) (by simp);have hlt:0<w.heap.size:=World.block_lt_of_cell? _ _ hg;have hB:B<w.heap.size:=World.block_lt_of_cell? _ _ h0;have hg2:((w.alloc (.cells #[.pointer (some ⟨B,0,none⟩)] 94)).alloc (.cells #[.pointer (some ⟨9,94,none⟩),.pointer (some ⟨w.heap.size,0,none⟩),.int .u64 150] 133)).cell? ⟨0,0,none⟩=some (.iface 202 (.agg #[.pointer (some ⟨9,27,none⟩)])):=by
  rw [World.cell?_alloc_lt _ _ ⟨0,0,none⟩ (by simp),World.cell?_alloc_lt _ _ ⟨0,0,none⟩ hlt];exact hg
 have el:=Tryz.elemV54 ⟨w.heap.size,0,none⟩ ⟨B,0,none⟩ (((w.alloc (.cells #[.pointer (some ⟨B,0,none⟩)] 94)).alloc (.cells #[.pointer (some ⟨9,94,none⟩),.pointer (some ⟨w.heap.size,0,none⟩),.int .u64 150] 133)).alloc (.cells #[.pointer (some ⟨9,94,none⟩),.pointer (some ⟨w.heap.size,0,none⟩),.int .u64 150] 133)) (by rw [World.cell?_alloc_lt _ _ ⟨w.heap.size,0,none⟩ (by simp;omega)];simp);have hbW:Below w.heap.size w ((((w.alloc (.cells #[.pointer (some ⟨B,0,none⟩)] 94)).alloc (.cells #[.pointer (some ⟨9,94,none⟩),.pointer (some ⟨w.heap.size,0,none⟩),.int .u64 150] 133)).alloc (.cells #[.pointer (some ⟨9,94,none⟩),.pointer (some ⟨w.heap.size,0,none⟩),.int .u64 150] 133)).alloc (.cells #[.int .i64 c,.int .i64 p,.int .i64 q,.string s] 43)) :=
  ((((Below.refl _ w).alloc (Nat.le_refl _) _).alloc (by simp) _).alloc (by simp;omega) _).alloc (by simp;omega) _
 have sx:=Tryz.set33 B (w.heap.size+1+1+1) c p q s y0 y1 y2 y3 ((((w.alloc (.cells #[.pointer (some ⟨B,0,none⟩)] 94)).alloc (.cells #[.pointer (some ⟨9,94,none⟩),.pointer (some ⟨w.heap.size,0,none⟩),.int .u64 150] 133)).alloc (.cells #[.pointer (some ⟨9,94,none⟩),.pointer (some ⟨w.heap.size,0,none⟩),.int .u64 150] 133)).alloc (.cells #[.int .i64 c,.int .i64 p,.int .i64 q,.string s] 43))
  ((hbW.cell (p:=⟨B,0,none⟩) hB).trans h0) ((hbW.cell (p:=⟨B,1,none⟩) hB).trans h1) ((hbW.cell (p:=⟨B,2,none⟩) hB).trans h2) ((hbW.cell (p:=⟨B,3,none⟩) hB).trans h3) (fun i=>(hbW.frozen (p:=⟨B,i,none⟩) hB).trans (f i))
  (by rw [World.cell?_alloc_at _ _ _ _ (by simp)];rfl) (by rw [World.cell?_alloc_at _ _ _ _ (by simp)];rfl) (by rw [World.cell?_alloc_at _ _ _ _ (by simp)];rfl) (by rw [World.cell?_alloc_at _ _ _ _ (by simp)];rfl)
 have s4:=set_four ((((w.alloc (.cells #[.pointer (some ⟨B,0,none⟩)] 94)).alloc (.cells #[.pointer (some ⟨9,94,none⟩),.pointer (some ⟨w.heap.size,0,none⟩),.int .u64 150] 133)).alloc (.cells #[.pointer (some ⟨9,94,none⟩),.pointer (some ⟨w.heap.size,0,none⟩),.int .u64 150] 133)).alloc (.cells #[.int .i64 c,.int .i64 p,.int .i64 q,.string s] 43)) B (.int .i64 c) (.int .i64 p) (.int .i64 q) (.string s) _ _ _ _
  ((hbW.cell (p:=⟨B,0,none⟩) hB).trans h0) ((hbW.cell (p:=⟨B,1,none⟩) hB).trans h1) ((hbW.cell (p:=⟨B,2,none⟩) hB).trans h2) ((hbW.cell (p:=⟨B,3,none⟩) hB).trans h3)
 have hN:Near B w ((((((((w.alloc (.cells #[.pointer (some ⟨B,0,none⟩)] 94)).alloc (.cells #[.pointer (some ⟨9,94,none⟩),.pointer (some ⟨w.heap.size,0,none⟩),.int .u64 150] 133)).alloc (.cells #[.pointer (some ⟨9,94,none⟩),.pointer (some ⟨w.heap.size,0,none⟩),.int .u64 150] 133)).alloc (.cells #[.int .i64 c,.int .i64 p,.int .i64 q,.string s] 43)).setCell ⟨B,0,none⟩ (.int .i64 c)).setCell ⟨B,1,none⟩ (.int .i64 p)).setCell ⟨B,2,none⟩ (.int .i64 q)).setCell ⟨B,3,none⟩ (.string s)) :=
  (((((Near.refl B w).below hbW).setCell 0 _).setCell 1 _).setCell 2 _).setCell 3 _
 have hfz:∀ i,((((((((w.alloc (.cells #[.pointer (some ⟨B,0,none⟩)] 94)).alloc (.cells #[.pointer (some ⟨9,94,none⟩),.pointer (some ⟨w.heap.size,0,none⟩),.int .u64 150] 133)).alloc (.cells #[.pointer (some ⟨9,94,none⟩),.pointer (some ⟨w.heap.size,0,none⟩),.int .u64 150] 133)).alloc (.cells #[.int .i64 c,.int .i64 p,.int .i64 q,.string s] 43)).setCell ⟨B,0,none⟩ (.int .i64 c)).setCell ⟨B,1,none⟩ (.int .i64 p)).setCell ⟨B,2,none⟩ (.int .i64 q)).setCell ⟨B,3,none⟩ (.string s)).frozen? ⟨B,i,none⟩=false:=fun i=>by simpa using (hbW.frozen (p:=⟨B,i,none⟩) hB).trans (f i)
 have HS4:=Lib.hid s4;have HNN:=Lib.hid hN;have HFZ:=Lib.hid hfz;clear s4 hN hfz hbW h0 h1 h2 h3 f hg
 go_enter Tryz.func21,Tryz.ntmps21
 go_wp2
 refine wp_loop_rounds 1 ?_;rw [rounds_succ]
 go_wp2
 go_ret
 exact ⟨rfl,HNN.out,HS4.out,HFZ.out⟩
theorem as_hit (c p q:Int)(s:ByteArray)(B:Nat)(y0 y1 y2 y3:Value)(w:World)(hg:w.cell? ⟨0,0,none⟩=some (.iface 202 (.agg #[.pointer (some ⟨9,27,none⟩)])))
  (h0:w.cell? ⟨B,0,none⟩=some y0) (h1:w.cell? ⟨B,1,none⟩=some y1) (h2:w.cell? ⟨B,2,none⟩=some y2) (h3:w.cell? ⟨B,3,none⟩=some y3) (f:∀ i,w.frozen? ⟨B,i,none⟩=false):
  Calls Tryz.prog 21 #[.iface 43 (.agg #[.int .i64 c,.int .i64 p,.int .i64 q,.string s]),.iface 94 (.pointer (some ⟨B,0,none⟩))] w fun e w'=>e = .returned (.bool true)/\Near B w w' /\
   (w'.cell? ⟨B,0,none⟩=some (.int .i64 c)/\w'.cell? ⟨B,1,none⟩=some (.int .i64 p)/\w'.cell? ⟨B,2,none⟩=some (.int .i64 q)/\w'.cell? ⟨B,3,none⟩=some (.string s)) :=
 (as_hit_fz c p q s B y0 y1 y2 y3 w hg h0 h1 h2 h3 f).mono fun _ _ h=>⟨h.1,h.2.1,h.2.2.1⟩
end
section
open Go.RowKit Go.Extern.Stop Go.Stop Go.Extern
end
section
open Go.RowKit
namespace Lx
theorem toks_some (f:Nat)(note:Bool)(p:Pos)(l:B)(ts:List Tok)(h:toks (f+1) note p l = .ok ts):0<ts.length:=by
 rw [toks] at h
 cases ho:one (l.drop (blanks note l)) with
 | bad e=>rw [ho] at h;cases h
 | tok k n v =>
  rw [ho] at h;simp only at h
  by_cases hk:k=0
  ·rw [if_pos hk] at h;cases h;simp
  ·rw [if_neg hk] at h
   cases hr:toks f false (adv p (l.take (blanks note l+n))) (l.drop (blanks note l+n)) with
   | bad c' q'=>rw [hr] at h;simp [Res.after] at h
   | ok us=>rw [hr] at h;simp only [Res.after,Res.ok.injEq] at h;subst h;simp
theorem whole_some {l:B}{ts:List Tok}(h:whole l = .ok ts):0<ts.length:=by
 unfold whole at h
 split at h
 ·cases h
 ·split at h
  ·cases h
  ·exact toks_some _ _ _ _ _ h
end Lx
theorem own_slice2 {w:World}{base:Nat}{e:TypeId}{size:Nat}{v:Value}{n:Nat}{xs:List Value}(h:w.ownsRow base e size v n xs)(hn:0<n):
  ∃ g cap,v = .slice (some ⟨g,0,none⟩) n cap/\n<=cap/\cap<=9223372036854775807/\∀ j u,xs[j]? = some u->w.cell? ⟨g,j,none⟩=some u:=by
 rcases h.2 with ⟨rfl,h0⟩ | ⟨g,cap,cur,rfl,hb,hg,hc,hm,_⟩
 ·omega
 ·refine ⟨g,cap,rfl,hc,by unfold maxLen at hm;omega,fun j u hu=>?_⟩;have:=h.cells (g:=g) rfl j u hu;have hadd:(⟨g,0,none⟩:Addr).add j=⟨g,j,none⟩:=by unfold Addr.add;split <;> simp_all
  rwa [hadd] at this
end
section
open Go.RowKit Tn Lx
theorem Tryz.isError (v:Value)(xT:TypeId)(w:World):(Instr.typeAssert (.iface 43 v) xT 27 true).run Tryz.prog w = .ok (.tuple #[.iface 43 v,.bool true]) w:=run_typeAssert_hasB Tryz.underlying27 (by kernel_rfl) v xT w
theorem catch_idle (p q:Addr)(w:World):CallsD Tryz.prog 168 #[.pointer (some p),.pointer (some q)] .returning w fun e u' w'=>e = .returned (.tuple #[])/\u' = .returning/\w'=w:=by
 refine callsD_of_wpS Tryz.func168 rfl fun c₀ cs hu=>?_;apply wpS_seq;apply wpS_region;simp [wpOpsS,go_sem,recoverD,hu,Tryz.ntmps168,Exit.thenS];apply wpS_seq;apply wpS_seq;apply wpS_region;simp [wpOpsS,go_sem,Exit.thenS];refine wpS_cond (t:=true) (by simp [Act.eval,Array.replicate]) ?_;simp only [if_true];refine wpS_of_wp (wp_ret ?_)
 cases c₀
 simp_all [bodyPostS,results,Tryz.results168,Exit.thenS]
def CaughtP (b2 b3:Nat)(cd:Int)(p:Pos)(older:List PanicEntry)(w:World)(e:Ending)(u':FrameMode)(w':World):Prop :=
 e = .returned (.tuple #[])/\u' = .panicking ({ v:=dval cd p,recovered:=true } :: older)/\w'.cell? ⟨b2,0,none⟩=some (.int .i64 0)/\w'.cell? ⟨b3,0,none⟩=some (dval cd p)/\But (fun k=>k=b2\/k=b3) w w'
theorem catch_panic (b2 b3:Nat)(cd:Int)(p:Pos)(older:List PanicEntry)(x y:Value)(w:World)(h2:w.heap[b2]? = some (.cells #[x] 3 (0,0)))(h3:w.heap[b3]? = some (.cells #[y] 27 (0,0)))
  (hg:w.cell? ⟨0,0,none⟩=some (.iface 202 (.agg #[.pointer (some ⟨9,27,none⟩)]))):
  CallsD Tryz.prog 168 #[.pointer (some ⟨b2,0,none⟩),.pointer (some ⟨b3,0,none⟩)] (.panicking ({ v:=dval cd p,recovered:=false } :: older)) w (CaughtP b2 b3 cd p older w):=by
 have hie:=Tryz.isError;obtain ⟨V,hV⟩:∃ V,w.alloc (.cells #[.int .i64 0,.int .i64 0,.int .i64 0,.string ⟨#[]⟩] 43)=V:=⟨_,rfl⟩;have hbV:Below w.heap.size w V:=by rw [<- hV];exact (Below.refl _ w).alloc (Nat.le_refl _) _
 have hD:DiagAt w.heap.size V:=by rw [<- hV];exact ⟨by simp [go_sem],by simp [go_sem],by simp [go_sem],by simp [go_sem],fun i=>by simp [go_sem]⟩
 have hgV:=(hbV.cell (p:=⟨0,0,none⟩) (World.block_lt_of_cell? _ _ hg)).trans hg;have l2:=lt_of_heap h2;have l3:=lt_of_heap h3;have HV:=Lib.hid hV;have HB:=Lib.hid hbV;have HD:=Lib.hid hD;have HG:=Lib.hid hgV;have H2:=Lib.hid h2;have H3:=Lib.hid h3;clear hV hbV hD hgV hg h2 h3;unfold dval;refine callsD_of_wpS Tryz.func168 rfl fun c₀ cs hu=>?_;apply wpS_seq;apply wpS_region;simp [wpOpsS,go_sem,recoverD,hu,Tryz.ntmps168,Exit.thenS];refine wpS_of_wp ?_;simp only [Array.replicate_succ,Array.replicate_zero,List.push_toArray,List.append_toArray,List.nil_append,List.cons_append,List.setIfInBounds_toArray,List.set_cons_zero,List.set_cons_succ]
 go_wp2_with fail
 rw [HV.out];refine (as_hit cd p.line p.col ⟨#[]⟩ w.heap.size _ _ _ _ V HG.out HD.out.d0 HD.out.d1 HD.out.d2 HD.out.d3 HD.out.df).mono ?_;rintro e w2 ⟨rfl,hN,d0,d1,d2,d3⟩;have hVl:=HB.out.size;have k2:w2.heap[b2]? = some (.cells #[x] 3 (0,0)):=((hN.block b2 (by omega) (by omega)).trans (HB.out.block b2 l2)).trans H2.out;have k3:w2.heap[b3]? = some (.cells #[y] 27 (0,0)):=((hN.block b3 (by omega) (by omega)).trans (HB.out.block b3 l3)).trans H3.out;have hne:b2≠b3:=fun e=>by subst e;rw [k2] at k3;injection k3 with k3;injection k3 with _ k3;exact absurd k3 (by decide)
 have hBut:But (fun k=>k=b2\/k=b3) w w2:=⟨hN.os.trans HB.out.os,hN.tape.trans HB.out.tape,hN.output.trans HB.out.output,Nat.le_trans HB.out.size hN.size,fun k hk _=>(hN.block k (by omega) (by omega)).trans (HB.out.block k hk)⟩;have c2:w2.cell? ⟨b2,0,none⟩=some x:=(blk_cell k2 0).trans rfl;have c3:w2.cell? ⟨b3,0,none⟩=some y:=(blk_cell k3 0).trans rfl;have f2:w2.frozen? ⟨b2,0,none⟩=false:=blk_frozen k2 0;have f3:w2.frozen? ⟨b3,0,none⟩=false:=blk_frozen k3 0;have g3:(w2.setCell ⟨b2,0,none⟩ (.int .i64 0)).cell? ⟨b3,0,none⟩=some y:=(blk_cell ((blk_other (Ne.symm hne) _ _).trans k3) 0).trans rfl;have g3f:(w2.setCell ⟨b2,0,none⟩ (.int .i64 0)).frozen? ⟨b3,0,none⟩=false:=blk_frozen ((blk_other (Ne.symm hne) _ _).trans k3) 0;have z2:∀ v,((w2.setCell ⟨b2,0,none⟩ (.int .i64 0)).setCell ⟨b3,0,none⟩ v).cell? ⟨b2,0,none⟩=some (.int .i64 0):=fun v=>(blk_cell ((blk_other hne _ _).trans (blk_set k2 0 _)) 0).trans rfl;have z3:∀ v,((w2.setCell ⟨b2,0,none⟩ (.int .i64 0)).setCell ⟨b3,0,none⟩ v).cell? ⟨b3,0,none⟩=some v:=fun v=>(blk_cell (blk_set ((blk_other (Ne.symm hne) _ _).trans k3) 0 _) 0).trans rfl;have zb:∀ v,But (fun k=>k=b2\/k=b3) w ((w2.setCell ⟨b2,0,none⟩ (.int .i64 0)).setCell ⟨b3,0,none⟩ v):=fun v=>(hBut.trans (But.setCell (p:=fun k=>k=b2\/k=b3) w2 (.inl rfl) 0 _)).trans (But.setCell (p:=fun k=>k=b2\/k=b3) _ (.inr rfl) 0 _);have Z2:=Lib.hid z2;have Z3:=Lib.hid z3;have ZB:=Lib.hid zb;clear hN k2 k3 hBut z2 z3 zb HV HB HD HG H2 H3
 go_wp2
 exact ⟨rfl,_,rfl,.tuple #[],by simp [results,Tryz.results168,go_sem],rfl,rfl,Z2.out _,Z3.out _,ZB.out _⟩
end
section
open Go.RowKit Tn Lx
def ExprP (c:Cx)(X:Nat->Prop)(w:World)(R:Ex.Res Nat)(e:Ending)(w':World):Prop :=
 (∃ i s,R = .ok i s/\e = .returned (.tuple #[.int .i64 (i:Int),.nilIface])/\Rd c X w' s/\Kp c w w')\/(∃ cd p,R = .bad cd p/\e = .returned (.tuple #[.int .i64 0,dval cd p])/\Kp c w w')
theorem expr_any (c:Cx)(X:Nat->Prop)(w:World)(s:Ex.S)(n:Nat)(hn:n<=900000)(h:Rd c X w s)(hg:w.cell? ⟨0,0,none⟩=some (.iface 202 (.agg #[.pointer (some ⟨9,27,none⟩)])))(hG:0<c.r/\0<c.bt/\0<c.B)
  (hne:Ex.rec_ c.ts n .all 0 s ≠ .out):Calls Tryz.prog 139 #[.pointer (some ⟨c.r,0,none⟩)] w (ExprP c X w (Ex.rec_ c.ts n .all 0 s)):=by
 have hmf:∀ (fn:Fn) (first cap:Array Value) (w:World),(Instr.makeFunc fn first cap).run Tryz.prog w = .ok (.func fn first cap) w:=fun _ _ _ _=>rfl;obtain ⟨V,hV⟩:∃ V,(w.alloc (.cells #[.int .i64 0] 3)).alloc (.cells #[.nilIface] 27)=V:=⟨_,rfl⟩;have hbV:Below w.heap.size w V:=by rw [<- hV];exact ((Below.refl _ w).alloc (Nat.le_refl _) _).alloc (by simp) _
 have hVs:V.heap.size=w.heap.size+2:=by rw [<- hV];simp
 have k2:V.heap[w.heap.size]? = some (.cells #[.int .i64 0] 3 (0,0)):=by rw [<- hV];exact blk_alloc (blk_new w _) _
 have k3:V.heap[w.heap.size+1]? = some (.cells #[.nilIface] 27 (0,0)):=by
  rw [<- hV];have:=blk_new (w.alloc (.cells #[.int .i64 0] 3)) (.cells #[.nilIface] 27);rwa [World.size_alloc] at this
 have hgV:=(hbV.cell (p:=⟨0,0,none⟩) (World.block_lt_of_cell? _ _ hg)).trans hg;have hglt:=World.block_lt_of_cell? _ _ hg;have hR1:Rd c (fun k=>X k\/k=w.heap.size) V s:=h.more hbV _ (fun k hk=>by
  rcases hk with hk | hk
  ·exact .inl hk
  ·exact .inr (by omega))
 have hr1:=h.rlt;have hb1:=h.blt;have hsz:=h.size;have hA:=(spec_rec c n hn).all 0 s _ V (by omega) hR1 hne;generalize Ex.rec_ c.ts n .all 0 s=R at *;have HV:=Lib.hid hV;have HB:=Lib.hid hbV;have K2:=Lib.hid k2;have K3:=Lib.hid k3;have HGV:=Lib.hid hgV;have HA:=Lib.hid hA;have HVS:=Lib.hid hVs;clear hV hbV k2 k3 hgV hA hR1 h hg hne hVs
 go_enter_defers Tryz.func139,Tryz.ntmps139
 go_wp2_with fail
 rw [HV.out];refine HA.out.mono ?_;rintro e w1 (⟨a1,s1,hE1,rfl,hR1,hK1⟩ | ⟨cd,p1,hE1,rfl,hK1⟩)
 ·have k2:=hK1.heap K2.out (by omega) (by omega) (fun e=>absurd e (by decide));have k3:=hK1.heap K3.out (by omega) (by omega) (fun e=>absurd e (by decide));have hRF:Rd c X ((w1.setCell ⟨w.heap.size,0,none⟩ (.int .i64 (a1:Int))).setCell ⟨w.heap.size+1,0,none⟩ .nilIface) s1 :=
   ((hR1.but (But.setCell (p:=fun k=>k=w.heap.size) w1 rfl 0 _) (fun e=>by omega) (fun e=>by omega) (fun e=>by have:=hR1.glt;omega) (fun k e => .inl (.inr e))).but (But.setCell (p:=fun k=>k=w.heap.size+1) _ rfl 0 _) (fun e=>by omega) (fun e=>by omega) (fun e=>by have:=hR1.glt;omega) (fun k e => .inr (by subst e;exact ⟨_,_,_,(blk_other (by omega) _ _).trans k3,by decide,by decide⟩))).less (fun k hk => .inl hk)
  have hKF:Kp c w ((w1.setCell ⟨w.heap.size,0,none⟩ (.int .i64 (a1:Int))).setCell ⟨w.heap.size+1,0,none⟩ .nilIface) :=
   ((Below.then_kp HB.out hK1).new (But.setCell (p:=fun k=>k=w.heap.size) w1 rfl 0 _) (fun k e=>by omega)).new (But.setCell (p:=fun k=>k=w.heap.size+1) _ rfl 0 _) (fun k e=>by omega)
  have z2:((w1.setCell ⟨w.heap.size,0,none⟩ (.int .i64 (a1:Int))).setCell ⟨w.heap.size+1,0,none⟩ .nilIface).cell? ⟨w.heap.size,0,none⟩=some (.int .i64 (a1:Int)):=(blk_cell ((blk_other (by omega) _ _).trans (blk_set k2 0 _)) 0).trans rfl;have z3:((w1.setCell ⟨w.heap.size,0,none⟩ (.int .i64 (a1:Int))).setCell ⟨w.heap.size+1,0,none⟩ .nilIface).cell? ⟨w.heap.size+1,0,none⟩=some .nilIface:=(blk_cell (blk_set ((blk_other (by omega) _ _).trans k3) 0 _) 0).trans rfl;have c2:w1.cell? ⟨w.heap.size,0,none⟩=some (.int .i64 0):=(blk_cell k2 0).trans rfl;have f2:w1.frozen? ⟨w.heap.size,0,none⟩=false:=blk_frozen k2 0;have c3:(w1.setCell ⟨w.heap.size,0,none⟩ (.int .i64 (a1:Int))).cell? ⟨w.heap.size+1,0,none⟩=some .nilIface:=(blk_cell ((blk_other (by omega) _ _).trans k3) 0).trans rfl;have f3:(w1.setCell ⟨w.heap.size,0,none⟩ (.int .i64 (a1:Int))).frozen? ⟨w.heap.size+1,0,none⟩=false:=blk_frozen ((blk_other (by omega) _ _).trans k3) 0;have HRF:=Lib.hid hRF;have HKF:=Lib.hid hKF;have Z2:=Lib.hid z2;have Z3:=Lib.hid z3;have HE1:=Lib.hid hE1;clear hRF hKF z2 z3 hE1 hR1 hK1 k2 k3 HA HV HB K2 K3 HGV
  go_wp2
  refine leaves_cons (f:=168) (args:=#[.pointer (some ⟨w.heap.size,0,none⟩),.pointer (some ⟨w.heap.size+1,0,none⟩)]) (by simp) (by simp [go_sem]) ?_;refine (catch_idle ⟨w.heap.size,0,none⟩ ⟨w.heap.size+1,0,none⟩ _).mono ?_;rintro e u' w2 ⟨rfl,rfl,rfl⟩;refine ⟨.tuple #[.int .i64 (a1:Int),.nilIface],by simp [results,Tryz.results139,go_sem,Z2.out,Z3.out], ?_⟩;exact .inl ⟨a1,s1,HE1.out,rfl,HRF.out,HKF.out⟩
 ·have k2:=hK1.heap K2.out (by omega) (by omega) (fun e=>absurd e (by decide));have k3:=hK1.heap K3.out (by omega) (by omega) (fun e=>absurd e (by decide));have hg1:w1.cell? ⟨0,0,none⟩=some (.iface 202 (.agg #[.pointer (some ⟨9,27,none⟩)])):=(World.cell?_of_block (hK1.old (k:=0) (by have:=HVS.out;omega) hG.2.2 (by omega) (by omega))).trans HGV.out;refine leaves_cons (f:=168) (args:=#[.pointer (some ⟨w.heap.size,0,none⟩),.pointer (some ⟨w.heap.size+1,0,none⟩)]) (by simp) (by simp [go_sem]) ?_;refine (catch_panic w.heap.size (w.heap.size+1) cd p1 [] _ _ w1 k2 k3 hg1).mono ?_;rintro e u' w2 ⟨rfl,rfl,c2,c3,hB2⟩;have hKF:Kp c w w2:=(Below.then_kp HB.out hK1).new hB2 (fun k e=>by omega);refine ⟨.tuple #[.int .i64 0,dval cd p1],by simp [results,Tryz.results139,go_sem,c2,c3], ?_⟩;exact .inr ⟨cd,p1,hE1,rfl,hKF⟩
end
end Go.Proofs.YtdfpkmfeldoamaaGreatDoor
