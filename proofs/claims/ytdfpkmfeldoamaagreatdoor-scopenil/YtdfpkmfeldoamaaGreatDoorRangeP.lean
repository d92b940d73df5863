/- A part of the proof: A part of the proof. -/
import Derived.Test.YtdfpkmfeldoamaaGreatDoorSo
import Derived.Test.YtdfpkmfeldoamaaGreatDoorTSep
set_option linter.unusedSimpArgs false
set_option linter.unusedVariables false
set_option maxRecDepth 100000
set_option maxHeartbeats 4000000
namespace Go.Proofs.YtdfpkmfeldoamaaGreatDoor
section
open Go.RowKit Tn Lx
theorem eqd_ex (w:World)(x y ux uy:Nat)(x0:w.cell? ⟨x,0,none⟩=some (.int .i64 7))(x1:w.cell? ⟨x,1,none⟩=some (.int .i64 1))(x2:w.cell? ⟨x,2,none⟩=some (.int .i64 8))(x3:w.cell? ⟨x,3,none⟩=some (.string ⟨#[120]⟩))
  (y0:w.cell? ⟨y,0,none⟩=some (.int .i64 7)) (y1:w.cell? ⟨y,1,none⟩=some (.int .i64 1)) (y2:w.cell? ⟨y,2,none⟩=some (.int .i64 8)) (y3:w.cell? ⟨y,3,none⟩=some (.string ⟨#[120]⟩)):
  Calls Tryz.prog 14 #[.slice (some ⟨x,0,none⟩) 1 ux,.slice (some ⟨y,0,none⟩) 1 uy] w fun e w'=>e = .returned (.bool true)/\Below w.heap.size w w':=by
 go_enter Tryz.func14,Tryz.ntmps14
 go_wp2_with fail
 refine wp_loop_rounds 2 ?_;rw [rounds_succ]
 go_upto_region 9 with fail
 go_region
 all_goals
  go_wp2_with fail
  rw [rounds_succ]
  go_wp2
  go_ret
  exact ⟨rfl,(Below.refl _ w).drew⟩
end
section
open Go.RowKit
structure KeptW (N:Nat)(M:Nat->TypeId->Prop)(W W':World):Prop where
 os:W'.os=W.os
 tape:W'.tape=W.tape
 output:W'.output=W.output
 size:W.heap.size<=W'.heap.size
 low:∀ k o,k<N->W.heap[k]? = some o->(∀ c t r,o = .cells c t r->¬ M k t)->W'.heap[k]? = some o
 same:∀ b c t r,¬ M b t->W.heap[b]? = some (.cells c t r)->W'.heap[b]? = some (.cells c t r)
theorem KeptW.refl (N:Nat)(M:Nat->TypeId->Prop)(W:World):KeptW N M W W:=⟨rfl,rfl,rfl,Nat.le_refl _,fun _ _ _ h _=>h,fun _ _ _ _ _ h=>h⟩
theorem KeptW.trans {N:Nat}{M:Nat->TypeId->Prop}{A B C:World}(h:KeptW N M A B)(k:KeptW N M B C):KeptW N M A C :=
 ⟨k.os.trans h.os,k.tape.trans h.tape,k.output.trans h.output,Nat.le_trans h.size k.size,fun i o hi ho hm=>k.low i o hi (h.low i o hi ho hm) hm,fun b c t r hm hb=>k.same b c t r hm (h.same b c t r hm hb)⟩
theorem Still.keptW {N:Nat}{A B:World}(h:Still N A B)(M:Nat->TypeId->Prop):KeptW N M A B :=
 ⟨h.below.os,h.below.tape,h.below.output,h.below.size,fun k _ hk ho _=>(h.below.block k hk).trans ho,fun b c t r _ hb=>h.same b c t r (fun e=>e) hb⟩
section
variable {α:Type}
def roundOutW (N:Nat)(M:Nat->TypeId->Prop)(I:List α->World->Prop)(Ix:Code->List α->World->Prop)(xs:List α)(W:World):Exit->Act->World->Prop
 | .normal,_,W'=>KeepsOthers W W'/\KeptW N M W W'/\I xs W'
 | .ret,_,W'=>KeepsOthers W W'/\Ix .ret xs W'
 | .exit id,_,W'=>KeepsOthers W W'/\Ix (.exit id) xs W'
 | .goto t,_,W'=>KeepsOthers W W'/\Ix (.goto t) xs W'
 | .panic _,_,_=>False
 | .outgrown,_,_=>False
theorem round_endW {P:Program}{N:Nat}{M:Nat->TypeId->Prop}{I:List α->World->Prop}{Ix:Code->List α->World->Prop}{xs:List α}{W0 W:World}{l D:Nat}{rec:LoopState->Option Code->Loop}
  (hrec:∀ s p s' p',{ rec s p with state:=s',pending:=p' } = rec s' p')
  (hI:∀ s A B,I s A->Still N A B->I s B) (hIx:∀ c s A B,Ix c s A->Still N A B->Ix c s B) (hN:N<=l) (hD:D≠l)
  (hl:W.heap[l]? = some (.loop (rec .busy none))) (hd:W.heap[D]? = some (.deferred (some []))) (hW:KeptW N M W0 W) (hDf:Defs W0 W) (e:Exit) (a:Act) (W':World) (h:roundOutW N M I Ix xs W e a W'):
  roundPost P l (fun e W' =>
   (e = .returned (.bool true)/\(I xs W'/\W'.heap[l]? = some (.loop (rec .ready none))/\W'.heap[D]? = some (.deferred (some [])))/\KeptW N M W0 W'/\Defs W0 W') \/
   (e = .returned (.bool false)/\(∃ c,Ix c xs W'/\W'.heap[l]? = some (.loop (rec .done (some c)))/\W'.heap[D]? = some (.deferred (some [])))/\Defs W0 W')) e a W':=by
 have fin:∀ (jump:Option Code),KeepsOthers W W' ->
   (Instr.endRound l jump).run P W' = .ok (.bool jump.isNone) (W'.putObj l (.loop (rec (if jump.isNone then .ready else .done) jump)))/\Still N W' (W'.putObj l (.loop (rec (if jump.isNone then .ready else .done) jump))) /\
   (W'.putObj l (.loop (rec (if jump.isNone then .ready else .done) jump))).heap[l]? = some (.loop (rec (if jump.isNone then .ready else .done) jump)) /\
   (W'.putObj l (.loop (rec (if jump.isNone then .ready else .done) jump))).heap[D]? = some (.deferred (some []))/\Defs W0 (W'.putObj l (.loop (rec (if jump.isNone then .ready else .done) jump))):=by
  intro jump hk;have hl':=hk.same _ _ hl rfl;have:=run_endRound (P:=P) jump hl';rw [hrec] at this;exact ⟨this,Still.putObj _ hN hl' rfl,World.putObj_heap_same (lt_of_heap hl'),(World.putObj_heap_other hD).trans (hk.same _ _ hd rfl),hDf.trans ((Defs.of_others hk).trans (Defs.putObj _ hl'))⟩
 have out:∀ c,KeepsOthers W W'->Ix c xs W'->∃ v w',(Instr.endRound l (some c)).run P W' = .ok v w' /\
   ((Ending.returned v = .returned (.bool true)/\(I xs w'/\w'.heap[l]? = some (.loop (rec .ready none))/\w'.heap[D]? = some (.deferred (some [])))/\KeptW N M W0 w'/\Defs W0 w') \/
   (Ending.returned v = .returned (.bool false)/\(∃ c,Ix c xs w'/\w'.heap[l]? = some (.loop (rec .done (some c)))/\w'.heap[D]? = some (.deferred (some [])))/\Defs W0 w')):=by
  intro c hk hx;obtain ⟨r1,r2,r3,r4,r5⟩:=fin (some c) hk;exact ⟨_,_,r1,.inr ⟨rfl,⟨c,hIx _ _ _ _ hx r2,r3,r4⟩,r5⟩⟩
 cases e with
 | normal =>
  obtain ⟨hk,hkp,hi⟩:=h;obtain ⟨r1,r2,r3,r4,r5⟩:=fin none hk;exact ⟨_,_,r1,.inl ⟨rfl,⟨hI _ _ _ hi r2,r3,r4⟩,hW.trans (hkp.trans (r2.keptW M)),r5⟩⟩
 | ret=>exact out _ h.1 h.2
 | exit id=>exact out _ h.1 h.2
 | goto t=>exact out _ h.1 h.2
 | panic ch=>exact h.elim
 | outgrown=>exact h.elim
end
end
section
open Go.RowKit
def wpF (P:Program)(f:FuncId)(c:Code)(Q:Exit->Act->World->Prop)(a:Act)(w:World):Prop :=
 ∀ (b:Frame) (k:List Item) (cs:List Frame),b.roundOf=none->b.fn=f->∃ e a' w',Q e a' w'/\ArrivesIn (Machine.fenced P Fence.wide) P (lone (b.atR a (.code c :: k)) cs w) b k cs e a' w'
theorem wpF_of_wp {P:Program}{f:FuncId}{c:Code}{Q:Exit->Act->World->Prop}{a:Act}{w:World}(h:c.wp P Q a w):wpF P f c Q a w :=
 fun b k cs hro _=>(wpIn_wide (n:=0)).2 h b k cs hro trivial (room_wide _)
theorem wpF_seq {P:Program}{f:FuncId}{x y:Code}{Q:Exit->Act->World->Prop}{a:Act}{w:World}(h:wpF P f x (Exit.then (wpF P f y Q) Q) a w):wpF P f (Code.seq x y) Q a w:=by
 intro b k cs hro hb;have h0:(lone (b.atR a (.code (.seq x y) :: k)) cs w).fenced P Fence.wide:=fenced_calm (n:=0) trivial (room_wide _) rfl;obtain ⟨e,a₁,w₁,hq,harr⟩:=h b (.code y :: k) cs hro hb
 cases e with
 | normal =>
  obtain ⟨e₂,a₂,w₂,hq₂,harr₂⟩:=hq b k cs hro hb;exact ⟨e₂,a₂,w₂,hq₂,.of_steps (.head h0 stepR_seq harr) harr₂⟩
 | exit id=>exact ⟨_,a₁,w₁,hq,.of_steps (.one h0 stepR_seq) (.pass (x := .code y) rfl (fun _ _ => .inl (by simp)) harr)⟩
 | goto l=>exact ⟨_,a₁,w₁,hq,.of_steps (.one h0 stepR_seq) (.pass (x := .code y) rfl (fun _ _ => .inl (by simp)) harr)⟩
 | ret=>exact ⟨_,a₁,w₁,hq,.of_steps (.one h0 stepR_seq) (.pass (x := .code y) rfl (fun _ _ => .inl (by simp)) harr)⟩
 | panic ch=>exact ⟨_,a₁,w₁,hq,.of_steps (.one h0 stepR_seq) (.pass (x := .code y) rfl (fun _ _ => .inl (by simp)) harr)⟩
 | outgrown=>exact ⟨_,a₁,w₁,hq,.of_steps (.one h0 stepR_seq) (.pass (x := .code y) rfl (fun _ _ => .inl (by simp)) harr)⟩
theorem wpF_block {P:Program}{f:FuncId}{id:Nat}{c:Code}{Q:Exit->Act->World->Prop}{a:Act}{w:World}(h:wpF P f c (Exit.inBlock id Q) a w):wpF P f (Code.block id c) Q a w:=by
 intro b k cs hro hb;have h0:(lone (b.atR a (.code (.block id c) :: k)) cs w).fenced P Fence.wide:=fenced_calm (n:=0) trivial (room_wide _) rfl;obtain ⟨e,a₁,w₁,hq,harr⟩:=h b (.inBlock id :: k) cs hro hb
 cases e with
 | normal=>exact ⟨.normal,a₁,w₁,hq,.head h0 stepR_block (StepsIn.trans harr (.one (fenced_calm (n:=0) trivial (room_wide _) rfl) stepR_inBlock))⟩
 | exit id' =>
  by_cases hid:id'=id
  ·simp only [Exit.inBlock,hid,if_true] at hq;exact ⟨.normal,a₁,w₁,hq,.head h0 stepR_block (harr.1 k (by simp [exitTo,hid]))⟩
  ·simp only [Exit.inBlock,hid,if_false] at hq;have this:(id==id')=false:=by simp;exact fun h=>hid h.symm
   have hx:exitTo id' (.inBlock id :: k)=exitTo id' k:=by simp [exitTo,this]
   exact ⟨.exit id',a₁,w₁,hq,fun k' hk => .head h0 stepR_block (harr.1 k' (by rw [hx];exact hk)),
    fun hr' hk=>let ⟨k₁,h1,h2⟩:=harr.2 hr' (by rw [hx];exact hk);⟨k₁,h1,.head h0 stepR_block h2⟩⟩
 | goto l =>
  have hx:gotoIn l (.inBlock id :: k)=gotoIn l k:=by simp [gotoIn]
  exact ⟨_,a₁,w₁,hq,fun k' hk => .head h0 stepR_block (harr.1 k' (by rw [hx];exact hk)),
   fun hr' hk=>let ⟨k₁,h1,h2⟩:=harr.2 hr' (by rw [hx];exact hk);⟨k₁,h1,.head h0 stepR_block h2⟩⟩
 | ret=>exact ⟨_,a₁,w₁,hq,.of_steps (.one h0 stepR_block) harr⟩
 | panic ch=>exact ⟨_,a₁,w₁,hq,.of_steps (.one h0 stepR_block) harr⟩
 | outgrown=>exact ⟨_,a₁,w₁,hq,.of_steps (.one h0 stepR_block) harr⟩
theorem wpF_then {P:Program}{f:FuncId}{x y:Code}{Q:Exit->Act->World->Prop}{a:Act}{w:World}(h:x.wp P (Exit.then (wpF P f y Q) Q) a w):wpF P f (Code.seq x y) Q a w:=wpF_seq (wpF_of_wp h)
theorem calls_of_wpF {P:Program}{f:FuncId}{fn:Func}{c:Code}{args:Array Value}{w:World}{R:Ending->World->Prop}
  (hf:P.funcs[f]? = some fn) (hb:fn.body=some c)
  (h:wpF P f c (bodyPostM Fence.wide 0 P fn R) { tmps:=args++Array.replicate (fn.ntmps-args.size) undef,defers:=[] } w):Calls P f args w R:=by
 refine (callsIn_wide (n:=0)).1 ⟨trivial,fun cs hr=>?_⟩
 let b:Frame:={ (default:Frame) with fn:=f,kind := .normal,roundOf:=none }
 have henter:Frame.enter P f args .normal =
   b.atR { tmps:=args++Array.replicate (fn.ntmps-args.size) undef,defers:=[] } [.code c]:=by
  simp [Frame.enter,Frame.atR,hf,hb,b]
 obtain ⟨e,a',w',hq,harr⟩:=h b [] cs rfl rfl;rw [<- henter] at harr
 cases e with
 | normal =>
  obtain ⟨e',w'',fr',hR,hs,hfn,hl⟩:=leaves_stepsInM a'.defers .returning w' { b.atR a' [] with mode := .returning } cs rfl rfl rfl hf rfl trivial hr hq;exact ⟨e',w'',fr',hR,ComesIn.of_steps (StepsIn.trans harr (.one (fenced_calm (fr:=b.atR a' []) (n:=0) trivial (room_wide _) rfl) (stepR_end rfl))) hs,hfn,hl⟩
 | ret =>
  obtain ⟨todo,hs₀⟩:=harr.1 rfl;obtain ⟨e',w'',fr',hR,hs,hfn,hl⟩:=leaves_stepsInM a'.defers .returning w' { b.atR a' todo with mode := .returning } cs rfl rfl rfl hf rfl trivial hr hq;exact ⟨e',w'',fr',hR,ComesIn.of_steps hs₀ hs,hfn,hl⟩
 | panic chain =>
  obtain ⟨todo,hs₀⟩:=harr;obtain ⟨e',w'',fr',hR,hs,hfn,hl⟩:=leaves_stepsInM a'.defers (.panicking chain) w' { b.atR a' todo with mode := .panicking chain } cs rfl rfl rfl hf rfl trivial hr hq;exact ⟨e',w'',fr',hR,ComesIn.of_steps hs₀ hs,hfn,hl⟩
 | exit id=>exact hq.elim
 | goto l=>exact hq.elim
 | outgrown=>exact ⟨.outgrown,w',b,hq,harr.resolve_left (by simp [b]),rfl,trivial⟩
def roundPostP (P:Program)(l:Nat)(R:Ending->World->Prop):Exit->Act->World->Prop
 | .panic ch,a,w=>a.defers=[]/\R (.panicked ch) w
 | e,a,w=>roundPost P l R e a w
theorem roundIn_of_wpInP {P:Program}{l:Nat}{f:FuncId}{fn:Func}{tmps:Array Value}{assign body:Code}{w:World}{R:Ending->World->Prop}(hf:P.funcs[f]? = some fn)
  (h:assign.wpIn (Fence.wide.inRound l) 0 P (Exit.then (fun a₁ w₁=>∃ w₂,(Instr.beginRound l).run P w₁ = .ok () w₂/\body.wpIn (Fence.wide.inRound l) 0 P (roundPostP P l R) a₁ w₂) (fun _ _ _=>False))
   { tmps:=tmps,defers:=[] } w):
  RoundIn Fence.wide 0 P l f tmps assign body w R:=by
 refine ⟨trivial,fun c cs hr=>?_⟩
 let b:Frame:={ (default:Frame) with fn:=f,kind := .normal,roundOf:=some l }
 have hb0:Frame.round l f tmps assign body .normal=b.atR { tmps:=tmps,defers:=[] } [.code assign,.beginRound,.code body]:=by
  simp [Frame.round,Frame.atR,b]
 have hr':(Fence.wide.inRound l).room ((c :: cs).length+1+0):=hr;have hF':(Fence.wide.inRound l).fn b.fn:=trivial;obtain ⟨e,a₁,w₁,hq,harr⟩:=h b [.beginRound,.code body] (c :: cs) rfl hF' hr';rw [<- hb0] at harr
 cases e with
 | normal =>
  obtain ⟨w₂,hbr,hbody⟩:=hq;have s1:StepsIn (Machine.fenced P (Fence.wide.inRound l)) P (lone (b.atR a₁ [.beginRound,.code body]) (c :: cs) w₁) (lone (b.atR a₁ [.code body]) (c :: cs) w₂) :=
   .one (fenced_calm (fr:=b.atR a₁ [.beginRound,.code body]) hF' hr' rfl) (stepR_beginRound rfl hbr)
  obtain ⟨e₂,a₂,w₃,hq₂,harr₂⟩:=hbody b [] (c :: cs) rfl hF' hr'
  cases e₂ with
  | normal =>
   obtain ⟨v,w₄,hend,hR⟩:=hq₂;exact ⟨.returned v,w₄,hR,(StepsIn.trans harr s1).trans (StepsIn.trans harr₂ (.one (fenced_calm (fr:=b.atR a₂ []) hF' hr' rfl) (stepR_round_end rfl rfl hend)))⟩
  | ret =>
   obtain ⟨v,w₄,hend,hR⟩:=hq₂;obtain ⟨k₁,hs⟩:=harr₂.2 rfl;exact ⟨.returned v,w₄,hR,(StepsIn.trans harr s1).trans (StepsIn.trans hs (.one (fenced_calm (fr:=b.atR a₂ (.code .ret :: k₁)) hF' hr' rfl) (stepR_round_ret rfl rfl hend)))⟩
  | exit id =>
   obtain ⟨v,w₄,hend,hR⟩:=hq₂;obtain ⟨k₁,hk,hs⟩:=harr₂.2 rfl rfl;exact ⟨.returned v,w₄,hR,(StepsIn.trans harr s1).trans (StepsIn.trans hs (.one (fenced_calm (fr:=b.atR a₂ (.code (.exit id) :: k₁)) hF' hr' rfl) (stepR_round_exit rfl rfl hk hend)))⟩
  | goto t =>
   obtain ⟨v,w₄,hend,hR⟩:=hq₂;obtain ⟨k₁,hk,hs⟩:=harr₂.2 rfl rfl;exact ⟨.returned v,w₄,hR,(StepsIn.trans harr s1).trans (StepsIn.trans hs (.one (fenced_calm (fr:=b.atR a₂ (.code (.goto t) :: k₁)) hF' hr' rfl) (stepR_round_goto rfl rfl hk hend)))⟩
  | panic chain =>
   obtain ⟨hd,hR⟩:=hq₂;obtain ⟨todo,hs⟩:=harr₂;have hl:({ b.atR a₂ todo with mode := .panicking chain } : Frame).leaving P w₃ (.panicked chain):=⟨rfl,hd,fn,hf⟩;have i:(lone { b.atR a₂ todo with mode := .panicking chain } (c :: cs) w₃).fenced P (Fence.wide.inRound l):=fenced_leaving hF' hr' hl;exact ⟨.panicked chain,w₃,hR,(StepsIn.trans harr s1).trans (StepsIn.trans hs (.one i (step_leave_panicked hl)))⟩
  | outgrown=>exact hq₂.elim
 | exit id=>exact hq.elim
 | goto t=>exact hq.elim
 | ret=>exact hq.elim
 | panic chain=>exact hq.elim
 | outgrown=>exact hq.elim
theorem wpF_rangeFunc {P:Program}{fn:FuncId}{g:Operand}{ps:Array Tmp}{assign body:Code}{Q:Exit->Act->World->Prop}{a:Act}{w:World}
  (h:∃ (l:Nat) (mark:List Deferred) (w₁:World) (d:Deferred) (w₁':World) (f:FuncId) (args:Array Value) (w₂:World),
   (Instr.enterLoop fn a.tmps ps assign body none).run P w = .ok (l,mark) w₁ /\
   (resolve a.eval (rangeCall g l) 0).run P w₁ = .ok d w₁' /\
   (invoke d.target d.args).run P w₁' = .ok (.enter f args) w₂ /\
   CallsIn Fence.wide 0 P f args w₂ (rangePost Fence.wide 0 P l Q { a with defers:=mark++a.defers })):
  wpF P fn (Code.rangeFunc g ps assign body) Q a w:=by
 intro b k cs hro hb;obtain ⟨l,mark,w₁,d,w₁',f,args,w₂,he,hres,hinv,hcall⟩:=h;rw [<- hb,<- hro] at he;have h0:(lone (b.atR a (.code (.rangeFunc g ps assign body) :: k)) cs w).fenced P Fence.wide:=by
  refine fenced_lone (.inl trivial) (fun f' _=>trivial) (room_wide _)
 have henter:=stepR_rangeFunc (P:=P) (b:=b) (a:=a) (k:=k) (cs:=cs) (w:=w) he hres hinv;have hroom:=room_wide ((b.atR { a with defers:=mark++a.defers } (.inRangeFunc l :: k) :: cs).length+1+0);obtain ⟨e,w₃,fr,hR,hsteps,hfn,hleave⟩:=hcall.2 (b.atR { a with defers:=mark++a.defers } (.inRangeFunc l :: k) :: cs) hroom
 cases e with
 | outgrown =>
  obtain ⟨a₀,w₀,hq⟩:=hR;exact ⟨.outgrown,a₀,w₀,hq,.inr (Outgrown.of_steps (.one henter) hsteps)⟩
 | returned v =>
  have hl:(lone fr (b.atR { a with defers:=mark++a.defers } (.inRangeFunc l :: k) :: cs) w₃).fenced P Fence.wide:=fenced_leaving trivial hroom hleave;obtain ⟨jump,w₄,hend,hj⟩:=hR;have sback:StepsIn (Machine.fenced P Fence.wide) P (lone (b.atR a (.code (.rangeFunc g ps assign body) :: k)) cs w) (lone (b.atR { a with defers:=mark++a.defers } ((jump.map Item.code).toList++k)) cs w₄):=by
   refine .head h0 henter (StepsIn.trans hsteps (.head hl ?_ (.one (fenced_calm (fr:=b.atR { a with defers:=mark++a.defers } (.endRangeFunc l :: k)) (n:=0) trivial (room_wide _) rfl) (stepR_endRangeFunc hend))));rw [<- finish_atR_inRangeFunc l v];exact step_leave_returned hleave
  cases jump with
  | none=>exact ⟨.normal,_,w₄,hj,sback⟩
  | some c =>
   obtain ⟨e',a'',w₅,hq,harr⟩:=hj b k cs hro trivial (room_wide _);exact ⟨e',a'',w₅,hq,.of_steps sback harr⟩
 | panicked chain =>
  have hl:(lone fr (b.atR { a with defers:=mark++a.defers } (.inRangeFunc l :: k) :: cs) w₃).fenced P Fence.wide:=fenced_leaving trivial hroom hleave;refine ⟨.panic chain,_,w₃,hR,.inRangeFunc l :: k,.head h0 henter (StepsIn.trans hsteps (.one hl ?_))⟩;rw [<- Frame.raise_atR];exact step_leave_panicked hleave
section
variable {α:Type}
def IteratesP (P:Program)(gf:Nat)(lb:Array Value)(l:Nat)(encs:α->Array Value)(G:World->List α->α->World->Prop)(N:Nat)(M:Nat->TypeId->Prop)(S Sp:List α->Prop)(W:World):Prop :=
 ∀ (J Jx:List α->World->Prop) (Jp:List PanicEntry->World->Prop),(∀ s A B,J s A->Still W.heap.size A B->J s B)->(∀ s A B,Jx s A->Still W.heap.size A B->Jx s B) ->
  (∀ pre x W0 W1,J pre W0->Below W0.heap.size W0 W1->G W0 pre x W1->YieldAt Fence.wide 0 P l (encs x) W1 fun e W' =>
   (e = .returned (.bool true)/\J (pre++[x]) W'/\KeptW N M W1 W'/\Defs W1 W')\/(e = .returned (.bool false)/\Jx (pre++[x]) W'/\Defs W1 W')\/(∃ ch,e = .panicked ch/\Jp ch W')) ->
  J [] W ->
  CallsIn Fence.wide 0 P gf (#[.func (.yield l) #[] #[]]++lb) W fun e W'=>((∃ v,e = .returned v)/\((∃ xs,S xs/\J xs W')\/(∃ pre,Sp pre/\Jx pre W')))\/(∃ ch,e = .panicked ch/\Jp ch W')
def roundOutP (N:Nat)(M:Nat->TypeId->Prop)(I:List α->World->Prop)(Ix:Code->List α->World->Prop)(Ip:List PanicEntry->World->Prop)(xs:List α)(W:World):Exit->Act->World->Prop
 | .panic ch,a,W'=>KeepsOthers W W'/\a.defers=[]/\Ip ch W'
 | e,a,W'=>roundOutW N M I Ix xs W e a W'
theorem wp_rangeP {P:Program}{fn:FuncId}{fun_:Func}{g:Operand}{ps:Array Tmp}{assign body:Code}{Q:Exit->Act->World->Prop}{a:Act}{w:World}{gf:Nat}{lb:Array Value}
  {encs:α->Array Value} {G:World->List α->α->World->Prop} {N:Nat} {M:Nat->TypeId->Prop} {S Sp:List α->Prop} (hfn:P.funcs[fn]? = some fun_)
  (hg:a.eval g = .func (.func gf) #[] lb) (eg:∀ args w,(callFunc gf args).run P w = .ok (.enter gf args) w) (hps:∀ x,(encs x).size=ps.size) (hN:N<=w.heap.size)
  (hseq:∀ l W,Below w.heap.size w W->IteratesP P gf lb l encs G N M S Sp W)
  (I:List α->World->Prop) (Ix:Code->List α->World->Prop) (Ip:List PanicEntry->World->Prop) (A:List α->α->Act->World->Prop)
  (hI:∀ s A B,I s A->Still N A B->I s B) (hIx:∀ c s A B,Ix c s A->Still N A B->Ix c s B) (hG:∀ W0 s x A B,G W0 s x A->Still N A B->G W0 s x B) (hA:∀ s x a C B,A s x a C->Still N C B->A s x a B)
  (h0:I [] w)
  (hassign:∀ (l:Nat) (pre:List α) (x:α) (W0 W:World),I pre W0->Still N W0 W->G W0 pre x W ->
   assign.wpIn (Fence.wide.inRound l) 0 P (Exit.then (fun a₁ W₁=>KeepsOthers W W₁/\Still N W W₁/\A pre x a₁ W₁) (fun _ _ _=>False)) { tmps:=(ps.zip (encs x)).foldl (fun t (p,v)=>t.setIfInBounds p v) a.tmps,defers:=[] } W)
  (hbody:∀ (l:Nat) (pre:List α) (x:α) (a₁:Act) (W0 W:World),I pre W0->Still N W0 W->G W0 pre x W->A pre x a₁ W->body.wpIn (Fence.wide.inRound l) 0 P (roundOutP N M I Ix Ip (pre++[x]) W) a₁ W)
  (hdone:∀ (D:Nat) (xs:List α) (W:World),w.heap.size<=D->S xs->I xs W->W.heap[D]? = some (.deferred (some []))->Q .normal { a with defers:={ target := .collected D,args:=#[] } :: a.defers } W)
  (hstop:∀ (D:Nat) (c:Code) (pre:List α) (W:World),w.heap.size<=D->Sp pre->Ix c pre W->W.heap[D]? = some (.deferred (some []))->c.wpIn Fence.wide 0 P Q { a with defers:={ target := .collected D,args:=#[] } :: a.defers } W)
  (hpanic:∀ (D:Nat) (ch:List PanicEntry) (W:World),w.heap.size<=D->Ip ch W->W.heap[D]? = some (.deferred (some []))->Q (.panic ch) { a with defers:={ target := .collected D,args:=#[] } :: a.defers } W):
  wpF P fn (Code.rangeFunc g ps assign body) Q a w:=by
 refine wpF_rangeFunc ?_;obtain ⟨rec,hrec⟩:∃ rec:LoopState->Option Code->Loop,rec=fun st pe=>{ state:=st,pending:=pe,fn,tmps:=a.tmps,params:=ps,assign,body,defers:=w.heap.size } := ⟨_,rfl⟩;have hup:∀ s p s' p',{ rec s p with state:=s',pending:=p' } = rec s' p':=by intros;rw [hrec]
 obtain ⟨W1,hW1⟩:∃ W1,(w.alloc (.deferred (some []))).alloc (.loop (rec .ready none))=W1:=⟨_,rfl⟩;have hb1:Below w.heap.size w W1:=by rw [<- hW1];exact ((Below.refl _ w).alloc (Nat.le_refl _) _).alloc (by simp) _
 have hl1:W1.heap[w.heap.size+1]? = some (.loop (rec .ready none)):=by
  rw [<- hW1];have:=World.alloc_heap_new (w.alloc (.deferred (some []))) (.loop (rec .ready none));rwa [World.size_alloc] at this
 have hd1:W1.heap[w.heap.size]? = some (.deferred (some [])):=by
  rw [<- hW1,Below.heap_alloc _ _ _ (by simp)];exact World.alloc_heap_new w _
 refine ⟨w.heap.size+1,[{ target := .collected w.heap.size,args:=#[] }],W1,{ target := .fn (.func gf) lb,args:=#[.func (.yield (w.heap.size+1)) #[] #[]] },W1,gf,
  #[.func (.yield (w.heap.size+1)) #[] #[]]++lb,W1, ?_, ?_, ?_, ?_⟩
 ·rw [<- hW1,hrec];exact run_enterLoop_outer _ _ _ _ _
 ·simp only [resolve,hg];simp [go_sem]
 ·simp [invoke,go_sem,eg]
 ·refine CallsIn.mono (hseq (w.heap.size+1) W1 hb1
   (fun pre W=>I pre W/\W.heap[w.heap.size+1]? = some (.loop (rec .ready none))/\W.heap[w.heap.size]? = some (.deferred (some [])))
   (fun pre W=>∃ c,Ix c pre W/\W.heap[w.heap.size+1]? = some (.loop (rec .done (some c)))/\W.heap[w.heap.size]? = some (.deferred (some [])))
   (fun ch W=>Ip ch W/\W.heap[w.heap.size]? = some (.deferred (some []))) ?_ ?_ ?_ ?_) ?_
  ·rintro s X B ⟨h1,h2,h3⟩ hb;have q1:=lt_of_heap hl1;have q2:=lt_of_heap hd1;exact ⟨hI _ _ _ h1 (Kept.mono hb (by omega) (fun _ _ e=>e)),(hb.below.block _ q1).trans h2,(hb.below.block _ q2).trans h3⟩
  ·rintro s X B ⟨c,h1,h2,h3⟩ hb;have q1:=lt_of_heap hl1;have q2:=lt_of_heap hd1;exact ⟨c,hIx _ _ _ _ h1 (Kept.mono hb (by omega) (fun _ _ e=>e)),(hb.below.block _ q1).trans h2,(hb.below.block _ q2).trans h3⟩
  ·rintro pre x W0 W ⟨hi,hl0,hd0⟩ hbw hgx;have hl:=(hbw.block _ (lt_of_heap hl0)).trans hl0;have hd:=(hbw.block _ (lt_of_heap hd0)).trans hd0;have hs0:Still N W0 W:=Still.of_below hbw (by have:=lt_of_heap hd0;omega);have hy:=run_yield (P:=P) (args:=encs x) hl (by rw [hrec];exact hps x);have e1:(rec .ready none).tmps=a.tmps:=by rw [hrec]
   have e2:(rec .ready none).params=ps:=by rw [hrec]
   have e3:(rec .ready none).assign=assign:=by rw [hrec]
   have e4:(rec .ready none).body=body:=by rw [hrec]
   have e5:(rec .ready none).fn=fn:=by rw [hrec]
   rw [e1,e2,e3,e4,e5] at hy;refine ⟨fn,_,assign,body,hy,roundIn_of_wpInP hfn (wpIn_mono (hassign (w.heap.size+1) pre x W0 W hi hs0 hgx) ?_)⟩;rintro e a₁ W₁ hq
   cases e <;> first | exact hq.elim | skip
   obtain ⟨ho,hs,ha⟩:=hq;have hl':=ho.same _ _ hl rfl;have hd':=ho.same _ _ hd rfl;have hb:=run_beginRound (P:=P) hl' (by rw [hrec]);rw [show ({ rec .ready none with state := .busy } : Loop)=rec .busy none from by rw [hrec]] at hb;have hs2:Still N W₁ (W₁.putObj (w.heap.size+1) (.loop (rec .busy none))):=Still.putObj _ (by omega) hl' rfl;refine ⟨_,hb,wpIn_mono (hbody (w.heap.size+1) pre x a₁ W0 _ hi (hs0.trans (hs.trans hs2)) (hG _ _ _ _ _ hgx (hs.trans hs2)) (hA _ _ _ _ _ ha hs2)) ?_⟩;intro e a₂ W₂ h2;have hd2:(W₁.putObj (w.heap.size+1) (.loop (rec .busy none))).heap[w.heap.size]? = some (.deferred (some [])):=(World.putObj_heap_other (by omega)).trans hd';have old:∀ (_:roundOutW N M I Ix (pre++[x]) (W₁.putObj (w.heap.size+1) (.loop (rec .busy none))) e a₂ W₂),roundPost P (w.heap.size+1) (fun e W' =>
     (e = .returned (.bool true)/\(I (pre++[x]) W'/\W'.heap[w.heap.size+1]? = some (.loop (rec .ready none))/\W'.heap[w.heap.size]? = some (.deferred (some [])))/\KeptW N M W W'/\Defs W W') \/
     (e = .returned (.bool false)/\(∃ c,Ix c (pre++[x]) W'/\W'.heap[w.heap.size+1]? = some (.loop (rec .done (some c)))/\W'.heap[w.heap.size]? = some (.deferred (some [])))/\Defs W W')) e a₂ W₂ :=
    fun h2=>round_endW hup hI hIx (by omega) (by omega) (World.putObj_heap_same (lt_of_heap hl')) hd2 ((hs.trans hs2).keptW M) ((Defs.of_others ho).trans (Defs.putObj _ hl')) e a₂ W₂ h2
   cases e with
   | panic ch =>
    obtain ⟨ho2,hnd,hp⟩:=h2;exact ⟨hnd,.inr (.inr ⟨ch,rfl,hp,ho2.same _ _ hd2 rfl⟩)⟩
   | normal =>
    obtain ⟨v,w',h3,h4⟩:=old h2;exact ⟨v,w',h3,h4.elim .inl (fun h => .inr (.inl h))⟩
   | ret =>
    obtain ⟨v,w',h3,h4⟩:=old h2;exact ⟨v,w',h3,h4.elim .inl (fun h => .inr (.inl h))⟩
   | exit id =>
    obtain ⟨v,w',h3,h4⟩:=old h2;exact ⟨v,w',h3,h4.elim .inl (fun h => .inr (.inl h))⟩
   | goto t =>
    obtain ⟨v,w',h3,h4⟩:=old h2;exact ⟨v,w',h3,h4.elim .inl (fun h => .inr (.inl h))⟩
   | outgrown=>exact h2.elim
  ·exact ⟨hI _ _ _ h0 (Still.of_below hb1 hN),hl1,hd1⟩
  ·rintro e W2 (⟨⟨v,rfl⟩,(⟨xs,hS,hi,hl,hd⟩ | ⟨pre,hSp,c,hi,hl,hd⟩)⟩ | ⟨ch,rfl,hp,hd⟩)
   ·have:=run_endLoop (P:=P) hl (by rw [hrec];simp);rw [show (rec .ready none).pending=none from by rw [hrec]] at this;exact ⟨none,_,this,hdone _ xs _ (Nat.le_refl _) hS (hI _ _ _ hi (Still.putObj _ (by omega) hl rfl)) ((World.putObj_heap_other (by omega)).trans hd)⟩
   ·have:=run_endLoop (P:=P) hl (by rw [hrec];simp);rw [show (rec .done (some c)).pending=some c from by rw [hrec]] at this;exact ⟨some c,_,this,hstop _ c pre _ (Nat.le_refl _) hSp (hIx _ _ _ _ hi (Still.putObj _ (by omega) hl rfl)) ((World.putObj_heap_other (by omega)).trans hd)⟩
   ·exact hpanic _ ch _ (Nat.le_refl _) hp hd
end
end
end Go.Proofs.YtdfpkmfeldoamaaGreatDoor
