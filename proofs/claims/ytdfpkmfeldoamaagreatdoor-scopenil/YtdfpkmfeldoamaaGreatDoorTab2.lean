/- A part of the proof: A part of the proof. -/
import Derived.Test.YtdfpkmfeldoamaaGreatDoorSp
import Derived.Test.YtdfpkmfeldoamaaGreatDoorExpr
set_option linter.unusedSimpArgs false
set_option linter.unusedVariables false
set_option maxRecDepth 100000
set_option maxHeartbeats 4000000
namespace Go.Proofs.YtdfpkmfeldoamaaGreatDoor
section
open Go.RowKit Tn Lx
attribute [local go_sem] tok_field0 tok_field1 tok_field3
def ErrT (w:World):Prop:=w.cell? ⟨0,0,none⟩=some (.iface 202 (.agg #[.pointer (some ⟨9,27,none⟩)]))
theorem ErrT.lt {w:World}(h:ErrT w):0<w.heap.size:=World.block_lt_of_cell? _ _ h
theorem ErrT.below {w w':World}{N:Nat}(h:ErrT w)(hb:Below N w w')(hN:0<N):ErrT w':=(World.cell?_of_block (hb.block 0 hN)).trans h
def BodyP (c:Cx)(X:Nat->Prop)(w:World)(bf:Nat)(cs:Array Value)(R:Ex.Res Nat)(e:Ending)(w':World):Prop :=
 (∃ i s,R = .ok i s/\e = .returned .nilIface/\Rd c X w' s/\But (FreeD c bf w) w w'/\w'.heap[bf]? = some (.cells (cs.setIfInBounds 4 (.int .i64 (i:Int))) 52 (0,0)))\/(∃ cd p,R = .bad cd p/\e = .returned (dval cd p)/\But (FreeD c bf w) w w')
theorem body_any (c:Cx)(X:Nat->Prop)(w:World)(s:Ex.S)(n:Nat)(hn:n<=900000)(pp bf:Nat)(cs:Array Value)(x:Value)(h:Rd c X w s)(hpp:w.heap[pp]? = some (.cells #[.pointer (some ⟨c.r,0,none⟩),x] 79 (0,0)))(hbf:w.heap[bf]? = some (.cells cs 52 (0,0)))(hcs:4<cs.size)(hbB:c.B<=bf)(hpB:c.B<=pp)
  (hg:ErrT w) (hG:0<c.r/\0<c.bt/\0<c.B) (hne:Pg.bodyF c.ts n s ≠ .out):
  Calls Tryz.prog 135 #[.pointer (some ⟨pp,0,none⟩),.pointer (some ⟨bf,0,none⟩)] w (BodyP c X w bf cs (Pg.bodyF c.ts n s)):=by
 have hr1:=h.rlt;have hb1:=h.blt;have hg1:=h.glt;have hsz:=h.size;have p0:w.cell? ⟨pp,0,none⟩=some (.pointer (some ⟨c.r,0,none⟩)):=(blk_cell hpp 0).trans rfl;obtain ⟨V,hV⟩:∃ V,w.alloc (.cells #[.string ⟨#[61]⟩] 9)=V:=⟨_,rfl⟩;have hbV:Below w.heap.size w V:=by rw [<- hV];exact (Below.refl _ w).alloc (Nat.le_refl _) _
 have ks:V.cell? ⟨w.heap.size,0,none⟩=some (.string ⟨#[61]⟩):=by rw [<- hV];exact (blk_cell (blk_new w _) 0).trans rfl
 have hT:=take_any c X V s [61] w.heap.size (h.below hbV) ks;have hE:Pg.bodyF c.ts n s=(Ex.take c.ts [61] s).bind fun _ s1=>Ex.rec_ c.ts n .all 0 s1:=rfl;generalize Pg.bodyF c.ts n s=R at *;have HE:=Lib.hid hE;have HT:=Lib.hid hT;have HV:=Lib.hid hV;have HB:=Lib.hid hbV;have HP:=Lib.hid hpp;have HF:=Lib.hid hbf;have HG:=Lib.hid hg;have HNE:=Lib.hid hne;clear hE hT hV hbV ks h hpp hbf hg hne
 go_enter Tryz.func135,Tryz.ntmps135
 go_wp2_with fail
 rw [HV.out];refine HT.out.mono ?_;rintro e w1 (⟨s1,hE1,rfl,hR1,hK1⟩ | ⟨cd,p1,hE1,rfl,hK1⟩)
 rotate_left
 ·have hF:R = .bad cd p1:=by rw [HE.out,hE1];rfl
  have HFF:=Lib.hid hF;have HK:=Lib.hid (Below.then_kp HB.out hK1);clear hF hK1 hE1;unfold dval
  go_wp2
  go_ret
  exact .inr ⟨cd,p1,HFF.out,rfl,FreeD.of_kp HK.out⟩
 have hK:=Below.then_kp HB.out hK1;have hF:R=Ex.rec_ c.ts n .all 0 s1:=by rw [HE.out,hE1];rfl
 have hp1:=hK.heap HP.out (by omega) (by omega) (fun e=>absurd e (by decide));have hf1:=hK.heap HF.out (by omega) (by omega) (fun e=>absurd e (by decide));have p01:w1.cell? ⟨pp,0,none⟩=some (.pointer (some ⟨c.r,0,none⟩)):=(blk_cell hp1 0).trans rfl;have hg1':ErrT w1:=(World.cell?_of_block (hK.old (k:=0) HG.out.lt hG.2.2 (by omega) (by omega))).trans HG.out;have hA:=expr_any c X w1 s1 n hn hR1 hg1' hG (by rw [<- hF];exact HNE.out);rw [<- hF] at hA;have HA:=Lib.hid hA;have HK:=Lib.hid hK;have HF1:=Lib.hid hf1;clear hA hK hF hp1 hf1 hg1' hE1 hK1 hR1 HE HT HV HB HP HF HNE p0
 go_wp2_with fail
 refine HA.out.mono ?_;rintro e w2 (⟨i,s2,hE2,rfl,hR2,hK2⟩ | ⟨cd,p2,hE2,rfl,hK2⟩)
 ·have hf2:=hK2.heap HF1.out (by omega) (by omega) (fun e=>absurd e (by decide));have hS:But (fun k=>k=bf) w2 (w2.setCell ⟨bf,4,none⟩ (.int .i64 (i:Int))):=But.setCell (p:=fun k=>k=bf) w2 rfl 4 _;have hR3:=hR2.but hS (fun e=>by omega) (fun e=>by omega) (fun e=>by omega) (fun k e => .inr (by subst e;exact ⟨_,_,_,hf2,by decide,by decide⟩));have hK3:=freeD_but (HK.out.trans hK2) hS;have hf3:=blk_set hf2 4 (.int .i64 (i:Int));obtain ⟨x4,hx4⟩:∃ x4,w2.cell? ⟨bf,4,none⟩=some x4:=⟨cs[4],by rw [blk_cell hf2 4];exact Array.getElem?_eq_getElem hcs⟩;have xf:w2.frozen? ⟨bf,4,none⟩=false:=blk_frozen hf2 4;have HE2:=Lib.hid hE2;have HR3:=Lib.hid hR3;have HK3:=Lib.hid hK3;have HF3:=Lib.hid hf3;clear hf2 hS hR3 hK3 hf3 hE2 hR2 hK2 HA HK HF1 p01
  go_wp2
  go_ret
  exact .inl ⟨i,s2,HE2.out,rfl,HR3.out,HK3.out,HF3.out⟩
 ·have hf2:=hK2.heap HF1.out (by omega) (by omega) (fun e=>absurd e (by decide));have hS:But (fun k=>k=bf) w2 (w2.setCell ⟨bf,4,none⟩ (.int .i64 0)):=But.setCell (p:=fun k=>k=bf) w2 rfl 4 _;have hK3:=freeD_but (HK.out.trans hK2) hS;obtain ⟨x4,hx4⟩:∃ x4,w2.cell? ⟨bf,4,none⟩=some x4:=⟨cs[4],by rw [blk_cell hf2 4];exact Array.getElem?_eq_getElem hcs⟩;have xf:w2.frozen? ⟨bf,4,none⟩=false:=blk_frozen hf2 4;obtain ⟨D,hD⟩:∃ D,dval cd p2=D:=⟨_,rfl⟩;rw [hD];have HE2:=Lib.hid hE2;have HK3:=Lib.hid hK3;have HDD:=Lib.hid hD;clear hf2 hS hK3 hE2 hK2 HA HK HF1 p01 hD
  go_wp2
  go_ret
  exact .inr ⟨cd,p2,HE2.out,by rw [HDD.out];rfl,HK3.out⟩
end
section
open Go.RowKit Tn Lx
attribute [local go_sem] tok_field0 tok_field1 tok_field3
theorem Pm.main {c:Cx}{X:Nat->Prop}{q pp:Nat}{v1 v4:Value}{w:World}{g:Pg.St}{s:Ex.S}(h:Pm c q pp v1 v4 w g)(hR:Rd c X w s)(p:Pos)(i:Nat):
  Pm c q pp v1 v4 (((((w.setCell ⟨q,6,none⟩ (.string ⟨Pg.wMain.toArray⟩)).setCell ⟨q,7,none⟩ (.int .i64 p.line)).setCell ⟨q,8,none⟩ (.int .i64 p.col)).setCell ⟨q,9,none⟩ (.slice none 0 0)).setCell ⟨q,10,none⟩ (.int .i64 (i:Int))) ⟨g.ins,g.exns,Pg.wMain,p,i⟩ /\
  Rd c X (((((w.setCell ⟨q,6,none⟩ (.string ⟨Pg.wMain.toArray⟩)).setCell ⟨q,7,none⟩ (.int .i64 p.line)).setCell ⟨q,8,none⟩ (.int .i64 p.col)).setCell ⟨q,9,none⟩ (.slice none 0 0)).setCell ⟨q,10,none⟩ (.int .i64 (i:Int))) s /\
  Kr c q w (((((w.setCell ⟨q,6,none⟩ (.string ⟨Pg.wMain.toArray⟩)).setCell ⟨q,7,none⟩ (.int .i64 p.line)).setCell ⟨q,8,none⟩ (.int .i64 p.col)).setCell ⟨q,9,none⟩ (.slice none 0 0)).setCell ⟨q,10,none⟩ (.int .i64 (i:Int))):=by
 have hr:=hR.rlt;have hb:=hR.blt;have hg:=hR.glt;have hqB:=h.qB;have hS:But (fun k=>k=q) w (((((w.setCell ⟨q,6,none⟩ (.string ⟨Pg.wMain.toArray⟩)).setCell ⟨q,7,none⟩ (.int .i64 p.line)).setCell ⟨q,8,none⟩ (.int .i64 p.col)).setCell ⟨q,9,none⟩ (.slice none 0 0)).setCell ⟨q,10,none⟩ (.int .i64 (i:Int))) :=
  ((((But.setCell (p:=fun k=>k=q) w rfl 6 _).trans (But.setCell (p:=fun k=>k=q) _ rfl 7 _)).trans (But.setCell (p:=fun k=>k=q) _ rfl 8 _)).trans (But.setCell (p:=fun k=>k=q) _ rfl 9 _)).trans (But.setCell (p:=fun k=>k=q) _ rfl 10 _)
 refine ⟨⟨hS.heap h.par (fun e=>h.qp e.symm), ?_,hS.own h.ins (fun k hk e=>own_none h.ins h.prog (by decide) (by rw [<- e];exact hk)),hS.own h.exns (fun k hk e=>own_none h.exns h.prog (by decide) (by rw [<- e];exact hk)),h.apart,h.ppB,h.qB⟩, ?_, ?_⟩
 ·exact (blk_set (blk_set (blk_set (blk_set (blk_set h.prog 6 _) 7 _) 8 _) 9 _) 10 _).trans rfl
 ·exact hR.but hS (fun e=>by omega) (fun e=>by omega) (fun e=>by omega) (fun k e => .inr (by subst e;exact ⟨_,_,_,h.prog,by decide,by decide⟩))
 ·exact hS.mono fun k _ e => .inr (.inr (.inl e))
end
section
open Go.RowKit Tn Lx
section
variable (w:World)
theorem map_make:(Instr.makeMap 114 none).run Tryz.prog w = .ok (.map (some w.heap.size)) (w.alloc (.map #[] 0)):=rfl
theorem alloc_set (a b:Obj):{ (w.alloc a) with heap:=(w.alloc a).heap.setIfInBounds w.heap.size b } = w.alloc b:=by
 have e:(w.heap.push a).setIfInBounds w.heap.size b=w.heap.push b:=by
  apply Array.ext';rw [Array.toList_setIfInBounds,Array.toList_push,Array.toList_push,List.set_append_right _ _ (by simp)]
  simp
 show { w with heap:=(w.heap.push a).setIfInBounds w.heap.size b } = { w with heap:=w.heap.push b }
 rw [e]
theorem obj_get {r:Nat}{es:Array MapEntry}{cl:Nat}{W:World}(h:W.heap[r]? = some (.map es cl)):(getObj r).run Tryz.prog W = .ok (.map es cl) W:=by simp [getObj,Sem.run,h]
theorem obj_set {r:Nat}{es:Array MapEntry}{cl:Nat}{W:World}(o:Obj)(h:W.heap[r]? = some (.map es cl)):(setObj r o).run Tryz.prog W = .ok () { W with heap:=W.heap.setIfInBounds r o } := by simp [setObj,Sem.run,h]
theorem key_check (e:Bool)(k:ByteArray)(W:World):(Instr.checkKey e 10000 9 (.string k)).run Tryz.prog W = .ok () W:=by
 rw [show (10000:Nat)=9999+1 from rfl,Instr.checkKey];simp [Sem.run_bind,run_underlying Tryz.underlying9,Result.andThen]
theorem key_find (k:ByteArray)(es:List MapEntry)(r:Option (Nat × Value))(W:World)(h:Instr.findNow .string (.string k) es 0=some r):(Instr.findKey 9 (.string k) es).run Tryz.prog W = .ok r W:=by
 rw [Instr.findKey];simp [Sem.run_bind,run_underlying Tryz.underlying9,Result.andThen,h]
theorem map_up (es:Array MapEntry)(cl:Nat)(k:ByteArray)(v:Value)(h:Instr.findNow .string (.string k) es.toList 0=some none):(Instr.mapUpdate 114 (.map (some w.heap.size)) (.string k) v).run Tryz.prog (w.alloc (.map es cl)) = .ok () (w.alloc (.map (es.push ⟨.string k,v,cl⟩) (cl+1))):=by
 have hb:(w.alloc (.map es cl)).heap[w.heap.size]? = some (.map es cl):=by unfold World.alloc;simp
 rw [Instr.mapUpdate];simp only [Sem.run_bind,run_underlying Tryz.underlying114,Result.andThen,obj_get hb,key_check,key_find k es.toList none _ h,obj_set _ hb,alloc_set]
theorem map_look {r:Nat}{es:Array MapEntry}{cl i:Nat}{v:Value}{k:ByteArray}{W:World}(hb:W.heap[r]? = some (.map es cl))(h:Instr.findNow .string (.string k) es.toList 0=some (some (i,v))):(Instr.lookup 114 (.map (some r)) (.string k) true).run Tryz.prog W = .ok (.tuple #[v,.bool true]) W:=by
 rw [Instr.lookup];simp only [Sem.run_bind,run_underlying Tryz.underlying114,Result.andThen,obj_get hb,key_check,key_find k es.toList _ _ h,Sem.run_pure,if_true]
end
theorem blk_new_map (w:World){es:Array MapEntry}{cl:Nat} : (w.alloc (.map es cl)).heap[w.heap.size]? = some (.map es cl):=by unfold World.alloc;simp
def tabE:Array MapEntry:=#[⟨.string ⟨#[105,110,112,117,116]⟩,.func (.func 76) #[] #[],0⟩,⟨.string ⟨#[103,108,111,98,97,108]⟩,.func (.func 79) #[] #[],1⟩,⟨.string ⟨#[99,104,97,110,110,101,108]⟩,.func (.func 81) #[] #[],2⟩,⟨.string ⟨#[101,120,99,101,112,116,105,111,110]⟩,.func (.func 82) #[] #[],3⟩,⟨.string ⟨#[102,117,110]⟩,.func (.func 83) #[] #[],4⟩,⟨.string ⟨#[109,97,105,110]⟩,.func (.func 84) #[] #[],5⟩]
theorem decls_any (w:World):Calls Tryz.prog 35 #[] w fun e w'=>e = .returned (.map (some w.heap.size))/\w'=w.alloc (.map tabE 6):=by
 have h0:=map_make w;have h1:=map_up w #[] 0 ⟨#[105,110,112,117,116]⟩ (.func (.func 76) #[] #[]) (by rfl);have h2:=map_up w #[⟨.string ⟨#[105,110,112,117,116]⟩,.func (.func 76) #[] #[],0⟩] 1 ⟨#[103,108,111,98,97,108]⟩ (.func (.func 79) #[] #[]) (by kernel_rfl);have h3:=map_up w #[⟨.string ⟨#[105,110,112,117,116]⟩,.func (.func 76) #[] #[],0⟩,⟨.string ⟨#[103,108,111,98,97,108]⟩,.func (.func 79) #[] #[],1⟩] 2 ⟨#[99,104,97,110,110,101,108]⟩ (.func (.func 81) #[] #[]) (by kernel_rfl);have h4:=map_up w #[⟨.string ⟨#[105,110,112,117,116]⟩,.func (.func 76) #[] #[],0⟩,⟨.string ⟨#[103,108,111,98,97,108]⟩,.func (.func 79) #[] #[],1⟩,⟨.string ⟨#[99,104,97,110,110,101,108]⟩,.func (.func 81) #[] #[],2⟩] 3 ⟨#[101,120,99,101,112,116,105,111,110]⟩ (.func (.func 82) #[] #[]) (by kernel_rfl);have h5:=map_up w #[⟨.string ⟨#[105,110,112,117,116]⟩,.func (.func 76) #[] #[],0⟩,⟨.string ⟨#[103,108,111,98,97,108]⟩,.func (.func 79) #[] #[],1⟩,⟨.string ⟨#[99,104,97,110,110,101,108]⟩,.func (.func 81) #[] #[],2⟩,⟨.string ⟨#[101,120,99,101,112,116,105,111,110]⟩,.func (.func 82) #[] #[],3⟩] 4 ⟨#[102,117,110]⟩ (.func (.func 83) #[] #[]) (by kernel_rfl);have h6:=map_up w #[⟨.string ⟨#[105,110,112,117,116]⟩,.func (.func 76) #[] #[],0⟩,⟨.string ⟨#[103,108,111,98,97,108]⟩,.func (.func 79) #[] #[],1⟩,⟨.string ⟨#[99,104,97,110,110,101,108]⟩,.func (.func 81) #[] #[],2⟩,⟨.string ⟨#[101,120,99,101,112,116,105,111,110]⟩,.func (.func 82) #[] #[],3⟩,⟨.string ⟨#[102,117,110]⟩,.func (.func 83) #[] #[],4⟩] 5 ⟨#[109,97,105,110]⟩ (.func (.func 84) #[] #[]) (by kernel_rfl);simp only [List.push_toArray,List.nil_append,List.cons_append,Nat.reduceAdd] at h1 h2 h3 h4 h5 h6
 go_enter Tryz.func35,Tryz.ntmps35
 go_wp2
 go_ret
 exact ⟨rfl,rfl⟩
theorem look_exn {r:Nat}{W:World}(hb:W.heap[r]? = some (.map tabE 6)):(Instr.lookup 114 (.map (some r)) (.string ⟨Pg.wExn.toArray⟩) true).run Tryz.prog W = .ok (.tuple #[.func (.func 82) #[] #[],.bool true]) W:=map_look hb (i:=3) (by kernel_rfl)
theorem look_inp {r:Nat}{W:World}(hb:W.heap[r]? = some (.map tabE 6)):(Instr.lookup 114 (.map (some r)) (.string ⟨Pg.wInput.toArray⟩) true).run Tryz.prog W = .ok (.tuple #[.func (.func 76) #[] #[],.bool true]) W:=map_look hb (i:=0) (by kernel_rfl)
theorem look_main {r:Nat}{W:World}(hb:W.heap[r]? = some (.map tabE 6)):(Instr.lookup 114 (.map (some r)) (.string ⟨Pg.wMain.toArray⟩) true).run Tryz.prog W = .ok (.tuple #[.func (.func 84) #[] #[],.bool true]) W:=map_look hb (i:=5) (by kernel_rfl)
end
section
open Go.RowKit Tn Lx
theorem look_glo {r:Nat}{W:World}(hb:W.heap[r]? = some (.map tabE 6)):(Instr.lookup 114 (.map (some r)) (.string ⟨Pf.wGlo.toArray⟩) true).run Tryz.prog W = .ok (.tuple #[.func (.func 79) #[] #[],.bool true]) W:=map_look hb (i:=1) (by kernel_rfl)
theorem look_cha {r:Nat}{W:World}(hb:W.heap[r]? = some (.map tabE 6)):(Instr.lookup 114 (.map (some r)) (.string ⟨Pf.wCha.toArray⟩) true).run Tryz.prog W = .ok (.tuple #[.func (.func 81) #[] #[],.bool true]) W:=map_look hb (i:=2) (by kernel_rfl)
theorem look_fun {r:Nat}{W:World}(hb:W.heap[r]? = some (.map tabE 6)):(Instr.lookup 114 (.map (some r)) (.string ⟨Pf.wFun.toArray⟩) true).run Tryz.prog W = .ok (.tuple #[.func (.func 83) #[] #[],.bool true]) W:=map_look hb (i:=4) (by kernel_rfl)
theorem same_key (a b:B):Instr.sameNow .string (.string ⟨a.toArray⟩) (.string ⟨b.toArray⟩)=some (a==b):=by
 show some (a.toArray==b.toArray)=_
 rw [List.beq_toArray]
theorem find_none {t:B} : ∀ (es:List MapEntry) (j:Nat),(∀ e∈es,∃ m:B,e.key = .string ⟨m.toArray⟩/\(t==m)=false)->Instr.findNow .string (.string ⟨t.toArray⟩) es j=some none
 | [],_,_=>rfl
 | e :: es,j,h=>by
  obtain ⟨m,h1,h2⟩:=h e (List.mem_cons_self ..);rw [Instr.findNow,h1,same_key,h2];exact find_none es (j+1) (fun e he=>h e (List.mem_cons_of_mem _ he))
theorem look_none {r:Nat}{t:B}{W:World}(hb:W.heap[r]? = some (.map tabE 6))(h1:(t==Pg.wInput)=false)(h2:(t==Pf.wGlo)=false)(h3:(t==Pf.wCha)=false)(h4:(t==Pg.wExn)=false)(h5:(t==Pf.wFun)=false)(h6:(t==Pg.wMain)=false):
  (Instr.lookup 114 (.map (some r)) (.string ⟨t.toArray⟩) true).run Tryz.prog W = .ok (.tuple #[.nilFunc,.bool false]) W:=by
 have hf:Instr.findNow .string (.string ⟨t.toArray⟩) tabE.toList 0=some none:=find_none _ 0 (fun e he=>by
  simp only [tabE,List.mem_cons,List.not_mem_nil,or_false] at he
  rcases he with rfl | rfl | rfl | rfl | rfl | rfl
  ·exact ⟨_,rfl,h1⟩
  ·exact ⟨_,rfl,h2⟩
  ·exact ⟨_,rfl,h3⟩
  ·exact ⟨_,rfl,h4⟩
  ·exact ⟨_,rfl,h5⟩
  ·exact ⟨_,rfl,h6⟩)
 rw [Instr.lookup];simp only [Sem.run_bind,run_underlying Tryz.underlying114,Result.andThen,obj_get hb,key_check,key_find _ _ none _ hf,Sem.run_pure,if_true,Tryz.zeroValue121]
end
end Go.Proofs.YtdfpkmfeldoamaaGreatDoor
