/- A part of the proof: A function, read into a whole program. -/
import Derived.Test.YtdfpkmfeldoamaaGreatDoorParams
import Derived.Test.YtdfpkmfeldoamaaGreatDoorMains2
import Derived.Deep.RegionHeld3
set_option linter.unusedSimpArgs false
set_option linter.unusedVariables false
set_option maxRecDepth 100000
set_option maxHeartbeats 8000000
namespace Go.Proofs.YtdfpkmfeldoamaaGreatDoor
open Go.RowKit Tn Lx
theorem Tryz.info52:(Tryz.prog.info? 52).map (fun i=>(i.zero,i.size,i.bytes))=some (some (.agg #[.string ⟨#[]⟩,.int .i64 0,.int .i64 0,.slice none 0 0,.int .i64 0]),5,64):=by kernel_rfl
theorem fnCell_one (x:FnV):∀ u∈fnCell x,u.oneCell'=true:=by
 intro u hu;simp only [fnCell,List.mem_cons,List.not_mem_nil,or_false] at hu
 rcases hu with rfl | rfl | rfl | rfl | rfl <;> rfl
def fun5F (ts:List Tok)(n:Nat)(g:Pf.St)(s:Ex.S):Pg.R Pf.St:=(Pg.lift (Pf.funF ts n s)).bind fun d s1 => .ok { g with funs:=g.funs++[d] } s1
theorem row_tail_q {c:Cx}{X:Nat->Prop}{w1 w5:World}{s1:Ex.S}{q pp l z:Nat}{t:TypeId}{cs par:Array Value}{v:Value}{n:Nat}{xs ys:List Value}{g cap m:Nat}{o:Obj}(ht:t≠165/\t≠3/\t≠76/\t≠79)(hR1:Rd c X w1 s1)(ho1:w1.ownsRow c.B t z v n xs)(hq1:w1.heap[q]? = some (.cells cs 76 (0,0)))(hqB:c.B<=q)(hpp:w1.heap[pp]? = some (.cells par 79 (0,0)))
  (hown:w5.ownsRow c.B t z (.slice (some ⟨g,0,none⟩) m cap) m ys) (hgrow:((w1.alloc o).drew).grownBy w5 v.ownBlock):
  w5.heap[q]? = some (.cells cs 76 (0,0))/\Rd c X (w5.setCell ⟨q,l,none⟩ (.slice (some ⟨g,0,none⟩) m cap)) s1/\(w5.setCell ⟨q,l,none⟩ (.slice (some ⟨g,0,none⟩) m cap)).ownsRow c.B t z (.slice (some ⟨g,0,none⟩) m cap) m ys /\
  (w5.setCell ⟨q,l,none⟩ (.slice (some ⟨g,0,none⟩) m cap)).heap[q]? = some (.cells (cs.setIfInBounds l (.slice (some ⟨g,0,none⟩) m cap)) 76 (0,0))/\(w5.setCell ⟨q,l,none⟩ (.slice (some ⟨g,0,none⟩) m cap)).heap[pp]? = some (.cells par 79 (0,0))/\But (FreeL c q v w1) w1 (w5.setCell ⟨q,l,none⟩ (.slice (some ⟨g,0,none⟩) m cap)):=by
 have hB:But (fun k=>v.ownBlock=some k) w1 w5:=by
  have h1:But (fun k=>v.ownBlock=some k) w1 (w1.alloc o).drew:=But.of_below ((Below.refl _ w1).alloc (Nat.le_refl _) _).drew;exact h1.trans (But.of_grown hgrow (fun k e=>e))
 have hr:=hR1.rlt;have hb:=hR1.blt;have hg:=hR1.glt;have htt:∀ k,v.ownBlock=some k->c.B<=k/\∃ cs' fr,w1.heap[k]? = some (.cells cs' t fr):=fun k hk=>by
  obtain ⟨e0,cur,e1⟩:=own_tag ho1 hk;exact ⟨e0,cur,_,e1⟩
 have hvq:v.ownBlock≠some q:=fun e=>by
  obtain ⟨_,cs',fr,e1⟩:=htt q e;rw [hq1] at e1;injection e1 with e1;injection e1 with _ e1;exact ht.2.2.1 e1.symm
 have hvp:v.ownBlock≠some pp:=fun e=>by
  obtain ⟨_,cs',fr,e1⟩:=htt pp e;rw [hpp] at e1;injection e1 with e1;injection e1 with _ e1;exact ht.2.2.2 e1.symm
 have hqp:pp≠q:=fun e=>by
  rw [e,hq1] at hpp;injection hpp with e1;injection e1 with _ e1;exact absurd e1 (by decide)
 have hq5:w5.heap[q]? = some (.cells cs 76 (0,0)):=hB.heap hq1 hvq;have hp5:w5.heap[pp]? = some (.cells par 79 (0,0)):=hB.heap hpp hvp;have hgq:g≠q:=fun e=>by
  obtain ⟨_,cur,e1⟩:=own_tag hown (g:=g) rfl;rw [e,hq5] at e1;injection e1 with e1;injection e1 with _ e1;exact ht.2.2.1 e1.symm
 have hR5:Rd c X w5 s1:=hR1.but hB (fun e=>by have:=(htt _ e).1;omega) (fun e=>by have:=(htt _ e).1;omega) (fun e=>by have:=(htt _ e).1;omega) (fun k e=>by
  obtain ⟨_,cs',fr,e1⟩:=htt k e;exact .inr ⟨cs',_,fr,e1,ht.1,ht.2.1⟩)
 have hS:But (fun k=>k=q) w5 (w5.setCell ⟨q,l,none⟩ (.slice (some ⟨g,0,none⟩) m cap)):=But.setCell (p:=fun k=>k=q) w5 rfl l _;refine ⟨hq5, ?_, ?_, ?_, ?_, ?_⟩
 ·exact hR5.but hS (fun e=>by omega) (fun e=>by omega) (fun e=>by omega) (fun k e => .inr (by subst e;exact ⟨_,_,_,hq5,by decide,by decide⟩))
 ·exact hS.own hown (fun k hk e=>hgq ((Option.some.inj (show some g=some k from hk)).trans e))
 ·exact blk_set hq5 l _
 ·exact hS.heap hp5 hqp
 ·refine ⟨hS.os.trans hB.os,hS.tape.trans hB.tape,hS.output.trans hB.output,Nat.le_trans hB.size hS.size,fun k hk hn=>?_⟩;have h2:=hB.block k hk (fun e=>hn (.inr (.inr e)));exact (hS.block k (Nat.lt_of_lt_of_le hk hB.size) (fun e=>hn (.inr (.inl e)))).trans h2
def HeldF (pp q x:Nat)(f:FnV)(W:World):Prop:=W.cell? ⟨pp,1,none⟩=some (.pointer (some ⟨q,0,none⟩))/\W.cell? ⟨x,0,none⟩=some (.string ⟨f.f.name.text.toArray⟩)/\W.cell? ⟨x,1,none⟩=some (.int .i64 f.f.name.at_.line)/\W.cell? ⟨x,2,none⟩=some (.int .i64 f.f.name.at_.col)/\W.cell? ⟨x,3,none⟩=some (.slice f.pa f.f.params.length f.pc)/\W.cell? ⟨x,4,none⟩=some (.int .i64 (f.f.body:Int))
structure LiesF (pp q x r:Nat)(f:FnV)(W:World):Prop where
 par:W.heap[pp]? = some (.cells #[.pointer (some ⟨r,0,none⟩),.pointer (some ⟨q,0,none⟩)] 79 (0,0))
 fn:W.heap[x]? = some (.cells (fnCell f).toArray 52 (0,0))
theorem LiesF.held {pp q x r:Nat}{f:FnV}{W:World}(h:LiesF pp q x r f W):HeldF pp q x f W :=
 ⟨(blk_cell h.par 1).trans rfl,(blk_cell h.fn 0).trans rfl,(blk_cell h.fn 1).trans rfl,(blk_cell h.fn 2).trans rfl,(blk_cell h.fn 3).trans rfl,(blk_cell h.fn 4).trans rfl⟩
theorem LiesF.but {pp q x r:Nat}{f:FnV}{W W':World}{p:Nat->Prop}(h:LiesF pp q x r f W)(hB:But p W W')(h1:¬ p pp)(h2:¬ p x):LiesF pp q x r f W':=⟨hB.heap h.par h1,hB.heap h.fn h2⟩
theorem LiesF.below {pp q x r:Nat}{f:FnV}{W W':World}(h:LiesF pp q x r f W)(hb:Below W.heap.size W W'):LiesF pp q x r f W':=h.but (p:=fun _=>False) (But.of_below hb) (fun e=>e) (fun e=>e)
theorem LiesF.grown {c:Cx}{pp q x:Nat}{U:Nat->Value}{fs:List FnV}{f:FnV}{W w5:World}{g:Pf.St}{o:Obj}(h:LiesF pp q x c.r f W)(hP:Pm5 c q pp U fs W g)(hx:(U 5).ownBlock≠some x)(hgrow:((W.alloc o).drew).grownBy w5 (U 5).ownBlock):LiesF pp q x c.r f w5:=by
 have h1:But (fun k=>(U 5).ownBlock=some k) W (W.alloc o).drew:=But.of_below ((Below.refl _ W).alloc (Nat.le_refl _) _).drew;exact h.but (h1.trans (But.of_grown hgrow (fun k e=>e))) (own_none hP.fun_ h.par (by decide)) hx
theorem LiesF.set {pp q x r:Nat}{f:FnV}{W:World}{cs:Array Value}(h:LiesF pp q x r f W)(hq:W.heap[q]? = some (.cells cs 76 (0,0)))(i:Nat)(v:Value):LiesF pp q x r f (W.setCell ⟨q,i,none⟩ v) :=
 have no:∀ {k:Nat} {ds:Array Value} {t:TypeId},W.heap[k]? = some (.cells ds t (0,0))->t≠76->¬ k=q:=fun hk ht e=>by
  rw [e,hq] at hk;injection hk with hk;injection hk with _ hk;exact ht hk.symm
 h.but (But.setCell (p:=fun k=>k=q) W rfl i v) (no h.par (by decide)) (no h.fn (by decide))
theorem freeL_kf2 {c:Cx}{q:Nat}{v:Value}{w w':World}{n:Nat}{xs:List Value}(h:But (FreeL c q v w) w w')(ho:w.ownsRow c.B 52 5 v n xs):Kf c q w w':=But.mono h fun k _ e=>by
 rcases e with (e | e | ⟨e,cs,fr,e1⟩) | e | e
 ·exact .inl e
 ·exact .inr (.inl e)
 ·exact .inr (.inr (.inr ⟨e,cs,_,fr,e1,.inl rfl⟩))
 ·exact .inr (.inr (.inl e))
 ·obtain ⟨e0,cur,e1⟩:=own_tag ho e;exact .inr (.inr (.inr ⟨e0,cur,_,_,e1,.inr (.inr rfl)⟩))
theorem Pm5.putf {c:Cx}{q pp:Nat}{V:Nat->Value}{fs:List FnV}{w w':World}{g:Pf.St}{x:FnV}{v':Value}(h:Pm5 c q pp V fs w g)(hr:c.r<c.B)(hb:c.bt<c.B)(hx:ParAt c.B w x)(ho:w'.ownsRow c.B 52 5 v' (fs++[x]).length (fnsCells (fs++[x])))(hq:w'.heap[q]? = some (.cells ((progF c.bt V g).setIfInBounds 5 v') 76 (0,0)))(hp:w'.heap[pp]? = some (.cells #[.pointer (some ⟨c.r,0,none⟩),.pointer (some ⟨q,0,none⟩)] 79 (0,0)))(hB:But (FreeL c q (V 5) w) w w'):
  Pm5 c q pp (Vup V 5 v') (fs++[x]) w' { g with funs:=g.funs++[x.f] } := by
 have hqB:=h.qB;have stay:∀ {k:Nat} {cs:Array Value} {t:TypeId} {fr:Nat × Nat},c.B<=k->w.heap[k]? = some (.cells cs t fr)->t≠165->t≠76->(V 5).ownBlock≠some k->¬ FreeL c q (V 5) w k:=fun {k} {cs} {t} {fr} h0 h1 h2 h3 h4=>by
  rintro ((e | e | ⟨_,cs',fr',e⟩) | e | e)
  ·omega
  ·omega
  ·rw [h1] at e;injection e with e;injection e with _ e;exact h2 e
  ·rw [e,h.prog] at h1;injection h1 with h1;injection h1 with _ h1;exact h3 h1.symm
  ·exact h4 e
 have keep:∀ y,ParAt c.B w y->ParAt c.B w' y:=fun y hy=>hB.own hy fun k hk=>by
  obtain ⟨e0,cur,e1⟩:=own_tag hy hk;exact stay e0 e1 (by decide) (by decide) (own_none h.fun_ e1 (by decide))
 refine ⟨hp,hq.trans rfl,fun i hi=>?_, ?_,by simp [h.isf],fun y hy=>?_,fun i j k hi hj hij hk=>?_,h.ppB,hqB⟩
 ·rw [Vup,if_neg (by omega)];have hd:dl { g with funs:=g.funs++[x.f] } i=dl g i:=by unfold dl;split <;> rfl
  rw [hd];refine hB.own (h.dec i hi) fun k hk=>?_;obtain ⟨e0,cur,e1⟩:=own_tag (h.dec i hi) hk;exact stay e0 e1 (by decide) (by decide) (own_none h.fun_ e1 (by decide))
 ·rw [Vup,if_pos rfl];exact ho
 ·rcases List.mem_append.1 hy with hy | hy
  ·exact keep y (h.pars y hy)
  ·rw [List.mem_singleton.1 hy];exact keep x hx
 ·rw [Vup,if_neg (by omega)] at hk ⊢;exact h.apart i j k hi hj hij hk
theorem fun5_any (c:Cx)(X:Nat->Prop)(w:World)(s:Ex.S)(n:Nat)(hn:n<=900000)(q pp:Nat)(U:Nat->Value)(fs:List FnV)(g:Pf.St)(h:Rd c X w s)(hP:Pm5 c q pp U fs w g)(hg:ErrT w)(hG:0<c.r/\0<c.bt/\0<c.B)(hf:g.funs.length<=200)(hne:Pf.funF c.ts n s ≠ .out):
  Calls Tryz.prog 83 #[.pointer (some ⟨pp,0,none⟩)] w (ReadF c X w q pp (fun5F c.ts n g s)):=by
 have hr:=h.rlt;have hb:=h.blt;have hgl:=h.glt;have hsz:=h.size;have hpB:=hP.ppB;have hqB:=hP.qB;obtain ⟨V,hV⟩:∃ V,(w.alloc (.cells #[.string ⟨#[]⟩,.int .i64 0,.int .i64 0,.slice none 0 0,.int .i64 0] 52)).alloc (.cells #[.string ⟨#[102,117,110]⟩] 9)=V:=⟨_,rfl⟩;have hbV:Below w.heap.size w V:=by rw [<- hV];exact ((Below.refl _ w).alloc (Nat.le_refl _) _).alloc (by simp) _
 have kf:V.heap[w.heap.size]? = some (.cells #[.string ⟨#[]⟩,.int .i64 0,.int .i64 0,.slice none 0 0,.int .i64 0] 52 (0,0)):=by rw [<- hV];exact blk_alloc (blk_new w _) _
 have ks:V.heap[w.heap.size+1]? = some (.cells #[.string ⟨#[102,117,110]⟩] 9 (0,0)):=by
  rw [<- hV];have:=blk_new (w.alloc (.cells #[.string ⟨#[]⟩,.int .i64 0,.int .i64 0,.slice none 0 0,.int .i64 0] 52)) (.cells #[.string ⟨#[102,117,110]⟩] 9);rwa [World.size_alloc] at this
 have hRV:=h.below hbV;have hPV:=hP.below hbV;have hgV:ErrT V:=hg.below hbV hg.lt;have hA:=pname_any c X V s pp w.heap.size 0 #[.string ⟨#[]⟩,.int .i64 0,.int .i64 0,.slice none 0 0,.int .i64 0] 52 [Pf.wFun] (.slice (some ⟨w.heap.size+1,0,none⟩) 1 1) (.pointer (some ⟨q,0,none⟩)) hRV hPV.par kf (by simp) hsz hpB ⟨by decide,by decide⟩ (take_one c X V s Pf.wFun (w.heap.size+1) hRV ((blk_cell ks 0).trans rfl));have hE:Pf.funF c.ts n s=(Pg.nameAt c.ts [Pf.wFun] s).bind fun nm s1=>(Pf.params c.ts n s1).bind fun ps s2=>(Pg.bodyF c.ts n s2).bind fun b s3 => .ok ⟨nm,ps,b⟩ s3:=rfl;have hRF:fun5F c.ts n g s=(Pg.lift (Pf.funF c.ts n s)).bind fun d s1 => .ok { g with funs:=g.funs++[d] } s1:=rfl;generalize fun5F c.ts n g s=RR at *;generalize Pf.funF c.ts n s=R at *;have hrl:=fun k (hk:Rows5 U fs k)=>hP.rlt hk;have hppl:=lt_of_heap hP.par;have hql:=lt_of_heap hP.prog;have HE:=Lib.hid hE;have HRF:=Lib.hid hRF;have HA:=Lib.hid hA;have HV:=Lib.hid hV;have HB:=Lib.hid hbV;have HPV:=Lib.hid hPV;have HGV:=Lib.hid hgV;have HNE:=Lib.hid hne;have HRL:=Lib.hid hrl;obtain ⟨i0,hi,hz0,hz1,hz2⟩:=info_parts Tryz.info52;have HI:=Lib.hid hi;have HZ:=Lib.hid hz0;have HZ1:=Lib.hid hz1;have HZ2:=Lib.hid hz2;clear hE hRF hA hV hbV kf ks hRV hPV hgV h hP hg hne hrl hi hz0 hz1 hz2
 go_enter Tryz.func83,Tryz.ntmps83
 go_wp2_with fail
 rw [HV.out];refine HA.out.mono ?_;rintro e w1 (⟨nm,s1,hE1,rfl,hR1,hK1,hf1⟩ | ⟨cd,p1,hE1,rfl,hK1⟩)
 rotate_left
 ·have hF:R = .bad cd p1:=by rw [HE.out,hE1];rfl
  have hF2:RR = .bad cd p1 []:=by rw [HRF.out,hF];rfl
  have HF:=Lib.hid hF2;have HK:=Lib.hid (Kf.of_kp (q:=q) (freeD_new HB.out (Nat.le_refl _) hK1));clear hF hF2 hK1 hE1;unfold dval
  go_wp2
  go_ret
  exact .inr ⟨cd,p1,[],HF.out,rfl,HK.out⟩
 have hKa:Kp c w w1:=freeD_new HB.out (Nat.le_refl _) hK1;have hP1:=HPV.out.freeD hr hb (fun e=>by omega) (fun e=>by omega) (fun k hk e=>by have:=HRL.out k hk;omega) hK1;have hg1:ErrT w1:=(World.cell?_of_block (hK1.block 0 HGV.out.lt (by rintro ((e | e | ⟨e,_⟩) | e) <;> omega))).trans HGV.out;have hF1:R=(Pf.params c.ts n s1).bind fun ps s2=>(Pg.bodyF c.ts n s2).bind fun b s3 => .ok ⟨nm,ps,b⟩ s3:=by rw [HE.out,hE1];rfl
 have hA2:=params_any c X w1 s1 pp w.heap.size n _ (.pointer (some ⟨q,0,none⟩)) hR1 hP1.par hf1 rfl hsz hpB hn (fun e=>HNE.out (by rw [hF1,e];rfl));generalize Pf.params c.ts n s1=RP at *;have HA2:=Lib.hid hA2;have HKA:=Lib.hid hKa;have HP1:=Lib.hid hP1;have HG1:=Lib.hid hg1;have HF1:=Lib.hid hF1;clear hA2 hKa hK1 hP1 hg1 hF1 hE1 hR1 hf1 HE HA HV HPV HGV
 go_wp2_with fail
 refine HA2.out.mono ?_;rintro e w2 (⟨ps,s2,pa,pc,rfl,rfl,hR2,hK2,hf2,ho2,hat2⟩ | ⟨cd,p2,rfl,rfl,hK2⟩)
 rotate_left
 ·have hF2:RR = .bad cd p2 []:=by rw [HRF.out,HF1.out];rfl
  have HF:=Lib.hid hF2;have HK:=Lib.hid (Kf.of_kp (q:=q) (freeD_old (Nat.le_refl _) HKA.out hK2));clear hF2 hK2;unfold dval
  go_wp2
  go_ret
  exact .inr ⟨cd,p2,[],HF.out,rfl,HK.out⟩
 have hKb:Kp c w w2:=freeD_old (Nat.le_refl _) HKA.out hK2;have hP2:=HP1.out.freeD hr hb (fun e=>by omega) (fun e=>by omega) (fun k hk e=>by have:=HRL.out k hk;omega) hK2;have hs1:=HKA.out.size;have hg2:ErrT w2:=(World.cell?_of_block (hK2.block 0 HG1.out.lt (by rintro ((e | e | ⟨e,_⟩) | e) <;> omega))).trans HG1.out;have hF2:R=(Pg.bodyF c.ts n s2).bind fun b s3 => .ok ⟨nm,ps,b⟩ s3:=by rw [HF1.out];rfl
 have hA3:=body_any c X w2 s2 n hn pp w.heap.size _ (.pointer (some ⟨q,0,none⟩)) hR2 hP2.par hf2 (by simp [nmCells]) hsz hpB hg2 hG (fun e=>HNE.out (by rw [hF2,e];rfl));generalize Pg.bodyF c.ts n s2=RB at *;have hob:(Value.slice pa ps.length pc).ownBlock≠some w.heap.size:=own_none ho2 hf2 (by decide);have HOB:=Lib.hid hob;clear hob;have HA3:=Lib.hid hA3;have HKB:=Lib.hid hKb;have HP2:=Lib.hid hP2;have HF2:=Lib.hid hF2;have HO2:=Lib.hid ho2;have HAT2:=Lib.hid hat2;clear hA3 hKb hK2 hP2 hg2 hF2 hR2 hf2 ho2 hat2 HF1 HA2 HKA HP1 HG1
 go_wp2_with fail
 refine HA3.out.mono ?_;rintro e w3 (⟨b,s3,rfl,rfl,hR3,hK3,hf3⟩ | ⟨cd,p3,rfl,rfl,hK3⟩)
 rotate_left
 ·have hF3:RR = .bad cd p3 []:=by rw [HRF.out,HF2.out];rfl
  have HF:=Lib.hid hF3;have HK:=Lib.hid (Kf.of_kp (q:=q) (freeD_old (Nat.le_refl _) HKB.out hK3));clear hF3 hK3;unfold dval
  go_wp2
  go_ret
  exact .inr ⟨cd,p3,[],HF.out,rfl,HK.out⟩
 have hP3:=HP2.out.freeD hr hb (fun e=>by omega) (fun e=>by omega) (fun k hk e=>by have:=HRL.out k hk;omega) hK3;have hKc:Kp c w w3:=freeD_old (Nat.le_refl _) HKB.out hK3;have hf3':w3.heap[w.heap.size]? = some (.cells (fnCell ⟨⟨nm,ps,b⟩,pa,pc⟩).toArray 52 (0,0)):=hf3;have hpa:ParAt c.B w3 ⟨⟨nm,ps,b⟩,pa,pc⟩:=But.own hK3 HO2.out (fun k hk=>by
  obtain ⟨e0,cur,e1⟩:=own_tag HO2.out hk;rintro ((e | e | ⟨_,cs',fr',e⟩) | e)
  ·omega
  ·omega
  ·rw [e1] at e;injection e with e;injection e with _ e;exact absurd e (by decide)
  ·have h3:=hf3';obtain ⟨h1,h2⟩:w.heap.size<w2.heap.size/\w2.heap[w.heap.size]? ≠ none:=⟨by rw [<- e];exact lt_of_heap e1,by rw [<- e,e1];simp⟩;exact HOB.out (e ▸ hk))
 have hLF:LiesF pp q w.heap.size c.r ⟨⟨nm,ps,b⟩,pa,pc⟩ w3:=⟨hP3.par,hf3'⟩;have hub:(U 5).ownBlock≠some w.heap.size:=fun e=>by have:=HRL.out _ (.inl ⟨5,⟨by decide,by decide⟩,e⟩);omega
 have hlen:fs.length<=200:=by
  have e:fs.length=g.funs.length:=by rw [<- hP3.isf,List.length_map]
  omega
 have hFR:RR = .ok { g with funs:=g.funs++[⟨nm,ps,b⟩] } s3:=by rw [HRF.out,HF2.out];rfl
 have hS0:=(hLF.below (Below.refl _ w3).drew).held;have hSA:=fun o=>(hLF.below (((Below.refl _ w3).alloc (Nat.le_refl _) o).drew)).held;have g5:=(hP3.below (Below.refl _ w3).drew).gv (i:=5) ⟨by decide,by decide⟩;have g5':=fun o=>(hP3.below (((Below.refl _ w3).alloc (Nat.le_refl _) o).drew)).gv (i:=5) ⟨by decide,by decide⟩;have hnb:((w3.alloc (.cells (fnCell ⟨⟨nm,ps,b⟩,pa,pc⟩).toArray 52)).drew).heap[w3.heap.size]? = some (.cells (fnCell ⟨⟨nm,ps,b⟩,pa,pc⟩).toArray 52 (0,0)):=heap_alloc_new w3 _;have hB3:=hR3.size;have HP3:=Lib.hid hP3;have HKC:=Lib.hid (Kf.of_kp (q:=q) hKc);have HPA:=Lib.hid hpa;have HLF:=Lib.hid hLF;have HUB:=Lib.hid hub;have HFR:=Lib.hid hFR;have HS0:=Lib.hid hS0;have HSA:=Lib.hid hSA;have HNB:=Lib.hid hnb;have HR3:=Lib.hid hR3;clear hP3 hKc hf3 hf3' hpa hLF hub hFR hS0 hSA hnb hK3 hR3 HA3 HF2 HRF HKB HP2 HO2 HAT2 HB HRL
 go_upto_region 17 with fail
 unfold HeldF at HS0 HSA;refine wp_region_held_drew (S:=(fun W=>W.cell? ⟨pp,1,none⟩=some (.pointer (some ⟨q,0,none⟩))/\W.cell? ⟨w.heap.size,0,none⟩=some (.string ⟨nm.text.toArray⟩)/\W.cell? ⟨w.heap.size,1,none⟩=some (.int .i64 nm.at_.line)/\W.cell? ⟨w.heap.size,2,none⟩=some (.int .i64 nm.at_.col)/\W.cell? ⟨w.heap.size,3,none⟩=some (.slice pa ps.length pc)/\W.cell? ⟨w.heap.size,4,none⟩=some (.int .i64 (b:Int)))) (by kernel_rfl) HS0.out (fun hHeld=>?_);refine wpAnyH_take (i:=0) (oi:={ dst:=some 24,op:=Op.move (Operand.tmp 0),type:=77,pos := "decls.go:102", after:=#[],guard:=none }) (v := .pointer (some ⟨pp,0,none⟩)) rfl (by kernel_rfl) (by kernel_rfl) (by kernel_rfl) (fun _ _ _ h=>h) (Or.inl ⟨by rfl,by intro w hSw;(try dsimp only at hSw);go_simp⟩) hHeld ?_
 try simp only [Act.put,List.setIfInBounds_toArray,List.set_cons_zero,List.set_cons_succ]
 refine wpAnyH_take (i:=1) (oi:={ dst:=some 25,op:=Op.nilCheck (Operand.tmp 24),type:=0,pos := "decls.go:102", after:=#[{ on:=0,ground:=Ground.data }],guard:=none }) (v := .pointer (some ⟨pp,0,none⟩)) rfl (by kernel_rfl) (by kernel_rfl) (by kernel_rfl) (fun _ _ _ h=>h) (Or.inl ⟨by rfl,by intro w hSw;(try dsimp only at hSw);go_simp⟩) hHeld ?_
 try simp only [Act.put,List.setIfInBounds_toArray,List.set_cons_zero,List.set_cons_succ]
 refine wpAnyH_take (i:=2) (oi:={ dst:=some 26,op:=Op.fieldAddr 79 (Operand.tmp 25) 1,type:=0,pos := "decls.go:102", after:=#[{ on:=1,ground:=Ground.data }],guard:=none }) (v := .pointer (some ⟨pp,1,none⟩)) rfl (by kernel_rfl) (by kernel_rfl) (by kernel_rfl) (fun _ _ _ h=>h) (Or.inl ⟨by rfl,by intro w hSw;(try dsimp only at hSw);go_simp⟩) hHeld ?_
 try simp only [Act.put,List.setIfInBounds_toArray,List.set_cons_zero,List.set_cons_succ]
 refine wpAnyH_take (i:=3) (oi:={ dst:=some 27,op:=Op.load 25 (Operand.tmp 26),type:=25,pos := "decls.go:102", after:=#[{ on:=2,ground:=Ground.data }],guard:=none }) (v := .pointer (some ⟨q,0,none⟩)) rfl (by kernel_rfl) (by kernel_rfl) (by kernel_rfl) (fun _ _ _ h=>h) (Or.inl ⟨by rfl,by intro w hSw;(try dsimp only at hSw);go_simp⟩) hHeld ?_
 try simp only [Act.put,List.setIfInBounds_toArray,List.set_cons_zero,List.set_cons_succ]
 refine wpAnyH_take (i:=4) (oi:={ dst:=some 28,op:=Op.move (Operand.tmp 0),type:=77,pos := "decls.go:102", after:=#[],guard:=none }) (v := .pointer (some ⟨pp,0,none⟩)) rfl (by kernel_rfl) (by kernel_rfl) (by kernel_rfl) (fun _ _ _ h=>h) (Or.inl ⟨by rfl,by intro w hSw;(try dsimp only at hSw);go_simp⟩) hHeld ?_
 try simp only [Act.put,List.setIfInBounds_toArray,List.set_cons_zero,List.set_cons_succ]
 refine wpAnyH_take (i:=5) (oi:={ dst:=some 29,op:=Op.nilCheck (Operand.tmp 28),type:=0,pos := "decls.go:102", after:=#[{ on:=4,ground:=Ground.data }],guard:=none }) (v := .pointer (some ⟨pp,0,none⟩)) rfl (by kernel_rfl) (by kernel_rfl) (by kernel_rfl) (fun _ _ _ h=>h) (Or.inl ⟨by rfl,by intro w hSw;(try dsimp only at hSw);go_simp⟩) hHeld ?_
 try simp only [Act.put,List.setIfInBounds_toArray,List.set_cons_zero,List.set_cons_succ]
 refine wpAnyH_take (i:=6) (oi:={ dst:=some 30,op:=Op.fieldAddr 79 (Operand.tmp 29) 1,type:=0,pos := "decls.go:102", after:=#[{ on:=5,ground:=Ground.data }],guard:=none }) (v := .pointer (some ⟨pp,1,none⟩)) rfl (by kernel_rfl) (by kernel_rfl) (by kernel_rfl) (fun _ _ _ h=>h) (Or.inl ⟨by rfl,by intro w hSw;(try dsimp only at hSw);go_simp⟩) hHeld ?_
 try simp only [Act.put,List.setIfInBounds_toArray,List.set_cons_zero,List.set_cons_succ]
 refine wpAnyH_take (i:=7) (oi:={ dst:=some 31,op:=Op.load 25 (Operand.tmp 30),type:=25,pos := "decls.go:102", after:=#[{ on:=6,ground:=Ground.data }],guard:=none }) (v := .pointer (some ⟨q,0,none⟩)) rfl (by kernel_rfl) (by kernel_rfl) (by kernel_rfl) (fun _ _ _ h=>h) (Or.inl ⟨by rfl,by intro w hSw;(try dsimp only at hSw);go_simp⟩) hHeld ?_
 try simp only [Act.put,List.setIfInBounds_toArray,List.set_cons_zero,List.set_cons_succ]
 refine wpAnyH_take (i:=8) (oi:={ dst:=some 32,op:=Op.nilCheck (Operand.tmp 31),type:=0,pos := "decls.go:102", after:=#[{ on:=7,ground:=Ground.data }],guard:=none }) (v := .pointer (some ⟨q,0,none⟩)) rfl (by kernel_rfl) (by kernel_rfl) (by kernel_rfl) (fun _ _ _ h=>h) (Or.inl ⟨by rfl,by intro w hSw;(try dsimp only at hSw);go_simp⟩) hHeld ?_
 try simp only [Act.put,List.setIfInBounds_toArray,List.set_cons_zero,List.set_cons_succ]
 refine wpAnyH_take (i:=9) (oi:={ dst:=some 33,op:=Op.fieldAddr 76 (Operand.tmp 32) 5,type:=0,pos := "decls.go:102", after:=#[{ on:=8,ground:=Ground.data }],guard:=none }) (v := .pointer (some ⟨q,5,none⟩)) rfl (by kernel_rfl) (by kernel_rfl) (by kernel_rfl) (fun _ _ _ h=>h) (Or.inl ⟨by rfl,by intro w hSw;(try dsimp only at hSw);go_simp⟩) hHeld ?_
 try simp only [Act.put,List.setIfInBounds_toArray,List.set_cons_zero,List.set_cons_succ]
 refine wpAnyH_take (i:=11) (oi:={ dst:=some 35,op:=Op.load 52 (Operand.tmp 3),type:=52,pos := "decls.go:102", after:=#[],guard:=none }) (v := .agg #[.string ⟨nm.text.toArray⟩,.int .i64 nm.at_.line,.int .i64 nm.at_.col,.slice pa ps.length pc,.int .i64 (b:Int)]) rfl (by kernel_rfl) (by kernel_rfl) (by kernel_rfl) (fun _ _ _ h=>h) (Or.inl ⟨by rfl,by intro w hSw;(try dsimp only at hSw);go_simp⟩) hHeld ?_
 try simp only [Act.put,List.setIfInBounds_toArray,List.set_cons_zero,List.set_cons_succ]
 refine wpAnyH_ready (rs:=[10,12]) (by kernel_rfl) (by simp) ?_;refine AllReadyH.cons (o:={ dst:=some 34,op:=Op.load 74 (Operand.tmp 33),type:=74,pos := "decls.go:102", after:=#[{ on:=9,ground:=Ground.data }],guard:=none }) rfl (fun K hK=>?_) ?_
 ·go_simp
  refine hK.out _ _ HS0.out (fun hHeld=>?_);clear hK K
  try simp only [Act.put,List.setIfInBounds_toArray,List.set_cons_zero,List.set_cons_succ]
  refine wpAnyH_ready (rs:=[12]) (by kernel_rfl) (by simp) ?_;refine AllReadyH.cons (o:={ dst:=some 36,op:=Op.buildSlice 74 1 #[(0,Operand.tmp 35)],type:=74,pos := "decls.go:102", after:=#[{ on:=11,ground:=Ground.data }],guard:=none }) rfl (fun K hK=>?_) AllReadyH.nil
  go_simp
  refine hK.out _ _ (HSA.out _) (fun hHeld=>?_);clear hK K
  try simp only [Act.put,List.setIfInBounds_toArray,List.set_cons_zero,List.set_cons_succ]
  refine wpAnyH_ready (rs:=[13]) (by kernel_rfl) (by simp) ?_;refine AllReadyH.cons (o:={ dst:=some 37,op:=Op.call { callee:=Callee.builtin Builtin.append,args:=#[Operand.tmp 34,Operand.tmp 36],argTypes:=#[74,74] },type:=74,pos := "decls.go:102", after:=#[{ on:=10,ground:=Ground.data },{ on:=12,ground:=Ground.data }],guard:=none }) rfl (fun K hK=>?_) AllReadyH.nil;refine step_append_lies _ (by rfl) (.tmp 34) (.tmp 36) 74 (by rfl) c.B 52 i0 _ 5 64 Tryz.underlying74 HI.out HZ.out HZ1.out HZ2.out rfl (by omega) (U 5) fs.length (fnsCells fs) (by rfl) ((HP3.out.fun_.alloc _).drew) ⟨w3.heap.size,0,none⟩ 1 1 (fnCell ⟨⟨nm,ps,b⟩,pa,pc⟩) (by rfl) (by rfl) (World.news_of_block (cs:=(fnCell ⟨⟨nm,ps,b⟩,pa,pc⟩).toArray) (t:=52) (fr:=(0,0)) HNB.out) (fnCell_one _) (by omega) (by unfold maxLen;omega) (by omega) (by simp;omega) (w3.heap.size+1) (by simp) ?_;intro gg cap w5 hown5 hgrow5 hat5 hlt5;have G:=row_tail_q (l:=5) ⟨by decide,by decide,by decide,by decide⟩ HR3.out HP3.out.fun_ HP3.out.prog HP3.out.qB HP3.out.par hown5 hgrow5;have c5:w5.cell? ⟨q,5,none⟩=some (U 5):=(blk_cell G.1 5).trans rfl;have f5:w5.frozen? ⟨q,5,none⟩=false:=blk_frozen G.1 5;have hL5:=HLF.out.grown HP3.out HUB.out hgrow5;have hS5:=hL5.held;have hS6:=(hL5.set G.1 5 (.slice (some ⟨gg,0,none⟩) (fs.length+1) cap)).held;unfold HeldF at hS5 hS6;refine hK.out _ _ hS5 (fun hHeld=>?_);clear hK K
  try simp only [Act.put,List.setIfInBounds_toArray,List.set_cons_zero,List.set_cons_succ]
  refine wpAnyH_take (i:=14) (oi:={ dst:=some 38,op:=Op.nilCheck (Operand.tmp 27),type:=0,pos := "decls.go:102", after:=#[{ on:=3,ground:=Ground.data },{ on:=0,ground:=Ground.phase },{ on:=1,ground:=Ground.phase },{ on:=2,ground:=Ground.phase },{ on:=3,ground:=Ground.phase },{ on:=4,ground:=Ground.phase },{ on:=5,ground:=Ground.phase },{ on:=6,ground:=Ground.phase },{ on:=7,ground:=Ground.phase },{ on:=8,ground:=Ground.phase },{ on:=9,ground:=Ground.phase },{ on:=10,ground:=Ground.phase },{ on:=11,ground:=Ground.phase },{ on:=12,ground:=Ground.phase },{ on:=13,ground:=Ground.phase }],guard:=none }) (v := .pointer (some ⟨q,0,none⟩)) rfl (by kernel_rfl) (by kernel_rfl) (by kernel_rfl) (fun _ _ _ h=>h) (Or.inl ⟨by rfl,by intro w hSw;(try dsimp only at hSw);go_simp⟩) hHeld ?_
  try simp only [Act.put,List.setIfInBounds_toArray,List.set_cons_zero,List.set_cons_succ]
  refine wpAnyH_take (i:=15) (oi:={ dst:=some 39,op:=Op.fieldAddr 76 (Operand.tmp 38) 5,type:=0,pos := "decls.go:102", after:=#[{ on:=14,ground:=Ground.data },{ on:=0,ground:=Ground.phase },{ on:=1,ground:=Ground.phase },{ on:=2,ground:=Ground.phase },{ on:=3,ground:=Ground.phase },{ on:=4,ground:=Ground.phase },{ on:=5,ground:=Ground.phase },{ on:=6,ground:=Ground.phase },{ on:=7,ground:=Ground.phase },{ on:=8,ground:=Ground.phase },{ on:=9,ground:=Ground.phase },{ on:=10,ground:=Ground.phase },{ on:=11,ground:=Ground.phase },{ on:=12,ground:=Ground.phase },{ on:=13,ground:=Ground.phase }],guard:=none }) (v := .pointer (some ⟨q,5,none⟩)) rfl (by kernel_rfl) (by kernel_rfl) (by kernel_rfl) (fun _ _ _ h=>h) (Or.inl ⟨by rfl,by intro w hSw;(try dsimp only at hSw);go_simp⟩) hHeld ?_
  try simp only [Act.put,List.setIfInBounds_toArray,List.set_cons_zero,List.set_cons_succ]
  refine wpAnyH_ready (rs:=[16]) (by kernel_rfl) (by simp) ?_;refine AllReadyH.cons (o:={ dst:=none,op:=Op.store 74 (Operand.tmp 39) (Operand.tmp 37),type:=0,pos := "decls.go:102", after:=#[{ on:=15,ground:=Ground.data },{ on:=13,ground:=Ground.data },{ on:=13,ground:=Ground.chain },{ on:=0,ground:=Ground.phase },{ on:=1,ground:=Ground.phase },{ on:=2,ground:=Ground.phase },{ on:=3,ground:=Ground.phase },{ on:=4,ground:=Ground.phase },{ on:=5,ground:=Ground.phase },{ on:=6,ground:=Ground.phase },{ on:=7,ground:=Ground.phase },{ on:=8,ground:=Ground.phase },{ on:=9,ground:=Ground.phase },{ on:=10,ground:=Ground.phase },{ on:=11,ground:=Ground.phase },{ on:=12,ground:=Ground.phase },{ on:=13,ground:=Ground.phase }],guard:=none }) rfl (fun K hK=>?_) AllReadyH.nil
  go_simp
  refine hK.out _ _ hS6 (fun hHeld=>?_);clear hK K
  try simp only [Act.put,List.setIfInBounds_toArray,List.set_cons_zero,List.set_cons_succ]
  refine wpAnyH_done (by kernel_rfl) ?_ _;have hv5:(Value.slice (some ⟨gg,0,none⟩) (fs.length+1) cap).ownBlock=(U 5).ownBlock\/∃ g',(Value.slice (some ⟨gg,0,none⟩) (fs.length+1) cap).ownBlock=some g'/\w3.heap.size<=g':=by
   rcases hat5 with e | e
   ·exact .inl e.symm
   ·exact .inr ⟨gg,rfl,by omega⟩
  have HG:=Lib.hid G.2;have HV5:=Lib.hid hv5;clear G hown5 hgrow5 hat5 hlt5 c5 f5 hL5 hS5 hS6 hv5 hHeld
  go_wp2
  go_ret
  obtain ⟨hR6,hown6,hq6,hp6,hB6⟩:=HG.out;exact .inl ⟨_,_,_,_,HFR.out,rfl,hR6,HP3.out.putf hr hb HPA.out (by rw [List.length_append,fnsCells_snoc];exact hown6) hq6 hp6 hB6,HKC.out.trans (freeL_kf2 hB6 HP3.out.fun_)⟩
 ·refine AllReadyH.cons (o:={ dst:=some 36,op:=Op.buildSlice 74 1 #[(0,Operand.tmp 35)],type:=74,pos := "decls.go:102", after:=#[{ on:=11,ground:=Ground.data }],guard:=none }) rfl (fun K hK=>?_) AllReadyH.nil
  go_simp
  refine hK.out _ _ (HSA.out _) (fun hHeld=>?_);clear hK K
  try simp only [Act.put,List.setIfInBounds_toArray,List.set_cons_zero,List.set_cons_succ]
  refine wpAnyH_ready (rs:=[10]) (by kernel_rfl) (by simp) ?_;refine AllReadyH.cons (o:={ dst:=some 34,op:=Op.load 74 (Operand.tmp 33),type:=74,pos := "decls.go:102", after:=#[{ on:=9,ground:=Ground.data }],guard:=none }) rfl (fun K hK=>?_) AllReadyH.nil
  go_simp
  refine hK.out _ _ (HSA.out _) (fun hHeld=>?_);clear hK K
  try simp only [Act.put,List.setIfInBounds_toArray,List.set_cons_zero,List.set_cons_succ]
  refine wpAnyH_ready (rs:=[13]) (by kernel_rfl) (by simp) ?_;refine AllReadyH.cons (o:={ dst:=some 37,op:=Op.call { callee:=Callee.builtin Builtin.append,args:=#[Operand.tmp 34,Operand.tmp 36],argTypes:=#[74,74] },type:=74,pos := "decls.go:102", after:=#[{ on:=10,ground:=Ground.data },{ on:=12,ground:=Ground.data }],guard:=none }) rfl (fun K hK=>?_) AllReadyH.nil;refine step_append_lies _ (by rfl) (.tmp 34) (.tmp 36) 74 (by rfl) c.B 52 i0 _ 5 64 Tryz.underlying74 HI.out HZ.out HZ1.out HZ2.out rfl (by omega) (U 5) fs.length (fnsCells fs) (by rfl) ((HP3.out.fun_.alloc _).drew) ⟨w3.heap.size,0,none⟩ 1 1 (fnCell ⟨⟨nm,ps,b⟩,pa,pc⟩) (by rfl) (by rfl) (World.news_of_block (cs:=(fnCell ⟨⟨nm,ps,b⟩,pa,pc⟩).toArray) (t:=52) (fr:=(0,0)) HNB.out) (fnCell_one _) (by omega) (by unfold maxLen;omega) (by omega) (by simp;omega) (w3.heap.size+1) (by simp) ?_;intro gg cap w5 hown5 hgrow5 hat5 hlt5;have G:=row_tail_q (l:=5) ⟨by decide,by decide,by decide,by decide⟩ HR3.out HP3.out.fun_ HP3.out.prog HP3.out.qB HP3.out.par hown5 hgrow5;have c5:w5.cell? ⟨q,5,none⟩=some (U 5):=(blk_cell G.1 5).trans rfl;have f5:w5.frozen? ⟨q,5,none⟩=false:=blk_frozen G.1 5;have hL5:=HLF.out.grown HP3.out HUB.out hgrow5;have hS5:=hL5.held;have hS6:=(hL5.set G.1 5 (.slice (some ⟨gg,0,none⟩) (fs.length+1) cap)).held;unfold HeldF at hS5 hS6;refine hK.out _ _ hS5 (fun hHeld=>?_);clear hK K
  try simp only [Act.put,List.setIfInBounds_toArray,List.set_cons_zero,List.set_cons_succ]
  refine wpAnyH_take (i:=14) (oi:={ dst:=some 38,op:=Op.nilCheck (Operand.tmp 27),type:=0,pos := "decls.go:102", after:=#[{ on:=3,ground:=Ground.data },{ on:=0,ground:=Ground.phase },{ on:=1,ground:=Ground.phase },{ on:=2,ground:=Ground.phase },{ on:=3,ground:=Ground.phase },{ on:=4,ground:=Ground.phase },{ on:=5,ground:=Ground.phase },{ on:=6,ground:=Ground.phase },{ on:=7,ground:=Ground.phase },{ on:=8,ground:=Ground.phase },{ on:=9,ground:=Ground.phase },{ on:=10,ground:=Ground.phase },{ on:=11,ground:=Ground.phase },{ on:=12,ground:=Ground.phase },{ on:=13,ground:=Ground.phase }],guard:=none }) (v := .pointer (some ⟨q,0,none⟩)) rfl (by kernel_rfl) (by kernel_rfl) (by kernel_rfl) (fun _ _ _ h=>h) (Or.inl ⟨by rfl,by intro w hSw;(try dsimp only at hSw);go_simp⟩) hHeld ?_
  try simp only [Act.put,List.setIfInBounds_toArray,List.set_cons_zero,List.set_cons_succ]
  refine wpAnyH_take (i:=15) (oi:={ dst:=some 39,op:=Op.fieldAddr 76 (Operand.tmp 38) 5,type:=0,pos := "decls.go:102", after:=#[{ on:=14,ground:=Ground.data },{ on:=0,ground:=Ground.phase },{ on:=1,ground:=Ground.phase },{ on:=2,ground:=Ground.phase },{ on:=3,ground:=Ground.phase },{ on:=4,ground:=Ground.phase },{ on:=5,ground:=Ground.phase },{ on:=6,ground:=Ground.phase },{ on:=7,ground:=Ground.phase },{ on:=8,ground:=Ground.phase },{ on:=9,ground:=Ground.phase },{ on:=10,ground:=Ground.phase },{ on:=11,ground:=Ground.phase },{ on:=12,ground:=Ground.phase },{ on:=13,ground:=Ground.phase }],guard:=none }) (v := .pointer (some ⟨q,5,none⟩)) rfl (by kernel_rfl) (by kernel_rfl) (by kernel_rfl) (fun _ _ _ h=>h) (Or.inl ⟨by rfl,by intro w hSw;(try dsimp only at hSw);go_simp⟩) hHeld ?_
  try simp only [Act.put,List.setIfInBounds_toArray,List.set_cons_zero,List.set_cons_succ]
  refine wpAnyH_ready (rs:=[16]) (by kernel_rfl) (by simp) ?_;refine AllReadyH.cons (o:={ dst:=none,op:=Op.store 74 (Operand.tmp 39) (Operand.tmp 37),type:=0,pos := "decls.go:102", after:=#[{ on:=15,ground:=Ground.data },{ on:=13,ground:=Ground.data },{ on:=13,ground:=Ground.chain },{ on:=0,ground:=Ground.phase },{ on:=1,ground:=Ground.phase },{ on:=2,ground:=Ground.phase },{ on:=3,ground:=Ground.phase },{ on:=4,ground:=Ground.phase },{ on:=5,ground:=Ground.phase },{ on:=6,ground:=Ground.phase },{ on:=7,ground:=Ground.phase },{ on:=8,ground:=Ground.phase },{ on:=9,ground:=Ground.phase },{ on:=10,ground:=Ground.phase },{ on:=11,ground:=Ground.phase },{ on:=12,ground:=Ground.phase },{ on:=13,ground:=Ground.phase }],guard:=none }) rfl (fun K hK=>?_) AllReadyH.nil
  go_simp
  refine hK.out _ _ hS6 (fun hHeld=>?_);clear hK K
  try simp only [Act.put,List.setIfInBounds_toArray,List.set_cons_zero,List.set_cons_succ]
  refine wpAnyH_done (by kernel_rfl) ?_ _;have hv5:(Value.slice (some ⟨gg,0,none⟩) (fs.length+1) cap).ownBlock=(U 5).ownBlock\/∃ g',(Value.slice (some ⟨gg,0,none⟩) (fs.length+1) cap).ownBlock=some g'/\w3.heap.size<=g':=by
   rcases hat5 with e | e
   ·exact .inl e.symm
   ·exact .inr ⟨gg,rfl,by omega⟩
  have HG:=Lib.hid G.2;have HV5:=Lib.hid hv5;clear G hown5 hgrow5 hat5 hlt5 c5 f5 hL5 hS5 hS6 hv5 hHeld
  go_wp2
  go_ret
  obtain ⟨hR6,hown6,hq6,hp6,hB6⟩:=HG.out;exact .inl ⟨_,_,_,_,HFR.out,rfl,hR6,HP3.out.putf hr hb HPA.out (by rw [List.length_append,fnsCells_snoc];exact hown6) hq6 hp6 hB6,HKC.out.trans (freeL_kf2 hB6 HP3.out.fun_)⟩
end Go.Proofs.YtdfpkmfeldoamaaGreatDoor
