/- A part of the proof: A part of the proof. -/
import Derived.Test.YtdfpkmfeldoamaaGreatDoorMains2
import Derived.Test.YtdfpkmfeldoamaaGreatDoorTab2
import Derived.Test.YtdfpkmfeldoamaaGreatDoorFunW
set_option linter.unusedSimpArgs false
set_option linter.unusedVariables false
set_option maxRecDepth 100000
set_option maxHeartbeats 8000000
namespace Go.Proofs.YtdfpkmfeldoamaaGreatDoor
section
open Go.RowKit Tn Lx
attribute [local go_sem] tok_field0 tok_field1 tok_field3
def mn5F (ts:List Tok)(n:Nat)(g:Pf.St)(s:Ex.S):Pg.R Pf.St:=if (g.mt==Pg.wMain)=true then .bad 8 (Ex.at_ ts s) Pg.wMain else (Pg.lift (Pg.mainF ts n s)).bind fun i s1 => .ok { g with mt:=Pg.wMain,mp:=Ex.at_ ts s,mb:=i } s1
theorem Pm5.main {c:Cx}{X:Nat->Prop}{q pp:Nat}{U:Nat->Value}{fs:List FnV}{w:World}{g:Pf.St}{s:Ex.S}(h:Pm5 c q pp U fs w g)(hR:Rd c X w s)(p:Pos)(i:Nat):
  Pm5 c q pp U fs (((((w.setCell ⟨q,6,none⟩ (.string ⟨Pg.wMain.toArray⟩)).setCell ⟨q,7,none⟩ (.int .i64 p.line)).setCell ⟨q,8,none⟩ (.int .i64 p.col)).setCell ⟨q,9,none⟩ (.slice none 0 0)).setCell ⟨q,10,none⟩ (.int .i64 (i:Int))) { g with mt:=Pg.wMain,mp:=p,mb:=i } /\
  Rd c X (((((w.setCell ⟨q,6,none⟩ (.string ⟨Pg.wMain.toArray⟩)).setCell ⟨q,7,none⟩ (.int .i64 p.line)).setCell ⟨q,8,none⟩ (.int .i64 p.col)).setCell ⟨q,9,none⟩ (.slice none 0 0)).setCell ⟨q,10,none⟩ (.int .i64 (i:Int))) s /\
  Kf c q w (((((w.setCell ⟨q,6,none⟩ (.string ⟨Pg.wMain.toArray⟩)).setCell ⟨q,7,none⟩ (.int .i64 p.line)).setCell ⟨q,8,none⟩ (.int .i64 p.col)).setCell ⟨q,9,none⟩ (.slice none 0 0)).setCell ⟨q,10,none⟩ (.int .i64 (i:Int))):=by
 have hr:=hR.rlt;have hb:=hR.blt;have hg:=hR.glt;have hqB:=h.qB;have hS:But (fun k=>k=q) w (((((w.setCell ⟨q,6,none⟩ (.string ⟨Pg.wMain.toArray⟩)).setCell ⟨q,7,none⟩ (.int .i64 p.line)).setCell ⟨q,8,none⟩ (.int .i64 p.col)).setCell ⟨q,9,none⟩ (.slice none 0 0)).setCell ⟨q,10,none⟩ (.int .i64 (i:Int))) :=
  ((((But.setCell (p:=fun k=>k=q) w rfl 6 _).trans (But.setCell (p:=fun k=>k=q) _ rfl 7 _)).trans (But.setCell (p:=fun k=>k=q) _ rfl 8 _)).trans (But.setCell (p:=fun k=>k=q) _ rfl 9 _)).trans (But.setCell (p:=fun k=>k=q) _ rfl 10 _)
 refine ⟨⟨hS.heap h.par (fun e=>h.qp e.symm), ?_,fun j hj=>hS.own (h.dec j hj) (fun k hk e=>own_none (h.dec j hj) h.prog (by decide) (by rw [<- e];exact hk)),hS.own h.fun_ (fun k hk e=>own_none h.fun_ h.prog (by decide) (by rw [<- e];exact hk)),h.isf,fun x hx=>hS.own (h.pars x hx) (fun k hk e=>own_none (h.pars x hx) h.prog (by decide) (by rw [<- e];exact hk)),h.apart,h.ppB,h.qB⟩, ?_, ?_⟩
 ·exact (blk_set (blk_set (blk_set (blk_set (blk_set h.prog 6 _) 7 _) 8 _) 9 _) 10 _).trans rfl
 ·exact hR.but hS (fun e=>by omega) (fun e=>by omega) (fun e=>by omega) (fun k e => .inr (by subst e;exact ⟨_,_,_,h.prog,by decide,by decide⟩))
 ·exact hS.mono fun k _ e => .inr (.inr (.inl e))
theorem main5_any (c:Cx)(X:Nat->Prop)(w:World)(s:Ex.S)(n:Nat)(hn:n<=900000)(q pp:Nat)(U:Nat->Value)(fs:List FnV)(g:Pf.St)(h:Rd c X w s)(hP:Pm5 c q pp U fs w g)(hg:ErrT w)(hG:0<c.r/\0<c.bt/\0<c.B)(hne:mn5F c.ts n g s ≠ .out):
  Calls Tryz.prog 84 #[.pointer (some ⟨pp,0,none⟩)] w (ReadF c X w q pp (mn5F c.ts n g s)):=by
 have hr:=h.rlt;have hb:=h.blt;have hgl:=h.glt;have hsz:=h.size;have hpB:=hP.ppB;have hqB:=hP.qB;have hH:=hasMain5_any c w q pp U fs g hP;have hE:mn5F c.ts n g s=if (g.mt==Pg.wMain)=true then .bad 8 (Ex.at_ c.ts s) Pg.wMain else (Pg.lift (Pg.mainF c.ts n s)).bind fun i s1 => .ok { g with mt:=Pg.wMain,mp:=Ex.at_ c.ts s,mb:=i } s1:=rfl
 generalize mn5F c.ts n g s=R at *
 cases hm:(g.mt==Pg.wMain) with
 | true =>
  rw [hm] at hH;rw [hm,if_pos rfl] at hE;have hW:=wrongMain5_any c X w s q pp 8 U fs g h hP hg;generalize Ex.at_ c.ts s=p at *;have HH:=Lib.hid hH;have HE:=Lib.hid hE;have HW:=Lib.hid hW;clear hH hE hW h hP hg hne hm
  go_enter Tryz.func84,Tryz.ntmps84
  go_wp2_with fail
  refine HH.out.mono ?_;rintro e w1 ⟨rfl,rfl⟩
  go_wp2_with fail
  refine HW.out.mono ?_;rintro e w2 ⟨rfl,hb2⟩;have HB:=Lib.hid (Kf.of_kp (q:=q) (Kp.of_below (c:=c) hb2));clear hb2;unfold dvalN
  go_wp2
  go_ret
  exact .inr ⟨8,p,Pg.wMain,HE.out,rfl,HB.out⟩
 | false =>
  rw [hm] at hH;rw [hm,if_neg (by decide)] at hE;have p0:=hP.p0;have hN:=next_any c X w s h;have hat:Ex.at_ c.ts s=(Ex.tk c.ts s.p).at_:=rfl;generalize Ex.tk c.ts s.p=t at *;generalize Ex.at_ c.ts s=p at *;have HH:=Lib.hid hH;have HE:=Lib.hid hE;have HN:=Lib.hid hN;have HR:=Lib.hid h;have HP:=Lib.hid hP;have HG:=Lib.hid hg;have HNE:=Lib.hid hne;have HAT:=Lib.hid hat;have HRL:=Lib.hid (fun k (hk:Rows5 U fs k)=>hP.rlt hk);clear hH hE hN h hP hg hne hm hat
  go_enter Tryz.func84,Tryz.ntmps84
  go_wp2_with fail
  refine HH.out.mono ?_;rintro e w0 ⟨rfl,rfl⟩
  go_wp2_with fail
  refine HN.out.mono ?_;rintro e w1 ⟨rfl,hb1⟩;have hs1:=hb1.size;obtain ⟨V,hV⟩:∃ V,(w1.alloc (.cells #[.string ⟨#[109,97,105,110]⟩,.int .i64 t.at_.line,.int .i64 t.at_.col,.slice none 0 0,.int .i64 0] 52)).alloc (.cells #[.string ⟨#[109,97,105,110]⟩] 9)=V:=⟨_,rfl⟩;have hbV:Below w1.heap.size w1 V:=by rw [<- hV];exact ((Below.refl _ w1).alloc (Nat.le_refl _) _).alloc (by simp) _
  have kf:V.heap[w1.heap.size]? = some (.cells #[.string ⟨#[109,97,105,110]⟩,.int .i64 t.at_.line,.int .i64 t.at_.col,.slice none 0 0,.int .i64 0] 52 (0,0)):=by rw [<- hV];exact blk_alloc (blk_new w1 _) _
  have ks:V.heap[w1.heap.size+1]? = some (.cells #[.string ⟨#[109,97,105,110]⟩] 9 (0,0)):=by
   rw [<- hV];have:=blk_new (w1.alloc (.cells #[.string ⟨#[109,97,105,110]⟩,.int .i64 t.at_.line,.int .i64 t.at_.col,.slice none 0 0,.int .i64 0] 52)) (.cells #[.string ⟨#[109,97,105,110]⟩] 9);rwa [World.size_alloc] at this
  have hbW:Below w.heap.size w V:=hb1.trans (hbV.mono hb1.size);have hRV:=HR.out.below hbW;have hPV:=HP.out.below hbW;have p01:∀ o,(w1.alloc o).cell? ⟨pp,0,none⟩=some (.pointer (some ⟨c.r,0,none⟩)):=fun o=>(World.cell?_alloc_lt _ _ _ (World.block_lt_of_cell? _ _ (HP.out.below hb1).p0)).trans (HP.out.below hb1).p0;have hgV:ErrT V:=HG.out.below hbW HG.out.lt;have hT:=take_any c X V s Pg.wMain (w1.heap.size+1) hRV ((blk_cell ks 0).trans rfl);have HV:=Lib.hid hV;have HT:=Lib.hid hT;have HPV:=Lib.hid hPV;have HGV:=Lib.hid hgV;have HBW:=Lib.hid hbW;have HKF:=Lib.hid kf;clear hV hT hPV hgV hbW hbV kf ks hRV hb1 HH HN HR HP HG p0;unfold tval
  go_wp2_with fail
  rw [HV.out];refine HT.out.mono ?_;rintro e w2 (⟨s2,hE2,rfl,hR2,hK2⟩ | ⟨cd,p2,hE2,rfl,hK2⟩)
  rotate_left
  ·have hF:R = .bad cd p2 []:=by rw [HE.out,Pg.mainF,hE2];rfl
   have HF:=Lib.hid hF;have HK:=Lib.hid (Kf.of_kp (q:=q) (Below.then_kp (c:=c) HBW.out hK2));clear hF hK2 hE2;unfold dval
   go_wp2
   go_ret
   exact .inr ⟨cd,p2,[],HF.out,rfl,HK.out⟩
  have hP2:=HPV.out.kp hr hb hK2;have kf2:=hK2.heap HKF.out (by omega) (by omega) (fun e=>absurd e (by decide));have hg2:ErrT w2:=(World.cell?_of_block (hK2.old (k:=0) HGV.out.lt hG.2.2 (by omega) (by omega))).trans HGV.out;have hF:R=(Pg.lift (Pg.bodyF c.ts n s2)).bind fun i s1 => .ok { g with mt:=Pg.wMain,mp:=p,mb:=i } s1:=by rw [HE.out,Pg.mainF,hE2];rfl
  have hA:=body_any c X w2 s2 n hn pp w1.heap.size _ _ hR2 hP2.par kf2 (by simp) (by omega) hpB hg2 hG (fun e=>HNE.out (by rw [hF,e];rfl));have hP2q:w1.heap.size≠q:=fun e=>by
   have:=lt_of_heap HPV.out.prog;have h1:=HKF.out;rw [e,HPV.out.prog] at h1;injection h1 with h1;injection h1 with _ h1;exact absurd h1 (by decide)
  have hP2p:w1.heap.size≠pp:=fun e=>by
   have h1:=HKF.out;rw [e,HPV.out.par] at h1;injection h1 with h1;injection h1 with _ h1;exact absurd h1 (by decide)
  have hP2r:∀ k,Rows5 U fs k->k≠w1.heap.size:=fun k hk e=>by
   have:=HRL.out k hk;omega
  generalize Pg.bodyF c.ts n s2=RB at *;have HF:=Lib.hid hF;have HA:=Lib.hid hA;have HP2:=Lib.hid hP2;have HK2:=Lib.hid (Below.then_kp (c:=c) HBW.out hK2);clear hF hA hP2 kf2 hg2 hK2 hE2 hR2 HE HT HV HPV HGV HNE
  go_wp2_with fail
  refine HA.out.mono ?_;rintro e w3 (⟨i,s3,rfl,rfl,hR3,hB3,kf3⟩ | ⟨cd,p3,rfl,rfl,hB3⟩)
  rotate_left
  ·have HK:=Lib.hid (Kf.of_kp (q:=q) (freeD_old (by omega) HK2.out hB3));clear hB3;unfold dval
   go_wp2
   go_ret
   exact .inr ⟨cd,p3,[],HF.out,rfl,HK.out⟩
  have hP3:=HP2.out.freeD hr hb hP2p hP2q hP2r hB3;have q1:=hP3.p1;have z0:w3.cell? ⟨w1.heap.size,0,none⟩=some (.string ⟨#[109,97,105,110]⟩):=(blk_cell kf3 0).trans rfl;have z1:w3.cell? ⟨w1.heap.size,1,none⟩=some (.int .i64 t.at_.line):=(blk_cell kf3 1).trans rfl;have z2:w3.cell? ⟨w1.heap.size,2,none⟩=some (.int .i64 t.at_.col):=(blk_cell kf3 2).trans rfl;have z3:w3.cell? ⟨w1.heap.size,3,none⟩=some (.slice none 0 0):=(blk_cell kf3 3).trans rfl;have z4:w3.cell? ⟨w1.heap.size,4,none⟩=some (.int .i64 (i:Int)):=(blk_cell kf3 4).trans rfl;have c6:=hP3.g6;have c7:w3.cell? ⟨q,7,none⟩=some (.int .i64 g.mp.line):=(blk_cell hP3.prog 7).trans rfl;have c8:w3.cell? ⟨q,8,none⟩=some (.int .i64 g.mp.col):=(blk_cell hP3.prog 8).trans rfl;have c9:w3.cell? ⟨q,9,none⟩=some (.slice none 0 0):=(blk_cell hP3.prog 9).trans rfl;have c10:w3.cell? ⟨q,10,none⟩=some (.int .i64 g.mb):=(blk_cell hP3.prog 10).trans rfl;have cf:=hP3.gf;have hM:=hP3.main hR3 t.at_ i;have HM:=Lib.hid hM;have HK:=Lib.hid ((Kf.of_kp (q:=q) (freeD_old (by omega) HK2.out hB3)).trans hM.2.2);clear hM hP3 hR3 hB3 kf3 HA HP2 HK2 HKF p01
  go_upto_region 10 with fail
  go_region
  all_goals
   go_wp2
   go_ret
   exact .inl ⟨_,_,_,_,HF.out,rfl,HM.out.2.1.drew,by rw [HAT.out];exact HM.out.1.below (Below.refl _ _).drew,HK.out.trans (Kf.of_kp (Kp.of_below (Below.refl _ _).drew))⟩
end
section
open Go.RowKit Tn Lx
attribute [local go_sem] tok_field0 tok_field1 tok_field3
theorem Kr.then_below {c:Cx}{q:Nat}{a b d:World}(h:Kr c q a b)(k:Below b.heap.size b d):Kr c q a d:=h.trans (Kr.of_kp (Kp.of_below k))
theorem ErrT.kr {c:Cx}{q:Nat}{w w':World}(h:ErrT w)(k:Kr c q w w')(hG:0<c.r/\0<c.bt/\0<c.B)(hq:0<q):ErrT w' :=
 (World.cell?_of_block (k.block 0 h.lt (by
  rintro (e | e | e | ⟨e,_⟩) <;> omega))).trans h
end
section
open Go.RowKit Tn Lx
attribute [local go_sem] tok_field0 tok_field1 tok_field3
def isWord (t:B):Bool:=t==Pg.wInput || t==Pf.wGlo || t==Pf.wCha || t==Pg.wExn || t==Pf.wFun || t==Pg.wMain
structure Few (g:Pf.St)(k:Nat):Prop where
 ins:g.ins.length<=k
 glo:g.glo.length<=k
 cha:g.cha.length<=k
 exns:g.exns.length<=k
 funs:g.funs.length<=k
theorem one5_no {ts:List Tok}{n:Nat}{g:Pf.St}{s:Ex.S}(h:isWord (Ex.tk ts s.p).text=false):Pf.one ts n g s = .bad 5 (Ex.at_ ts s) []:=by
 simp only [isWord,Bool.or_eq_false_iff] at h;obtain ⟨⟨⟨⟨⟨h1,h2⟩,h3⟩,h4⟩,h5⟩,h6⟩:=h;simp only [Pf.one,h1,h2,h3,h4,h5,h6,Bool.false_eq_true,if_false]
theorem reads5_any (c:Cx)(X:Nat->Prop)(n:Nat)(hn:n<=900000)(q pp bm:Nat)(g:Pf.St)(s:Ex.S)(hG:0<c.r/\0<c.bt/\0<c.B)(hI:∀ p,0<=(Ex.tk c.ts p).int/\(Ex.tk c.ts p).int<1000000000000000000)(hf:Few g 200)(hne:Pf.one c.ts n g s ≠ .out)(hw:isWord (Ex.tk c.ts s.p).text=true):
  ∃ fid,(∀ args w,(callFunc fid args).run Tryz.prog w = .ok (.enter fid args) w)/\(∀ W:World,W.heap[bm]? = some (.map tabE 6)->(Instr.lookup 114 (.map (some bm)) (.string ⟨(Ex.tk c.ts s.p).text.toArray⟩) true).run Tryz.prog W = .ok (.tuple #[.func (.func fid) #[] #[],.bool true]) W) /\
   (∀ W U fs,Rd c X W s->Pm5 c q pp U fs W g->ErrT W->Calls Tryz.prog fid #[.pointer (some ⟨pp,0,none⟩)] W (ReadF c X W q pp (Pf.one c.ts n g s))):=by
 by_cases x0:((Ex.tk c.ts s.p).text==Pg.wInput)=true
 ·have he:Pf.one c.ts n g s=kindF (Pg.declP c.ts Pg.wInput s) 1 g:=by rw [Pf.one,if_pos x0];rfl
  have ht:(Ex.tk c.ts s.p).text=Pg.wInput:=by simpa using x0
  rw [he,ht];exact ⟨76,enters_of Tryz.func76 (by kernel_rfl) rfl,fun W hb=>look_inp hb,fun W U fs hR hP _=>inp5_any c X W s q pp U fs g hR hP hf.ins⟩
 by_cases x1:((Ex.tk c.ts s.p).text==Pf.wGlo)=true
 ·have he:Pf.one c.ts n g s=kindF (Pf.declG c.ts s) 2 g:=by rw [Pf.one,if_neg x0,if_pos x1];rfl
  have ht:(Ex.tk c.ts s.p).text=Pf.wGlo:=by simpa using x1
  rw [he,ht];exact ⟨79,enters_of Tryz.func79 (by kernel_rfl) rfl,fun W hb=>look_glo hb,fun W U fs hR hP _=>glo5_any c X W s q pp U fs g hR hP hf.glo hI⟩
 by_cases x2:((Ex.tk c.ts s.p).text==Pf.wCha)=true
 ·have he:Pf.one c.ts n g s=kindF (Pg.declP c.ts Pf.wCha s) 3 g:=by rw [Pf.one,if_neg x0,if_neg x1,if_pos x2];rfl
  have ht:(Ex.tk c.ts s.p).text=Pf.wCha:=by simpa using x2
  rw [he,ht];exact ⟨81,enters_of Tryz.func81 (by kernel_rfl) rfl,fun W hb=>look_cha hb,fun W U fs hR hP _=>cha5_any c X W s q pp U fs g hR hP hf.cha⟩
 by_cases x3:((Ex.tk c.ts s.p).text==Pg.wExn)=true
 ·have he:Pf.one c.ts n g s=kindF (Pg.decl0 c.ts Pg.wExn s) 4 g:=by rw [Pf.one,if_neg x0,if_neg x1,if_neg x2,if_pos x3];rfl
  have ht:(Ex.tk c.ts s.p).text=Pg.wExn:=by simpa using x3
  rw [he,ht];exact ⟨82,enters_of Tryz.func82 (by kernel_rfl) rfl,fun W hb=>look_exn hb,fun W U fs hR hP _=>exn5_any c X W s q pp U fs g hR hP hf.exns⟩
 by_cases x4:((Ex.tk c.ts s.p).text==Pf.wFun)=true
 ·have he:Pf.one c.ts n g s=fun5F c.ts n g s:=by rw [Pf.one,if_neg x0,if_neg x1,if_neg x2,if_neg x3,if_pos x4];rfl
  have ht:(Ex.tk c.ts s.p).text=Pf.wFun:=by simpa using x4
  rw [he] at hne ⊢;rw [ht];exact ⟨83,enters_of Tryz.func83 (by kernel_rfl) rfl,fun W hb=>look_fun hb,fun W U fs hR hP hg=>fun5_any c X W s n hn q pp U fs g hR hP hg hG hf.funs (fun e=>hne (by rw [fun5F,e];rfl))⟩
 by_cases x5:((Ex.tk c.ts s.p).text==Pg.wMain)=true
 ·have he:Pf.one c.ts n g s=mn5F c.ts n g s:=by rw [Pf.one,if_neg x0,if_neg x1,if_neg x2,if_neg x3,if_neg x4,if_pos x5];rfl
  have ht:(Ex.tk c.ts s.p).text=Pg.wMain:=by simpa using x5
  rw [he] at hne ⊢;rw [ht];exact ⟨84,enters_of Tryz.func84 (by kernel_rfl) rfl,fun W hb=>look_main hb,fun W U fs hR hP hg=>main5_any c X W s n hn q pp U fs g hR hP hg hG hne⟩
 ·exfalso
  simp only [isWord,Bool.or_eq_true] at hw
  rcases hw with ((((h | h) | h) | h) | h) | h
  ·exact x0 h
  ·exact x1 h
  ·exact x2 h
  ·exact x3 h
  ·exact x4 h
  ·exact x5 h
theorem one5_few (ts:List Tok)(n k:Nat)(g g':Pf.St)(s s':Ex.S)(h:Pf.one ts n g s = .ok g' s')(hf:Few g k):Few g' (k+1):=by
 have up:∀ {a b:Nat},a<=k->b<=a+1->b<=k+1:=fun h1 h2=>by omega
 obtain ⟨f1,f2,f3,f4,f5⟩:=hf;have lk:∀ {α:Type} {R:Ex.Res α} {f:α->Ex.S->Pg.R Pf.St},((Pg.lift R).bind f) = .ok g' s'->∃ d s1,f d s1 = .ok g' s':=fun {α R f} e=>by
  cases R with
  | ok d s1=>exact ⟨d,s1,e⟩
  | bad c p=>cases e
  | out=>cases e
 unfold Pf.one at h
 split at h
 ·obtain ⟨d,s1,e⟩:=lk h;injection e with e;subst e;exact ⟨by simp;omega,by simp only;omega,by simp only;omega,by simp only;omega,by simp only;omega⟩
 split at h
 ·obtain ⟨d,s1,e⟩:=lk h;injection e with e;subst e;exact ⟨by simp only;omega,by simp;omega,by simp only;omega,by simp only;omega,by simp only;omega⟩
 split at h
 ·obtain ⟨d,s1,e⟩:=lk h;injection e with e;subst e;exact ⟨by simp only;omega,by simp only;omega,by simp;omega,by simp only;omega,by simp only;omega⟩
 split at h
 ·obtain ⟨d,s1,e⟩:=lk h;injection e with e;subst e;exact ⟨by simp only;omega,by simp only;omega,by simp only;omega,by simp;omega,by simp only;omega⟩
 split at h
 ·obtain ⟨d,s1,e⟩:=lk h;injection e with e;subst e;exact ⟨by simp only;omega,by simp only;omega,by simp only;omega,by simp only;omega,by simp;omega⟩
 split at h
 ·split at h
  ·cases h
  ·obtain ⟨d,s1,e⟩:=lk h;injection e with e;subst e;exact ⟨by simp only;omega,by simp only;omega,by simp only;omega,by simp only;omega,by simp only;omega⟩
 ·cases h
structure AllSt5 (c:Cx)(X:Nat->Prop)(w:World)(q pp bm n:Nat)(R:Pg.R Pf.St)(k cnt:Nat)(g:Pf.St)(s:Ex.S)(U:Nat->Value)(fs:List FnV)(wr:World):Prop where
 rd:Rd c X wr s
 pm:Pm5 c q pp U fs wr g
 kr:Kf c q w wr
 tab:wr.heap[bm]? = some (.map tabE 6)
 fin:Pf.all c.ts n k cnt g s=R
 few:Few g cnt
 le:cnt<=100
theorem ErrT.kf {c:Cx}{q:Nat}{w w':World}(h:ErrT w)(k:Kf c q w w')(hG:0<c.r/\0<c.bt/\0<c.B)(hq:0<q):ErrT w' :=
 (World.cell?_of_block (k.block 0 h.lt (by
  rintro (e | e | e | ⟨e,_⟩) <;> omega))).trans h
theorem pall5_any (c:Cx)(X:Nat->Prop)(w:World)(s:Ex.S)(n:Nat)(hn:n<=900000)(q pp f:Nat)(U:Nat->Value)(fs:List FnV)(g:Pf.St)(h:Rd c X w s)(hP:Pm5 c q pp U fs w g)(hg:ErrT w)(hG:0<c.r/\0<c.bt/\0<c.B)
  (hI:∀ p,0<=(Ex.tk c.ts p).int/\(Ex.tk c.ts p).int<1000000000000000000) (hne:Pf.all c.ts n f 0 g s ≠ .out) (hl:Few g 0):
  Calls Tryz.prog 18 #[.pointer (some ⟨pp,0,none⟩)] w (ReadF c X w q pp (Pf.all c.ts n f 0 g s)):=by
 have hr:=h.rlt;have hb:=h.blt;have hqB:=hP.qB;have hsz:=h.size;have hql:=lt_of_heap hP.prog;have hbW:Below w.heap.size w (w.alloc (.map tabE 6)):=(Below.refl _ w).alloc (Nat.le_refl _) _;have hst0:AllSt5 c X w q pp w.heap.size n (Pf.all c.ts n f 0 g s) f 0 g s U fs (w.alloc (.map tabE 6)) :=
  ⟨h.below hbW,hP.below hbW,Kf.of_kp (Kp.of_below hbW),blk_new_map w,rfl,hl,by omega⟩
 generalize Pf.all c.ts n f 0 g s=R at *;have HST0:=Lib.hid hst0;have HNE:=Lib.hid hne;have HG:=Lib.hid hg;clear hst0 hne hg h hP hl hbW
 go_enter Tryz.func18,Tryz.ntmps18
 go_wp2_with fail
 refine (decls_any w).mono ?_;rintro e w1 ⟨rfl,rfl⟩
 go_wp2_with fail
 go_loopg [4] f (fun k nv wr=>∃ (cnt:Nat) (g':Pf.St) (s':Ex.S) (u1:Nat->Value) (u4:List FnV),nv = .int .i64 (cnt:Int)/\AllSt5 c X w q pp w.heap.size n R k cnt g' s' u1 u4 wr)
 case atStart=>exact ⟨0,g,s,U,fs,rfl,HST0.out⟩
 case round =>
  obtain ⟨cnt,g',s',u1,u4,rfl,hst⟩:=hrel;obtain ⟨k,rfl⟩:∃ k,gk=k+1:=by
   cases gk with
   | zero=>exact absurd hst.fin.symm (by rw [Pf.all];exact HNE.out)
   | succ k=>exact ⟨k,rfl⟩
  have hfin:=hst.fin;rw [Pf.all] at hfin;have p0:=hst.pm.p0;have hN:=next_any c X wr s' hst.rd;have hcl:=hst.le;have HST:=Lib.hid hst;clear hst HST0
  cases hk:((Ex.tk c.ts s'.p).kind==0) with
  | true =>
   rw [hk,if_pos rfl] at hfin;have hk2:((Ex.tk c.ts s'.p).kind != 0)=false:=by simpa using hk
   generalize Ex.tk c.ts s'.p=t at *;have HN:=Lib.hid hN;have HFIN:=Lib.hid hfin;clear hN hfin hk
   go_wp2_with fail
   refine HN.out.mono ?_;rintro e w2 ⟨rfl,hb2⟩;have hP2:=HST.out.pm.below hb2;have hK2:=HST.out.kr.then_below hb2;have hR2:=HST.out.rd.below hb2;have hH:=hasMain5_any c w2 q pp u1 u4 g' hP2;have hW:=wrongMain5_any c X w2 s' q pp 16 u1 u4 g' hR2 hP2 (HG.out.kf hK2 hG (by omega));have HK2:=Lib.hid hK2;have HR2:=Lib.hid hR2;have HP2:=Lib.hid hP2;have HW:=Lib.hid hW;clear hK2 hR2 hP2 hW hb2 HST HN;unfold tval
   cases hm:(g'.mt==Pg.wMain) with
   | true =>
    rw [hm] at hH;have HH:=Lib.hid hH;have HM:=Lib.hid hm;clear hH hm
    go_wp2_with fail
    refine HH.out.mono ?_;rintro e w3 ⟨rfl,rfl⟩
    go_wp2
    go_ret
    exact .inl ⟨g',s',u1,u4,by rw [<- HFIN.out,if_pos HM.out],rfl,HR2.out,HP2.out,HK2.out⟩
   | false =>
    rw [hm] at hH;have HH:=Lib.hid hH;have HM:=Lib.hid hm;clear hH hm
    go_wp2_with fail
    refine HH.out.mono ?_;rintro e w3 ⟨rfl,rfl⟩
    go_wp2_with fail
    refine HW.out.mono ?_;rintro e w4 ⟨rfl,hb4⟩;have HK4:=Lib.hid (HK2.out.then_below hb4);clear hb4;unfold dvalN
    go_wp2
    go_ret
    exact .inr ⟨16,_,Pg.wMain,by rw [<- HFIN.out,if_neg (by rw [HM.out];decide)],rfl,HK4.out⟩
  | false =>
   rw [hk,if_neg (by decide)] at hfin;have hk2:((Ex.tk c.ts s'.p).kind != 0)=true:=by simpa using hk
   by_cases h100:cnt=100
   ·rw [if_pos h100] at hfin;have hW:=fun w1 (hR:Rd c X w1 s')=>wrong_at c X w1 s' 6 hR;generalize Ex.tk c.ts s'.p=t at *;have HN:=Lib.hid hN;have HFIN:=Lib.hid hfin;have HW:=Lib.hid hW;clear hN hfin hk hW;subst h100
    go_wp2_with fail
    refine HN.out.mono ?_;rintro e w2 ⟨rfl,hb2⟩;have p02:=(HST.out.pm.below hb2).p0;have HR2:=Lib.hid (HST.out.rd.below hb2);have HK2:=Lib.hid (HST.out.kr.then_below hb2);clear hb2 HN;unfold tval
    go_wp2_with fail
    refine (HW.out _ HR2.out).mono ?_;rintro e w3 ⟨rfl,hb3⟩;have HK3:=Lib.hid (HK2.out.then_below hb3);clear hb3;unfold dval
    go_wp2
    go_ret
    exact .inr ⟨6,_,[],HFIN.out.symm,rfl,HK3.out⟩
   ·rw [if_neg h100] at hfin;have h100':((cnt:Int)==100)=false:=by
     have:(cnt:Int)≠100:=by omega
     simpa using this
    have hone:Pf.one c.ts n g' s' ≠ .out:=fun e=>HNE.out (by rw [<- hfin,e];rfl)
    cases hwd:isWord (Ex.tk c.ts s'.p).text with
    | false =>
     have hR5:R = .bad 5 (Ex.at_ c.ts s') []:=by rw [<- hfin,one5_no hwd];rfl
     simp only [isWord,Bool.or_eq_false_iff] at hwd;obtain ⟨⟨⟨⟨⟨e1,e2⟩,e3⟩,e4⟩,e5⟩,e6⟩:=hwd;have hlk:=fun (W:World) (hb:W.heap[w.heap.size]? = some (.map tabE 6))=>look_none (W:=W) hb e1 e2 e3 e4 e5 e6;have hN2:=fun w1 (hR:Rd c X w1 s')=>next_any c X w1 s' hR;have hW:=fun w1 (hR:Rd c X w1 s')=>wrong_at c X w1 s' 5 hR;generalize Ex.tk c.ts s'.p=t at *;have HN:=Lib.hid hN;have HR5:=Lib.hid hR5;have HN2:=Lib.hid hN2;have HLK:=Lib.hid hlk;have HW:=Lib.hid hW;clear hN hfin hk hN2 hlk hW hone hR5 e1 e2 e3 e4 e5 e6
     go_wp2_with fail
     refine HN.out.mono ?_;rintro e w2 ⟨rfl,hb2⟩;have p02:=(HST.out.pm.below hb2).p0;have HR2:=Lib.hid (HST.out.rd.below hb2);have HK2:=Lib.hid (HST.out.kr.then_below hb2);have HP2:=Lib.hid (HST.out.pm.below hb2);have ht2:w2.heap[w.heap.size]? = some (.map tabE 6):=(hb2.block _ (lt_of_heap HST.out.tab)).trans HST.out.tab;have HT2:=Lib.hid ht2;clear hb2 HN ht2 p0;unfold tval
     go_wp2_with fail
     refine (HN2.out _ HR2.out).mono ?_;rintro e w3 ⟨rfl,hb3⟩;have hR3:=HR2.out.below hb3;have hK3:=HK2.out.then_below hb3;have hP3:=HP2.out.below hb3;have ht3:w3.heap[w.heap.size]? = some (.map tabE 6):=(hb3.block _ (lt_of_heap HT2.out)).trans HT2.out;have lk:=HLK.out w3 ht3;have p03:=hP3.p0;have HW3:=Lib.hid (HW.out w3 hR3);have HK3:=Lib.hid hK3;clear hb3 hR3 hK3 hP3 ht3 HR2 HK2 HP2 HT2 HN2 HLK p02 HW;unfold tval
     go_wp2_with fail
     refine HW3.out.mono ?_;rintro e w4 ⟨rfl,hb4⟩;have HK4:=Lib.hid (HK3.out.then_below hb4);clear hb4 lk;unfold dval
     go_wp2
     go_ret
     exact .inr ⟨5,_,[],HR5.out,rfl,HK4.out⟩
    | true =>
     obtain ⟨fid,hen,hlook,hread⟩:=reads5_any c X n hn q pp w.heap.size g' s' hG hI (by have:=HST.out.few;exact ⟨by have:=this.ins;omega,by have:=this.glo;omega,by have:=this.cha;omega,by have:=this.exns;omega,by have:=this.funs;omega⟩) hone hwd;have hN2:=fun w1 (hR:Rd c X w1 s')=>next_any c X w1 s' hR;have hfew':=fun g1 s1 (e:Pf.one c.ts n g' s' = .ok g1 s1)=>one5_few c.ts n cnt g' g1 s' s1 e HST.out.few;generalize Ex.tk c.ts s'.p=t at *;generalize Pf.one c.ts n g' s'=RO at *;have HN:=Lib.hid hN;have HFIN:=Lib.hid hfin;have HN2:=Lib.hid hN2;have HLK:=Lib.hid hlook;have HRD:=Lib.hid hread;have HFEW:=Lib.hid hfew';clear hN hfin hk hN2 hlook hread hfew' hone hwd
     go_wp2_with fail
     refine HN.out.mono ?_;rintro e w2 ⟨rfl,hb2⟩;have p02:=(HST.out.pm.below hb2).p0;have HR2:=Lib.hid (HST.out.rd.below hb2);have HK2:=Lib.hid (HST.out.kr.then_below hb2);have HP2:=Lib.hid (HST.out.pm.below hb2);have ht2:w2.heap[w.heap.size]? = some (.map tabE 6):=(hb2.block _ (lt_of_heap HST.out.tab)).trans HST.out.tab;have HT2:=Lib.hid ht2;clear hb2 HN ht2 p0;unfold tval
     go_wp2_with fail
     refine (HN2.out _ HR2.out).mono ?_;rintro e w3 ⟨rfl,hb3⟩;have hR3:=HR2.out.below hb3;have hK3:=HK2.out.then_below hb3;have hP3:=HP2.out.below hb3;have ht3:w3.heap[w.heap.size]? = some (.map tabE 6):=(hb3.block _ (lt_of_heap HT2.out)).trans HT2.out;have lk:=HLK.out w3 ht3;have hrd:=HRD.out w3 u1 u4 hR3 hP3 (HG.out.kf hK3 hG (by omega));have HRD3:=Lib.hid hrd;have HK3:=Lib.hid hK3;have HT3:=Lib.hid ht3;clear hb3 hR3 hK3 hP3 ht3 hrd HR2 HK2 HP2 HT2 HN2 HLK HRD p02;unfold tval
     go_wp2_with fail
     refine HRD3.out.mono ?_;rintro e w4 (⟨g4,s4,x1,x4,hE4,rfl,hR4,hP4,hK4⟩ | ⟨cd,p4,n4,hE4,rfl,hK4⟩)
     rotate_left
     ·have HF:=Lib.hid (show R = .bad cd p4 n4 by rw [<- HFIN.out,hE4];rfl);have HK4:=Lib.hid (HK3.out.trans hK4);clear hE4 hK4 lk;unfold dvalN
      go_wp2
      go_ret
      exact .inr ⟨cd,p4,n4,HF.out,rfl,HK4.out⟩
     have p04:=hP4.p0;have ht4:w4.heap[w.heap.size]? = some (.map tabE 6):=hK4.map HT3.out (by omega) (by omega) (by omega);have hsz4:=hR4.size;obtain ⟨V,hV⟩:∃ V,w4.alloc (.cells #[.string ⟨#[59]⟩] 9)=V:=⟨_,rfl⟩;have hbV:Below w4.heap.size w4 V:=by rw [<- hV];exact (Below.refl _ w4).alloc (Nat.le_refl _) _
     have ks:V.cell? ⟨w4.heap.size,0,none⟩=some (.string ⟨#[59]⟩):=by rw [<- hV];exact (blk_cell (blk_new w4 _) 0).trans rfl
     have hT:=take_any c X V s4 [59] w4.heap.size (hR4.below hbV) ks;have hfl:=HFEW.out g4 s4 hE4;have hF4:(Pg.lift (Ex.take c.ts [59] s4)).bind (fun _ s2=>Pf.all c.ts n k (cnt+1) g4 s2)=R:=by rw [<- HFIN.out,hE4];rfl
     have HT:=Lib.hid hT;have HV:=Lib.hid hV;have HK4:=Lib.hid ((HK3.out.trans hK4).then_below hbV);have HP4:=Lib.hid (hP4.below hbV);have HF4:=Lib.hid hF4;have HTB:=Lib.hid ((hbV.block _ (lt_of_heap ht4)).trans ht4);have HFL:=Lib.hid hfl;clear hfl hT hV hbV ks hR4 hP4 hK4 hE4 ht4 hF4 HRD3 HK3 HT3 HFIN HFEW lk
     go_wp2_with fail
     rw [HV.out];refine HT.out.mono ?_;rintro e w5 (⟨s5,hE5,rfl,hR5,hK5⟩ | ⟨cd,p5,hE5,rfl,hK5⟩)
     rotate_left
     ·have HF:=Lib.hid (show R = .bad cd p5 [] by rw [<- HF4.out,hE5];rfl);have HK5:=Lib.hid (HK4.out.trans (Kf.of_kp hK5));clear hE5 hK5;unfold dval
      go_wp2
      go_ret
      exact .inr ⟨cd,p5,[],HF.out,rfl,HK5.out⟩
     have hF5:Pf.all c.ts n k (cnt+1) g4 s5=R:=by rw [<- HF4.out,hE5];rfl
     have hK45:Kf c q V w5:=Kf.of_kp hK5;have hst5:AllSt5 c X w q pp w.heap.size n R k (cnt+1) g4 s5 x1 x4 w5 :=
      ⟨hR5,HP4.out.kp hr hb hK5,HK4.out.trans hK45,hK45.map HTB.out (by omega) (by omega) (by omega),hF5,HFL.out,by omega⟩
     have HST5:=Lib.hid hst5;clear hst5 hK45 hF5 hR5 hK5 hE5 HT HV HK4 HP4 HF4 HTB HST
     go_wp2_with fail
     go_roundg k
     case measure=>omega
     case rel=>exact ⟨cnt+1,g4,s5,x1,x4,by go_num,HST5.out⟩
end
end Go.Proofs.YtdfpkmfeldoamaaGreatDoor
