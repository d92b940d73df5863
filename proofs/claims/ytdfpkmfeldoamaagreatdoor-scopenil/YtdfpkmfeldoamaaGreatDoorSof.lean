/- A part of the proof: A part of the proof. -/
import Derived.Test.YtdfpkmfeldoamaaGreatDoorSo
set_option linter.unusedSimpArgs false
set_option linter.unusedVariables false
set_option maxRecDepth 100000
set_option maxHeartbeats 16000000
namespace Go.Proofs.YtdfpkmfeldoamaaGreatDoor
section
open Go.RowKit Tn Lx
theorem one_cells {N:Nat}{r:Value}{fd:Sp.Fd}{w:World}(h:w.ownsRow N 228 5 r 1 (fdsCells [fd])):∃ g uc,r = .slice (some ⟨g,0,none⟩) 1 uc/\w.cell? ⟨g,0,none⟩=some (.int .i64 fd.k)/\w.cell? ⟨g,1,none⟩=some (.int .i64 (Sp.code fd.k))/\w.cell? ⟨g,2,none⟩=some (.int .i64 fd.n.at_.line)/\w.cell? ⟨g,3,none⟩=some (.int .i64 fd.n.at_.col)/\w.cell? ⟨g,4,none⟩=some (.string ⟨fd.n.text.toArray⟩):=by
 obtain ⟨ua,uc,rfl,hg⟩:=own_form5 h;obtain ⟨g,rfl⟩:=hg (by decide);exact ⟨g,uc,rfl,own_cell h (i:=0) rfl,own_cell h (i:=1) rfl,own_cell h (i:=2) rfl,own_cell h (i:=3) rfl,own_cell h (i:=4) rfl⟩
theorem wrong_end {w Y:World}{b B:Nat}{v:Value}{cd ln col:Int}{nm:ByteArray}(hb:w.heap.size<=b)(hY:Below w.heap.size w Y)(hk:Y.heap[b]? = some (.cells #[.slice none 0 0,.slice none 0 0] 36 (0,0)))(ho:OneD Y B v cd ln col nm)(hB:w.heap.size<=B):
  Y.cell? ⟨b,0,none⟩=some (.slice none 0 0)/\Y.cell? ⟨b,1,none⟩=some (.slice none 0 0)/\(∀ i,Y.frozen? ⟨b,i,none⟩=false) /\
  ((Y.setCell ⟨b,0,none⟩ (.slice none 0 0)).setCell ⟨b,1,none⟩ v).cell? ⟨b,0,none⟩=some (.slice none 0 0)/\((Y.setCell ⟨b,0,none⟩ (.slice none 0 0)).setCell ⟨b,1,none⟩ v).cell? ⟨b,1,none⟩=some v /\
  OneD ((Y.setCell ⟨b,0,none⟩ (.slice none 0 0)).setCell ⟨b,1,none⟩ v) w.heap.size v cd ln col nm/\Below w.heap.size w ((Y.setCell ⟨b,0,none⟩ (.slice none 0 0)).setCell ⟨b,1,none⟩ v) /\
  ∀ (c:Nat) (cs:Array Value),Y.heap[c]? = some (.cells cs 147 (0,0))->((Y.setCell ⟨b,0,none⟩ (.slice none 0 0)).setCell ⟨b,1,none⟩ v).heap[c]? = some (.cells cs 147 (0,0)):=by
 have hS1:But (fun k=>k=b) Y (Y.setCell ⟨b,0,none⟩ (.slice none 0 0)):=But.setCell (p:=fun k=>k=b) Y rfl 0 _;have hS2:But (fun k=>k=b) (Y.setCell ⟨b,0,none⟩ (.slice none 0 0)) ((Y.setCell ⟨b,0,none⟩ (.slice none 0 0)).setCell ⟨b,1,none⟩ v):=But.setCell (p:=fun k=>k=b) _ rfl 1 _;have hS:=hS1.trans hS2;have kz:=blk_set (blk_set hk 0 (.slice none 0 0)) 1 v;refine ⟨(blk_cell hk 0).trans rfl,(blk_cell hk 1).trans rfl,fun i=>blk_frozen hk i,(blk_cell kz 0).trans rfl,(blk_cell kz 1).trans rfl,own_mono (hS.own ho (fun k hk1 e=>own_none ho hk (by decide) (e ▸ hk1))) hB,hY.trans (hS.below hY.size (fun k e=>by omega)),fun c cs hc=>hS.heap hc (fun e=>?_)⟩;rw [e,hk] at hc;injection hc with hc;injection hc with _ hc;exact absurd hc (by decide)
theorem wrongN_one {cx cy:Cx}{p pp q qp:Nat}{V U:Nat->Value}{g:Pf.St}{y:Yf.St}{w:World}(hP:Pm5 cx p pp V [] w g)(hQ:Qm cy q qp U [] w y)(e1:g.ins=[])(e2:g.glo=[])(e3:g.cha=[])(hx:g.exns.length<=1000000000)(l2:List Sp.Fd)(hl2:(Sp.decl 8 [] (g.exns.map (·.name))).l=l2)(hl:l2.length<=1000000000)(e0:Sp.En)(he:e0=⟨[],[],[],(Sp.decl 8 [] (g.exns.map (·.name))).m,[],[],[]⟩)(s':Sp.St)(fd:Sp.Fd)(hfd:s'.l=[fd])
  (hX:∀ (c kh kv:Nat) (r1:Value) (K:Nat->Nat) (w0 W:World),Below w.heap.size w w0->Xm w0.heap.size c q p r1 [] K kh kv e0 ⟨[],[],l2⟩ w0 W->w0.heap.size<=W.heap.size->Calls Tryz.prog 109 #[.pointer (some ⟨c,0,none⟩),.int .i64 (g.mb:Int)] W (XmP w0.heap.size c q p r1 [] K kh kv e0 s' w0 W)):
  Calls Tryz.prog 22 #[.pointer (some ⟨p,0,none⟩),.pointer (some ⟨q,0,none⟩)] w fun en w'=>∃ v,en = .returned (.agg #[.slice none 0 0,v])/\OneD w' w.heap.size v (Sp.code fd.k) fd.n.at_.line fd.n.at_.col ⟨fd.n.text.toArray⟩/\Below w.heap.size w w':=by
 obtain ⟨C1,hC1⟩:∃ C1,w.alloc (.cells #[.slice none 0 0,.slice none 0 0] 36)=C1:=⟨_,rfl⟩;have hb1:Below w.heap.size w C1:=by rw [<- hC1];exact (Below.refl _ w).alloc (Nat.le_refl _) _
 have s1:C1.heap.size=w.heap.size+1:=by rw [<- hC1];simp
 have kw:C1.heap[w.heap.size]? = some (.cells #[.slice none 0 0,.slice none 0 0] 36 (0,0)):=by rw [<- hC1];exact blk_new w _
 obtain ⟨X,hXe⟩:∃ X,(C1.alloc (.map #[] 0)).alloc (.cells #[.pointer (some ⟨q,0,none⟩),.pointer (some ⟨p,0,none⟩),.slice none 0 0,.slice none 0 0,.map none,.map none,.map none,.map none,.map none,.map none,.map (some (w.heap.size+1)),.map none] 147)=X:=⟨_,rfl⟩;have hbX:Below C1.heap.size C1 X:=by rw [<- hXe];exact ((Below.refl _ C1).alloc (Nat.le_refl _) _).alloc (by simp) _
 have kc:X.heap[w.heap.size+2]? = some (.cells #[.pointer (some ⟨q,0,none⟩),.pointer (some ⟨p,0,none⟩),.slice none 0 0,.slice none 0 0,.map none,.map none,.map none,.map none,.map none,.map none,.map (some (w.heap.size+1)),.map none] 147 (0,0)):=by
  rw [<- hXe];have h:=blk_new (C1.alloc (.map #[] 0)) (.cells #[.pointer (some ⟨q,0,none⟩),.pointer (some ⟨p,0,none⟩),.slice none 0 0,.slice none 0 0,.map none,.map none,.map none,.map none,.map none,.map none,.map (some (w.heap.size+1)),.map none] 147);rw [World.size_alloc,s1] at h;exact h
 have kh0:MpAt X (w.heap.size+1) []:=by
  rw [<- hXe];have h:=(mp_new C1).below ((Below.refl _ (C1.alloc (.map #[] 0))).alloc (Nat.le_refl _) (.cells #[.pointer (some ⟨q,0,none⟩),.pointer (some ⟨p,0,none⟩),.slice none 0 0,.slice none 0 0,.map none,.map none,.map none,.map none,.map none,.map none,.map (some (w.heap.size+1)),.map none] 147));rw [s1] at h;exact h
 have hP1:=hP.below hb1;have hQ1:=hQ.below hb1;have hC:Cs C1.heap.size (w.heap.size+2) q p (.slice none 0 0) (.slice none 0 0) (fun i=>if i=10 then .map (some (w.heap.size+1)) else .map none) [] [] C1 X:=⟨kc,World.ownsRow_nil _ _ _ _,World.ownsRow_nil _ _ _ _,(fun k hk=>by cases hk),hbX,by omega⟩;have hD:=decls5_any hP1 hQ1 e1 e2 e3 hx (by decide) (by decide) (by decide) (by show (Sp.decl 9 (Sp.decl 8 [] (g.exns.map (·.name))).l []).l.length<=_;rw [hl2];exact hl) (w.heap.size+2) (w.heap.size+1) X hC hbX.size;have hmk:(Instr.makeMap 142 none).run Tryz.prog C1 = .ok (.map (some (w.heap.size+1))) (C1.alloc (.map #[] 0)):=by rw [<- s1];exact va_make C1
 have hgf:g.funs=[]:=hP.isf.symm;rw [hgf] at hD;have hD':Calls Tryz.prog 52 #[.pointer (some ⟨w.heap.size+2,0,none⟩)] X (DlP C1.heap.size (w.heap.size+2) q p (w.heap.size+1) [] l2 e0 C1 X):=by
  rw [he,<- hl2];exact hD
 have HX:=Lib.hid (fun c kh kv r1 K W=>hX c kh kv r1 K C1 W hb1);have HD:=Lib.hid hD';have HC1:=Lib.hid hC1;have HXe:=Lib.hid hXe;have HP:=Lib.hid hP1;have HQ:=Lib.hid hQ1;have HB1:=Lib.hid hb1;have HBX:=Lib.hid hbX;have HKH:=Lib.hid kh0;have S1:=Lib.hid s1;have HL:=Lib.hid hl;have HFD:=Lib.hid hfd;have HKW:=Lib.hid kw;clear hD hD' hX hC hP hQ hP1 hQ1 hb1 hbX kc kh0 e1 e2 e3 hx hl2 he hC1 hXe hgf kw hfd hl s1
 go_enter Tryz.func22,Tryz.ntmps22
 go_upto_region 1 with fail
 rw [HC1.out]
 go_upto_region 2 with fail
 rw [HXe.out,show C1.heap.size+1=w.heap.size+2 from by rw [S1.out]]
 go_wp2_with fail
 refine HD.out.mono ?_;rintro en w1 ⟨rfl,r1,r2,K,hC1,hE1,hK1,hM1⟩;have hn1:w1.heap.size>=C1.heap.size:=hC1.bel.size;have hu:=(HQ.out.below hC1.bel).hat;obtain ⟨ua,uc,hu7,_⟩:=own_form5 hu;have q7:=(HQ.out.below hC1.bel).gv (i:=7) (by decide);have p5:=(HP.out.below hC1.bel).gv (i:=5) (by decide);obtain ⟨va,vc,hv5,_⟩:=own_form5 (HP.out.below hC1.bel).fun_;rw [hu7] at q7;rw [hv5] at p5;have pk:=(HP.out.below hC1.bel).prog;have p6:w1.cell? ⟨p,6,none⟩=some (.string ⟨g.mt.toArray⟩):=(blk_cell pk 6).trans rfl;have p7:w1.cell? ⟨p,7,none⟩=some (.int .i64 g.mp.line):=(blk_cell pk 7).trans rfl;have p8:w1.cell? ⟨p,8,none⟩=some (.int .i64 g.mp.col):=(blk_cell pk 8).trans rfl;have p9:w1.cell? ⟨p,9,none⟩=some (.slice none 0 0):=(blk_cell pk 9).trans rfl;have p10:w1.cell? ⟨p,10,none⟩=some (.int .i64 (g.mb:Int)):=(blk_cell pk 10).trans rfl;have hm1:=hM1 _ _ HKH.out;have nh:∀ i,4<=i/\i<=9->K i≠w.heap.size+1:=fun i hi e=>by
  have h1:=hK1 i hi;have h2:=lt_of_heap (show X.heap[w.heap.size+1]? = some (.map #[] 0) from HKH.out);omega
 have hF:=cfun0_any (s:=⟨[],[],l2⟩) hC1 hE1 hm1 nh (by have:=S1.out;omega) hn1 HL.out ⟨g.mt.toArray⟩ g.mp.line g.mp.col g.mb s' (fun kv W hXm hNW=>HX.out _ _ _ _ _ W hXm hNW);have HF:=Lib.hid hF;have HBL:=Lib.hid hC1.bel;clear hC1 hE1 hK1 hM1 hn1 hu hu7 hv5 pk hm1 nh hF HD HX
 go_wp2_with fail
 refine wp_loop_rounds 1 ?_;rw [rounds_succ]
 go_wp2_with fail
 refine wp_loop_rounds 1 ?_;rw [rounds_succ]
 go_wp2_with fail
 refine HF.out.mono ?_;rintro en w2 ⟨rfl,kv,hXm⟩;obtain ⟨r2',hc⟩:=hXm.cs;obtain ⟨a1,u1,hr1,_⟩:=own_form5 hc.o1;subst hr1;have ho2:=hc.o2;rw [show s'.l=[fd] from HFD.out] at ho2;obtain ⟨gg,u2,rfl,f0,f1,f2,f3,f4⟩:=one_cells ho2;have hbk:=hc.bel.block _ (lt_of_heap HKW.out) |>.trans HKW.out
 have HD1:=Lib.hid (diags_one w2.drew gg u2 fd.k (Sp.code fd.k) fd.n.at_.line fd.n.at_.col ⟨fd.n.text.toArray⟩ f0 f1 f2 f3 f4);have hwd:Below w.heap.size w w2.drew:=(HB1.out.trans (hc.bel.mono HB1.out.size)).drew;have HW2:=Lib.hid hwd;have HBK:=Lib.hid (show w2.drew.heap[w.heap.size]? = _ from hbk);have HCB:=Lib.hid (show w2.drew.heap[w.heap.size+2]? = _ from hc.blk);have HSA:=Lib.hid (show (fun W=>W.cell? ⟨w.heap.size+2,2,none⟩=some (.slice a1 0 u1)/\W.cell? ⟨w.heap.size+2,3,none⟩=some (.slice (some ⟨gg,0,none⟩) 1 u2)) w2.drew from ⟨(blk_cell hc.blk 2).trans rfl,(blk_cell hc.blk 3).trans rfl⟩);clear hXm hc ho2 f0 f1 f2 f3 f4 hbk hwd q7 p5 p6 p7 p8 p9 p10 HF HBL
 go_upto_region 14 with fail
 refine wp_region_held_drew (S:=(fun W=>W.cell? ⟨w.heap.size+2,2,none⟩=some (.slice a1 0 u1)/\W.cell? ⟨w.heap.size+2,3,none⟩=some (.slice (some ⟨gg,0,none⟩) 1 u2))) (by kernel_rfl) HSA.out (fun hHeld=>?_);refine wpAnyH_take (i:=0) (oi:={ dst:=some 44,op:=Op.fieldAddr 147 (Operand.tmp 5) 2,type:=0,pos := "checker.go:31", after:=#[],guard:=none }) (v := .pointer (some ⟨w.heap.size+2,2,none⟩)) rfl (by kernel_rfl) (by kernel_rfl) (by kernel_rfl) (fun _ _ _ h=>h) (Or.inl ⟨by rfl,by intro w hSw;(try dsimp only at hSw);go_simp⟩) hHeld ?_
 try simp only [Act.put,List.setIfInBounds_toArray,List.set_cons_zero,List.set_cons_succ]
 refine wpAnyH_take (i:=1) (oi:={ dst:=some 45,op:=Op.load 144 (Operand.tmp 44),type:=144,pos := "checker.go:31", after:=#[{ on:=0,ground:=Ground.data }],guard:=none }) (v := .slice a1 0 u1) rfl (by kernel_rfl) (by kernel_rfl) (by kernel_rfl) (fun _ _ _ h=>h) (Or.inl ⟨by rfl,by intro w hSw;(try dsimp only at hSw);go_simp⟩) hHeld ?_
 try simp only [Act.put,List.setIfInBounds_toArray,List.set_cons_zero,List.set_cons_succ]
 refine wpAnyH_take (i:=3) (oi:={ dst:=some 47,op:=Op.fieldAddr 147 (Operand.tmp 5) 3,type:=0,pos := "checker.go:31", after:=#[],guard:=none }) (v := .pointer (some ⟨w.heap.size+2,3,none⟩)) rfl (by kernel_rfl) (by kernel_rfl) (by kernel_rfl) (fun _ _ _ h=>h) (Or.inl ⟨by rfl,by intro w hSw;(try dsimp only at hSw);go_simp⟩) hHeld ?_
 try simp only [Act.put,List.setIfInBounds_toArray,List.set_cons_zero,List.set_cons_succ]
 refine wpAnyH_take (i:=4) (oi:={ dst:=some 48,op:=Op.load 144 (Operand.tmp 47),type:=144,pos := "checker.go:31", after:=#[{ on:=3,ground:=Ground.data }],guard:=none }) (v := .slice (some ⟨gg,0,none⟩) 1 u2) rfl (by kernel_rfl) (by kernel_rfl) (by kernel_rfl) (fun _ _ _ h=>h) (Or.inl ⟨by rfl,by intro w hSw;(try dsimp only at hSw);go_simp⟩) hHeld ?_
 try simp only [Act.put,List.setIfInBounds_toArray,List.set_cons_zero,List.set_cons_succ]
 refine wpAnyH_ready (rs:=[2]) (by kernel_rfl) (by simp) ?_;refine AllReadyH.cons (o:={ dst:=some 46,op:=Op.call { callee:=Callee.value (Operand.func 55),args:=#[Operand.tmp 45],argTypes:=#[144] },type:=34,pos := "checker.go:31", after:=#[{ on:=1,ground:=Ground.data }],guard:=none }) rfl (fun K hK=>?_) AllReadyH.nil
 go_simp
 go_at_call 55
 refine (diags_none _ _ _).mono ?_;rintro en x1 ⟨rfl,rfl⟩
 go_wp2
 refine hK.out _ _ HSA.out (fun hHeld=>?_);clear hK K
 try simp only [Act.put,List.setIfInBounds_toArray,List.set_cons_zero,List.set_cons_succ]
 refine wpAnyH_ready (rs:=[5]) (by kernel_rfl) (by simp) ?_;refine AllReadyH.cons (o:={ dst:=some 49,op:=Op.call { callee:=Callee.value (Operand.func 55),args:=#[Operand.tmp 48],argTypes:=#[144] },type:=34,pos := "checker.go:31", after:=#[{ on:=4,ground:=Ground.data },{ on:=2,ground:=Ground.chain }],guard:=none }) rfl (fun K hK=>?_) AllReadyH.nil
 go_simp
 go_at_call 55
 refine HD1.out.mono ?_;rintro en x2 ⟨v,rfl,ho,hbx⟩;obtain ⟨va,vc,rfl,_⟩:=own_form5 ho;have hk2:=(hbx.block _ (lt_of_heap HBK.out)).trans HBK.out;have hc2:=(hbx.block _ (lt_of_heap HCB.out)).trans HCB.out;have hW:=wrong_end (Nat.le_refl _) (HW2.out.trans (hbx.mono HW2.out.size)) hk2 ho HW2.out.size;have HS2:=Lib.hid (show (fun W=>W.cell? ⟨w.heap.size+2,2,none⟩=some (.slice a1 0 u1)/\W.cell? ⟨w.heap.size+2,3,none⟩=some (.slice (some ⟨gg,0,none⟩) 1 u2)) x2 from ⟨(blk_cell hc2 2).trans rfl,(blk_cell hc2 3).trans rfl⟩);have HWE:=Lib.hid hW;have HC2:=Lib.hid hc2;clear ho hbx hk2 hc2 hW
 go_wp2
 refine hK.out _ _ HS2.out (fun hHeld=>?_);clear hK K
 try simp only [Act.put,List.setIfInBounds_toArray,List.set_cons_zero,List.set_cons_succ]
 refine wpAnyH_take (i:=6) (oi:={ dst:=some 50,op:=Op.build 36 #[(0,Operand.tmp 46),(1,Operand.tmp 49)],type:=36,pos := "checker.go:31", after:=#[{ on:=2,ground:=Ground.data },{ on:=5,ground:=Ground.data }],guard:=none }) (v := .agg #[.slice none 0 0,.slice va 1 vc]) rfl (by kernel_rfl) (by kernel_rfl) (by kernel_rfl) (fun _ _ _ h=>h) (Or.inl ⟨by rfl,by intro w hSw;(try dsimp only at hSw);go_simp⟩) hHeld ?_
 try simp only [Act.put,List.setIfInBounds_toArray,List.set_cons_zero,List.set_cons_succ]
 refine wpAnyH_ready (rs:=[7]) (by kernel_rfl) (by simp) ?_;refine AllReadyH.cons (o:={ dst:=none,op:=Op.store 36 (Operand.tmp 4) (Operand.tmp 50),type:=0,pos := "checker.go:31", after:=#[{ on:=6,ground:=Ground.data },{ on:=5,ground:=Ground.chain },{ on:=0,ground:=Ground.phase },{ on:=1,ground:=Ground.phase },{ on:=2,ground:=Ground.phase },{ on:=3,ground:=Ground.phase },{ on:=4,ground:=Ground.phase },{ on:=5,ground:=Ground.phase },{ on:=6,ground:=Ground.phase }],guard:=none }) rfl (fun K hK=>?_) AllReadyH.nil;obtain ⟨z0,z1,zf,z2,z3,_,_,zcc⟩:=HWE.out;have zc:=zcc _ _ HC2.out;have HS3:=Lib.hid (show (fun W=>W.cell? ⟨w.heap.size+2,2,none⟩=some (.slice a1 0 u1)/\W.cell? ⟨w.heap.size+2,3,none⟩=some (.slice (some ⟨gg,0,none⟩) 1 u2)) ((x2.setCell ⟨w.heap.size,0,none⟩ (.slice none 0 0)).setCell ⟨w.heap.size,1,none⟩ (.slice va 1 vc)) from ⟨(blk_cell zc 2).trans rfl,(blk_cell zc 3).trans rfl⟩);clear zc zcc
 go_simp
 refine hK.out _ _ HS3.out (fun hHeld=>?_);clear hK K
 try simp only [Act.put,List.setIfInBounds_toArray,List.set_cons_zero,List.set_cons_succ]
 refine wpAnyH_done (by kernel_rfl) ?_ _;clear hHeld
 go_wp2
 refine bodyPost_ret (v := .agg #[.slice none 0 0,.slice va 1 vc]) (by simp [results,Tryz.results22,go_sem,z2,z3]) rfl ?_;exact ⟨_,rfl,HWE.out.2.2.2.2.2.1,HWE.out.2.2.2.2.2.2.1⟩
end
section
open Go.RowKit Tn Lx
theorem scOf_one {p q:Nat}{cd ln col:Int}{nm:ByteArray}(w:World)
  (hL:∀ W,Below w.heap.size w W->Calls Tryz.prog 20 #[.pointer (some ⟨q,0,none⟩)] W (fun e W'=>Below W.heap.size W W'/\∃ a b t,e = .returned (.tuple #[.agg #[.pointer a,.pointer b],.int .i64 t,.nilIface])))
  (hN:∀ W,Below w.heap.size w W->Calls Tryz.prog 22 #[.pointer (some ⟨p,0,none⟩),.pointer (some ⟨q,0,none⟩)] W (fun en W'=>∃ v,en = .returned (.agg #[.slice none 0 0,v])/\OneD W' W.heap.size v cd ln col nm/\Below W.heap.size W W')):
  Calls Tryz.prog 8 #[.pointer (some ⟨p,0,none⟩),.pointer (some ⟨q,0,none⟩)] w (fun e w'=>∃ v,e = .returned (.tuple #[.pointer none,.agg #[.slice none 0 0,v]])/\OneD w' w.heap.size v cd ln col nm/\Below w.heap.size w w'):=by
 obtain ⟨C1,hC1⟩:∃ C1,w.alloc (.cells #[.slice none 0 0,.slice none 0 0] 36)=C1:=⟨_,rfl⟩;have hb1:Below w.heap.size w C1:=by rw [<- hC1];exact (Below.refl _ w).alloc (Nat.le_refl _) _
 have kw:C1.heap[w.heap.size]? = some (.cells #[.slice none 0 0,.slice none 0 0] 36 (0,0)):=by rw [<- hC1];exact blk_new w _
 have HL1:=Lib.hid (hL C1 hb1);have HN:=Lib.hid hN;have HC1:=Lib.hid hC1;have HB1:=Lib.hid hb1;have KW:=Lib.hid kw;clear hL hN hC1 hb1 kw
 go_enter Tryz.func8,Tryz.ntmps8
 go_upto_region 4 with fail
 rw [HC1.out]
 go_wp2_with fail
 refine HL1.out.mono ?_;rintro e w1 ⟨hbl,a,b,t,rfl⟩;obtain ⟨W2,hW2⟩:∃ W2,w1.alloc (.cells #[.pointer a,.pointer b] 90)=W2:=⟨_,rfl⟩;have hb2:Below C1.heap.size C1 W2:=by rw [<- hW2];exact hbl.alloc hbl.size _
 have hbw2:=HB1.out.trans (hb2.mono HB1.out.size);have HN2:=Lib.hid (HN.out W2 hbw2);have HW2:=Lib.hid hW2;have HB2:=Lib.hid hb2;have HBW:=Lib.hid hbw2;clear hW2 hb2 hbw2 hbl HN
 go_upto_region 9 with fail
 rw [HW2.out]
 go_wp2_with fail
 refine HN2.out.mono ?_;rintro e w3 ⟨v,rfl,ho,hb3⟩;obtain ⟨va,vc,rfl,hg⟩:=own_form5 ho;obtain ⟨W4,hW4⟩:∃ W4,w3.alloc (.cells #[.slice none 0 0,.slice va 1 vc] 36)=W4:=⟨_,rfl⟩;have hb4:Below W2.heap.size W2 W4:=by rw [<- hW4];exact hb3.alloc hb3.size _
 have k4:W4.heap[w3.heap.size]? = some (.cells #[.slice none 0 0,.slice va 1 vc] 36 (0,0)):=by rw [<- hW4];exact blk_new w3 _
 have y0:W4.cell? ⟨w3.heap.size,0,none⟩=some (.slice none 0 0):=(blk_cell k4 0).trans rfl;have y1:W4.cell? ⟨w3.heap.size,1,none⟩=some (.slice va 1 vc):=(blk_cell k4 1).trans rfl;have ho4:OneD W4 W2.heap.size (.slice va 1 vc) cd ln col nm:=by rw [<- hW4];exact own_below ho ((Below.refl _ w3).alloc (Nat.le_refl _) _)
 have hk4:=(hb4.block _ (Nat.lt_of_lt_of_le (lt_of_heap KW.out) HB2.out.size)).trans ((HB2.out.block _ (lt_of_heap KW.out)).trans KW.out);have hE:=wrong_end (Nat.le_refl _) ((HBW.out.trans (hb4.mono HBW.out.size)).drew) (show W4.drew.heap[w.heap.size]? = _ from hk4) (own_below ho4 (Below.refl _ W4).drew) HBW.out.size;have HE:=Lib.hid hE;have HW4:=Lib.hid hW4;obtain ⟨z0,z1,zf,z2,z3,_,_,_⟩:=HE.out;have z0':W4.cell? ⟨w.heap.size,0,none⟩=some (.slice none 0 0):=z0;have z1':W4.cell? ⟨w.heap.size,1,none⟩=some (.slice none 0 0):=z1;have zf':∀ i,W4.frozen? ⟨w.heap.size,i,none⟩=false:=zf;have z2':(W4.setCell ⟨w.heap.size,0,none⟩ (.slice none 0 0)).cell? ⟨w.heap.size,0,none⟩=some (.slice none 0 0):=(blk_cell (blk_set hk4 0 _) 0).trans rfl;have z3':((W4.setCell ⟨w.heap.size,0,none⟩ (.slice none 0 0)).setCell ⟨w.heap.size,1,none⟩ (.slice va 1 vc)).cell? ⟨w.heap.size,1,none⟩=some (.slice va 1 vc):=(blk_cell (blk_set (blk_set hk4 0 _) 1 _) 1).trans rfl;clear z0 z1 zf z2 z3;clear hE hW4 ho hb3 hb4 k4 ho4 hk4 hg
 go_upto_region 11 with fail
 rw [HW4.out]
 go_region
 all_goals
  go_wp2
  refine bodyPost_ret (v := .tuple #[.pointer none,.agg #[.slice none 0 0,.slice va 1 vc]]) (by simp [results,Tryz.results8,go_sem,z2',z3']) rfl ?_;exact ⟨_,rfl,HE.out.2.2.2.2.2.1,HE.out.2.2.2.2.2.2.1⟩
end
end Go.Proofs.YtdfpkmfeldoamaaGreatDoor
