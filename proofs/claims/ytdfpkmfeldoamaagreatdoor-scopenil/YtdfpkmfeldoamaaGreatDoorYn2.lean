/- A part of the proof: A policy's names behind a word or a mark, and names of functions. -/
import Derived.Test.YtdfpkmfeldoamaaGreatDoorYn
set_option linter.unusedSimpArgs false
set_option linter.unusedVariables false
set_option maxRecDepth 100000
set_option maxHeartbeats 4000000
namespace Go.Proofs.YtdfpkmfeldoamaaGreatDoor
open Go.RowKit Tn Lx
attribute [local go_sem] tok_field0 tok_field1 tok_field3
theorem nameAt_one (ts:List Tok)(m:B)(s:Ex.S):Pg.nameAt ts [m] s=(Ex.take ts m s).bind fun _ s1=>Pg.nameAt ts [] s1:=by
 unfold Pg.nameAt;rw [Pg.takes]
 cases Ex.take ts m s with
 | ok a s1=>rfl
 | bad cd p=>rfl
 | out=>rfl
theorem behind5_any (c:Cx)(X:Nat->Prop)(w:World)(s:Ex.S)(pp q:Nat)(m:B)(h:Rd c X w s)(hpp:w.heap[pp]? = some (.cells (yparF c.r q) 87 (0,0)))(hpB:c.B<=pp):
  Calls Tryz.prog 138 #[.pointer (some ⟨pp,0,none⟩),.string ⟨m.toArray⟩] w (NmP c X w (Pg.nameAt c.ts [m] s)):=by
 have hr1:=h.rlt;have hb1:=h.blt;have hg1:=h.glt;have hsz:=h.size;have p00:w.cell? ⟨pp,0,none⟩=some (.pointer (some ⟨c.r,0,none⟩)):=(blk_cell hpp 0).trans rfl;have p0:=fun o=>(World.cell?_alloc_lt w o _ (World.block_lt_of_cell? _ _ p00)).trans p00;obtain ⟨V,hV⟩:∃ V,(w.alloc (.cells #[.string ⟨#[]⟩,.int .i64 0,.int .i64 0] 49)).alloc (.cells #[.string ⟨m.toArray⟩] 9)=V:=⟨_,rfl⟩;have hbV:Below w.heap.size w V:=by rw [<- hV];exact ((Below.refl _ w).alloc (Nat.le_refl _) _).alloc (by simp) _
 have kr:V.heap[w.heap.size]? = some (.cells #[.string ⟨#[]⟩,.int .i64 0,.int .i64 0] 49 (0,0)):=by rw [<- hV];exact blk_alloc (blk_new w _) _
 have ks:V.cell? ⟨w.heap.size+1,0,none⟩=some (.string ⟨m.toArray⟩):=by
  rw [<- hV];have:=(blk_cell (blk_new (w.alloc (.cells #[.string ⟨#[]⟩,.int .i64 0,.int .i64 0] 49)) (.cells #[.string ⟨m.toArray⟩] 9)) 0).trans rfl
  rwa [World.size_alloc] at this
 have hT:=take_any c X V s m (w.heap.size+1) (h.below hbV) ks;have hE:=nameAt_one c.ts m s;generalize Pg.nameAt c.ts [m] s=R at *;have hpV:=(hbV.block pp (lt_of_heap hpp)).trans hpp;have HT:=Lib.hid hT;have HV:=Lib.hid hV;have HB:=Lib.hid hbV;have HKR:=Lib.hid kr;have HPV:=Lib.hid hpV;have HE:=Lib.hid hE;clear hT hV hbV kr ks hpV h hpp hE p00
 go_enter Tryz.func138,Tryz.ntmps138
 go_wp2_with fail
 rw [HV.out];refine HT.out.mono ?_;rintro e w1 (⟨s1,hE1,rfl,hR1,hK1⟩ | ⟨cd,p1,hE1,rfl,hK1⟩)
 rotate_left
 ·have hF:R = .bad cd p1:=by rw [HE.out,hE1];rfl
  have hk2:=hK1.heap HKR.out (by omega) (by omega) (by decide);have x0:w1.cell? ⟨w.heap.size,0,none⟩=some (.string ⟨#[]⟩):=(blk_cell hk2 0).trans rfl;have x1:w1.cell? ⟨w.heap.size,1,none⟩=some (.int .i64 0):=(blk_cell hk2 1).trans rfl;have x2:w1.cell? ⟨w.heap.size,2,none⟩=some (.int .i64 0):=(blk_cell hk2 2).trans rfl;have xf:∀ i,w1.frozen? ⟨w.heap.size,i,none⟩=false:=fun i=>blk_frozen hk2 i;have HF:=Lib.hid hF;have HK:=Lib.hid (Below.then_kp HB.out hK1);have HKR2:=Lib.hid hk2;clear hF hK1 hE1 hk2 HT HV HB HKR HPV HE p0;unfold dval
  go_wp2
  have hr3:=blk_set (blk_set (blk_set HKR2.out 0 (.string ⟨#[]⟩)) 1 (.int .i64 0)) 2 (.int .i64 0);have r0:=(blk_cell hr3 0).trans rfl;have r1:=(blk_cell hr3 1).trans rfl;have r2:=(blk_cell hr3 2).trans rfl;refine bodyPost_ret (v := .tuple #[.agg #[.string ⟨#[]⟩,.int .i64 0,.int .i64 0],dval cd p1]) (by simp [results,Tryz.results138,go_sem,r0,r1,r2,dval]) rfl (.inr ⟨cd,p1,Pg.zn,HF.out,rfl, ?_⟩);exact HK.out.new (but_three w1 w.heap.size 0 _ _ _) (fun k e=>by omega)
 have hE2:R=Pg.nameAt c.ts [] s1:=by rw [HE.out,hE1];rfl
 have hp1:=hK1.heap HPV.out (by omega) (by omega) (by decide);have hk1:=hK1.heap HKR.out (by omega) (by omega) (by decide);have hA:=yname5_any c X w1 s1 pp q hR1 hp1 hpB;rw [<- hE2] at hA;have HA:=Lib.hid hA;have HK1:=Lib.hid (Below.then_kp HB.out hK1);have HKR1:=Lib.hid hk1;clear hA hp1 hk1 hR1 hK1 hE1 hE2 HT HV HB HKR HPV HE p0
 go_wp2_with fail
 refine HA.out.mono ?_;rintro e w2 (⟨n,s2,hF,rfl,hR2,hK2⟩ | ⟨cd,p2,n,hF,rfl,hK2⟩)
 ·have hk2:=hK2.heap HKR1.out (by omega) (by omega) (by decide);have x0:w2.cell? ⟨w.heap.size,0,none⟩=some (.string ⟨#[]⟩):=(blk_cell hk2 0).trans rfl;have x1:w2.cell? ⟨w.heap.size,1,none⟩=some (.int .i64 0):=(blk_cell hk2 1).trans rfl;have x2:w2.cell? ⟨w.heap.size,2,none⟩=some (.int .i64 0):=(blk_cell hk2 2).trans rfl;have xf:∀ i,w2.frozen? ⟨w.heap.size,i,none⟩=false:=fun i=>blk_frozen hk2 i;have HF:=Lib.hid hF;have HR2:=Lib.hid hR2;have HK2:=Lib.hid (HK1.out.trans hK2);have HKR2:=Lib.hid hk2;clear hR2 hK2 hk2 hF HA HK1 HKR1;unfold nmV
  go_wp2
  have hr3:=blk_set (blk_set (blk_set HKR2.out 0 (.string ⟨n.text.toArray⟩)) 1 (.int .i64 n.at_.line)) 2 (.int .i64 n.at_.col);have r0:=(blk_cell hr3 0).trans rfl;have r1:=(blk_cell hr3 1).trans rfl;have r2:=(blk_cell hr3 2).trans rfl;refine bodyPost_ret (v := .tuple #[.agg #[.string ⟨n.text.toArray⟩,.int .i64 n.at_.line,.int .i64 n.at_.col],.nilIface]) (by simp [results,Tryz.results138,go_sem,r0,r1,r2]) rfl (.inl ⟨n,s2,HF.out,rfl, ?_, ?_⟩)
  ·exact HR2.out.but (but_three w2 w.heap.size 0 _ _ _) (fun e=>by omega) (fun e=>by omega) (fun e=>by omega) (fun k e => .inr (by subst e;exact ⟨_,_,_,HKR2.out,by decide,by decide⟩))
  ·exact HK2.out.new (but_three w2 w.heap.size 0 _ _ _) (fun k e=>by omega)
 ·have hk2:=hK2.heap HKR1.out (by omega) (by omega) (by decide);have x0:w2.cell? ⟨w.heap.size,0,none⟩=some (.string ⟨#[]⟩):=(blk_cell hk2 0).trans rfl;have x1:w2.cell? ⟨w.heap.size,1,none⟩=some (.int .i64 0):=(blk_cell hk2 1).trans rfl;have x2:w2.cell? ⟨w.heap.size,2,none⟩=some (.int .i64 0):=(blk_cell hk2 2).trans rfl;have xf:∀ i,w2.frozen? ⟨w.heap.size,i,none⟩=false:=fun i=>blk_frozen hk2 i;obtain ⟨D,hD⟩:∃ D,dval cd p2=D:=⟨_,rfl⟩;rw [hD];have HDD:=Lib.hid hD;have HF:=Lib.hid hF;have HK2:=Lib.hid (HK1.out.trans hK2);have HKR2:=Lib.hid hk2;clear hK2 hk2 hF hD HA HK1 HKR1;unfold nmV
  go_wp2
  have hr3:=blk_set (blk_set (blk_set HKR2.out 0 (.string ⟨n.text.toArray⟩)) 1 (.int .i64 n.at_.line)) 2 (.int .i64 n.at_.col);have r0:=(blk_cell hr3 0).trans rfl;have r1:=(blk_cell hr3 1).trans rfl;have r2:=(blk_cell hr3 2).trans rfl;refine bodyPost_ret (v := .tuple #[.agg #[.string ⟨n.text.toArray⟩,.int .i64 n.at_.line,.int .i64 n.at_.col],D]) (by simp [results,Tryz.results138,go_sem,r0,r1,r2]) rfl (.inr ⟨cd,p2,n,HF.out,by rw [HDD.out];rfl, ?_⟩);exact HK2.out.new (but_three w2 w.heap.size 0 _ _ _) (fun k e=>by omega)
structure NmS (pp x r q:Nat)(p:Pos)(W:World):Prop where
 par:W.heap[pp]? = some (.cells (yparF r q) 87 (0,0))
 pos:W.heap[x]? = some (.cells #[.int .i64 p.line,.int .i64 p.col] 41 (0,0))
def NmSH (pp x r:Nat)(p:Pos)(W:World):Prop:=W.cell? ⟨pp,0,none⟩=some (.pointer (some ⟨r,0,none⟩))/\W.cell? ⟨x,0,none⟩=some (.int .i64 p.line)/\W.cell? ⟨x,1,none⟩=some (.int .i64 p.col)
theorem NmS.held {pp x r q:Nat}{p:Pos}{W:World}(h:NmS pp x r q p W):NmSH pp x r p W:=⟨(blk_cell h.par 0).trans rfl,(blk_cell h.pos 0).trans rfl,(blk_cell h.pos 1).trans rfl⟩
theorem NmS.but {pp x r q:Nat}{p:Pos}{W W':World}{P:Nat->Prop}(h:NmS pp x r q p W)(hB:But P W W')(h1:¬ P pp)(h2:¬ P x):NmS pp x r q p W':=⟨hB.heap h.par h1,hB.heap h.pos h2⟩
theorem NmS.below {pp x r q:Nat}{p:Pos}{W W':World}(h:NmS pp x r q p W)(hb:Below W.heap.size W W'):NmS pp x r q p W':=h.but (P:=fun _=>False) (But.of_below hb) (fun e=>e) (fun e=>e)
theorem yfun5_any (c:Cx)(X:Nat->Prop)(w:World)(s:Ex.S)(pp q:Nat)(h:Rd c X w s)(hpp:w.heap[pp]? = some (.cells (yparF c.r q) 87 (0,0)))(hpB:c.B<=pp):
  Calls Tryz.prog 140 #[.pointer (some ⟨pp,0,none⟩)] w (NmP c X w (Yf.funN c.ts s)):=by
 have hr1:=h.rlt;have hb1:=h.blt;have hg1:=h.glt;have hsz:=h.size;have p00:w.cell? ⟨pp,0,none⟩=some (.pointer (some ⟨c.r,0,none⟩)):=(blk_cell hpp 0).trans rfl;have p0:=fun o=>(World.cell?_alloc_lt w o _ (World.block_lt_of_cell? _ _ p00)).trans p00;obtain ⟨V,hV⟩:∃ V,w.alloc (.cells #[.string ⟨#[]⟩,.int .i64 0,.int .i64 0] 49)=V:=⟨_,rfl⟩;have hbV:Below w.heap.size w V:=by rw [<- hV];exact (Below.refl _ w).alloc (Nat.le_refl _) _
 have kr:V.heap[w.heap.size]? = some (.cells #[.string ⟨#[]⟩,.int .i64 0,.int .i64 0] 49 (0,0)):=by rw [<- hV];exact blk_new w _
 have hIs:=is_any c X V s Pg.wMain (h.below hbV);have hpV:=(hbV.block pp (lt_of_heap hpp)).trans hpp;have hE:Yf.funN c.ts s=if Ex.is c.ts s Pg.wMain=true then .ok ⟨Pg.wMain,Ex.at_ c.ts s⟩ s.skip else Pg.nameAt c.ts [] s:=rfl
 generalize Yf.funN c.ts s=R at *;have HE:=Lib.hid hE;have HI:=Lib.hid hIs;have HV:=Lib.hid hV;have HB:=Lib.hid hbV;have HKR:=Lib.hid kr;have HPV:=Lib.hid hpV;have HR:=Lib.hid (h.below hbV);clear hE hIs hV hbV kr hpV h hpp p00
 go_enter Tryz.func140,Tryz.ntmps140
 go_wp2_with fail
 rw [HV.out];refine HI.out.mono ?_;rintro e w1 ⟨rfl,hb1⟩;have hp1:=(hb1.block _ (lt_of_heap HPV.out)).trans HPV.out;have hk1:=(hb1.block _ (lt_of_heap HKR.out)).trans HKR.out;have hb01:Below w.heap.size w w1:=HB.out.trans (hb1.mono HB.out.size);have hR1:=HR.out.below hb1;have p01:w1.cell? ⟨pp,0,none⟩=some (.pointer (some ⟨c.r,0,none⟩)):=(blk_cell hp1 0).trans rfl;have HK1:=Lib.hid hk1;have HP1:=Lib.hid hp1;have HR1:=Lib.hid hR1;have HB1:=Lib.hid hb01;clear hk1 hp1 hR1 hb01 hb1 HI HV HB HKR HPV HR p0
 cases hm:Ex.is c.ts s Pg.wMain with
 | false =>
  have hE:R=Pg.nameAt c.ts [] s:=by rw [HE.out,if_neg (by rw [hm];decide)]
  have hA:=yname5_any c X w1 s pp q HR1.out HP1.out hpB;rw [<- hE] at hA;have HA:=Lib.hid hA;clear hA hE hm HE
  go_wp2_with fail
  refine HA.out.mono ?_;rintro e w2 (⟨n,s2,hF,rfl,hR2,hK2⟩ | ⟨cd,p2,n,hF,rfl,hK2⟩)
  ·have hk2:=hK2.heap HK1.out (by omega) (by omega) (by decide);have x0:w2.cell? ⟨w.heap.size,0,none⟩=some (.string ⟨#[]⟩):=(blk_cell hk2 0).trans rfl;have x1:w2.cell? ⟨w.heap.size,1,none⟩=some (.int .i64 0):=(blk_cell hk2 1).trans rfl;have x2:w2.cell? ⟨w.heap.size,2,none⟩=some (.int .i64 0):=(blk_cell hk2 2).trans rfl;have xf:∀ i,w2.frozen? ⟨w.heap.size,i,none⟩=false:=fun i=>blk_frozen hk2 i;have HF:=Lib.hid hF;have HR2:=Lib.hid hR2;have HK2:=Lib.hid (Below.then_kp (c:=c) HB1.out hK2);have HKR2:=Lib.hid hk2;clear hR2 hK2 hk2 hF HA HK1 HP1 HR1;unfold nmV
   go_wp2
   have hr3:=blk_set (blk_set (blk_set HKR2.out 0 (.string ⟨n.text.toArray⟩)) 1 (.int .i64 n.at_.line)) 2 (.int .i64 n.at_.col);have r0:=(blk_cell hr3 0).trans rfl;have r1:=(blk_cell hr3 1).trans rfl;have r2:=(blk_cell hr3 2).trans rfl;refine bodyPost_ret (v := .tuple #[.agg #[.string ⟨n.text.toArray⟩,.int .i64 n.at_.line,.int .i64 n.at_.col],.nilIface]) (by simp [results,Tryz.results140,go_sem,r0,r1,r2]) rfl (.inl ⟨n,s2,HF.out,rfl, ?_, ?_⟩)
   ·exact HR2.out.but (but_three w2 w.heap.size 0 _ _ _) (fun e=>by omega) (fun e=>by omega) (fun e=>by omega) (fun k e => .inr (by subst e;exact ⟨_,_,_,HKR2.out,by decide,by decide⟩))
   ·exact HK2.out.new (but_three w2 w.heap.size 0 _ _ _) (fun k e=>by omega)
  ·have hk2:=hK2.heap HK1.out (by omega) (by omega) (by decide);have x0:w2.cell? ⟨w.heap.size,0,none⟩=some (.string ⟨#[]⟩):=(blk_cell hk2 0).trans rfl;have x1:w2.cell? ⟨w.heap.size,1,none⟩=some (.int .i64 0):=(blk_cell hk2 1).trans rfl;have x2:w2.cell? ⟨w.heap.size,2,none⟩=some (.int .i64 0):=(blk_cell hk2 2).trans rfl;have xf:∀ i,w2.frozen? ⟨w.heap.size,i,none⟩=false:=fun i=>blk_frozen hk2 i;obtain ⟨D,hD⟩:∃ D,dval cd p2=D:=⟨_,rfl⟩;rw [hD];have HDD:=Lib.hid hD;have HF:=Lib.hid hF;have HK2:=Lib.hid (Below.then_kp (c:=c) HB1.out hK2);have HKR2:=Lib.hid hk2;clear hK2 hk2 hF hD HA HK1 HP1 HR1;unfold nmV
   go_wp2
   have hr3:=blk_set (blk_set (blk_set HKR2.out 0 (.string ⟨n.text.toArray⟩)) 1 (.int .i64 n.at_.line)) 2 (.int .i64 n.at_.col);have r0:=(blk_cell hr3 0).trans rfl;have r1:=(blk_cell hr3 1).trans rfl;have r2:=(blk_cell hr3 2).trans rfl;refine bodyPost_ret (v := .tuple #[.agg #[.string ⟨n.text.toArray⟩,.int .i64 n.at_.line,.int .i64 n.at_.col],D]) (by simp [results,Tryz.results140,go_sem,r0,r1,r2]) rfl (.inr ⟨cd,p2,n,HF.out,by rw [HDD.out];rfl, ?_⟩);exact HK2.out.new (but_three w2 w.heap.size 0 _ _ _) (fun k e=>by omega)
 | true =>
  have hE:R = .ok ⟨Pg.wMain,Ex.at_ c.ts s⟩ s.skip:=by rw [HE.out,if_pos hm]
  have hN:=next_any c X w1 s HR1.out;have hT1:Ex.take c.ts Pg.wMain s = .ok () s.skip:=by rw [Ex.take,if_pos hm]
  have hTT:=fun (w2:World) (b:Nat) (hR:Rd c X w2 s) (hc:w2.cell? ⟨b,0,none⟩=some (.string ⟨Pg.wMain.toArray⟩))=>take_any c X w2 s Pg.wMain b hR hc;rw [hT1] at hTT;have hat:Ex.at_ c.ts s=(Ex.tk c.ts s.p).at_:=rfl;rw [hat] at hE;generalize Ex.tk c.ts s.p=t at *;obtain ⟨s2,hs2⟩:∃ s2,s.skip=s2:=⟨_,rfl⟩;rw [hs2] at hTT hE;have HN:=Lib.hid hN;have HTT:=Lib.hid hTT;have HF:=Lib.hid hE;clear hN hTT hT1 hat hE hm hs2 HE
  go_wp2_with fail
  refine HN.out.mono ?_;rintro e w2 ⟨rfl,hb2⟩;unfold tval;have hp2:=(hb2.block _ (lt_of_heap HP1.out)).trans HP1.out;have hk2:=(hb2.block _ (lt_of_heap HK1.out)).trans HK1.out;have hs21:=hb2.size;have hlt1:=lt_of_heap HK1.out;obtain ⟨W,hW⟩:∃ W,w2.alloc (.cells #[.int .i64 t.at_.line,.int .i64 t.at_.col] 41)=W:=⟨_,rfl⟩;have hbW:Below w2.heap.size w2 W:=by rw [<- hW];exact (Below.refl _ w2).alloc (Nat.le_refl _) _
  have kW:W.heap[w2.heap.size]? = some (.cells #[.int .i64 t.at_.line,.int .i64 t.at_.col] 41 (0,0)):=by rw [<- hW];exact blk_new w2 _
  have hbW1:Below w1.heap.size w1 W:=hb2.trans (hbW.mono hb2.size);have hRW:=HR1.out.below hbW1;have hpW:=(hbW.block _ (lt_of_heap hp2)).trans hp2;have hkW:=(hbW.block _ (lt_of_heap hk2)).trans hk2;have hL:NmS pp w2.heap.size c.r q t.at_ W:=⟨hpW,kW⟩;have hS0:=(hL.below (Below.refl _ W).drew).held;have hSA:=fun o=>(hL.below (((Below.refl _ W).alloc (Nat.le_refl _) o).drew)).held;obtain ⟨V3,hV3⟩:∃ V,(W.alloc (.cells #[.string ⟨#[109,97,105,110]⟩] 9)).drew=V:=⟨_,rfl⟩;have hbV3:Below W.heap.size W V3:=by rw [<- hV3];exact ((Below.refl _ W).alloc (Nat.le_refl _) _).drew
  have ks3:V3.cell? ⟨W.heap.size,0,none⟩=some (.string ⟨Pg.wMain.toArray⟩):=by rw [<- hV3];exact (blk_cell (heap_alloc_new W _) 0).trans rfl
  have hT3:=HTT.out V3 W.heap.size (hRW.below hbV3) ks3;have hL3:=hL.below hbV3;have hkV:=(hbV3.block _ (lt_of_heap hkW)).trans hkW;have hBw1:=HB1.out.size;have hKV:Kp c w V3:=Kp.of_below (HB1.out.trans ((hbW1.trans (hbV3.mono hbW1.size)).mono HB1.out.size));have HW:=Lib.hid hW;have HS0:=Lib.hid hS0;have HSA:=Lib.hid hSA;have HV3:=Lib.hid hV3;have HT3:=Lib.hid hT3;have HL3:=Lib.hid hL3;have HKV:=Lib.hid hkV;have HKK:=Lib.hid hKV;clear hp2 hk2 hW hbW kW hbW1 hRW hpW hkW hL hS0 hSA hV3 hbV3 ks3 hT3 hL3 hkV hKV hb2 HTT HN HR1 HP1 HK1
  go_upto_region 10 with fail
  rw [HW.out];unfold NmSH at HS0 HSA;refine wp_region_held_drew (S:=(fun W=>W.cell? ⟨pp,0,none⟩=some (.pointer (some ⟨c.r,0,none⟩))/\W.cell? ⟨w2.heap.size,0,none⟩=some (.int .i64 t.at_.line)/\W.cell? ⟨w2.heap.size,1,none⟩=some (.int .i64 t.at_.col))) (by kernel_rfl) HS0.out (fun hHeld=>?_);refine wpAnyH_take (i:=0) (oi:={ dst:=some 21,op:=Op.load 41 (Operand.tmp 4),type:=41,pos := "items.go:131", after:=#[],guard:=none }) (v := .agg #[.int .i64 t.at_.line,.int .i64 t.at_.col]) rfl (by kernel_rfl) (by kernel_rfl) (by kernel_rfl) (fun _ _ _ h=>h) (Or.inl ⟨by rfl,by intro w hSw;(try dsimp only at hSw);go_simp⟩) hHeld ?_
  try simp only [Act.put,List.setIfInBounds_toArray,List.set_cons_zero,List.set_cons_succ]
  refine wpAnyH_take (i:=1) (oi:={ dst:=some 22,op:=Op.build 49 #[(0,Operand.const (Value.string { data:=#[109,97,105,110] })),(1,Operand.tmp 21)],type:=49,pos := "items.go:131", after:=#[{ on:=0,ground:=Ground.data }],guard:=none }) (v := .agg #[.string ⟨#[109,97,105,110]⟩,.int .i64 t.at_.line,.int .i64 t.at_.col]) rfl (by kernel_rfl) (by kernel_rfl) (by kernel_rfl) (fun _ _ _ h=>h) (Or.inl ⟨by rfl,by intro w hSw;(try dsimp only at hSw);go_simp⟩) hHeld ?_
  try simp only [Act.put,List.setIfInBounds_toArray,List.set_cons_zero,List.set_cons_succ]
  refine wpAnyH_take (i:=2) (oi:={ dst:=some 23,op:=Op.move (Operand.tmp 0),type:=85,pos := "items.go:131", after:=#[],guard:=none }) (v := .pointer (some ⟨pp,0,none⟩)) rfl (by kernel_rfl) (by kernel_rfl) (by kernel_rfl) (fun _ _ _ h=>h) (Or.inl ⟨by rfl,by intro w hSw;(try dsimp only at hSw);go_simp⟩) hHeld ?_
  try simp only [Act.put,List.setIfInBounds_toArray,List.set_cons_zero,List.set_cons_succ]
  refine wpAnyH_take (i:=3) (oi:={ dst:=some 24,op:=Op.nilCheck (Operand.tmp 23),type:=0,pos := "items.go:131", after:=#[{ on:=2,ground:=Ground.data }],guard:=none }) (v := .pointer (some ⟨pp,0,none⟩)) rfl (by kernel_rfl) (by kernel_rfl) (by kernel_rfl) (fun _ _ _ h=>h) (Or.inl ⟨by rfl,by intro w hSw;(try dsimp only at hSw);go_simp⟩) hHeld ?_
  try simp only [Act.put,List.setIfInBounds_toArray,List.set_cons_zero,List.set_cons_succ]
  refine wpAnyH_take (i:=4) (oi:={ dst:=some 25,op:=Op.fieldAddr 87 (Operand.tmp 24) 0,type:=0,pos := "items.go:131", after:=#[{ on:=3,ground:=Ground.data }],guard:=none }) (v := .pointer (some ⟨pp,0,none⟩)) rfl (by kernel_rfl) (by kernel_rfl) (by kernel_rfl) (fun _ _ _ h=>h) (Or.inl ⟨by rfl,by intro w hSw;(try dsimp only at hSw);go_simp⟩) hHeld ?_
  try simp only [Act.put,List.setIfInBounds_toArray,List.set_cons_zero,List.set_cons_succ]
  refine wpAnyH_take (i:=5) (oi:={ dst:=some 26,op:=Op.load 67 (Operand.tmp 25),type:=67,pos := "items.go:131", after:=#[{ on:=4,ground:=Ground.data }],guard:=none }) (v := .pointer (some ⟨c.r,0,none⟩)) rfl (by kernel_rfl) (by kernel_rfl) (by kernel_rfl) (fun _ _ _ h=>h) (Or.inl ⟨by rfl,by intro w hSw;(try dsimp only at hSw);go_simp⟩) hHeld ?_
  try simp only [Act.put,List.setIfInBounds_toArray,List.set_cons_zero,List.set_cons_succ]
  refine wpAnyH_ready (rs:=[6]) (by kernel_rfl) (by simp) ?_;refine AllReadyH.cons (o:={ dst:=some 27,op:=Op.buildSlice 183 1 #[(0,Operand.const (Value.string { data:=#[109,97,105,110] }))],type:=183,pos := "items.go:131", after:=#[],guard:=none }) rfl (fun K hK=>?_) AllReadyH.nil
  go_simp
  refine hK.out _ _ (HSA.out _) (fun hHeld=>?_);clear hK K
  try simp only [Act.put,List.setIfInBounds_toArray,List.set_cons_zero,List.set_cons_succ]
  refine wpAnyH_ready (rs:=[7]) (by kernel_rfl) (by simp) ?_;refine AllReadyH.cons (o:={ dst:=some 28,op:=Op.call { callee:=Callee.value (Operand.func 38),args:=#[Operand.tmp 26,Operand.tmp 27],argTypes:=#[67,183] },type:=27,pos := "items.go:131", after:=#[{ on:=5,ground:=Ground.data },{ on:=6,ground:=Ground.data }],guard:=none }) rfl (fun K hK=>?_) AllReadyH.nil
  go_simp
  rw [HV3.out];refine HT3.out.mono ?_;rintro e w8 (⟨s8,hE8,rfl,hR8,hK8⟩ | ⟨cd,p8,hE8,rfl,hK8⟩)
  rotate_left
  ·cases hE8
  injection hE8 with _ e8
  subst e8;have hL8:NmS pp w2.heap.size c.r q t.at_ w8:=⟨hK8.heap HL3.out.par (by omega) (by omega) (by decide),hK8.heap HL3.out.pos (by omega) (by omega) (by decide)⟩;have hk8:=hK8.heap HKV.out (by omega) (by omega) (by decide);have x0:w8.cell? ⟨w.heap.size,0,none⟩=some (.string ⟨#[]⟩):=(blk_cell hk8 0).trans rfl;have x1:w8.cell? ⟨w.heap.size,1,none⟩=some (.int .i64 0):=(blk_cell hk8 1).trans rfl;have x2:w8.cell? ⟨w.heap.size,2,none⟩=some (.int .i64 0):=(blk_cell hk8 2).trans rfl;have xf:∀ i,w8.frozen? ⟨w.heap.size,i,none⟩=false:=fun i=>blk_frozen hk8 i;have hS8:=hL8.held;have hB9:=but_three w8 w.heap.size 0 (.string ⟨#[109,97,105,110]⟩) (.int .i64 t.at_.line) (.int .i64 t.at_.col);have hS9:=(hL8.but hB9 (fun e=>by have h5:=hL8.par;rw [e,hk8] at h5;injection h5 with h5;injection h5 with _ h5;exact absurd h5 (by decide)) (fun e=>by omega)).held;unfold NmSH at hS8 hS9;refine hK.out _ _ hS8 (fun hHeld=>?_);clear hK K
  try simp only [Act.put,List.setIfInBounds_toArray,List.set_cons_zero,List.set_cons_succ]
  refine wpAnyH_ready (rs:=[8]) (by kernel_rfl) (by simp) ?_;refine AllReadyH.cons (o:={ dst:=none,op:=Op.store 49 (Operand.tmp 2) (Operand.tmp 22),type:=0,pos := "items.go:131", after:=#[{ on:=1,ground:=Ground.data },{ on:=7,ground:=Ground.chain },{ on:=0,ground:=Ground.phase },{ on:=1,ground:=Ground.phase },{ on:=2,ground:=Ground.textOnly Departure.lateStores },{ on:=3,ground:=Ground.textOnly Departure.lateStores },{ on:=4,ground:=Ground.textOnly Departure.lateStores },{ on:=5,ground:=Ground.textOnly Departure.lateStores },{ on:=6,ground:=Ground.textOnly Departure.lateStores },{ on:=7,ground:=Ground.textOnly Departure.lateStoresUnsure }],guard:=none }) rfl (fun K hK=>?_) AllReadyH.nil
  go_simp
  refine hK.out _ _ hS9 (fun hHeld=>?_);clear hK K
  try simp only [Act.put,List.setIfInBounds_toArray,List.set_cons_zero,List.set_cons_succ]
  refine wpAnyH_ready (rs:=[9]) (by kernel_rfl) (by simp) ?_;refine AllReadyH.cons (o:={ dst:=some 3,op:=Op.assign (Operand.tmp 28),type:=27,pos := "items.go:131", after:=#[{ on:=7,ground:=Ground.data },{ on:=8,ground:=Ground.chain },{ on:=0,ground:=Ground.phase },{ on:=1,ground:=Ground.phase },{ on:=2,ground:=Ground.phase },{ on:=3,ground:=Ground.phase },{ on:=4,ground:=Ground.phase },{ on:=5,ground:=Ground.phase },{ on:=6,ground:=Ground.phase },{ on:=7,ground:=Ground.phase },{ on:=8,ground:=Ground.phase }],guard:=none }) rfl (fun K hK=>?_) AllReadyH.nil
  go_simp
  refine hK.out _ _ hS9 (fun hHeld=>?_);clear hK K
  try simp only [Act.put,List.setIfInBounds_toArray,List.set_cons_zero,List.set_cons_succ]
  refine wpAnyH_done (by kernel_rfl) ?_ _
  go_wp2
  have hr3:=blk_set (blk_set (blk_set hk8 0 (.string ⟨#[109,97,105,110]⟩)) 1 (.int .i64 t.at_.line)) 2 (.int .i64 t.at_.col);have r0:=(blk_cell hr3 0).trans rfl;have r1:=(blk_cell hr3 1).trans rfl;have r2:=(blk_cell hr3 2).trans rfl;refine bodyPost_ret (v := .tuple #[.agg #[.string ⟨#[109,97,105,110]⟩,.int .i64 t.at_.line,.int .i64 t.at_.col],.nilIface]) (by simp [results,Tryz.results140,go_sem,r0,r1,r2]) rfl (.inl ⟨_,_,HF.out,rfl, ?_, ?_⟩)
  ·exact hR8.but hB9 (fun e=>by omega) (fun e=>by omega) (fun e=>by omega) (fun k e => .inr (by subst e;exact ⟨_,_,_,hk8,by decide,by decide⟩))
  ·exact (HKK.out.trans hK8).new hB9 (fun k e=>by omega)
end Go.Proofs.YtdfpkmfeldoamaaGreatDoor
