/- A part of the proof: A part of the proof. -/
import Derived.Test.YtdfpkmfeldoamaaGreatDoorSp
set_option linter.unusedSimpArgs false
set_option linter.unusedVariables false
set_option maxRecDepth 100000
set_option maxHeartbeats 4000000
namespace Go.Proofs.YtdfpkmfeldoamaaGreatDoor
section
open Go.RowKit Tn Lx
attribute [local go_sem] tok_field0 tok_field1 tok_field3
theorem rnum_any (c:Cx)(X:Nat->Prop)(w:World)(s:Ex.S)(h:Rd c X w s):Calls Tryz.prog 133 #[.pointer (some ⟨c.r,0,none⟩)] w (OneP c X w 3 s (Ex.tk c.ts s.p) (Ex.at_ c.ts s)):=by
 obtain ⟨W,hW⟩:∃ W,w.alloc (.cells #[.int .i64 0,.string ⟨#[]⟩,.int .i64 0,.int .i64 0,.int .i64 0] 118)=W:=⟨_,rfl⟩;have hb:Below w.heap.size w W:=by rw [<- hW];exact (Below.refl _ w).alloc (Nat.le_refl _) _
 have hz:Five W w.heap.size (.int .i64 0) (.string ⟨#[]⟩) (.int .i64 0) (.int .i64 0) (.int .i64 0):=⟨by rw [<- hW];exact blk_new w _⟩;have hA:=one_any c X W s 3 (h.below hb) (by decide);have hlt:=h.lt;have hs:=h.size;have hr1:=h.rlt;have hb1:=h.blt;have hg1:=h.glt;generalize Ex.tk c.ts s.p=t at *;generalize Ex.at_ c.ts s=p at *;have HW:=Lib.hid hW;have HB:=Lib.hid hb;have HZ:=Lib.hid hz;have HA:=Lib.hid hA;clear hW hb hz h hA
 go_enter Tryz.func133,Tryz.ntmps133
 go_wp2_with fail
 rw [HW.out];refine HA.out.mono ?_;rintro e w1 (⟨hk,rfl,hR1,hK1⟩ | ⟨hk,rfl,hR1,hK1⟩)
 ·have HF:=Lib.hid (HZ.out.kp hK1 (by omega) (by omega));have HR1:=Lib.hid hR1;have HK1:=Lib.hid (Below.then_kp HB.out hK1);have HK:=Lib.hid hk;clear hR1 hK1 HB HZ HW HA hk;unfold tval;have z0:=HF.out.c0;have z1:=HF.out.c1;have z2:=HF.out.c2;have z3:=HF.out.c3;have z4:=HF.out.c4;have zf:=HF.out.fz
  go_wp2
  have T:=HF.out.store (.int .i64 t.kind) (.string ⟨t.text.toArray⟩) (.int .i64 t.int) (.int .i64 t.at_.line) (.int .i64 t.at_.col);refine bodyPost_ret (v := .tuple #[tval t,.nilIface]) (by simp [results,Tryz.results133,go_sem,T.c0,T.c1,T.c2,T.c3,T.c4,tval]) rfl (.inl ⟨HK.out,rfl, ?_, ?_⟩)
  ·exact HR1.out.five HF.out (by omega) _ _ _ _ _
  ·exact HK1.out.new (but_five _ _ _ _ _ _ _) (fun k e=>by omega)
 ·have HF:=Lib.hid (HZ.out.kp hK1 (by omega) (by omega));have HR1:=Lib.hid hR1;have HK1:=Lib.hid (Below.then_kp HB.out hK1);have HK:=Lib.hid hk;clear hR1 hK1 HB HZ HW HA hk;unfold tval Ex.zt;have z0:=HF.out.c0;have z1:=HF.out.c1;have z2:=HF.out.c2;have z3:=HF.out.c3;have z4:=HF.out.c4;have zf:=HF.out.fz;obtain ⟨D,hD⟩:∃ D,dval 5 p=D:=⟨_,rfl⟩;rw [hD];have HD:=Lib.hid hD;clear hD
  go_wp2
  have T:=HF.out.store (.int .i64 0) (.string ⟨#[]⟩) (.int .i64 0) (.int .i64 0) (.int .i64 0);refine bodyPost_ret (v := .tuple #[tval Ex.zt,D]) (by simp [results,Tryz.results133,go_sem,T.c0,T.c1,T.c2,T.c3,T.c4,tval,Ex.zt]) rfl (.inr ⟨HK.out,by rw [HD.out], ?_, ?_⟩)
  ·exact HR1.out.five HF.out (by omega) _ _ _ _ _
  ·exact HK1.out.new (but_five _ _ _ _ _ _ _) (fun k e=>by omega)
theorem number_any (c:Cx)(X:Nat->Prop)(w:World)(s:Ex.S)(pp bd:Nat)(d:Pg.Dc)(x:Value)(h:Rd c X w s)(hpp:w.heap[pp]? = some (.cells #[.pointer (some ⟨c.r,0,none⟩),x] 79 (0,0)))(hbd:w.heap[bd]? = some (.cells (dcCells d) 152 (0,0)))(hbB:c.B<=bd)(hpB:c.B<=pp)
  (hI:∀ p,0<=(Ex.tk c.ts p).int/\(Ex.tk c.ts p).int<1000000000000000000):
  Calls Tryz.prog 80 #[.pointer (some ⟨pp,0,none⟩),.pointer (some ⟨bd,0,none⟩)] w (DcP c X w bd (Pf.number c.ts d s)):=by
 have hr1:=h.rlt;have hb1:=h.blt;have hg1:=h.glt;have hsz:=h.size;have hne:pp≠bd:=fun e=>by subst e;rw [hpp] at hbd;injection hbd with e;injection e with _ e;exact absurd e (by decide)
 have p0:w.cell? ⟨pp,0,none⟩=some (.pointer (some ⟨c.r,0,none⟩)):=(blk_cell hpp 0).trans rfl;obtain ⟨V,hV⟩:∃ V,w.alloc (.cells #[.string ⟨#[61]⟩] 9)=V:=⟨_,rfl⟩;have hbV:Below w.heap.size w V:=by rw [<- hV];exact (Below.refl _ w).alloc (Nat.le_refl _) _
 have ks:V.cell? ⟨w.heap.size,0,none⟩=some (.string ⟨#[61]⟩):=by rw [<- hV];exact (blk_cell (blk_new w _) 0).trans rfl
 have hT:=take_any c X V s [61] w.heap.size (h.below hbV) ks;have hE:Pf.number c.ts d s=(Ex.take c.ts [61] s).bind fun _ s1 =>
  if ((Ex.tk c.ts (Pf.past (Ex.is c.ts s1 [45]) s1).p).kind==3)=true then .ok ⟨d.name,d.conf,d.integ,if Ex.is c.ts s1 [45]=true then -(Ex.tk c.ts (Pf.past (Ex.is c.ts s1 [45]) s1).p).int else (Ex.tk c.ts (Pf.past (Ex.is c.ts s1 [45]) s1).p).int⟩ (Pf.past (Ex.is c.ts s1 [45]) s1).skip
  else Ex.wrong c.ts 5 (Pf.past (Ex.is c.ts s1 [45]) s1):=rfl
 generalize Pf.number c.ts d s=R at *;have HE:=Lib.hid hE;have HT:=Lib.hid hT;have HV:=Lib.hid hV;have HB:=Lib.hid hbV;have HP:=Lib.hid hpp;have HD:=Lib.hid hbd;have HI:=Lib.hid hI;clear hE hT hV hbV ks h hpp hbd hI
 go_enter Tryz.func80,Tryz.ntmps80
 go_wp2_with fail
 rw [HV.out];refine HT.out.mono ?_;rintro e w1 (⟨s1,hE1,rfl,hR1,hK1⟩ | ⟨cd,p1,hE1,rfl,hK1⟩)
 rotate_left
 ·have hF:R = .bad cd p1:=by rw [HE.out,hE1];rfl
  have HFF:=Lib.hid hF;have HK:=Lib.hid (Below.then_kp HB.out hK1);clear hF hK1 hE1;unfold dval
  go_wp2
  go_ret
  exact .inr ⟨cd,p1,HFF.out,rfl,FreeD.of_kp HK.out⟩
 have hK:=Below.then_kp HB.out hK1;have hp1:=hK.heap HP.out (by omega) (by omega) (fun e=>absurd e (by decide));have hd1:=hK.heap HD.out (by omega) (by omega) (fun e=>absurd e (by decide));have p01:w1.cell? ⟨pp,0,none⟩=some (.pointer (some ⟨c.r,0,none⟩)):=(blk_cell hp1 0).trans rfl;have hIs:=is_any c X w1 s1 [45] hR1;have hIt:=HI.out (Pf.past (Ex.is c.ts s1 [45]) s1).p;have hF:R=if ((Ex.tk c.ts (Pf.past (Ex.is c.ts s1 [45]) s1).p).kind==3)=true then .ok ⟨d.name,d.conf,d.integ,if Ex.is c.ts s1 [45]=true then -(Ex.tk c.ts (Pf.past (Ex.is c.ts s1 [45]) s1).p).int else (Ex.tk c.ts (Pf.past (Ex.is c.ts s1 [45]) s1).p).int⟩ (Pf.past (Ex.is c.ts s1 [45]) s1).skip
  else .bad 5 (Ex.at_ c.ts (Pf.past (Ex.is c.ts s1 [45]) s1)):=by rw [HE.out,hE1];rfl
 have hmt:Ex.is c.ts s1 [45]=true->Ex.take c.ts [45] s1 = .ok () s1.skip:=fun e=>by rw [Ex.take,if_pos e]
 have hP1:=Lib.hid hp1;have hD1:=Lib.hid hd1;have HK:=Lib.hid hK;have HR1:=Lib.hid hR1;have HIS:=Lib.hid hIs;have HF:=Lib.hid hF;have HMT:=Lib.hid hmt;have HIT:=Lib.hid hIt;clear hp1 hd1 hK hR1 hIs hF hmt hIt hE1 HE HT HV HB HP HD HI p0
 cases hm:Ex.is c.ts s1 [45] with
 | false =>
  have hIs:=HIS.out;rw [hm] at hIs;have hF:=HF.out;have hIt:=HIT.out;rw [hm] at hF hIt;simp only [Pf.past,Bool.false_eq_true,if_false] at hF hIt;have hN:=fun w2 (hR:Rd c X w2 s1)=>rnum_any c X w2 s1 hR;generalize Ex.tk c.ts s1.p=t at *;generalize Ex.at_ c.ts s1=pt at *;have HN:=Lib.hid hN;have HI1:=Lib.hid hIs;have HF1:=Lib.hid hF;have HT1:=Lib.hid hIt;clear hIs hF hIt hN HIS HF HIT HMT hm
  go_wp2_with fail
  refine HI1.out.mono ?_;rintro e w2 ⟨rfl,hb2⟩;have p02:w2.cell? ⟨pp,0,none⟩=some (.pointer (some ⟨c.r,0,none⟩)):=(blk_cell ((hb2.block _ (lt_of_heap hP1.out)).trans hP1.out) 0).trans rfl;have hR2:=HR1.out.below hb2;have hK2:=HK.out.then_below hb2;have hd2:=(hb2.block _ (lt_of_heap hD1.out)).trans hD1.out;have HN2:=Lib.hid (HN.out w2 hR2);have HK2:=Lib.hid hK2;have HD2:=Lib.hid hd2;clear hR2 hK2 hd2 hb2 HN HI1 HK HR1 hD1 hP1 p01
  go_wp2_with fail
  refine HN2.out.mono ?_;rintro e w3 (⟨hk,rfl,hR3,hK3⟩ | ⟨hk,rfl,hR3,hK3⟩)
  ·have hd3:=hK3.heap HD2.out (by omega) (by omega) (fun e=>absurd e (by decide));obtain ⟨V3,hV3⟩:∃ V,w3.alloc (.cells #[.int .i64 t.kind,.string ⟨t.text.toArray⟩,.int .i64 t.int,.int .i64 t.at_.line,.int .i64 t.at_.col] 118)=V:=⟨_,rfl⟩;have hbV3:Below w3.heap.size w3 V3:=by rw [<- hV3];exact (Below.refl _ w3).alloc (Nat.le_refl _) _
   have hG:Five V3 w3.heap.size (.int .i64 t.kind) (.string ⟨t.text.toArray⟩) (.int .i64 t.int) (.int .i64 t.at_.line) (.int .i64 t.at_.col):=⟨by rw [<- hV3];exact blk_new w3 _⟩;have hdV:=(hbV3.block _ (lt_of_heap hd3)).trans hd3;have hx9:V3.cell? ⟨bd,9,none⟩=some (.int .i64 d.int):=(blk_cell hdV 9).trans rfl;have hxf:V3.frozen? ⟨bd,9,none⟩=false:=blk_frozen hdV 9;have hS:But (fun k=>k=bd) V3 (V3.setCell ⟨bd,9,none⟩ (.int .i64 (t.int))):=But.setCell (p:=fun k=>k=bd) V3 rfl 9 _;have hR4:=(hR3.below hbV3).but hS (fun e=>by omega) (fun e=>by omega) (fun e=>by omega) (fun k e => .inr (by subst e;exact ⟨_,_,_,hdV,by decide,by decide⟩));have hK4:=freeD_but ((HK2.out.trans hK3).then_below hbV3) hS;have hd4:(V3.setCell ⟨bd,9,none⟩ (.int .i64 (t.int))).heap[bd]? = some (.cells (dcCells ⟨d.name,d.conf,d.integ,t.int⟩) 152 (0,0)):=(blk_set hdV 9 _).trans rfl;have hw:wrap64 (t.int)=t.int:=by rw [IntWalk.wrap64_in _ (by have:=HT1.out;omega)]
   have y2:=hG.c2;have hF2:R = .ok ⟨d.name,d.conf,d.integ,t.int⟩ (s1).skip:=by rw [HF1.out,if_pos (by simp [hk])]
   have HV3:=Lib.hid hV3;have HR4:=Lib.hid hR4;have HK4:=Lib.hid hK4;have HD4:=Lib.hid hd4;have HF2:=Lib.hid hF2;clear hV3 hR4 hK4 hd4 hF2 hS hG hdV hbV3 hd3 hR3 hK3 hk HF1 HN2 HK2 HD2 p02;rw [<- HV3.out] at hx9 hxf y2;unfold tval
   go_wp2
   go_ret
   rw [HV3.out];exact .inl ⟨_,_,HF2.out,rfl,HR4.out,HK4.out,HD4.out⟩
  ·have hd3:=hK3.heap HD2.out (by omega) (by omega) (fun e=>absurd e (by decide));obtain ⟨V3,hV3⟩:∃ V,w3.alloc (.cells #[.int .i64 0,.string ⟨#[]⟩,.int .i64 0,.int .i64 0,.int .i64 0] 118)=V:=⟨_,rfl⟩;have hbV3:Below w3.heap.size w3 V3:=by rw [<- hV3];exact (Below.refl _ w3).alloc (Nat.le_refl _) _
   have hG:Five V3 w3.heap.size (.int .i64 0) (.string ⟨#[]⟩) (.int .i64 0) (.int .i64 0) (.int .i64 0):=⟨by rw [<- hV3];exact blk_new w3 _⟩;have hdV:=(hbV3.block _ (lt_of_heap hd3)).trans hd3;have hx9:V3.cell? ⟨bd,9,none⟩=some (.int .i64 d.int):=(blk_cell hdV 9).trans rfl;have hxf:V3.frozen? ⟨bd,9,none⟩=false:=blk_frozen hdV 9;have hS:But (fun k=>k=bd) V3 (V3.setCell ⟨bd,9,none⟩ (.int .i64 0)):=But.setCell (p:=fun k=>k=bd) V3 rfl 9 _;have hK4:=freeD_but ((HK2.out.trans hK3).then_below hbV3) hS;have y2:=hG.c2;have hF2:R = .bad 5 pt:=by rw [HF1.out,if_neg (by simp [hk])]
   obtain ⟨D,hD⟩:∃ D,dval 5 pt=D:=⟨_,rfl⟩;rw [hD];have HV3:=Lib.hid hV3;have HK4:=Lib.hid hK4;have HF2:=Lib.hid hF2;have HDD:=Lib.hid hD;clear hV3 hK4 hF2 hS hG hdV hbV3 hd3 hR3 hK3 hk HF1 HN2 HK2 HD2 p02 hD;rw [<- HV3.out] at hx9 hxf y2;unfold tval Ex.zt
   go_wp2
   go_ret
   rw [HV3.out];exact .inr ⟨5,pt,HF2.out,by rw [HDD.out];rfl,HK4.out⟩
 | true =>
  have hIs:=HIS.out;rw [hm] at hIs;have hF:=HF.out;have hIt:=HIT.out;rw [hm] at hF hIt;simp only [Pf.past,if_true] at hF hIt;have hN:=fun w2 (hR:Rd c X w2 s1.skip)=>rnum_any c X w2 s1.skip hR;have hTk:=HMT.out hm;have hTT:=fun (w2:World) (b:Nat) (hR:Rd c X w2 s1) (hc:w2.cell? ⟨b,0,none⟩=some (.string ⟨#[45]⟩))=>take_any c X w2 s1 [45] b hR hc;rw [hTk] at hTT;generalize Ex.tk c.ts s1.skip.p=t at *;generalize Ex.at_ c.ts s1.skip=pt at *;obtain ⟨s2,hs2⟩:∃ s2,s1.skip=s2:=⟨_,rfl⟩;rw [hs2] at hF hN hTT;have HN:=Lib.hid hN;have HI1:=Lib.hid hIs;have HF1:=Lib.hid hF;have HT1:=Lib.hid hIt;have HTT:=Lib.hid hTT;clear hIs hF hIt hN hTT hTk HIS HF HIT HMT hm hs2
  go_wp2_with fail
  refine HI1.out.mono ?_;rintro e w2 ⟨rfl,hb2⟩;have p02:w2.cell? ⟨pp,0,none⟩=some (.pointer (some ⟨c.r,0,none⟩)):=(blk_cell ((hb2.block _ (lt_of_heap hP1.out)).trans hP1.out) 0).trans rfl;obtain ⟨V2,hV2⟩:∃ V,w2.alloc (.cells #[.string ⟨#[45]⟩] 9)=V:=⟨_,rfl⟩;have hbV2:Below w2.heap.size w2 V2:=by rw [<- hV2];exact (Below.refl _ w2).alloc (Nat.le_refl _) _
  have ks2:V2.cell? ⟨w2.heap.size,0,none⟩=some (.string ⟨#[45]⟩):=by rw [<- hV2];exact (blk_cell (blk_new w2 _) 0).trans rfl
  have hb12:=hb2.trans (hbV2.mono hb2.size);have hT2:=HTT.out V2 w2.heap.size (HR1.out.below hb12) ks2;have HV2:=Lib.hid hV2;have HT2:=Lib.hid hT2;have HB12:=Lib.hid hb12;clear hV2 hT2 hb12 hbV2 ks2 hb2 HI1 HTT
  go_wp2_with fail
  rw [HV2.out];refine HT2.out.mono ?_;rintro e w5 (⟨s5,hE5,rfl,hR5,hK5⟩ | ⟨cd,p5,hE5,rfl,hK5⟩)
  rotate_left
  ·cases hE5
  injection hE5 with _ e5
  subst e5;have hK15:=Below.then_kp (c:=c) HB12.out hK5;have hp5:=hK15.heap hP1.out (by omega) (by omega) (fun e=>absurd e (by decide));have hd2:=hK15.heap hD1.out (by omega) (by omega) (fun e=>absurd e (by decide));have p05:w5.cell? ⟨pp,0,none⟩=some (.pointer (some ⟨c.r,0,none⟩)):=(blk_cell hp5 0).trans rfl;have HN2:=Lib.hid (HN.out w5 hR5);have HK2:=Lib.hid (HK.out.trans hK15);have HD2:=Lib.hid hd2;clear hK15 hp5 hd2 hR5 hK5 HN HT2 HV2 HB12 HK HR1 hD1 hP1 p01 p02;have p02:=p05
  go_wp2_with fail
  refine HN2.out.mono ?_;rintro e w3 (⟨hk,rfl,hR3,hK3⟩ | ⟨hk,rfl,hR3,hK3⟩)
  ·have hd3:=hK3.heap HD2.out (by omega) (by omega) (fun e=>absurd e (by decide));obtain ⟨V3,hV3⟩:∃ V,w3.alloc (.cells #[.int .i64 t.kind,.string ⟨t.text.toArray⟩,.int .i64 t.int,.int .i64 t.at_.line,.int .i64 t.at_.col] 118)=V:=⟨_,rfl⟩;have hbV3:Below w3.heap.size w3 V3:=by rw [<- hV3];exact (Below.refl _ w3).alloc (Nat.le_refl _) _
   have hG:Five V3 w3.heap.size (.int .i64 t.kind) (.string ⟨t.text.toArray⟩) (.int .i64 t.int) (.int .i64 t.at_.line) (.int .i64 t.at_.col):=⟨by rw [<- hV3];exact blk_new w3 _⟩;have hdV:=(hbV3.block _ (lt_of_heap hd3)).trans hd3;have hx9:V3.cell? ⟨bd,9,none⟩=some (.int .i64 d.int):=(blk_cell hdV 9).trans rfl;have hxf:V3.frozen? ⟨bd,9,none⟩=false:=blk_frozen hdV 9;have hS:But (fun k=>k=bd) V3 (V3.setCell ⟨bd,9,none⟩ (.int .i64 (-t.int))):=But.setCell (p:=fun k=>k=bd) V3 rfl 9 _;have hR4:=(hR3.below hbV3).but hS (fun e=>by omega) (fun e=>by omega) (fun e=>by omega) (fun k e => .inr (by subst e;exact ⟨_,_,_,hdV,by decide,by decide⟩));have hK4:=freeD_but ((HK2.out.trans hK3).then_below hbV3) hS;have hd4:(V3.setCell ⟨bd,9,none⟩ (.int .i64 (-t.int))).heap[bd]? = some (.cells (dcCells ⟨d.name,d.conf,d.integ,-t.int⟩) 152 (0,0)):=(blk_set hdV 9 _).trans rfl;have hw:wrap64 (-t.int) = -t.int:=by rw [IntWalk.wrap64_in _ (by have:=HT1.out;omega)]
   have y2:=hG.c2;have hF2:R = .ok ⟨d.name,d.conf,d.integ,-t.int⟩ (s2).skip:=by rw [HF1.out,if_pos (by simp [hk])]
   have HV3:=Lib.hid hV3;have HR4:=Lib.hid hR4;have HK4:=Lib.hid hK4;have HD4:=Lib.hid hd4;have HF2:=Lib.hid hF2;clear hV3 hR4 hK4 hd4 hF2 hS hG hdV hbV3 hd3 hR3 hK3 hk HF1 HN2 HK2 HD2 p02;rw [<- HV3.out] at hx9 hxf y2;unfold tval
   go_wp2
   go_ret
   rw [HV3.out];exact .inl ⟨_,_,HF2.out,rfl,HR4.out,HK4.out,HD4.out⟩
  ·have hd3:=hK3.heap HD2.out (by omega) (by omega) (fun e=>absurd e (by decide));obtain ⟨V3,hV3⟩:∃ V,w3.alloc (.cells #[.int .i64 0,.string ⟨#[]⟩,.int .i64 0,.int .i64 0,.int .i64 0] 118)=V:=⟨_,rfl⟩;have hbV3:Below w3.heap.size w3 V3:=by rw [<- hV3];exact (Below.refl _ w3).alloc (Nat.le_refl _) _
   have hG:Five V3 w3.heap.size (.int .i64 0) (.string ⟨#[]⟩) (.int .i64 0) (.int .i64 0) (.int .i64 0):=⟨by rw [<- hV3];exact blk_new w3 _⟩;have hdV:=(hbV3.block _ (lt_of_heap hd3)).trans hd3;have hx9:V3.cell? ⟨bd,9,none⟩=some (.int .i64 d.int):=(blk_cell hdV 9).trans rfl;have hxf:V3.frozen? ⟨bd,9,none⟩=false:=blk_frozen hdV 9;have hS:But (fun k=>k=bd) V3 (V3.setCell ⟨bd,9,none⟩ (.int .i64 0)):=But.setCell (p:=fun k=>k=bd) V3 rfl 9 _;have hK4:=freeD_but ((HK2.out.trans hK3).then_below hbV3) hS;have y2:=hG.c2;have hF2:R = .bad 5 pt:=by rw [HF1.out,if_neg (by simp [hk])]
   obtain ⟨D,hD⟩:∃ D,dval 5 pt=D:=⟨_,rfl⟩;rw [hD];have HV3:=Lib.hid hV3;have HK4:=Lib.hid hK4;have HF2:=Lib.hid hF2;have HDD:=Lib.hid hD;clear hV3 hK4 hF2 hS hG hdV hbV3 hd3 hR3 hK3 hk HF1 HN2 HK2 HD2 p02 hD;rw [<- HV3.out] at hx9 hxf y2;unfold tval Ex.zt
   go_wp2
   go_ret
   rw [HV3.out];exact .inr ⟨5,pt,HF2.out,by rw [HDD.out];rfl,HK4.out⟩
end
section
open Go.RowKit Tn Lx
def kindF (R:Ex.Res Pg.Dc)(i:Nat)(g:Pf.St):Pg.R Pf.St:=(Pg.lift R).bind fun d s1 => .ok (dput g d i) s1
theorem exn5_any (c:Cx)(X:Nat->Prop)(w:World)(s:Ex.S)(q pp:Nat)(U:Nat->Value)(fs:List FnV)(g:Pf.St)(h:Rd c X w s)(hP:Pm5 c q pp U fs w g)(hf:g.exns.length<=200):
  Calls Tryz.prog 82 #[.pointer (some ⟨pp,0,none⟩)] w (ReadF c X w q pp (kindF (Pg.decl0 c.ts Pg.wExn s) 4 g)):=by
 have hr:=h.rlt;have hb:=h.blt;have p1:=hP.p1;have hD:=decl_none c X w s q pp 4 _ (U 4) Pg.wExn (dl g 4) _ h hP.par hP.ppB hP.qB hP.prog (progF_get ⟨by decide,by decide⟩) (hP.dec 4 ⟨by decide,by decide⟩) hf;generalize Pg.decl0 c.ts Pg.wExn s=R at *;have HD:=Lib.hid hD;have HP:=Lib.hid hP;clear hD hP h
 go_enter Tryz.func82,Tryz.ntmps82
 go_wp2_with fail
 refine HD.out.mono ?_;rintro e w1 (⟨d,s1,v',rfl,rfl,hR1,ho,hq,hB,hv⟩ | ⟨cd,p,rfl,rfl,hK⟩)
 ·have HR:=Lib.hid hR1;have HM:=Lib.hid (HP.out.put ⟨by decide,by decide⟩ hr hb ho hq hB hv);have HK:=Lib.hid (freeL_kf hB (HP.out.dec 4 ⟨by decide,by decide⟩));clear hR1 ho hq hB hv
  go_wp2
  go_ret
  exact .inl ⟨_,_,_,_,rfl,rfl,HR.out,HM.out,HK.out⟩
 ·have HK:=Lib.hid (Kf.of_kp (q:=q) hK);clear hK;unfold dval
  go_wp2
  go_ret
  exact .inr ⟨cd,p,[],rfl,rfl,HK.out⟩
theorem inp5_any (c:Cx)(X:Nat->Prop)(w:World)(s:Ex.S)(q pp:Nat)(U:Nat->Value)(fs:List FnV)(g:Pf.St)(h:Rd c X w s)(hP:Pm5 c q pp U fs w g)(hf:(dl g 1).length<=200):
  Calls Tryz.prog 76 #[.pointer (some ⟨pp,0,none⟩)] w (ReadF c X w q pp (kindF (Pg.declP c.ts Pg.wInput s) 1 g)):=by
 have hr:=h.rlt;have hb:=h.blt;have hsz:=h.size;have p1:=hP.p1;obtain ⟨V,hV⟩:∃ V,w.alloc (.cells #[.func (.func 78) #[] #[]] 180)=V:=⟨_,rfl⟩;have hbV:Below w.heap.size w V:=by rw [<- hV];exact (Below.refl _ w).alloc (Nat.le_refl _) _
 have kp:V.heap[w.heap.size]? = some (.cells #[.func (.func 78) #[] #[]] 180 (0,0)):=by rw [<- hV];exact blk_new w _
 have hPV:=hP.below hbV;have hD:=decl_points c X V s q pp 1 _ (U 1) Pg.wInput (dl g 1) _ w.heap.size (h.below hbV) hPV.par hPV.ppB hPV.qB hPV.prog (progF_get ⟨by decide,by decide⟩) (hPV.dec 1 ⟨by decide,by decide⟩) hf kp hsz;generalize Pg.declP c.ts Pg.wInput s=R at *;have HD:=Lib.hid hD;have HP:=Lib.hid hPV;have HV:=Lib.hid hV;have HB:=Lib.hid (Kf.of_kp (q:=q) (Kp.of_below (c:=c) hbV));clear hD hP h hV hbV kp hPV
 go_enter Tryz.func76,Tryz.ntmps76
 go_wp2_with fail
 rw [HV.out];refine HD.out.mono ?_;rintro e w1 (⟨d,s1,v',rfl,rfl,hR1,ho,hq,hB,hv⟩ | ⟨cd,p,rfl,rfl,hK⟩)
 ·have HR:=Lib.hid hR1;have HM:=Lib.hid (HP.out.put ⟨by decide,by decide⟩ hr hb ho hq hB hv);have HK:=Lib.hid (HB.out.trans (freeL_kf hB (HP.out.dec 1 ⟨by decide,by decide⟩)));clear hR1 ho hq hB hv
  go_wp2
  go_ret
  exact .inl ⟨_,_,_,_,rfl,rfl,HR.out,HM.out,HK.out⟩
 ·have HK:=Lib.hid (HB.out.trans (Kf.of_kp (q:=q) hK));clear hK;unfold dval
  go_wp2
  go_ret
  exact .inr ⟨cd,p,[],rfl,rfl,HK.out⟩
theorem cha5_any (c:Cx)(X:Nat->Prop)(w:World)(s:Ex.S)(q pp:Nat)(U:Nat->Value)(fs:List FnV)(g:Pf.St)(h:Rd c X w s)(hP:Pm5 c q pp U fs w g)(hf:(dl g 3).length<=200):
  Calls Tryz.prog 81 #[.pointer (some ⟨pp,0,none⟩)] w (ReadF c X w q pp (kindF (Pg.declP c.ts Pf.wCha s) 3 g)):=by
 have hr:=h.rlt;have hb:=h.blt;have hsz:=h.size;have p1:=hP.p1;obtain ⟨V,hV⟩:∃ V,w.alloc (.cells #[.func (.func 78) #[] #[]] 180)=V:=⟨_,rfl⟩;have hbV:Below w.heap.size w V:=by rw [<- hV];exact (Below.refl _ w).alloc (Nat.le_refl _) _
 have kp:V.heap[w.heap.size]? = some (.cells #[.func (.func 78) #[] #[]] 180 (0,0)):=by rw [<- hV];exact blk_new w _
 have hPV:=hP.below hbV;have hD:=decl_points c X V s q pp 3 _ (U 3) Pf.wCha (dl g 3) _ w.heap.size (h.below hbV) hPV.par hPV.ppB hPV.qB hPV.prog (progF_get ⟨by decide,by decide⟩) (hPV.dec 3 ⟨by decide,by decide⟩) hf kp hsz;generalize Pg.declP c.ts Pf.wCha s=R at *;have HD:=Lib.hid hD;have HP:=Lib.hid hPV;have HV:=Lib.hid hV;have HB:=Lib.hid (Kf.of_kp (q:=q) (Kp.of_below (c:=c) hbV));clear hD hP h hV hbV kp hPV
 go_enter Tryz.func81,Tryz.ntmps81
 go_wp2_with fail
 rw [HV.out];refine HD.out.mono ?_;rintro e w1 (⟨d,s1,v',rfl,rfl,hR1,ho,hq,hB,hv⟩ | ⟨cd,p,rfl,rfl,hK⟩)
 ·have HR:=Lib.hid hR1;have HM:=Lib.hid (HP.out.put ⟨by decide,by decide⟩ hr hb ho hq hB hv);have HK:=Lib.hid (HB.out.trans (freeL_kf hB (HP.out.dec 3 ⟨by decide,by decide⟩)));clear hR1 ho hq hB hv
  go_wp2
  go_ret
  exact .inl ⟨_,_,_,_,rfl,rfl,HR.out,HM.out,HK.out⟩
 ·have HK:=Lib.hid (HB.out.trans (Kf.of_kp (q:=q) hK));clear hK;unfold dval
  go_wp2
  go_ret
  exact .inr ⟨cd,p,[],rfl,rfl,HK.out⟩
end
end Go.Proofs.YtdfpkmfeldoamaaGreatDoor
