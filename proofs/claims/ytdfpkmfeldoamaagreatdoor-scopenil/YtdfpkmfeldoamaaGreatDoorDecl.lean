/- A part of the proof: A part of the proof. -/
import Derived.Test.YtdfpkmfeldoamaaGreatDoorMem6
import Derived.Laws.AppendOwn
import Derived.OwnWalk
import Derived.Deep.AppendLies
import Derived.Deep.RegionLaw
import Derived.Deep.RegionWith
set_option linter.unusedSimpArgs false
set_option linter.unusedVariables false
set_option maxRecDepth 100000
set_option maxHeartbeats 4000000
namespace Go.Proofs.YtdfpkmfeldoamaaGreatDoor
section
open Go.RowKit Tn Lx
attribute [local go_sem] tok_field0 tok_field1 tok_field3
theorem take_none (c:Cx)(X:Nat->Prop)(w:World)(s:Ex.S)(h:Rd c X w s):Calls Tryz.prog 38 #[.pointer (some ⟨c.r,0,none⟩),.slice none 0 0] w (TakeP c X w (Pg.takes c.ts [] s)):=by
 have HR:=Lib.hid h;clear h
 go_enter Tryz.func38,Tryz.ntmps38
 go_wp2_with fail
 refine wp_loop_rounds 1 ?_;rw [rounds_succ]
 go_wp2
 go_ret
 exact .inl ⟨s,rfl,rfl,HR.out,Kp.refl _ _⟩
theorem take_one (c:Cx)(X:Nat->Prop)(w:World)(s:Ex.S)(m:B)(b:Nat)(h:Rd c X w s)(hc:w.cell? ⟨b,0,none⟩=some (.string ⟨m.toArray⟩)):Calls Tryz.prog 38 #[.pointer (some ⟨c.r,0,none⟩),.slice (some ⟨b,0,none⟩) 1 1] w (TakeP c X w (Pg.takes c.ts [m] s)):=by
 have e:Pg.takes c.ts [m] s=Ex.take c.ts m s:=by
  rw [Pg.takes,Ex.take]
  split <;> rfl
 rw [e];exact take_any c X w s m b h hc
theorem take_two (c:Cx)(X:Nat->Prop)(w:World)(s:Ex.S)(m1 m2:B)(b:Nat)(h:Rd c X w s)(hb:w.heap[b]? = some (.cells #[.string ⟨m1.toArray⟩,.string ⟨m2.toArray⟩] 9 (0,0)))(hB:c.B<=b):Calls Tryz.prog 38 #[.pointer (some ⟨c.r,0,none⟩),.slice (some ⟨b,0,none⟩) 2 2] w (TakeP c X w (Pg.takes c.ts [m1,m2] s)):=by
 have hc0:w.cell? ⟨b,0,none⟩=some (.string ⟨m1.toArray⟩):=(blk_cell hb 0).trans rfl;have hr1:=h.rlt;have hb1:=h.blt;have hI:=is_any c X w s m1 h;have hS:=fun w1 (hR:Rd c X w1 s)=>wrong_at c X w1 s 5 hR;have hT:=fun w1 (hR:Rd c X w1 s) (hp:s.p<c.ts.length)=>skip_any c X w1 s hR hp
 by_cases hm:Ex.is c.ts s m1=true
 ·rw [hm] at hI;have hp:=Ex.is_lt hm;have hc1:∀ w1,Kp c w w1->w1.cell? ⟨b,1,none⟩=some (.string ⟨m2.toArray⟩):=fun w1 hk=>(blk_cell (hk.heap hb (by omega) (by omega) (fun e=>absurd e (by decide))) 1).trans rfl;have hI2:=fun w1 (hR:Rd c X w1 s.skip)=>is_any c X w1 s.skip m2 hR;have hS2:=fun w1 (hR:Rd c X w1 s.skip)=>wrong_at c X w1 s.skip 5 hR;have hT2:=fun w1 (hR:Rd c X w1 s.skip) (hp:s.skip.p<c.ts.length)=>skip_any c X w1 s.skip hR hp
  by_cases hm2:Ex.is c.ts s.skip m2=true
  ·have hE:Pg.takes c.ts [m1,m2] s = .ok () s.skip.skip:=by rw [Pg.takes,Ex.take,if_pos hm,Ex.Res.bind,Pg.takes,Ex.take,if_pos hm2,Ex.Res.bind,Pg.takes]
   have hp2:=Ex.is_lt hm2;rw [hm2] at hI2;have HI:=Lib.hid hI;have HT:=Lib.hid hT;have HE:=Lib.hid hE;have HR:=Lib.hid h;have HC1:=Lib.hid hc1;have HI2:=Lib.hid hI2;have HT2:=Lib.hid hT2;clear hI hS hT hE h hm hm2 hc1 hI2 hT2 hS2
   go_enter Tryz.func38,Tryz.ntmps38
   go_wp2_with fail
   refine wp_loop_rounds 3 ?_;rw [rounds_succ]
   go_wp2_with fail
   refine HI.out.mono ?_;rintro e w1 ⟨rfl,hb1⟩
   go_wp2_with fail
   refine (HT.out _ (HR.out.below hb1) hp).mono ?_;rintro e w2 ⟨rfl,hR2,hK2⟩;have HR2:=Lib.hid hR2;have HK2:=Lib.hid (Below.then_kp hb1 hK2);have c1:=HC1.out w2 HK2.out;clear hb1 hR2 hK2
   go_wp2_with fail
   rw [rounds_succ]
   go_wp2_with fail
   refine (HI2.out _ HR2.out).mono ?_;rintro e w3 ⟨rfl,hb3⟩
   go_wp2_with fail
   refine (HT2.out _ (HR2.out.below hb3) hp2).mono ?_;rintro e w4 ⟨rfl,hR4,hK4⟩;have HR4:=Lib.hid hR4;have HK4:=Lib.hid (HK2.out.trans (Below.then_kp hb3 hK4));clear hb3 hR4 hK4
   go_wp2_with fail
   rw [rounds_succ]
   go_wp2
   go_ret
   exact .inl ⟨_,HE.out,rfl,HR4.out,HK4.out⟩
  ·have hE:Pg.takes c.ts [m1,m2] s = .bad 5 (Ex.at_ c.ts s.skip):=by rw [Pg.takes,Ex.take,if_pos hm,Ex.Res.bind,Pg.takes,Ex.take,if_neg hm2];rfl
   have hm2':Ex.is c.ts s.skip m2=false:=by simpa using hm2
   rw [hm2'] at hI2;have HI:=Lib.hid hI;have HT:=Lib.hid hT;have HE:=Lib.hid hE;have HR:=Lib.hid h;have HC1:=Lib.hid hc1;have HI2:=Lib.hid hI2;have HS2:=Lib.hid hS2;clear hI hS hT hE h hm hm2 hm2' hc1 hI2 hT2 hS2
   go_enter Tryz.func38,Tryz.ntmps38
   go_wp2_with fail
   refine wp_loop_rounds 2 ?_;rw [rounds_succ]
   go_wp2_with fail
   refine HI.out.mono ?_;rintro e w1 ⟨rfl,hb1⟩
   go_wp2_with fail
   refine (HT.out _ (HR.out.below hb1) hp).mono ?_;rintro e w2 ⟨rfl,hR2,hK2⟩;have HR2:=Lib.hid hR2;have HK2:=Lib.hid (Below.then_kp hb1 hK2);have c1:=HC1.out w2 HK2.out;clear hb1 hR2 hK2
   go_wp2_with fail
   rw [rounds_succ]
   go_wp2_with fail
   refine (HI2.out _ HR2.out).mono ?_;rintro e w3 ⟨rfl,hb3⟩
   go_wp2_with fail
   refine (HS2.out _ (HR2.out.below hb3)).mono ?_;rintro e w4 ⟨rfl,hb4⟩;have HK4:=Lib.hid (HK2.out.then_below (hb3.trans (hb4.mono hb3.size)));clear hb3 hb4
   go_wp2
   go_ret
   exact .inr ⟨_,_,HE.out,rfl,HK4.out⟩
 ·have hm':Ex.is c.ts s m1=false:=by simpa using hm
  rw [hm'] at hI;have hE:Pg.takes c.ts [m1,m2] s = .bad 5 (Ex.at_ c.ts s):=by rw [Pg.takes,Ex.take,if_neg hm];rfl
  have HI:=Lib.hid hI;have HS:=Lib.hid hS;have HE:=Lib.hid hE;have HR:=Lib.hid h;clear hI hS hT hE h hm hm'
  go_enter Tryz.func38,Tryz.ntmps38
  go_wp2_with fail
  refine wp_loop_rounds 1 ?_;rw [rounds_succ]
  go_wp2_with fail
  refine HI.out.mono ?_;rintro e w1 ⟨rfl,hb1⟩
  go_wp2_with fail
  refine (HS.out _ (HR.out.below hb1)).mono ?_;rintro e w2 ⟨rfl,hb2⟩;have HK2:=Lib.hid (Kp.of_below (c:=c) (hb1.trans (hb2.mono hb1.size)));clear hb1 hb2
  go_wp2
  go_ret
  exact .inr ⟨_,_,HE.out,rfl,HK2.out⟩
end
section
open Go.RowKit Tn Lx
attribute [local go_sem] tok_field0 tok_field1 tok_field3
def nmCells (cs:Array Value)(o:Nat)(n:Pg.Nm):Array Value:=((cs.setIfInBounds o (.string ⟨n.text.toArray⟩)).setIfInBounds (o+1) (.int .i64 n.at_.line)).setIfInBounds (o+2) (.int .i64 n.at_.col)
def NameP (c:Cx)(X:Nat->Prop)(w:World)(bd o:Nat)(cs:Array Value)(t:TypeId)(R:Ex.Res Pg.Nm)(e:Ending)(w':World):Prop :=
 (∃ n s,R = .ok n s/\e = .returned .nilIface/\Rd c X w' s/\But (FreeD c bd w) w w'/\w'.heap[bd]? = some (.cells (nmCells cs o n) t (0,0)))\/(∃ cd p,R = .bad cd p/\e = .returned (dval cd p)/\But (FreeD c bd w) w w')
theorem but_three (w:World)(b o:Nat)(u0 u1 u2:Value):But (fun k=>k=b) w (((w.setCell ⟨b,o,none⟩ u0).setCell ⟨b,o+1,none⟩ u1).setCell ⟨b,o+2,none⟩ u2) :=
 ((But.setCell (p:=fun k=>k=b) w rfl o u0).trans (But.setCell (p:=fun k=>k=b) _ rfl (o+1) u1)).trans (But.setCell (p:=fun k=>k=b) _ rfl (o+2) u2)
theorem freeD_but {c:Cx}{bd:Nat}{a b d:World}(h:Kp c a b)(k:But (fun k=>k=bd) b d):But (FreeD c bd a) a d :=
 ⟨k.os.trans h.os,k.tape.trans h.tape,k.output.trans h.output,Nat.le_trans h.size k.size,fun i hi hp=>(k.block i (Nat.lt_of_lt_of_le hi h.size) (fun e=>hp (.inr e))).trans (h.block i hi (fun e=>hp (.inl e)))⟩
theorem pname_any (c:Cx)(X:Nat->Prop)(w:World)(s:Ex.S)(pp bd o:Nat)(cs:Array Value)(t:TypeId)(ms:List B)(bv x:Value)(h:Rd c X w s)(hpp:w.heap[pp]? = some (.cells #[.pointer (some ⟨c.r,0,none⟩),x] 79 (0,0)))(hbd:w.heap[bd]? = some (.cells cs t (0,0)))
  (ho:o+2<cs.size) (hbB:c.B<=bd) (hpB:c.B<=pp) (ht:t≠165/\t≠3) (hT:Calls Tryz.prog 38 #[.pointer (some ⟨c.r,0,none⟩),bv] w (TakeP c X w (Pg.takes c.ts ms s))):
  Calls Tryz.prog 132 #[.pointer (some ⟨pp,0,none⟩),.pointer (some ⟨bd,o,none⟩),bv] w (NameP c X w bd o cs t (Pg.nameAt c.ts ms s)):=by
 have p0:w.cell? ⟨pp,0,none⟩=some (.pointer (some ⟨c.r,0,none⟩)):=(blk_cell hpp 0).trans rfl;have hr1:=h.rlt;have hb1:=h.blt;have hg1:=h.glt;have hN:Pg.nameAt c.ts ms s=(Pg.takes c.ts ms s).bind fun _ s1=>if ((Ex.tk c.ts s1.p).kind==1)=true then .ok ⟨(Ex.tk c.ts s1.p).text,Ex.at_ c.ts s1⟩ s1.skip else Ex.wrong c.ts 5 s1:=rfl
 generalize Pg.nameAt c.ts ms s=R at *;have HN:=Lib.hid hN;have HT:=Lib.hid hT;have HP:=Lib.hid hpp;have HD:=Lib.hid hbd;have HTY:=Lib.hid ht;clear hN hT h hpp hbd ht
 go_enter Tryz.func132,Tryz.ntmps132
 go_wp2_with fail
 refine HT.out.mono ?_;rintro e w1 (⟨s1,hE1,rfl,hR1,hK1⟩ | ⟨cd,p1,hE1,rfl,hK1⟩)
 rotate_left
 ·have hF:R = .bad cd p1:=by rw [HN.out,hE1];rfl
  have HF:=Lib.hid hF;have HK:=Lib.hid hK1;clear hF hK1 hE1 HN HT HP HD p0;unfold dval
  go_wp2
  go_ret
  exact .inr ⟨cd,p1,HF.out,rfl,FreeD.of_kp HK.out⟩
 have hp1:=hK1.heap HP.out (by omega) (by omega) (fun e=>absurd e (by decide));have hd1:=hK1.heap HD.out (by omega) (by omega) HTY.out.1;have p01:w1.cell? ⟨pp,0,none⟩=some (.pointer (some ⟨c.r,0,none⟩)):=(blk_cell hp1 0).trans rfl;have hA:=name_any c X w1 s1 hR1;have hF:R=if ((Ex.tk c.ts s1.p).kind==1)=true then .ok ⟨(Ex.tk c.ts s1.p).text,(Ex.tk c.ts s1.p).at_⟩ s1.skip else .bad 5 (Ex.at_ c.ts s1):=by rw [HN.out,hE1];rfl
 generalize Ex.tk c.ts s1.p=tk at *;generalize Ex.at_ c.ts s1=p at *;have HA:=Lib.hid hA;have HF:=Lib.hid hF;have HK1:=Lib.hid hK1;have HD1:=Lib.hid hd1;clear hA hF hK1 hd1 hp1 hE1 HN HT HP HD p0 hR1
 go_wp2_with fail
 refine HA.out.mono ?_;rintro e w2 (⟨hk,rfl,hR2,hK2⟩ | ⟨hk,rfl,hR2,hK2⟩)
 ·have hd2:=hK2.heap HD1.out (by omega) (by omega) HTY.out.1;have hF2:R = .ok ⟨tk.text,tk.at_⟩ s1.skip:=by rw [HF.out,if_pos (by simp [hk])]
  obtain ⟨V,hV⟩:∃ V,w2.alloc (.cells #[.int .i64 tk.kind,.string ⟨tk.text.toArray⟩,.int .i64 tk.int,.int .i64 tk.at_.line,.int .i64 tk.at_.col] 118)=V:=⟨_,rfl⟩;have hbV:Below w2.heap.size w2 V:=by rw [<- hV];exact (Below.refl _ w2).alloc (Nat.le_refl _) _
  have hG:Five V w2.heap.size (.int .i64 tk.kind) (.string ⟨tk.text.toArray⟩) (.int .i64 tk.int) (.int .i64 tk.at_.line) (.int .i64 tk.at_.col):=⟨by rw [<- hV];exact blk_new w2 _⟩;have hdV:V.heap[bd]? = some (.cells cs t (0,0)):=(hbV.block bd (lt_of_heap hd2)).trans hd2;have hRV:=hR2.below hbV;have hKV:=(HK1.out.trans hK2).then_below hbV;have HF2:=Lib.hid hF2;have HV:=Lib.hid hV;have HG:=Lib.hid hG;have HDV:=Lib.hid hdV;have HRV:=Lib.hid hRV;have HKV:=Lib.hid hKV;clear hF2 hV hG hdV hRV hKV hd2 hbV hR2 hK2 hk HA HF HK1 HD1 p01;unfold tval;have y1:=HG.out.c1;have y3:=HG.out.c3;have y4:=HG.out.c4;obtain ⟨x0,hx0⟩:∃ x0,V.cell? ⟨bd,o,none⟩=some x0:=⟨cs[o],by rw [blk_cell HDV.out o];exact Array.getElem?_eq_getElem (by omega)⟩;obtain ⟨x1,hx1⟩:∃ x1,V.cell? ⟨bd,o+1,none⟩=some x1:=⟨cs[o+1],by rw [blk_cell HDV.out (o+1)];exact Array.getElem?_eq_getElem (by omega)⟩;obtain ⟨x2,hx2⟩:∃ x2,V.cell? ⟨bd,o+2,none⟩=some x2:=⟨cs[o+2],by rw [blk_cell HDV.out (o+2)];exact Array.getElem?_eq_getElem ho⟩;have xf:∀ i,V.frozen? ⟨bd,i,none⟩=false:=fun i=>blk_frozen HDV.out i
  go_upto_region 5 with fail
  rw [HV.out]
  go_wp2
  go_ret
  refine .inl ⟨_,_,HF2.out,rfl, ?_, ?_, ?_⟩
  ·exact HRV.out.but (but_three V bd o _ _ _) (fun e=>by omega) (fun e=>by omega) (fun e=>by omega) (fun k e => .inr (by subst e;exact ⟨_,_,_,HDV.out,HTY.out.1,HTY.out.2⟩))
  ·exact freeD_but HKV.out (but_three V bd o _ _ _)
  ·exact (blk_set (blk_set (blk_set HDV.out o _) (o+1) _) (o+2) _)
 ·have hd2:=hK2.heap HD1.out (by omega) (by omega) HTY.out.1;have hF2:R = .bad 5 p:=by rw [HF.out,if_neg (by simp [hk])]
  obtain ⟨V,hV⟩:∃ V,w2.alloc (.cells #[.int .i64 0,.string ⟨#[]⟩,.int .i64 0,.int .i64 0,.int .i64 0] 118)=V:=⟨_,rfl⟩;have hbV:Below w2.heap.size w2 V:=by rw [<- hV];exact (Below.refl _ w2).alloc (Nat.le_refl _) _
  have hG:Five V w2.heap.size (.int .i64 0) (.string ⟨#[]⟩) (.int .i64 0) (.int .i64 0) (.int .i64 0):=⟨by rw [<- hV];exact blk_new w2 _⟩;have hdV:V.heap[bd]? = some (.cells cs t (0,0)):=(hbV.block bd (lt_of_heap hd2)).trans hd2;have hKV:=(HK1.out.trans hK2).then_below hbV;have HF2:=Lib.hid hF2;have HV:=Lib.hid hV;have HG:=Lib.hid hG;have HDV:=Lib.hid hdV;have HKV:=Lib.hid hKV;clear hF2 hV hG hdV hKV hd2 hbV hR2 hK2 hk HA HF HK1 HD1 p01;unfold tval Ex.zt;have y1:=HG.out.c1;have y3:=HG.out.c3;have y4:=HG.out.c4;obtain ⟨x0,hx0⟩:∃ x0,V.cell? ⟨bd,o,none⟩=some x0:=⟨cs[o],by rw [blk_cell HDV.out o];exact Array.getElem?_eq_getElem (by omega)⟩;obtain ⟨x1,hx1⟩:∃ x1,V.cell? ⟨bd,o+1,none⟩=some x1:=⟨cs[o+1],by rw [blk_cell HDV.out (o+1)];exact Array.getElem?_eq_getElem (by omega)⟩;obtain ⟨x2,hx2⟩:∃ x2,V.cell? ⟨bd,o+2,none⟩=some x2:=⟨cs[o+2],by rw [blk_cell HDV.out (o+2)];exact Array.getElem?_eq_getElem ho⟩;have xf:∀ i,V.frozen? ⟨bd,i,none⟩=false:=fun i=>blk_frozen HDV.out i;obtain ⟨D,hD⟩:∃ D,dval 5 p=D:=⟨_,rfl⟩;rw [hD];have HDD:=Lib.hid hD;clear hD
  go_upto_region 5 with fail
  rw [HV.out]
  go_wp2
  go_ret
  exact .inr ⟨5,p,HF2.out,by rw [HDD.out];rfl,freeD_but HKV.out (but_three V bd o _ _ _)⟩
end
section
open Go.RowKit Tn Lx
def dcCells (d:Pg.Dc):Array Value:=(cell10 d).toArray
def DcP (c:Cx)(X:Nat->Prop)(w:World)(bd:Nat)(R:Ex.Res Pg.Dc)(e:Ending)(w':World):Prop :=
 (∃ d s,R = .ok d s/\e = .returned .nilIface/\Rd c X w' s/\But (FreeD c bd w) w w'/\w'.heap[bd]? = some (.cells (dcCells d) 152 (0,0)))\/(∃ cd p,R = .bad cd p/\e = .returned (dval cd p)/\But (FreeD c bd w) w w')
theorem freeD_heap {c:Cx}{bd:Nat}{a b:World}(h:But (FreeD c bd a) a b){k:Nat}{cs:Array Value}{t:TypeId}{fr:Nat × Nat}(hk:a.heap[k]? = some (.cells cs t fr))(h1:k≠c.r)(h2:k≠c.bt)(h3:k≠bd)(ht:t≠165):b.heap[k]? = some (.cells cs t fr) :=
 (h.block k (lt_of_heap hk) (by
  rintro ((e | e | ⟨_,cs',fr',e⟩) | e)
  ·exact h1 e
  ·exact h2 e
  ·rw [hk] at e;injection e with e;injection e with _ e;exact ht e
  ·exact h3 e)).trans hk
theorem points_any (c:Cx)(X:Nat->Prop)(w:World)(s:Ex.S)(pp bd:Nat)(n:Pg.Nm)(x:Value)(h:Rd c X w s)(hpp:w.heap[pp]? = some (.cells #[.pointer (some ⟨c.r,0,none⟩),x] 79 (0,0)))(hbd:w.heap[bd]? = some (.cells (dcCells ⟨n,Pg.zn,Pg.zn,0⟩) 152 (0,0)))(hbB:c.B<=bd)(hpB:c.B<=pp):
  Calls Tryz.prog 78 #[.pointer (some ⟨pp,0,none⟩),.pointer (some ⟨bd,0,none⟩)] w (DcP c X w bd (Pg.points c.ts n s)):=by
 have hr1:=h.rlt;have hb1:=h.blt;have hg1:=h.glt;have hsz:=h.size;have hne:pp≠bd:=fun e=>by subst e;rw [hpp] at hbd;injection hbd with e;injection e with _ e;exact absurd e (by decide)
 obtain ⟨V,hV⟩:∃ V,w.alloc (.cells #[.string ⟨#[58]⟩,.string ⟨#[123]⟩] 9)=V:=⟨_,rfl⟩;have hbV:Below w.heap.size w V:=by rw [<- hV];exact (Below.refl _ w).alloc (Nat.le_refl _) _
 have ks:V.heap[w.heap.size]? = some (.cells #[.string ⟨#[58]⟩,.string ⟨#[123]⟩] 9 (0,0)):=by rw [<- hV];exact blk_new w _
 have hRV:=h.below hbV;have hpV:=(hbV.block pp (lt_of_heap hpp)).trans hpp;have hdV:=(hbV.block bd (lt_of_heap hbd)).trans hbd;have hA:=pname_any c X V s pp bd 3 (dcCells ⟨n,Pg.zn,Pg.zn,0⟩) 152 [[58],[123]] (.slice (some ⟨w.heap.size,0,none⟩) 2 2) x hRV hpV hdV (by simp [dcCells,cell10]) hbB hpB ⟨by decide,by decide⟩ (take_two c X V s [58] [123] w.heap.size hRV ks hsz);have hE:Pg.points c.ts n s=(Pg.nameAt c.ts [[58],[123]] s).bind fun cf s1=>(Pg.nameAt c.ts [] s1).bind fun i s2=>(Ex.take c.ts [125] s2).bind fun _ s3 => .ok ⟨n,cf,i,0⟩ s3:=rfl;generalize Pg.points c.ts n s=R at *;have HE:=Lib.hid hE;have HA:=Lib.hid hA;have HV:=Lib.hid hV;have HB:=Lib.hid hbV;have HPV:=Lib.hid hpV;clear hE hA hV hbV ks hRV hpV hdV h hpp hbd
 go_enter Tryz.func78,Tryz.ntmps78
 go_wp2_with fail
 rw [HV.out];refine HA.out.mono ?_;rintro e w1 (⟨cf,s1,hE1,rfl,hR1,hK1,hd1⟩ | ⟨cd,p1,hE1,rfl,hK1⟩)
 rotate_left
 ·have hF:R = .bad cd p1:=by rw [HE.out,hE1];rfl
  have HF:=Lib.hid hF;have HK:=Lib.hid (freeD_trans (FreeD.of_kp (Kp.of_below HB.out)) hK1);clear hF hE1 hK1;unfold dval
  go_wp2
  go_ret
  exact .inr ⟨cd,p1,HF.out,rfl,HK.out⟩
 have hp1:=freeD_heap hK1 HPV.out (by omega) (by omega) hne (fun e=>absurd e (by decide));have hA2:=pname_any c X w1 s1 pp bd 6 _ 152 [] (.slice none 0 0) x hR1 hp1 hd1 (by simp [nmCells,dcCells,cell10]) hbB hpB ⟨by decide,by decide⟩ (take_none c X w1 s1 hR1);have HA2:=Lib.hid hA2;have HK1:=Lib.hid (freeD_trans (FreeD.of_kp (Kp.of_below HB.out)) hK1);have HP1:=Lib.hid hp1;have HE1:=Lib.hid hE1;clear hA2 hK1 hp1 hd1 hE1 hR1 HA HV HPV
 go_wp2_with fail
 refine HA2.out.mono ?_;rintro e w2 (⟨ig,s2,hE2,rfl,hR2,hK2,hd2⟩ | ⟨cd,p2,hE2,rfl,hK2⟩)
 rotate_left
 ·have hF:R = .bad cd p2:=by rw [HE.out,HE1.out,Ex.Res.bind,hE2];rfl
  have HF:=Lib.hid hF;have HK:=Lib.hid (freeD_trans HK1.out hK2);clear hF hE2 hK2;unfold dval
  go_wp2
  go_ret
  exact .inr ⟨cd,p2,HF.out,rfl,HK.out⟩
 have hp2:=freeD_heap hK2 HP1.out (by omega) (by omega) hne (fun e=>absurd e (by decide));have p02:w2.cell? ⟨pp,0,none⟩=some (.pointer (some ⟨c.r,0,none⟩)):=(blk_cell hp2 0).trans rfl;obtain ⟨V2,hV2⟩:∃ V,w2.alloc (.cells #[.string ⟨#[125]⟩] 9)=V:=⟨_,rfl⟩;have hbV2:Below w2.heap.size w2 V2:=by rw [<- hV2];exact (Below.refl _ w2).alloc (Nat.le_refl _) _
 have ks2:V2.cell? ⟨w2.heap.size,0,none⟩=some (.string ⟨#[125]⟩):=by rw [<- hV2];exact (blk_cell (blk_new w2 _) 0).trans rfl
 have hA3:=take_any c X V2 s2 [125] w2.heap.size (hR2.below hbV2) ks2;have hd3:=(hbV2.block bd (lt_of_heap hd2)).trans hd2;have HA3:=Lib.hid hA3;have HK2:=Lib.hid (freeD_trans (freeD_trans HK1.out hK2) (FreeD.of_kp (Kp.of_below hbV2)));have HE2:=Lib.hid hE2;have HD3:=Lib.hid hd3;have HV2:=Lib.hid hV2;clear hA3 hK2 hE2 hd2 hd3 hV2 hbV2 ks2 hR2 hp2 HA2 HK1 HP1
 go_wp2_with fail
 rw [HV2.out];refine HA3.out.mono ?_;rintro e w3 (⟨s3,hE3,rfl,hR3,hK3⟩ | ⟨cd,p3,hE3,rfl,hK3⟩)
 ·have hd4:=hK3.heap HD3.out (by omega) (by omega) (fun e=>absurd e (by decide));have hF:R = .ok ⟨n,cf,ig,0⟩ s3:=by rw [HE.out,HE1.out,Ex.Res.bind,HE2.out,Ex.Res.bind,hE3];rfl
  have HF:=Lib.hid hF;have HK:=Lib.hid (freeD_trans HK2.out (FreeD.of_kp hK3));have HR3:=Lib.hid hR3;have HD4:=Lib.hid hd4;clear hF hK3 hR3 hd4 hE3
  go_wp2
  go_ret
  exact .inl ⟨_,_,HF.out,rfl,HR3.out,HK.out,HD4.out⟩
 ·have hF:R = .bad cd p3:=by rw [HE.out,HE1.out,Ex.Res.bind,HE2.out,Ex.Res.bind,hE3];rfl
  have HF:=Lib.hid hF;have HK:=Lib.hid (freeD_trans HK2.out (FreeD.of_kp hK3));clear hF hE3 hK3;unfold dval
  go_wp2
  go_ret
  exact .inr ⟨cd,p3,HF.out,rfl,HK.out⟩
end
section
open Go.RowKit Tn Lx
theorem Tryz.info152:(Tryz.prog.info? 152).map (fun i=>(i.zero,i.size,i.bytes))=some (some (.agg #[.string ⟨#[]⟩,.int .i64 0,.int .i64 0,.string ⟨#[]⟩,.int .i64 0,.int .i64 0,.string ⟨#[]⟩,.int .i64 0,.int .i64 0,.int .i64 0]),10,104):=by kernel_rfl
def FreeL (c:Cx)(q:Nat)(v:Value)(w:World)(k:Nat):Prop:=Free c w k\/k=q\/v.ownBlock=some k
def DeclP (c:Cx)(X:Nat->Prop)(w:World)(q l:Nat)(cs:Array Value)(v:Value)(ds:List Pg.Dc)(R:Ex.Res Pg.Dc)(e:Ending)(w':World):Prop :=
 (∃ d s v',R = .ok d s/\e = .returned .nilIface/\Rd c X w' s/\w'.ownsRow c.B 152 10 v' (ds++[d]).length (cells10 (ds++[d]))/\w'.heap[q]? = some (.cells (cs.setIfInBounds l v') 76 (0,0))/\But (FreeL c q v w) w w'/\(v'.ownBlock=v.ownBlock\/∃ g,v'.ownBlock=some g/\w.heap.size<=g))\/(∃ cd p,R = .bad cd p/\e = .returned (dval cd p)/\Kp c w w')
theorem cells10_one (d:Pg.Dc):∀ u∈cell10 d,u.oneCell'=true:=by
 intro u hu;simp only [cell10,List.mem_cons,List.not_mem_nil,or_false] at hu
 rcases hu with rfl | rfl | rfl | rfl | rfl | rfl | rfl | rfl | rfl | rfl <;> rfl
theorem decl_tail {c:Cx}{X:Nat->Prop}{w w1 w5:World}{s1:Ex.S}{q l:Nat}{cs:Array Value}{v:Value}{ds:List Pg.Dc}{d:Pg.Dc}{o:Obj}{g cap:Nat}(hR1:Rd c X w1 s1)(hK:Kp c w w1)(ho1:w1.ownsRow c.B 152 10 v ds.length (cells10 ds))(hq1:w1.heap[q]? = some (.cells cs 76 (0,0)))(hqB:c.B<=q)
  (hown:w5.ownsRow c.B 152 10 (.slice (some ⟨g,0,none⟩) (ds.length+1) cap) (ds.length+1) (cells10 ds++cell10 d)) (hgrow:((w1.alloc o).drew).grownBy w5 v.ownBlock) (hat:v.ownBlock=some g\/g=w1.heap.size+1):
  w5.heap[q]? = some (.cells cs 76 (0,0))/\Rd c X (w5.setCell ⟨q,l,none⟩ (.slice (some ⟨g,0,none⟩) (ds.length+1) cap)) s1/\(w5.setCell ⟨q,l,none⟩ (.slice (some ⟨g,0,none⟩) (ds.length+1) cap)).ownsRow c.B 152 10 (.slice (some ⟨g,0,none⟩) (ds.length+1) cap) (ds++[d]).length (cells10 (ds++[d])) /\
  (w5.setCell ⟨q,l,none⟩ (.slice (some ⟨g,0,none⟩) (ds.length+1) cap)).heap[q]? = some (.cells (cs.setIfInBounds l (.slice (some ⟨g,0,none⟩) (ds.length+1) cap)) 76 (0,0))/\But (FreeL c q v w) w (w5.setCell ⟨q,l,none⟩ (.slice (some ⟨g,0,none⟩) (ds.length+1) cap)) /\
  ((Value.slice (some ⟨g,0,none⟩) (ds.length+1) cap).ownBlock=v.ownBlock\/∃ g',(Value.slice (some ⟨g,0,none⟩) (ds.length+1) cap).ownBlock=some g'/\w.heap.size<=g'):=by
 have hr:=hR1.rlt;have hb:=hR1.blt;have hg:=hR1.glt;have hB:But (fun k=>v.ownBlock=some k) w1 w5:=by
  have h1:But (fun k=>v.ownBlock=some k) w1 (w1.alloc o).drew:=But.of_below ((Below.refl _ w1).alloc (Nat.le_refl _) _).drew;exact h1.trans (But.of_grown hgrow (fun k e=>e))
 have ht:∀ k,v.ownBlock=some k->c.B<=k/\∃ cs' fr,w1.heap[k]? = some (.cells cs' 152 fr):=fun k hk=>by
  obtain ⟨e0,cur,e1⟩:=own_tag ho1 hk;exact ⟨e0,cur,_,e1⟩
 have hvq:v.ownBlock≠some q:=fun e=>by
  obtain ⟨_,cs',fr,e1⟩:=ht q e;rw [hq1] at e1;injection e1 with e1;injection e1 with _ e1;exact absurd e1 (by decide)
 have hq5:w5.heap[q]? = some (.cells cs 76 (0,0)):=hB.heap hq1 hvq;have hgq:g≠q:=fun e=>by
  obtain ⟨_,cur,e1⟩:=own_tag hown (g:=g) rfl;rw [e,hq5] at e1;injection e1 with e1;injection e1 with _ e1;exact absurd e1 (by decide)
 have hR5:Rd c X w5 s1:=hR1.but hB (fun e=>by have:=(ht _ e).1;omega) (fun e=>by have:=(ht _ e).1;omega) (fun e=>by have:=(ht _ e).1;omega) (fun k e=>by
  obtain ⟨_,cs',fr,e1⟩:=ht k e;exact .inr ⟨cs',_,fr,e1,by decide,by decide⟩)
 have hS:But (fun k=>k=q) w5 (w5.setCell ⟨q,l,none⟩ (.slice (some ⟨g,0,none⟩) (ds.length+1) cap)):=But.setCell (p:=fun k=>k=q) w5 rfl l _;refine ⟨hq5, ?_, ?_, ?_, ?_, ?_⟩
 ·exact hR5.but hS (fun e=>by omega) (fun e=>by omega) (fun e=>by omega) (fun k e => .inr (by subst e;exact ⟨_,_,_,hq5,by decide,by decide⟩))
 ·rw [List.length_append,cells10_snoc];exact hS.own hown (fun k hk e=>hgq ((Option.some.inj (show some g=some k from hk)).trans e))
 ·exact blk_set hq5 l _
 ·refine ⟨?_, ?_, ?_, ?_, ?_⟩
  ·exact (hS.os.trans hB.os).trans hK.os
  ·exact (hS.tape.trans hB.tape).trans hK.tape
  ·exact (hS.output.trans hB.output).trans hK.output
  ·exact Nat.le_trans hK.size (Nat.le_trans hB.size hS.size)
  ·intro k hk hn;have h1:=hK.block k hk (fun e=>hn (.inl e));have hk1:=Nat.lt_of_lt_of_le hk hK.size;have h2:=hB.block k hk1 (fun e=>hn (.inr (.inr e)));exact ((hS.block k (Nat.lt_of_lt_of_le hk1 hB.size) (fun e=>hn (.inr (.inl e)))).trans h2).trans h1
 ·rcases hat with e | e
  ·exact .inl e.symm
  ·exact .inr ⟨g,rfl,by have:=hK.size;omega⟩
theorem decl_none (c:Cx)(X:Nat->Prop)(w:World)(s:Ex.S)(q pp l:Nat)(cs:Array Value)(v:Value)(word:B)(ds:List Pg.Dc)(x:Value)(h:Rd c X w s)(hpp:w.heap[pp]? = some (.cells #[.pointer (some ⟨c.r,0,none⟩),x] 79 (0,0)))(hpB:c.B<=pp)(hqB:c.B<=q)
  (hq:w.heap[q]? = some (.cells cs 76 (0,0))) (hl:cs[l]? = some v) (hown:w.ownsRow c.B 152 10 v ds.length (cells10 ds)) (hfew:ds.length<=200):
  Calls Tryz.prog 77 #[.pointer (some ⟨pp,0,none⟩),.string ⟨word.toArray⟩,.pointer (some ⟨q,l,none⟩),.slice none 0 0] w (DeclP c X w q l cs v ds (Pg.decl0 c.ts word s)):=by
 have hr1:=h.rlt;have hb1:=h.blt;have hg1:=h.glt;have hsz:=h.size;obtain ⟨V,hV⟩:∃ V,(w.alloc (.cells #[.string ⟨#[]⟩,.int .i64 0,.int .i64 0,.string ⟨#[]⟩,.int .i64 0,.int .i64 0,.string ⟨#[]⟩,.int .i64 0,.int .i64 0,.int .i64 0] 152)).alloc (.cells #[.string ⟨word.toArray⟩] 9)=V:=⟨_,rfl⟩;have hbV:Below w.heap.size w V:=by rw [<- hV];exact ((Below.refl _ w).alloc (Nat.le_refl _) _).alloc (by simp) _
 have kd:V.heap[w.heap.size]? = some (.cells (dcCells ⟨Pg.zn,Pg.zn,Pg.zn,0⟩) 152 (0,0)):=by rw [<- hV];exact blk_alloc (blk_new w _) _
 have ks:V.heap[w.heap.size+1]? = some (.cells #[.string ⟨word.toArray⟩] 9 (0,0)):=by
  rw [<- hV];have:=blk_new (w.alloc (.cells #[.string ⟨#[]⟩,.int .i64 0,.int .i64 0,.string ⟨#[]⟩,.int .i64 0,.int .i64 0,.string ⟨#[]⟩,.int .i64 0,.int .i64 0,.int .i64 0] 152)) (.cells #[.string ⟨word.toArray⟩] 9);rwa [World.size_alloc] at this
 have hRV:=h.below hbV;have hpV:=(hbV.block pp (lt_of_heap hpp)).trans hpp;have hA:=pname_any c X V s pp w.heap.size 0 (dcCells ⟨Pg.zn,Pg.zn,Pg.zn,0⟩) 152 [word] (.slice (some ⟨w.heap.size+1,0,none⟩) 1 1) x hRV hpV kd (by simp [dcCells,cell10]) hsz hpB ⟨by decide,by decide⟩ (take_one c X V s word (w.heap.size+1) hRV ((blk_cell ks 0).trans rfl));have hE:Pg.decl0 c.ts word s=(Pg.nameAt c.ts [word] s).bind fun n s1 => .ok ⟨n,Pg.zn,Pg.zn,0⟩ s1:=rfl;have hql:=lt_of_heap hq;generalize Pg.decl0 c.ts word s=R at *;have HE:=Lib.hid hE;have HA:=Lib.hid hA;have HV:=Lib.hid hV;have HB:=Lib.hid hbV;have HQ:=Lib.hid hq;have HL:=Lib.hid hl;have HO:=Lib.hid hown;obtain ⟨i0,hi,hz0,hz1,hz2⟩:=info_parts Tryz.info152;have HI:=Lib.hid hi;have HZ:=Lib.hid hz0;have HZ1:=Lib.hid hz1;have HZ2:=Lib.hid hz2;clear hE hA hV hbV hRV hpV h hpp hq hl hown kd ks hi hz0 hz1 hz2
 go_enter Tryz.func77,Tryz.ntmps77
 go_wp2_with fail
 rw [HV.out];refine HA.out.mono ?_;rintro e w1 (⟨n,s1,hE1,rfl,hR1,hK1,hd1⟩ | ⟨cd,p1,hE1,rfl,hK1⟩)
 rotate_left
 ·have hF:R = .bad cd p1:=by rw [HE.out,hE1];rfl
  have HF:=Lib.hid hF;have HK:=Lib.hid (freeD_new HB.out (Nat.le_refl _) hK1);clear hF hE1 hK1;unfold dval
  go_wp2
  go_ret
  exact .inr ⟨cd,p1,HF.out,rfl,HK.out⟩
 have hF:R = .ok ⟨n,Pg.zn,Pg.zn,0⟩ s1:=by rw [HE.out,hE1];rfl
 have hd:w1.heap[w.heap.size]? = some (.cells (dcCells ⟨n,Pg.zn,Pg.zn,0⟩) 152 (0,0)):=hd1;obtain ⟨d,hdd⟩:∃ d:Pg.Dc,d=⟨n,Pg.zn,Pg.zn,0⟩:=⟨_,rfl⟩;rw [<- hdd] at hF hd;clear hdd;have hKw:Kp c w w1:=freeD_new HB.out (Nat.le_refl _) hK1;have hq1:w1.heap[q]? = some (.cells cs 76 (0,0)):=hKw.heap HQ.out (by omega) (by omega) (fun e=>absurd e (by decide));have ho1:w1.ownsRow c.B 152 10 v ds.length (cells10 ds):=But.own hKw HO.out (fun g hg=>by
  obtain ⟨e0,cur,e1⟩:=own_tag HO.out hg;rintro (e | e | ⟨_,cs',fr',e⟩)
  ·omega
  ·omega
  ·rw [e1] at e;injection e with e;injection e with _ e;exact absurd e (by decide))
 have HF:=Lib.hid hF;have HD:=Lib.hid hd;have HKW:=Lib.hid hKw;have HR1:=Lib.hid hR1;have HO1:=Lib.hid ho1;clear hF hKw hK1 hE1 HA HV HE hd1 ho1 hR1;have q1:w1.cell? ⟨q,l,none⟩=some v:=(blk_cell hq1 l).trans HL.out;have q1':∀ o,(w1.alloc o).cell? ⟨q,l,none⟩=some v:=fun o=>(World.cell?_alloc_lt _ _ _ (World.block_lt_of_cell? _ _ q1)).trans q1;have y0:w1.cell? ⟨w.heap.size,0,none⟩=some (.string ⟨d.name.text.toArray⟩):=(blk_cell hd 0).trans rfl;have y1:w1.cell? ⟨w.heap.size,1,none⟩=some (.int .i64 d.name.at_.line):=(blk_cell hd 1).trans rfl;have y2:w1.cell? ⟨w.heap.size,2,none⟩=some (.int .i64 d.name.at_.col):=(blk_cell hd 2).trans rfl;have y3:w1.cell? ⟨w.heap.size,3,none⟩=some (.string ⟨d.conf.text.toArray⟩):=(blk_cell hd 3).trans rfl;have y4:w1.cell? ⟨w.heap.size,4,none⟩=some (.int .i64 d.conf.at_.line):=(blk_cell hd 4).trans rfl;have y5:w1.cell? ⟨w.heap.size,5,none⟩=some (.int .i64 d.conf.at_.col):=(blk_cell hd 5).trans rfl;have y6:w1.cell? ⟨w.heap.size,6,none⟩=some (.string ⟨d.integ.text.toArray⟩):=(blk_cell hd 6).trans rfl;have y7:w1.cell? ⟨w.heap.size,7,none⟩=some (.int .i64 d.integ.at_.line):=(blk_cell hd 7).trans rfl;have y8:w1.cell? ⟨w.heap.size,8,none⟩=some (.int .i64 d.integ.at_.col):=(blk_cell hd 8).trans rfl;have y9:w1.cell? ⟨w.heap.size,9,none⟩=some (.int .i64 d.int):=(blk_cell hd 9).trans rfl;have hnb:((w1.alloc (.cells (dcCells d) 152)).drew).heap[w1.heap.size]? = some (.cells (dcCells d) 152 (0,0)):=heap_alloc_new w1 _;have HQ1:=Lib.hid hq1;have HNB:=Lib.hid hnb;clear hnb;clear hd hq1
 go_wp2_with fail
 refine wp_loop_rounds 1 ?_;rw [rounds_succ]
 go_upto_region 12 with fail
 go_region_law (refine step_append_lies _ (by rfl) (.tmp 38) (.tmp 40) 73 (by rfl) c.B 152 i0 _ 10 104 Tryz.underlying73 HI.out HZ.out HZ1.out HZ2.out rfl (by omega) v ds.length (cells10 ds) (by rfl) ((HO1.out.alloc _).drew) ⟨w1.heap.size,0,none⟩ 1 1 (cell10 d) (by rfl) (by rfl) (World.news_of_block (cs:=dcCells d) (t:=152) (fr:=(0,0)) HNB.out) (cells10_one d) (by omega) (by unfold maxLen;omega) (by omega) (by have:=HKW.out.size;simp;omega) (w1.heap.size+1) (by simp) ?_;intro g cap w5 hown5 hgrow5 hat5 hlt5;have G:=decl_tail (l:=l) HR1.out HKW.out HO1.out HQ1.out hqB hown5 hgrow5 hat5;have c5:w5.cell? ⟨q,l,none⟩=some v:=(blk_cell G.1 l).trans HL.out;have f5:w5.frozen? ⟨q,l,none⟩=false:=blk_frozen G.1 l)
 all_goals
  have HGG:=Lib.hid G.2;clear G hown5 hgrow5 hat5 hlt5 c5 f5
  go_wp2
  go_ret
  exact .inl ⟨d,s1,_,HF.out,rfl,HGG.out.1,HGG.out.2.1,HGG.out.2.2.1,HGG.out.2.2.2.1,HGG.out.2.2.2.2⟩
end
end Go.Proofs.YtdfpkmfeldoamaaGreatDoor
