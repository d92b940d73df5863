/- A part of the proof: How a hatch is read. -/
import Derived.Test.YtdfpkmfeldoamaaGreatDoorYo
import Derived.Test.YtdfpkmfeldoamaaGreatDoorTab2
import Derived.Deep.RegionHeld2
set_option linter.unusedSimpArgs false
set_option linter.unusedVariables false
set_option maxRecDepth 100000
set_option maxHeartbeats 8000000
namespace Go.Proofs.YtdfpkmfeldoamaaGreatDoor
open Go.RowKit Tn Lx
theorem Tryz.info56:(Tryz.prog.info? 56).map (fun i=>(i.zero,i.size,i.bytes))=some (some (.agg #[.string ⟨#[]⟩,.int .i64 0,.int .i64 0,.int .i64 0,.string ⟨#[]⟩,.int .i64 0,.int .i64 0,.slice none 0 0]),8,96):=by kernel_rfl
theorem htCell_one (x:HtV):∀ u∈htCell x,u.oneCell'=true:=by
 intro u hu;simp only [htCell,List.mem_cons,List.not_mem_nil,or_false] at hu
 rcases hu with rfl | rfl | rfl | rfl | rfl | rfl | rfl | rfl <;> rfl
def hatF (ts:List Tok)(n:Nat)(g:Yf.St)(s:Ex.S):Pg.R Yf.St:=(Pg.lift (Yf.hatch ts n s)).bind fun h s1 => .ok { g with hat:=g.hat++[h] } s1
def hv0 (n:Pg.Nm)(b:Int)(d:Pg.Nm)(u:Value):Array Value:=#[.string ⟨n.text.toArray⟩,.int .i64 n.at_.line,.int .i64 n.at_.col,.int .i64 b,.string ⟨d.text.toArray⟩,.int .i64 d.at_.line,.int .i64 d.at_.col,u]
theorem hv0_three {w:World}{b:Nat}{n n' d:Pg.Nm}{k:Int}{u:Value}(h:w.heap[b]? = some (.cells (hv0 n k d u) 56 (0,0))):(((w.setCell ⟨b,0,none⟩ (.string ⟨n'.text.toArray⟩)).setCell ⟨b,1,none⟩ (.int .i64 n'.at_.line)).setCell ⟨b,2,none⟩ (.int .i64 n'.at_.col)).heap[b]? = some (.cells (hv0 n' k d u) 56 (0,0)) :=
 (blk_set (blk_set (blk_set h 0 _) 1 _) 2 _).trans rfl
theorem hv0_body {w:World}{b:Nat}{n d:Pg.Nm}{k k':Int}{u:Value}(h:w.heap[b]? = some (.cells (hv0 n k d u) 56 (0,0))):(w.setCell ⟨b,3,none⟩ (.int .i64 k')).heap[b]? = some (.cells (hv0 n k' d u) 56 (0,0)) :=
 (blk_set h 3 _).trans rfl
theorem hv0_dst {w:World}{b:Nat}{n d d':Pg.Nm}{k:Int}{u:Value}(h:w.heap[b]? = some (.cells (hv0 n k d u) 56 (0,0))):(((w.setCell ⟨b,4,none⟩ (.string ⟨d'.text.toArray⟩)).setCell ⟨b,5,none⟩ (.int .i64 d'.at_.line)).setCell ⟨b,6,none⟩ (.int .i64 d'.at_.col)).heap[b]? = some (.cells (hv0 n k d' u) 56 (0,0)) :=
 (blk_set (blk_set (blk_set h 4 _) 5 _) 6 _).trans rfl
theorem Rd.at_new {c:Cx}{X:Nat->Prop}{w w':World}{s:Ex.S}{b:Nat}{cs:Array Value}{t:TypeId}{fr:Nat × Nat}(h:Rd c X w s)(hB:But (fun k=>k=b) w w')(hb:w.heap[b]? = some (.cells cs t fr))(ht:t≠165/\t≠3)(hc:c.B<=b):Rd c X w' s:=by
 have h1:=h.rlt;have h2:=h.blt;have h3:=h.glt;exact h.but hB (fun e=>by omega) (fun e=>by omega) (fun e=>by omega) (fun k e => .inr (by subst e;exact ⟨_,_,_,hb,ht.1,ht.2⟩))
def HeldH (pp q x:Nat)(f:HtV)(W:World):Prop:=W.cell? ⟨pp,1,none⟩=some (.pointer (some ⟨q,0,none⟩))/\W.cell? ⟨x,0,none⟩=some (.string ⟨f.h.name.text.toArray⟩)/\W.cell? ⟨x,1,none⟩=some (.int .i64 f.h.name.at_.line)/\W.cell? ⟨x,2,none⟩=some (.int .i64 f.h.name.at_.col)/\W.cell? ⟨x,3,none⟩=some (.int .i64 (f.h.body:Int))/\W.cell? ⟨x,4,none⟩=some (.string ⟨f.h.dst.text.toArray⟩)/\W.cell? ⟨x,5,none⟩=some (.int .i64 f.h.dst.at_.line)/\W.cell? ⟨x,6,none⟩=some (.int .i64 f.h.dst.at_.col)/\W.cell? ⟨x,7,none⟩=some (.slice f.pa f.h.inn.length f.pc)
structure LiesH (pp q x r:Nat)(f:HtV)(W:World):Prop where
 par:W.heap[pp]? = some (.cells (yparF r q) 87 (0,0))
 fn:W.heap[x]? = some (.cells (htCell f).toArray 56 (0,0))
theorem LiesH.held {pp q x r:Nat}{f:HtV}{W:World}(h:LiesH pp q x r f W):HeldH pp q x f W :=
 ⟨(blk_cell h.par 1).trans rfl,(blk_cell h.fn 0).trans rfl,(blk_cell h.fn 1).trans rfl,(blk_cell h.fn 2).trans rfl,(blk_cell h.fn 3).trans rfl,(blk_cell h.fn 4).trans rfl,(blk_cell h.fn 5).trans rfl,(blk_cell h.fn 6).trans rfl,(blk_cell h.fn 7).trans rfl⟩
theorem LiesH.but {pp q x r:Nat}{f:HtV}{W W':World}{p:Nat->Prop}(h:LiesH pp q x r f W)(hB:But p W W')(h1:¬ p pp)(h2:¬ p x):LiesH pp q x r f W':=⟨hB.heap h.par h1,hB.heap h.fn h2⟩
theorem LiesH.below {pp q x r:Nat}{f:HtV}{W W':World}(h:LiesH pp q x r f W)(hb:Below W.heap.size W W'):LiesH pp q x r f W':=h.but (p:=fun _=>False) (But.of_below hb) (fun e=>e) (fun e=>e)
theorem LiesH.grown {c:Cx}{pp q x:Nat}{U:Nat->Value}{fs:List HtV}{f:HtV}{W w5:World}{g:Yf.St}{o:Obj}(h:LiesH pp q x c.r f W)(hP:Qm c q pp U fs W g)(hx:(U 7).ownBlock≠some x)(hgrow:((W.alloc o).drew).grownBy w5 (U 7).ownBlock):LiesH pp q x c.r f w5:=by
 have h1:But (fun k=>(U 7).ownBlock=some k) W (W.alloc o).drew:=But.of_below ((Below.refl _ W).alloc (Nat.le_refl _) _).drew;exact h.but (h1.trans (But.of_grown hgrow (fun k e=>e))) (own_none hP.hat h.par (by decide)) hx
theorem LiesH.set {pp q x r:Nat}{f:HtV}{W:World}{cs:Array Value}(h:LiesH pp q x r f W)(hq:W.heap[q]? = some (.cells cs 84 (0,0)))(i:Nat)(v:Value):LiesH pp q x r f (W.setCell ⟨q,i,none⟩ v) :=
 have no:∀ {k:Nat} {ds:Array Value} {t:TypeId},W.heap[k]? = some (.cells ds t (0,0))->t≠84->¬ k=q:=fun hk ht e=>by
  rw [e,hq] at hk;injection hk with hk;injection hk with _ hk;exact ht hk.symm
 h.but (But.setCell (p:=fun k=>k=q) W rfl i v) (no h.par (by decide)) (no h.fn (by decide))
theorem Qm.puth {c:Cx}{q pp:Nat}{V:Nat->Value}{fs:List HtV}{w w':World}{g:Yf.St}{x:HtV}{v':Value}(h:Qm c q pp V fs w g)(hr:c.r<c.B)(hb:c.bt<c.B)(hx:w.ownsRow c.B 49 3 (innV x) x.h.inn.length (nmsCells x.h.inn))(hap:∀ k,(innV x).ownBlock=some k->(V 1).ownBlock≠some k/\(V 2).ownBlock≠some k)(ho:w'.ownsRow c.B 56 8 v' (fs++[x]).length (htsCells (fs++[x])))(hq:w'.heap[q]? = some (.cells ((polF c.bt V g.att).setIfInBounds 7 v') 84 (0,0)))(hp:w'.heap[pp]? = some (.cells (yparF c.r q) 87 (0,0)))(hB:But (FreeL c q (V 7) w) w w'):
  Qm c q pp (Vup V 7 v') (fs++[x]) w' { g with hat:=g.hat++[x.h] } :=
 ⟨hp,hq.trans rfl,row_other5 hr hb h.pol h.conf ⟨by decide,by decide⟩ hB (own_apart5 h.hat h.conf (by decide)),row_other5 hr hb h.pol h.integ ⟨by decide,by decide⟩ hB (own_apart5 h.hat h.integ (by decide)),row_other5 hr hb h.pol h.ord ⟨by decide,by decide⟩ hB (own_apart5 h.hat h.ord (by decide)),ho,by simp [h.ish],fun y hy=>by
  rcases List.mem_append.1 hy with hy | hy
  ·exact row_other5 hr hb h.pol (h.ins y hy) ⟨by decide,by decide⟩ hB (own_apart5 h.hat (h.ins y hy) (by decide))
  ·rw [List.mem_singleton.1 hy];exact row_other5 hr hb h.pol hx ⟨by decide,by decide⟩ hB (own_apart5 h.hat hx (by decide)),h.apart,fun y hy=>by
  rcases List.mem_append.1 hy with hy | hy
  ·exact h.apart1 y hy
  ·rw [List.mem_singleton.1 hy];exact hap,h.ppB,h.qB⟩
theorem hatch5_any (c:Cx)(X:Nat->Prop)(w:World)(s:Ex.S)(n:Nat)(hn:n<=900000)(q pp:Nat)(Z:Nat->Value)(fs:List HtV)(g:Yf.St)(h:Rd c X w s)(hP:Qm c q pp Z fs w g)(hg:ErrT w)(hG:0<c.r/\0<c.bt/\0<c.B)(hf:g.hat.length<=200)(hne:Yf.hatch c.ts n s ≠ .out):
  Calls Tryz.prog 94 #[.pointer (some ⟨pp,0,none⟩)] w (ReadQ c X w q pp (hatF c.ts n g s)):=by
 have hr:=h.rlt;have hb:=h.blt;have hgl:=h.glt;have hsz:=h.size;have hpB:=hP.ppB;have hqB:=hP.qB;have p0w:=hP.p0;have hlen:fs.length<=200:=by
  have e:fs.length=g.hat.length:=by rw [<- hP.ish,List.length_map]
  omega
 obtain ⟨V,hV⟩:∃ V,w.alloc (.cells #[.string ⟨#[]⟩,.int .i64 0,.int .i64 0,.int .i64 0,.string ⟨#[]⟩,.int .i64 0,.int .i64 0,.slice none 0 0] 56)=V:=⟨_,rfl⟩;have hbV:Below w.heap.size w V:=by rw [<- hV];exact (Below.refl _ w).alloc (Nat.le_refl _) _
 have kh:V.heap[w.heap.size]? = some (.cells (hv0 Pg.zn 0 Pg.zn (.slice none 0 0)) 56 (0,0)):=by rw [<- hV];exact blk_new w _
 have hub:(Z 7).ownBlock≠some w.heap.size:=fun e=>by
  obtain ⟨_,cur,e1⟩:=own_tag hP.hat e;have:=lt_of_heap e1;omega
 have hRV:=h.below hbV;have hPV:=hP.below hbV;have hgV:ErrT V:=hg.below hbV hg.lt;have hA:=yname5_any c X V s pp q hRV hPV.par hpB;have hE:Yf.hatch c.ts n s=(Pg.nameAt c.ts [] s).bind fun nm s1=>(Pg.bodyF c.ts n s1).bind fun b s2=>(Pg.nameAt c.ts [Yf.wTo] s2).bind fun t s3=>(Ex.take c.ts Yf.wIn s3).bind fun _ s4=>(Yf.list c.ts (Yf.funN c.ts) n [] s4).bind fun l s5 => .ok ⟨nm,b,t,l⟩ s5:=rfl;have hRF:hatF c.ts n g s=(Pg.lift (Yf.hatch c.ts n s)).bind fun h s1 => .ok { g with hat:=g.hat++[h] } s1:=rfl;generalize hatF c.ts n g s=RR at *;generalize Yf.hatch c.ts n s=R at *;generalize Pg.nameAt c.ts [] s=RA at *;have HE:=Lib.hid hE;have HRF:=Lib.hid hRF;have HA:=Lib.hid hA;have HV:=Lib.hid hV;have HB:=Lib.hid hbV;have HPV:=Lib.hid hPV;have HGV:=Lib.hid hgV;have HNE:=Lib.hid hne;have HUB:=Lib.hid hub;have HKH:=Lib.hid kh;obtain ⟨i0,hi,hz0,hz1,hz2⟩:=info_parts Tryz.info56;have HI:=Lib.hid hi;have HZ:=Lib.hid hz0;have HZ1:=Lib.hid hz1;have HZ2:=Lib.hid hz2;clear hE hRF hA hV hbV kh hRV hPV hgV h hP hg hne hub hi hz0 hz1 hz2 p0w
 go_enter Tryz.func94,Tryz.ntmps94
 go_wp2_with fail
 rw [HV.out];refine HA.out.mono ?_;rintro e w1 (⟨nm,s1,hF1,rfl,hR1,hK1⟩ | ⟨cd,p1,nm,hF1,rfl,hK1⟩)
 rotate_left
 ·have hF:RR = .bad cd p1 []:=by rw [HRF.out,HE.out,hF1];rfl
  have kh1:=hK1.heap HKH.out (by omega) (by omega) (by decide);have x0:w1.cell? ⟨w.heap.size,0,none⟩=some (.string ⟨#[]⟩):=(blk_cell kh1 0).trans rfl;have x1:w1.cell? ⟨w.heap.size,1,none⟩=some (.int .i64 0):=(blk_cell kh1 1).trans rfl;have x2:w1.cell? ⟨w.heap.size,2,none⟩=some (.int .i64 0):=(blk_cell kh1 2).trans rfl;have xf:∀ i,w1.frozen? ⟨w.heap.size,i,none⟩=false:=fun i=>blk_frozen kh1 i;have HF:=Lib.hid hF;have HK:=Lib.hid ((Below.then_kp (c:=c) HB.out hK1).new (but_three w1 w.heap.size 0 (.string ⟨nm.text.toArray⟩) (.int .i64 nm.at_.line) (.int .i64 nm.at_.col)) (fun k e=>by omega));clear hF hF1 hK1 kh1;unfold nmV dval
  go_wp2
  go_ret
  exact .inr ⟨cd,p1,[],HF.out,rfl,Ky.of_kp HK.out⟩
 have hF1':R=(Pg.bodyF c.ts n s1).bind fun b s2=>(Pg.nameAt c.ts [Yf.wTo] s2).bind fun t s3=>(Ex.take c.ts Yf.wIn s3).bind fun _ s4=>(Yf.list c.ts (Yf.funN c.ts) n [] s4).bind fun l s5 => .ok ⟨nm,b,t,l⟩ s5:=by rw [HE.out,hF1];rfl
 have kh1:=hK1.heap HKH.out (by omega) (by omega) (by decide);have x0:w1.cell? ⟨w.heap.size,0,none⟩=some (.string ⟨#[]⟩):=(blk_cell kh1 0).trans rfl;have x1:w1.cell? ⟨w.heap.size,1,none⟩=some (.int .i64 0):=(blk_cell kh1 1).trans rfl;have x2:w1.cell? ⟨w.heap.size,2,none⟩=some (.int .i64 0):=(blk_cell kh1 2).trans rfl;have xf:∀ i,w1.frozen? ⟨w.heap.size,i,none⟩=false:=fun i=>blk_frozen kh1 i;have hP1:=HPV.out.kp hr hb hK1;have hg1:ErrT w1:=(World.cell?_of_block (hK1.old (k:=0) HGV.out.lt hG.2.2 (by omega) (by omega))).trans HGV.out;have hB2:But (fun k=>k=w.heap.size) w1 (((w1.setCell ⟨w.heap.size,0,none⟩ (.string ⟨nm.text.toArray⟩)).setCell ⟨w.heap.size,1,none⟩ (.int .i64 nm.at_.line)).setCell ⟨w.heap.size,2,none⟩ (.int .i64 nm.at_.col)):=but_three w1 w.heap.size 0 _ _ _;obtain ⟨w2,hw2⟩:∃ w2,((w1.setCell ⟨w.heap.size,0,none⟩ (.string ⟨nm.text.toArray⟩)).setCell ⟨w.heap.size,1,none⟩ (.int .i64 nm.at_.line)).setCell ⟨w.heap.size,2,none⟩ (.int .i64 nm.at_.col)=w2:=⟨_,rfl⟩;rw [hw2] at hB2;have kh2:w2.heap[w.heap.size]? = some (.cells (hv0 nm 0 Pg.zn (.slice none 0 0)) 56 (0,0)):=by rw [<- hw2];exact hv0_three kh1
 have hR2:=hR1.at_new hB2 kh1 (by decide) hsz;have hP2:=hP1.freeD hr hb kh1 HUB.out (freeD_but (Kp.refl c w1) hB2);have hg2:ErrT w2:=(World.cell?_of_block (hB2.block 0 hg1.lt (by intro e;omega))).trans hg1;have hK2:Kp c w w2:=(Below.then_kp (c:=c) HB.out hK1).new hB2 (fun k e=>by omega);have p02:=hP2.p0;rw [<- hw2] at p02;obtain ⟨V2,hV2⟩:∃ V,w2.alloc (.cells #[.string ⟨#[61]⟩] 9)=V:=⟨_,rfl⟩;have hbV2:Below w2.heap.size w2 V2:=by rw [<- hV2];exact (Below.refl _ w2).alloc (Nat.le_refl _) _
 have ks2:V2.cell? ⟨w2.heap.size,0,none⟩=some (.string ⟨#[61]⟩):=by rw [<- hV2];exact (blk_cell (blk_new w2 _) 0).trans rfl
 have hs2:w2.heap.size=w1.heap.size:=by rw [<- hw2];simp
 have hT2:=take_any c X V2 s1 [61] w2.heap.size (hR2.below hbV2) ks2;have hF2:R=(Ex.take c.ts [61] s1).bind fun _ s1=>(Ex.rec_ c.ts n .all 0 s1).bind fun b s2=>(Pg.nameAt c.ts [Yf.wTo] s2).bind fun t s3=>(Ex.take c.ts Yf.wIn s3).bind fun _ s4=>(Yf.list c.ts (Yf.funN c.ts) n [] s4).bind fun l s5 => .ok ⟨nm,b,t,l⟩ s5:=by
  rw [hF1',Pg.bodyF]
  cases Ex.take c.ts [61] s1 <;> rfl
 have HW2:=Lib.hid hw2;have HF2:=Lib.hid hF2;have HV2:=Lib.hid hV2;have HT2:=Lib.hid hT2;have HBV2:=Lib.hid hbV2;have HKH2:=Lib.hid kh2;have HR2:=Lib.hid hR2;have HP2:=Lib.hid hP2;have HG2:=Lib.hid hg2;have HK2:=Lib.hid hK2;clear hw2 hF1' hF1 hF2 hV2 hT2 hbV2 ks2 kh1 kh2 hR1 hR2 hP1 hP2 hg1 hg2 hK1 hK2 hB2 HE HA HV HPV HGV HKH;unfold nmV
 go_wp2_with fail
 rw [HW2.out,hs2.symm,HV2.out];refine HT2.out.mono ?_;rintro e w3 (⟨s3,hE3,rfl,hR3,hK3⟩ | ⟨cd,p3,hE3,rfl,hK3⟩)
 rotate_left
 ·have hF:RR = .bad cd p3 []:=by rw [HRF.out,HF2.out,hE3];rfl
  have HF:=Lib.hid hF;have HK:=Lib.hid (Ky.of_kp (q:=q) (HK2.out.trans (Below.then_kp (c:=c) HBV2.out hK3)));clear hF hE3 hK3;unfold dval
  go_wp2
  go_ret
  exact .inr ⟨cd,p3,[],HF.out,rfl,HK.out⟩
 have hK23:=Below.then_kp (c:=c) HBV2.out hK3;have kh3:=hK23.heap HKH2.out (by omega) (by omega) (by decide);have hP3:=HP2.out.kp hr hb hK23;have hg3:ErrT w3:=(World.cell?_of_block (hK23.old (k:=0) HG2.out.lt hG.2.2 (by omega) (by omega))).trans HG2.out;have hF3:R=(Ex.rec_ c.ts n .all 0 s3).bind fun b s2=>(Pg.nameAt c.ts [Yf.wTo] s2).bind fun t s3=>(Ex.take c.ts Yf.wIn s3).bind fun _ s4=>(Yf.list c.ts (Yf.funN c.ts) n [] s4).bind fun l s5 => .ok ⟨nm,b,t,l⟩ s5:=by rw [HF2.out,hE3];rfl
 have hA3:=expr_any c X w3 s3 n hn hR3 hg3 hG (fun e=>HNE.out (by rw [hF3,e];rfl));have p03:=hP3.p0;generalize Ex.rec_ c.ts n .all 0 s3=RB at *;have HA3:=Lib.hid hA3;have HF3:=Lib.hid hF3;have HK3:=Lib.hid (HK2.out.trans hK23);have HKH3:=Lib.hid kh3;have HP3:=Lib.hid hP3;have HG3:=Lib.hid hg3;have hs23:=hK23.size;clear hA3 hF3 hK23 kh3 hP3 hg3 hE3 hR3 hK3 HF2 HV2 HT2 HBV2 HKH2 HR2 HP2 HG2 HK2 HW2 x0 x1 x2 xf p02
 go_wp2_with fail
 refine HA3.out.mono ?_;rintro e w4 (⟨b,s4,hE4,rfl,hR4,hK4⟩ | ⟨cd,p4,hE4,rfl,hK4⟩)
 rotate_left
 ·have hF:RR = .bad cd p4 []:=by rw [HRF.out,HF3.out,hE4];rfl
  have kh4:=hK4.heap HKH3.out (by omega) (by omega) (by decide);have x3:w4.cell? ⟨w.heap.size,3,none⟩=some (.int .i64 0):=(blk_cell kh4 3).trans rfl;have xf:∀ i,w4.frozen? ⟨w.heap.size,i,none⟩=false:=fun i=>blk_frozen kh4 i;have HF:=Lib.hid hF;have HK:=Lib.hid (Ky.of_kp (q:=q) ((HK3.out.trans hK4).new (But.setCell (p:=fun k=>k=w.heap.size) w4 rfl 3 (.int .i64 0)) (fun k e=>by omega)));clear hF hE4 hK4 kh4;unfold dval
  go_wp2
  go_ret
  exact .inr ⟨cd,p4,[],HF.out,rfl,HK.out⟩
 have kh4:=hK4.heap HKH3.out (by omega) (by omega) (by decide);have x3:w4.cell? ⟨w.heap.size,3,none⟩=some (.int .i64 0):=(blk_cell kh4 3).trans rfl;have xf:∀ i,w4.frozen? ⟨w.heap.size,i,none⟩=false:=fun i=>blk_frozen kh4 i;have hP4:=HP3.out.kp hr hb hK4;have hB5:=But.setCell (p:=fun k=>k=w.heap.size) w4 rfl 3 (.int .i64 (b:Int));obtain ⟨w5,hw5⟩:∃ w5,w4.setCell ⟨w.heap.size,3,none⟩ (.int .i64 (b:Int))=w5:=⟨_,rfl⟩;rw [hw5] at hB5;have kh5:w5.heap[w.heap.size]? = some (.cells (hv0 nm b Pg.zn (.slice none 0 0)) 56 (0,0)):=by rw [<- hw5];exact hv0_body kh4
 have hR5:=hR4.at_new hB5 kh4 (by decide) hsz;have hP5:=hP4.freeD hr hb kh4 HUB.out (freeD_but (Kp.refl c w4) hB5);have hK5:Kp c w w5:=(HK3.out.trans hK4).new hB5 (fun k e=>by omega);have hF5:R=(Pg.nameAt c.ts [Yf.wTo] s4).bind fun t s3=>(Ex.take c.ts Yf.wIn s3).bind fun _ s4=>(Yf.list c.ts (Yf.funN c.ts) n [] s4).bind fun l s5 => .ok ⟨nm,b,t,l⟩ s5:=by rw [HF3.out,hE4];rfl
 have hA5:=behind5_any c X w5 s4 pp q Yf.wTo hR5 hP5.par hpB;have hs5:w5.heap.size=w4.heap.size:=by rw [<- hw5];simp
 generalize Pg.nameAt c.ts [Yf.wTo] s4=RT at *;have HA5:=Lib.hid hA5;have HF5:=Lib.hid hF5;have HK5:=Lib.hid hK5;have HKH5:=Lib.hid kh5;have HP5:=Lib.hid hP5;have HW5:=Lib.hid hw5;have hs45:=hK4.size;clear hA5 hF5 hK5 kh5 hP5 hw5 hB5 hR5 hP4 kh4 hE4 hR4 hK4 HA3 HF3 HK3 HKH3 HP3 HG3 p03
 go_wp2_with fail
 rw [HW5.out];refine HA5.out.mono ?_;rintro e w6 (⟨d,s6,hE6,rfl,hR6,hK6⟩ | ⟨cd,p6,d,hE6,rfl,hK6⟩)
 rotate_left
 ·have hF:RR = .bad cd p6 []:=by rw [HRF.out,HF5.out,hE6];rfl
  have kh6:=hK6.heap HKH5.out (by omega) (by omega) (by decide);have x4:w6.cell? ⟨w.heap.size,4,none⟩=some (.string ⟨#[]⟩):=(blk_cell kh6 4).trans rfl;have x5:w6.cell? ⟨w.heap.size,5,none⟩=some (.int .i64 0):=(blk_cell kh6 5).trans rfl;have x6:w6.cell? ⟨w.heap.size,6,none⟩=some (.int .i64 0):=(blk_cell kh6 6).trans rfl;have yf:∀ i,w6.frozen? ⟨w.heap.size,i,none⟩=false:=fun i=>blk_frozen kh6 i;have HF:=Lib.hid hF;have HK:=Lib.hid (Ky.of_kp (q:=q) ((HK5.out.trans hK6).new (but_three w6 w.heap.size 4 (.string ⟨d.text.toArray⟩) (.int .i64 d.at_.line) (.int .i64 d.at_.col)) (fun k e=>by omega)));clear hF hE6 hK6 kh6;unfold nmV dval
  go_wp2
  go_ret
  exact .inr ⟨cd,p6,[],HF.out,rfl,HK.out⟩
 have kh6:=hK6.heap HKH5.out (by omega) (by omega) (by decide);have x4:w6.cell? ⟨w.heap.size,4,none⟩=some (.string ⟨#[]⟩):=(blk_cell kh6 4).trans rfl;have x5:w6.cell? ⟨w.heap.size,5,none⟩=some (.int .i64 0):=(blk_cell kh6 5).trans rfl;have x6:w6.cell? ⟨w.heap.size,6,none⟩=some (.int .i64 0):=(blk_cell kh6 6).trans rfl;have yf:∀ i,w6.frozen? ⟨w.heap.size,i,none⟩=false:=fun i=>blk_frozen kh6 i;have hP6:=HP5.out.kp hr hb hK6;have hB7:But (fun k=>k=w.heap.size) w6 (((w6.setCell ⟨w.heap.size,4,none⟩ (.string ⟨d.text.toArray⟩)).setCell ⟨w.heap.size,5,none⟩ (.int .i64 d.at_.line)).setCell ⟨w.heap.size,6,none⟩ (.int .i64 d.at_.col)):=but_three w6 w.heap.size 4 _ _ _;obtain ⟨w7,hw7⟩:∃ w7,((w6.setCell ⟨w.heap.size,4,none⟩ (.string ⟨d.text.toArray⟩)).setCell ⟨w.heap.size,5,none⟩ (.int .i64 d.at_.line)).setCell ⟨w.heap.size,6,none⟩ (.int .i64 d.at_.col)=w7:=⟨_,rfl⟩;rw [hw7] at hB7;have kh7:w7.heap[w.heap.size]? = some (.cells (hv0 nm b d (.slice none 0 0)) 56 (0,0)):=by rw [<- hw7];exact hv0_dst kh6
 have hR7:=hR6.at_new hB7 kh6 (by decide) hsz;have hP7:=hP6.freeD hr hb kh6 HUB.out (freeD_but (Kp.refl c w6) hB7);have hK7:Kp c w w7:=(HK5.out.trans hK6).new hB7 (fun k e=>by omega);have p07:=hP7.p0;rw [<- hw7] at p07;obtain ⟨V7,hV7⟩:∃ V,w7.alloc (.cells #[.string ⟨#[105,110]⟩] 9)=V:=⟨_,rfl⟩;have hbV7:Below w7.heap.size w7 V7:=by rw [<- hV7];exact (Below.refl _ w7).alloc (Nat.le_refl _) _
 have ks7:V7.cell? ⟨w7.heap.size,0,none⟩=some (.string ⟨Yf.wIn.toArray⟩):=by rw [<- hV7];exact (blk_cell (blk_new w7 _) 0).trans rfl
 have hs7:w7.heap.size=w6.heap.size:=by rw [<- hw7];simp
 have hT7:=take_any c X V7 s6 Yf.wIn w7.heap.size (hR7.below hbV7) ks7;have hF7:R=(Ex.take c.ts Yf.wIn s6).bind fun _ s4=>(Yf.list c.ts (Yf.funN c.ts) n [] s4).bind fun l s5 => .ok ⟨nm,b,d,l⟩ s5:=by rw [HF5.out,hE6];rfl
 have HW7:=Lib.hid hw7;have HF7:=Lib.hid hF7;have HV7:=Lib.hid hV7;have HT7:=Lib.hid hT7;have HBV7:=Lib.hid hbV7;have HKH7:=Lib.hid kh7;have HP7:=Lib.hid hP7;have HK7:=Lib.hid hK7;have hs67:=hK6.size;clear hw7 hF7 hV7 hT7 hbV7 ks7 kh7 hP7 hK7 hB7 hR7 hP6 kh6 hE6 hR6 hK6 HA5 HF5 HK5 HKH5 HP5 HW5 x3 xf;unfold nmV
 go_wp2_with fail
 rw [HW7.out,hs7.symm,HV7.out];refine HT7.out.mono ?_;rintro e w8 (⟨s8,hE8,rfl,hR8,hK8⟩ | ⟨cd,p8,hE8,rfl,hK8⟩)
 rotate_left
 ·have hF:RR = .bad cd p8 []:=by rw [HRF.out,HF7.out,hE8];rfl
  have HF:=Lib.hid hF;have HK:=Lib.hid (Ky.of_kp (q:=q) (HK7.out.trans (Below.then_kp (c:=c) HBV7.out hK8)));clear hF hE8 hK8;unfold dval
  go_wp2
  go_ret
  exact .inr ⟨cd,p8,[],HF.out,rfl,HK.out⟩
 have hK78:=Below.then_kp (c:=c) HBV7.out hK8;have kh8:=hK78.heap HKH7.out (by omega) (by omega) (by decide);have hP8:=HP7.out.kp hr hb hK78;have hF8:R=(Yf.list c.ts (Yf.funN c.ts) n [] s8).bind fun l s5 => .ok ⟨nm,b,d,l⟩ s5:=by rw [HF7.out,hE8];rfl
 have hA8:=list5_any c X w8 s8 w.heap.size pp q 7 n 140 56 _ (Yf.funN c.ts) none 0 [] hR8 hP8.par hpB hsz ⟨by decide,by decide,by decide,by decide⟩ kh8 rfl (World.ownsRow_nil _ _ _ _) (by simp;omega) (enters_of Tryz.func140 (by kernel_rfl) rfl) (fun W s hR hp=>yfun5_any c X W s pp q hR hp hpB) (fun e=>HNE.out (by rw [hF8,e];rfl));generalize Yf.list c.ts (Yf.funN c.ts) n [] s8=RL at *;have HA8:=Lib.hid hA8;have HF8:=Lib.hid hF8;have HK8:=Lib.hid (HK7.out.trans hK78);have HKH8:=Lib.hid kh8;have HP8:=Lib.hid hP8;have hs78:=hK78.size;clear hA8 hF8 hK78 kh8 hP8 hE8 hR8 hK8 HF7 HV7 HT7 HBV7 HKH7 HP7 HK7 HW7 x4 x5 x6 yf p07
 go_wp2_with fail
 refine HA8.out.mono ?_;rintro e w9 (⟨l,s9,pa,pc,rfl,rfl,hR9,hp9,kh9,ho9,hB9,hat9⟩ | ⟨cd,p9,rfl,rfl,hB9⟩)
 rotate_left
 ·have hF:RR = .bad cd p9 []:=by rw [HRF.out,HF8.out];rfl
  have HF:=Lib.hid hF;have HK:=Lib.hid (Ky.of_kp (q:=q) (freeD_old (Nat.le_refl _) HK8.out (freeLp_d hB9 (.inl rfl))));clear hF hB9;unfold dval
  go_wp2
  go_ret
  exact .inr ⟨cd,p9,[],HF.out,rfl,HK.out⟩
 have hK9:Kp c w w9:=freeD_old (Nat.le_refl _) HK8.out (freeLp_d hB9 (.inl rfl));have hP9:=HP8.out.freeD hr hb HKH8.out HUB.out (freeLp_d hB9 (.inl rfl));have kh9':w9.heap[w.heap.size]? = some (.cells (htCell ⟨⟨nm,b,d,l⟩,pa,pc⟩).toArray 56 (0,0)):=kh9;have hin:w9.ownsRow c.B 49 3 (innV ⟨⟨nm,b,d,l⟩,pa,pc⟩) l.length (nmsCells l):=ho9;have hap:∀ k,(innV ⟨⟨nm,b,d,l⟩,pa,pc⟩).ownBlock=some k->(Z 1).ownBlock≠some k/\(Z 2).ownBlock≠some k:=fun k hk=>by
  have hk':(Value.slice pa l.length pc).ownBlock=some k:=hk
  rcases hat9 with e | ⟨g',e,e1⟩
  ·rw [e] at hk';cases hk'
  ·rw [e] at hk';injection hk' with hk'
   constructor
   ·intro e2;obtain ⟨_,cur,e3⟩:=own_tag HP8.out.conf e2;have:=lt_of_heap e3;omega
   ·intro e2;obtain ⟨_,cur,e3⟩:=own_tag HP8.out.integ e2;have:=lt_of_heap e3;omega
 have hLF:LiesH pp q w.heap.size c.r ⟨⟨nm,b,d,l⟩,pa,pc⟩ w9:=⟨hp9,kh9'⟩;have hFR:RR = .ok { g with hat:=g.hat++[⟨nm,b,d,l⟩] } s9:=by rw [HRF.out,HF8.out];rfl
 have hS0:=(hLF.below (Below.refl _ w9).drew).held;have hSA:=fun o=>(hLF.below (((Below.refl _ w9).alloc (Nat.le_refl _) o).drew)).held;have g7:=(hP9.below (Below.refl _ w9).drew).gv (i:=7) (by decide);have g7':=fun o=>(hP9.below (((Below.refl _ w9).alloc (Nat.le_refl _) o).drew)).gv (i:=7) (by decide);have hnb:((w9.alloc (.cells (htCell ⟨⟨nm,b,d,l⟩,pa,pc⟩).toArray 56)).drew).heap[w9.heap.size]? = some (.cells (htCell ⟨⟨nm,b,d,l⟩,pa,pc⟩).toArray 56 (0,0)):=heap_alloc_new w9 _;have hB9':=hR9.size;have HP9:=Lib.hid hP9;have HKC:=Lib.hid (Ky.of_kp (q:=q) hK9);have HIN:=Lib.hid hin;have HAP:=Lib.hid hap;have HLF:=Lib.hid hLF;have HFR:=Lib.hid hFR;have HS0:=Lib.hid hS0;have HSA:=Lib.hid hSA;have HNB:=Lib.hid hnb;have HR9:=Lib.hid hR9;clear hP9 hK9 kh9 kh9' hin hap hLF hFR hS0 hSA hnb hB9 hR9 hp9 ho9 hat9 HA8 HF8 HRF HK8 HP8 HKH8 HB HNE
 go_upto_region 17 with fail
 unfold HeldH at HS0 HSA;refine wp_region_held_drew (S:=(fun W=>W.cell? ⟨pp,1,none⟩=some (.pointer (some ⟨q,0,none⟩))/\W.cell? ⟨w.heap.size,0,none⟩=some (.string ⟨nm.text.toArray⟩)/\W.cell? ⟨w.heap.size,1,none⟩=some (.int .i64 nm.at_.line)/\W.cell? ⟨w.heap.size,2,none⟩=some (.int .i64 nm.at_.col)/\W.cell? ⟨w.heap.size,3,none⟩=some (.int .i64 (b:Int))/\W.cell? ⟨w.heap.size,4,none⟩=some (.string ⟨d.text.toArray⟩)/\W.cell? ⟨w.heap.size,5,none⟩=some (.int .i64 d.at_.line)/\W.cell? ⟨w.heap.size,6,none⟩=some (.int .i64 d.at_.col)/\W.cell? ⟨w.heap.size,7,none⟩=some (.slice pa l.length pc))) (by kernel_rfl) HS0.out (fun hHeld=>?_);refine wpAnyH_take (i:=0) (oi:={ dst:=some 58,op:=Op.move (Operand.tmp 0),type:=85,pos := "items.go:121", after:=#[],guard:=none }) (v := .pointer (some ⟨pp,0,none⟩)) rfl (by kernel_rfl) (by kernel_rfl) (by kernel_rfl) (fun _ _ _ h=>h) (Or.inl ⟨by rfl,by intro w hSw;(try dsimp only at hSw);go_simp⟩) hHeld ?_
 try simp only [Act.put,List.setIfInBounds_toArray,List.set_cons_zero,List.set_cons_succ]
 refine wpAnyH_take (i:=1) (oi:={ dst:=some 59,op:=Op.nilCheck (Operand.tmp 58),type:=0,pos := "items.go:121", after:=#[{ on:=0,ground:=Ground.data }],guard:=none }) (v := .pointer (some ⟨pp,0,none⟩)) rfl (by kernel_rfl) (by kernel_rfl) (by kernel_rfl) (fun _ _ _ h=>h) (Or.inl ⟨by rfl,by intro w hSw;(try dsimp only at hSw);go_simp⟩) hHeld ?_
 try simp only [Act.put,List.setIfInBounds_toArray,List.set_cons_zero,List.set_cons_succ]
 refine wpAnyH_take (i:=2) (oi:={ dst:=some 60,op:=Op.fieldAddr 87 (Operand.tmp 59) 1,type:=0,pos := "items.go:121", after:=#[{ on:=1,ground:=Ground.data }],guard:=none }) (v := .pointer (some ⟨pp,1,none⟩)) rfl (by kernel_rfl) (by kernel_rfl) (by kernel_rfl) (fun _ _ _ h=>h) (Or.inl ⟨by rfl,by intro w hSw;(try dsimp only at hSw);go_simp⟩) hHeld ?_
 try simp only [Act.put,List.setIfInBounds_toArray,List.set_cons_zero,List.set_cons_succ]
 refine wpAnyH_take (i:=3) (oi:={ dst:=some 61,op:=Op.load 30 (Operand.tmp 60),type:=30,pos := "items.go:121", after:=#[{ on:=2,ground:=Ground.data }],guard:=none }) (v := .pointer (some ⟨q,0,none⟩)) rfl (by kernel_rfl) (by kernel_rfl) (by kernel_rfl) (fun _ _ _ h=>h) (Or.inl ⟨by rfl,by intro w hSw;(try dsimp only at hSw);go_simp⟩) hHeld ?_
 try simp only [Act.put,List.setIfInBounds_toArray,List.set_cons_zero,List.set_cons_succ]
 refine wpAnyH_take (i:=4) (oi:={ dst:=some 62,op:=Op.move (Operand.tmp 0),type:=85,pos := "items.go:121", after:=#[],guard:=none }) (v := .pointer (some ⟨pp,0,none⟩)) rfl (by kernel_rfl) (by kernel_rfl) (by kernel_rfl) (fun _ _ _ h=>h) (Or.inl ⟨by rfl,by intro w hSw;(try dsimp only at hSw);go_simp⟩) hHeld ?_
 try simp only [Act.put,List.setIfInBounds_toArray,List.set_cons_zero,List.set_cons_succ]
 refine wpAnyH_take (i:=5) (oi:={ dst:=some 63,op:=Op.nilCheck (Operand.tmp 62),type:=0,pos := "items.go:121", after:=#[{ on:=4,ground:=Ground.data }],guard:=none }) (v := .pointer (some ⟨pp,0,none⟩)) rfl (by kernel_rfl) (by kernel_rfl) (by kernel_rfl) (fun _ _ _ h=>h) (Or.inl ⟨by rfl,by intro w hSw;(try dsimp only at hSw);go_simp⟩) hHeld ?_
 try simp only [Act.put,List.setIfInBounds_toArray,List.set_cons_zero,List.set_cons_succ]
 refine wpAnyH_take (i:=6) (oi:={ dst:=some 64,op:=Op.fieldAddr 87 (Operand.tmp 63) 1,type:=0,pos := "items.go:121", after:=#[{ on:=5,ground:=Ground.data }],guard:=none }) (v := .pointer (some ⟨pp,1,none⟩)) rfl (by kernel_rfl) (by kernel_rfl) (by kernel_rfl) (fun _ _ _ h=>h) (Or.inl ⟨by rfl,by intro w hSw;(try dsimp only at hSw);go_simp⟩) hHeld ?_
 try simp only [Act.put,List.setIfInBounds_toArray,List.set_cons_zero,List.set_cons_succ]
 refine wpAnyH_take (i:=7) (oi:={ dst:=some 65,op:=Op.load 30 (Operand.tmp 64),type:=30,pos := "items.go:121", after:=#[{ on:=6,ground:=Ground.data }],guard:=none }) (v := .pointer (some ⟨q,0,none⟩)) rfl (by kernel_rfl) (by kernel_rfl) (by kernel_rfl) (fun _ _ _ h=>h) (Or.inl ⟨by rfl,by intro w hSw;(try dsimp only at hSw);go_simp⟩) hHeld ?_
 try simp only [Act.put,List.setIfInBounds_toArray,List.set_cons_zero,List.set_cons_succ]
 refine wpAnyH_take (i:=8) (oi:={ dst:=some 66,op:=Op.nilCheck (Operand.tmp 65),type:=0,pos := "items.go:121", after:=#[{ on:=7,ground:=Ground.data }],guard:=none }) (v := .pointer (some ⟨q,0,none⟩)) rfl (by kernel_rfl) (by kernel_rfl) (by kernel_rfl) (fun _ _ _ h=>h) (Or.inl ⟨by rfl,by intro w hSw;(try dsimp only at hSw);go_simp⟩) hHeld ?_
 try simp only [Act.put,List.setIfInBounds_toArray,List.set_cons_zero,List.set_cons_succ]
 refine wpAnyH_take (i:=9) (oi:={ dst:=some 67,op:=Op.fieldAddr 84 (Operand.tmp 66) 5,type:=0,pos := "items.go:121", after:=#[{ on:=8,ground:=Ground.data }],guard:=none }) (v := .pointer (some ⟨q,7,none⟩)) rfl (by kernel_rfl) (by kernel_rfl) (by kernel_rfl) (fun _ _ _ h=>h) (Or.inl ⟨by rfl,by intro w hSw;(try dsimp only at hSw);go_simp⟩) hHeld ?_
 try simp only [Act.put,List.setIfInBounds_toArray,List.set_cons_zero,List.set_cons_succ]
 refine wpAnyH_take (i:=11) (oi:={ dst:=some 69,op:=Op.load 56 (Operand.tmp 3),type:=56,pos := "items.go:121", after:=#[],guard:=none }) (v := .agg #[.string ⟨nm.text.toArray⟩,.int .i64 nm.at_.line,.int .i64 nm.at_.col,.int .i64 (b:Int),.string ⟨d.text.toArray⟩,.int .i64 d.at_.line,.int .i64 d.at_.col,.slice pa l.length pc]) rfl (by kernel_rfl) (by kernel_rfl) (by kernel_rfl) (fun _ _ _ h=>h) (Or.inl ⟨by rfl,by intro w hSw;(try dsimp only at hSw);go_simp⟩) hHeld ?_
 try simp only [Act.put,List.setIfInBounds_toArray,List.set_cons_zero,List.set_cons_succ]
 refine wpAnyH_ready (rs:=[10,12]) (by kernel_rfl) (by simp) ?_;refine AllReadyH.cons (o:={ dst:=some 68,op:=Op.load 82 (Operand.tmp 67),type:=82,pos := "items.go:121", after:=#[{ on:=9,ground:=Ground.data }],guard:=none }) rfl (fun K hK=>?_) ?_
 ·go_simp
  refine hK.out _ _ HS0.out (fun hHeld=>?_);clear hK K
  try simp only [Act.put,List.setIfInBounds_toArray,List.set_cons_zero,List.set_cons_succ]
  refine wpAnyH_ready (rs:=[12]) (by kernel_rfl) (by simp) ?_;refine AllReadyH.cons (o:={ dst:=some 70,op:=Op.buildSlice 82 1 #[(0,Operand.tmp 69)],type:=82,pos := "items.go:121", after:=#[{ on:=11,ground:=Ground.data }],guard:=none }) rfl (fun K hK=>?_) AllReadyH.nil
  go_simp
  refine hK.out _ _ (HSA.out _) (fun hHeld=>?_);clear hK K
  try simp only [Act.put,List.setIfInBounds_toArray,List.set_cons_zero,List.set_cons_succ]
  refine wpAnyH_ready (rs:=[13]) (by kernel_rfl) (by simp) ?_;refine AllReadyH.cons (o:={ dst:=some 71,op:=Op.call { callee:=Callee.builtin Builtin.append,args:=#[Operand.tmp 68,Operand.tmp 70],argTypes:=#[82,82] },type:=82,pos := "items.go:121", after:=#[{ on:=10,ground:=Ground.data },{ on:=12,ground:=Ground.data }],guard:=none }) rfl (fun K hK=>?_) AllReadyH.nil;refine step_append_lies _ (by rfl) (.tmp 68) (.tmp 70) 82 (by rfl) c.B 56 i0 _ 8 96 Tryz.underlying82 HI.out HZ.out HZ1.out HZ2.out rfl (by omega) (Z 7) fs.length (htsCells fs) (by rfl) ((HP9.out.hat.alloc _).drew) ⟨w9.heap.size,0,none⟩ 1 1 (htCell ⟨⟨nm,b,d,l⟩,pa,pc⟩) (by rfl) (by rfl) (World.news_of_block (cs:=(htCell ⟨⟨nm,b,d,l⟩,pa,pc⟩).toArray) (t:=56) (fr:=(0,0)) HNB.out) (htCell_one _) (by omega) (by unfold maxLen;omega) (by omega) (by simp;omega) (w9.heap.size+1) (by simp) ?_;intro gg cap w5 hown5 hgrow5 hat5 hlt5;have G:=row_tail_g (l:=7) ⟨by decide,by decide,by decide,by decide⟩ ⟨by decide,by decide,by decide⟩ HR9.out HP9.out.hat HP9.out.pol HP9.out.qB HP9.out.par hown5 hgrow5;have c5:w5.cell? ⟨q,7,none⟩=some (Z 7):=(blk_cell G.1 7).trans rfl;have f5:w5.frozen? ⟨q,7,none⟩=false:=blk_frozen G.1 7;have hL5:=HLF.out.grown HP9.out HUB.out hgrow5;have hS5:=hL5.held;have hS6:=(hL5.set G.1 7 (.slice (some ⟨gg,0,none⟩) (fs.length+1) cap)).held;unfold HeldH at hS5 hS6;refine hK.out _ _ hS5 (fun hHeld=>?_);clear hK K
  try simp only [Act.put,List.setIfInBounds_toArray,List.set_cons_zero,List.set_cons_succ]
  refine wpAnyH_take (i:=14) (oi:={ dst:=some 72,op:=Op.nilCheck (Operand.tmp 61),type:=0,pos := "items.go:121", after:=#[{ on:=3,ground:=Ground.data },{ on:=0,ground:=Ground.phase },{ on:=1,ground:=Ground.phase },{ on:=2,ground:=Ground.phase },{ on:=3,ground:=Ground.phase },{ on:=4,ground:=Ground.phase },{ on:=5,ground:=Ground.phase },{ on:=6,ground:=Ground.phase },{ on:=7,ground:=Ground.phase },{ on:=8,ground:=Ground.phase },{ on:=9,ground:=Ground.phase },{ on:=10,ground:=Ground.phase },{ on:=11,ground:=Ground.phase },{ on:=12,ground:=Ground.phase },{ on:=13,ground:=Ground.phase }],guard:=none }) (v := .pointer (some ⟨q,0,none⟩)) rfl (by kernel_rfl) (by kernel_rfl) (by kernel_rfl) (fun _ _ _ h=>h) (Or.inl ⟨by rfl,by intro w hSw;(try dsimp only at hSw);go_simp⟩) hHeld ?_
  try simp only [Act.put,List.setIfInBounds_toArray,List.set_cons_zero,List.set_cons_succ]
  refine wpAnyH_take (i:=15) (oi:={ dst:=some 73,op:=Op.fieldAddr 84 (Operand.tmp 72) 5,type:=0,pos := "items.go:121", after:=#[{ on:=14,ground:=Ground.data },{ on:=0,ground:=Ground.phase },{ on:=1,ground:=Ground.phase },{ on:=2,ground:=Ground.phase },{ on:=3,ground:=Ground.phase },{ on:=4,ground:=Ground.phase },{ on:=5,ground:=Ground.phase },{ on:=6,ground:=Ground.phase },{ on:=7,ground:=Ground.phase },{ on:=8,ground:=Ground.phase },{ on:=9,ground:=Ground.phase },{ on:=10,ground:=Ground.phase },{ on:=11,ground:=Ground.phase },{ on:=12,ground:=Ground.phase },{ on:=13,ground:=Ground.phase }],guard:=none }) (v := .pointer (some ⟨q,7,none⟩)) rfl (by kernel_rfl) (by kernel_rfl) (by kernel_rfl) (fun _ _ _ h=>h) (Or.inl ⟨by rfl,by intro w hSw;(try dsimp only at hSw);go_simp⟩) hHeld ?_
  try simp only [Act.put,List.setIfInBounds_toArray,List.set_cons_zero,List.set_cons_succ]
  refine wpAnyH_ready (rs:=[16]) (by kernel_rfl) (by simp) ?_;refine AllReadyH.cons (o:={ dst:=none,op:=Op.store 82 (Operand.tmp 73) (Operand.tmp 71),type:=0,pos := "items.go:121", after:=#[{ on:=15,ground:=Ground.data },{ on:=13,ground:=Ground.data },{ on:=13,ground:=Ground.chain },{ on:=0,ground:=Ground.phase },{ on:=1,ground:=Ground.phase },{ on:=2,ground:=Ground.phase },{ on:=3,ground:=Ground.phase },{ on:=4,ground:=Ground.phase },{ on:=5,ground:=Ground.phase },{ on:=6,ground:=Ground.phase },{ on:=7,ground:=Ground.phase },{ on:=8,ground:=Ground.phase },{ on:=9,ground:=Ground.phase },{ on:=10,ground:=Ground.phase },{ on:=11,ground:=Ground.phase },{ on:=12,ground:=Ground.phase },{ on:=13,ground:=Ground.phase }],guard:=none }) rfl (fun K hK=>?_) AllReadyH.nil
  go_simp
  refine hK.out _ _ hS6 (fun hHeld=>?_);clear hK K
  try simp only [Act.put,List.setIfInBounds_toArray,List.set_cons_zero,List.set_cons_succ]
  refine wpAnyH_done (by kernel_rfl) ?_ _;have HG:=Lib.hid G.2;clear G hown5 hgrow5 hat5 hlt5 c5 f5 hL5 hS5 hS6 hHeld
  go_wp2
  go_ret
  obtain ⟨hR6,hown6,hq6,hp6,hB6⟩:=HG.out;exact .inl ⟨_,_,_,_,HFR.out,rfl,hR6,HP9.out.puth hr hb HIN.out HAP.out (by rw [List.length_append,htsCells_snoc];exact hown6) hq6 hp6 hB6,HKC.out.trans (freeL_ky hB6 HP9.out.hat (.inr (.inr rfl)))⟩
 ·refine AllReadyH.cons (o:={ dst:=some 70,op:=Op.buildSlice 82 1 #[(0,Operand.tmp 69)],type:=82,pos := "items.go:121", after:=#[{ on:=11,ground:=Ground.data }],guard:=none }) rfl (fun K hK=>?_) AllReadyH.nil
  go_simp
  refine hK.out _ _ (HSA.out _) (fun hHeld=>?_);clear hK K
  try simp only [Act.put,List.setIfInBounds_toArray,List.set_cons_zero,List.set_cons_succ]
  refine wpAnyH_ready (rs:=[10]) (by kernel_rfl) (by simp) ?_;refine AllReadyH.cons (o:={ dst:=some 68,op:=Op.load 82 (Operand.tmp 67),type:=82,pos := "items.go:121", after:=#[{ on:=9,ground:=Ground.data }],guard:=none }) rfl (fun K hK=>?_) AllReadyH.nil
  go_simp
  refine hK.out _ _ (HSA.out _) (fun hHeld=>?_);clear hK K
  try simp only [Act.put,List.setIfInBounds_toArray,List.set_cons_zero,List.set_cons_succ]
  refine wpAnyH_ready (rs:=[13]) (by kernel_rfl) (by simp) ?_;refine AllReadyH.cons (o:={ dst:=some 71,op:=Op.call { callee:=Callee.builtin Builtin.append,args:=#[Operand.tmp 68,Operand.tmp 70],argTypes:=#[82,82] },type:=82,pos := "items.go:121", after:=#[{ on:=10,ground:=Ground.data },{ on:=12,ground:=Ground.data }],guard:=none }) rfl (fun K hK=>?_) AllReadyH.nil;refine step_append_lies _ (by rfl) (.tmp 68) (.tmp 70) 82 (by rfl) c.B 56 i0 _ 8 96 Tryz.underlying82 HI.out HZ.out HZ1.out HZ2.out rfl (by omega) (Z 7) fs.length (htsCells fs) (by rfl) ((HP9.out.hat.alloc _).drew) ⟨w9.heap.size,0,none⟩ 1 1 (htCell ⟨⟨nm,b,d,l⟩,pa,pc⟩) (by rfl) (by rfl) (World.news_of_block (cs:=(htCell ⟨⟨nm,b,d,l⟩,pa,pc⟩).toArray) (t:=56) (fr:=(0,0)) HNB.out) (htCell_one _) (by omega) (by unfold maxLen;omega) (by omega) (by simp;omega) (w9.heap.size+1) (by simp) ?_;intro gg cap w5 hown5 hgrow5 hat5 hlt5;have G:=row_tail_g (l:=7) ⟨by decide,by decide,by decide,by decide⟩ ⟨by decide,by decide,by decide⟩ HR9.out HP9.out.hat HP9.out.pol HP9.out.qB HP9.out.par hown5 hgrow5;have c5:w5.cell? ⟨q,7,none⟩=some (Z 7):=(blk_cell G.1 7).trans rfl;have f5:w5.frozen? ⟨q,7,none⟩=false:=blk_frozen G.1 7;have hL5:=HLF.out.grown HP9.out HUB.out hgrow5;have hS5:=hL5.held;have hS6:=(hL5.set G.1 7 (.slice (some ⟨gg,0,none⟩) (fs.length+1) cap)).held;unfold HeldH at hS5 hS6;refine hK.out _ _ hS5 (fun hHeld=>?_);clear hK K
  try simp only [Act.put,List.setIfInBounds_toArray,List.set_cons_zero,List.set_cons_succ]
  refine wpAnyH_take (i:=14) (oi:={ dst:=some 72,op:=Op.nilCheck (Operand.tmp 61),type:=0,pos := "items.go:121", after:=#[{ on:=3,ground:=Ground.data },{ on:=0,ground:=Ground.phase },{ on:=1,ground:=Ground.phase },{ on:=2,ground:=Ground.phase },{ on:=3,ground:=Ground.phase },{ on:=4,ground:=Ground.phase },{ on:=5,ground:=Ground.phase },{ on:=6,ground:=Ground.phase },{ on:=7,ground:=Ground.phase },{ on:=8,ground:=Ground.phase },{ on:=9,ground:=Ground.phase },{ on:=10,ground:=Ground.phase },{ on:=11,ground:=Ground.phase },{ on:=12,ground:=Ground.phase },{ on:=13,ground:=Ground.phase }],guard:=none }) (v := .pointer (some ⟨q,0,none⟩)) rfl (by kernel_rfl) (by kernel_rfl) (by kernel_rfl) (fun _ _ _ h=>h) (Or.inl ⟨by rfl,by intro w hSw;(try dsimp only at hSw);go_simp⟩) hHeld ?_
  try simp only [Act.put,List.setIfInBounds_toArray,List.set_cons_zero,List.set_cons_succ]
  refine wpAnyH_take (i:=15) (oi:={ dst:=some 73,op:=Op.fieldAddr 84 (Operand.tmp 72) 5,type:=0,pos := "items.go:121", after:=#[{ on:=14,ground:=Ground.data },{ on:=0,ground:=Ground.phase },{ on:=1,ground:=Ground.phase },{ on:=2,ground:=Ground.phase },{ on:=3,ground:=Ground.phase },{ on:=4,ground:=Ground.phase },{ on:=5,ground:=Ground.phase },{ on:=6,ground:=Ground.phase },{ on:=7,ground:=Ground.phase },{ on:=8,ground:=Ground.phase },{ on:=9,ground:=Ground.phase },{ on:=10,ground:=Ground.phase },{ on:=11,ground:=Ground.phase },{ on:=12,ground:=Ground.phase },{ on:=13,ground:=Ground.phase }],guard:=none }) (v := .pointer (some ⟨q,7,none⟩)) rfl (by kernel_rfl) (by kernel_rfl) (by kernel_rfl) (fun _ _ _ h=>h) (Or.inl ⟨by rfl,by intro w hSw;(try dsimp only at hSw);go_simp⟩) hHeld ?_
  try simp only [Act.put,List.setIfInBounds_toArray,List.set_cons_zero,List.set_cons_succ]
  refine wpAnyH_ready (rs:=[16]) (by kernel_rfl) (by simp) ?_;refine AllReadyH.cons (o:={ dst:=none,op:=Op.store 82 (Operand.tmp 73) (Operand.tmp 71),type:=0,pos := "items.go:121", after:=#[{ on:=15,ground:=Ground.data },{ on:=13,ground:=Ground.data },{ on:=13,ground:=Ground.chain },{ on:=0,ground:=Ground.phase },{ on:=1,ground:=Ground.phase },{ on:=2,ground:=Ground.phase },{ on:=3,ground:=Ground.phase },{ on:=4,ground:=Ground.phase },{ on:=5,ground:=Ground.phase },{ on:=6,ground:=Ground.phase },{ on:=7,ground:=Ground.phase },{ on:=8,ground:=Ground.phase },{ on:=9,ground:=Ground.phase },{ on:=10,ground:=Ground.phase },{ on:=11,ground:=Ground.phase },{ on:=12,ground:=Ground.phase },{ on:=13,ground:=Ground.phase }],guard:=none }) rfl (fun K hK=>?_) AllReadyH.nil
  go_simp
  refine hK.out _ _ hS6 (fun hHeld=>?_);clear hK K
  try simp only [Act.put,List.setIfInBounds_toArray,List.set_cons_zero,List.set_cons_succ]
  refine wpAnyH_done (by kernel_rfl) ?_ _;have HG:=Lib.hid G.2;clear G hown5 hgrow5 hat5 hlt5 c5 f5 hL5 hS5 hS6 hHeld
  go_wp2
  go_ret
  obtain ⟨hR6,hown6,hq6,hp6,hB6⟩:=HG.out;exact .inl ⟨_,_,_,_,HFR.out,rfl,hR6,HP9.out.puth hr hb HIN.out HAP.out (by rw [List.length_append,htsCells_snoc];exact hown6) hq6 hp6 hB6,HKC.out.trans (freeL_ky hB6 HP9.out.hat (.inr (.inr rfl)))⟩
end Go.Proofs.YtdfpkmfeldoamaaGreatDoor
