/- A part of the proof: All that comes: items, and marks between them. -/
import Derived.Test.YtdfpkmfeldoamaaGreatDoorSeqM
import Derived.Deep.RegionHeld
import Derived.Deep.RegionLaw
import Derived.Deep.DeepCutAuto
import Derived.Deep.CutRange
set_option linter.unusedSimpArgs false
set_option linter.unusedVariables false
set_option maxRecDepth 100000
set_option maxHeartbeats 8000000
namespace Go.Proofs.YtdfpkmfeldoamaaGreatDoor
open Go.RowKit Go.Shelf Tn Lx
attribute [local go_sem] tok_field0 tok_field1 tok_field3 Oper.semAt_some
theorem ints_drew {N:Nat}{w:World}{ao:Option Addr}{ks:List Int}(h:IntsAt N w ao ks):IntsAt N w.drew ao ks:=h
def fr19 (r b2 b5 b7:Nat)(x1 x6 x10 x11 x12 x13 x14 x15 x16 x17 x18 x19 x20 x21 x22 x23 x24 x25 x26 x27 x28 x29 x30 x31 x32 x33 x34 x35 x36 x37 x38 x39 x40 v8 v9 v41 v42:Value):Array Value :=
 #[.pointer (some ⟨r,0,none⟩),x1,.pointer (some ⟨b2,0,none⟩),undef,.int .i64 0,.pointer (some ⟨b5,0,none⟩),x6,.pointer (some ⟨b7,0,none⟩),v8,v9,x10,x11,x12,x13,x14,x15,x16,x17,x18,x19,x20,x21,x22,x23,x24,x25,x26,x27,x28,x29,x30,x31,x32,x33,x34,x35,x36,x37,x38,x39,x40,v41,v42,undef,undef,undef,undef,undef,undef,undef,undef,undef,undef]
theorem all_any (c:Cx)(X:Nat->Prop)(w:World)(s:Ex.S)(f:Ex.Rec)(d m:Nat)(hf:Spec c f)(hd:d<=64)(hm:m<=900000)(h:Rd c X w s)(hne:Ex.allF c.ts m (f .item d) s ≠ .out):
  Calls Tryz.prog 169 #[.pointer (some ⟨c.r,0,none⟩),.int .i64 (d:Int)] w (Post c X w (Ex.allF c.ts m (f .item d) s)):=by
 obtain ⟨i0,hi0,hz0,hz1,hz2⟩:=info_parts Tryz.info3;have HI0:=Lib.hid hi0;have HZ0:=Lib.hid hz0;have HZ1:=Lib.hid hz1;have HZ2:=Lib.hid hz2;obtain ⟨j0,hj0,hy0,hy1,hy2⟩:=info_parts Tryz.info41;have HJ0:=Lib.hid hj0;have HY0:=Lib.hid hy0;have HY1:=Lib.hid hy1;have HY2:=Lib.hid hy2;have hr1:=h.rlt;have hb1:=h.blt;have hg1:=h.glt;have hsz:=h.size;obtain ⟨W0,hW0⟩:∃ W0,w.alloc (.cells #[.pointer (some ⟨c.r,0,none⟩)] 67)=W0:=⟨_,rfl⟩;have hbW:Below w.heap.size w W0:=by rw [<- hW0];exact (Below.refl _ w).alloc (Nat.le_refl _) _
 have hbox:W0.heap[w.heap.size]? = some (.cells #[.pointer (some ⟨c.r,0,none⟩)] 67 (0,0)):=by rw [<- hW0];exact blk_new w _
 have HF:=Lib.hid hf;have HNE:=Lib.hid hne;have HW0:=Lib.hid hW0;have HB0:=Lib.hid hbW;have HBX:=Lib.hid hbox;have HR0:=Lib.hid (h.below hbW);clear hi0 hz0 hz1 hz2 hj0 hy0 hy1 hy2 hf h hne hW0 hbW hbox;refine calls_of_wpF Tryz.func169 rfl ?_;simp only [Tryz.ntmps169,List.size_toArray,List.length_cons,List.length_nil,Nat.reduceAdd,Nat.reduceSub,Array.replicate_succ,Array.replicate_zero,List.push_toArray,List.append_toArray,List.nil_append,List.cons_append];refine wpF_then ?_
 go_wp2_with fail
 refine wpF_then ?_;rw [HW0.out];have q0:W0.cell? ⟨w.heap.size,0,none⟩=some (.pointer (some ⟨c.r,0,none⟩)):=(blk_cell HBX.out 0).trans rfl
 go_wp2_with fail
 refine (HF.out.item d s X _ hd HR0.out (fun e=>HNE.out (by simp only [Ex.allF,e,Ex.Res.bind]))).mono ?_;rintro e w1 (⟨a1,s1,hE1,rfl,hR1,hK1⟩ | ⟨cd,p1,hE1,rfl,hK1⟩)
 rotate_left
 ·exact (show Post c X w _ _ _ from .inr ⟨cd,p1,by simp only [Ex.allF,hE1,Ex.Res.bind],rfl,Below.then_kp HB0.out hK1⟩)
 obtain ⟨b5,hb5⟩:∃ b5,w1.heap.size+1=b5:=⟨_,rfl⟩;obtain ⟨V,hV⟩:∃ V,(w1.alloc (.cells #[.int .i64 (a1:Int)] 3)).alloc (.cells #[.slice (some ⟨w1.heap.size,0,none⟩) 1 1] 163)=V:=⟨_,rfl⟩;have hbV:Below w1.heap.size w1 V:=by rw [<- hV];exact ((Below.refl _ w1).alloc (Nat.le_refl _) _).alloc (by simp) _
 have hVs:V.heap.size=w1.heap.size+2:=by rw [<- hV];simp
 have hVi:V.heap[w1.heap.size]? = some (.cells #[.int .i64 (a1:Int)] 3 (0,0)):=by rw [<- hV];exact blk_alloc (blk_new w1 _) _
 have hVc:V.heap[b5]? = some (.cells #[.slice (some ⟨w1.heap.size,0,none⟩) 1 1] 163 (0,0)):=by
  rw [<- hV,<- hb5];have:=blk_new (w1.alloc (.cells #[.int .i64 (a1:Int)] 3)) (.cells #[.slice (some ⟨w1.heap.size,0,none⟩) 1 1] 163);rwa [World.size_alloc] at this
 have hs0:=lt_of_heap HBX.out;have hs1:=hK1.size;have hAM:AllM c X w w.heap.size b5 (.slice (some ⟨w1.heap.size,0,none⟩) 1 1) (.slice none 0 0) [a1] [] s1 V :=
  ⟨hR1.more hbV _ (fun k hk=>by
    rcases hk with hk | hk
    ·exact .inl hk
    ·have:k=w1.heap.size:=by injection hk
     exact .inr (by omega)),(Below.then_kp HB0.out hK1).then_below hbV,(hbV.block _ (by omega)).trans (hK1.heap HBX.out (by omega) (by omega) (fun e=>absurd e (by decide))),hVc,
   ⟨rfl,.inr ⟨w1.heap.size,1,_,rfl,by omega,hVi,by simp,by unfold maxLen;omega,rfl,rfl⟩⟩,⟨rfl,.inl ⟨rfl,rfl⟩⟩,hsz,Nat.le_refl _,by omega⟩
 have HE1:=Lib.hid hE1;have HV:=Lib.hid hV;have HAM:=Lib.hid hAM;have HB5:=Lib.hid hb5;clear hE1 hV hbV hVs hVi hVc hAM hR1 hK1 HR0 HBX q0 hs0 HW0 HB0
 go_wp2_with fail
 refine wpF_then ?_
 go_wp2_with fail
 refine wpF_then ?_
 go_wp2_with fail
 rw [HV.out];clear HV HB5 hb5;have hR2:Ex.allF c.ts m (f .item d) s=(Ex.itemsLoop c.ts (f .item d) m [a1] [] s1).bind fun x s2=>Ex.seqs c.ts x.1 x.2 x.2.length (x.1.getD (x.1.length-1) 0) s2:=by simp only [Ex.allF,HE1.out,Ex.Res.bind]
 have HR2:=Lib.hid hR2;clear hR2
 go_loopg [6] m (fun k vm wr=>∃ (vi:Value) (is_:List Nat) (ps:List Pos) (s':Ex.S),AllM c X w w.heap.size b5 vi vm is_ ps s' wr/\Ex.itemsLoop c.ts (f .item d) k is_ ps s'=Ex.itemsLoop c.ts (f .item d) m [a1] [] s1/\is_.length+k<=m+1/\ps.length+1=is_.length)
 case atStart=>exact ⟨_,_,_,_,HAM.out,rfl,by simp;omega,rfl⟩
 case round =>
  obtain ⟨vi,is_,ps,s',hst,hfin,hfew,hone⟩:=hrel;clear HAM;obtain ⟨k,rfl⟩:∃ k,gk=k+1:=by
   cases gk with
   | zero=>exact absurd (show Ex.allF c.ts m (f .item d) s = .out by rw [HR2.out,<- hfin];rfl) HNE.out
   | succ k=>exact ⟨k,rfl⟩
  rw [Ex.itemsLoop] at hfin;obtain ⟨ao,cap0,rfl⟩:=own_form hst.mown;obtain ⟨io,icap,rfl⟩:=own_form hst.own;have hi1:=fun w2 (hR:Rd c (XV X (.slice io is_.length icap)) w2 s')=>is_any c _ w2 s' [59] hR;have HST:=Lib.hid hst;have q2:=hst.q2;clear hst
  cases hv:(Ex.is c.ts s' [59] && Ex.begins (Ex.tk c.ts (s'.p+1))) with
  | true =>
   rw [hv,if_pos rfl] at hfin;obtain ⟨hv1,hv2⟩:Ex.is c.ts s' [59]=true/\Ex.begins (Ex.tk c.ts (s'.p+1))=true:=by simpa using hv
   have hp:=Ex.is_lt hv1;rw [hv1] at hi1;have hbg:=begins_any (Ex.tk c.ts (s'.p+1));rw [hv2] at hbg;obtain ⟨t,htk⟩:∃ t,Ex.tk c.ts s'.p=t:=⟨_,rfl⟩;have hsk:=fun w2 (hR:Rd c (XV X (.slice io is_.length icap)) w2 s')=>skip_any c _ w2 s' hR hp;rw [htk] at hsk;have hat:Ex.at_ c.ts s'=t.at_:=by rw [Ex.at_,htk]
   rw [hat] at hfin;have HFIN:=Lib.hid hfin;have HI1:=Lib.hid hi1;have HBG:=Lib.hid hbg;have HSK:=Lib.hid hsk;have HFEW:=Lib.hid hfew;have HONE:=Lib.hid hone;clear hfin hi1 hbg hsk hv hv1 hv2 hat htk hfew hone
   go_wp2_with fail
   refine (HI1.out _ HST.out.rd).mono ?_;rintro e z1 ⟨rfl,hb⟩;have HS1:=Lib.hid (HST.out.below hb);clear hb q2 HST;have q2:=HS1.out.q2
   go_wp2_with fail
   refine (ahead1_any c _ _ s' HS1.out.rd).mono ?_;rintro e z2 ⟨rfl,hb⟩;have HS2:=Lib.hid (HS1.out.below hb);clear hb q2 HS1
   go_wp2_with fail
   refine (HBG.out _).mono ?_;rintro e z3 ⟨rfl,hb⟩;have HS3:=Lib.hid (HS2.out.below hb);clear hb HS2 HBG HI1;have q2:=HS3.out.q2
   go_wp2_with fail
   refine (HSK.out _ HS3.out.rd).mono ?_;rintro e z4 ⟨rfl,hR4,hK4⟩;have HS4:=Lib.hid (HS3.out.step hR4 hK4);clear hR4 hK4 q2 HS3 HSK;unfold tval;have hmo:=HS4.out.mown.alloc (.cells #[.int .i64 t.at_.line,.int .i64 t.at_.col] 41);have hpl:ps.length<=900001:=by have:=HFEW.out;have:=HONE.out;omega
   have hu4:=HS4.out.kp.size;have HMO:=Lib.hid hmo;clear hmo
   go_upto_region 5 with (at_builtin;refine wpList_append_lies _ rfl (.tmp 21) (.tmp 25) 291 rfl w.heap.size 41 j0 _ 2 16 Tryz.underlying291 HJ0.out HY0.out HY1.out HY2.out rfl (by decide) (.slice ao ps.length cap0) ps.length (posCells ps) rfl HMO.out ⟨z4.heap.size,0,none⟩ 1 1 [.int .i64 t.at_.line,.int .i64 t.at_.col] rfl rfl (World.news_of_block (cs:=#[.int .i64 t.at_.line,.int .i64 t.at_.col]) (t:=41) (fr:=(0,0)) (heap_alloc_new z4 _)) (by intro x hx;simp at hx;rcases hx with rfl | rfl <;> rfl) (by decide) (by unfold maxLen;omega) (by omega) (by simp;omega) (z4.heap.size+1) (by simp) ?_;intro g cap z5 hown hgrow hat hlt)
   have HS5:=Lib.hid (HS4.out.mark _ hown hgrow);clear hown hgrow hat hlt HMO HS4;have q2:=HS5.out.q2;have q5:=HS5.out.q5;have hu5:=HS5.out.kp.size;have hil:is_.length<=900001:=by have:=HFEW.out;omega
   refine wp_calm (fun ch w'=>Post c X w (Ex.allF c.ts m (f .item d) s) (.panicked ch) w') (fun ch a' w' ha hg=>by show LeavesInM _ _ _ _ _ _ a'.defers _ _;rw [ha];exact hg) ?_
   go_region_law (first
    | (refine step_append_lies _ (by rfl) (.tmp 27) (.tmp 31) 163 (by rfl) w.heap.size 3 i0 _ 1 8 Tryz.underlying163 HI0.out HZ0.out HZ1.out HZ2.out rfl (by omega) (.slice io is_.length icap) is_.length (ints (is_.map fun (i:Nat)=>(i:Int))) (by rfl) (hS6.own.alloc _) ⟨z6.heap.size,0,none⟩ 1 1 [.int .i64 (a6:Int)] (by rfl) (by rfl) (World.news_of_block (cs:=#[.int .i64 (a6:Int)]) (t:=3) (fr:=(0,0)) (heap_alloc_new z6 _)) (by intro x hx;simp at hx;subst hx;rfl) (by omega) (by unfold maxLen;omega) (by omega) (by have:=hS6.kp.size;simp;omega) (z6.heap.size+1) (by simp) ?_;intro g7 cap7 z7 hown7 hgrow7 hat7 hlt7;have hS7:=hS6.item (i:=a6) _ hown7 hgrow7 hat7 hlt7;have c7:z7.cell? ⟨b5,0,none⟩=some (.slice io is_.length icap):=hS6.far7 hgrow7;have f7:z7.frozen? ⟨b5,0,none⟩=false:=hS6.fz7 hgrow7)
    | (go_simp;go_at_call 183;refine (HF.out.item d s'.skip _ z5.drew hd HS5.out.rd.drew (fun e=>HNE.out (by rw [HR2.out,<- HFIN.out,e];rfl))).mono ?_;rintro e z6 (⟨a6,s6,hE6,rfl,hR6,hK6⟩ | ⟨cd,p6,hE6,rfl,hK6⟩);rotate_left;exact ⟨rfl,.inr ⟨cd,p6,by rw [HR2.out,<- HFIN.out,hE6];rfl,rfl,HS5.out.kp.trans hK6.undrew⟩⟩;have hS6:=HS5.out.step hR6 hK6.undrew;have q56:=hS6.q5;have q57:∀ o,(z6.alloc o).cell? ⟨b5,0,none⟩=some (.slice io is_.length icap):=fun o=>(World.cell?_alloc_lt _ _ _ (World.block_lt_of_cell? _ _ q56)).trans q56;have HE6:=Lib.hid hE6;clear hE6))
   all_goals
    refine calmQ_normal ?_;have hfin6:Ex.itemsLoop c.ts (f .item d) k (is_++[a6]) (ps++[t.at_]) s6=Ex.itemsLoop c.ts (f .item d) m [a1] [] s1:=by rw [<- HFIN.out,HE6.out];rfl
    have HF6:=Lib.hid hfin6;have HS7:=Lib.hid hS7;clear hfin6 hS7 hS6 q56 q57 c7 f7 hown7 hgrow7 hat7 hlt7 hR6 hK6 q2 q5
    go_wp2_with fail
    go_roundg k
    case measure=>omega
    case rel=>exact ⟨_,_,_,_,HS7.out,HF6.out,by have:=HFEW.out;simp;omega,by have:=HONE.out;simp;omega⟩
  | false =>
   rw [hv,if_neg (by simp)] at hfin;have hR3:Ex.allF c.ts m (f .item d) s=Ex.seqs c.ts is_ ps ps.length (is_.getD (is_.length-1) 0) s':=by rw [HR2.out,<- hfin];rfl
   have HR3:=Lib.hid hR3;have HI1:=Lib.hid hi1;have HHV:=Lib.hid hv;have HFEW:=Lib.hid hfew;have HONE:=Lib.hid hone;clear hR3 hfin hi1 hv hfew hone HR2
   go_upto_region 3 with fail
   go_cut [20] from 14 to 32 (fun v wz=>v = .bool false/\AllM c X w w.heap.size b5 (.slice io is_.length icap) (.slice ao ps.length cap0) is_ ps s' wz)
   case first =>
    cases hv1:Ex.is c.ts s' [59] with
    | false =>
     rw [hv1] at HI1;clear hv1
     go_wp2_with fail
     refine (HI1.out _ HST.out.rd).mono ?_;rintro e z1 ⟨rfl,hb⟩;have HS1:=Lib.hid (HST.out.below hb);clear hb
     go_wp2_with fail
     go_meet
     exact ⟨rfl,HS1.out⟩
    | true =>
     have hv2:Ex.begins (Ex.tk c.ts (s'.p+1))=false:=by have:=HHV.out;rw [hv1] at this;simpa using this
     have hbg:=begins_any (Ex.tk c.ts (s'.p+1));rw [hv2] at hbg;rw [hv1] at HI1;have HBG:=Lib.hid hbg;clear hv1 hv2 hbg
     go_wp2_with fail
     refine (HI1.out _ HST.out.rd).mono ?_;rintro e z1 ⟨rfl,hb⟩;have HS1:=Lib.hid (HST.out.below hb);clear hb q2 HST;have q2:=HS1.out.q2
     go_wp2_with fail
     refine (ahead1_any c _ _ s' HS1.out.rd).mono ?_;rintro e z2 ⟨rfl,hb⟩;have HS2:=Lib.hid (HS1.out.below hb);clear hb q2 HS1
     go_wp2_with fail
     refine (HBG.out _).mono ?_;rintro e z3 ⟨rfl,hb⟩;have HS3:=Lib.hid (HS2.out.below hb);clear hb HS2 HBG HI1
     go_wp2_with fail
     go_meet
     exact ⟨rfl,HS3.out⟩
   case rest =>
    obtain ⟨rfl,hS⟩:=hcut;have HS:=Lib.hid hS;obtain ⟨q,hq⟩:∃ q,is_.length=q+1:=⟨ps.length,by have:=HONE.out;omega⟩;have hpq:ps.length=q:=by have:=HONE.out;omega
    obtain ⟨gi,rfl⟩:∃ gi,io=some ⟨gi,0,none⟩:=by
     rcases hS.own.2 with ⟨_,e⟩ | ⟨g,cap,cur,e,_⟩
     ·omega
     ·cases e;exact ⟨g,rfl⟩
    have c9:wc.cell? ⟨gi,q,none⟩=some (.int .i64 ((is_.getD q 0:Nat):Int)):=own_cell hS.own (by simp [ints,List.getElem?_eq_getElem (show q<is_.length by omega)]);have hqi:q+1<=icap:=by have:=own_room hS.own;omega
    have q5:=hS.q5;rw [hq] at q5;have HQ:=Lib.hid hq;have HPQ:=Lib.hid hpq;have hlast:is_.getD (is_.length-1) 0=is_.getD q 0:=by rw [hq];rfl
    have HLAST:=Lib.hid hlast;have hqm:q<=900001:=by have:=HFEW.out;omega
    obtain ⟨L,hL⟩:∃ L:Nat,is_.getD q 0=L:=⟨_,rfl⟩;rw [hL] at c9;have HL:=Lib.hid hL;clear hS HST q2 HI1 HHV hlast hL;rw [hpq];clear hq hpq
    go_wp2_with fail
    refine wpF_then ?_
    go_wp2_with fail
    refine wpF_seq ?_;refine wpF_then ?_;obtain ⟨RF,hseq,hRF⟩:∃ RF,Ex.seqs c.ts is_ ps q L s'=RF/\Ex.allF c.ts m (f .item d) s=RF:=by
     have e:=HR3.out;rw [HLAST.out,HL.out,HPQ.out] at e;exact ⟨_,rfl,e⟩
    have HSEQ:=Lib.hid hseq;have HRF:=Lib.hid hRF;obtain ⟨b7,hb7⟩:∃ b7,wc.heap.size=b7:=⟨_,rfl⟩;obtain ⟨Ws,hWs⟩:∃ Ws,(wc.alloc (.cells #[.int .i64 (L:Int)] 3)).alloc (.cells #[.slice ao q cap0] 291)=Ws:=⟨_,rfl⟩;have hbs:Below wc.heap.size wc Ws:=by rw [<- hWs];exact ((Below.refl _ wc).alloc (Nat.le_refl _) _).alloc (by simp) _
    have hs7:Ws.heap[b7]? = some (.cells #[.int .i64 (L:Int)] 3 (0,0)):=by rw [<- hWs,<- hb7];exact blk_alloc (blk_new wc _) _
    have hs8:Ws.heap[b7+1]? = some (.cells #[.slice ao q cap0] 291 (0,0)):=by
     rw [<- hWs,<- hb7];have:=blk_new (wc.alloc (.cells #[.int .i64 (L:Int)] 3)) (.cells #[.slice ao q cap0] 291);rwa [World.size_alloc] at this
    have hWss:Ws.heap.size=b7+2:=by rw [<- hWs,<- hb7];simp
    have hvi:∀ g,(Value.slice (some ⟨gi,0,none⟩) is_.length icap).ownBlock=some g->g<b7:=fun g hg=>by
     obtain ⟨_,cur,e1⟩:=own_tag HS.out.own hg;rw [<- hb7];exact lt_of_heap e1
    have hkc:=HS.out.kp.size;have hSM:SeqM c X w w.heap.size b5 b7 (.slice (some ⟨gi,0,none⟩) is_.length icap) is_ s' L Ws :=
     ⟨HS.out.rd.more hbs _ (fun k hk=>by
       rcases hk with hk | hk
       ·exact .inl hk
       ·exact .inr (by omega)),HS.out.kp.then_below hbs,(hbs.block _ (lt_of_heap HS.out.box)).trans HS.out.box,(hbs.block _ (lt_of_heap HS.out.cell)).trans HS.out.cell,own_below HS.out.own hbs,hs7,fun e=>by have:=hvi _ e;omega,HS.out.hB,HS.out.h2,HS.out.h5,by omega⟩
    have hmk:MarksAt Ws ao ps:=own_marks (own_below HS.out.mown hbs);have HWs:=Lib.hid hWs;have HSM:=Lib.hid hSM;have HMK:=Lib.hid hmk;have H8:=Lib.hid hs8;have HB7:=Lib.hid hb7;have HWSS:=Lib.hid hWss;clear hWss;clear hseq hRF hWs hbs hs7 hs8 hvi hSM hmk HS HR3 HLAST HFEW HONE
    go_wp2_with (go_at_call 185;refine (backward_pos _ _ _ _).mono ?_;rintro e z1 ⟨rfl,rfl⟩)
    rw [HWs.out];clear q5 c9;refine wpF_block ?_;refine wp_rangeP Tryz.func169 (gf:=201) (lb:=#[.pointer (some ⟨b7+1,0,none⟩)]) rfl (enters_of Tryz.func201 (by kernel_rfl) rfl) (encs:=encP) (fun _=>rfl) (G:=fun _ pre x _=>ComesP ps pre x) (N:=Ws.heap.size) (M:=MSeq c b7) (S:=fun xs=>xs.length=q) (Sp:=fun _=>True) ?hN ?hseq
     (fun pre W'=>∃ (rest:Nat) (s2:Ex.S),SeqM c X w w.heap.size b5 b7 (.slice (some ⟨gi,0,none⟩) is_.length icap) is_ s2 rest W'/\Ex.seqs c.ts is_ ps (q-pre.length) rest s2=RF/\Ws.heap.size<=W'.heap.size) (fun _ _ _=>False) (fun ch W'=>∃ cd p,RF = .bad cd p/\ch=[{ v:=dval cd p,recovered:=false }]/\Kp c w W')
     (fun _ x a C=>∃ Bn,Ws.heap.size<=Bn/\PosAt C Bn x.2/\a={ tmps:=fr19 c.r w.heap.size b5 b7 (.int .i64 (d:Int)) (.slice ao q cap0) (.pointer (some ⟨c.r,0,none⟩)) (.int .i64 (d:Int)) (.int .i64 (a1:Int)) (.slice (some ⟨w1.heap.size,0,none⟩) 1 1) u14 u15 u16 u17 u18 u19 (.bool false) u21 u22 u23 u24 u25 u26 u27 u28 u29 u30 u31 u32 (.slice (some ⟨gi,0,none⟩) (q+1) icap) (.slice (some ⟨gi,0,none⟩) (q+1) icap) (.int .i64 ((q:Int)+1)) (.int .i64 (q:Int)) (.pointer (some ⟨gi,q,none⟩)) (.int .i64 (L:Int)) (.slice ao q cap0) (.func (.func 201) #[] #[.pointer (some ⟨b7+1,0,none⟩)]) (.int .i64 (x.1:Int)) (.pointer (some ⟨Bn,0,none⟩)) (.int .i64 (x.1:Int)) (.agg #[.int .i64 x.2.line,.int .i64 x.2.col]),defers:=[] })
     (fun _ A B h hs=>h.elim fun r h=>h.elim fun s2 h=>⟨r,s2,h.1.still hs (by have:=HSM.out.kp.size;exact this),h.2.1,Nat.le_trans h.2.2 hs.below.size⟩) (fun _ _ _ _ h _=>h) (fun _ _ _ _ _ h _=>h)
     (fun s x a C B h hs=>h.elim fun Bn h=>⟨Bn,h.1,⟨hs.same _ _ _ _ (fun e=>e) h.2.1.blk⟩,h.2.2⟩) ⟨L,s',HSM.out,HSEQ.out,Nat.le_refl _⟩ ?assign ?body ?done ?stop ?panic
    case hN=>exact Nat.le_refl _
    case stop=>rintro D cc pre W' _ _ h;exact h.elim
    case panic =>
     rintro D ch W5 hD ⟨cd,p,hbad,rfl,hkp⟩ hdef;have hst:Still D W5 (W5.putObj D (.deferred none)):=Still.putObj _ (Nat.le_refl _) hdef rfl;have hDw:w.heap.size<=D:=by have:=HSM.out.kp.size;omega
     refine ⟨by simp,.inl ⟨_,_,rfl,run_takeDeferred hdef, ?_⟩⟩;exact (show Post c X w _ _ _ from .inr ⟨cd,p,HRF.out.trans hbad,rfl,hkp.still hst hDw⟩)
    case hseq =>
     intro l' W' hb';have hm':MarksAt W' ao ps:=fun k p hk=>by
      obtain ⟨g,cur,e1,e2,e3,e4⟩:=HMK.out k p hk;exact ⟨g,cur,e1,(hb'.block _ (lt_of_heap e2)).trans e2,e3,e4⟩
     have h8':=(hb'.block _ (lt_of_heap H8.out)).trans H8.out;have hM':=HSM.out.still (Still.of_below hb' (Nat.le_refl _)) (by have:=HSM.out.kp.size;exact this);refine back1P ps q l' _ (b7+1) (MSeq c b7) ao cap0 W' HPQ.out (by omega) hm' (fun g cur hg=>?_) h8' ?_
     ·rintro (e | e | e | e)
      ·subst e;rw [hM'.rd.blk] at hg;injection hg with hg;injection hg with _ hg;exact absurd hg (by decide)
      ·obtain ⟨v,l,_,ht,_⟩:=hM'.rd.tree;subst e;rw [ht.blk] at hg;injection hg with hg;injection hg with _ hg;exact absurd hg (by decide)
      ·exact absurd e (by decide)
      ·subst e;rw [hM'.last] at hg;injection hg with hg;injection hg with _ hg;exact absurd hg (by decide)
     ·have:=HSM.out.rd.rlt;have:=HSM.out.rd.blt;have:=HSM.out.hB;have:=HSM.out.h7;rintro (e | e | e | e)
      ·omega
      ·omega
      ·exact absurd e (by decide)
      ·omega
    case assign =>
     rintro l' pre ⟨k,p⟩ W0' W' ⟨r,s2,hm0,he,hz⟩ hst hg;have hW':Ws.heap.size<=W'.heap.size:=Nat.le_trans hz hst.below.size;clear hm0 he hst hg hz;simp only [encP]
     gi_wp2
     exact ⟨KeepsOthers.alloc _ _,Still.alloc _ _ _ (by omega),W'.heap.size,hW',⟨blk_new _ _⟩,rfl⟩
    case done =>
     rintro D xs W5 hD hxs ⟨r,s2,hm,he,hz⟩ hdef;have hxs:xs.length=q:=hxs;rw [hxs,Nat.sub_self,Ex.seqs] at he;subst he;have q7:=hm.q7;have HDF:=Lib.hid hdef;have HMM:=Lib.hid hm;clear hm hdef hz;refine wpF_of_wp ?_
     go_wp2
     refine ⟨by simp,.inl ⟨_,_,rfl,run_takeDeferred HDF.out, ?_⟩⟩;refine ⟨_,results_tmp rfl _ _ _, ?_⟩;have hst:Still D W5 (W5.putObj D (.deferred none)):=Still.putObj _ (Nat.le_refl _) HDF.out rfl;have hDw:w.heap.size<=D:=by have:=HSM.out.kp.size;omega
     have hm2:=HMM.out.still hst hDw;exact .inl ⟨r,s2,HRF.out,rfl,hm2.rd.less (fun k hk => .inl (.inl hk)),hm2.kp⟩
    case body =>
     rintro l' pre ⟨k,p⟩ a₁ W0' W' ⟨r,s2,hm0,he,hz⟩ hst hg ⟨Bn,hBn,hP,rfl⟩;have hm:=hm0.still hst (by have:=HSM.out.kp.size;exact this);have hat:pre.length+k+1=ps.length:=hg.at_;have hpk:ps[k]? = some p:=hg.val;have hkq:k<q:=by rw [HPQ.out] at hat;omega
     have hqk:q-pre.length=k+1:=by rw [HPQ.out] at hat;omega
     rw [hqk,Ex.seqs] at he;have hpd:ps.getD k ⟨0,0⟩=p:=by simp [hpk]
     rw [hpd] at he;have hadd:=he;have hrow:∀ W1:World,W1.ownsRow w.heap.size 3 1 (.slice (some ⟨gi,0,none⟩) is_.length icap) is_.length (ints (is_.map fun (i:Nat)=>(i:Int)))->W1.cell? ⟨gi,k,none⟩=some (.int .i64 ((is_.getD k 0:Nat):Int)):=fun W1 ho=>own_cell ho (by simp [ints,List.getElem?_eq_getElem (show k<is_.length by rw [HQ.out];omega)]);have hik:=hrow W' hm.own;generalize is_.getD k 0=I0 at *;have HROW:=Lib.hid hrow;clear hrow;have hsz:Ws.heap.size<=W'.heap.size:=Nat.le_trans hz hst.below.size;have HM:=Lib.hid hm;have HADD:=Lib.hid hadd;have HP:=Lib.hid hP;have HAT:=Lib.hid hat;have q2:=hm.q2;have q5:=hm.q5;have q7:=hm.q7;have p0:=hP.c0;have p1:=hP.c1;rw [HQ.out] at q5;clear hm hm0 hst hg hpk hqk he hadd hat hpd;simp only [fr19];have hki:(k:Int)<(q:Int)+1:=by omega
     have hki2:¬ ((q:Int)+1<=(k:Int)):=by omega
     obtain ⟨S0,hS0d⟩:∃ S0:World->Prop,S0=(fun w'=>w'.cell? ⟨w.heap.size,0,none⟩=some (.pointer (some ⟨c.r,0,none⟩))/\w'.cell? ⟨Bn,0,none⟩=some (.int .i64 p.line)/\w'.cell? ⟨Bn,1,none⟩=some (.int .i64 p.col)/\w'.cell? ⟨b5,0,none⟩=some (.slice (some ⟨gi,0,none⟩) (q+1) icap)/\w'.cell? ⟨gi,k,none⟩=some (.int .i64 (I0:Int))):=⟨_,rfl⟩;have hS0:S0 W'.drew:=by rw [hS0d];exact ⟨q2,p0,p1,q5,hik⟩
     refine wpIn_block ?_;refine wpIn_region_any (by kernel_rfl) (any_in ?hd ?hq _ _ _ _ (wpAny_of_held (S:=S0) _ _ _ _ ?hw))
     case hd=>kernel_rfl
     case hq=>rintro ⟨_,_,h⟩;exact h
     change wpAnyH _ _ _ _ _ 10 _ _ W'.drew
     refine wpAnyH_take (i:=0) (v := .pointer (some ⟨c.r,0,none⟩)) rfl (by kernel_rfl) (by kernel_rfl) (by kernel_rfl) (fun _ _ _ h=>h) (Or.inl ⟨by rfl,fun w' hSw=>by rw [hS0d] at hSw;go_simp⟩) hS0 ?_
     try simp only [Act.put,List.setIfInBounds_toArray,List.set_cons_zero,List.set_cons_succ]
     refine wpAnyH_take (i:=1) (v := .agg #[.int .i64 p.line,.int .i64 p.col]) rfl (by kernel_rfl) (by kernel_rfl) (by kernel_rfl) (fun _ _ _ h=>h) (Or.inl ⟨by rfl,fun w' hSw=>by rw [hS0d] at hSw;go_simp⟩) hS0 ?_
     try simp only [Act.put,List.setIfInBounds_toArray,List.set_cons_zero,List.set_cons_succ]
     refine wpAnyH_take (i:=2) (v := .slice (some ⟨gi,0,none⟩) (q+1) icap) rfl (by kernel_rfl) (by kernel_rfl) (by kernel_rfl) (fun _ _ _ h=>h) (Or.inl ⟨by rfl,fun w' hSw=>by rw [hS0d] at hSw;go_simp⟩) hS0 ?_
     try simp only [Act.put,List.setIfInBounds_toArray,List.set_cons_zero,List.set_cons_succ]
     refine wpAnyH_take (i:=3) (v := .int .i64 (k:Int)) rfl (by kernel_rfl) (by kernel_rfl) (by kernel_rfl) (fun _ _ _ h=>h) (Or.inl ⟨by rfl,fun w' hSw=>by rw [hS0d] at hSw;go_simp⟩) hS0 ?_
     try simp only [Act.put,List.setIfInBounds_toArray,List.set_cons_zero,List.set_cons_succ]
     refine wpAnyH_take (i:=4) (v := .pointer (some ⟨gi,k,none⟩)) rfl (by kernel_rfl) (by kernel_rfl) (by kernel_rfl) (fun _ _ _ h=>h) (Or.inl ⟨by rfl,fun w' hSw=>by rw [hS0d] at hSw;go_simp⟩) hS0 ?_
     try simp only [Act.put,List.setIfInBounds_toArray,List.set_cons_zero,List.set_cons_succ]
     refine wpAnyH_take (i:=5) (v := .int .i64 (I0:Int)) rfl (by kernel_rfl) (by kernel_rfl) (by kernel_rfl) (fun _ _ _ h=>h) (Or.inl ⟨by rfl,fun w' hSw=>by rw [hS0d] at hSw;go_simp⟩) hS0 ?_
     try simp only [Act.put,List.setIfInBounds_toArray,List.set_cons_zero,List.set_cons_succ]
     refine wpAnyH_ready (rs:=[6]) (by kernel_rfl) (by simp) ?_;refine AllReadyH.cons (o:={ dst:=some 49,op:=Op.load 3 (Operand.tmp 7),type:=3,pos := "parts.go:56", after:=#[],guard:=none }) rfl (fun K hK=>?_) AllReadyH.nil
     go_simp
     refine hK.out _ _ hS0 (fun _=>?_);clear hK K
     try simp only [Act.put,List.setIfInBounds_toArray,List.set_cons_zero,List.set_cons_succ]
     have hbA:Below W'.heap.size W' ((W'.alloc (.cells #[.int .i64 (I0:Int),.int .i64 (r:Int)] 3)).drew):=((Below.refl _ W').alloc (Nat.le_refl _) _).drew;have hM1:=HM.out.step (HM.out.rd.below hbA) (Kp.of_below hbA);have hP1:=HP.out.below hbA;have hi1:((W'.alloc (.cells #[.int .i64 (I0:Int),.int .i64 (r:Int)] 3)).drew).cell? ⟨gi,k,none⟩=some (.int .i64 (I0:Int)):=(hbA.cell (p:=⟨gi,k,none⟩) (World.block_lt_of_cell? _ _ hik)).trans hik;have hS1:S0 ((W'.alloc (.cells #[.int .i64 (I0:Int),.int .i64 (r:Int)] 3)).drew):=by rw [hS0d];exact ⟨hM1.q2,hP1.c0,hP1.c1,by have:=hM1.q5;rwa [HQ.out] at this,hi1⟩
     have hC:=add_any c (fun k=>XV X (.slice (some ⟨gi,0,none⟩) is_.length icap) k\/k=b7) ((W'.alloc (.cells #[.int .i64 (I0:Int),.int .i64 (r:Int)] 3)).drew) s2 [115,101,113] p [] [I0,r] (some ⟨W'.heap.size,0,none⟩) 2 _ hM1.rd (ints_drew (ints_at2 W' I0 r 3)) (fun e=>by cases e) (by simp);have HC:=Lib.hid hC;have HM1:=Lib.hid hM1;have HP1:=Lib.hid hP1;have HS1:=Lib.hid hS1;have HBA:=Lib.hid hbA;clear hC hM1 hP1 hS1 hi1 q2 q5 q7 p0 p1;refine wpAnyH_ready (rs:=[7]) (by kernel_rfl) (by simp) ?_;refine AllReadyH.cons (o:={ dst:=some 50,op:=Op.buildSlice 163 2 #[(0,Operand.tmp 48),(1,Operand.tmp 49)],type:=163,pos := "parts.go:56", after:=#[{ on:=5,ground:=Ground.data },{ on:=6,ground:=Ground.data }],guard:=none }) rfl (fun K hK=>?_) AllReadyH.nil
     go_simp
     refine hK.out _ _ HS1.out (fun _=>?_);clear hK K
     try simp only [Act.put,List.setIfInBounds_toArray,List.set_cons_zero,List.set_cons_succ]
     generalize (W'.alloc (.cells #[.int .i64 (I0:Int),.int .i64 (r:Int)] 3)).drew=W1 at *;refine wpAnyH_ready (rs:=[8]) (by kernel_rfl) (by simp) ?_;refine AllReadyH.cons (o:={ dst:=some 51,op:=Op.call { callee:=Callee.value (Operand.func 186),args:=#[Operand.tmp 43,Operand.const (Value.string { data:=#[115,101,113] }),Operand.tmp 44,Operand.const (Value.string { data:=#[] }),Operand.tmp 50],argTypes:=#[67,9,41,9,163] },type:=3,pos := "parts.go:56", after:=#[{ on:=0,ground:=Ground.data },{ on:=1,ground:=Ground.data },{ on:=7,ground:=Ground.data }],guard:=none }) rfl (fun K hK=>?_) AllReadyH.nil
     go_simp
     refine HC.out.mono ?_;rintro e W2 (⟨a2,s4,hE2,rfl,hR2,hK2⟩ | ⟨cd,p2,hE2,rfl,hK2⟩)
     rotate_left
     ·have hbad:RF = .bad cd p2:=by rw [<- HADD.out,hE2];rfl
      exact ⟨(others_of_below HBA.out).trans (hK2.others HM1.out.rd),rfl,cd,p2,hbad,rfl,HM1.out.kp.trans hK2⟩
     obtain ⟨j,rfl⟩:∃ j,j=a2:=⟨_,rfl⟩;obtain ⟨s3,rfl⟩:∃ s3,s3=s4:=⟨_,rfl⟩;have hrest:Ex.seqs c.ts is_ ps k j s3=RF:=by rw [<- HADD.out,hE2];rfl
     have HREST:=Lib.hid hrest;clear hrest;have hM2:=HM1.out.step hR2 hK2;have hrb:c.r<Bn/\c.bt<Bn:=by have:=HM.out.rd.rlt;have:=HM.out.rd.blt;have:=HM.out.hB;have:=HM.out.h7;have:=HWSS.out;omega
     have hP2:=HP1.out.kp hK2 hrb.1 hrb.2;have hi2:=HROW.out _ hM2.own;have hS2:S0 W2:=by rw [hS0d];exact ⟨hM2.q2,hP2.c0,hP2.c1,by have:=hM2.q5;rwa [HQ.out] at this,hi2⟩
     refine hK.out _ _ hS2 (fun _=>?_);clear hK K
     try simp only [Act.put,List.setIfInBounds_toArray,List.set_cons_zero,List.set_cons_succ]
     have q7:=hM2.q7;have f7:=hM2.f7;obtain ⟨hM3,hO3,hW3⟩:=hM2.put (N:=Ws.heap.size) j;have hP3:PosAt (W2.setCell ⟨b7,0,none⟩ (.int .i64 (j:Int))) Bn p:=⟨(blk_other (by have:=HWSS.out;omega) _ _).trans hP2.blk⟩;have hS3:S0 (W2.setCell ⟨b7,0,none⟩ (.int .i64 (j:Int))):=by rw [hS0d];exact ⟨hM3.q2,hP3.c0,hP3.c1,by have:=hM3.q5;rwa [HQ.out] at this,HROW.out _ hM3.own⟩
     have hO1:KeepsOthers W' W1:=others_of_below HBA.out;have hKW1:KeptW Ws.heap.size (MSeq c b7) W' W1:=(Still.of_below HBA.out hsz).keptW _;have hO2:KeepsOthers W1 W2:=hK2.others HM1.out.rd;have hKW2:KeptW Ws.heap.size (MSeq c b7) W1 W2:=hK2.keptW HM1.out.rd;have hz2:Ws.heap.size<=(W2.setCell ⟨b7,0,none⟩ (.int .i64 (j:Int))).heap.size:=Nat.le_trans hsz ((hO1.trans hO2).trans hO3).size;have HO:=Lib.hid ((hO1.trans hO2).trans hO3);have HKW:=Lib.hid ((hKW1.trans hKW2).trans hW3);have HM3:=Lib.hid hM3;have HS3:=Lib.hid hS3;have HZ2':=Lib.hid hz2;clear hO1 hO2 hO3 hKW1 hKW2 hW3 hM3 hP3 hS3 hz2 hR2 hK2 hM2 hP2 hi2 hS2;refine wpAnyH_ready (rs:=[9]) (by kernel_rfl) (by simp) ?_;refine AllReadyH.cons (o:={ dst:=none,op:=Op.store 3 (Operand.tmp 7) (Operand.tmp 51),type:=0,pos := "parts.go:56", after:=#[{ on:=8,ground:=Ground.data },{ on:=8,ground:=Ground.chain },{ on:=0,ground:=Ground.phase },{ on:=1,ground:=Ground.phase },{ on:=2,ground:=Ground.phase },{ on:=3,ground:=Ground.phase },{ on:=4,ground:=Ground.phase },{ on:=5,ground:=Ground.phase },{ on:=6,ground:=Ground.phase },{ on:=7,ground:=Ground.phase },{ on:=8,ground:=Ground.phase }],guard:=none }) rfl (fun K hK=>?_) AllReadyH.nil
     go_simp
     refine hK.out _ _ HS3.out (fun _=>?_);clear hK K;refine wpAnyH_done (by kernel_rfl) ?_ _;exact ⟨HO.out,HKW.out,j,s3,HM3.out,by have:=HAT.out;have:=HPQ.out;rw [show q-(pre++[(k,p)]).length=k by simp;omega];exact HREST.out,HZ2'.out⟩
end Go.Proofs.YtdfpkmfeldoamaaGreatDoor
