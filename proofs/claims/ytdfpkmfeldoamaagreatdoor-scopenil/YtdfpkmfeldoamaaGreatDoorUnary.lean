/- A part of the proof: A part of the proof. -/
import Derived.Test.YtdfpkmfeldoamaaGreatDoorBack
set_option linter.unusedSimpArgs false
set_option linter.unusedVariables false
set_option maxRecDepth 100000
set_option maxHeartbeats 8000000
namespace Go.Proofs.YtdfpkmfeldoamaaGreatDoor
section
open Go.RowKit Tn Lx
attribute [local go_sem] tok_field0 tok_field1 tok_field3
theorem Five.alloc {w:World}{b:Nat}{v0 v1 v2 v3 v4:Value}(h:Five w b v0 v1 v2 v3 v4)(o:Obj):Five (w.alloc o) b v0 v1 v2 v3 v4:=⟨blk_alloc h.blk o⟩
theorem var_any (c:Cx)(X:Nat->Prop)(w:World)(s:Ex.S)(f:Ex.Rec)(d m:Nat)(hf:Spec c f)(hd:d<=64)(hm:m<=900000)(h:Rd c X w s)(hp:s.p<c.ts.length)(hne:Ex.varF c.ts m f d s ≠ .out):
  Calls Tryz.prog 233 #[.pointer (some ⟨c.r,0,none⟩),.int .i64 (d:Int)] w (Post c X w (Ex.varF c.ts m f d s)):=by
 have hA:=skip_any c X w s h hp;obtain ⟨t,htk⟩:∃ t,Ex.tk c.ts s.p=t:=⟨_,rfl⟩;rw [htk] at hA;have hr1:=h.rlt;have hb1:=h.blt;have hsz:=h.size;have HA:=Lib.hid hA;have HF:=Lib.hid hf;have HNE:=Lib.hid hne;have HTK:=Lib.hid htk;clear hA hf hne h htk
 go_enter Tryz.func233,Tryz.ntmps233
 go_wp2_with fail
 refine HA.out.mono ?_;rintro e w1 ⟨rfl,hR1,hK1⟩;obtain ⟨V,hV⟩:∃ V,w1.alloc (.cells #[.int .i64 t.kind,.string ⟨t.text.toArray⟩,.int .i64 t.int,.int .i64 t.at_.line,.int .i64 t.at_.col] 118)=V:=⟨_,rfl⟩;have hbV:Below w1.heap.size w1 V:=by rw [<- hV];exact (Below.refl _ w1).alloc (Nat.le_refl _) _
 have hQ:Five V w1.heap.size (.int .i64 t.kind) (.string ⟨t.text.toArray⟩) (.int .i64 t.int) (.int .i64 t.at_.line) (.int .i64 t.at_.col):=⟨by rw [<- hV];exact blk_new w1 _⟩;have hs1:=hK1.size;have HV:=Lib.hid hV;have HR1:=Lib.hid (hR1.below hbV);have HK1:=Lib.hid (hK1.then_below hbV);have HQ1:=Lib.hid hQ;clear hV hR1 hbV hK1 hQ HA;unfold tval;have hi:=is_any c X V s.skip [40] HR1.out
 cases hv:Ex.is c.ts s.skip [40] with
 | true =>
  rw [hv] at hi;have HI:=Lib.hid hi;have HE2:=Lib.hid hv;clear hi hv
  go_wp2_with fail
  rw [HV.out];refine HI.out.mono ?_;rintro e w2 ⟨rfl,hb2⟩;have HR2:=Lib.hid (HR1.out.below hb2);have HK2:=Lib.hid (HK1.out.then_below hb2);have HQ2:=Lib.hid (HQ1.out.below hb2);clear hb2 HI
  go_wp2_with fail
  refine (skip_any c X _ s.skip HR2.out (Ex.is_lt HE2.out)).mono ?_;rintro e w3 ⟨rfl,hR3,hK3⟩;have HR3:=Lib.hid hR3;have HK3:=Lib.hid (HK2.out.trans hK3);have HQ3:=Lib.hid (HQ2.out.kp hK3 (by omega) (by omega));clear hR3 hK3
  go_upto_region 5 with fail
  have q0:=HQ3.out.c1;have q1:=HQ3.out.c3;have q2:=HQ3.out.c4
  go_region_held2 (fun w'=>w'.cell? ⟨w1.heap.size,1,none⟩=some (.string ⟨t.text.toArray⟩)/\w'.cell? ⟨w1.heap.size,3,none⟩=some (.int .i64 t.at_.line)/\w'.cell? ⟨w1.heap.size,4,none⟩=some (.int .i64 t.at_.col))
   (first | exact ⟨q0,q1,q2⟩ | exact ⟨hQ3.c1,hQ3.c3,hQ3.c4⟩ | exact ⟨(hQ3.alloc _).c1,(hQ3.alloc _).c3,(hQ3.alloc _).c4⟩ | exact ⟨hQ4.c1,hQ4.c3,hQ4.c4⟩)
   (first
    | (go_at_call 237;refine (args_any c X w3.drew s.skip.skip f d m HF.out hd hm HR3.out.drew (fun e=>HNE.out (by simp only [Ex.varF,Ex.at_,HTK.out,HE2.out,e,Ex.Res.bind,↓reduceIte,Bool.false_eq_true]))).mono ?_;rintro e w4 (⟨l4,s4,ka4,kc4,hE4,rfl,hI4,hN4,hL4,hR4,hK4⟩ | ⟨cd,p4,hE4,rfl,hK4⟩);rotate_left;exact ⟨rfl,.inr ⟨cd,p4,by simp only [Ex.varF,Ex.at_,HTK.out,HE2.out,hE4,Ex.Res.bind,↓reduceIte,Bool.false_eq_true],rfl,HK3.out.trans hK4.undrew⟩⟩;have hQ3:=HQ3.out.kp hK4.undrew (by omega) (by omega);have HE4:=Lib.hid hE4;have HI4:=Lib.hid hI4;have HN4:=Lib.hid hN4;clear hE4 hI4 hN4)
    | (go_at_call 186;refine (add_any c X _ s4 [99,97,108,108] t.at_ t.text l4 ka4 kc4 _ hR4 HI4.out HN4.out hL4).mono ?_;rintro e w5 (⟨a5,s5,hE5,rfl,hR5,hK5⟩ | ⟨cd,p5,hE5,rfl,hK5⟩);rotate_left;exact ⟨rfl,.inr ⟨cd,p5,by simp only [Ex.varF,Ex.at_,HTK.out,HE2.out,HE4.out,hE5,Ex.Res.bind,↓reduceIte,Bool.false_eq_true],rfl,(HK3.out.trans hK4.undrew).trans hK5⟩⟩;have hQ4:=hQ3.kp hK5 (by omega) (by omega);have HE5:=Lib.hid hE5;clear hE5))
  have HK5:=Lib.hid ((HK3.out.trans hK4.undrew).trans hK5);have HR5:=Lib.hid hR5;clear hQ3 hQ4 hR4 hR5 hK4 hK5 q0 q1 q2
  go_wp2
  go_ret
  exact .inl ⟨_,_,by simp only [Ex.varF,Ex.at_,HTK.out,HE2.out,HE4.out,HE5.out,Ex.Res.bind,↓reduceIte,Bool.false_eq_true],rfl,HR5.out,HK5.out⟩
 | false =>
  rw [hv] at hi;have HI:=Lib.hid hi;have HE2:=Lib.hid hv;clear hi hv
  go_wp2_with fail
  rw [HV.out];refine HI.out.mono ?_;rintro e w2 ⟨rfl,hb2⟩;have HR2:=Lib.hid (HR1.out.below hb2);have HK2:=Lib.hid (HK1.out.then_below hb2);have HQ2:=Lib.hid (HQ1.out.below hb2);clear hb2 HI;have q0:=HQ2.out.c1;have q1:=HQ2.out.c3;have q2:=HQ2.out.c4
  go_wp2_with fail
  refine (add_any c X _ s.skip [118,97,114] t.at_ t.text [] none 0 _ HR2.out (ints_at0 _ 0) (fun _=>rfl) (by simp)).mono ?_;rintro e w6 (⟨a6,s6,hE6,rfl,hR6,hK6⟩ | ⟨cd,p6,hE6,rfl,hK6⟩)
  rotate_left
  ·exact ⟨rfl,.inr ⟨cd,p6,by simp only [Ex.varF,Ex.at_,HTK.out,HE2.out,hE6,Ex.Res.bind,↓reduceIte,Bool.false_eq_true],rfl,HK2.out.trans hK6⟩⟩
  have HE6:=Lib.hid hE6;have HR6:=Lib.hid hR6;have HK6:=Lib.hid (HK2.out.trans hK6);clear hE6 hR6 hK6 q0 q1 q2
  go_wp2
  go_ret
  exact .inl ⟨_,_,by simp only [Ex.varF,Ex.at_,HTK.out,HE2.out,HE6.out,Ex.Res.bind,↓reduceIte,Bool.false_eq_true],rfl,HR6.out,HK6.out⟩
end
section
open Go.RowKit Tn Lx
attribute [local go_sem] tok_field0 tok_field1 tok_field3
theorem enter_ok (c:Cx)(w:World)(d:Nat)(hd:d<64):Calls Tryz.prog 193 #[.pointer (some ⟨c.r,0,none⟩),.int .i64 (d:Int)] w fun e w'=>e = .returned (.int .i64 ((d+1:Nat):Int))/\w=w':=by
 go_enter Tryz.func193,Tryz.ntmps193
 go_wp2
 go_ret
 exact ⟨rfl,rfl⟩
theorem enter_deep (c:Cx)(X:Nat->Prop)(w:World)(s:Ex.S)(d:Nat)(h:Rd c X w s)(hd:d<=64)(h64:64<=d):Calls Tryz.prog 193 #[.pointer (some ⟨c.r,0,none⟩),.int .i64 (d:Int)] w fun e w'=>e = .panicked [{ v:=dval 6 (Ex.at_ c.ts s),recovered:=false }]/\Kp c w w':=by
 refine (enter_any c X w s d h hd).mono ?_;have hE:Ex.enter c.ts d s = .bad 6 (Ex.at_ c.ts s):=by rw [Ex.enter,if_pos h64];rfl
 rintro e w1 (⟨a1,s1,hE1,rfl,hR1,hK1⟩ | ⟨cd,p1,hE1,rfl,hK1⟩)
 ·rw [hE] at hE1;cases hE1
 ·rw [hE] at hE1;cases hE1;exact ⟨rfl,hK1⟩
theorem unary_any (c:Cx)(X:Nat->Prop)(w:World)(s:Ex.S)(f:Ex.Rec)(d m:Nat)(hf:Spec c f)(hd:d<=64)(hm:m<=900000)(h:Rd c X w s)(hne:((Ex.enter c.ts d s).bind fun d1 s1=>Ex.unaryF c.ts m f d1 s1) ≠ .out):
  Calls Tryz.prog 230 #[.pointer (some ⟨c.r,0,none⟩),.int .i64 (d:Int)] w (Post c X w ((Ex.enter c.ts d s).bind fun d1 s1=>Ex.unaryF c.ts m f d1 s1)):=by
 by_cases h64:64<=d
 ·have hE:Ex.enter c.ts d s = .bad 6 (Ex.at_ c.ts s):=by rw [Ex.enter,if_pos h64];rfl
  have HE:=Lib.hid hE;have HD:=Lib.hid (enter_deep c X w s d h hd h64);clear hE hf h hne
  go_enter Tryz.func230,Tryz.ntmps230
  go_wp2_with fail
  refine HD.out.mono ?_;rintro e w1 ⟨rfl,hK1⟩;exact ⟨rfl,.inr ⟨_,_,by rw [HE.out];rfl,rfl,hK1⟩⟩
 have hd1:d+1<=64:=by omega
 have hE:Ex.enter c.ts d s = .ok (d+1) s:=by rw [Ex.enter,if_neg h64]
 obtain ⟨R,hR⟩:∃ R,((Ex.enter c.ts d s).bind fun d1 s1=>Ex.unaryF c.ts m f d1 s1)=R:=⟨_,rfl⟩;rw [hR] at hne ⊢;rw [hE,Ex.Res.bind] at hR;have hA:=next_any c X w s h;obtain ⟨t,htk⟩:∃ t,Ex.tk c.ts s.p=t:=⟨_,rfl⟩;rw [htk] at hA;have hr1:=h.rlt;have hb1:=h.blt;have hsz:=h.size;have HA:=Lib.hid hA;have HF:=Lib.hid hf;have HNE:=Lib.hid hne;have HTK:=Lib.hid htk;have HR:=Lib.hid h;have HW:=Lib.hid hR;clear hA hf hne h htk hE hR;have fin:∀ w3,Kp c w w3->∀ e w4,Post c X w3 R e w4->Post c X w R e w4:=fun w3 hk e w4 hp=>by
  rcases hp with ⟨a4,s4,hE4,he,hR4,hK4⟩ | ⟨cd,p4,hE4,he,hK4⟩
  ·exact .inl ⟨a4,s4,hE4,he,hR4,hk.trans hK4⟩
  ·exact .inr ⟨cd,p4,hE4,he,hk.trans hK4⟩
 have FIN:=Lib.hid fin;clear fin
 go_enter Tryz.func230,Tryz.ntmps230
 go_wp2_with fail
 refine (enter_ok c w d (by omega)).mono ?_;rintro e w0 ⟨rfl,rfl⟩
 go_wp2_with fail
 refine HA.out.mono ?_;rintro e w1 ⟨rfl,hb1'⟩;obtain ⟨V,hV⟩:∃ V,w1.alloc (.cells #[.int .i64 t.kind,.string ⟨t.text.toArray⟩,.int .i64 t.int,.int .i64 t.at_.line,.int .i64 t.at_.col] 118)=V:=⟨_,rfl⟩;have hbV:Below w1.heap.size w1 V:=by rw [<- hV];exact (Below.refl _ w1).alloc (Nat.le_refl _) _
 have hQ:Five V w1.heap.size (.int .i64 t.kind) (.string ⟨t.text.toArray⟩) (.int .i64 t.int) (.int .i64 t.at_.line) (.int .i64 t.at_.col):=⟨by rw [<- hV];exact blk_new w1 _⟩;have hs1:=hb1'.size;have hbw:=hb1'.trans (hbV.mono hb1'.size);have HV:=Lib.hid hV;have HR1:=Lib.hid (HR.out.below hbw);have HK1:=Lib.hid (Kp.of_below (c:=c) hbw);have HQ:=Lib.hid hQ;clear hV hbV hQ HA hb1' HR hbw;unfold tval
 go_upto_region 3 with fail
 rw [HV.out];have q0:=HQ.out.c0;have q1:=HQ.out.c1;have q2:=HQ.out.c2;have q3:=HQ.out.c3;have q4:=HQ.out.c4
 cases hv0:(t.kind==3) with
 | true =>
  have hU:R=Ex.addN c.ts ⟨Ex.bt [105,110,116],t.at_.line,t.at_.col,Ex.bt [],t.int,[]⟩ s.skip:=by rw [<- HW.out];simp only [Ex.unaryF,Ex.at_,HTK.out,hv0,↓reduceIte,Bool.false_eq_true,Bool.or_false,Bool.or_true,Bool.false_or,Bool.true_or,Bool.and_true,Bool.and_false,Bool.false_and,Bool.true_and,Ex.Res.bind]
  have hp:s.p<c.ts.length:=(Ex.kind_lt (by rw [HTK.out];intro e;rw [e] at hv0;cases hv0));have HU:=Lib.hid hU;have HP:=Lib.hid hp;clear hU hp
  go_wp2_with fail
  refine (skip_any c X _ s HR1.out HP.out).mono ?_;rintro e w2 ⟨rfl,hR2,hK2⟩;have HQ2:=Lib.hid (HQ.out.kp hK2 (by omega) (by omega));have HR2:=Lib.hid hR2;have HK2:=Lib.hid (HK1.out.trans hK2);clear hR2 hK2 q0 q1 q2 q3 q4;have q2:=HQ2.out.c2;have q3:=HQ2.out.c3;have q4:=HQ2.out.c4
  go_wp2_with fail
  refine (addNode_any c X _ s.skip ⟨Ex.bt [105,110,116],t.at_.line,t.at_.col,Ex.bt [],t.int,[]⟩ none 0 0 HR2.out (fun i hi=>by simp at hi) (fun _=>rfl) (by simp)).mono ?_;rintro e w3 (⟨a3,s3,hE3,rfl,hR3,hK3⟩ | ⟨cd,p3,hE3,rfl,hK3⟩)
  rotate_left
  ·exact ⟨rfl,.inr ⟨cd,p3,HU.out.trans hE3,rfl,HK2.out.trans hK3⟩⟩
  have HE3:=Lib.hid (HU.out.trans hE3);have HR3:=Lib.hid hR3;have HK3:=Lib.hid (HK2.out.trans hK3);clear hE3 hR3 hK3 q2 q3 q4
  go_wp2
  go_ret
  exact .inl ⟨_,_,HE3.out,rfl,HR3.out,HK3.out⟩
 | false =>
  cases hv1:(t.kind==1) with
  | true =>
   have hU:R=Ex.varF c.ts m f (d+1) s:=by rw [<- HW.out];simp only [Ex.unaryF,Ex.at_,HTK.out,hv0,hv1,↓reduceIte,Bool.false_eq_true,Bool.or_false,Bool.or_true,Bool.false_or,Bool.true_or,Bool.and_true,Bool.and_false,Bool.false_and,Bool.true_and,Ex.Res.bind]
   have hp:s.p<c.ts.length:=(Ex.kind_lt (by rw [HTK.out];intro e;rw [e] at hv1;cases hv1));have hC:Calls Tryz.prog 233 #[.pointer (some ⟨c.r,0,none⟩),.int .i64 ((d+1:Nat):Int)] V (Post c X V R):=by rw [hU];exact var_any c X V s f (d+1) m HF.out hd1 hm HR1.out hp (by rw [<- hU];exact HNE.out)
   have HC:=Lib.hid hC;clear hC hU hp
   go_wp2_with fail
   refine HC.out.mono ?_;rintro e w3 hP3
   replace hP3:=FIN.out _ HK1.out _ _ hP3
   rcases hP3 with ⟨a3,s3,hE3,rfl,hR3,hK3⟩ | ⟨cd,p3,hE3,rfl,hK3⟩
   rotate_left
   ·exact ⟨rfl,.inr ⟨cd,p3,hE3,rfl,hK3⟩⟩
   have HE3:=Lib.hid hE3;have HR3:=Lib.hid hR3;have HK3:=Lib.hid hK3;clear hE3 hR3 hK3 q0 q1 q2 q3 q4
   go_wp2
   go_ret
   exact .inl ⟨_,_,HE3.out,rfl,HR3.out,HK3.out⟩
  | false =>
   cases hv2:(t.text==[45]) with
   | true =>
    have hU:R=Ex.prefixF c.ts f [110,101,103] (d+1) s:=by rw [<- HW.out];simp only [Ex.unaryF,Ex.at_,HTK.out,hv0,hv1,hv2,↓reduceIte,Bool.false_eq_true,Bool.or_false,Bool.or_true,Bool.false_or,Bool.true_or,Bool.and_true,Bool.and_false,Bool.false_and,Bool.true_and,Ex.Res.bind]
    have hp:s.p<c.ts.length:=(Ex.text_lt (by rw [HTK.out];intro e;rw [e] at hv2;cases hv2));have hC:Calls Tryz.prog 234 #[.pointer (some ⟨c.r,0,none⟩),.string ⟨#[110,101,103]⟩,.int .i64 ((d+1:Nat):Int)] V (Post c X V R):=by rw [hU];exact prefix_any c X V s f [110,101,103] (d+1) HF.out hd1 HR1.out hp (by rw [<- hU];exact HNE.out)
    have HC:=Lib.hid hC;clear hC hU hp
    go_wp2_with fail
    refine HC.out.mono ?_;rintro e w3 hP3
    replace hP3:=FIN.out _ HK1.out _ _ hP3
    rcases hP3 with ⟨a3,s3,hE3,rfl,hR3,hK3⟩ | ⟨cd,p3,hE3,rfl,hK3⟩
    rotate_left
    ·exact ⟨rfl,.inr ⟨cd,p3,hE3,rfl,hK3⟩⟩
    have HE3:=Lib.hid hE3;have HR3:=Lib.hid hR3;have HK3:=Lib.hid hK3;clear hE3 hR3 hK3 q0 q1 q2 q3 q4
    go_wp2
    go_ret
    exact .inl ⟨_,_,HE3.out,rfl,HR3.out,HK3.out⟩
   | false =>
    cases hv3:(t.text==[110,111,116]) with
    | true =>
     have hU:R=Ex.prefixF c.ts f t.text (d+1) s:=by rw [<- HW.out];simp only [Ex.unaryF,Ex.at_,HTK.out,hv0,hv1,hv2,hv3,↓reduceIte,Bool.false_eq_true,Bool.or_false,Bool.or_true,Bool.false_or,Bool.true_or,Bool.and_true,Bool.and_false,Bool.false_and,Bool.true_and,Ex.Res.bind]
     have hp:s.p<c.ts.length:=(Ex.text_lt (by rw [HTK.out];intro e;rw [e] at hv3;cases hv3));have hC:Calls Tryz.prog 234 #[.pointer (some ⟨c.r,0,none⟩),.string ⟨t.text.toArray⟩,.int .i64 ((d+1:Nat):Int)] V (Post c X V R):=by rw [hU];exact prefix_any c X V s f t.text (d+1) HF.out hd1 HR1.out hp (by rw [<- hU];exact HNE.out)
     have HC:=Lib.hid hC;clear hC hU hp
     go_wp2_with fail
     refine HC.out.mono ?_;rintro e w3 hP3
     replace hP3:=FIN.out _ HK1.out _ _ hP3
     rcases hP3 with ⟨a3,s3,hE3,rfl,hR3,hK3⟩ | ⟨cd,p3,hE3,rfl,hK3⟩
     rotate_left
     ·exact ⟨rfl,.inr ⟨cd,p3,hE3,rfl,hK3⟩⟩
     have HE3:=Lib.hid hE3;have HR3:=Lib.hid hR3;have HK3:=Lib.hid hK3;clear hE3 hR3 hK3 q0 q1 q2 q3 q4
     go_wp2
     go_ret
     exact .inl ⟨_,_,HE3.out,rfl,HR3.out,HK3.out⟩
    | false =>
     cases hv4:(t.text==[102,115,116]) with
     | true =>
      have hU:R=Ex.prefixF c.ts f t.text (d+1) s:=by rw [<- HW.out];simp only [Ex.unaryF,Ex.at_,HTK.out,hv0,hv1,hv2,hv3,hv4,↓reduceIte,Bool.false_eq_true,Bool.or_false,Bool.or_true,Bool.false_or,Bool.true_or,Bool.and_true,Bool.and_false,Bool.false_and,Bool.true_and,Ex.Res.bind]
      have hp:s.p<c.ts.length:=(Ex.text_lt (by rw [HTK.out];intro e;rw [e] at hv4;cases hv4));have hC:Calls Tryz.prog 234 #[.pointer (some ⟨c.r,0,none⟩),.string ⟨t.text.toArray⟩,.int .i64 ((d+1:Nat):Int)] V (Post c X V R):=by rw [hU];exact prefix_any c X V s f t.text (d+1) HF.out hd1 HR1.out hp (by rw [<- hU];exact HNE.out)
      have HC:=Lib.hid hC;clear hC hU hp
      go_wp2_with fail
      refine HC.out.mono ?_;rintro e w3 hP3
      replace hP3:=FIN.out _ HK1.out _ _ hP3
      rcases hP3 with ⟨a3,s3,hE3,rfl,hR3,hK3⟩ | ⟨cd,p3,hE3,rfl,hK3⟩
      rotate_left
      ·exact ⟨rfl,.inr ⟨cd,p3,hE3,rfl,hK3⟩⟩
      have HE3:=Lib.hid hE3;have HR3:=Lib.hid hR3;have HK3:=Lib.hid hK3;clear hE3 hR3 hK3 q0 q1 q2 q3 q4
      go_wp2
      go_ret
      exact .inl ⟨_,_,HE3.out,rfl,HR3.out,HK3.out⟩
     | false =>
      cases hv5:(t.text==[115,110,100]) with
      | true =>
       have hU:R=Ex.prefixF c.ts f t.text (d+1) s:=by rw [<- HW.out];simp only [Ex.unaryF,Ex.at_,HTK.out,hv0,hv1,hv2,hv3,hv4,hv5,↓reduceIte,Bool.false_eq_true,Bool.or_false,Bool.or_true,Bool.false_or,Bool.true_or,Bool.and_true,Bool.and_false,Bool.false_and,Bool.true_and,Ex.Res.bind]
       have hp:s.p<c.ts.length:=(Ex.text_lt (by rw [HTK.out];intro e;rw [e] at hv5;cases hv5));have hC:Calls Tryz.prog 234 #[.pointer (some ⟨c.r,0,none⟩),.string ⟨t.text.toArray⟩,.int .i64 ((d+1:Nat):Int)] V (Post c X V R):=by rw [hU];exact prefix_any c X V s f t.text (d+1) HF.out hd1 HR1.out hp (by rw [<- hU];exact HNE.out)
       have HC:=Lib.hid hC;clear hC hU hp
       go_wp2_with fail
       refine HC.out.mono ?_;rintro e w3 hP3
       replace hP3:=FIN.out _ HK1.out _ _ hP3
       rcases hP3 with ⟨a3,s3,hE3,rfl,hR3,hK3⟩ | ⟨cd,p3,hE3,rfl,hK3⟩
       rotate_left
       ·exact ⟨rfl,.inr ⟨cd,p3,hE3,rfl,hK3⟩⟩
       have HE3:=Lib.hid hE3;have HR3:=Lib.hid hR3;have HK3:=Lib.hid hK3;clear hE3 hR3 hK3 q0 q1 q2 q3 q4
       go_wp2
       go_ret
       exact .inl ⟨_,_,HE3.out,rfl,HR3.out,HK3.out⟩
      | false =>
       cases hv6:(t.text==[33]) with
       | true =>
        have hU:R=Ex.named c.ts [103,101,116] s:=by rw [<- HW.out];simp only [Ex.unaryF,Ex.at_,HTK.out,hv0,hv1,hv2,hv3,hv4,hv5,hv6,↓reduceIte,Bool.false_eq_true,Bool.or_false,Bool.or_true,Bool.false_or,Bool.true_or,Bool.and_true,Bool.and_false,Bool.false_and,Bool.true_and,Ex.Res.bind]
        have hp:s.p<c.ts.length:=(Ex.text_lt (by rw [HTK.out];intro e;rw [e] at hv6;cases hv6));have hC:Calls Tryz.prog 197 #[.pointer (some ⟨c.r,0,none⟩),.string ⟨#[103,101,116]⟩] V (Post c X V R):=by rw [hU];exact named_any c X V s [103,101,116] HR1.out hp
        have HC:=Lib.hid hC;clear hC hU hp
        go_wp2_with fail
        refine HC.out.mono ?_;rintro e w3 hP3
        replace hP3:=FIN.out _ HK1.out _ _ hP3
        rcases hP3 with ⟨a3,s3,hE3,rfl,hR3,hK3⟩ | ⟨cd,p3,hE3,rfl,hK3⟩
        rotate_left
        ·exact ⟨rfl,.inr ⟨cd,p3,hE3,rfl,hK3⟩⟩
        have HE3:=Lib.hid hE3;have HR3:=Lib.hid hR3;have HK3:=Lib.hid hK3;clear hE3 hR3 hK3 q0 q1 q2 q3 q4
        go_wp2
        go_ret
        exact .inl ⟨_,_,HE3.out,rfl,HR3.out,HK3.out⟩
       | false =>
        cases hv7:(t.text==[104,111,108,101]) with
        | true =>
         have hU:R=Ex.named c.ts [104,111,108,101] s:=by rw [<- HW.out];simp only [Ex.unaryF,Ex.at_,HTK.out,hv0,hv1,hv2,hv3,hv4,hv5,hv6,hv7,↓reduceIte,Bool.false_eq_true,Bool.or_false,Bool.or_true,Bool.false_or,Bool.true_or,Bool.and_true,Bool.and_false,Bool.false_and,Bool.true_and,Ex.Res.bind]
         have hp:s.p<c.ts.length:=(Ex.text_lt (by rw [HTK.out];intro e;rw [e] at hv7;cases hv7));have hC:Calls Tryz.prog 197 #[.pointer (some ⟨c.r,0,none⟩),.string ⟨#[104,111,108,101]⟩] V (Post c X V R):=by rw [hU];exact named_any c X V s [104,111,108,101] HR1.out hp
         have HC:=Lib.hid hC;clear hC hU hp
         go_wp2_with fail
         refine HC.out.mono ?_;rintro e w3 hP3
         replace hP3:=FIN.out _ HK1.out _ _ hP3
         rcases hP3 with ⟨a3,s3,hE3,rfl,hR3,hK3⟩ | ⟨cd,p3,hE3,rfl,hK3⟩
         rotate_left
         ·exact ⟨rfl,.inr ⟨cd,p3,hE3,rfl,hK3⟩⟩
         have HE3:=Lib.hid hE3;have HR3:=Lib.hid hR3;have HK3:=Lib.hid hK3;clear hE3 hR3 hK3 q0 q1 q2 q3 q4
         go_wp2
         go_ret
         exact .inl ⟨_,_,HE3.out,rfl,HR3.out,HK3.out⟩
        | false =>
         cases hv8:(t.text==[116,114,117,101]) with
         | true =>
          have hU:R=Ex.add c.ts t.text t.at_ [] [] s.skip:=by rw [<- HW.out];simp only [Ex.unaryF,Ex.at_,HTK.out,hv0,hv1,hv2,hv3,hv4,hv5,hv6,hv7,hv8,↓reduceIte,Bool.false_eq_true,Bool.or_false,Bool.or_true,Bool.false_or,Bool.true_or,Bool.and_true,Bool.and_false,Bool.false_and,Bool.true_and,Ex.Res.bind]
          have hp:s.p<c.ts.length:=(Ex.text_lt (by rw [HTK.out];intro e;rw [e] at hv8;cases hv8));have HU:=Lib.hid hU;have HP:=Lib.hid hp;clear hU hp
          go_wp2_with fail
          refine (skip_any c X _ s HR1.out HP.out).mono ?_;rintro e w2 ⟨rfl,hR2,hK2⟩;have HQ2:=Lib.hid (HQ.out.kp hK2 (by omega) (by omega));have HR2:=Lib.hid hR2;have HK2:=Lib.hid (HK1.out.trans hK2);clear hR2 hK2 q0 q1 q2 q3 q4;have q1:=HQ2.out.c1;have q3:=HQ2.out.c3;have q4:=HQ2.out.c4
          go_wp2_with fail
          refine (add_any c X _ s.skip t.text t.at_ [] [] none 0 _ HR2.out (ints_at0 _ 0) (fun _=>rfl) (by simp)).mono ?_;rintro e w3 (⟨a3,s3,hE3,rfl,hR3,hK3⟩ | ⟨cd,p3,hE3,rfl,hK3⟩)
          rotate_left
          ·exact ⟨rfl,.inr ⟨cd,p3,HU.out.trans hE3,rfl,HK2.out.trans hK3⟩⟩
          have HE3:=Lib.hid (HU.out.trans hE3);have HR3:=Lib.hid hR3;have HK3:=Lib.hid (HK2.out.trans hK3);clear hE3 hR3 hK3 q1 q3 q4
          go_wp2
          go_ret
          exact .inl ⟨_,_,HE3.out,rfl,HR3.out,HK3.out⟩
         | false =>
          cases hv9:(t.text==[102,97,108,115,101]) with
          | true =>
           have hU:R=Ex.add c.ts t.text t.at_ [] [] s.skip:=by rw [<- HW.out];simp only [Ex.unaryF,Ex.at_,HTK.out,hv0,hv1,hv2,hv3,hv4,hv5,hv6,hv7,hv8,hv9,↓reduceIte,Bool.false_eq_true,Bool.or_false,Bool.or_true,Bool.false_or,Bool.true_or,Bool.and_true,Bool.and_false,Bool.false_and,Bool.true_and,Ex.Res.bind]
           have hp:s.p<c.ts.length:=(Ex.text_lt (by rw [HTK.out];intro e;rw [e] at hv9;cases hv9));have HU:=Lib.hid hU;have HP:=Lib.hid hp;clear hU hp
           go_wp2_with fail
           refine (skip_any c X _ s HR1.out HP.out).mono ?_;rintro e w2 ⟨rfl,hR2,hK2⟩;have HQ2:=Lib.hid (HQ.out.kp hK2 (by omega) (by omega));have HR2:=Lib.hid hR2;have HK2:=Lib.hid (HK1.out.trans hK2);clear hR2 hK2 q0 q1 q2 q3 q4;have q1:=HQ2.out.c1;have q3:=HQ2.out.c3;have q4:=HQ2.out.c4
           go_wp2_with fail
           refine (add_any c X _ s.skip t.text t.at_ [] [] none 0 _ HR2.out (ints_at0 _ 0) (fun _=>rfl) (by simp)).mono ?_;rintro e w3 (⟨a3,s3,hE3,rfl,hR3,hK3⟩ | ⟨cd,p3,hE3,rfl,hK3⟩)
           rotate_left
           ·exact ⟨rfl,.inr ⟨cd,p3,HU.out.trans hE3,rfl,HK2.out.trans hK3⟩⟩
           have HE3:=Lib.hid (HU.out.trans hE3);have HR3:=Lib.hid hR3;have HK3:=Lib.hid (HK2.out.trans hK3);clear hE3 hR3 hK3 q1 q3 q4
           go_wp2
           go_ret
           exact .inl ⟨_,_,HE3.out,rfl,HR3.out,HK3.out⟩
          | false =>
           cases hv10:(t.text==[114,101,108,101,97,115,101]) with
           | true =>
            have hU:R=Ex.releaseF c.ts f (d+1) s:=by rw [<- HW.out];simp only [Ex.unaryF,Ex.at_,HTK.out,hv0,hv1,hv2,hv3,hv4,hv5,hv6,hv7,hv8,hv9,hv10,↓reduceIte,Bool.false_eq_true,Bool.or_false,Bool.or_true,Bool.false_or,Bool.true_or,Bool.and_true,Bool.and_false,Bool.false_and,Bool.true_and,Ex.Res.bind]
            have hp:s.p<c.ts.length:=(Ex.text_lt (by rw [HTK.out];intro e;rw [e] at hv10;cases hv10));have hC:Calls Tryz.prog 235 #[.pointer (some ⟨c.r,0,none⟩),.int .i64 ((d+1:Nat):Int)] V (Post c X V R):=by rw [hU];exact release_any c X V s f (d+1) HF.out hd1 HR1.out hp (by rw [<- hU];exact HNE.out)
            have HC:=Lib.hid hC;clear hC hU hp
            go_wp2_with fail
            refine HC.out.mono ?_;rintro e w3 hP3
            replace hP3:=FIN.out _ HK1.out _ _ hP3
            rcases hP3 with ⟨a3,s3,hE3,rfl,hR3,hK3⟩ | ⟨cd,p3,hE3,rfl,hK3⟩
            rotate_left
            ·exact ⟨rfl,.inr ⟨cd,p3,hE3,rfl,hK3⟩⟩
            have HE3:=Lib.hid hE3;have HR3:=Lib.hid hR3;have HK3:=Lib.hid hK3;clear hE3 hR3 hK3 q0 q1 q2 q3 q4
            go_wp2
            go_ret
            exact .inl ⟨_,_,HE3.out,rfl,HR3.out,HK3.out⟩
           | false =>
            cases hv11:(t.text==[40]) with
            | true =>
             have hU:R=Ex.bracketsF c.ts f (d+1) s:=by rw [<- HW.out];simp only [Ex.unaryF,Ex.at_,HTK.out,hv0,hv1,hv2,hv3,hv4,hv5,hv6,hv7,hv8,hv9,hv10,hv11,↓reduceIte,Bool.false_eq_true,Bool.or_false,Bool.or_true,Bool.false_or,Bool.true_or,Bool.and_true,Bool.and_false,Bool.false_and,Bool.true_and,Ex.Res.bind]
             have hp:s.p<c.ts.length:=(Ex.text_lt (by rw [HTK.out];intro e;rw [e] at hv11;cases hv11));have hC:Calls Tryz.prog 236 #[.pointer (some ⟨c.r,0,none⟩),.int .i64 ((d+1:Nat):Int)] V (Post c X V R):=by rw [hU];exact brackets_any c X V s f (d+1) HF.out hd1 HR1.out hp (by rw [<- hU];exact HNE.out)
             have HC:=Lib.hid hC;clear hC hU hp
             go_wp2_with fail
             refine HC.out.mono ?_;rintro e w3 hP3
             replace hP3:=FIN.out _ HK1.out _ _ hP3
             rcases hP3 with ⟨a3,s3,hE3,rfl,hR3,hK3⟩ | ⟨cd,p3,hE3,rfl,hK3⟩
             rotate_left
             ·exact ⟨rfl,.inr ⟨cd,p3,hE3,rfl,hK3⟩⟩
             have HE3:=Lib.hid hE3;have HR3:=Lib.hid hR3;have HK3:=Lib.hid hK3;clear hE3 hR3 hK3 q0 q1 q2 q3 q4
             go_wp2
             go_ret
             exact .inl ⟨_,_,HE3.out,rfl,HR3.out,HK3.out⟩
            | false =>
             have hU:R = .bad 5 (Ex.at_ c.ts s):=by rw [<- HW.out];simp only [Ex.unaryF,Ex.wrong,HTK.out,hv0,hv1,hv2,hv3,hv4,hv5,hv6,hv7,hv8,hv9,hv10,hv11,↓reduceIte,Bool.false_eq_true,Bool.or_false,Bool.or_true,Bool.false_or,Bool.true_or,Bool.and_true,Bool.and_false,Bool.false_and,Bool.true_and,Ex.Res.bind]
             have HU:=Lib.hid hU;clear hU
             go_wp2_with fail
             refine (wrong_at c X _ s 5 HR1.out).mono ?_;rintro e w2 ⟨rfl,hb2⟩;unfold dval
             go_wp2
             exact ⟨rfl,.inr ⟨_,_,HU.out,rfl,HK1.out.then_below hb2⟩⟩
end
end Go.Proofs.YtdfpkmfeldoamaaGreatDoor
