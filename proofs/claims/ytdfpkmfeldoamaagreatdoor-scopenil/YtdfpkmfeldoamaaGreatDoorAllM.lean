/- A part of the proof: A part of the proof. -/
import Derived.Test.YtdfpkmfeldoamaaGreatDoorUnary
import Derived.Test.YtdfpkmfeldoamaaGreatDoorBack
set_option linter.unusedSimpArgs false
set_option linter.unusedVariables false
set_option maxRecDepth 100000
set_option maxHeartbeats 8000000
namespace Go.Proofs.YtdfpkmfeldoamaaGreatDoor
section
open Go.RowKit Tn Lx
attribute [local go_sem] tok_field0 tok_field1 tok_field3
theorem item_any (c:Cx)(X:Nat->Prop)(w:World)(s:Ex.S)(f:Ex.Rec)(d:Nat)(hf:Spec c f)(hd:d<=64)(h:Rd c X w s)(hne:((Ex.enter c.ts d s).bind fun d1 s1=>Ex.itemF c.ts f d1 s1) ≠ .out):
  Calls Tryz.prog 183 #[.pointer (some ⟨c.r,0,none⟩),.int .i64 (d:Int)] w (Post c X w ((Ex.enter c.ts d s).bind fun d1 s1=>Ex.itemF c.ts f d1 s1)):=by
 by_cases h64:64<=d
 ·have hE:Ex.enter c.ts d s = .bad 6 (Ex.at_ c.ts s):=by rw [Ex.enter,if_pos h64];rfl
  have HE:=Lib.hid hE;have HD:=Lib.hid (enter_deep c X w s d h hd h64);clear hE hf h hne
  go_enter Tryz.func183,Tryz.ntmps183
  go_wp2_with fail
  refine HD.out.mono ?_;rintro e w1 ⟨rfl,hK1⟩;exact ⟨rfl,.inr ⟨_,_,by rw [HE.out];rfl,rfl,hK1⟩⟩
 have hd1:d+1<=64:=by omega
 have hE:Ex.enter c.ts d s = .ok (d+1) s:=by rw [Ex.enter,if_neg h64]
 obtain ⟨R,hR⟩:∃ R,((Ex.enter c.ts d s).bind fun d1 s1=>Ex.itemF c.ts f d1 s1)=R:=⟨_,rfl⟩;rw [hR] at hne ⊢;rw [hE,Ex.Res.bind] at hR;obtain ⟨t,htk⟩:∃ t,Ex.tk c.ts s.p=t:=⟨_,rfl⟩;have hr1:=h.rlt;have hb1:=h.blt;have hsz:=h.size;have HF:=Lib.hid hf;have HNE:=Lib.hid hne;have HTK:=Lib.hid htk;have HR:=Lib.hid h;have HW:=Lib.hid hR;have HK:=Lib.hid (Kp.refl c w);clear hf hne h htk hE hR;have fin:∀ w3,Kp c w w3->∀ e w4,Post c X w3 R e w4->Post c X w R e w4:=fun w3 hk e w4 hp=>by
  rcases hp with ⟨a4,s4,hE4,he,hR4,hK4⟩ | ⟨cd,p4,hE4,he,hK4⟩
  ·exact .inl ⟨a4,s4,hE4,he,hR4,hk.trans hK4⟩
  ·exact .inr ⟨cd,p4,hE4,he,hk.trans hK4⟩
 have FIN:=Lib.hid fin;clear fin
 go_enter Tryz.func183,Tryz.ntmps183
 go_wp2_with fail
 refine (enter_ok c w d (by omega)).mono ?_;rintro e w0 ⟨rfl,rfl⟩;have hi:=is_any c X w s [108,101,116] HR.out
 cases hv0:Ex.is c.ts s [108,101,116] with
 | true =>
  rw [hv0] at hi;have HI:=Lib.hid hi;have HV0:=Lib.hid hv0;clear hi hv0
  go_wp2_with fail
  refine HI.out.mono ?_;rintro e u0 ⟨rfl,hb⟩;have HRa:=Lib.hid (HR.out.below hb);have HKa:=Lib.hid (HK.out.then_below hb);clear hb HI;have hU:R=Ex.letF c.ts f (d+1) s:=by rw [<- HW.out];simp only [Ex.itemF,Ex.at_,HTK.out,HV0.out,↓reduceIte,Bool.false_eq_true,Bool.or_false,Bool.or_true,Bool.false_or,Bool.true_or,Bool.and_true,Bool.and_false,Bool.false_and,Bool.true_and,Ex.Res.bind]
  have hC:Calls Tryz.prog 194 #[.pointer (some ⟨c.r,0,none⟩),.int .i64 ((d+1:Nat):Int)] u0 (Post c X u0 R):=by rw [hU];exact let_any c X u0 s f (d+1) HF.out hd1 HRa.out (Ex.is_lt HV0.out) (by rw [<- hU];exact HNE.out)
  have HC:=Lib.hid hC;clear hC hU
  go_wp2_with fail
  refine HC.out.mono ?_;rintro e w3 hP3
  replace hP3:=FIN.out _ HKa.out _ _ hP3
  rcases hP3 with ⟨a3,s3,hE3,rfl,hR3,hK3⟩ | ⟨cd,p3,hE3,rfl,hK3⟩
  rotate_left
  ·exact ⟨rfl,.inr ⟨cd,p3,hE3,rfl,hK3⟩⟩
  have HE3:=Lib.hid hE3;have HR3:=Lib.hid hR3;have HK3:=Lib.hid hK3;clear hE3 hR3 hK3
  go_wp2
  go_ret
  exact .inl ⟨_,_,HE3.out,rfl,HR3.out,HK3.out⟩
 | false =>
  rw [hv0] at hi;have HI:=Lib.hid hi;have HV0:=Lib.hid hv0;clear hi hv0
  go_wp2_with fail
  refine HI.out.mono ?_;rintro e u0 ⟨rfl,hb⟩;have HRa:=Lib.hid (HR.out.below hb);have HKa:=Lib.hid (HK.out.then_below hb);clear hb HI;have hi:=is_any c X u0 s [105,102] HRa.out
  cases hv1:Ex.is c.ts s [105,102] with
  | true =>
   rw [hv1] at hi;have HI:=Lib.hid hi;have HV1:=Lib.hid hv1;clear hi hv1
   go_wp2_with fail
   refine HI.out.mono ?_;rintro e u1 ⟨rfl,hb⟩;have HRb:=Lib.hid (HRa.out.below hb);have HKb:=Lib.hid (HKa.out.then_below hb);clear hb HI;have hU:R=Ex.choiceF c.ts f (d+1) s:=by rw [<- HW.out];simp only [Ex.itemF,Ex.at_,HTK.out,HV0.out,HV1.out,↓reduceIte,Bool.false_eq_true,Bool.or_false,Bool.or_true,Bool.false_or,Bool.true_or,Bool.and_true,Bool.and_false,Bool.false_and,Bool.true_and,Ex.Res.bind]
   have hC:Calls Tryz.prog 195 #[.pointer (some ⟨c.r,0,none⟩),.int .i64 ((d+1:Nat):Int)] u1 (Post c X u1 R):=by rw [hU];exact choice_any c X u1 s f (d+1) HF.out hd1 HRb.out (Ex.is_lt HV1.out) (by rw [<- hU];exact HNE.out)
   have HC:=Lib.hid hC;clear hC hU
   go_wp2_with fail
   refine HC.out.mono ?_;rintro e w3 hP3
   replace hP3:=FIN.out _ HKb.out _ _ hP3
   rcases hP3 with ⟨a3,s3,hE3,rfl,hR3,hK3⟩ | ⟨cd,p3,hE3,rfl,hK3⟩
   rotate_left
   ·exact ⟨rfl,.inr ⟨cd,p3,hE3,rfl,hK3⟩⟩
   have HE3:=Lib.hid hE3;have HR3:=Lib.hid hR3;have HK3:=Lib.hid hK3;clear hE3 hR3 hK3
   go_wp2
   go_ret
   exact .inl ⟨_,_,HE3.out,rfl,HR3.out,HK3.out⟩
  | false =>
   rw [hv1] at hi;have HI:=Lib.hid hi;have HV1:=Lib.hid hv1;clear hi hv1
   go_wp2_with fail
   refine HI.out.mono ?_;rintro e u1 ⟨rfl,hb⟩;have HRb:=Lib.hid (HRa.out.below hb);have HKb:=Lib.hid (HKa.out.then_below hb);clear hb HI;have hi:=is_any c X u1 s [116,114,121] HRb.out
   cases hv2:Ex.is c.ts s [116,114,121] with
   | true =>
    rw [hv2] at hi;have HI:=Lib.hid hi;have HV2:=Lib.hid hv2;clear hi hv2
    go_wp2_with fail
    refine HI.out.mono ?_;rintro e u2 ⟨rfl,hb⟩;have HRc:=Lib.hid (HRb.out.below hb);have HKc:=Lib.hid (HKb.out.then_below hb);clear hb HI;have hU:R=Ex.guardF c.ts f (d+1) s:=by rw [<- HW.out];simp only [Ex.itemF,Ex.at_,HTK.out,HV0.out,HV1.out,HV2.out,↓reduceIte,Bool.false_eq_true,Bool.or_false,Bool.or_true,Bool.false_or,Bool.true_or,Bool.and_true,Bool.and_false,Bool.false_and,Bool.true_and,Ex.Res.bind]
    have hC:Calls Tryz.prog 196 #[.pointer (some ⟨c.r,0,none⟩),.int .i64 ((d+1:Nat):Int)] u2 (Post c X u2 R):=by rw [hU];exact guard_any c X u2 s f (d+1) HF.out hd1 HRc.out (Ex.is_lt HV2.out) (by rw [<- hU];exact HNE.out)
    have HC:=Lib.hid hC;clear hC hU
    go_wp2_with fail
    refine HC.out.mono ?_;rintro e w3 hP3
    replace hP3:=FIN.out _ HKc.out _ _ hP3
    rcases hP3 with ⟨a3,s3,hE3,rfl,hR3,hK3⟩ | ⟨cd,p3,hE3,rfl,hK3⟩
    rotate_left
    ·exact ⟨rfl,.inr ⟨cd,p3,hE3,rfl,hK3⟩⟩
    have HE3:=Lib.hid hE3;have HR3:=Lib.hid hR3;have HK3:=Lib.hid hK3;clear hE3 hR3 hK3
    go_wp2
    go_ret
    exact .inl ⟨_,_,HE3.out,rfl,HR3.out,HK3.out⟩
   | false =>
    rw [hv2] at hi;have HI:=Lib.hid hi;have HV2:=Lib.hid hv2;clear hi hv2
    go_wp2_with fail
    refine HI.out.mono ?_;rintro e u2 ⟨rfl,hb⟩;have HRc:=Lib.hid (HRb.out.below hb);have HKc:=Lib.hid (HKb.out.then_below hb);clear hb HI;have hi:=is_any c X u2 s [114,97,105,115,101] HRc.out
    cases hv3:Ex.is c.ts s [114,97,105,115,101] with
    | true =>
     rw [hv3] at hi;have HI:=Lib.hid hi;have HV3:=Lib.hid hv3;clear hi hv3
     go_wp2_with fail
     refine HI.out.mono ?_;rintro e u3 ⟨rfl,hb⟩;have HRd:=Lib.hid (HRc.out.below hb);have HKd:=Lib.hid (HKc.out.then_below hb);clear hb HI;have hU:R=Ex.named c.ts [114,97,105,115,101] s:=by rw [<- HW.out];simp only [Ex.itemF,Ex.at_,HTK.out,HV0.out,HV1.out,HV2.out,HV3.out,↓reduceIte,Bool.false_eq_true,Bool.or_false,Bool.or_true,Bool.false_or,Bool.true_or,Bool.and_true,Bool.and_false,Bool.false_and,Bool.true_and,Ex.Res.bind]
     have hC:Calls Tryz.prog 197 #[.pointer (some ⟨c.r,0,none⟩),.string ⟨#[114,97,105,115,101]⟩] u3 (Post c X u3 R):=by rw [hU];exact named_any c X u3 s [114,97,105,115,101] HRd.out (Ex.is_lt HV3.out)
     have HC:=Lib.hid hC;clear hC hU
     go_wp2_with fail
     refine HC.out.mono ?_;rintro e w3 hP3
     replace hP3:=FIN.out _ HKd.out _ _ hP3
     rcases hP3 with ⟨a3,s3,hE3,rfl,hR3,hK3⟩ | ⟨cd,p3,hE3,rfl,hK3⟩
     rotate_left
     ·exact ⟨rfl,.inr ⟨cd,p3,hE3,rfl,hK3⟩⟩
     have HE3:=Lib.hid hE3;have HR3:=Lib.hid hR3;have HK3:=Lib.hid hK3;clear hE3 hR3 hK3
     go_wp2
     go_ret
     exact .inl ⟨_,_,HE3.out,rfl,HR3.out,HK3.out⟩
    | false =>
     rw [hv3] at hi;have HI:=Lib.hid hi;have HV3:=Lib.hid hv3;clear hi hv3
     go_wp2_with fail
     refine HI.out.mono ?_;rintro e u3 ⟨rfl,hb⟩;have HRd:=Lib.hid (HRc.out.below hb);have HKd:=Lib.hid (HKc.out.then_below hb);clear hb HI;have hi:=is_any c X u3 s [111,117,116] HRd.out
     cases hv4:Ex.is c.ts s [111,117,116] with
     | true =>
      rw [hv4] at hi;have HI:=Lib.hid hi;have HV4:=Lib.hid hv4;clear hi hv4
      go_wp2_with fail
      refine HI.out.mono ?_;rintro e u4 ⟨rfl,hb⟩;have HRe:=Lib.hid (HRd.out.below hb);have HKe:=Lib.hid (HKd.out.then_below hb);clear hb HI;have hU:R=Ex.outF c.ts f (d+1) s:=by rw [<- HW.out];simp only [Ex.itemF,Ex.at_,HTK.out,HV0.out,HV1.out,HV2.out,HV3.out,HV4.out,↓reduceIte,Bool.false_eq_true,Bool.or_false,Bool.or_true,Bool.false_or,Bool.true_or,Bool.and_true,Bool.and_false,Bool.false_and,Bool.true_and,Ex.Res.bind]
      have HU:=Lib.hid hU;clear hU
      go_wp2_with fail
      refine (skip_any c X _ s HRe.out (Ex.is_lt HV4.out)).mono ?_;rintro e w1 ⟨rfl,hR1,hK1⟩;rw [HTK.out];obtain ⟨V,hV⟩:∃ V,w1.alloc (.cells #[.int .i64 t.at_.line,.int .i64 t.at_.col] 41)=V:=⟨_,rfl⟩;have hbV:Below w1.heap.size w1 V:=by rw [<- hV];exact (Below.refl _ w1).alloc (Nat.le_refl _) _
      have hQ:PosAt V w1.heap.size t.at_:=⟨by rw [<- hV];exact blk_new w1 _⟩;have HVS:Hid (V.heap.size=w1.heap.size+1):=Lib.hid (by rw [<- hV];simp);have hK2:=HKe.out.trans hK1;have hs1:=hK2.size;have HV:=Lib.hid hV;have HR1:=Lib.hid (hR1.below hbV);have HK1:=Lib.hid (hK2.then_below hbV);have HQ1:=Lib.hid hQ;clear hV hR1 hbV hK1 hK2 hQ;unfold tval
      go_wp2_with fail
      rw [HV.out];refine (needName_any c X _ s.skip HR1.out).mono ?_;rintro e w2 (⟨x2,s2,hE2,rfl,hR2,hK2⟩ | ⟨cd,p2,hE2,rfl,hK2⟩)
      rotate_left
      ·exact ⟨rfl,.inr ⟨cd,p2,by rw [HU.out];simp only [Ex.outF,Ex.at_,HTK.out,hE2,Ex.Res.bind],rfl,HK1.out.trans hK2⟩⟩
      have HE2:=Lib.hid hE2;have HR2:=Lib.hid hR2;have HK2:=Lib.hid (HK1.out.trans hK2);have HQ2:=Lib.hid (HQ1.out.kp hK2 (by omega) (by omega));clear hE2 hR2 hK2;unfold strV
      go_upto_region 13 with fail
      have q0:=HQ2.out.c0;have q1:=HQ2.out.c1
      go_region_held2 (fun w'=>w'.cell? ⟨w1.heap.size,0,none⟩=some (.int .i64 t.at_.line)/\w'.cell? ⟨w1.heap.size,1,none⟩=some (.int .i64 t.at_.col))
       (first | exact ⟨q0,q1⟩ | exact ⟨hQ3.c0,hQ3.c1⟩ | exact ⟨(hQ3.alloc _).c0,(hQ3.alloc _).c1⟩ | exact ⟨hQ4.c0,hQ4.c1⟩)
       (first
        | (go_at_call 199;refine (HF.out.or (d+1) s2 X w2.drew hd1 HR2.out.drew (fun e=>HNE.out (by rw [HU.out];simp only [Ex.outF,Ex.at_,HTK.out,HE2.out,e,Ex.Res.bind]))).mono ?_;rintro e w3 (⟨a3,s3,hE3,rfl,hR3,hK3⟩ | ⟨cd,p3,hE3,rfl,hK3⟩);rotate_left;exact ⟨rfl,.inr ⟨cd,p3,by rw [HU.out];simp only [Ex.outF,Ex.at_,HTK.out,HE2.out,hE3,Ex.Res.bind],rfl,HK2.out.trans hK3.undrew⟩⟩;have hQ3:=HQ2.out.kp hK3.undrew (by omega) (by omega);have HE3:=Lib.hid hE3;clear hE3)
        | (go_at_call 186;refine (add_any c X _ s3 [111,117,116] t.at_ x2 [a3] (some ⟨w3.heap.size,0,none⟩) 1 _ (hR3.below ((Below.refl _ w3).alloc (Nat.le_refl _) _)) (ints_at1 w3 a3 _) (fun e=>by cases e) (by simp)).mono ?_;rintro e w4 (⟨a4,s4,hE4,rfl,hR4,hK4⟩ | ⟨cd,p4,hE4,rfl,hK4⟩);rotate_left;exact ⟨rfl,.inr ⟨cd,p4,by rw [HU.out];simp only [Ex.outF,Ex.at_,HTK.out,HE2.out,HE3.out,hE4,Ex.Res.bind],rfl,(HK2.out.trans hK3.undrew).trans (Below.then_kp ((Below.refl _ w3).alloc (Nat.le_refl _) _) hK4)⟩⟩;have hQ4:=(hQ3.alloc (.cells #[.int .i64 (a3:Int)] 3)).kp hK4 (by omega) (by omega);have HE4:=Lib.hid hE4;clear hE4))
      have HK4:=Lib.hid ((HK2.out.trans hK3.undrew).trans (Below.then_kp ((Below.refl _ w3).alloc (Nat.le_refl _) _) hK4));have HR4:=Lib.hid hR4;clear hQ3 hQ4 hR3 hR4 hK3 hK4 q0 q1
      go_wp2
      go_ret
      exact .inl ⟨_,_,by rw [HU.out];simp only [Ex.outF,Ex.at_,HTK.out,HE2.out,HE3.out,HE4.out,Ex.Res.bind],rfl,HR4.out,HK4.out⟩
     | false =>
      rw [hv4] at hi;have HI:=Lib.hid hi;have HV4:=Lib.hid hv4;clear hi hv4
      go_wp2_with fail
      refine HI.out.mono ?_;rintro e u4 ⟨rfl,hb⟩;have HRe:=Lib.hid (HRd.out.below hb);have HKe:=Lib.hid (HKd.out.then_below hb);clear hb HI;have hN:=next_any c X u4 s HRe.out;rw [HTK.out] at hN;have HN:=Lib.hid hN;clear hN;have hM:∀ w2,Rd c X w2 s->Calls Tryz.prog 85 #[.pointer (some ⟨c.r,0,none⟩),.int .i64 1] w2 (AheadP w2 (Ex.tk c.ts (s.p+1))):=fun w2 hR=>ahead1_any c X w2 s hR;obtain ⟨t1,htk1⟩:∃ t1,Ex.tk c.ts (s.p+1)=t1:=⟨_,rfl⟩;rw [htk1] at hM;have HM:=Lib.hid hM;have HT1:=Lib.hid htk1;clear hM htk1
      cases hk:(t.kind==1) with
      | false =>
       have HX:=Lib.hid hk
       go_wp2_with fail
       refine HN.out.mono ?_;rintro e u5 ⟨rfl,hb⟩;have HRf:=Lib.hid (HRe.out.below hb);have HKf:=Lib.hid (HKe.out.then_below hb);clear hb HN;unfold tval;have hU:R=f .or (d+1) s:=by rw [<- HW.out];simp only [Ex.itemF,Ex.at_,HTK.out,HT1.out,HV0.out,HV1.out,HV2.out,HV3.out,HV4.out,HX.out,↓reduceIte,Bool.false_eq_true,Bool.or_false,Bool.or_true,Bool.false_or,Bool.true_or,Bool.and_true,Bool.and_false,Bool.false_and,Bool.true_and,Ex.Res.bind]
       have hC:Calls Tryz.prog 199 #[.pointer (some ⟨c.r,0,none⟩),.int .i64 ((d+1:Nat):Int)] u5 (Post c X u5 R):=by rw [hU];exact HF.out.or (d+1) s X u5 hd1 HRf.out (by rw [<- hU];exact HNE.out)
       have HC:=Lib.hid hC;clear hC hU
       go_wp2_with fail
       refine HC.out.mono ?_;rintro e w3 hP3
       replace hP3:=FIN.out _ HKf.out _ _ hP3
       rcases hP3 with ⟨a3,s3,hE3,rfl,hR3,hK3⟩ | ⟨cd,p3,hE3,rfl,hK3⟩
       rotate_left
       ·exact ⟨rfl,.inr ⟨cd,p3,hE3,rfl,hK3⟩⟩
       have HE3:=Lib.hid hE3;have HR3:=Lib.hid hR3;have HK3:=Lib.hid hK3;clear hE3 hR3 hK3
       go_wp2
       go_ret
       exact .inl ⟨_,_,HE3.out,rfl,HR3.out,HK3.out⟩
      | true =>
       have HX:=Lib.hid hk;have hme:=mark_any t1 [58,61]
       cases hm:Ex.isT t1 [58,61] with
       | true =>
        rw [hm] at hme;have HME:=Lib.hid hme;have HMV:=Lib.hid hm;clear hme hm
        go_wp2_with fail
        refine HN.out.mono ?_;rintro e u5 ⟨rfl,hb⟩;have HRf:=Lib.hid (HRe.out.below hb);have HKf:=Lib.hid (HKe.out.then_below hb);clear hb HN;unfold tval
        go_wp2_with fail
        refine (HM.out _ HRf.out).mono ?_;rintro e u6 ⟨rfl,hb⟩;have HRg:=Lib.hid (HRf.out.below hb);have HKg:=Lib.hid (HKf.out.then_below hb);clear hb HM
        go_wp2_with fail
        refine (HME.out _).mono ?_;rintro e u7 ⟨rfl,hb⟩;have HRh:=Lib.hid (HRg.out.below hb);have HKh:=Lib.hid (HKg.out.then_below hb);clear hb HME;have hU:R=Ex.setF c.ts f (d+1) s:=by rw [<- HW.out];simp only [Ex.itemF,Ex.at_,HTK.out,HT1.out,HV0.out,HV1.out,HV2.out,HV3.out,HV4.out,HX.out,HMV.out,↓reduceIte,Bool.false_eq_true,Bool.or_false,Bool.or_true,Bool.false_or,Bool.true_or,Bool.and_true,Bool.and_false,Bool.false_and,Bool.true_and,Ex.Res.bind]
        have HU:=Lib.hid hU;have hp:s.p<c.ts.length:=Ex.kind_lt (by rw [HTK.out];intro e;rw [e] at hk;cases hk);have HP:=Lib.hid hp;clear hU hp hk
        go_wp2_with fail
        refine (skip_any c X _ s HRh.out HP.out).mono ?_;rintro e w1 ⟨rfl,hR1,hK1⟩;rw [HTK.out];obtain ⟨V,hV⟩:∃ V,w1.alloc (.cells #[.int .i64 t.kind,.string ⟨t.text.toArray⟩,.int .i64 t.int,.int .i64 t.at_.line,.int .i64 t.at_.col] 118)=V:=⟨_,rfl⟩;have hbV:Below w1.heap.size w1 V:=by rw [<- hV];exact (Below.refl _ w1).alloc (Nat.le_refl _) _
        have hQ:Five V w1.heap.size (.int .i64 t.kind) (.string ⟨t.text.toArray⟩) (.int .i64 t.int) (.int .i64 t.at_.line) (.int .i64 t.at_.col):=⟨by rw [<- hV];exact blk_new w1 _⟩;have HVS:Hid (V.heap.size=w1.heap.size+1):=Lib.hid (by rw [<- hV];simp);have hK2:=HKh.out.trans hK1;have hs1:=hK2.size;have HV:=Lib.hid hV;have HR1:=Lib.hid (hR1.below hbV);have HK1:=Lib.hid (hK2.then_below hbV);have HQ1:=Lib.hid hQ;clear hV hR1 hbV hK1 hK2 hQ;unfold tval
        go_wp2_with fail
        rw [HV.out];refine (take_any c X _ s.skip [58,61] _ (HR1.out.below ((Below.refl _ V).alloc (Nat.le_refl _) _)) (by rw [<- HVS.out,World.cell?_alloc_new];rfl)).mono ?_;rintro e w2 (⟨s2,hE2,rfl,hR2,hK2⟩ | ⟨cd,p2,hE2,rfl,hK2⟩)
        rotate_left
        ·go_wp2_with fail
         refine (need_bad cd p2 _).mono ?_;rintro e w2b ⟨rfl,rfl⟩;exact ⟨rfl,.inr ⟨cd,p2,by rw [HU.out];simp only [Ex.setF,Ex.at_,HTK.out,hE2,Ex.Res.bind],rfl,HK1.out.trans (Below.then_kp ((Below.refl _ V).alloc (Nat.le_refl _) _) hK2)⟩⟩
        have HE2:=Lib.hid hE2;have HR2:=Lib.hid hR2;have HK2:=Lib.hid (HK1.out.trans (Below.then_kp ((Below.refl _ V).alloc (Nat.le_refl _) _) hK2));have HQ2:=Lib.hid ((HQ1.out.below ((Below.refl _ V).alloc (Nat.le_refl _) _)).kp hK2 (by omega) (by omega));clear hE2 hR2 hK2
        go_wp2_with fail
        refine (need_ok _).mono ?_;rintro e w2b ⟨rfl,rfl⟩
        go_upto_region 17 with fail
        have q0:=HQ2.out.c3;have q1:=HQ2.out.c4;have q2:=HQ2.out.c1
        go_region_held2 (fun w'=>w'.cell? ⟨w1.heap.size,3,none⟩=some (.int .i64 t.at_.line)/\w'.cell? ⟨w1.heap.size,4,none⟩=some (.int .i64 t.at_.col)/\w'.cell? ⟨w1.heap.size,1,none⟩=some (.string ⟨t.text.toArray⟩))
         (first | exact ⟨q0,q1,q2⟩ | exact ⟨hQ3.c3,hQ3.c4,hQ3.c1⟩ | exact ⟨(hQ3.alloc _).c3,(hQ3.alloc _).c4,(hQ3.alloc _).c1⟩ | exact ⟨hQ4.c3,hQ4.c4,hQ4.c1⟩)
         (first
          | (go_at_call 199;refine (HF.out.or (d+1) s2 X w2.drew hd1 HR2.out.drew (fun e=>HNE.out (by rw [HU.out];simp only [Ex.setF,Ex.at_,HTK.out,HE2.out,e,Ex.Res.bind]))).mono ?_;rintro e w3 (⟨a3,s3,hE3,rfl,hR3,hK3⟩ | ⟨cd,p3,hE3,rfl,hK3⟩);rotate_left;exact ⟨rfl,.inr ⟨cd,p3,by rw [HU.out];simp only [Ex.setF,Ex.at_,HTK.out,HE2.out,hE3,Ex.Res.bind],rfl,HK2.out.trans hK3.undrew⟩⟩;have hQ3:=HQ2.out.kp hK3.undrew (by omega) (by omega);have HE3:=Lib.hid hE3;clear hE3)
          | (go_at_call 186;refine (add_any c X _ s3 [115,101,116] t.at_ t.text [a3] (some ⟨w3.heap.size,0,none⟩) 1 _ (hR3.below ((Below.refl _ w3).alloc (Nat.le_refl _) _)) (ints_at1 w3 a3 _) (fun e=>by cases e) (by simp)).mono ?_;rintro e w4 (⟨a4,s4,hE4,rfl,hR4,hK4⟩ | ⟨cd,p4,hE4,rfl,hK4⟩);rotate_left;exact ⟨rfl,.inr ⟨cd,p4,by rw [HU.out];simp only [Ex.setF,Ex.at_,HTK.out,HE2.out,HE3.out,hE4,Ex.Res.bind],rfl,(HK2.out.trans hK3.undrew).trans (Below.then_kp ((Below.refl _ w3).alloc (Nat.le_refl _) _) hK4)⟩⟩;have hQ4:=(hQ3.alloc (.cells #[.int .i64 (a3:Int)] 3)).kp hK4 (by omega) (by omega);have HE4:=Lib.hid hE4;clear hE4))
        have HK4:=Lib.hid ((HK2.out.trans hK3.undrew).trans (Below.then_kp ((Below.refl _ w3).alloc (Nat.le_refl _) _) hK4));have HR4:=Lib.hid hR4;clear hQ3 hQ4 hR3 hR4 hK3 hK4 q0 q1 q2
        go_wp2
        go_ret
        exact .inl ⟨_,_,by rw [HU.out];simp only [Ex.setF,Ex.at_,HTK.out,HE2.out,HE3.out,HE4.out,Ex.Res.bind],rfl,HR4.out,HK4.out⟩
       | false =>
        rw [hm] at hme;have HME:=Lib.hid hme;have HMV:=Lib.hid hm;clear hme hm
        go_wp2_with fail
        refine HN.out.mono ?_;rintro e u5 ⟨rfl,hb⟩;have HRf:=Lib.hid (HRe.out.below hb);have HKf:=Lib.hid (HKe.out.then_below hb);clear hb HN;unfold tval
        go_wp2_with fail
        refine (HM.out _ HRf.out).mono ?_;rintro e u6 ⟨rfl,hb⟩;have HRg:=Lib.hid (HRf.out.below hb);have HKg:=Lib.hid (HKf.out.then_below hb);clear hb HM
        go_wp2_with fail
        refine (HME.out _).mono ?_;rintro e u7 ⟨rfl,hb⟩;have HRh:=Lib.hid (HRg.out.below hb);have HKh:=Lib.hid (HKg.out.then_below hb);clear hb HME;clear hk;have hU:R=f .or (d+1) s:=by rw [<- HW.out];simp only [Ex.itemF,Ex.at_,HTK.out,HT1.out,HV0.out,HV1.out,HV2.out,HV3.out,HV4.out,HX.out,HMV.out,↓reduceIte,Bool.false_eq_true,Bool.or_false,Bool.or_true,Bool.false_or,Bool.true_or,Bool.and_true,Bool.and_false,Bool.false_and,Bool.true_and,Ex.Res.bind]
        have hC:Calls Tryz.prog 199 #[.pointer (some ⟨c.r,0,none⟩),.int .i64 ((d+1:Nat):Int)] u7 (Post c X u7 R):=by rw [hU];exact HF.out.or (d+1) s X u7 hd1 HRh.out (by rw [<- hU];exact HNE.out)
        have HC:=Lib.hid hC;clear hC hU
        go_wp2_with fail
        refine HC.out.mono ?_;rintro e w3 hP3
        replace hP3:=FIN.out _ HKh.out _ _ hP3
        rcases hP3 with ⟨a3,s3,hE3,rfl,hR3,hK3⟩ | ⟨cd,p3,hE3,rfl,hK3⟩
        rotate_left
        ·exact ⟨rfl,.inr ⟨cd,p3,hE3,rfl,hK3⟩⟩
        have HE3:=Lib.hid hE3;have HR3:=Lib.hid hR3;have HK3:=Lib.hid hK3;clear hE3 hR3 hK3
        go_wp2
        go_ret
        exact .inl ⟨_,_,HE3.out,rfl,HR3.out,HK3.out⟩
end
section
open Go.RowKit Go.Shelf Tn Lx
def calmQ (G:List PanicEntry->World->Prop)(Q:Exit->Act->World->Prop):Exit->Act->World->Prop
 | .panic ch,a,w=>a.defers=[]/\G ch w
 | e,a,w=>Q e a w
theorem calmQ_normal {G:List PanicEntry->World->Prop}{Q:Exit->Act->World->Prop}{a:Act}{w:World}(h:Q .normal a w):calmQ G Q .normal a w:=h
theorem wp_calm {P:Program}{c:Code}{Q:Exit->Act->World->Prop}{a:Act}{w:World}(G:List PanicEntry->World->Prop)(hG:∀ ch a' w',a'.defers=[]->G ch w'->Q (.panic ch) a' w')(h:c.wp P (calmQ G Q) a w):c.wp P Q a w :=
 Code.wp_mono (fun e a' w' hq=>by
  cases e <;> first | exact hq | exact hG _ _ _ hq.1 hq.2) h
theorem Tryz.info41:(Tryz.prog.info? 41).map (fun i=>(i.zero,i.size,i.bytes))=some (some (.agg #[.int .i64 0,.int .i64 0]),2,16):=by kernel_rfl
structure AllM (c:Cx)(X:Nat->Prop)(w:World)(b2 b5:Nat)(vi vm:Value)(is_:List Nat)(ps:List Pos)(s:Ex.S)(wr:World):Prop where
 rd:Rd c (XV X vi) wr s
 kp:Kp c w wr
 box:wr.heap[b2]? = some (.cells #[.pointer (some ⟨c.r,0,none⟩)] 67 (0,0))
 cell:wr.heap[b5]? = some (.cells #[vi] 163 (0,0))
 own:wr.ownsRow w.heap.size 3 1 vi is_.length (ints (is_.map fun (i:Nat)=>(i:Int)))
 mown:wr.ownsRow w.heap.size 41 2 vm ps.length (posCells ps)
 hB:c.B<=w.heap.size
 h2:w.heap.size<=b2
 h5:w.heap.size<=b5
section
variable {c:Cx} {X:Nat->Prop} {w:World} {b2 b5:Nat} {vi vm:Value} {is_:List Nat} {ps:List Pos} {s:Ex.S} {wr w2 w3:World}
theorem AllM.q2 (h:AllM c X w b2 b5 vi vm is_ ps s wr):wr.cell? ⟨b2,0,none⟩=some (.pointer (some ⟨c.r,0,none⟩)):=(blk_cell h.box 0).trans rfl
theorem AllM.q5 (h:AllM c X w b2 b5 vi vm is_ ps s wr):wr.cell? ⟨b5,0,none⟩=some vi:=(blk_cell h.cell 0).trans rfl
theorem AllM.f5 (h:AllM c X w b2 b5 vi vm is_ ps s wr):wr.frozen? ⟨b5,0,none⟩=false:=blk_frozen h.cell 0
theorem AllM.step (h:AllM c X w b2 b5 vi vm is_ ps s wr){s2:Ex.S}(hR:Rd c (XV X vi) w2 s2)(hK:Kp c wr w2):AllM c X w b2 b5 vi vm is_ ps s2 w2:=by
 have:=h.hB;have:=h.h2;have:=h.h5;have:=hR.rlt;have:=hR.blt;exact ⟨hR,h.kp.trans hK,hK.heap h.box (by omega) (by omega) (fun e=>absurd e (by decide)),hK.heap h.cell (by omega) (by omega) (fun e=>absurd e (by decide)),hK.own h.own (fun e=>absurd e (by decide)) (by omega) (by omega),hK.own h.mown (fun e=>absurd e (by decide)) (by omega) (by omega),h.hB,h.h2,h.h5⟩
theorem AllM.below (h:AllM c X w b2 b5 vi vm is_ ps s wr)(hb:Below wr.heap.size wr w2):AllM c X w b2 b5 vi vm is_ ps s w2:=h.step (h.rd.below hb) (Kp.of_below hb)
theorem AllM.mark (h:AllM c X w b2 b5 vi vm is_ ps s w2){p:Pos}{v':Value}(o:Obj)(hown:w3.ownsRow w.heap.size 41 2 v' (ps.length+1) (posCells ps++[.int .i64 p.line,.int .i64 p.col]))(hgrow:(w2.alloc o).grownBy w3 vm.ownBlock):AllM c X w b2 b5 vi v' is_ (ps++[p]) s w3:=by
 have hB2:But (fun q=>some q=vm.ownBlock) w2 w3:=(But.of_below ((Below.refl _ w2).alloc (Nat.le_refl _) _)).trans (But.of_grown hgrow (fun q e=>e.symm));have tag:∀ q,some q=vm.ownBlock->w.heap.size<=q/\∃ cur,w2.heap[q]? = some (.cells cur 41 (0,0)):=fun q e=>own_tag h.mown e.symm;have off:∀ {k:Nat} {cs:Array Value} {t:TypeId} {fr:Nat × Nat},w2.heap[k]? = some (.cells cs t fr)->t≠41->¬ some k=vm.ownBlock:=fun hk ht e=>by
  obtain ⟨_,cur,e1⟩:=tag _ e;rw [hk] at e1;injection e1 with e1;injection e1 with _ e1;exact ht e1
 have far:∀ b,b<c.B->¬ (some b=vm.ownBlock):=fun b hb e=>by have:=(tag b e).1;have:=h.hB;omega
 refine ⟨h.rd.but hB2 (far _ h.rd.rlt) (far _ h.rd.blt) (far _ h.rd.glt) (fun q hq=>?_),h.kp.new hB2 (fun q e=>(tag q e).1),hB2.heap h.box (off h.box (by decide)),hB2.heap h.cell (off h.cell (by decide)),hB2.own h.own (fun g hg=>?_), ?_,h.hB,h.h2,h.h5⟩
 ·obtain ⟨_,cur,e1⟩:=tag q hq;exact .inr ⟨_,_,_,e1,by decide,by decide⟩
 ·obtain ⟨_,cur,e1⟩:=own_tag h.own hg;exact off e1 (by decide)
 ·rw [List.length_append,posCells_snoc];exact hown
theorem AllM.far7 (h:AllM c X w b2 b5 vi vm is_ ps s w2){o:Obj}(hgrow:(w2.alloc o).grownBy w3 vi.ownBlock):w3.cell? ⟨b5,0,none⟩=some vi:=by
 have e:=hgrow.block b5 (by have:=lt_of_heap h.cell;simp;omega) (fun e=>by
  obtain ⟨_,cur,e1⟩:=own_tag h.own e.symm;rw [h.cell] at e1;injection e1 with e1;injection e1 with _ e1;exact absurd e1 (by decide))
 exact (blk_cell (e.trans (blk_alloc h.cell o)) 0).trans rfl
theorem AllM.fz7 (h:AllM c X w b2 b5 vi vm is_ ps s w2){o:Obj}(hgrow:(w2.alloc o).grownBy w3 vi.ownBlock):w3.frozen? ⟨b5,0,none⟩=false:=by
 have e:=hgrow.block b5 (by have:=lt_of_heap h.cell;simp;omega) (fun e=>by
  obtain ⟨_,cur,e1⟩:=own_tag h.own e.symm;rw [h.cell] at e1;injection e1 with e1;injection e1 with _ e1;exact absurd e1 (by decide))
 exact blk_frozen (e.trans (blk_alloc h.cell o)) 0
theorem AllM.item (h:AllM c X w b2 b5 vi vm is_ ps s w2){i g cap:Nat}(o:Obj)(hown:w3.ownsRow w.heap.size 3 1 (.slice (some ⟨g,0,none⟩) (is_.length+1) cap) (is_.length+1) (ints (is_.map fun (i:Nat)=>(i:Int))++[.int .i64 (i:Int)]))(hgrow:(w2.alloc o).grownBy w3 vi.ownBlock)(hat:vi.ownBlock=some g\/g=w2.heap.size+1)(hlt:g<w3.heap.size):
  AllM c X w b2 b5 (.slice (some ⟨g,0,none⟩) (is_.length+1) cap) vm (is_++[i]) ps s (w3.setCell ⟨b5,0,none⟩ (.slice (some ⟨g,0,none⟩) (is_.length+1) cap)):=by
 have hB2:But (fun q=>some q=vi.ownBlock) w2 w3:=(But.of_below ((Below.refl _ w2).alloc (Nat.le_refl _) _)).trans (But.of_grown hgrow (fun q e=>e.symm));have tag:∀ q,some q=vi.ownBlock->w.heap.size<=q/\∃ cur,w2.heap[q]? = some (.cells cur 3 (0,0)):=fun q e=>own_tag h.own e.symm;have off:∀ {k:Nat} {cs:Array Value} {t:TypeId} {fr:Nat × Nat},w2.heap[k]? = some (.cells cs t fr)->t≠3->¬ some k=vi.ownBlock:=fun hk ht e=>by
  obtain ⟨_,cur,e1⟩:=tag _ e;rw [hk] at e1;injection e1 with e1;injection e1 with _ e1;exact ht e1
 have far:∀ b,b<c.B->¬ (some b=vi.ownBlock):=fun b hb e=>by have:=(tag b e).1;have:=h.hB;omega
 have hR3:Rd c (XV X (.slice (some ⟨g,0,none⟩) (is_.length+1) cap)) w3 s:=h.rd.grown hB2 (far _ h.rd.rlt) (far _ h.rd.blt) (far _ h.rd.glt) (fun q hq => .inr hq) _ (fun q hq=>by
  rcases hq with hq | hq
  ·exact .inl (.inl hq)
  ·have hq':q=g:=by injection hq
   subst hq'
   rcases hat with e | e
   ·exact .inl (.inr e.symm)
   ·exact .inr ⟨by omega,hlt⟩)
 have hbox3:=hB2.heap h.box (off h.box (by decide));have hcell3:=hB2.heap h.cell (off h.cell (by decide));have hm3:=hB2.own h.mown (fun g hg=>by
  obtain ⟨_,cur,e1⟩:=own_tag h.mown hg;exact off e1 (by decide))
 have h5:=h.h5;have hB:=h.hB;have hS:But (fun q=>q=b5) w3 (w3.setCell ⟨b5,0,none⟩ (.slice (some ⟨g,0,none⟩) (is_.length+1) cap)):=But.setCell (p:=fun q=>q=b5) w3 rfl 0 _;have ne:∀ {k:Nat} {cs:Array Value} {t:TypeId} {fr:Nat × Nat},w3.heap[k]? = some (.cells cs t fr)->t≠163->¬ k=b5:=fun hk ht e=>by
  subst e;rw [hcell3] at hk;injection hk with e1;injection e1 with _ e1;exact ht e1.symm
 refine ⟨hR3.but hS (fun e=>by have:=h.rd.rlt;omega) (fun e=>by have:=h.rd.blt;omega) (fun e=>by have:=h.rd.glt;omega) (fun q hq => .inr (by subst hq;exact ⟨_,_,_,hcell3,by decide,by decide⟩)), ?_,hS.heap hbox3 (ne hbox3 (by decide)),(blk_set hcell3 0 _).trans rfl, ?_,hS.own hm3 (fun g' hg'=>?_),h.hB,h.h2,h.h5⟩
 ·exact (h.kp.new hB2 (fun q e=>(tag q e).1)).new hS (fun q e=>by omega)
 ·have e:ints ((is_++[i]).map fun (i:Nat)=>(i:Int))=ints (is_.map fun (i:Nat)=>(i:Int))++[.int .i64 (i:Int)]:=by simp [ints]
  rw [e,List.length_append];refine hS.own hown (fun g' hg'=>?_);obtain ⟨_,cur,e1⟩:=own_tag hown hg';exact ne e1 (by decide)
 ·obtain ⟨_,cur,e1⟩:=own_tag hm3 hg';exact ne e1 (by decide)
end
end
end Go.Proofs.YtdfpkmfeldoamaaGreatDoor
