/- A part of the proof: The reading's parts that pass over a token, take what comes, and add a node: a sign, a name, let, if, try, release, brackets. -/
import Derived.Test.YtdfpkmfeldoamaaGreatDoorSpec
set_option linter.unusedSimpArgs false
set_option linter.unusedVariables false
set_option maxRecDepth 100000
set_option maxHeartbeats 4000000
namespace Go.Proofs.YtdfpkmfeldoamaaGreatDoor
open Go.RowKit Tn Lx
attribute [local go_sem] tok_field0 tok_field1 tok_field3
theorem prefix_any (c:Cx)(X:Nat->Prop)(w:World)(s:Ex.S)(f:Ex.Rec)(op:B)(d:Nat)(hf:Spec c f)(hd:d<=64)(h:Rd c X w s)(hp:s.p<c.ts.length)(hne:Ex.prefixF c.ts f op d s ≠ .out):
  Calls Tryz.prog 234 #[.pointer (some ⟨c.r,0,none⟩),.string ⟨op.toArray⟩,.int .i64 (d:Int)] w (Post c X w (Ex.prefixF c.ts f op d s)):=by
 have hA:=skip_any c X w s h hp;obtain ⟨t,htk⟩:∃ t,Ex.tk c.ts s.p=t:=⟨_,rfl⟩;rw [htk] at hA;have hr1:=h.rlt;have hb1:=h.blt;have hsz:=h.size;have HA:=Lib.hid hA;have HF:=Lib.hid hf;have HNE:=Lib.hid hne;have HTK:=Lib.hid htk;clear hA hf hne h htk
 go_enter Tryz.func234,Tryz.ntmps234
 go_wp2_with fail
 refine HA.out.mono ?_;rintro e w1 ⟨rfl,hR1,hK1⟩;obtain ⟨V,hV⟩:∃ V,w1.alloc (.cells #[.int .i64 t.at_.line,.int .i64 t.at_.col] 41)=V:=⟨_,rfl⟩;have hbV:Below w1.heap.size w1 V:=by rw [<- hV];exact (Below.refl _ w1).alloc (Nat.le_refl _) _
 have hQ:PosAt V w1.heap.size t.at_:=⟨by rw [<- hV];exact blk_new w1 _⟩;have hs1:=hK1.size;have HV:=Lib.hid hV;have HR1:=Lib.hid (hR1.below hbV);have HK1:=Lib.hid (hK1.then_below hbV);have HQ1:=Lib.hid hQ;clear hV hR1 hbV hK1 hQ HA;unfold tval
 go_upto_region 2 with fail
 rw [HV.out];have q0:=HQ1.out.c0;have q1:=HQ1.out.c1
 go_region_held2 (fun w'=>w'.cell? ⟨w1.heap.size,0,none⟩=some (.int .i64 t.at_.line)/\w'.cell? ⟨w1.heap.size,1,none⟩=some (.int .i64 t.at_.col))
  (first | exact ⟨q0,q1⟩ | exact ⟨hQ3.c0,hQ3.c1⟩ | exact ⟨(hQ3.alloc _).c0,(hQ3.alloc _).c1⟩ | exact ⟨hQ4.c0,hQ4.c1⟩)
  (first
   | (go_at_call 230;refine (HF.out.unary d s.skip X V.drew hd HR1.out.drew (fun e=>HNE.out (by simp only [Ex.prefixF,Ex.at_,HTK.out,e,Ex.Res.bind]))).mono ?_;rintro e w2 (⟨a2,s2,hE2,rfl,hR2,hK2⟩ | ⟨cd,p2,hE2,rfl,hK2⟩);rotate_left;exact ⟨rfl,.inr ⟨cd,p2,by simp only [Ex.prefixF,Ex.at_,HTK.out,hE2,Ex.Res.bind],rfl,HK1.out.trans hK2.undrew⟩⟩;have hQ3:=HQ1.out.kp hK2.undrew (by omega) (by omega);have HE2:=Lib.hid hE2;clear hE2)
   | (go_at_call 186;refine (add_any c X _ s2 op t.at_ [] [a2] (some ⟨w2.heap.size,0,none⟩) 1 _ (hR2.below ((Below.refl _ w2).alloc (Nat.le_refl _) _)) (ints_at1 w2 a2 _) (fun e=>by cases e) (by simp)).mono ?_;rintro e w3 (⟨a3,s3,hE3,rfl,hR3,hK3⟩ | ⟨cd,p3,hE3,rfl,hK3⟩);rotate_left;exact ⟨rfl,.inr ⟨cd,p3,by simp only [Ex.prefixF,Ex.at_,HTK.out,HE2.out,hE3,Ex.Res.bind],rfl,(HK1.out.trans hK2.undrew).trans (Below.then_kp ((Below.refl _ w2).alloc (Nat.le_refl _) _) hK3)⟩⟩;have hQ4:=(hQ3.alloc (.cells #[.int .i64 (a2:Int)] 3)).kp hK3 (by omega) (by omega);have HE3:=Lib.hid hE3;clear hE3))
 have HK3:=Lib.hid ((HK1.out.trans hK2.undrew).trans (Below.then_kp ((Below.refl _ w2).alloc (Nat.le_refl _) _) hK3));have HR3:=Lib.hid hR3;clear hQ3 hQ4 hR2 hR3 hK2 hK3 q0 q1
 go_wp2
 go_ret
 exact .inl ⟨_,_,by simp only [Ex.prefixF,Ex.at_,HTK.out,HE2.out,HE3.out,Ex.Res.bind],rfl,HR3.out,HK3.out⟩
theorem named_any (c:Cx)(X:Nat->Prop)(w:World)(s:Ex.S)(op:B)(h:Rd c X w s)(hp:s.p<c.ts.length):
  Calls Tryz.prog 197 #[.pointer (some ⟨c.r,0,none⟩),.string ⟨op.toArray⟩] w (Post c X w (Ex.named c.ts op s)):=by
 have hA:=skip_any c X w s h hp;obtain ⟨t,htk⟩:∃ t,Ex.tk c.ts s.p=t:=⟨_,rfl⟩;rw [htk] at hA;have hr1:=h.rlt;have hb1:=h.blt;have hsz:=h.size;have HA:=Lib.hid hA;have HTK:=Lib.hid htk;clear hA h htk
 go_enter Tryz.func197,Tryz.ntmps197
 go_wp2_with fail
 refine HA.out.mono ?_;rintro e w1 ⟨rfl,hR1,hK1⟩;obtain ⟨V,hV⟩:∃ V,w1.alloc (.cells #[.int .i64 t.at_.line,.int .i64 t.at_.col] 41)=V:=⟨_,rfl⟩;have hbV:Below w1.heap.size w1 V:=by rw [<- hV];exact (Below.refl _ w1).alloc (Nat.le_refl _) _
 have hQ:PosAt V w1.heap.size t.at_:=⟨by rw [<- hV];exact blk_new w1 _⟩;have hs1:=hK1.size;have HV:=Lib.hid hV;have HR1:=Lib.hid (hR1.below hbV);have HK1:=Lib.hid (hK1.then_below hbV);have HQ1:=Lib.hid hQ;clear hV hR1 hbV hK1 hQ HA;unfold tval
 go_upto_region 2 with fail
 rw [HV.out];have q0:=HQ1.out.c0;have q1:=HQ1.out.c1
 go_region_held2 (fun w'=>w'.cell? ⟨w1.heap.size,0,none⟩=some (.int .i64 t.at_.line)/\w'.cell? ⟨w1.heap.size,1,none⟩=some (.int .i64 t.at_.col))
  (first | exact ⟨q0,q1⟩ | exact ⟨hQ3.c0,hQ3.c1⟩ | exact ⟨(hQ3.alloc _).c0,(hQ3.alloc _).c1⟩ | exact ⟨hQ4.c0,hQ4.c1⟩)
  (first
   | (go_at_call 198;refine (needName_any c X V.drew s.skip HR1.out.drew).mono ?_;rintro e w2 (⟨x2,s2,hE2,rfl,hR2,hK2⟩ | ⟨cd,p2,hE2,rfl,hK2⟩);rotate_left;exact ⟨rfl,.inr ⟨cd,p2,by simp only [Ex.named,Ex.at_,HTK.out,hE2,Ex.Res.bind],rfl,HK1.out.trans hK2.undrew⟩⟩;have hQ3:=HQ1.out.kp hK2.undrew (by omega) (by omega);have HE2:=Lib.hid hE2;clear hE2;unfold strV)
   | (go_at_call 186;refine (add_any c X _ s2 op t.at_ x2 [] none 0 _ hR2 (ints_at0 _ 0) (fun _=>rfl) (by simp)).mono ?_;rintro e w3 (⟨a3,s3,hE3,rfl,hR3,hK3⟩ | ⟨cd,p3,hE3,rfl,hK3⟩);rotate_left;exact ⟨rfl,.inr ⟨cd,p3,by simp only [Ex.named,Ex.at_,HTK.out,HE2.out,hE3,Ex.Res.bind],rfl,(HK1.out.trans hK2.undrew).trans hK3⟩⟩;have hQ4:=hQ3.kp hK3 (by omega) (by omega);have HE3:=Lib.hid hE3;clear hE3))
 have HK3:=Lib.hid ((HK1.out.trans hK2.undrew).trans hK3);have HR3:=Lib.hid hR3;clear hQ3 hQ4 hR2 hR3 hK2 hK3 q0 q1
 go_wp2
 go_ret
 exact .inl ⟨_,_,by simp only [Ex.named,Ex.at_,HTK.out,HE2.out,HE3.out,Ex.Res.bind],rfl,HR3.out,HK3.out⟩
theorem let_any (c:Cx)(X:Nat->Prop)(w:World)(s:Ex.S)(f:Ex.Rec)(d:Nat)(hf:Spec c f)(hd:d<=64)(h:Rd c X w s)(hp:s.p<c.ts.length)(hne:Ex.letF c.ts f d s ≠ .out):
  Calls Tryz.prog 194 #[.pointer (some ⟨c.r,0,none⟩),.int .i64 (d:Int)] w (Post c X w (Ex.letF c.ts f d s)):=by
 have hA:=skip_any c X w s h hp;obtain ⟨t,htk⟩:∃ t,Ex.tk c.ts s.p=t:=⟨_,rfl⟩;rw [htk] at hA;have hr1:=h.rlt;have hb1:=h.blt;have hsz:=h.size;have HA:=Lib.hid hA;have HF:=Lib.hid hf;have HNE:=Lib.hid hne;have HTK:=Lib.hid htk;clear hA hf hne h htk
 go_enter Tryz.func194,Tryz.ntmps194
 go_wp2_with fail
 refine HA.out.mono ?_;rintro e w1 ⟨rfl,hR1,hK1⟩;obtain ⟨V,hV⟩:∃ V,w1.alloc (.cells #[.int .i64 t.at_.line,.int .i64 t.at_.col] 41)=V:=⟨_,rfl⟩;have hbV:Below w1.heap.size w1 V:=by rw [<- hV];exact (Below.refl _ w1).alloc (Nat.le_refl _) _
 have hQ:PosAt V w1.heap.size t.at_:=⟨by rw [<- hV];exact blk_new w1 _⟩;have hs1:=hK1.size;have HV:=Lib.hid hV;have HR1:=Lib.hid (hR1.below hbV);have HK1:=Lib.hid (hK1.then_below hbV);have HQ1:=Lib.hid hQ;clear hV hR1 hbV hK1 hQ HA;unfold tval
 go_wp2_with fail
 rw [HV.out];refine (needName_any c X _ s.skip HR1.out).mono ?_;rintro e w2 (⟨x2,s2,hE2,rfl,hR2,hK2⟩ | ⟨cd,p2,hE2,rfl,hK2⟩)
 rotate_left
 ·exact ⟨rfl,.inr ⟨cd,p2,by simp only [Ex.letF,Ex.at_,HTK.out,hE2,Ex.Res.bind],rfl,HK1.out.trans hK2⟩⟩
 have HE2:=Lib.hid hE2;have HR2:=Lib.hid hR2;have HK2:=Lib.hid (HK1.out.trans hK2);have HQ2:=Lib.hid (HQ1.out.kp hK2 (by omega) (by omega));clear hE2 hR2 hK2;unfold strV
 go_wp2_with fail
 refine (take_any c X _ s2 [61] _ (HR2.out.below ((Below.refl _ w2).alloc (Nat.le_refl _) _)) (by rw [World.cell?_alloc_new];rfl)).mono ?_;rintro e w3 (⟨s3,hE3,rfl,hR3,hK3⟩ | ⟨cd,p3,hE3,rfl,hK3⟩)
 rotate_left
 ·go_wp2_with fail
  refine (need_bad cd p3 _).mono ?_;rintro e w3b ⟨rfl,rfl⟩;exact ⟨rfl,.inr ⟨cd,p3,by simp only [Ex.letF,Ex.at_,HTK.out,HE2.out,hE3,Ex.Res.bind],rfl,HK2.out.trans (Below.then_kp ((Below.refl _ w2).alloc (Nat.le_refl _) _) hK3)⟩⟩
 have HE3:=Lib.hid hE3;have HR3:=Lib.hid hR3;have HK3:=Lib.hid (HK2.out.trans (Below.then_kp ((Below.refl _ w2).alloc (Nat.le_refl _) _) hK3));have HQ3:=Lib.hid ((HQ2.out.below ((Below.refl _ w2).alloc (Nat.le_refl _) _)).kp hK3 (by omega) (by omega));clear hE3 hR3 hK3
 go_wp2_with fail
 refine (need_ok _).mono ?_;rintro e w3b ⟨rfl,rfl⟩
 go_wp2_with fail
 refine (HF.out.all d s3 X _ hd HR3.out (fun e=>HNE.out (by simp only [Ex.letF,Ex.at_,HTK.out,HE2.out,HE3.out,e,Ex.Res.bind]))).mono ?_;rintro e w4 (⟨a4,s4,hE4,rfl,hR4,hK4⟩ | ⟨cd,p4,hE4,rfl,hK4⟩)
 rotate_left
 ·exact ⟨rfl,.inr ⟨cd,p4,by simp only [Ex.letF,Ex.at_,HTK.out,HE2.out,HE3.out,hE4,Ex.Res.bind],rfl,HK3.out.trans hK4⟩⟩
 have HE4:=Lib.hid hE4;have HR4:=Lib.hid hR4;have HK4:=Lib.hid (HK3.out.trans hK4);have HQ4:=Lib.hid (HQ3.out.kp hK4 (by omega) (by omega));clear hE4 hR4 hK4
 go_wp2_with fail
 refine (take_any c X _ s4 [105,110] _ (HR4.out.below ((Below.refl _ w4).alloc (Nat.le_refl _) _)) (by rw [World.cell?_alloc_new];rfl)).mono ?_;rintro e w5 (⟨s5,hE5,rfl,hR5,hK5⟩ | ⟨cd,p5,hE5,rfl,hK5⟩)
 rotate_left
 ·go_wp2_with fail
  refine (need_bad cd p5 _).mono ?_;rintro e w5b ⟨rfl,rfl⟩;exact ⟨rfl,.inr ⟨cd,p5,by simp only [Ex.letF,Ex.at_,HTK.out,HE2.out,HE3.out,HE4.out,hE5,Ex.Res.bind],rfl,HK4.out.trans (Below.then_kp ((Below.refl _ w4).alloc (Nat.le_refl _) _) hK5)⟩⟩
 have HE5:=Lib.hid hE5;have HR5:=Lib.hid hR5;have HK5:=Lib.hid (HK4.out.trans (Below.then_kp ((Below.refl _ w4).alloc (Nat.le_refl _) _) hK5));have HQ5:=Lib.hid ((HQ4.out.below ((Below.refl _ w4).alloc (Nat.le_refl _) _)).kp hK5 (by omega) (by omega));clear hE5 hR5 hK5
 go_wp2_with fail
 refine (need_ok _).mono ?_;rintro e w5b ⟨rfl,rfl⟩
 go_upto_region 6 with fail
 have q0:=HQ5.out.c0;have q1:=HQ5.out.c1
 go_region_held2 (fun w'=>w'.cell? ⟨w1.heap.size,0,none⟩=some (.int .i64 t.at_.line)/\w'.cell? ⟨w1.heap.size,1,none⟩=some (.int .i64 t.at_.col))
  (first | exact ⟨q0,q1⟩ | exact ⟨hQ3.c0,hQ3.c1⟩ | exact ⟨(hQ3.alloc _).c0,(hQ3.alloc _).c1⟩ | exact ⟨hQ4.c0,hQ4.c1⟩)
  (first
   | (go_at_call 169;refine (HF.out.all d s5 X w5.drew hd HR5.out.drew (fun e=>HNE.out (by simp only [Ex.letF,Ex.at_,HTK.out,HE2.out,HE3.out,HE4.out,HE5.out,e,Ex.Res.bind]))).mono ?_;rintro e w6 (⟨a6,s6,hE6,rfl,hR6,hK6⟩ | ⟨cd,p6,hE6,rfl,hK6⟩);rotate_left;exact ⟨rfl,.inr ⟨cd,p6,by simp only [Ex.letF,Ex.at_,HTK.out,HE2.out,HE3.out,HE4.out,HE5.out,hE6,Ex.Res.bind],rfl,HK5.out.trans hK6.undrew⟩⟩;have hQ3:=HQ5.out.kp hK6.undrew (by omega) (by omega);have HE6:=Lib.hid hE6;clear hE6)
   | (go_at_call 186;refine (add_any c X _ s6 [108,101,116] t.at_ x2 [a4,a6] (some ⟨w6.heap.size,0,none⟩) 2 _ (hR6.below ((Below.refl _ w6).alloc (Nat.le_refl _) _)) (ints_at2 w6 a4 a6 _) (fun e=>by cases e) (by simp)).mono ?_;rintro e w7 (⟨a7,s7,hE7,rfl,hR7,hK7⟩ | ⟨cd,p7,hE7,rfl,hK7⟩);rotate_left;exact ⟨rfl,.inr ⟨cd,p7,by simp only [Ex.letF,Ex.at_,HTK.out,HE2.out,HE3.out,HE4.out,HE5.out,HE6.out,hE7,Ex.Res.bind],rfl,(HK5.out.trans hK6.undrew).trans (Below.then_kp ((Below.refl _ w6).alloc (Nat.le_refl _) _) hK7)⟩⟩;have hQ4:=(hQ3.alloc (.cells #[.int .i64 (a4:Int),.int .i64 (a6:Int)] 3)).kp hK7 (by omega) (by omega);have HE7:=Lib.hid hE7;clear hE7))
 have HK7:=Lib.hid ((HK5.out.trans hK6.undrew).trans (Below.then_kp ((Below.refl _ w6).alloc (Nat.le_refl _) _) hK7));have HR7:=Lib.hid hR7;clear hQ3 hQ4 hR6 hR7 hK6 hK7 q0 q1
 go_wp2
 go_ret
 exact .inl ⟨_,_,by simp only [Ex.letF,Ex.at_,HTK.out,HE2.out,HE3.out,HE4.out,HE5.out,HE6.out,HE7.out,Ex.Res.bind],rfl,HR7.out,HK7.out⟩
theorem choice_any (c:Cx)(X:Nat->Prop)(w:World)(s:Ex.S)(f:Ex.Rec)(d:Nat)(hf:Spec c f)(hd:d<=64)(h:Rd c X w s)(hp:s.p<c.ts.length)(hne:Ex.choiceF c.ts f d s ≠ .out):
  Calls Tryz.prog 195 #[.pointer (some ⟨c.r,0,none⟩),.int .i64 (d:Int)] w (Post c X w (Ex.choiceF c.ts f d s)):=by
 have hA:=skip_any c X w s h hp;obtain ⟨t,htk⟩:∃ t,Ex.tk c.ts s.p=t:=⟨_,rfl⟩;rw [htk] at hA;have hr1:=h.rlt;have hb1:=h.blt;have hsz:=h.size;have HA:=Lib.hid hA;have HF:=Lib.hid hf;have HNE:=Lib.hid hne;have HTK:=Lib.hid htk;clear hA hf hne h htk
 go_enter Tryz.func195,Tryz.ntmps195
 go_wp2_with fail
 refine HA.out.mono ?_;rintro e w1 ⟨rfl,hR1,hK1⟩;obtain ⟨V,hV⟩:∃ V,w1.alloc (.cells #[.int .i64 t.at_.line,.int .i64 t.at_.col] 41)=V:=⟨_,rfl⟩;have hbV:Below w1.heap.size w1 V:=by rw [<- hV];exact (Below.refl _ w1).alloc (Nat.le_refl _) _
 have hQ:PosAt V w1.heap.size t.at_:=⟨by rw [<- hV];exact blk_new w1 _⟩;have hs1:=hK1.size;have HV:=Lib.hid hV;have HR1:=Lib.hid (hR1.below hbV);have HK1:=Lib.hid (hK1.then_below hbV);have HQ1:=Lib.hid hQ;clear hV hR1 hbV hK1 hQ HA;unfold tval
 go_wp2_with fail
 rw [HV.out];refine (HF.out.all d s.skip X _ hd HR1.out (fun e=>HNE.out (by simp only [Ex.choiceF,Ex.at_,HTK.out,e,Ex.Res.bind]))).mono ?_;rintro e w2 (⟨a2,s2,hE2,rfl,hR2,hK2⟩ | ⟨cd,p2,hE2,rfl,hK2⟩)
 rotate_left
 ·exact ⟨rfl,.inr ⟨cd,p2,by simp only [Ex.choiceF,Ex.at_,HTK.out,hE2,Ex.Res.bind],rfl,HK1.out.trans hK2⟩⟩
 have HE2:=Lib.hid hE2;have HR2:=Lib.hid hR2;have HK2:=Lib.hid (HK1.out.trans hK2);have HQ2:=Lib.hid (HQ1.out.kp hK2 (by omega) (by omega));clear hE2 hR2 hK2
 go_wp2_with fail
 refine (take_any c X _ s2 [116,104,101,110] _ (HR2.out.below ((Below.refl _ w2).alloc (Nat.le_refl _) _)) (by rw [World.cell?_alloc_new];rfl)).mono ?_;rintro e w3 (⟨s3,hE3,rfl,hR3,hK3⟩ | ⟨cd,p3,hE3,rfl,hK3⟩)
 rotate_left
 ·go_wp2_with fail
  refine (need_bad cd p3 _).mono ?_;rintro e w3b ⟨rfl,rfl⟩;exact ⟨rfl,.inr ⟨cd,p3,by simp only [Ex.choiceF,Ex.at_,HTK.out,HE2.out,hE3,Ex.Res.bind],rfl,HK2.out.trans (Below.then_kp ((Below.refl _ w2).alloc (Nat.le_refl _) _) hK3)⟩⟩
 have HE3:=Lib.hid hE3;have HR3:=Lib.hid hR3;have HK3:=Lib.hid (HK2.out.trans (Below.then_kp ((Below.refl _ w2).alloc (Nat.le_refl _) _) hK3));have HQ3:=Lib.hid ((HQ2.out.below ((Below.refl _ w2).alloc (Nat.le_refl _) _)).kp hK3 (by omega) (by omega));clear hE3 hR3 hK3
 go_wp2_with fail
 refine (need_ok _).mono ?_;rintro e w3b ⟨rfl,rfl⟩
 go_wp2_with fail
 refine (HF.out.item d s3 X _ hd HR3.out (fun e=>HNE.out (by simp only [Ex.choiceF,Ex.at_,HTK.out,HE2.out,HE3.out,e,Ex.Res.bind]))).mono ?_;rintro e w4 (⟨a4,s4,hE4,rfl,hR4,hK4⟩ | ⟨cd,p4,hE4,rfl,hK4⟩)
 rotate_left
 ·exact ⟨rfl,.inr ⟨cd,p4,by simp only [Ex.choiceF,Ex.at_,HTK.out,HE2.out,HE3.out,hE4,Ex.Res.bind],rfl,HK3.out.trans hK4⟩⟩
 have HE4:=Lib.hid hE4;have HR4:=Lib.hid hR4;have HK4:=Lib.hid (HK3.out.trans hK4);have HQ4:=Lib.hid (HQ3.out.kp hK4 (by omega) (by omega));clear hE4 hR4 hK4
 go_wp2_with fail
 refine (take_any c X _ s4 [101,108,115,101] _ (HR4.out.below ((Below.refl _ w4).alloc (Nat.le_refl _) _)) (by rw [World.cell?_alloc_new];rfl)).mono ?_;rintro e w5 (⟨s5,hE5,rfl,hR5,hK5⟩ | ⟨cd,p5,hE5,rfl,hK5⟩)
 rotate_left
 ·go_wp2_with fail
  refine (need_bad cd p5 _).mono ?_;rintro e w5b ⟨rfl,rfl⟩;exact ⟨rfl,.inr ⟨cd,p5,by simp only [Ex.choiceF,Ex.at_,HTK.out,HE2.out,HE3.out,HE4.out,hE5,Ex.Res.bind],rfl,HK4.out.trans (Below.then_kp ((Below.refl _ w4).alloc (Nat.le_refl _) _) hK5)⟩⟩
 have HE5:=Lib.hid hE5;have HR5:=Lib.hid hR5;have HK5:=Lib.hid (HK4.out.trans (Below.then_kp ((Below.refl _ w4).alloc (Nat.le_refl _) _) hK5));have HQ5:=Lib.hid ((HQ4.out.below ((Below.refl _ w4).alloc (Nat.le_refl _) _)).kp hK5 (by omega) (by omega));clear hE5 hR5 hK5
 go_wp2_with fail
 refine (need_ok _).mono ?_;rintro e w5b ⟨rfl,rfl⟩
 go_upto_region 6 with fail
 have q0:=HQ5.out.c0;have q1:=HQ5.out.c1
 go_region_held2 (fun w'=>w'.cell? ⟨w1.heap.size,0,none⟩=some (.int .i64 t.at_.line)/\w'.cell? ⟨w1.heap.size,1,none⟩=some (.int .i64 t.at_.col))
  (first | exact ⟨q0,q1⟩ | exact ⟨hQ3.c0,hQ3.c1⟩ | exact ⟨(hQ3.alloc _).c0,(hQ3.alloc _).c1⟩ | exact ⟨hQ4.c0,hQ4.c1⟩)
  (first
   | (go_at_call 183;refine (HF.out.item d s5 X w5.drew hd HR5.out.drew (fun e=>HNE.out (by simp only [Ex.choiceF,Ex.at_,HTK.out,HE2.out,HE3.out,HE4.out,HE5.out,e,Ex.Res.bind]))).mono ?_;rintro e w6 (⟨a6,s6,hE6,rfl,hR6,hK6⟩ | ⟨cd,p6,hE6,rfl,hK6⟩);rotate_left;exact ⟨rfl,.inr ⟨cd,p6,by simp only [Ex.choiceF,Ex.at_,HTK.out,HE2.out,HE3.out,HE4.out,HE5.out,hE6,Ex.Res.bind],rfl,HK5.out.trans hK6.undrew⟩⟩;have hQ3:=HQ5.out.kp hK6.undrew (by omega) (by omega);have HE6:=Lib.hid hE6;clear hE6)
   | (go_at_call 186;refine (add_any c X _ s6 [105,102] t.at_ [] [a2,a4,a6] (some ⟨w6.heap.size,0,none⟩) 3 _ (hR6.below ((Below.refl _ w6).alloc (Nat.le_refl _) _)) (ints_at3 w6 a2 a4 a6 _) (fun e=>by cases e) (by simp)).mono ?_;rintro e w7 (⟨a7,s7,hE7,rfl,hR7,hK7⟩ | ⟨cd,p7,hE7,rfl,hK7⟩);rotate_left;exact ⟨rfl,.inr ⟨cd,p7,by simp only [Ex.choiceF,Ex.at_,HTK.out,HE2.out,HE3.out,HE4.out,HE5.out,HE6.out,hE7,Ex.Res.bind],rfl,(HK5.out.trans hK6.undrew).trans (Below.then_kp ((Below.refl _ w6).alloc (Nat.le_refl _) _) hK7)⟩⟩;have hQ4:=(hQ3.alloc (.cells #[.int .i64 (a2:Int),.int .i64 (a4:Int),.int .i64 (a6:Int)] 3)).kp hK7 (by omega) (by omega);have HE7:=Lib.hid hE7;clear hE7))
 have HK7:=Lib.hid ((HK5.out.trans hK6.undrew).trans (Below.then_kp ((Below.refl _ w6).alloc (Nat.le_refl _) _) hK7));have HR7:=Lib.hid hR7;clear hQ3 hQ4 hR6 hR7 hK6 hK7 q0 q1
 go_wp2
 go_ret
 exact .inl ⟨_,_,by simp only [Ex.choiceF,Ex.at_,HTK.out,HE2.out,HE3.out,HE4.out,HE5.out,HE6.out,HE7.out,Ex.Res.bind],rfl,HR7.out,HK7.out⟩
theorem guard_any (c:Cx)(X:Nat->Prop)(w:World)(s:Ex.S)(f:Ex.Rec)(d:Nat)(hf:Spec c f)(hd:d<=64)(h:Rd c X w s)(hp:s.p<c.ts.length)(hne:Ex.guardF c.ts f d s ≠ .out):
  Calls Tryz.prog 196 #[.pointer (some ⟨c.r,0,none⟩),.int .i64 (d:Int)] w (Post c X w (Ex.guardF c.ts f d s)):=by
 have hA:=skip_any c X w s h hp;obtain ⟨t,htk⟩:∃ t,Ex.tk c.ts s.p=t:=⟨_,rfl⟩;rw [htk] at hA;have hr1:=h.rlt;have hb1:=h.blt;have hsz:=h.size;have HA:=Lib.hid hA;have HF:=Lib.hid hf;have HNE:=Lib.hid hne;have HTK:=Lib.hid htk;clear hA hf hne h htk
 go_enter Tryz.func196,Tryz.ntmps196
 go_wp2_with fail
 refine HA.out.mono ?_;rintro e w1 ⟨rfl,hR1,hK1⟩;obtain ⟨V,hV⟩:∃ V,w1.alloc (.cells #[.int .i64 t.at_.line,.int .i64 t.at_.col] 41)=V:=⟨_,rfl⟩;have hbV:Below w1.heap.size w1 V:=by rw [<- hV];exact (Below.refl _ w1).alloc (Nat.le_refl _) _
 have hQ:PosAt V w1.heap.size t.at_:=⟨by rw [<- hV];exact blk_new w1 _⟩;have hs1:=hK1.size;have HV:=Lib.hid hV;have HR1:=Lib.hid (hR1.below hbV);have HK1:=Lib.hid (hK1.then_below hbV);have HQ1:=Lib.hid hQ;clear hV hR1 hbV hK1 hQ HA;unfold tval
 go_wp2_with fail
 rw [HV.out];refine (HF.out.all d s.skip X _ hd HR1.out (fun e=>HNE.out (by simp only [Ex.guardF,Ex.at_,HTK.out,e,Ex.Res.bind]))).mono ?_;rintro e w2 (⟨a2,s2,hE2,rfl,hR2,hK2⟩ | ⟨cd,p2,hE2,rfl,hK2⟩)
 rotate_left
 ·exact ⟨rfl,.inr ⟨cd,p2,by simp only [Ex.guardF,Ex.at_,HTK.out,hE2,Ex.Res.bind],rfl,HK1.out.trans hK2⟩⟩
 have HE2:=Lib.hid hE2;have HR2:=Lib.hid hR2;have HK2:=Lib.hid (HK1.out.trans hK2);have HQ2:=Lib.hid (HQ1.out.kp hK2 (by omega) (by omega));clear hE2 hR2 hK2
 go_wp2_with fail
 refine (take_any c X _ s2 [119,105,116,104] _ (HR2.out.below ((Below.refl _ w2).alloc (Nat.le_refl _) _)) (by rw [World.cell?_alloc_new];rfl)).mono ?_;rintro e w3 (⟨s3,hE3,rfl,hR3,hK3⟩ | ⟨cd,p3,hE3,rfl,hK3⟩)
 rotate_left
 ·go_wp2_with fail
  refine (need_bad cd p3 _).mono ?_;rintro e w3b ⟨rfl,rfl⟩;exact ⟨rfl,.inr ⟨cd,p3,by simp only [Ex.guardF,Ex.at_,HTK.out,HE2.out,hE3,Ex.Res.bind],rfl,HK2.out.trans (Below.then_kp ((Below.refl _ w2).alloc (Nat.le_refl _) _) hK3)⟩⟩
 have HE3:=Lib.hid hE3;have HR3:=Lib.hid hR3;have HK3:=Lib.hid (HK2.out.trans (Below.then_kp ((Below.refl _ w2).alloc (Nat.le_refl _) _) hK3));have HQ3:=Lib.hid ((HQ2.out.below ((Below.refl _ w2).alloc (Nat.le_refl _) _)).kp hK3 (by omega) (by omega));clear hE3 hR3 hK3
 go_wp2_with fail
 refine (need_ok _).mono ?_;rintro e w3b ⟨rfl,rfl⟩
 go_wp2_with fail
 refine (needName_any c X _ s3 HR3.out).mono ?_;rintro e w4 (⟨x4,s4,hE4,rfl,hR4,hK4⟩ | ⟨cd,p4,hE4,rfl,hK4⟩)
 rotate_left
 ·exact ⟨rfl,.inr ⟨cd,p4,by simp only [Ex.guardF,Ex.at_,HTK.out,HE2.out,HE3.out,hE4,Ex.Res.bind],rfl,HK3.out.trans hK4⟩⟩
 have HE4:=Lib.hid hE4;have HR4:=Lib.hid hR4;have HK4:=Lib.hid (HK3.out.trans hK4);have HQ4:=Lib.hid (HQ3.out.kp hK4 (by omega) (by omega));clear hE4 hR4 hK4;unfold strV
 go_wp2_with fail
 refine (take_any c X _ s4 [45,62] _ (HR4.out.below ((Below.refl _ w4).alloc (Nat.le_refl _) _)) (by rw [World.cell?_alloc_new];rfl)).mono ?_;rintro e w5 (⟨s5,hE5,rfl,hR5,hK5⟩ | ⟨cd,p5,hE5,rfl,hK5⟩)
 rotate_left
 ·go_wp2_with fail
  refine (need_bad cd p5 _).mono ?_;rintro e w5b ⟨rfl,rfl⟩;exact ⟨rfl,.inr ⟨cd,p5,by simp only [Ex.guardF,Ex.at_,HTK.out,HE2.out,HE3.out,HE4.out,hE5,Ex.Res.bind],rfl,HK4.out.trans (Below.then_kp ((Below.refl _ w4).alloc (Nat.le_refl _) _) hK5)⟩⟩
 have HE5:=Lib.hid hE5;have HR5:=Lib.hid hR5;have HK5:=Lib.hid (HK4.out.trans (Below.then_kp ((Below.refl _ w4).alloc (Nat.le_refl _) _) hK5));have HQ5:=Lib.hid ((HQ4.out.below ((Below.refl _ w4).alloc (Nat.le_refl _) _)).kp hK5 (by omega) (by omega));clear hE5 hR5 hK5
 go_wp2_with fail
 refine (need_ok _).mono ?_;rintro e w5b ⟨rfl,rfl⟩
 go_upto_region 6 with fail
 have q0:=HQ5.out.c0;have q1:=HQ5.out.c1
 go_region_held2 (fun w'=>w'.cell? ⟨w1.heap.size,0,none⟩=some (.int .i64 t.at_.line)/\w'.cell? ⟨w1.heap.size,1,none⟩=some (.int .i64 t.at_.col))
  (first | exact ⟨q0,q1⟩ | exact ⟨hQ3.c0,hQ3.c1⟩ | exact ⟨(hQ3.alloc _).c0,(hQ3.alloc _).c1⟩ | exact ⟨hQ4.c0,hQ4.c1⟩)
  (first
   | (go_at_call 183;refine (HF.out.item d s5 X w5.drew hd HR5.out.drew (fun e=>HNE.out (by simp only [Ex.guardF,Ex.at_,HTK.out,HE2.out,HE3.out,HE4.out,HE5.out,e,Ex.Res.bind]))).mono ?_;rintro e w6 (⟨a6,s6,hE6,rfl,hR6,hK6⟩ | ⟨cd,p6,hE6,rfl,hK6⟩);rotate_left;exact ⟨rfl,.inr ⟨cd,p6,by simp only [Ex.guardF,Ex.at_,HTK.out,HE2.out,HE3.out,HE4.out,HE5.out,hE6,Ex.Res.bind],rfl,HK5.out.trans hK6.undrew⟩⟩;have hQ3:=HQ5.out.kp hK6.undrew (by omega) (by omega);have HE6:=Lib.hid hE6;clear hE6)
   | (go_at_call 186;refine (add_any c X _ s6 [116,114,121] t.at_ x4 [a2,a6] (some ⟨w6.heap.size,0,none⟩) 2 _ (hR6.below ((Below.refl _ w6).alloc (Nat.le_refl _) _)) (ints_at2 w6 a2 a6 _) (fun e=>by cases e) (by simp)).mono ?_;rintro e w7 (⟨a7,s7,hE7,rfl,hR7,hK7⟩ | ⟨cd,p7,hE7,rfl,hK7⟩);rotate_left;exact ⟨rfl,.inr ⟨cd,p7,by simp only [Ex.guardF,Ex.at_,HTK.out,HE2.out,HE3.out,HE4.out,HE5.out,HE6.out,hE7,Ex.Res.bind],rfl,(HK5.out.trans hK6.undrew).trans (Below.then_kp ((Below.refl _ w6).alloc (Nat.le_refl _) _) hK7)⟩⟩;have hQ4:=(hQ3.alloc (.cells #[.int .i64 (a2:Int),.int .i64 (a6:Int)] 3)).kp hK7 (by omega) (by omega);have HE7:=Lib.hid hE7;clear hE7))
 have HK7:=Lib.hid ((HK5.out.trans hK6.undrew).trans (Below.then_kp ((Below.refl _ w6).alloc (Nat.le_refl _) _) hK7));have HR7:=Lib.hid hR7;clear hQ3 hQ4 hR6 hR7 hK6 hK7 q0 q1
 go_wp2
 go_ret
 exact .inl ⟨_,_,by simp only [Ex.guardF,Ex.at_,HTK.out,HE2.out,HE3.out,HE4.out,HE5.out,HE6.out,HE7.out,Ex.Res.bind],rfl,HR7.out,HK7.out⟩
theorem release_any (c:Cx)(X:Nat->Prop)(w:World)(s:Ex.S)(f:Ex.Rec)(d:Nat)(hf:Spec c f)(hd:d<=64)(h:Rd c X w s)(hp:s.p<c.ts.length)(hne:Ex.releaseF c.ts f d s ≠ .out):
  Calls Tryz.prog 235 #[.pointer (some ⟨c.r,0,none⟩),.int .i64 (d:Int)] w (Post c X w (Ex.releaseF c.ts f d s)):=by
 have hA:=skip_any c X w s h hp;obtain ⟨t,htk⟩:∃ t,Ex.tk c.ts s.p=t:=⟨_,rfl⟩;rw [htk] at hA;have hr1:=h.rlt;have hb1:=h.blt;have hsz:=h.size;have HA:=Lib.hid hA;have HF:=Lib.hid hf;have HNE:=Lib.hid hne;have HTK:=Lib.hid htk;clear hA hf hne h htk
 go_enter Tryz.func235,Tryz.ntmps235
 go_wp2_with fail
 refine HA.out.mono ?_;rintro e w1 ⟨rfl,hR1,hK1⟩;obtain ⟨V,hV⟩:∃ V,w1.alloc (.cells #[.int .i64 t.at_.line,.int .i64 t.at_.col] 41)=V:=⟨_,rfl⟩;have hbV:Below w1.heap.size w1 V:=by rw [<- hV];exact (Below.refl _ w1).alloc (Nat.le_refl _) _
 have hQ:PosAt V w1.heap.size t.at_:=⟨by rw [<- hV];exact blk_new w1 _⟩;have hs1:=hK1.size;have HV:=Lib.hid hV;have HR1:=Lib.hid (hR1.below hbV);have HK1:=Lib.hid (hK1.then_below hbV);have HQ1:=Lib.hid hQ;clear hV hR1 hbV hK1 hQ HA;unfold tval
 go_wp2_with fail
 rw [HV.out];refine (needName_any c X _ s.skip HR1.out).mono ?_;rintro e w2 (⟨x2,s2,hE2,rfl,hR2,hK2⟩ | ⟨cd,p2,hE2,rfl,hK2⟩)
 rotate_left
 ·exact ⟨rfl,.inr ⟨cd,p2,by simp only [Ex.releaseF,Ex.at_,HTK.out,hE2,Ex.Res.bind],rfl,HK1.out.trans hK2⟩⟩
 have HE2:=Lib.hid hE2;have HR2:=Lib.hid hR2;have HK2:=Lib.hid (HK1.out.trans hK2);have HQ2:=Lib.hid (HQ1.out.kp hK2 (by omega) (by omega));clear hE2 hR2 hK2;unfold strV
 go_wp2_with fail
 refine (take_any c X _ s2 [40] _ (HR2.out.below ((Below.refl _ w2).alloc (Nat.le_refl _) _)) (by rw [World.cell?_alloc_new];rfl)).mono ?_;rintro e w3 (⟨s3,hE3,rfl,hR3,hK3⟩ | ⟨cd,p3,hE3,rfl,hK3⟩)
 rotate_left
 ·go_wp2_with fail
  refine (need_bad cd p3 _).mono ?_;rintro e w3b ⟨rfl,rfl⟩;exact ⟨rfl,.inr ⟨cd,p3,by simp only [Ex.releaseF,Ex.at_,HTK.out,HE2.out,hE3,Ex.Res.bind],rfl,HK2.out.trans (Below.then_kp ((Below.refl _ w2).alloc (Nat.le_refl _) _) hK3)⟩⟩
 have HE3:=Lib.hid hE3;have HR3:=Lib.hid hR3;have HK3:=Lib.hid (HK2.out.trans (Below.then_kp ((Below.refl _ w2).alloc (Nat.le_refl _) _) hK3));have HQ3:=Lib.hid ((HQ2.out.below ((Below.refl _ w2).alloc (Nat.le_refl _) _)).kp hK3 (by omega) (by omega));clear hE3 hR3 hK3
 go_wp2_with fail
 refine (need_ok _).mono ?_;rintro e w3b ⟨rfl,rfl⟩
 go_wp2_with fail
 refine (HF.out.all d s3 X _ hd HR3.out (fun e=>HNE.out (by simp only [Ex.releaseF,Ex.at_,HTK.out,HE2.out,HE3.out,e,Ex.Res.bind]))).mono ?_;rintro e w4 (⟨a4,s4,hE4,rfl,hR4,hK4⟩ | ⟨cd,p4,hE4,rfl,hK4⟩)
 rotate_left
 ·exact ⟨rfl,.inr ⟨cd,p4,by simp only [Ex.releaseF,Ex.at_,HTK.out,HE2.out,HE3.out,hE4,Ex.Res.bind],rfl,HK3.out.trans hK4⟩⟩
 have HE4:=Lib.hid hE4;have HR4:=Lib.hid hR4;have HK4:=Lib.hid (HK3.out.trans hK4);have HQ4:=Lib.hid (HQ3.out.kp hK4 (by omega) (by omega));clear hE4 hR4 hK4
 go_wp2_with fail
 refine (take_any c X _ s4 [41] _ (HR4.out.below ((Below.refl _ w4).alloc (Nat.le_refl _) _)) (by rw [World.cell?_alloc_new];rfl)).mono ?_;rintro e w5 (⟨s5,hE5,rfl,hR5,hK5⟩ | ⟨cd,p5,hE5,rfl,hK5⟩)
 rotate_left
 ·go_wp2_with fail
  refine (need_bad cd p5 _).mono ?_;rintro e w5b ⟨rfl,rfl⟩;exact ⟨rfl,.inr ⟨cd,p5,by simp only [Ex.releaseF,Ex.at_,HTK.out,HE2.out,HE3.out,HE4.out,hE5,Ex.Res.bind],rfl,HK4.out.trans (Below.then_kp ((Below.refl _ w4).alloc (Nat.le_refl _) _) hK5)⟩⟩
 have HE5:=Lib.hid hE5;have HR5:=Lib.hid hR5;have HK5:=Lib.hid (HK4.out.trans (Below.then_kp ((Below.refl _ w4).alloc (Nat.le_refl _) _) hK5));have HQ5:=Lib.hid ((HQ4.out.below ((Below.refl _ w4).alloc (Nat.le_refl _) _)).kp hK5 (by omega) (by omega));clear hE5 hR5 hK5
 go_wp2_with fail
 refine (need_ok _).mono ?_;rintro e w5b ⟨rfl,rfl⟩;have q0:=HQ5.out.c0;have q1:=HQ5.out.c1
 go_wp2_with fail
 refine (add_any c X _ s5 [114,101,108,101,97,115,101] t.at_ x2 [a4] (some ⟨w5.heap.size,0,none⟩) 1 _ (HR5.out.below ((Below.refl _ w5).alloc (Nat.le_refl _) _)) (ints_at1 w5 a4 _) (fun e=>by cases e) (by simp)).mono ?_;rintro e w6 (⟨a6,s6,hE6,rfl,hR6,hK6⟩ | ⟨cd,p6,hE6,rfl,hK6⟩)
 rotate_left
 ·exact ⟨rfl,.inr ⟨cd,p6,by simp only [Ex.releaseF,Ex.at_,HTK.out,HE2.out,HE3.out,HE4.out,HE5.out,hE6,Ex.Res.bind],rfl,HK5.out.trans (Below.then_kp ((Below.refl _ w5).alloc (Nat.le_refl _) _) hK6)⟩⟩
 have HE6:=Lib.hid hE6;have HR6:=Lib.hid hR6;have HK6:=Lib.hid (HK5.out.trans (Below.then_kp ((Below.refl _ w5).alloc (Nat.le_refl _) _) hK6));clear hE6 hR6 hK6 q0 q1
 go_wp2
 go_ret
 exact .inl ⟨_,_,by simp only [Ex.releaseF,Ex.at_,HTK.out,HE2.out,HE3.out,HE4.out,HE5.out,HE6.out,Ex.Res.bind],rfl,HR6.out,HK6.out⟩
theorem brackets_any (c:Cx)(X:Nat->Prop)(w:World)(s:Ex.S)(f:Ex.Rec)(d:Nat)(hf:Spec c f)(hd:d<=64)(h:Rd c X w s)(hp:s.p<c.ts.length)(hne:Ex.bracketsF c.ts f d s ≠ .out):
  Calls Tryz.prog 236 #[.pointer (some ⟨c.r,0,none⟩),.int .i64 (d:Int)] w (Post c X w (Ex.bracketsF c.ts f d s)):=by
 have hA:=skip_any c X w s h hp;obtain ⟨t,htk⟩:∃ t,Ex.tk c.ts s.p=t:=⟨_,rfl⟩;rw [htk] at hA;have hr1:=h.rlt;have hb1:=h.blt;have hsz:=h.size;have HA:=Lib.hid hA;have HF:=Lib.hid hf;have HNE:=Lib.hid hne;have HTK:=Lib.hid htk;clear hA hf hne h htk
 go_enter Tryz.func236,Tryz.ntmps236
 go_wp2_with fail
 refine HA.out.mono ?_;rintro e w1 ⟨rfl,hR1,hK1⟩;obtain ⟨V,hV⟩:∃ V,w1.alloc (.cells #[.int .i64 t.at_.line,.int .i64 t.at_.col] 41)=V:=⟨_,rfl⟩;have hbV:Below w1.heap.size w1 V:=by rw [<- hV];exact (Below.refl _ w1).alloc (Nat.le_refl _) _
 have hQ:PosAt V w1.heap.size t.at_:=⟨by rw [<- hV];exact blk_new w1 _⟩;have hs1:=hK1.size;have HV:=Lib.hid hV;have HR1:=Lib.hid (hR1.below hbV);have HK1:=Lib.hid (hK1.then_below hbV);have HQ1:=Lib.hid hQ;clear hV hR1 hbV hK1 hQ HA;unfold tval;have hi:=is_any c X V s.skip [41] HR1.out
 cases hv:Ex.is c.ts s.skip [41] with
 | true =>
  rw [hv] at hi;have HI:=Lib.hid hi;have HE2:=Lib.hid hv;clear hi hv
  go_wp2_with fail
  rw [HV.out];refine HI.out.mono ?_;rintro e w2 ⟨rfl,hb2⟩;have HR2:=Lib.hid (HR1.out.below hb2);have HK2:=Lib.hid (HK1.out.then_below hb2);have HQ2:=Lib.hid (HQ1.out.below hb2);clear hb2 HI
  go_wp2_with fail
  refine (skip_any c X _ s.skip HR2.out (Ex.is_lt HE2.out)).mono ?_;rintro e w3 ⟨rfl,hR3,hK3⟩;have HR3:=Lib.hid hR3;have HK3:=Lib.hid (HK2.out.trans hK3);have HQ3:=Lib.hid (HQ2.out.kp hK3 (by omega) (by omega));clear hR3 hK3;have q0:=HQ3.out.c0;have q1:=HQ3.out.c1
  go_wp2_with fail
  refine (add_any c X _ s.skip.skip [117,110,105,116] t.at_ [] [] none 0 _ HR3.out (ints_at0 _ 0) (fun _=>rfl) (by simp)).mono ?_;rintro e w4 (⟨a4,s4,hE4,rfl,hR4,hK4⟩ | ⟨cd,p4,hE4,rfl,hK4⟩)
  rotate_left
  ·exact ⟨rfl,.inr ⟨cd,p4,by simp only [Ex.bracketsF,Ex.at_,HTK.out,HE2.out,hE4,Ex.Res.bind,↓reduceIte,Bool.false_eq_true],rfl,HK3.out.trans hK4⟩⟩
  have HE4:=Lib.hid hE4;have HR4:=Lib.hid hR4;have HK4:=Lib.hid (HK3.out.trans hK4);clear hE4 hR4 hK4 q0 q1
  go_wp2
  go_ret
  exact .inl ⟨_,_,by simp only [Ex.bracketsF,Ex.at_,HTK.out,HE2.out,HE4.out,Ex.Res.bind,↓reduceIte,Bool.false_eq_true],rfl,HR4.out,HK4.out⟩
 | false =>
  rw [hv] at hi;have HI:=Lib.hid hi;have HE2:=Lib.hid hv;clear hi hv
  go_wp2_with fail
  rw [HV.out];refine HI.out.mono ?_;rintro e w2 ⟨rfl,hb2⟩;have HR2:=Lib.hid (HR1.out.below hb2);have HK2:=Lib.hid (HK1.out.then_below hb2);have HQ2:=Lib.hid (HQ1.out.below hb2);clear hb2 HI
  go_wp2_with fail
  refine (HF.out.all d s.skip X _ hd HR2.out (fun e=>HNE.out (by simp only [Ex.bracketsF,Ex.at_,HTK.out,HE2.out,e,Ex.Res.bind,↓reduceIte,Bool.false_eq_true]))).mono ?_;rintro e w5 (⟨a5,s5,hE5,rfl,hR5,hK5⟩ | ⟨cd,p5,hE5,rfl,hK5⟩)
  rotate_left
  ·exact ⟨rfl,.inr ⟨cd,p5,by simp only [Ex.bracketsF,Ex.at_,HTK.out,HE2.out,hE5,Ex.Res.bind,↓reduceIte,Bool.false_eq_true],rfl,HK2.out.trans hK5⟩⟩
  have HE5:=Lib.hid hE5;have HR5:=Lib.hid hR5;have HK5:=Lib.hid (HK2.out.trans hK5);have HQ5:=Lib.hid (HQ2.out.kp hK5 (by omega) (by omega));clear hE5 hR5 hK5;have hi:=is_any c X w5 s5 [44] HR5.out
  cases hv:Ex.is c.ts s5 [44] with
  | true =>
   rw [hv] at hi;have HI:=Lib.hid hi;have HE6:=Lib.hid hv;clear hi hv
   go_wp2_with fail
   refine HI.out.mono ?_;rintro e w6 ⟨rfl,hb6⟩;have HR6:=Lib.hid (HR5.out.below hb6);have HK6:=Lib.hid (HK5.out.then_below hb6);have HQ6:=Lib.hid (HQ5.out.below hb6);clear hb6 HI
   go_wp2_with fail
   refine (skip_any c X _ s5 HR6.out (Ex.is_lt HE6.out)).mono ?_;rintro e w7 ⟨rfl,hR7,hK7⟩;have HR7:=Lib.hid hR7;have HK7:=Lib.hid (HK6.out.trans hK7);have HQ7:=Lib.hid (HQ6.out.kp hK7 (by omega) (by omega));clear hR7 hK7
   go_wp2_with fail
   refine (HF.out.all d s5.skip X _ hd HR7.out (fun e=>HNE.out (by simp only [Ex.bracketsF,Ex.at_,HTK.out,HE2.out,HE5.out,HE6.out,e,Ex.Res.bind,↓reduceIte,Bool.false_eq_true]))).mono ?_;rintro e w8 (⟨a8,s8,hE8,rfl,hR8,hK8⟩ | ⟨cd,p8,hE8,rfl,hK8⟩)
   rotate_left
   ·exact ⟨rfl,.inr ⟨cd,p8,by simp only [Ex.bracketsF,Ex.at_,HTK.out,HE2.out,HE5.out,HE6.out,hE8,Ex.Res.bind,↓reduceIte,Bool.false_eq_true],rfl,HK7.out.trans hK8⟩⟩
   have HE8:=Lib.hid hE8;have HR8:=Lib.hid hR8;have HK8:=Lib.hid (HK7.out.trans hK8);have HQ8:=Lib.hid (HQ7.out.kp hK8 (by omega) (by omega));clear hE8 hR8 hK8
   go_wp2_with fail
   refine (take_any c X _ s8 [41] _ (HR8.out.below ((Below.refl _ w8).alloc (Nat.le_refl _) _)) (by rw [World.cell?_alloc_new];rfl)).mono ?_;rintro e w9 (⟨s9,hE9,rfl,hR9,hK9⟩ | ⟨cd,p9,hE9,rfl,hK9⟩)
   rotate_left
   ·go_wp2_with fail
    refine (need_bad cd p9 _).mono ?_;rintro e w9b ⟨rfl,rfl⟩;exact ⟨rfl,.inr ⟨cd,p9,by simp only [Ex.bracketsF,Ex.at_,HTK.out,HE2.out,HE5.out,HE6.out,HE8.out,hE9,Ex.Res.bind,↓reduceIte,Bool.false_eq_true],rfl,HK8.out.trans (Below.then_kp ((Below.refl _ w8).alloc (Nat.le_refl _) _) hK9)⟩⟩
   have HE9:=Lib.hid hE9;have HR9:=Lib.hid hR9;have HK9:=Lib.hid (HK8.out.trans (Below.then_kp ((Below.refl _ w8).alloc (Nat.le_refl _) _) hK9));have HQ9:=Lib.hid ((HQ8.out.below ((Below.refl _ w8).alloc (Nat.le_refl _) _)).kp hK9 (by omega) (by omega));clear hE9 hR9 hK9
   go_wp2_with fail
   refine (need_ok _).mono ?_;rintro e w9b ⟨rfl,rfl⟩;have q0:=HQ9.out.c0;have q1:=HQ9.out.c1
   go_wp2_with fail
   refine (add_any c X _ s9 [112,97,105,114] t.at_ [] [a5,a8] (some ⟨w9.heap.size,0,none⟩) 2 _ (HR9.out.below ((Below.refl _ w9).alloc (Nat.le_refl _) _)) (ints_at2 w9 a5 a8 _) (fun e=>by cases e) (by simp)).mono ?_;rintro e w10 (⟨a10,s10,hE10,rfl,hR10,hK10⟩ | ⟨cd,p10,hE10,rfl,hK10⟩)
   rotate_left
   ·exact ⟨rfl,.inr ⟨cd,p10,by simp only [Ex.bracketsF,Ex.at_,HTK.out,HE2.out,HE5.out,HE6.out,HE8.out,HE9.out,hE10,Ex.Res.bind,↓reduceIte,Bool.false_eq_true],rfl,HK9.out.trans (Below.then_kp ((Below.refl _ w9).alloc (Nat.le_refl _) _) hK10)⟩⟩
   have HE10:=Lib.hid hE10;have HR10:=Lib.hid hR10;have HK10:=Lib.hid (HK9.out.trans (Below.then_kp ((Below.refl _ w9).alloc (Nat.le_refl _) _) hK10));clear hE10 hR10 hK10 q0 q1
   go_wp2
   go_ret
   exact .inl ⟨_,_,by simp only [Ex.bracketsF,Ex.at_,HTK.out,HE2.out,HE5.out,HE6.out,HE8.out,HE9.out,HE10.out,Ex.Res.bind,↓reduceIte,Bool.false_eq_true],rfl,HR10.out,HK10.out⟩
  | false =>
   rw [hv] at hi;have HI:=Lib.hid hi;have HE6:=Lib.hid hv;clear hi hv
   go_wp2_with fail
   refine HI.out.mono ?_;rintro e w6 ⟨rfl,hb6⟩;have HR6:=Lib.hid (HR5.out.below hb6);have HK6:=Lib.hid (HK5.out.then_below hb6);have HQ6:=Lib.hid (HQ5.out.below hb6);clear hb6 HI
   go_wp2_with fail
   refine (take_any c X _ s5 [41] _ (HR6.out.below ((Below.refl _ w6).alloc (Nat.le_refl _) _)) (by rw [World.cell?_alloc_new];rfl)).mono ?_;rintro e w11 (⟨s11,hE11,rfl,hR11,hK11⟩ | ⟨cd,p11,hE11,rfl,hK11⟩)
   rotate_left
   ·go_wp2_with fail
    refine (need_bad cd p11 _).mono ?_;rintro e w11b ⟨rfl,rfl⟩;exact ⟨rfl,.inr ⟨cd,p11,by simp only [Ex.bracketsF,Ex.at_,HTK.out,HE2.out,HE5.out,HE6.out,hE11,Ex.Res.bind,↓reduceIte,Bool.false_eq_true],rfl,HK6.out.trans (Below.then_kp ((Below.refl _ w6).alloc (Nat.le_refl _) _) hK11)⟩⟩
   have HE11:=Lib.hid hE11;have HR11:=Lib.hid hR11;have HK11:=Lib.hid (HK6.out.trans (Below.then_kp ((Below.refl _ w6).alloc (Nat.le_refl _) _) hK11));have HQ11:=Lib.hid ((HQ6.out.below ((Below.refl _ w6).alloc (Nat.le_refl _) _)).kp hK11 (by omega) (by omega));clear hE11 hR11 hK11
   go_wp2_with fail
   refine (need_ok _).mono ?_;rintro e w11b ⟨rfl,rfl⟩
   go_wp2
   go_ret
   exact .inl ⟨_,_,by simp only [Ex.bracketsF,Ex.at_,HTK.out,HE2.out,HE5.out,HE6.out,HE11.out,Ex.Res.bind,↓reduceIte,Bool.false_eq_true],rfl,HR11.out,HK11.out⟩
end Go.Proofs.YtdfpkmfeldoamaaGreatDoor
