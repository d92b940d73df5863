/- A part of the proof: A part of the proof. -/
import Derived.Test.YtninlbknklbofaaGreatDoorAhead
import Derived.Deep.Light
import Derived.Deep.DeepCutAuto
import Derived.Test.YtninlbknklbofaaGreatDoorTAdd
import Derived.Deep.RegionHeld2
set_option linter.unusedSimpArgs false
set_option linter.unusedVariables false
set_option maxRecDepth 100000
set_option maxHeartbeats 4000000
namespace Go.Proofs.YtninlbknklbofaaGreatDoor
section
open Go.RowKit Tn Lx
theorem tok_field0 (a b c d e:Value)(w:World):(Instr.field 78 (.agg #[a,b,c,d,e]) 0).run Tryz.prog w = .ok a w:=by kernel_rfl
theorem tok_field1 (a b c d e:Value)(w:World):(Instr.field 78 (.agg #[a,b,c,d,e]) 1).run Tryz.prog w = .ok b w:=by kernel_rfl
theorem tok_field3 (a b c d e:Value)(w:World):(Instr.field 78 (.agg #[a,b,c,d,e]) 3).run Tryz.prog w = .ok (.agg #[d,e]) w:=by kernel_rfl
attribute [local go_sem] tok_field0 tok_field1 tok_field3
theorem mark_any (t:Tok)(m:B)(w:World):Calls Tryz.prog 102 #[tval t,.string ⟨m.toArray⟩] w fun e w'=>e = .returned (.bool (Ex.isT t m))/\Below w.heap.size w w':=by
 have hb:∀ o,Below w.heap.size w (w.alloc o):=fun o=>(Below.refl _ w).alloc (Nat.le_refl _) o;have HB:=Lib.hid hb;clear hb;unfold tval
 go_enter Tryz.func102,Tryz.ntmps102
 go_wp2
 all_goals
  go_ret
  exact ⟨ret_bool (by simp [Ex.isT, *]),HB.out _⟩
theorem begins_any (t:Tok)(w:World):Calls Tryz.prog 68 #[tval t] w fun e w'=>e = .returned (.bool (Ex.begins t))/\Below w.heap.size w w':=by
 have hb:∀ o,Below w.heap.size w (w.alloc o):=fun o=>(Below.refl _ w).alloc (Nat.le_refl _) o;have HB:=Lib.hid hb;clear hb;unfold tval
 go_enter Tryz.func68,Tryz.ntmps68
 go_wp2
 all_goals
  go_ret
  refine ⟨ret_bool ?_,HB.out _⟩;clear HB
  go_light
  simp_all [Ex.begins]
theorem next_any (c:Cx)(X:Nat->Prop)(w:World)(s:Ex.S)(h:Rd c X w s):Calls Tryz.prog 25 #[.pointer (some ⟨c.r,0,none⟩)] w (AheadP w (Ex.tk c.ts s.p)):=by
 obtain ⟨W,hW⟩:∃ W,w.alloc (.cells #[.int .i64 0,.string ⟨#[]⟩,.int .i64 0,.int .i64 0,.int .i64 0] 78)=W:=⟨_,rfl⟩;have hb:Below w.heap.size w W:=by rw [<- hW];exact (Below.refl _ w).alloc (Nat.le_refl _) _
 have hz:Five W w.heap.size (.int .i64 0) (.string ⟨#[]⟩) (.int .i64 0) (.int .i64 0) (.int .i64 0):=⟨by rw [<- hW];exact blk_new w _⟩;have hA:=ahead0_any c X W s (h.below hb);generalize Ex.tk c.ts s.p=t at *;have HA:=Lib.hid hA;have HW:=Lib.hid hW;have HB:=Lib.hid hb;have HZ:=Lib.hid hz;clear hW hb hz h hA
 go_enter Tryz.func25,Tryz.ntmps25
 go_wp2_with fail
 rw [HW.out];refine HA.out.mono ?_;rintro e w1 ⟨rfl,hb1⟩;have HF1:=Lib.hid (HZ.out.below hb1);have HB2:=Lib.hid (HB.out.trans (hb1.mono HB.out.size));have z0:=HF1.out.c0;have z1:=HF1.out.c1;have z2:=HF1.out.c2;have z3:=HF1.out.c3;have z4:=HF1.out.c4;have zf:=HF1.out.fz;clear hb1;unfold tval
 go_wp2
 have T:=HF1.out.store (.int .i64 t.kind) (.string ⟨t.text.toArray⟩) (.int .i64 t.int) (.int .i64 t.at_.line) (.int .i64 t.at_.col);exact bodyPost_ret (v:=tval t) (by simp [results,Tryz.results25,go_sem,T.c0,T.c1,T.c2,T.c3,T.c4,tval]) rfl ⟨rfl,below_five HB2.out (Nat.le_refl _) _ _ _ _ _⟩
theorem is_any (c:Cx)(X:Nat->Prop)(w:World)(s:Ex.S)(m:B)(h:Rd c X w s):Calls Tryz.prog 67 #[.pointer (some ⟨c.r,0,none⟩),.string ⟨m.toArray⟩] w fun e w'=>e = .returned (.bool (Ex.is c.ts s m))/\Below w.heap.size w w':=by
 have HR:=Lib.hid h;clear h
 go_enter Tryz.func67,Tryz.ntmps67
 go_wp2_with fail
 refine (next_any c X _ s HR.out).mono ?_;rintro e w1 ⟨rfl,hb1⟩
 go_wp2_with fail
 refine (mark_any (Ex.tk c.ts s.p) m _).mono ?_;rintro e w2 ⟨rfl,hb2⟩
 go_wp2
 go_ret
 exact ⟨rfl,hb1.trans (hb2.mono hb1.size)⟩
def dval (cd:Int)(p:Pos):Value := .iface 67 (.agg #[.int .i64 cd,.int .i64 p.line,.int .i64 p.col,.string ⟨#[]⟩])
theorem wrong_at (c:Cx)(X:Nat->Prop)(w:World)(s:Ex.S)(cd:Int)(h:Rd c X w s):Calls Tryz.prog 26 #[.pointer (some ⟨c.r,0,none⟩),.int .i64 cd] w fun e w'=>e = .returned (dval cd (Ex.at_ c.ts s))/\Below w.heap.size w w':=by
 have HR:=Lib.hid h;clear h
 go_enter Tryz.func26,Tryz.ntmps26
 go_wp2_with fail
 refine (next_any c X _ s HR.out).mono ?_;rintro e w1 ⟨rfl,hb1⟩;unfold tval
 go_wp2
 go_ret
 exact ⟨rfl,hb1⟩
def SkipP (c:Cx)(X:Nat->Prop)(w:World)(s:Ex.S)(t:Tok)(e:Ending)(w':World):Prop:=e = .returned (tval t)/\Rd c X w' s.skip/\Kp c w w'
theorem Five.but {w w':World}{b:Nat}{v0 v1 v2 v3 v4:Value}(h:Five w b v0 v1 v2 v3 v4){p:Nat->Prop}(hb:But p w w')(hp:¬ p b):Five w' b v0 v1 v2 v3 v4:=⟨hb.heap h.blk hp⟩
theorem Five.kp {c:Cx}{w w':World}{b:Nat}{v0 v1 v2 v3 v4:Value}(h:Five w b v0 v1 v2 v3 v4)(hk:Kp c w w')(h1:b≠c.r)(h2:b≠c.bt):Five w' b v0 v1 v2 v3 v4:=⟨hk.heap h.blk h1 h2 (fun e=>absurd e (by decide))⟩
theorem but_five (w:World)(b:Nat)(u0 u1 u2 u3 u4:Value):But (fun k=>k=b) w (((((w.setCell ⟨b,0,none⟩ u0).setCell ⟨b,1,none⟩ u1).setCell ⟨b,2,none⟩ u2).setCell ⟨b,3,none⟩ u3).setCell ⟨b,4,none⟩ u4) :=
 ((((But.setCell (p:=fun k=>k=b) w rfl 0 u0).trans (But.setCell (p:=fun k=>k=b) _ rfl 1 u1)).trans (But.setCell (p:=fun k=>k=b) _ rfl 2 u2)).trans (But.setCell (p:=fun k=>k=b) _ rfl 3 u3)).trans (But.setCell (p:=fun k=>k=b) _ rfl 4 u4)
theorem Rd.five {c:Cx}{X:Nat->Prop}{w:World}{s:Ex.S}(h:Rd c X w s){b:Nat}{v0 v1 v2 v3 v4:Value}(hF:Five w b v0 v1 v2 v3 v4)(hb:c.B<=b)(u0 u1 u2 u3 u4:Value):
  Rd c X (((((w.setCell ⟨b,0,none⟩ u0).setCell ⟨b,1,none⟩ u1).setCell ⟨b,2,none⟩ u2).setCell ⟨b,3,none⟩ u3).setCell ⟨b,4,none⟩ u4) s :=
 h.but (but_five w b u0 u1 u2 u3 u4) (fun e=>by have:=h.rlt;omega) (fun e=>by have:=h.blt;omega) (fun e=>by have:=h.glt;omega) (fun k e => .inr (by subst e;exact ⟨_,_,_,hF.blk,by decide,by decide⟩))
theorem skip_any (c:Cx)(X:Nat->Prop)(w:World)(s:Ex.S)(h:Rd c X w s)(hp:s.p<c.ts.length):Calls Tryz.prog 69 #[.pointer (some ⟨c.r,0,none⟩)] w (SkipP c X w s (Ex.tk c.ts s.p)):=by
 obtain ⟨W,hW⟩:∃ W,w.alloc (.cells #[.int .i64 0,.string ⟨#[]⟩,.int .i64 0,.int .i64 0,.int .i64 0] 78)=W:=⟨_,rfl⟩;have hb:Below w.heap.size w W:=by rw [<- hW];exact (Below.refl _ w).alloc (Nat.le_refl _) _
 have hz:Five W w.heap.size (.int .i64 0) (.string ⟨#[]⟩) (.int .i64 0) (.int .i64 0) (.int .i64 0):=⟨by rw [<- hW];exact blk_new w _⟩;have hA:=next_any c X W s (h.below hb);generalize Ex.tk c.ts s.p=t at *;have HR:=Lib.hid (h.below hb);have HW:=Lib.hid hW;have HB:=Lib.hid hb;have HZ:=Lib.hid hz;have HA:=Lib.hid hA;have few:=h.few;have hlt:=h.lt;have hs:=h.size;have hr1:=h.rlt;have hb1:=h.blt;have hg1:=h.glt;clear hW hb hz h hA
 go_enter Tryz.func69,Tryz.ntmps69
 go_wp2_with fail
 rw [HW.out];refine HA.out.mono ?_;rintro e w1 ⟨rfl,hb1⟩;have hR1:=HR.out.below hb1;have hF1:=HZ.out.below hb1;have hB1:=HB.out.trans (hb1.mono HB.out.size);have hne:w.heap.size<w1.heap.size:=lt_of_heap hF1.blk;obtain ⟨V,hV⟩:∃ V,w1.alloc (.cells #[.int .i64 t.kind,.string ⟨t.text.toArray⟩,.int .i64 t.int,.int .i64 t.at_.line,.int .i64 t.at_.col] 78)=V:=⟨_,rfl⟩;have hbV:Below w1.heap.size w1 V:=by rw [<- hV];exact (Below.refl _ w1).alloc (Nat.le_refl _) _
 have hG:Five V w1.heap.size (.int .i64 t.kind) (.string ⟨t.text.toArray⟩) (.int .i64 t.int) (.int .i64 t.at_.line) (.int .i64 t.at_.col):=⟨by rw [<- hV];exact blk_new w1 _⟩;have hR2:=hR1.below hbV;have hF2:=hF1.below hbV;have hB2:=hB1.trans (hbV.mono hB1.size);have HR2:=Lib.hid hR2;have HF2:=Lib.hid hF2;have HB2:=Lib.hid hB2;have HG:=Lib.hid hG;have HV:=Lib.hid hV;clear hb1 hR1 hF1 hB1 HR HB HZ HW hR2 hF2 hB2 hG hV hbV;unfold tval
 go_upto_region 2 with fail
 rw [HV.out];have c2:=HR2.out.c2;have cf:=HR2.out.fz
 go_upto_region 3 with fail
 clear c2 cf;obtain ⟨V2,hV2⟩:∃ V2,V.setCell ⟨c.r,2,none⟩ (.int .i64 ((s.p:Int)+1))=V2:=⟨_,rfl⟩;obtain ⟨hR3,hK3⟩:=HR2.out.skip hp;rw [hV2] at hR3 hK3;have hG3:=HG.out.kp hK3 (by omega) (by omega);have hF3:=HF2.out.kp hK3 (by omega) (by omega);have hK4:=Below.then_kp HB2.out hK3;have HV2:=Lib.hid hV2;have HR3:=Lib.hid hR3;have HF3:=Lib.hid hF3;have HK4:=Lib.hid hK4;have HG3:=Lib.hid hG3;clear hV2 hR3 hK3 hG3 hF3 hK4 HR2 HF2 HB2 HG;rw [HV2.out];have z0:=HF3.out.c0;have z1:=HF3.out.c1;have z2:=HF3.out.c2;have z3:=HF3.out.c3;have z4:=HF3.out.c4;have zf:=HF3.out.fz;have y0:=HG3.out.c0;have y1:=HG3.out.c1;have y2:=HG3.out.c2;have y3:=HG3.out.c3;have y4:=HG3.out.c4
 go_wp2
 have T:=HF3.out.store (.int .i64 t.kind) (.string ⟨t.text.toArray⟩) (.int .i64 t.int) (.int .i64 t.at_.line) (.int .i64 t.at_.col);refine bodyPost_ret (v:=tval t) (by simp [results,Tryz.results69,go_sem,T.c0,T.c1,T.c2,T.c3,T.c4,tval]) rfl ⟨rfl, ?_, ?_⟩
 ·exact HR3.out.five HF3.out (by omega) _ _ _ _ _
 ·exact HK4.out.new (but_five _ _ _ _ _ _ _) (fun k e=>by omega)
end
section
open Go.RowKit Tn Lx
attribute [local go_sem] tok_field0 tok_field1 tok_field3
def PostV {α:Type}(enc:α->Value)(c:Cx)(X:Nat->Prop)(w:World)(R:Ex.Res α)(e:Ending)(w':World):Prop :=
 (∃ a s,R = .ok a s/\e = .returned (enc a)/\Rd c X w' s/\Kp c w w')\/(∃ cd p,R = .bad cd p/\e = .panicked [{ v:=dval cd p,recovered:=false }]/\Kp c w w')
def Post (c:Cx)(X:Nat->Prop)(w:World)(R:Ex.Res Nat)(e:Ending)(w':World):Prop:=PostV (fun i:Nat => .int .i64 (i:Int)) c X w R e w'
theorem need_ok (w:World):Calls Tryz.prog 103 #[.nilIface] w fun e w'=>e = .returned (.tuple #[])/\w=w':=by
 go_enter Tryz.func103,Tryz.ntmps103
 go_wp2
 go_end0
 exact ⟨rfl,rfl⟩
theorem need_bad (cd:Int)(p:Pos)(w:World):Calls Tryz.prog 103 #[dval cd p] w fun e w'=>e = .panicked [{ v:=dval cd p,recovered:=false }]/\w=w':=by
 unfold dval
 go_enter Tryz.func103,Tryz.ntmps103
 go_wp2
 exact ⟨rfl,rfl,rfl⟩
theorem enter_any (c:Cx)(X:Nat->Prop)(w:World)(s:Ex.S)(d:Nat)(h:Rd c X w s)(hd:d<=64):Calls Tryz.prog 95 #[.pointer (some ⟨c.r,0,none⟩),.int .i64 (d:Int)] w (PostV (fun i:Nat => .int .i64 (i:Int)) c X w (Ex.enter c.ts d s)):=by
 have HR:=Lib.hid h;clear h
 by_cases h64:64<=d
 ·have hR:Ex.enter c.ts d s = .bad 6 (Ex.at_ c.ts s):=by rw [Ex.enter,if_pos h64];rfl
  have HE:=Lib.hid hR;clear hR
  go_enter Tryz.func95,Tryz.ntmps95
  go_wp2_with fail
  refine (wrong_at c X _ s 6 HR.out).mono ?_;rintro e w1 ⟨rfl,hb1⟩;unfold dval
  go_wp2
  exact ⟨rfl,.inr ⟨_,_,HE.out,rfl,Kp.of_below hb1⟩⟩
 ·have hR:Ex.enter c.ts d s = .ok (d+1) s:=by rw [Ex.enter,if_neg h64]
  have HE:=Lib.hid hR;clear hR
  go_enter Tryz.func95,Tryz.ntmps95
  go_wp2
  go_ret
  exact .inl ⟨_,_,HE.out,rfl,HR.out,Kp.refl _ _⟩
end
section
open Go.RowKit Tn Lx
attribute [local go_sem] tok_field0 tok_field1 tok_field3
def OneP (c:Cx)(X:Nat->Prop)(w:World)(k:Int)(s:Ex.S)(t:Tok)(p:Pos)(e:Ending)(w':World):Prop :=
 (t.kind=k/\e = .returned (.tuple #[tval t,.nilIface])/\Rd c X w' s.skip/\Kp c w w')\/(t.kind≠k/\e = .returned (.tuple #[tval Ex.zt,dval 5 p])/\Rd c X w' s/\Kp c w w')
theorem one_any (c:Cx)(X:Nat->Prop)(w:World)(s:Ex.S)(k:Int)(h:Rd c X w s)(hk:k≠0):Calls Tryz.prog 141 #[.pointer (some ⟨c.r,0,none⟩),.int .i64 k] w (OneP c X w k s (Ex.tk c.ts s.p) (Ex.at_ c.ts s)):=by
 obtain ⟨W,hW⟩:∃ W,w.alloc (.cells #[.int .i64 0,.string ⟨#[]⟩,.int .i64 0,.int .i64 0,.int .i64 0] 78)=W:=⟨_,rfl⟩;have hb:Below w.heap.size w W:=by rw [<- hW];exact (Below.refl _ w).alloc (Nat.le_refl _) _
 have hz:Five W w.heap.size (.int .i64 0) (.string ⟨#[]⟩) (.int .i64 0) (.int .i64 0) (.int .i64 0):=⟨by rw [<- hW];exact blk_new w _⟩;have hR0:=h.below hb;have hA:=next_any c X W s hR0;have hS:=fun w1 (hR:Rd c X w1 s)=>wrong_at c X w1 s 5 hR;have hT:=fun w1 (hR:Rd c X w1 s) (hp:s.p<c.ts.length)=>skip_any c X w1 s hR hp;have hkl:(Ex.tk c.ts s.p).kind=k->s.p<c.ts.length:=fun e=>Ex.kind_lt (by rw [e];exact hk);have hlt:=h.lt;have hs:=h.size;have hr1:=h.rlt;have hb1:=h.blt;have hg1:=h.glt;generalize Ex.tk c.ts s.p=t at *;generalize Ex.at_ c.ts s=p at *;have HR:=Lib.hid hR0;have HW:=Lib.hid hW;have HB:=Lib.hid hb;have HZ:=Lib.hid hz;have HA:=Lib.hid hA;have HS:=Lib.hid hS;have HT:=Lib.hid hT;have HL:=Lib.hid hkl;clear hW hb hz h hA hS hT hkl hR0
 by_cases hk1:t.kind=k
 ·have hk2:(t.kind != k)=false:=by simp [hk1]
  have HK:=Lib.hid hk1;clear hk1
  go_enter Tryz.func141,Tryz.ntmps141
  go_wp2_with fail
  rw [HW.out];refine HA.out.mono ?_;rintro e w1 ⟨rfl,hb1⟩;have HR1:=Lib.hid (HR.out.below hb1);have HZ1:=Lib.hid (HZ.out.below hb1);have HB1:=Lib.hid (HB.out.trans (hb1.mono HB.out.size));clear hb1 HR HZ HB HW;unfold tval
  go_wp2_with fail
  refine (HT.out _ HR1.out (HL.out HK.out)).mono ?_;rintro e w2 ⟨rfl,hR2,hK2⟩;have HF:=Lib.hid (HZ1.out.kp hK2 (by omega) (by omega));have HR2:=Lib.hid hR2;have HK2:=Lib.hid (Below.then_kp HB1.out hK2);clear hR2 hK2 HR1 HZ1 HB1;unfold tval;have z0:=HF.out.c0;have z1:=HF.out.c1;have z2:=HF.out.c2;have z3:=HF.out.c3;have z4:=HF.out.c4;have zf:=HF.out.fz
  go_wp2
  have T:=HF.out.store (.int .i64 t.kind) (.string ⟨t.text.toArray⟩) (.int .i64 t.int) (.int .i64 t.at_.line) (.int .i64 t.at_.col);refine bodyPost_ret (v := .tuple #[tval t,.nilIface]) (by simp [results,Tryz.results141,go_sem,T.c0,T.c1,T.c2,T.c3,T.c4,tval]) rfl (.inl ⟨HK.out,rfl, ?_, ?_⟩)
  ·exact HR2.out.five HF.out (by omega) _ _ _ _ _
  ·exact HK2.out.new (but_five _ _ _ _ _ _ _) (fun k e=>by omega)
 ·have hk2:(t.kind != k)=true:=by simp [hk1]
  have HK:=Lib.hid hk1;clear hk1
  go_enter Tryz.func141,Tryz.ntmps141
  go_wp2_with fail
  rw [HW.out];refine HA.out.mono ?_;rintro e w1 ⟨rfl,hb1⟩;have HR1:=Lib.hid (HR.out.below hb1);have HZ1:=Lib.hid (HZ.out.below hb1);have HB1:=Lib.hid (HB.out.trans (hb1.mono HB.out.size));clear hb1 HR HZ HB HW;unfold tval
  go_wp2_with fail
  refine (HS.out _ HR1.out).mono ?_;rintro e w2 ⟨rfl,hb2⟩;have HF:=Lib.hid (HZ1.out.below hb2);have HR2:=Lib.hid (HR1.out.below hb2);have HK2:=Lib.hid (Kp.of_below (c:=c) (HB1.out.trans (hb2.mono HB1.out.size)));clear hb2 HR1 HZ1 HB1;have z0:=HF.out.c0;have z1:=HF.out.c1;have z2:=HF.out.c2;have z3:=HF.out.c3;have z4:=HF.out.c4;have zf:=HF.out.fz;obtain ⟨D,hD⟩:∃ D,dval 5 p=D:=⟨_,rfl⟩;rw [hD];have HD:=Lib.hid hD;clear hD
  go_wp2
  have T:=HF.out.store (.int .i64 0) (.string ⟨#[]⟩) (.int .i64 0) (.int .i64 0) (.int .i64 0);refine bodyPost_ret (v := .tuple #[tval Ex.zt,D]) (by simp [results,Tryz.results141,go_sem,T.c0,T.c1,T.c2,T.c3,T.c4,tval,Ex.zt]) rfl (.inr ⟨HK.out,by rw [HD.out], ?_, ?_⟩)
  ·exact HR2.out.five HF.out (by omega) _ _ _ _ _
  ·exact HK2.out.new (but_five _ _ _ _ _ _ _) (fun k e=>by omega)
theorem name_any (c:Cx)(X:Nat->Prop)(w:World)(s:Ex.S)(h:Rd c X w s):Calls Tryz.prog 126 #[.pointer (some ⟨c.r,0,none⟩)] w (OneP c X w 1 s (Ex.tk c.ts s.p) (Ex.at_ c.ts s)):=by
 obtain ⟨W,hW⟩:∃ W,w.alloc (.cells #[.int .i64 0,.string ⟨#[]⟩,.int .i64 0,.int .i64 0,.int .i64 0] 78)=W:=⟨_,rfl⟩;have hb:Below w.heap.size w W:=by rw [<- hW];exact (Below.refl _ w).alloc (Nat.le_refl _) _
 have hz:Five W w.heap.size (.int .i64 0) (.string ⟨#[]⟩) (.int .i64 0) (.int .i64 0) (.int .i64 0):=⟨by rw [<- hW];exact blk_new w _⟩;have hA:=one_any c X W s 1 (h.below hb) (by decide);have hlt:=h.lt;have hs:=h.size;have hr1:=h.rlt;have hb1:=h.blt;have hg1:=h.glt;generalize Ex.tk c.ts s.p=t at *;generalize Ex.at_ c.ts s=p at *;have HW:=Lib.hid hW;have HB:=Lib.hid hb;have HZ:=Lib.hid hz;have HA:=Lib.hid hA;clear hW hb hz h hA
 go_enter Tryz.func126,Tryz.ntmps126
 go_wp2_with fail
 rw [HW.out];refine HA.out.mono ?_;rintro e w1 (⟨hk,rfl,hR1,hK1⟩ | ⟨hk,rfl,hR1,hK1⟩)
 ·have HF:=Lib.hid (HZ.out.kp hK1 (by omega) (by omega));have HR1:=Lib.hid hR1;have HK1:=Lib.hid (Below.then_kp HB.out hK1);have HK:=Lib.hid hk;clear hR1 hK1 HB HZ HW HA hk;unfold tval;have z0:=HF.out.c0;have z1:=HF.out.c1;have z2:=HF.out.c2;have z3:=HF.out.c3;have z4:=HF.out.c4;have zf:=HF.out.fz
  go_wp2
  have T:=HF.out.store (.int .i64 t.kind) (.string ⟨t.text.toArray⟩) (.int .i64 t.int) (.int .i64 t.at_.line) (.int .i64 t.at_.col);refine bodyPost_ret (v := .tuple #[tval t,.nilIface]) (by simp [results,Tryz.results126,go_sem,T.c0,T.c1,T.c2,T.c3,T.c4,tval]) rfl (.inl ⟨HK.out,rfl, ?_, ?_⟩)
  ·exact HR1.out.five HF.out (by omega) _ _ _ _ _
  ·exact HK1.out.new (but_five _ _ _ _ _ _ _) (fun k e=>by omega)
 ·have HF:=Lib.hid (HZ.out.kp hK1 (by omega) (by omega));have HR1:=Lib.hid hR1;have HK1:=Lib.hid (Below.then_kp HB.out hK1);have HK:=Lib.hid hk;clear hR1 hK1 HB HZ HW HA hk;unfold tval Ex.zt;have z0:=HF.out.c0;have z1:=HF.out.c1;have z2:=HF.out.c2;have z3:=HF.out.c3;have z4:=HF.out.c4;have zf:=HF.out.fz;obtain ⟨D,hD⟩:∃ D,dval 5 p=D:=⟨_,rfl⟩;rw [hD];have HD:=Lib.hid hD;clear hD
  go_wp2
  have T:=HF.out.store (.int .i64 0) (.string ⟨#[]⟩) (.int .i64 0) (.int .i64 0) (.int .i64 0);refine bodyPost_ret (v := .tuple #[tval Ex.zt,D]) (by simp [results,Tryz.results126,go_sem,T.c0,T.c1,T.c2,T.c3,T.c4,tval,Ex.zt]) rfl (.inr ⟨HK.out,by rw [HD.out], ?_, ?_⟩)
  ·exact HR1.out.five HF.out (by omega) _ _ _ _ _
  ·exact HK1.out.new (but_five _ _ _ _ _ _ _) (fun k e=>by omega)
def strV (b:B):Value := .string ⟨b.toArray⟩
theorem needName_any (c:Cx)(X:Nat->Prop)(w:World)(s:Ex.S)(h:Rd c X w s):Calls Tryz.prog 100 #[.pointer (some ⟨c.r,0,none⟩)] w (PostV strV c X w (Ex.name c.ts s)):=by
 have hA:=name_any c X w s h;have hE:Ex.name c.ts s=if ((Ex.tk c.ts s.p).kind==1)=true then .ok (Ex.tk c.ts s.p).text s.skip else .bad 5 (Ex.at_ c.ts s):=rfl
 generalize Ex.tk c.ts s.p=t at *;generalize Ex.at_ c.ts s=p at *;have HA:=Lib.hid hA;have HE0:=Lib.hid hE;clear hA hE h
 go_enter Tryz.func100,Tryz.ntmps100
 go_wp2_with fail
 refine HA.out.mono ?_;rintro e w1 (⟨hk,rfl,hR1,hK1⟩ | ⟨hk,rfl,hR1,hK1⟩)
 ·obtain ⟨V,hV⟩:∃ V,w1.alloc (.cells #[.int .i64 t.kind,.string ⟨t.text.toArray⟩,.int .i64 t.int,.int .i64 t.at_.line,.int .i64 t.at_.col] 78)=V:=⟨_,rfl⟩;have hbV:Below w1.heap.size w1 V:=by rw [<- hV];exact (Below.refl _ w1).alloc (Nat.le_refl _) _
  have hG:Five V w1.heap.size (.int .i64 t.kind) (.string ⟨t.text.toArray⟩) (.int .i64 t.int) (.int .i64 t.at_.line) (.int .i64 t.at_.col):=⟨by rw [<- hV];exact blk_new w1 _⟩;have hR:Ex.name c.ts s = .ok t.text s.skip:=by rw [HE0.out,if_pos (by simp [hk])]
  have HV:=Lib.hid hV;have HR1:=Lib.hid (hR1.below hbV);have HK1:=Lib.hid (hK1.then_below hbV);have HG:=Lib.hid hG;have HE:=Lib.hid hR;clear hV hR1 hK1 hG hbV hR hk HA;unfold tval
  go_wp2_with fail
  rw [HV.out];refine (need_ok _).mono ?_;rintro e w2 ⟨rfl,rfl⟩;have y1:=HG.out.c1
  go_wp2
  go_ret
  exact .inl ⟨_,_,HE.out,rfl,HR1.out,HK1.out⟩
 ·obtain ⟨V,hV⟩:∃ V,w1.alloc (.cells #[.int .i64 0,.string ⟨#[]⟩,.int .i64 0,.int .i64 0,.int .i64 0] 78)=V:=⟨_,rfl⟩;have hbV:Below w1.heap.size w1 V:=by rw [<- hV];exact (Below.refl _ w1).alloc (Nat.le_refl _) _
  have hR:Ex.name c.ts s = .bad 5 p:=by rw [HE0.out,if_neg (by simp [hk])]
  have HV:=Lib.hid hV;have HK1:=Lib.hid (hK1.then_below hbV);have HE:=Lib.hid hR;clear hV hR1 hK1 hbV hR hk HA;unfold tval Ex.zt
  go_wp2_with fail
  rw [HV.out];refine (need_bad 5 p _).mono ?_;rintro e w2 ⟨rfl,rfl⟩;exact ⟨rfl,.inr ⟨_,_,HE.out,rfl,HK1.out⟩⟩
def TakeP (c:Cx)(X:Nat->Prop)(w:World)(R:Ex.Res Unit)(e:Ending)(w':World):Prop :=
 (∃ s,R = .ok () s/\e = .returned .nilIface/\Rd c X w' s/\Kp c w w')\/(∃ cd p,R = .bad cd p/\e = .returned (dval cd p)/\Kp c w w')
theorem take_any (c:Cx)(X:Nat->Prop)(w:World)(s:Ex.S)(m:B)(b:Nat)(h:Rd c X w s)(hc:w.cell? ⟨b,0,none⟩=some (.string ⟨m.toArray⟩)):Calls Tryz.prog 104 #[.pointer (some ⟨c.r,0,none⟩),.slice (some ⟨b,0,none⟩) 1 1] w (TakeP c X w (Ex.take c.ts m s)):=by
 have hI:=is_any c X w s m h;have hS:=fun w1 (hR:Rd c X w1 s)=>wrong_at c X w1 s 5 hR;have hT:=fun w1 (hR:Rd c X w1 s) (hp:s.p<c.ts.length)=>skip_any c X w1 s hR hp
 by_cases hm:Ex.is c.ts s m=true
 ·rw [hm] at hI;have hE:Ex.take c.ts m s = .ok () s.skip:=by rw [Ex.take,if_pos hm]
  have hp:=Ex.is_lt hm;have HI:=Lib.hid hI;have HT:=Lib.hid hT;have HE:=Lib.hid hE;have HR:=Lib.hid h;clear hI hS hT hE h hm
  go_enter Tryz.func104,Tryz.ntmps104
  go_wp2_with fail
  refine wp_loop_rounds 2 ?_;rw [rounds_succ]
  go_wp2_with fail
  refine HI.out.mono ?_;rintro e w1 ⟨rfl,hb1⟩
  go_wp2_with fail
  refine (HT.out _ (HR.out.below hb1) hp).mono ?_;rintro e w2 ⟨rfl,hR2,hK2⟩;have HR2:=Lib.hid hR2;have HK2:=Lib.hid (Below.then_kp hb1 hK2);clear hb1 hR2 hK2
  go_wp2_with fail
  rw [rounds_succ]
  go_wp2
  go_ret
  exact .inl ⟨_,HE.out,rfl,HR2.out,HK2.out⟩
 ·have hm':Ex.is c.ts s m=false:=by simpa using hm
  rw [hm'] at hI;have hE:Ex.take c.ts m s = .bad 5 (Ex.at_ c.ts s):=by rw [Ex.take,if_neg hm];rfl
  have HI:=Lib.hid hI;have HS:=Lib.hid hS;have HE:=Lib.hid hE;have HR:=Lib.hid h;clear hI hS hT hE h hm hm'
  go_enter Tryz.func104,Tryz.ntmps104
  go_wp2_with fail
  refine wp_loop_rounds 1 ?_;rw [rounds_succ]
  go_wp2_with fail
  refine HI.out.mono ?_;rintro e w1 ⟨rfl,hb1⟩
  go_wp2_with fail
  refine (HS.out _ (HR.out.below hb1)).mono ?_;rintro e w2 ⟨rfl,hb2⟩;have HK2:=Lib.hid (Kp.of_below (c:=c) (hb1.trans (hb2.mono hb1.size)));clear hb1 hb2
  go_wp2
  go_ret
  exact .inr ⟨_,_,HE.out,rfl,HK2.out⟩
end
section
open Go.RowKit Tn Lx
theorem nds_append (l:List SN)(q:SN):nds (l++[q])=nds l++[q.n]:=by simp [nds]
theorem Rd.added {c:Cx}{X:Nat->Prop}{w w':World}{s:Ex.S}(h:Rd c X w s){v v':Value}{l:List SN}{q:SN}(e:nds l=s.ns)(ht:TreeOwn c.B w c.bt v l)(ho:Off X v l)(hl:l.length<4000)
  (ht':TreeOwn c.B w' c.bt v' (l++[q])) (hb:But (fun k=>k=c.bt\/some k=v.ownBlock) w w') (hv:v'.ownBlock=v.ownBlock\/∃ g,v'.ownBlock=some g/\w.heap.size<=g) (hk:∀ g,(Value.slice q.ka q.n.kids.length q.kc).ownBlock=some g->w.heap.size<=g):
  Rd c X w' ⟨s.p,s.ns++[q.n]⟩/\Kp c w w':=by
 have far:∀ k,k<c.B->k≠c.bt->¬ (k=c.bt\/some k=v.ownBlock):=fun k hk hne=>by
  rintro (e | e)
  ·exact hne e
  ·have:=(own_tag ht.own e.symm).1;omega
 refine ⟨⟨hb.heap h.blk (far _ h.rlt h.rb),fun i u hu=>(World.cell?_of_block (hb.block c.g (World.block_lt_of_cell? _ _ (h.tok i u hu)) (far _ h.glt h.gb))).trans (h.tok i u hu),⟨v',l++[q],by rw [nds_append,e],ht', ?_, ?_⟩,h.p,h.few,h.room, ?_,h.rlt,h.blt,h.glt,h.rb,h.gr,h.gb,Nat.le_trans h.size hb.size,fun k hk=>Nat.lt_of_lt_of_le (h.xlt k hk) hb.size⟩,hb.mono fun k _ e=>?_⟩
 ·intro g hg hx
  rcases hv with e1 | ⟨g',e1,e2⟩
  ·exact ho.1 g (e1 ▸ hg) hx
  ·rw [hg] at e1;cases e1;have:=h.xlt g hx;omega
 ·intro q' hq g hg hx
  rcases List.mem_append.1 hq with hq | hq
  ·exact ho.2 q' hq g hg hx
  ·obtain rfl:q'=q:=by simpa using hq
   have:=hk g hg;have:=h.xlt g hx;omega
 ·have:(nds l).length=l.length:=nds_len l;rw [e] at this
  simp;omega
 ·rcases e with e | e
  ·exact .inr (.inl e)
  ·obtain ⟨h1,cur,h2⟩:=own_tag ht.own e.symm;exact .inr (.inr ⟨h1,cur,_,h2⟩)
theorem addNode_any (c:Cx)(X:Nat->Prop)(w:World)(s:Ex.S)(n:Nd)(ka:Option Addr)(kc N:Nat)(h:Rd c X w s)(hk:IntsAt N w ka n.kids)(hnil:ka=none->kc=0)(hl:n.kids.length<=999000):
  Calls Tryz.prog 106 #[.pointer (some ⟨c.r,0,none⟩),.agg #[.string n.op,.int .i64 n.line,.int .i64 n.col,.string n.name,.int .i64 n.num,.slice ka n.kids.length kc]] w (Post c X w (Ex.addN c.ts n s)):=by
 obtain ⟨W,hW⟩:∃ W,w.alloc (.cells #[.string n.op,.int .i64 n.line,.int .i64 n.col,.string n.name,.int .i64 n.num,.slice ka n.kids.length kc] 30)=W:=⟨_,rfl⟩;have hb:Below w.heap.size w W:=by rw [<- hW];exact (Below.refl _ w).alloc (Nat.le_refl _) _
 have s1:Six W w.heap.size 30 (.string n.op) (.int .i64 n.line) (.int .i64 n.col) (.string n.name) (.int .i64 n.num) (.slice ka n.kids.length kc):=⟨by rw [<- hW];exact blk_new w _⟩;have hkW:IntsAt w.heap.size W ka n.kids:=(IntsAt.below (N:=w.heap.size) (fun i hi=>by
  obtain ⟨b,o,e,_,hc⟩:=hk i hi;exact ⟨b,o,e,by have:=World.block_lt_of_cell? _ _ hc;exact this,hc⟩) hb)
 have hR:=h.below hb;obtain ⟨v,l,en,ht0,ho⟩:=h.tree;obtain ⟨ao,cap,rfl,hA⟩:=ht0.at;have ht:=ht0.below hb;have hll:l.length=s.ns.length:=by rw [<- en,nds_len]
 have hold:∀ g,(Value.slice ao l.length cap).ownBlock=some g->g<w.heap.size:=fun g hg=>by
  obtain ⟨_,cur,e1⟩:=own_tag ht0.own hg;exact lt_of_heap e1
 have HOLD:=Lib.hid hold;clear hold;have hlen:=h.len;have hsz:=h.size;have hr1:=h.rlt;have hb1:=h.blt;have hS:=fun w1 cd (hR:Rd c X w1 s)=>wrong_at c X w1 s cd hR;have tk:=Lib.hid hkW;have HT:=Lib.hid ht;have HW:=Lib.hid hW;have HR:=Lib.hid hR;have HB:=Lib.hid hb;have HS:=Lib.hid hS;have HO:=Lib.hid ho;have HEN:=Lib.hid en;have HLL:=Lib.hid hll;have HN:=Lib.hid hnil;have x0:=s1.c0;have x1:=s1.c1;have x2:=s1.c2;have x3:=s1.c3;have x4:=s1.c4;have x5:=s1.c5;have r0:=hR.c0;have hct:W.cell? ⟨c.bt,0,none⟩=some (.slice ao l.length cap):=(blk_cell ht.blk 0).trans rfl;have HCT:=Lib.hid hct;have HS1:=Lib.hid s1;clear hk hkW ht ht0 hA hW hR hb hS ho en hll h hnil hct s1
 by_cases hf:fits s.ns.length n=true
 ·by_cases h4:4000<=s.ns.length
  ·have hE:Ex.addN c.ts n s = .bad 6 (Ex.at_ c.ts s):=by rw [Ex.addN,if_pos hf,if_pos h4];rfl
   have HE:=Lib.hid hE;have HF:=Lib.hid hf;clear hE hf
   go_enter Tryz.func106,Tryz.ntmps106
   go_upto_region 1 with fail
   rw [HW.out]
   go_region_held2 (fun w'=>w'.cell? ⟨c.r,0,none⟩=some (.pointer (some ⟨c.bt,0,none⟩))/\w'.cell? ⟨w.heap.size,0,none⟩=some (.string n.op)/\w'.cell? ⟨w.heap.size,1,none⟩=some (.int .i64 n.line)/\w'.cell? ⟨w.heap.size,2,none⟩=some (.int .i64 n.col)/\w'.cell? ⟨w.heap.size,3,none⟩=some (.string n.name)/\w'.cell? ⟨w.heap.size,4,none⟩=some (.int .i64 n.num)/\w'.cell? ⟨w.heap.size,5,none⟩=some (.slice ka n.kids.length kc))
    (first | exact ⟨r0,x0,x1,x2,x3,x4,x5⟩ | exact ⟨hR1.c0,s2.c0,s2.c1,s2.c2,s2.c3,s2.c4,s2.c5⟩)
    (first | (go_at_call 10;refine (add_full c.bt ao l.length cap w.heap.size n ka kc W.drew HCT.out tk.out hl (by rw [HLL.out];exact HF.out) (by rw [HLL.out];exact h4) (by rw [HLL.out];omega)).mono ?_;rintro e w1 ⟨rfl,hb1⟩;have hR1:=HR.out.below (below_undrew hb1);have s2:Six w1 w.heap.size 30 (.string n.op) (.int .i64 n.line) (.int .i64 n.col) (.string n.name) (.int .i64 n.num) (.slice ka n.kids.length kc):=⟨((below_undrew hb1).block _ (lt_of_heap HS1.out.blk)).trans HS1.out.blk⟩))
   have HR1:=Lib.hid hR1;have HK1:=Lib.hid (HB.out.trans ((below_undrew hb1).mono HB.out.size));clear hR1 s2 hb1 x0 x1 x2 x3 x4 x5 r0
   go_wp2_with fail
   refine (HS.out _ _ HR1.out).mono ?_;rintro e w2 ⟨rfl,hb2⟩;have HK2:=Lib.hid (Kp.of_below (c:=c) (HK1.out.trans (hb2.mono HK1.out.size)));unfold dval
   go_wp2
   exact ⟨rfl,.inr ⟨_,_,HE.out,rfl,HK2.out⟩⟩
  ·have hE:Ex.addN c.ts n s = .ok s.ns.length ⟨s.p,s.ns++[n]⟩:=by rw [Ex.addN,if_pos hf,if_neg h4]
   have HE:=Lib.hid hE;have HF:=Lib.hid hf;clear hE hf;have hWs:W.heap.size=w.heap.size+1:=by rw [<- HW.out];simp
   have hlt:c.bt<W.heap.size:=HT.out.size;have HWS:=Lib.hid hWs;clear hWs;have hfar:¬ (w.heap.size=c.bt\/some w.heap.size=(Value.slice ao l.length cap).ownBlock):=by
    rintro (e | e)
    ·omega
    ·have h0:∀ g,(Value.slice ao l.length cap).ownBlock=some g->g<w.heap.size:=HOLD.out;have:=h0 _ e.symm;omega
   have HFAR:=Lib.hid hfar;clear hfar
   go_enter Tryz.func106,Tryz.ntmps106
   go_upto_region 1 with fail
   rw [HW.out]
   go_region_held2 (fun w'=>w'.cell? ⟨c.r,0,none⟩=some (.pointer (some ⟨c.bt,0,none⟩))/\w'.cell? ⟨w.heap.size,0,none⟩=some (.string n.op)/\w'.cell? ⟨w.heap.size,1,none⟩=some (.int .i64 n.line)/\w'.cell? ⟨w.heap.size,2,none⟩=some (.int .i64 n.col)/\w'.cell? ⟨w.heap.size,3,none⟩=some (.string n.name)/\w'.cell? ⟨w.heap.size,4,none⟩=some (.int .i64 n.num)/\w'.cell? ⟨w.heap.size,5,none⟩=some (.slice ka n.kids.length kc))
    (first | exact ⟨r0,x0,x1,x2,x3,x4,x5⟩ | exact ⟨hR1.c0,s2.c0,s2.c1,s2.c2,s2.c3,s2.c4,s2.c5⟩)
    (first | (go_at_call 10;refine (add_yes c.B c.bt (.slice ao l.length cap) l w.heap.size n ka kc W.drew (HT.out.below (Below.refl _ W).drew) tk.out HN.out hl (by rw [HLL.out];omega) (by rw [HLL.out];exact HF.out) (by have:=HWS.out;simp;omega)).mono ?_;rintro e w1 ⟨v1,ka1,kc1,rfl,ht1,hB1,hv1,hk1⟩;have hA1:=HR.out.drew.added (q:=⟨n,ka1,kc1⟩) HEN.out (HT.out.below (Below.refl _ W).drew) HO.out (by rw [HLL.out];omega) ht1 hB1 hv1 hk1;have hR1:=hA1.1;have s2:Six w1 w.heap.size 30 (.string n.op) (.int .i64 n.line) (.int .i64 n.col) (.string n.name) (.int .i64 n.num) (.slice ka n.kids.length kc):=⟨hB1.heap HS1.out.blk HFAR.out⟩))
   have HR1:=Lib.hid hR1;have HK1:=Lib.hid (Below.then_kp HB.out hA1.2.undrew);clear hR1 s2 hA1 x0 x1 x2 x3 x4 x5 r0 ht1 hB1 hv1 hk1
   go_wp2
   go_ret
   exact .inl ⟨_,_,HE.out,ret_int (by rw [HLL.out]),HR1.out,HK1.out⟩
 ·have hE:Ex.addN c.ts n s = .bad 1 (Ex.at_ c.ts s):=by rw [Ex.addN,if_neg hf];rfl
  have hf':fits s.ns.length n=false:=by simpa using hf
  have HE:=Lib.hid hE;have HF:=Lib.hid hf';clear hE hf hf'
  go_enter Tryz.func106,Tryz.ntmps106
  go_upto_region 1 with fail
  rw [HW.out]
  go_region_held2 (fun w'=>w'.cell? ⟨c.r,0,none⟩=some (.pointer (some ⟨c.bt,0,none⟩))/\w'.cell? ⟨w.heap.size,0,none⟩=some (.string n.op)/\w'.cell? ⟨w.heap.size,1,none⟩=some (.int .i64 n.line)/\w'.cell? ⟨w.heap.size,2,none⟩=some (.int .i64 n.col)/\w'.cell? ⟨w.heap.size,3,none⟩=some (.string n.name)/\w'.cell? ⟨w.heap.size,4,none⟩=some (.int .i64 n.num)/\w'.cell? ⟨w.heap.size,5,none⟩=some (.slice ka n.kids.length kc))
   (first | exact ⟨r0,x0,x1,x2,x3,x4,x5⟩ | exact ⟨hR1.c0,s2.c0,s2.c1,s2.c2,s2.c3,s2.c4,s2.c5⟩)
   (first | (go_at_call 10;refine (add_no c.bt ao l.length cap w.heap.size n ka kc W.drew HCT.out tk.out hl (by rw [HLL.out];exact HF.out)).mono ?_;rintro e w1 ⟨rfl,hb1⟩;have hR1:=HR.out.below (below_undrew hb1);have s2:Six w1 w.heap.size 30 (.string n.op) (.int .i64 n.line) (.int .i64 n.col) (.string n.name) (.int .i64 n.num) (.slice ka n.kids.length kc):=⟨((below_undrew hb1).block _ (lt_of_heap HS1.out.blk)).trans HS1.out.blk⟩))
  have HR1:=Lib.hid hR1;have HK1:=Lib.hid (HB.out.trans ((below_undrew hb1).mono HB.out.size));clear hR1 s2 hb1 x0 x1 x2 x3 x4 x5 r0
  go_wp2_with fail
  refine (HS.out _ _ HR1.out).mono ?_;rintro e w2 ⟨rfl,hb2⟩;have HK2:=Lib.hid (Kp.of_below (c:=c) (HK1.out.trans (hb2.mono HK1.out.size)));unfold dval
  go_wp2
  exact ⟨rfl,.inr ⟨_,_,HE.out,rfl,HK2.out⟩⟩
theorem ints_map_len (ks:List Nat):(ks.map fun (k:Nat)=>(k:Int)).length=ks.length:=by simp
theorem add_any (c:Cx)(X:Nat->Prop)(w:World)(s:Ex.S)(op:B)(p:Pos)(name:B)(ks:List Nat)(ka:Option Addr)(kc N:Nat)(h:Rd c X w s)(hk:IntsAt N w ka (ks.map fun (k:Nat)=>(k:Int)))(hnil:ka=none->kc=0)(hl:ks.length<=999000):
  Calls Tryz.prog 71 #[.pointer (some ⟨c.r,0,none⟩),.string ⟨op.toArray⟩,.agg #[.int .i64 p.line,.int .i64 p.col],.string ⟨name.toArray⟩,.slice ka ks.length kc] w (Post c X w (Ex.add c.ts op p name ks s)):=by
 obtain ⟨W,hW⟩:∃ W,w.alloc (.cells #[.int .i64 p.line,.int .i64 p.col] 27)=W:=⟨_,rfl⟩;have hb:Below w.heap.size w W:=by rw [<- hW];exact (Below.refl _ w).alloc (Nat.le_refl _) _
 have hkW:IntsAt w.heap.size W ka (ks.map fun (k:Nat)=>(k:Int)):=(IntsAt.below (N:=w.heap.size) (fun i hi=>by
  obtain ⟨b,o,e,_,hc⟩:=hk i hi;exact ⟨b,o,e,by have:=World.block_lt_of_cell? _ _ hc;exact this,hc⟩) hb)
 have hA:=addNode_any c X W s ⟨Ex.bt op,p.line,p.col,Ex.bt name,0,ks.map fun (k:Nat)=>(k:Int)⟩ ka kc w.heap.size (h.below hb) hkW hnil (by simpa using hl);simp only [ints_map_len] at hA;have c0:W.cell? ⟨w.heap.size,0,none⟩=some (.int .i64 p.line):=by rw [<- hW,World.cell?_alloc_new];rfl
 have c1:W.cell? ⟨w.heap.size,1,none⟩=some (.int .i64 p.col):=by rw [<- hW,World.cell?_alloc_new];rfl
 have HA:=Lib.hid hA;have HW:=Lib.hid hW;have HB:=Lib.hid hb;clear hA hW hb hkW hk hnil h
 go_enter Tryz.func71,Tryz.ntmps71
 go_upto_region 1 with fail
 rw [HW.out]
 go_wp2_with fail
 refine HA.out.mono ?_;rintro e w1 (⟨i,s1,hR,rfl,hR1,hK1⟩ | ⟨cd,p1,hR,rfl,hK1⟩)
 ·have HR:=Lib.hid hR;have HR1:=Lib.hid hR1;have HK1:=Lib.hid (Below.then_kp HB.out hK1);clear hR hR1 hK1 c0 c1
  go_wp2
  go_ret
  exact .inl ⟨_,_,HR.out,rfl,HR1.out,HK1.out⟩
 ·exact ⟨rfl,.inr ⟨_,_,hR,rfl,Below.then_kp HB.out hK1⟩⟩
end
end Go.Proofs.YtninlbknklbofaaGreatDoor
