/- A part of the proof: A part of the proof. -/
import Derived.Test.YtdfpkmfeldoamaaGreatDoorAhead
import Derived.Deep.Light
import Derived.Deep.DeepCutAuto
import Derived.Test.YtdfpkmfeldoamaaGreatDoorPf
set_option linter.unusedSimpArgs false
set_option linter.unusedVariables false
set_option maxRecDepth 100000
set_option maxHeartbeats 2000000
namespace Go.Proofs.YtdfpkmfeldoamaaGreatDoor
section
open Go.RowKit Tn Lx
theorem tok_field0 (a b c d e:Value)(w:World):(Instr.field 118 (.agg #[a,b,c,d,e]) 0).run Tryz.prog w = .ok a w:=by kernel_rfl
theorem tok_field1 (a b c d e:Value)(w:World):(Instr.field 118 (.agg #[a,b,c,d,e]) 1).run Tryz.prog w = .ok b w:=by kernel_rfl
theorem tok_field3 (a b c d e:Value)(w:World):(Instr.field 118 (.agg #[a,b,c,d,e]) 3).run Tryz.prog w = .ok (.agg #[d,e]) w:=by kernel_rfl
attribute [local go_sem] tok_field0 tok_field1 tok_field3
theorem mark_any (t:Tok)(m:B)(w:World):Calls Tryz.prog 136 #[tval t,.string ⟨m.toArray⟩] w fun e w'=>e = .returned (.bool (Ex.isT t m))/\Below w.heap.size w w':=by
 have hb:∀ o,Below w.heap.size w (w.alloc o):=fun o=>(Below.refl _ w).alloc (Nat.le_refl _) o;have HB:=Lib.hid hb;clear hb;unfold tval
 go_enter Tryz.func136,Tryz.ntmps136
 go_wp2
 all_goals
  go_ret
  exact ⟨ret_bool (by simp [Ex.isT, *]),HB.out _⟩
theorem begins_any (t:Tok)(w:World):Calls Tryz.prog 184 #[tval t] w fun e w'=>e = .returned (.bool (Ex.begins t))/\Below w.heap.size w w':=by
 have hb:∀ o,Below w.heap.size w (w.alloc o):=fun o=>(Below.refl _ w).alloc (Nat.le_refl _) o;have HB:=Lib.hid hb;clear hb;unfold tval
 go_enter Tryz.func184,Tryz.ntmps184
 go_wp2
 all_goals
  go_ret
  refine ⟨ret_bool ?_,HB.out _⟩;clear HB
  go_light
  simp_all [Ex.begins]
theorem next_any (c:Cx)(X:Nat->Prop)(w:World)(s:Ex.S)(h:Rd c X w s):Calls Tryz.prog 36 #[.pointer (some ⟨c.r,0,none⟩)] w (AheadP w (Ex.tk c.ts s.p)):=by
 obtain ⟨W,hW⟩:∃ W,w.alloc (.cells #[.int .i64 0,.string ⟨#[]⟩,.int .i64 0,.int .i64 0,.int .i64 0] 118)=W:=⟨_,rfl⟩;have hb:Below w.heap.size w W:=by rw [<- hW];exact (Below.refl _ w).alloc (Nat.le_refl _) _
 have hz:Five W w.heap.size (.int .i64 0) (.string ⟨#[]⟩) (.int .i64 0) (.int .i64 0) (.int .i64 0):=⟨by rw [<- hW];exact blk_new w _⟩;have hA:=ahead0_any c X W s (h.below hb);generalize Ex.tk c.ts s.p=t at *;have HA:=Lib.hid hA;have HW:=Lib.hid hW;have HB:=Lib.hid hb;have HZ:=Lib.hid hz;clear hW hb hz h hA
 go_enter Tryz.func36,Tryz.ntmps36
 go_wp2_with fail
 rw [HW.out];refine HA.out.mono ?_;rintro e w1 ⟨rfl,hb1⟩;have HF1:=Lib.hid (HZ.out.below hb1);have HB2:=Lib.hid (HB.out.trans (hb1.mono HB.out.size));have z0:=HF1.out.c0;have z1:=HF1.out.c1;have z2:=HF1.out.c2;have z3:=HF1.out.c3;have z4:=HF1.out.c4;have zf:=HF1.out.fz;clear hb1;unfold tval
 go_wp2
 have T:=HF1.out.store (.int .i64 t.kind) (.string ⟨t.text.toArray⟩) (.int .i64 t.int) (.int .i64 t.at_.line) (.int .i64 t.at_.col);exact bodyPost_ret (v:=tval t) (by simp [results,Tryz.results36,go_sem,T.c0,T.c1,T.c2,T.c3,T.c4,tval]) rfl ⟨rfl,below_five HB2.out (Nat.le_refl _) _ _ _ _ _⟩
theorem is_any (c:Cx)(X:Nat->Prop)(w:World)(s:Ex.S)(m:B)(h:Rd c X w s):Calls Tryz.prog 86 #[.pointer (some ⟨c.r,0,none⟩),.string ⟨m.toArray⟩] w fun e w'=>e = .returned (.bool (Ex.is c.ts s m))/\Below w.heap.size w w':=by
 have HR:=Lib.hid h;clear h
 go_enter Tryz.func86,Tryz.ntmps86
 go_wp2_with fail
 refine (next_any c X _ s HR.out).mono ?_;rintro e w1 ⟨rfl,hb1⟩
 go_wp2_with fail
 refine (mark_any (Ex.tk c.ts s.p) m _).mono ?_;rintro e w2 ⟨rfl,hb2⟩
 go_wp2
 go_ret
 exact ⟨rfl,hb1.trans (hb2.mono hb1.size)⟩
def dval (cd:Int)(p:Pos):Value := .iface 43 (.agg #[.int .i64 cd,.int .i64 p.line,.int .i64 p.col,.string ⟨#[]⟩])
theorem wrong_at (c:Cx)(X:Nat->Prop)(w:World)(s:Ex.S)(cd:Int)(h:Rd c X w s):Calls Tryz.prog 37 #[.pointer (some ⟨c.r,0,none⟩),.int .i64 cd] w fun e w'=>e = .returned (dval cd (Ex.at_ c.ts s))/\Below w.heap.size w w':=by
 have HR:=Lib.hid h;clear h
 go_enter Tryz.func37,Tryz.ntmps37
 go_wp2_with fail
 refine (next_any c X _ s HR.out).mono ?_;rintro e w1 ⟨rfl,hb1⟩;unfold tval
 go_wp2
 go_ret
 exact ⟨rfl,hb1⟩
def SkipP (c:Cx)(X:Nat->Prop)(w:World)(s:Ex.S)(t:Tok)(e:Ending)(w':World):Prop:=e = .returned (tval t)/\Rd c X w' s.skip/\Kp c w w'
theorem Five.but {w w':World}{b:Nat}{v0 v1 v2 v3 v4:Value}(h:Five w b v0 v1 v2 v3 v4){p:Nat->Prop}(hb:But p w w')(hp:¬ p b):Five w' b v0 v1 v2 v3 v4:=⟨hb.heap h.blk hp⟩
theorem Five.kp {c:Cx}{w w':World}{b:Nat}{v0 v1 v2 v3 v4:Value}(h:Five w b v0 v1 v2 v3 v4)(hk:Kp c w w')(h1:b≠c.r)(h2:b≠c.bt):Five w' b v0 v1 v2 v3 v4:=⟨hk.heap h.blk h1 h2 (fun e=>absurd e (by decide))⟩
theorem but_five (w:World)(b:Nat)(u0 u1 u2 u3 u4:Value):But (fun k=>k=b) w (((((w.setCell ⟨b,0,none⟩ u0).setCell ⟨b,1,none⟩ u1).setCell ⟨b,2,none⟩ u2).setCell ⟨b,3,none⟩ u3).setCell ⟨b,4,none⟩ u4) :=
 ((((But.setCell (p:=fun k=>k=b) w rfl 0 u0).trans (But.setCell (p:=fun k=>k=b) _ rfl 1 u1)).trans (But.setCell (p:=fun k=>k=b) _ rfl 2 u2)).trans (But.setCell (p:=fun k=>k=b) _ rfl 3 u3)).trans (But.setCell (p:=fun k=>k=b) _ rfl 4 u4)
theorem Rd.five {c:Cx}{X:Nat->Prop}{w:World}{s:Ex.S}(h:Rd c X w s){b:Nat}{v0 v1 v2 v3 v4:Value}(hF:Five w b v0 v1 v2 v3 v4)(hb:c.B<=b)(u0 u1 u2 u3 u4:Value):
  Rd c X (((((w.setCell ⟨b,0,none⟩ u0).setCell ⟨b,1,none⟩ u1).setCell ⟨b,2,none⟩ u2).setCell ⟨b,3,none⟩ u3).setCell ⟨b,4,none⟩ u4) s :=
 h.but (but_five w b u0 u1 u2 u3 u4) (fun e=>by have:=h.rlt;omega) (fun e=>by have:=h.blt;omega) (fun e=>by have:=h.glt;omega) (fun k e => .inr (by subst e;exact ⟨_,_,_,hF.blk,by decide,by decide⟩))
theorem skip_any (c:Cx)(X:Nat->Prop)(w:World)(s:Ex.S)(h:Rd c X w s)(hp:s.p<c.ts.length):Calls Tryz.prog 87 #[.pointer (some ⟨c.r,0,none⟩)] w (SkipP c X w s (Ex.tk c.ts s.p)):=by
 obtain ⟨W,hW⟩:∃ W,w.alloc (.cells #[.int .i64 0,.string ⟨#[]⟩,.int .i64 0,.int .i64 0,.int .i64 0] 118)=W:=⟨_,rfl⟩;have hb:Below w.heap.size w W:=by rw [<- hW];exact (Below.refl _ w).alloc (Nat.le_refl _) _
 have hz:Five W w.heap.size (.int .i64 0) (.string ⟨#[]⟩) (.int .i64 0) (.int .i64 0) (.int .i64 0):=⟨by rw [<- hW];exact blk_new w _⟩;have hA:=next_any c X W s (h.below hb);generalize Ex.tk c.ts s.p=t at *;have HR:=Lib.hid (h.below hb);have HW:=Lib.hid hW;have HB:=Lib.hid hb;have HZ:=Lib.hid hz;have HA:=Lib.hid hA;have few:=h.few;have hlt:=h.lt;have hs:=h.size;have hr1:=h.rlt;have hb1:=h.blt;have hg1:=h.glt;clear hW hb hz h hA
 go_enter Tryz.func87,Tryz.ntmps87
 go_wp2_with fail
 rw [HW.out];refine HA.out.mono ?_;rintro e w1 ⟨rfl,hb1⟩;have hR1:=HR.out.below hb1;have hF1:=HZ.out.below hb1;have hB1:=HB.out.trans (hb1.mono HB.out.size);have hne:w.heap.size<w1.heap.size:=lt_of_heap hF1.blk;obtain ⟨V,hV⟩:∃ V,w1.alloc (.cells #[.int .i64 t.kind,.string ⟨t.text.toArray⟩,.int .i64 t.int,.int .i64 t.at_.line,.int .i64 t.at_.col] 118)=V:=⟨_,rfl⟩;have hbV:Below w1.heap.size w1 V:=by rw [<- hV];exact (Below.refl _ w1).alloc (Nat.le_refl _) _
 have hG:Five V w1.heap.size (.int .i64 t.kind) (.string ⟨t.text.toArray⟩) (.int .i64 t.int) (.int .i64 t.at_.line) (.int .i64 t.at_.col):=⟨by rw [<- hV];exact blk_new w1 _⟩;have hR2:=hR1.below hbV;have hF2:=hF1.below hbV;have hB2:=hB1.trans (hbV.mono hB1.size);have HR2:=Lib.hid hR2;have HF2:=Lib.hid hF2;have HB2:=Lib.hid hB2;have HG:=Lib.hid hG;have HV:=Lib.hid hV;clear hb1 hR1 hF1 hB1 HR HB HZ HW hR2 hF2 hB2 hG hV hbV;unfold tval
 go_upto_region 2 with fail
 rw [HV.out];have c2:=HR2.out.c2;have cf:=HR2.out.fz
 go_upto_region 3 with fail
 clear c2 cf;obtain ⟨V2,hV2⟩:∃ V2,V.setCell ⟨c.r,2,none⟩ (.int .i64 ((s.p:Int)+1))=V2:=⟨_,rfl⟩;obtain ⟨hR3,hK3⟩:=HR2.out.skip hp;rw [hV2] at hR3 hK3;have hG3:=HG.out.kp hK3 (by omega) (by omega);have hF3:=HF2.out.kp hK3 (by omega) (by omega);have hK4:=Below.then_kp HB2.out hK3;have HV2:=Lib.hid hV2;have HR3:=Lib.hid hR3;have HF3:=Lib.hid hF3;have HK4:=Lib.hid hK4;have HG3:=Lib.hid hG3;clear hV2 hR3 hK3 hG3 hF3 hK4 HR2 HF2 HB2 HG;rw [HV2.out];have z0:=HF3.out.c0;have z1:=HF3.out.c1;have z2:=HF3.out.c2;have z3:=HF3.out.c3;have z4:=HF3.out.c4;have zf:=HF3.out.fz;have y0:=HG3.out.c0;have y1:=HG3.out.c1;have y2:=HG3.out.c2;have y3:=HG3.out.c3;have y4:=HG3.out.c4
 go_wp2
 have T:=HF3.out.store (.int .i64 t.kind) (.string ⟨t.text.toArray⟩) (.int .i64 t.int) (.int .i64 t.at_.line) (.int .i64 t.at_.col);refine bodyPost_ret (v:=tval t) (by simp [results,Tryz.results87,go_sem,T.c0,T.c1,T.c2,T.c3,T.c4,tval]) rfl ⟨rfl, ?_, ?_⟩
 ·exact HR3.out.five HF3.out (by omega) _ _ _ _ _
 ·exact HK4.out.new (but_five _ _ _ _ _ _ _) (fun k e=>by omega)
end
section
open Go.RowKit Tn Lx
attribute [local go_sem] tok_field0 tok_field1 tok_field3
def PostV {α:Type}(enc:α->Value)(c:Cx)(X:Nat->Prop)(w:World)(R:Ex.Res α)(e:Ending)(w':World):Prop :=
 (∃ a s,R = .ok a s/\e = .returned (enc a)/\Rd c X w' s/\Kp c w w')\/(∃ cd p,R = .bad cd p/\e = .panicked [{ v:=dval cd p,recovered:=false }]/\Kp c w w')
def Post (c:Cx)(X:Nat->Prop)(w:World)(R:Ex.Res Nat)(e:Ending)(w':World):Prop:=PostV (fun i:Nat => .int .i64 (i:Int)) c X w R e w'
theorem need_ok (w:World):Calls Tryz.prog 200 #[.nilIface] w fun e w'=>e = .returned (.tuple #[])/\w=w':=by
 go_enter Tryz.func200,Tryz.ntmps200
 go_wp2
 go_end0
 exact ⟨rfl,rfl⟩
theorem need_bad (cd:Int)(p:Pos)(w:World):Calls Tryz.prog 200 #[dval cd p] w fun e w'=>e = .panicked [{ v:=dval cd p,recovered:=false }]/\w=w':=by
 unfold dval
 go_enter Tryz.func200,Tryz.ntmps200
 go_wp2
 exact ⟨rfl,rfl,rfl⟩
theorem enter_any (c:Cx)(X:Nat->Prop)(w:World)(s:Ex.S)(d:Nat)(h:Rd c X w s)(hd:d<=64):Calls Tryz.prog 193 #[.pointer (some ⟨c.r,0,none⟩),.int .i64 (d:Int)] w (PostV (fun i:Nat => .int .i64 (i:Int)) c X w (Ex.enter c.ts d s)):=by
 have HR:=Lib.hid h;clear h
 by_cases h64:64<=d
 ·have hR:Ex.enter c.ts d s = .bad 6 (Ex.at_ c.ts s):=by rw [Ex.enter,if_pos h64];rfl
  have HE:=Lib.hid hR;clear hR
  go_enter Tryz.func193,Tryz.ntmps193
  go_wp2_with fail
  refine (wrong_at c X _ s 6 HR.out).mono ?_;rintro e w1 ⟨rfl,hb1⟩;unfold dval
  go_wp2
  exact ⟨rfl,.inr ⟨_,_,HE.out,rfl,Kp.of_below hb1⟩⟩
 ·have hR:Ex.enter c.ts d s = .ok (d+1) s:=by rw [Ex.enter,if_neg h64]
  have HE:=Lib.hid hR;clear hR
  go_enter Tryz.func193,Tryz.ntmps193
  go_wp2
  go_ret
  exact .inl ⟨_,_,HE.out,rfl,HR.out,Kp.refl _ _⟩
end
section
open Go.RowKit Tn Lx
attribute [local go_sem] tok_field0 tok_field1 tok_field3
def OneP (c:Cx)(X:Nat->Prop)(w:World)(k:Int)(s:Ex.S)(t:Tok)(p:Pos)(e:Ending)(w':World):Prop :=
 (t.kind=k/\e = .returned (.tuple #[tval t,.nilIface])/\Rd c X w' s.skip/\Kp c w w')\/(t.kind≠k/\e = .returned (.tuple #[tval Ex.zt,dval 5 p])/\Rd c X w' s/\Kp c w w')
theorem one_any (c:Cx)(X:Nat->Prop)(w:World)(s:Ex.S)(k:Int)(h:Rd c X w s)(hk:k≠0):Calls Tryz.prog 167 #[.pointer (some ⟨c.r,0,none⟩),.int .i64 k] w (OneP c X w k s (Ex.tk c.ts s.p) (Ex.at_ c.ts s)):=by
 obtain ⟨W,hW⟩:∃ W,w.alloc (.cells #[.int .i64 0,.string ⟨#[]⟩,.int .i64 0,.int .i64 0,.int .i64 0] 118)=W:=⟨_,rfl⟩;have hb:Below w.heap.size w W:=by rw [<- hW];exact (Below.refl _ w).alloc (Nat.le_refl _) _
 have hz:Five W w.heap.size (.int .i64 0) (.string ⟨#[]⟩) (.int .i64 0) (.int .i64 0) (.int .i64 0):=⟨by rw [<- hW];exact blk_new w _⟩;have hR0:=h.below hb;have hA:=next_any c X W s hR0;have hS:=fun w1 (hR:Rd c X w1 s)=>wrong_at c X w1 s 5 hR;have hT:=fun w1 (hR:Rd c X w1 s) (hp:s.p<c.ts.length)=>skip_any c X w1 s hR hp;have hkl:(Ex.tk c.ts s.p).kind=k->s.p<c.ts.length:=fun e=>Ex.kind_lt (by rw [e];exact hk);have hlt:=h.lt;have hs:=h.size;have hr1:=h.rlt;have hb1:=h.blt;have hg1:=h.glt;generalize Ex.tk c.ts s.p=t at *;generalize Ex.at_ c.ts s=p at *;have HR:=Lib.hid hR0;have HW:=Lib.hid hW;have HB:=Lib.hid hb;have HZ:=Lib.hid hz;have HA:=Lib.hid hA;have HS:=Lib.hid hS;have HT:=Lib.hid hT;have HL:=Lib.hid hkl;clear hW hb hz h hA hS hT hkl hR0
 by_cases hk1:t.kind=k
 ·have hk2:(t.kind != k)=false:=by simp [hk1]
  have HK:=Lib.hid hk1;clear hk1
  go_enter Tryz.func167,Tryz.ntmps167
  go_wp2_with fail
  rw [HW.out];refine HA.out.mono ?_;rintro e w1 ⟨rfl,hb1⟩;have HR1:=Lib.hid (HR.out.below hb1);have HZ1:=Lib.hid (HZ.out.below hb1);have HB1:=Lib.hid (HB.out.trans (hb1.mono HB.out.size));clear hb1 HR HZ HB HW;unfold tval
  go_wp2_with fail
  refine (HT.out _ HR1.out (HL.out HK.out)).mono ?_;rintro e w2 ⟨rfl,hR2,hK2⟩;have HF:=Lib.hid (HZ1.out.kp hK2 (by omega) (by omega));have HR2:=Lib.hid hR2;have HK2:=Lib.hid (Below.then_kp HB1.out hK2);clear hR2 hK2 HR1 HZ1 HB1;unfold tval;have z0:=HF.out.c0;have z1:=HF.out.c1;have z2:=HF.out.c2;have z3:=HF.out.c3;have z4:=HF.out.c4;have zf:=HF.out.fz
  go_wp2
  have T:=HF.out.store (.int .i64 t.kind) (.string ⟨t.text.toArray⟩) (.int .i64 t.int) (.int .i64 t.at_.line) (.int .i64 t.at_.col);refine bodyPost_ret (v := .tuple #[tval t,.nilIface]) (by simp [results,Tryz.results167,go_sem,T.c0,T.c1,T.c2,T.c3,T.c4,tval]) rfl (.inl ⟨HK.out,rfl, ?_, ?_⟩)
  ·exact HR2.out.five HF.out (by omega) _ _ _ _ _
  ·exact HK2.out.new (but_five _ _ _ _ _ _ _) (fun k e=>by omega)
 ·have hk2:(t.kind != k)=true:=by simp [hk1]
  have HK:=Lib.hid hk1;clear hk1
  go_enter Tryz.func167,Tryz.ntmps167
  go_wp2_with fail
  rw [HW.out];refine HA.out.mono ?_;rintro e w1 ⟨rfl,hb1⟩;have HR1:=Lib.hid (HR.out.below hb1);have HZ1:=Lib.hid (HZ.out.below hb1);have HB1:=Lib.hid (HB.out.trans (hb1.mono HB.out.size));clear hb1 HR HZ HB HW;unfold tval
  go_wp2_with fail
  refine (HS.out _ HR1.out).mono ?_;rintro e w2 ⟨rfl,hb2⟩;have HF:=Lib.hid (HZ1.out.below hb2);have HR2:=Lib.hid (HR1.out.below hb2);have HK2:=Lib.hid (Kp.of_below (c:=c) (HB1.out.trans (hb2.mono HB1.out.size)));clear hb2 HR1 HZ1 HB1;have z0:=HF.out.c0;have z1:=HF.out.c1;have z2:=HF.out.c2;have z3:=HF.out.c3;have z4:=HF.out.c4;have zf:=HF.out.fz;obtain ⟨D,hD⟩:∃ D,dval 5 p=D:=⟨_,rfl⟩;rw [hD];have HD:=Lib.hid hD;clear hD
  go_wp2
  have T:=HF.out.store (.int .i64 0) (.string ⟨#[]⟩) (.int .i64 0) (.int .i64 0) (.int .i64 0);refine bodyPost_ret (v := .tuple #[tval Ex.zt,D]) (by simp [results,Tryz.results167,go_sem,T.c0,T.c1,T.c2,T.c3,T.c4,tval,Ex.zt]) rfl (.inr ⟨HK.out,by rw [HD.out], ?_, ?_⟩)
  ·exact HR2.out.five HF.out (by omega) _ _ _ _ _
  ·exact HK2.out.new (but_five _ _ _ _ _ _ _) (fun k e=>by omega)
theorem name_any (c:Cx)(X:Nat->Prop)(w:World)(s:Ex.S)(h:Rd c X w s):Calls Tryz.prog 137 #[.pointer (some ⟨c.r,0,none⟩)] w (OneP c X w 1 s (Ex.tk c.ts s.p) (Ex.at_ c.ts s)):=by
 obtain ⟨W,hW⟩:∃ W,w.alloc (.cells #[.int .i64 0,.string ⟨#[]⟩,.int .i64 0,.int .i64 0,.int .i64 0] 118)=W:=⟨_,rfl⟩;have hb:Below w.heap.size w W:=by rw [<- hW];exact (Below.refl _ w).alloc (Nat.le_refl _) _
 have hz:Five W w.heap.size (.int .i64 0) (.string ⟨#[]⟩) (.int .i64 0) (.int .i64 0) (.int .i64 0):=⟨by rw [<- hW];exact blk_new w _⟩;have hA:=one_any c X W s 1 (h.below hb) (by decide);have hlt:=h.lt;have hs:=h.size;have hr1:=h.rlt;have hb1:=h.blt;have hg1:=h.glt;generalize Ex.tk c.ts s.p=t at *;generalize Ex.at_ c.ts s=p at *;have HW:=Lib.hid hW;have HB:=Lib.hid hb;have HZ:=Lib.hid hz;have HA:=Lib.hid hA;clear hW hb hz h hA
 go_enter Tryz.func137,Tryz.ntmps137
 go_wp2_with fail
 rw [HW.out];refine HA.out.mono ?_;rintro e w1 (⟨hk,rfl,hR1,hK1⟩ | ⟨hk,rfl,hR1,hK1⟩)
 ·have HF:=Lib.hid (HZ.out.kp hK1 (by omega) (by omega));have HR1:=Lib.hid hR1;have HK1:=Lib.hid (Below.then_kp HB.out hK1);have HK:=Lib.hid hk;clear hR1 hK1 HB HZ HW HA hk;unfold tval;have z0:=HF.out.c0;have z1:=HF.out.c1;have z2:=HF.out.c2;have z3:=HF.out.c3;have z4:=HF.out.c4;have zf:=HF.out.fz
  go_wp2
  have T:=HF.out.store (.int .i64 t.kind) (.string ⟨t.text.toArray⟩) (.int .i64 t.int) (.int .i64 t.at_.line) (.int .i64 t.at_.col);refine bodyPost_ret (v := .tuple #[tval t,.nilIface]) (by simp [results,Tryz.results137,go_sem,T.c0,T.c1,T.c2,T.c3,T.c4,tval]) rfl (.inl ⟨HK.out,rfl, ?_, ?_⟩)
  ·exact HR1.out.five HF.out (by omega) _ _ _ _ _
  ·exact HK1.out.new (but_five _ _ _ _ _ _ _) (fun k e=>by omega)
 ·have HF:=Lib.hid (HZ.out.kp hK1 (by omega) (by omega));have HR1:=Lib.hid hR1;have HK1:=Lib.hid (Below.then_kp HB.out hK1);have HK:=Lib.hid hk;clear hR1 hK1 HB HZ HW HA hk;unfold tval Ex.zt;have z0:=HF.out.c0;have z1:=HF.out.c1;have z2:=HF.out.c2;have z3:=HF.out.c3;have z4:=HF.out.c4;have zf:=HF.out.fz;obtain ⟨D,hD⟩:∃ D,dval 5 p=D:=⟨_,rfl⟩;rw [hD];have HD:=Lib.hid hD;clear hD
  go_wp2
  have T:=HF.out.store (.int .i64 0) (.string ⟨#[]⟩) (.int .i64 0) (.int .i64 0) (.int .i64 0);refine bodyPost_ret (v := .tuple #[tval Ex.zt,D]) (by simp [results,Tryz.results137,go_sem,T.c0,T.c1,T.c2,T.c3,T.c4,tval,Ex.zt]) rfl (.inr ⟨HK.out,by rw [HD.out], ?_, ?_⟩)
  ·exact HR1.out.five HF.out (by omega) _ _ _ _ _
  ·exact HK1.out.new (but_five _ _ _ _ _ _ _) (fun k e=>by omega)
def strV (b:B):Value := .string ⟨b.toArray⟩
theorem needName_any (c:Cx)(X:Nat->Prop)(w:World)(s:Ex.S)(h:Rd c X w s):Calls Tryz.prog 198 #[.pointer (some ⟨c.r,0,none⟩)] w (PostV strV c X w (Ex.name c.ts s)):=by
 have hA:=name_any c X w s h;have hE:Ex.name c.ts s=if ((Ex.tk c.ts s.p).kind==1)=true then .ok (Ex.tk c.ts s.p).text s.skip else .bad 5 (Ex.at_ c.ts s):=rfl
 generalize Ex.tk c.ts s.p=t at *;generalize Ex.at_ c.ts s=p at *;have HA:=Lib.hid hA;have HE0:=Lib.hid hE;clear hA hE h
 go_enter Tryz.func198,Tryz.ntmps198
 go_wp2_with fail
 refine HA.out.mono ?_;rintro e w1 (⟨hk,rfl,hR1,hK1⟩ | ⟨hk,rfl,hR1,hK1⟩)
 ·obtain ⟨V,hV⟩:∃ V,w1.alloc (.cells #[.int .i64 t.kind,.string ⟨t.text.toArray⟩,.int .i64 t.int,.int .i64 t.at_.line,.int .i64 t.at_.col] 118)=V:=⟨_,rfl⟩;have hbV:Below w1.heap.size w1 V:=by rw [<- hV];exact (Below.refl _ w1).alloc (Nat.le_refl _) _
  have hG:Five V w1.heap.size (.int .i64 t.kind) (.string ⟨t.text.toArray⟩) (.int .i64 t.int) (.int .i64 t.at_.line) (.int .i64 t.at_.col):=⟨by rw [<- hV];exact blk_new w1 _⟩;have hR:Ex.name c.ts s = .ok t.text s.skip:=by rw [HE0.out,if_pos (by simp [hk])]
  have HV:=Lib.hid hV;have HR1:=Lib.hid (hR1.below hbV);have HK1:=Lib.hid (hK1.then_below hbV);have HG:=Lib.hid hG;have HE:=Lib.hid hR;clear hV hR1 hK1 hG hbV hR hk HA;unfold tval
  go_wp2_with fail
  rw [HV.out];refine (need_ok _).mono ?_;rintro e w2 ⟨rfl,rfl⟩;have y1:=HG.out.c1
  go_wp2
  go_ret
  exact .inl ⟨_,_,HE.out,rfl,HR1.out,HK1.out⟩
 ·obtain ⟨V,hV⟩:∃ V,w1.alloc (.cells #[.int .i64 0,.string ⟨#[]⟩,.int .i64 0,.int .i64 0,.int .i64 0] 118)=V:=⟨_,rfl⟩;have hbV:Below w1.heap.size w1 V:=by rw [<- hV];exact (Below.refl _ w1).alloc (Nat.le_refl _) _
  have hR:Ex.name c.ts s = .bad 5 p:=by rw [HE0.out,if_neg (by simp [hk])]
  have HV:=Lib.hid hV;have HK1:=Lib.hid (hK1.then_below hbV);have HE:=Lib.hid hR;clear hV hR1 hK1 hbV hR hk HA;unfold tval Ex.zt
  go_wp2_with fail
  rw [HV.out];refine (need_bad 5 p _).mono ?_;rintro e w2 ⟨rfl,rfl⟩;exact ⟨rfl,.inr ⟨_,_,HE.out,rfl,HK1.out⟩⟩
def TakeP (c:Cx)(X:Nat->Prop)(w:World)(R:Ex.Res Unit)(e:Ending)(w':World):Prop :=
 (∃ s,R = .ok () s/\e = .returned .nilIface/\Rd c X w' s/\Kp c w w')\/(∃ cd p,R = .bad cd p/\e = .returned (dval cd p)/\Kp c w w')
theorem take_any (c:Cx)(X:Nat->Prop)(w:World)(s:Ex.S)(m:B)(b:Nat)(h:Rd c X w s)(hc:w.cell? ⟨b,0,none⟩=some (.string ⟨m.toArray⟩)):Calls Tryz.prog 38 #[.pointer (some ⟨c.r,0,none⟩),.slice (some ⟨b,0,none⟩) 1 1] w (TakeP c X w (Ex.take c.ts m s)):=by
 have hI:=is_any c X w s m h;have hS:=fun w1 (hR:Rd c X w1 s)=>wrong_at c X w1 s 5 hR;have hT:=fun w1 (hR:Rd c X w1 s) (hp:s.p<c.ts.length)=>skip_any c X w1 s hR hp
 by_cases hm:Ex.is c.ts s m=true
 ·rw [hm] at hI;have hE:Ex.take c.ts m s = .ok () s.skip:=by rw [Ex.take,if_pos hm]
  have hp:=Ex.is_lt hm;have HI:=Lib.hid hI;have HT:=Lib.hid hT;have HE:=Lib.hid hE;have HR:=Lib.hid h;clear hI hS hT hE h hm
  go_enter Tryz.func38,Tryz.ntmps38
  go_wp2_with fail
  refine wp_loop_rounds 2 ?_;rw [rounds_succ]
  go_wp2_with fail
  refine HI.out.mono ?_;rintro e w1 ⟨rfl,hb1⟩
  go_wp2_with fail
  refine (HT.out _ (HR.out.below hb1) hp).mono ?_;rintro e w2 ⟨rfl,hR2,hK2⟩;have HR2:=Lib.hid hR2;have HK2:=Lib.hid (Below.then_kp hb1 hK2);clear hb1 hR2 hK2
  go_wp2_with fail
  rw [rounds_succ]
  go_wp2
  go_ret
  exact .inl ⟨_,HE.out,rfl,HR2.out,HK2.out⟩
 ·have hm':Ex.is c.ts s m=false:=by simpa using hm
  rw [hm'] at hI;have hE:Ex.take c.ts m s = .bad 5 (Ex.at_ c.ts s):=by rw [Ex.take,if_neg hm];rfl
  have HI:=Lib.hid hI;have HS:=Lib.hid hS;have HE:=Lib.hid hE;have HR:=Lib.hid h;clear hI hS hT hE h hm hm'
  go_enter Tryz.func38,Tryz.ntmps38
  go_wp2_with fail
  refine wp_loop_rounds 1 ?_;rw [rounds_succ]
  go_wp2_with fail
  refine HI.out.mono ?_;rintro e w1 ⟨rfl,hb1⟩
  go_wp2_with fail
  refine (HS.out _ (HR.out.below hb1)).mono ?_;rintro e w2 ⟨rfl,hb2⟩;have HK2:=Lib.hid (Kp.of_below (c:=c) (hb1.trans (hb2.mono hb1.size)));clear hb1 hb2
  go_wp2
  go_ret
  exact .inr ⟨_,_,HE.out,rfl,HK2.out⟩
end
section
open Go.RowKit Tn Lx
def cell10 (d:Pg.Dc):List Value:=[.string ⟨d.name.text.toArray⟩,.int .i64 d.name.at_.line,.int .i64 d.name.at_.col,.string ⟨d.conf.text.toArray⟩,.int .i64 d.conf.at_.line,.int .i64 d.conf.at_.col,.string ⟨d.integ.text.toArray⟩,.int .i64 d.integ.at_.line,.int .i64 d.integ.at_.col,.int .i64 d.int]
def cells10 (l:List Pg.Dc):List Value:=l.flatMap cell10
theorem cells10_snoc (l:List Pg.Dc)(d:Pg.Dc):cells10 (l++[d])=cells10 l++cell10 d:=by simp [cells10]
def progCells (bt:Nat)(v1 v4:Value)(g:Pg.St):Array Value:=#[.pointer (some ⟨bt,0,none⟩),v1,.slice none 0 0,.slice none 0 0,v4,.slice none 0 0,.string ⟨g.mt.toArray⟩,.int .i64 g.mp.line,.int .i64 g.mp.col,.slice none 0 0,.int .i64 g.mb]
structure Pm (c:Cx)(q pp:Nat)(v1 v4:Value)(w:World)(g:Pg.St):Prop where
 par:w.heap[pp]? = some (.cells #[.pointer (some ⟨c.r,0,none⟩),.pointer (some ⟨q,0,none⟩)] 79 (0,0))
 prog:w.heap[q]? = some (.cells (progCells c.bt v1 v4 g) 76 (0,0))
 ins:w.ownsRow c.B 152 10 v1 g.ins.length (cells10 g.ins)
 exns:w.ownsRow c.B 152 10 v4 g.exns.length (cells10 g.exns)
 apart:∀ k,v1.ownBlock=some k->v4.ownBlock≠some k
 ppB:c.B<=pp
 qB:c.B<=q
section
variable {c:Cx} {q pp:Nat} {v1 v4:Value} {w w':World} {g:Pg.St}
theorem Pm.p0 (h:Pm c q pp v1 v4 w g):w.cell? ⟨pp,0,none⟩=some (.pointer (some ⟨c.r,0,none⟩)):=(blk_cell h.par 0).trans rfl
theorem Pm.p1 (h:Pm c q pp v1 v4 w g):w.cell? ⟨pp,1,none⟩=some (.pointer (some ⟨q,0,none⟩)):=(blk_cell h.par 1).trans rfl
theorem Pm.g0 (h:Pm c q pp v1 v4 w g):w.cell? ⟨q,0,none⟩=some (.pointer (some ⟨c.bt,0,none⟩)):=(blk_cell h.prog 0).trans rfl
theorem Pm.g1 (h:Pm c q pp v1 v4 w g):w.cell? ⟨q,1,none⟩=some v1:=(blk_cell h.prog 1).trans rfl
theorem Pm.g4 (h:Pm c q pp v1 v4 w g):w.cell? ⟨q,4,none⟩=some v4:=(blk_cell h.prog 4).trans rfl
theorem Pm.g6 (h:Pm c q pp v1 v4 w g):w.cell? ⟨q,6,none⟩=some (.string ⟨g.mt.toArray⟩):=(blk_cell h.prog 6).trans rfl
theorem Pm.gf (h:Pm c q pp v1 v4 w g)(i:Nat):w.frozen? ⟨q,i,none⟩=false:=blk_frozen h.prog i
theorem Pm.qp (h:Pm c q pp v1 v4 w g):q≠pp:=fun e=>by
 have h1:=h.par;have h2:=h.prog;rw [e,h1] at h2;injection h2 with h2;injection h2 with _ h2;exact absurd h2 (by decide)
theorem Pm.but (h:Pm c q pp v1 v4 w g){p:Nat->Prop}(hb:But p w w')(h1:¬ p pp)(h2:¬ p q)(h3:∀ k cs fr,w.heap[k]? = some (.cells cs 152 fr)->(v1.ownBlock=some k\/v4.ownBlock=some k)->¬ p k):Pm c q pp v1 v4 w' g :=
 ⟨hb.heap h.par h1,hb.heap h.prog h2,hb.own h.ins (fun k hk=>by obtain ⟨_,cur,e⟩:=own_tag h.ins hk;exact h3 k _ _ e (.inl hk)),hb.own h.exns (fun k hk=>by obtain ⟨_,cur,e⟩:=own_tag h.exns hk;exact h3 k _ _ e (.inr hk)),h.apart,h.ppB,h.qB⟩
theorem Pm.below (h:Pm c q pp v1 v4 w g)(hb:Below w.heap.size w w'):Pm c q pp v1 v4 w' g:=h.but (p:=fun _=>False) (But.of_below hb) (fun e=>e) (fun e=>e) (fun _ _ _ _ _ e=>e)
end
def FreeD (c:Cx)(bd:Nat)(w:World)(k:Nat):Prop:=Free c w k\/k=bd
theorem Pm.freeD {c:Cx}{q pp bd:Nat}{v1 v4:Value}{w w':World}{g:Pg.St}(h:Pm c q pp v1 v4 w g)(hr:c.r<c.B)(hb:c.bt<c.B)(hd1:bd≠pp)(hd2:bd≠q)(hd3:∀ k,(v1.ownBlock=some k\/v4.ownBlock=some k)->k≠bd)(hk:But (FreeD c bd w) w w'):Pm c q pp v1 v4 w' g:=by
 have hp:=h.ppB;have hq:=h.qB;refine h.but hk ?_ ?_ ?_
 ·rintro ((e | e | ⟨_,cs,fr,e⟩) | e)
  ·omega
  ·omega
  ·rw [h.par] at e;injection e with e;injection e with _ e;exact absurd e (by decide)
  ·exact hd1 e.symm
 ·rintro ((e | e | ⟨_,cs,fr,e⟩) | e)
  ·omega
  ·omega
  ·rw [h.prog] at e;injection e with e;injection e with _ e;exact absurd e (by decide)
  ·exact hd2 e.symm
 ·intro k cs fr hk1 hk2;have hB:c.B<=k:=by
   rcases hk2 with e | e
   ·exact (own_tag h.ins e).1
   ·exact (own_tag h.exns e).1
  rintro ((e | e | ⟨_,cs',fr',e⟩) | e)
  ·omega
  ·omega
  ·rw [hk1] at e;injection e with e;injection e with _ e;exact absurd e (by decide)
  ·exact hd3 k hk2 e
theorem Pm.kp {c:Cx}{q pp:Nat}{v1 v4:Value}{w w':World}{g:Pg.St}(h:Pm c q pp v1 v4 w g)(hr:c.r<c.B)(hb:c.bt<c.B)(hk:Kp c w w'):Pm c q pp v1 v4 w' g :=
 h.freeD (bd:=w.heap.size) hr hb (fun e=>by have:=lt_of_heap h.par;omega) (fun e=>by have:=lt_of_heap h.prog;omega) (fun k hk e=>by
  rcases hk with hk | hk
  ·obtain ⟨_,cur,e1⟩:=own_tag h.ins hk;have:=lt_of_heap e1;omega
  ·obtain ⟨_,cur,e1⟩:=own_tag h.exns hk;have:=lt_of_heap e1;omega) (But.mono hk fun k _ e => .inl e)
theorem FreeD.of_kp {c:Cx}{bd:Nat}{w w':World}(h:Kp c w w'):But (FreeD c bd w) w w':=But.mono h fun _ _ e => .inl e
theorem freeD_trans {c:Cx}{bd:Nat}{a b d:World}(h:But (FreeD c bd a) a b)(k:But (FreeD c bd b) b d):But (FreeD c bd a) a d :=
 ⟨k.os.trans h.os,k.tape.trans h.tape,k.output.trans h.output,Nat.le_trans h.size k.size,fun i hi hp=>by
  have e:=h.block i hi hp;refine (k.block i (Nat.lt_of_lt_of_le hi h.size) ?_).trans e;rintro ((e1 | e1 | ⟨e1,cs,fr,e2⟩) | e1)
  ·exact hp (.inl (.inl e1))
  ·exact hp (.inl (.inr (.inl e1)))
  ·exact hp (.inl (.inr (.inr ⟨e1,cs,fr,e ▸ e2⟩)))
  ·exact hp (.inr e1)⟩
theorem freeD_new {c:Cx}{bd:Nat}{a b d:World}(h:Below a.heap.size a b)(hd:a.heap.size<=bd)(k:But (FreeD c bd b) b d):Kp c a d :=
 ⟨k.os.trans h.os,k.tape.trans h.tape,k.output.trans h.output,Nat.le_trans h.size k.size,fun i hi hp=>by
  have e:=h.block i hi;refine (k.block i (Nat.lt_of_lt_of_le hi h.size) ?_).trans e;rintro ((e1 | e1 | ⟨e1,cs,fr,e2⟩) | e1)
  ·exact hp (.inl e1)
  ·exact hp (.inr (.inl e1))
  ·exact hp (.inr (.inr ⟨e1,cs,fr,e ▸ e2⟩))
  ·omega⟩
def FreeR (c:Cx)(q:Nat)(w:World)(k:Nat):Prop:=k=c.r\/k=c.bt\/k=q\/(c.B<=k/\∃ cs t fr,w.heap[k]? = some (.cells cs t fr)/\(t=165\/t=152))
def Kr (c:Cx)(q:Nat)(w w':World):Prop:=But (FreeR c q w) w w'
theorem Kr.of_kp {c:Cx}{q:Nat}{w w':World}(h:Kp c w w'):Kr c q w w':=But.mono h fun k _ e=>by
 rcases e with e | e | ⟨e,cs,fr,e1⟩
 ·exact .inl e
 ·exact .inr (.inl e)
 ·exact .inr (.inr (.inr ⟨e,cs,_,fr,e1,.inl rfl⟩))
theorem Kr.refl (c:Cx)(q:Nat)(w:World):Kr c q w w:=But.refl _ _
theorem Kr.trans {c:Cx}{q:Nat}{a b d:World}(h:Kr c q a b)(k:Kr c q b d):Kr c q a d :=
 ⟨k.os.trans h.os,k.tape.trans h.tape,k.output.trans h.output,Nat.le_trans h.size k.size,fun i hi hp=>by
  have e:=h.block i hi hp;refine (k.block i (Nat.lt_of_lt_of_le hi h.size) ?_).trans e;rintro (e1 | e1 | e1 | ⟨e1,cs,t,fr,e2,e3⟩)
  ·exact hp (.inl e1)
  ·exact hp (.inr (.inl e1))
  ·exact hp (.inr (.inr (.inl e1)))
  ·exact hp (.inr (.inr (.inr ⟨e1,cs,t,fr,e ▸ e2,e3⟩)))⟩
theorem Kr.size {c:Cx}{q:Nat}{a b:World}(h:Kr c q a b):a.heap.size<=b.heap.size:=But.size h
theorem Kr.below {c:Cx}{q N:Nat}{a b:World}(h:Kr c q a b)(hN:N<=a.heap.size)(h1:N<=c.r)(h2:N<=c.bt)(h3:N<=c.B)(h4:N<=q):Below N a b :=
 But.below h hN (fun k hk=>by
  rcases hk with e | e | e | ⟨e,_⟩ <;> omega)
theorem Kr.map {c:Cx}{q:Nat}{a b:World}(h:Kr c q a b){k cl:Nat}{es:Array MapEntry}(hk:a.heap[k]? = some (.map es cl))(h1:k≠c.r)(h2:k≠c.bt)(h3:k≠q):b.heap[k]? = some (.map es cl) :=
 (h.block k (lt_of_heap hk) (by
  rintro (e | e | e | ⟨_,cs,t,fr,e,_⟩)
  ·exact h1 e
  ·exact h2 e
  ·exact h3 e
  ·rw [hk] at e;cases e)).trans hk
theorem Kr.heap {c:Cx}{q:Nat}{a b:World}(h:Kr c q a b){k:Nat}{cs:Array Value}{t:TypeId}{fr:Nat × Nat}(hk:a.heap[k]? = some (.cells cs t fr))(h1:k≠c.r)(h2:k≠c.bt)(h3:k≠q)(ht:t≠165/\t≠152):b.heap[k]? = some (.cells cs t fr) :=
 (h.block k (lt_of_heap hk) (by
  rintro (e | e | e | ⟨_,cs',t',fr',e,e'⟩)
  ·exact h1 e
  ·exact h2 e
  ·exact h3 e
  ·rw [hk] at e;injection e with e;injection e with _ e
   rcases e' with e' | e'
   ·exact ht.1 (e.trans e')
   ·exact ht.2 (e.trans e'))).trans hk
def dvalN (cd:Int)(p:Pos)(n:B):Value := .iface 43 (.agg #[.int .i64 cd,.int .i64 p.line,.int .i64 p.col,.string ⟨n.toArray⟩])
end
end Go.Proofs.YtdfpkmfeldoamaaGreatDoor
