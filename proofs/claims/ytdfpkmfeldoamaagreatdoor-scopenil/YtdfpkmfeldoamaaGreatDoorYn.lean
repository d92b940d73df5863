/- A part of the proof: A part of the proof. -/
import Derived.Test.YtdfpkmfeldoamaaGreatDoorPAll2
import Derived.Test.YtdfpkmfeldoamaaGreatDoorFin
import Derived.Test.YtdfpkmfeldoamaaGreatDoorPe
import Derived.Test.YtdfpkmfeldoamaaGreatDoorYm
set_option linter.unusedSimpArgs false
set_option linter.unusedVariables false
set_option maxRecDepth 100000
set_option maxHeartbeats 4000000
namespace Go.Proofs.YtdfpkmfeldoamaaGreatDoor
section
open Go.RowKit Tn Lx
namespace Pf
def parse (l:B):Pg.R St:=match Lx.whole l with
 | .bad c p => .bad c p []
 | .ok ts=>all ts Ex.FU Ex.FU 0 st0 ⟨0,[]⟩
theorem st0_ok (ts:List Tok):StOk ts 0 0 st0:=⟨fun d h=>by simp [st0] at h,fun d h=>by simp [st0] at h,fun d h=>by simp [st0] at h,fun d h=>by simp [st0] at h,fun d h=>by simp [st0] at h,fun e=>by simp [st0] at e,.inl rfl,by simp [st0]⟩
theorem all_end {l:B}{ts:List Tok}(h:Lx.whole l = .ok ts):RPost (all ts Ex.FU Ex.FU 0 st0 ⟨0,[]⟩) fun g s=>Ex.GoodS ts s/\StOk ts 100 s.ns.length g/\g.mt=Pg.wMain:=by
 have hl:=Lx.whole_len h;exact all_on Ex.FU 0 st0 ⟨0,[]⟩ (Ex.goodS_nil ts) (st0_ok ts) (by omega) (by unfold Ex.FU;simp only;omega) (by unfold Ex.FU;simp only;omega)
end Pf
theorem tk_int {l:B}{ts:List Tok}(h:Lx.whole l = .ok ts)(p:Nat):0<=(Ex.tk ts p).int/\(Ex.tk ts p).int<1000000000000000000:=by
 rcases Nat.lt_or_ge p ts.length with hp | hp
 ·have hm:Ex.tk ts p∈ts:=List.mem_of_getElem? (Ex.tk_get hp);exact Lx.whole_int h _ hm
 ·rw [Ex.tk,List.getD_eq_getElem?_getD,List.getElem?_eq_none hp];simp [Ex.zt]
def PParse5P (w:World)(l:B)(e:Ending)(w':World):Prop :=
 Below w.heap.size w w'/\((∃ g s c q pp U fs,Lx.whole l = .ok c.ts/\Pf.parse l = .ok g s/\e = .returned (.tuple #[.pointer (some ⟨q,0,none⟩),.nilIface])/\Rd c (fun _=>False) w' s/\Pm5 c q pp U fs w' g)\/(∃ cd p n,Pf.parse l = .bad cd p n/\e = .returned (.tuple #[.pointer none,dvalN cd p n])))
theorem pparse5_ok (s:ByteArray)(ts:List Tok)(w:World)(hs:s.size<=1000000000000)(hT:Lib.Utf8Tabs 2 3 w)(hg:ErrT w)(hw:Lx.whole s.data.toList = .ok ts):
  Calls Tryz.prog 6 #[.string s] w (PParse5P w s.data.toList):=by
 have hlt:=hg.lt;have hend:=Pf.all_end hw;have hI:=tk_int hw;have hR:Pf.parse s.data.toList=Pf.all ts Ex.FU Ex.FU 0 Pf.st0 ⟨0,[]⟩:=by rw [Pf.parse,hw]
 have HA:=Lib.hid (new_ok s ts w hs hT hw);have HG:=Lib.hid hg;have HNE:=Lib.hid hend.not_out;have HR:=Lib.hid hR;have HW:=Lib.hid hw;have HI:=Lib.hid hI;clear hT hg hw hend hR hI
 go_enter Tryz.func6,Tryz.ntmps6
 go_wp2_with fail
 refine HA.out.mono ?_;rintro e w1 ⟨c,rfl,rfl,hRd,hb1,hcr,hcb,hcB⟩;have hs1:=hb1.size;have c0:=hRd.c0;obtain ⟨V,hV⟩:∃ V,(w1.alloc (.cells #[.pointer (some ⟨c.bt,0,none⟩),.slice none 0 0,.slice none 0 0,.slice none 0 0,.slice none 0 0,.slice none 0 0,.string ⟨#[]⟩,.int .i64 0,.int .i64 0,.slice none 0 0,.int .i64 0] 76)).alloc (.cells #[.pointer (some ⟨c.r,0,none⟩),.pointer (some ⟨w1.heap.size,0,none⟩)] 79)=V:=⟨_,rfl⟩;have hbV:Below w1.heap.size w1 V:=by rw [<- hV];exact ((Below.refl _ w1).alloc (Nat.le_refl _) _).alloc (by simp) _
 have kq:V.heap[w1.heap.size]? = some (.cells (progF c.bt (fun _ => .slice none 0 0) Pf.st0) 76 (0,0)):=by rw [<- hV];exact blk_alloc (blk_new w1 _) _
 have kp:V.heap[w1.heap.size+1]? = some (.cells #[.pointer (some ⟨c.r,0,none⟩),.pointer (some ⟨w1.heap.size,0,none⟩)] 79 (0,0)):=by
  rw [<- hV];have:=blk_new (w1.alloc (.cells #[.pointer (some ⟨c.bt,0,none⟩),.slice none 0 0,.slice none 0 0,.slice none 0 0,.slice none 0 0,.slice none 0 0,.string ⟨#[]⟩,.int .i64 0,.int .i64 0,.slice none 0 0,.int .i64 0] 76)) (.cells #[.pointer (some ⟨c.r,0,none⟩),.pointer (some ⟨w1.heap.size,0,none⟩)] 79);rwa [World.size_alloc] at this
 have hB1:=hRd.size;have hPm:Pm5 c w1.heap.size (w1.heap.size+1) (fun _ => .slice none 0 0) [] V Pf.st0 :=
  ⟨kp,kq,fun i hi=>by
   have e:dl Pf.st0 i=[]:=by unfold dl;split <;> rfl
   rw [e];exact World.ownsRow_nil _ _ _ _,World.ownsRow_nil _ _ _ _,rfl,fun x hx=>(by simp at hx),fun i j k _ _ _ e=>(by cases e),by omega,hB1⟩
 have hbW:Below w.heap.size w V:=hb1.trans (hbV.mono hb1.size);have hE:=pall5_any c (fun _=>False) V ⟨0,[]⟩ Ex.FU (by decide) w1.heap.size (w1.heap.size+1) Ex.FU _ _ Pf.st0 (hRd.below hbV) hPm (HG.out.below hbW hlt) ⟨by omega,by omega,by omega⟩ HI.out HNE.out ⟨Nat.le_refl _,Nat.le_refl _,Nat.le_refl _,Nat.le_refl _,Nat.le_refl _⟩;have hRR:=HR.out;generalize Pf.all c.ts Ex.FU Ex.FU 0 Pf.st0 ⟨0,[]⟩=R at *;have HRR:=Lib.hid hRR;clear hRR HR;have HE:=Lib.hid hE;have HV:=Lib.hid hV;have HBW:=Lib.hid hbW;clear hE hV hbW hbV kq kp hPm hRd hb1 HA HNE
 go_wp2_with fail
 rw [HV.out];refine HE.out.mono ?_;rintro e w2 (⟨g,s2,U,fs,hE2,rfl,hR2,hP2,hK2⟩ | ⟨cd,p,nm,hE2,rfl,hK2⟩)
 ·have HB2:=Lib.hid (HBW.out.trans (hK2.below (N:=w.heap.size) HBW.out.size hcr hcb hcB hs1));have HP2:=Lib.hid hP2;have HE2:=Lib.hid hE2;have HR2:=Lib.hid hR2;clear hP2 hK2 hR2 hE2 HE
  go_wp2
  go_ret2
  exact ⟨HB2.out,.inl ⟨g,s2,c,_,_,U,fs,HW.out,HRR.out.trans HE2.out,rfl,HR2.out,HP2.out⟩⟩
 ·have HB2:=Lib.hid (HBW.out.trans (hK2.below (N:=w.heap.size) HBW.out.size hcr hcb hcB hs1));have HE2:=Lib.hid hE2;clear hK2 hE2 HE;unfold dvalN
  go_wp2
  go_ret2
  exact ⟨HB2.out,.inr ⟨cd,p,nm,HRR.out.trans HE2.out,rfl⟩⟩
theorem pparse5_bad (s:ByteArray)(cd:Int)(p:Pos)(w:World)(hs:s.size<=1000000000000)(hT:Lib.Utf8Tabs 2 3 w)(hw:Lx.whole s.data.toList = .bad cd p):
  Calls Tryz.prog 6 #[.string s] w (PParse5P w s.data.toList):=by
 have hR:Pf.parse s.data.toList = .bad cd p []:=by rw [Pf.parse,hw]
 have HA:=Lib.hid (new_bad s cd p w hs hT hw);have HR:=Lib.hid hR;clear hT hw hR
 go_enter Tryz.func6,Tryz.ntmps6
 go_wp2_with fail
 refine HA.out.mono ?_;rintro e w1 ⟨rfl,hb1⟩;have HB:=Lib.hid hb1;clear hb1 HA;unfold dval
 go_wp2
 go_ret2
 exact ⟨HB.out,.inr ⟨cd,p,[],HR.out,rfl⟩⟩
theorem pparse5_any (s:ByteArray)(w:World)(hs:s.size<=1000000000000)(hT:Lib.Utf8Tabs 2 3 w)(hg:ErrT w):
  Calls Tryz.prog 6 #[.string s] w (PParse5P w s.data.toList):=by
 cases hw:Lx.whole s.data.toList with
 | ok ts=>exact pparse5_ok s ts w hs hT hg hw
 | bad cd p=>exact pparse5_bad s cd p w hs hT hw
end
section
open Go.RowKit Tn Lx
attribute [local go_sem] tok_field0 tok_field1 tok_field3
theorem yname5_any (c:Cx)(X:Nat->Prop)(w:World)(s:Ex.S)(pp q:Nat)(h:Rd c X w s)(hpp:w.heap[pp]? = some (.cells (yparF c.r q) 87 (0,0)))(hpB:c.B<=pp):
  Calls Tryz.prog 90 #[.pointer (some ⟨pp,0,none⟩)] w (NmP c X w (Pg.nameAt c.ts [] s)):=by
 have hr1:=h.rlt;have hb1:=h.blt;have hg1:=h.glt;have hsz:=h.size;obtain ⟨V,hV⟩:∃ V,w.alloc (.cells #[.string ⟨#[]⟩,.int .i64 0,.int .i64 0] 49)=V:=⟨_,rfl⟩;have hbV:Below w.heap.size w V:=by rw [<- hV];exact (Below.refl _ w).alloc (Nat.le_refl _) _
 have p00:w.cell? ⟨pp,0,none⟩=some (.pointer (some ⟨c.r,0,none⟩)):=(blk_cell hpp 0).trans rfl;have p0:=fun o=>(World.cell?_alloc_lt w o _ (World.block_lt_of_cell? _ _ p00)).trans p00;have hA:=name_any c X V s (h.below hbV);have hkV:V.heap[w.heap.size]? = some (.cells #[.string ⟨#[]⟩,.int .i64 0,.int .i64 0] 49 (0,0)):=by rw [<- hV];exact blk_new w _
 have hE:Pg.nameAt c.ts [] s=if ((Ex.tk c.ts s.p).kind==1)=true then .ok ⟨(Ex.tk c.ts s.p).text,(Ex.tk c.ts s.p).at_⟩ s.skip else .bad 5 (Ex.at_ c.ts s):=rfl
 generalize Pg.nameAt c.ts [] s=R at *;generalize Ex.tk c.ts s.p=tk at *;generalize Ex.at_ c.ts s=p at *;have HA:=Lib.hid hA;have HV:=Lib.hid hV;have HB:=Lib.hid hbV;have HKV:=Lib.hid hkV;have HE:=Lib.hid hE;clear hA hV hbV hkV h hpp hE
 go_enter Tryz.func90,Tryz.ntmps90
 go_wp2_with fail
 rw [HV.out];refine HA.out.mono ?_;rintro e w2 (⟨hk,rfl,hR2,hK2⟩ | ⟨hk,rfl,hR2,hK2⟩)
 ·have hd2:=hK2.heap HKV.out (by omega) (by omega) (by decide);have hK3:=Below.then_kp HB.out hK2;have hF:R = .ok ⟨tk.text,tk.at_⟩ s.skip:=by rw [HE.out,if_pos (by simp [hk])]
  have HF:=Lib.hid hF;have HR2:=Lib.hid hR2;have HK3:=Lib.hid hK3;have HD2:=Lib.hid hd2;clear hR2 hK2 hK3 hd2 hk hF HA HV HB HKV HE;unfold tval;obtain ⟨V2,hV2⟩:∃ V,w2.alloc (.cells #[.int .i64 tk.kind,.string ⟨tk.text.toArray⟩,.int .i64 tk.int,.int .i64 tk.at_.line,.int .i64 tk.at_.col] 118)=V:=⟨_,rfl⟩;have hbV2:Below w2.heap.size w2 V2:=by rw [<- hV2];exact (Below.refl _ w2).alloc (Nat.le_refl _) _
  have hG:Five V2 w2.heap.size (.int .i64 tk.kind) (.string ⟨tk.text.toArray⟩) (.int .i64 tk.int) (.int .i64 tk.at_.line) (.int .i64 tk.at_.col):=⟨by rw [<- hV2];exact blk_new w2 _⟩;have hdV:V2.heap[w.heap.size]? = some (.cells #[.string ⟨#[]⟩,.int .i64 0,.int .i64 0] 49 (0,0)):=(hbV2.block _ (lt_of_heap HD2.out)).trans HD2.out;have hRV:=HR2.out.below hbV2;have hKV:=HK3.out.then_below hbV2;have HV2:=Lib.hid hV2;have HG:=Lib.hid hG;have HDV:=Lib.hid hdV;have HRV:=Lib.hid hRV;have HKV:=Lib.hid hKV;clear hV2 hbV2 hG hdV hRV hKV HR2 HK3 HD2 p0 p00;have y1:=HG.out.c1;have y3:=HG.out.c3;have y4:=HG.out.c4;have x0:V2.cell? ⟨w.heap.size,0,none⟩=some (.string ⟨#[]⟩):=(blk_cell HDV.out 0).trans rfl;have x1:V2.cell? ⟨w.heap.size,1,none⟩=some (.int .i64 0):=(blk_cell HDV.out 1).trans rfl;have x2:V2.cell? ⟨w.heap.size,2,none⟩=some (.int .i64 0):=(blk_cell HDV.out 2).trans rfl;have xf:∀ i,V2.frozen? ⟨w.heap.size,i,none⟩=false:=fun i=>blk_frozen HDV.out i
  go_upto_region 2 with fail
  rw [HV2.out]
  go_wp2
  have hr3:=blk_set (blk_set (blk_set HDV.out 0 (.string ⟨tk.text.toArray⟩)) 1 (.int .i64 tk.at_.line)) 2 (.int .i64 tk.at_.col);have r0:=(blk_cell hr3 0).trans rfl;have r1:=(blk_cell hr3 1).trans rfl;have r2:=(blk_cell hr3 2).trans rfl;refine bodyPost_ret (v := .tuple #[.agg #[.string ⟨tk.text.toArray⟩,.int .i64 tk.at_.line,.int .i64 tk.at_.col],.nilIface]) (by simp [results,Tryz.results90,go_sem,r0,r1,r2]) rfl (.inl ⟨_,_,HF.out,rfl, ?_, ?_⟩)
  ·exact HRV.out.but (but_three V2 w.heap.size 0 _ _ _) (fun e=>by omega) (fun e=>by omega) (fun e=>by omega) (fun k e => .inr (by subst e;exact ⟨_,_,_,HDV.out,by decide,by decide⟩))
  ·exact HKV.out.new (but_three V2 w.heap.size 0 _ _ _) (fun k e=>by omega)
 ·have hd2:=hK2.heap HKV.out (by omega) (by omega) (by decide);have hK3:=Below.then_kp HB.out hK2;have hF:R = .bad 5 p:=by rw [HE.out,if_neg (by simp [hk])]
  have HF:=Lib.hid hF;have HR2:=Lib.hid hR2;have HK3:=Lib.hid hK3;have HD2:=Lib.hid hd2;clear hR2 hK2 hK3 hd2 hk hF HA HV HB HKV HE;unfold tval Ex.zt;obtain ⟨D,hD⟩:∃ D,dval 5 p=D:=⟨_,rfl⟩;rw [hD];have HDD:=Lib.hid hD;clear hD;obtain ⟨V2,hV2⟩:∃ V,w2.alloc (.cells #[.int .i64 0,.string ⟨#[]⟩,.int .i64 0,.int .i64 0,.int .i64 0] 118)=V:=⟨_,rfl⟩;have hbV2:Below w2.heap.size w2 V2:=by rw [<- hV2];exact (Below.refl _ w2).alloc (Nat.le_refl _) _
  have hG:Five V2 w2.heap.size (.int .i64 0) (.string ⟨#[]⟩) (.int .i64 0) (.int .i64 0) (.int .i64 0):=⟨by rw [<- hV2];exact blk_new w2 _⟩;have hdV:V2.heap[w.heap.size]? = some (.cells #[.string ⟨#[]⟩,.int .i64 0,.int .i64 0] 49 (0,0)):=(hbV2.block _ (lt_of_heap HD2.out)).trans HD2.out;have hRV:=HR2.out.below hbV2;have hKV:=HK3.out.then_below hbV2;have HV2:=Lib.hid hV2;have HG:=Lib.hid hG;have HDV:=Lib.hid hdV;have HRV:=Lib.hid hRV;have HKV:=Lib.hid hKV;clear hV2 hbV2 hG hdV hRV hKV HR2 HK3 HD2 p0 p00;have y1:=HG.out.c1;have y3:=HG.out.c3;have y4:=HG.out.c4;have x0:V2.cell? ⟨w.heap.size,0,none⟩=some (.string ⟨#[]⟩):=(blk_cell HDV.out 0).trans rfl;have x1:V2.cell? ⟨w.heap.size,1,none⟩=some (.int .i64 0):=(blk_cell HDV.out 1).trans rfl;have x2:V2.cell? ⟨w.heap.size,2,none⟩=some (.int .i64 0):=(blk_cell HDV.out 2).trans rfl;have xf:∀ i,V2.frozen? ⟨w.heap.size,i,none⟩=false:=fun i=>blk_frozen HDV.out i
  go_upto_region 2 with fail
  rw [HV2.out]
  go_wp2
  have hr3:=blk_set (blk_set (blk_set HDV.out 0 (.string ⟨#[]⟩)) 1 (.int .i64 0)) 2 (.int .i64 0);have r0:=(blk_cell hr3 0).trans rfl;have r1:=(blk_cell hr3 1).trans rfl;have r2:=(blk_cell hr3 2).trans rfl;refine bodyPost_ret (v := .tuple #[.agg #[.string ⟨#[]⟩,.int .i64 0,.int .i64 0],D]) (by simp [results,Tryz.results90,go_sem,r0,r1,r2]) rfl (.inr ⟨5,p,Pg.zn,HF.out,by rw [HDD.out];rfl, ?_⟩);exact HKV.out.new (but_three V2 w.heap.size 0 _ _ _) (fun k e=>by omega)
end
end Go.Proofs.YtdfpkmfeldoamaaGreatDoor
