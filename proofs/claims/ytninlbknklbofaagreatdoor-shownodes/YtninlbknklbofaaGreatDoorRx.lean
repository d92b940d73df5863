/- A part of the proof: The document's text of each operation. -/
import Derived.Test.YtninlbknklbofaaGreatDoorRl
set_option linter.unusedSimpArgs false
set_option linter.unusedVariables false
set_option maxRecDepth 100000
set_option maxHeartbeats 4000000
namespace Go.Proofs.YtninlbknklbofaaGreatDoor
open Go.RowKit Tn
structure Tb (N:Nat)(mo:Option Addr)(ms:List Nd)(n:Nd)(ka:Option Addr)(kc:Nat)(w0 w:World):Prop where
 nodes:NodesAt N w mo ms
 ints:IntsAt N w ka n.kids
 six:Six w w0.heap.size 30 (.string n.op) (.int .i64 n.line) (.int .i64 n.col) (.string n.name) (.int .i64 n.num) (.slice ka n.kids.length kc)
 below:Below w0.heap.size w0 w
 lt:w0.heap.size<w.heap.size
 old:N<=w0.heap.size
theorem Tb.step {N:Nat}{mo:Option Addr}{ms:List Nd}{n:Nd}{ka:Option Addr}{kc:Nat}{w0 w w':World}(h:Tb N mo ms n ka kc w0 w)(hb:Below w.heap.size w w'):Tb N mo ms n ka kc w0 w' :=
 ⟨h.nodes.below (hb.mono (by have:=h.lt;have:=h.old;omega)),h.ints.below (hb.mono (by have:=h.lt;have:=h.old;omega)),h.six.below hb h.lt,h.below.trans (hb.mono h.below.size),Nat.lt_of_lt_of_le h.lt hb.size,h.old⟩
theorem Tb.here {N:Nat}{mo:Option Addr}{ms:List Nd}{n:Nd}{ka:Option Addr}{kc:Nat}{w0 w:World}(h:Tb N mo ms n ka kc w0 w):N<=w.heap.size:=Nat.le_trans h.old h.below.size
theorem Tb.start {N:Nat}{mo:Option Addr}{ms:List Nd}{n:Nd}{ka:Option Addr}{kc:Nat}{w:World}(hm:NodesAt N w mo ms)(hk:IntsAt N w ka n.kids)(hN:N<=w.heap.size):
  Tb N mo ms n ka kc w (w.alloc (.cells #[.string n.op,.int .i64 n.line,.int .i64 n.col,.string n.name,.int .i64 n.num,.slice ka n.kids.length kc] 30)) :=
 have hb:Below w.heap.size w _:=(Below.refl _ w).alloc (Nat.le_refl _) _
 ⟨hm.below (hb.mono hN),hk.below (hb.mono hN),⟨blk_new w _⟩,hb,by simp,hN⟩
theorem Tb.part {N:Nat}{mo:Option Addr}{mc:Nat}{ms:List Nd}{n:Nd}{ka:Option Addr}{kc:Nat}{w0:World}{g:Nd->Lx.B}(hP:KidsC N mo mc ms g n)(j:Nat)(z:Int)(hz:z=(j:Int))(hj:j<n.kids.length)(least:Int)(hl:(Rt.part ms g (kid n.kids j) least).length<=1000000000){w:World}(h:Tb N mo ms n ka kc w0 w):
  Calls Tryz.prog 37 #[.slice mo ms.length mc,nval n ka kc,.int .i64 z,.int .i64 least] w (TxP (Rt.part ms g (kid n.kids j) least) w):=by
 subst hz;obtain ⟨q,hq,hql,hop,hT⟩:=hP j hj;refine rpart_any N mo mc ms n ka kc j q g hj hq hql hop hT ?_ least w h.nodes h.here h.ints;have h1:=Rt.part_le ms g (kid n.kids j) least;rw [hq,Int.toNat_natCast,<- hq] at h1;omega
theorem Tb.list {N:Nat}{mo:Option Addr}{mc:Nat}{ms:List Nd}{n:Nd}{ka:Option Addr}{kc:Nat}{w0:World}{g:Nd->Lx.B}(hP:KidsC N mo mc ms g n)(hkl:n.kids.length<=1000000)(hl:(Rt.list ms g n.kids).length<=1000000000){w:World}(h:Tb N mo ms n ka kc w0 w):
  Calls Tryz.prog 39 #[.slice mo ms.length mc,nval n ka kc] w (TxP (Rt.list ms g n.kids) w) :=
 rlist_any N mo mc ms n ka kc g hP hkl hl w h.nodes h.here h.ints
theorem rt1 (N:Nat)(mo:Option Addr)(mc:Nat)(ms:List Nd)(g:Nd->Lx.B)(e:Nd->Bool)(i:Nat)(line col num:Int)(name:ByteArray)(kids:List Int)(hnd:nd ms i=⟨⟨#[105,102]⟩,line,col,name,num,kids⟩)(hi:i<ms.length)(hP:KidsC N mo mc ms g ⟨⟨#[105,102]⟩,line,col,name,num,kids⟩)(hk:kids.length=3)(hl:(Rt.nodeP ms g e ⟨#[105,102]⟩ name num kids).length<=1000000000):
  TextC N mo mc ms (Rt.nodeP ms g e ⟨#[105,102]⟩ name num kids) i:=by
 intro w hm hN;have hm2:=hm;obtain ⟨b,o,ka,kc,rfl,hn⟩:=hm i hi;rw [hnd] at hn;have H0:=Lib.hid (Tb.start (kc:=kc) hm2 hn.kids hN);have c0:=hn.c0;have c1:=hn.c1;have c2:=hn.c2;have c3:=hn.c3;have c4:=hn.c4;have c5:=hn.c5;simp only at c0 c1 c2 c3 c4 c5;obtain ⟨W,hW⟩:∃ W,w.alloc (.cells #[.string ⟨#[105,102]⟩,.int .i64 line,.int .i64 col,.string name,.int .i64 num,.slice ka kids.length kc] 30)=W:=⟨_,rfl⟩;simp only at H0;rw [hW] at H0;have HW:=Lib.hid hW;rw [Rt.r1] at hl ⊢;have hns:name.size=name.data.toList.length:=by rw [<- ByteArray.size_data];simp
 have HP0:=fun (w':World) (h:Tb N (some ⟨b,o,none⟩) ms ⟨⟨#[105,102]⟩,line,col,name,num,kids⟩ ka kc w w')=>Tb.part hP 0 0 rfl (by simp only;omega) 0 (by simp only [List.length_append] at hl;simp only;omega) h;obtain ⟨P0,e0⟩:∃ P,Rt.part ms g (kid kids 0) 0=P:=⟨_,rfl⟩;simp only at HP0;rw [e0] at HP0 hl ⊢;have HP1:=fun (w':World) (h:Tb N (some ⟨b,o,none⟩) ms ⟨⟨#[105,102]⟩,line,col,name,num,kids⟩ ka kc w w')=>Tb.part hP 1 1 rfl (by simp only;omega) 1 (by simp only [List.length_append] at hl;simp only;omega) h;obtain ⟨P1,e1⟩:∃ P,Rt.part ms g (kid kids 1) 1=P:=⟨_,rfl⟩;simp only at HP1;rw [e1] at HP1 hl ⊢;have HP2:=fun (w':World) (h:Tb N (some ⟨b,o,none⟩) ms ⟨⟨#[105,102]⟩,line,col,name,num,kids⟩ ka kc w w')=>Tb.part hP 2 2 rfl (by simp only;omega) 1 (by simp only [List.length_append] at hl;simp only;omega) h;obtain ⟨P2,e2⟩:∃ P,Rt.part ms g (kid kids 2) 1=P:=⟨_,rfl⟩;simp only at HP2;rw [e2] at HP2 hl ⊢;simp only [List.length_append,List.length_cons,List.length_nil] at hl;simp only [nval] at *;have HL:∀ w',Hid (Calls Tryz.prog 36 #[.string ⟨#[105,102]⟩] w' (LvP 1 w')):=fun w'=>Lib.hid (by have h:=level_any ⟨#[105,102]⟩ (by simp only [opList,List.mem_cons,true_or,or_true]) w';rwa [show (Sh.formOf ⟨#[105,102]⟩).level=1 from by kernel_rfl] at h);have HQ0:=Lib.hid HP0;have HQ1:=Lib.hid HP1;have HQ2:=Lib.hid HP2;have b0:P0.length<=1000000000:=by omega
 have b1:P1.length<=1000000000:=by omega
 have b2:P2.length<=1000000000:=by omega
 have g0:¬ 9223372036854775807<3+P0.length:=by omega
 have g1:¬ 9223372036854775807<3+P0.length+6:=by omega
 have g2:¬ 9223372036854775807<3+P0.length+6+P1.length:=by omega
 have g3:¬ 9223372036854775807<3+P0.length+6+P1.length+6:=by omega
 have g4:¬ 9223372036854775807<3+P0.length+6+P1.length+6+P2.length:=by omega
 clear HP0 e0 HP1 e1 HP2 e2;clear hn hm hm2 hP hW hnd hns hl hk
 go_enter Tryz.func20,Tryz.ntmps20
 go_upto_region 2 with fail
 rw [HW.out];clear c0 c1 c2 c3 c4 c5;have s0:=H0.out.six;have d0:=s0.c0;have d1:=s0.c1;have d2:=s0.c2;have d3:=s0.c3;have d4:=s0.c4;have d5:=s0.c5;simp only at d0 d1 d2 d3 d4 d5;clear s0
 go_wp2_with fail
 refine ((HL _).out).mono ?_;rintro e w1 ⟨rfl,hb⟩;have H1:=Lib.hid (H0.out.step hb);clear hb d0 d1 d2 d3 d4 d5 H0;have s0:=H1.out.six;have d0:=s0.c0;have d1:=s0.c1;have d2:=s0.c2;have d3:=s0.c3;have d4:=s0.c4;have d5:=s0.c5;simp only at d0 d1 d2 d3 d4 d5;have y0:=fun x:Later w1=>Later.cell d0 x;have y1:=fun x:Later w1=>Later.cell d1 x;have y2:=fun x:Later w1=>Later.cell d2 x;have y3:=fun x:Later w1=>Later.cell d3 x;have y4:=fun x:Later w1=>Later.cell d4 x;have y5:=fun x:Later w1=>Later.cell d5 x;have k0:=fun x:Later w1=>calls_later (HQ0.out x.wx (H1.out.step x.le));have K0:=Lib.hid k0;have k1:=fun x:Later w1=>calls_later (HQ1.out x.wx (H1.out.step x.le));have K1:=Lib.hid k1;have k2:=fun x:Later w1=>calls_later (HQ2.out x.wx (H1.out.step x.le));have K2:=Lib.hid k2;clear s0 k0 k1 k2
 go_wp2_with fail
 clear d0 d1 d2 d3 d4 d5;refine wp_region_later (by kernel_rfl) (by kernel_rfl) ?_
 repeat (first | go_big_quiet_step (first | (go_at_call 37;with_reducible exact K0.out _) | (go_at_call 37;with_reducible exact K1.out _) | (go_at_call 37;with_reducible exact K2.out _)) | quiet_step (first | (go_at_call 37;with_reducible exact K0.out _) | (go_at_call 37;with_reducible exact K1.out _) | (go_at_call 37;with_reducible exact K2.out _)))
 refine wpQuiet_nil ?_;rintro w' ⟨x,rfl⟩;have HX:=Lib.hid (H1.out.below.trans (x.le.mono H1.out.below.size));generalize x.wx=wx at *
 go_wp2
 go_ret
 refine ⟨congrArg (fun t=>Ending.returned (.string t)) ?_,HX.out⟩;apply ByteArray.ext
 simp
theorem rt2 (N:Nat)(mo:Option Addr)(mc:Nat)(ms:List Nd)(g:Nd->Lx.B)(e:Nd->Bool)(i:Nat)(line col num:Int)(name:ByteArray)(kids:List Int)(hnd:nd ms i=⟨⟨#[108,101,116]⟩,line,col,name,num,kids⟩)(hi:i<ms.length)(hP:KidsC N mo mc ms g ⟨⟨#[108,101,116]⟩,line,col,name,num,kids⟩)(hk:kids.length=2)(hl:(Rt.nodeP ms g e ⟨#[108,101,116]⟩ name num kids).length<=1000000000):
  TextC N mo mc ms (Rt.nodeP ms g e ⟨#[108,101,116]⟩ name num kids) i:=by
 intro w hm hN;have hm2:=hm;obtain ⟨b,o,ka,kc,rfl,hn⟩:=hm i hi;rw [hnd] at hn;have H0:=Lib.hid (Tb.start (kc:=kc) hm2 hn.kids hN);have c0:=hn.c0;have c1:=hn.c1;have c2:=hn.c2;have c3:=hn.c3;have c4:=hn.c4;have c5:=hn.c5;simp only at c0 c1 c2 c3 c4 c5;obtain ⟨W,hW⟩:∃ W,w.alloc (.cells #[.string ⟨#[108,101,116]⟩,.int .i64 line,.int .i64 col,.string name,.int .i64 num,.slice ka kids.length kc] 30)=W:=⟨_,rfl⟩;simp only at H0;rw [hW] at H0;have HW:=Lib.hid hW;rw [Rt.r2] at hl ⊢;have hns:name.size=name.data.toList.length:=by rw [<- ByteArray.size_data];simp
 have HP0:=fun (w':World) (h:Tb N (some ⟨b,o,none⟩) ms ⟨⟨#[108,101,116]⟩,line,col,name,num,kids⟩ ka kc w w')=>Tb.part hP 0 0 rfl (by simp only;omega) 0 (by simp only [List.length_append] at hl;simp only;omega) h;obtain ⟨P0,e0⟩:∃ P,Rt.part ms g (kid kids 0) 0=P:=⟨_,rfl⟩;simp only at HP0;rw [e0] at HP0 hl ⊢;have HP1:=fun (w':World) (h:Tb N (some ⟨b,o,none⟩) ms ⟨⟨#[108,101,116]⟩,line,col,name,num,kids⟩ ka kc w w')=>Tb.part hP 1 1 rfl (by simp only;omega) 0 (by simp only [List.length_append] at hl;simp only;omega) h;obtain ⟨P1,e1⟩:∃ P,Rt.part ms g (kid kids 1) 0=P:=⟨_,rfl⟩;simp only at HP1;rw [e1] at HP1 hl ⊢;simp only [List.length_append,List.length_cons,List.length_nil] at hl;simp only [nval] at *;have HL:∀ w',Hid (Calls Tryz.prog 36 #[.string ⟨#[108,101,116]⟩] w' (LvP 1 w')):=fun w'=>Lib.hid (by have h:=level_any ⟨#[108,101,116]⟩ (by simp only [opList,List.mem_cons,true_or,or_true]) w';rwa [show (Sh.formOf ⟨#[108,101,116]⟩).level=1 from by kernel_rfl] at h);have HQ0:=Lib.hid HP0;have HQ1:=Lib.hid HP1;have b0:P0.length<=1000000000:=by omega
 have b1:P1.length<=1000000000:=by omega
 have bn:name.size<=1000000000:=by omega
 have g0:¬ 9223372036854775807<4+name.size:=by omega
 have g1:¬ 9223372036854775807<4+name.size+3:=by omega
 have g2:¬ 9223372036854775807<4+name.size+3+P0.length:=by omega
 have g3:¬ 9223372036854775807<4+name.size+3+P0.length+4:=by omega
 have g4:¬ 9223372036854775807<4+name.size+3+P0.length+4+P1.length:=by omega
 clear HP0 e0 HP1 e1;clear hn hm hm2 hP hW hnd hns hl hk
 go_enter Tryz.func20,Tryz.ntmps20
 go_upto_region 2 with fail
 rw [HW.out];clear c0 c1 c2 c3 c4 c5;have s0:=H0.out.six;have d0:=s0.c0;have d1:=s0.c1;have d2:=s0.c2;have d3:=s0.c3;have d4:=s0.c4;have d5:=s0.c5;simp only at d0 d1 d2 d3 d4 d5;clear s0
 go_wp2_with fail
 refine ((HL _).out).mono ?_;rintro e w1 ⟨rfl,hb⟩;have H1:=Lib.hid (H0.out.step hb);clear hb d0 d1 d2 d3 d4 d5 H0;have s0:=H1.out.six;have d0:=s0.c0;have d1:=s0.c1;have d2:=s0.c2;have d3:=s0.c3;have d4:=s0.c4;have d5:=s0.c5;simp only at d0 d1 d2 d3 d4 d5;have y0:=fun x:Later w1=>Later.cell d0 x;have y1:=fun x:Later w1=>Later.cell d1 x;have y2:=fun x:Later w1=>Later.cell d2 x;have y3:=fun x:Later w1=>Later.cell d3 x;have y4:=fun x:Later w1=>Later.cell d4 x;have y5:=fun x:Later w1=>Later.cell d5 x;have k0:=fun x:Later w1=>calls_later (HQ0.out x.wx (H1.out.step x.le));have K0:=Lib.hid k0;have k1:=fun x:Later w1=>calls_later (HQ1.out x.wx (H1.out.step x.le));have K1:=Lib.hid k1;clear s0 k0 k1
 go_wp2_with fail
 clear d0 d1 d2 d3 d4 d5;refine wp_region_later (by kernel_rfl) (by kernel_rfl) ?_
 repeat (first | go_big_quiet_step (first | (go_at_call 37;with_reducible exact K0.out _) | (go_at_call 37;with_reducible exact K1.out _)) | quiet_step (first | (go_at_call 37;with_reducible exact K0.out _) | (go_at_call 37;with_reducible exact K1.out _)))
 refine wpQuiet_nil ?_;rintro w' ⟨x,rfl⟩;have HX:=Lib.hid (H1.out.below.trans (x.le.mono H1.out.below.size));generalize x.wx=wx at *
 go_wp2
 go_ret
 refine ⟨congrArg (fun t=>Ending.returned (.string t)) ?_,HX.out⟩;apply ByteArray.ext
 simp
theorem rt3 (N:Nat)(mo:Option Addr)(mc:Nat)(ms:List Nd)(g:Nd->Lx.B)(e:Nd->Bool)(i:Nat)(line col num:Int)(name:ByteArray)(kids:List Int)(hnd:nd ms i=⟨⟨#[116,114,121]⟩,line,col,name,num,kids⟩)(hi:i<ms.length)(hP:KidsC N mo mc ms g ⟨⟨#[116,114,121]⟩,line,col,name,num,kids⟩)(hk:kids.length=2)(hl:(Rt.nodeP ms g e ⟨#[116,114,121]⟩ name num kids).length<=1000000000):
  TextC N mo mc ms (Rt.nodeP ms g e ⟨#[116,114,121]⟩ name num kids) i:=by
 intro w hm hN;have hm2:=hm;obtain ⟨b,o,ka,kc,rfl,hn⟩:=hm i hi;rw [hnd] at hn;have H0:=Lib.hid (Tb.start (kc:=kc) hm2 hn.kids hN);have c0:=hn.c0;have c1:=hn.c1;have c2:=hn.c2;have c3:=hn.c3;have c4:=hn.c4;have c5:=hn.c5;simp only at c0 c1 c2 c3 c4 c5;obtain ⟨W,hW⟩:∃ W,w.alloc (.cells #[.string ⟨#[116,114,121]⟩,.int .i64 line,.int .i64 col,.string name,.int .i64 num,.slice ka kids.length kc] 30)=W:=⟨_,rfl⟩;simp only at H0;rw [hW] at H0;have HW:=Lib.hid hW;rw [Rt.r3] at hl ⊢;have hns:name.size=name.data.toList.length:=by rw [<- ByteArray.size_data];simp
 have HP0:=fun (w':World) (h:Tb N (some ⟨b,o,none⟩) ms ⟨⟨#[116,114,121]⟩,line,col,name,num,kids⟩ ka kc w w')=>Tb.part hP 0 0 rfl (by simp only;omega) 0 (by simp only [List.length_append] at hl;simp only;omega) h;obtain ⟨P0,e0⟩:∃ P,Rt.part ms g (kid kids 0) 0=P:=⟨_,rfl⟩;simp only at HP0;rw [e0] at HP0 hl ⊢;have HP1:=fun (w':World) (h:Tb N (some ⟨b,o,none⟩) ms ⟨⟨#[116,114,121]⟩,line,col,name,num,kids⟩ ka kc w w')=>Tb.part hP 1 1 rfl (by simp only;omega) 1 (by simp only [List.length_append] at hl;simp only;omega) h;obtain ⟨P1,e1⟩:∃ P,Rt.part ms g (kid kids 1) 1=P:=⟨_,rfl⟩;simp only at HP1;rw [e1] at HP1 hl ⊢;simp only [List.length_append,List.length_cons,List.length_nil] at hl;simp only [nval] at *;have HL:∀ w',Hid (Calls Tryz.prog 36 #[.string ⟨#[116,114,121]⟩] w' (LvP 1 w')):=fun w'=>Lib.hid (by have h:=level_any ⟨#[116,114,121]⟩ (by simp only [opList,List.mem_cons,true_or,or_true]) w';rwa [show (Sh.formOf ⟨#[116,114,121]⟩).level=1 from by kernel_rfl] at h);have HQ0:=Lib.hid HP0;have HQ1:=Lib.hid HP1;have b0:P0.length<=1000000000:=by omega
 have b1:P1.length<=1000000000:=by omega
 have bn:name.size<=1000000000:=by omega
 have g0:¬ 9223372036854775807<4+P0.length:=by omega
 have g1:¬ 9223372036854775807<4+P0.length+6:=by omega
 have g2:¬ 9223372036854775807<4+P0.length+6+name.size:=by omega
 have g3:¬ 9223372036854775807<4+P0.length+6+name.size+4:=by omega
 have g4:¬ 9223372036854775807<4+P0.length+6+name.size+4+P1.length:=by omega
 clear HP0 e0 HP1 e1;clear hn hm hm2 hP hW hnd hns hl hk
 go_enter Tryz.func20,Tryz.ntmps20
 go_upto_region 2 with fail
 rw [HW.out];clear c0 c1 c2 c3 c4 c5;have s0:=H0.out.six;have d0:=s0.c0;have d1:=s0.c1;have d2:=s0.c2;have d3:=s0.c3;have d4:=s0.c4;have d5:=s0.c5;simp only at d0 d1 d2 d3 d4 d5;clear s0
 go_wp2_with fail
 refine ((HL _).out).mono ?_;rintro e w1 ⟨rfl,hb⟩;have H1:=Lib.hid (H0.out.step hb);clear hb d0 d1 d2 d3 d4 d5 H0;have s0:=H1.out.six;have d0:=s0.c0;have d1:=s0.c1;have d2:=s0.c2;have d3:=s0.c3;have d4:=s0.c4;have d5:=s0.c5;simp only at d0 d1 d2 d3 d4 d5;have y0:=fun x:Later w1=>Later.cell d0 x;have y1:=fun x:Later w1=>Later.cell d1 x;have y2:=fun x:Later w1=>Later.cell d2 x;have y3:=fun x:Later w1=>Later.cell d3 x;have y4:=fun x:Later w1=>Later.cell d4 x;have y5:=fun x:Later w1=>Later.cell d5 x;have k0:=fun x:Later w1=>calls_later (HQ0.out x.wx (H1.out.step x.le));have K0:=Lib.hid k0;have k1:=fun x:Later w1=>calls_later (HQ1.out x.wx (H1.out.step x.le));have K1:=Lib.hid k1;clear s0 k0 k1
 go_wp2_with fail
 clear d0 d1 d2 d3 d4 d5;refine wp_region_later (by kernel_rfl) (by kernel_rfl) ?_
 repeat (first | go_big_quiet_step (first | (go_at_call 37;with_reducible exact K0.out _) | (go_at_call 37;with_reducible exact K1.out _)) | quiet_step (first | (go_at_call 37;with_reducible exact K0.out _) | (go_at_call 37;with_reducible exact K1.out _)))
 refine wpQuiet_nil ?_;rintro w' ⟨x,rfl⟩;have HX:=Lib.hid (H1.out.below.trans (x.le.mono H1.out.below.size));generalize x.wx=wx at *
 go_wp2
 go_ret
 refine ⟨congrArg (fun t=>Ending.returned (.string t)) ?_,HX.out⟩;apply ByteArray.ext
 simp
theorem rt4 (N:Nat)(mo:Option Addr)(mc:Nat)(ms:List Nd)(g:Nd->Lx.B)(e:Nd->Bool)(i:Nat)(line col num:Int)(name:ByteArray)(kids:List Int)(hnd:nd ms i=⟨⟨#[111,117,116]⟩,line,col,name,num,kids⟩)(hi:i<ms.length)(hP:KidsC N mo mc ms g ⟨⟨#[111,117,116]⟩,line,col,name,num,kids⟩)(hk:kids.length=1)(hl:(Rt.nodeP ms g e ⟨#[111,117,116]⟩ name num kids).length<=1000000000):
  TextC N mo mc ms (Rt.nodeP ms g e ⟨#[111,117,116]⟩ name num kids) i:=by
 intro w hm hN;have hm2:=hm;obtain ⟨b,o,ka,kc,rfl,hn⟩:=hm i hi;rw [hnd] at hn;have H0:=Lib.hid (Tb.start (kc:=kc) hm2 hn.kids hN);have c0:=hn.c0;have c1:=hn.c1;have c2:=hn.c2;have c3:=hn.c3;have c4:=hn.c4;have c5:=hn.c5;simp only at c0 c1 c2 c3 c4 c5;obtain ⟨W,hW⟩:∃ W,w.alloc (.cells #[.string ⟨#[111,117,116]⟩,.int .i64 line,.int .i64 col,.string name,.int .i64 num,.slice ka kids.length kc] 30)=W:=⟨_,rfl⟩;simp only at H0;rw [hW] at H0;have HW:=Lib.hid hW;rw [Rt.r4] at hl ⊢;have hns:name.size=name.data.toList.length:=by rw [<- ByteArray.size_data];simp
 have HP0:=fun (w':World) (h:Tb N (some ⟨b,o,none⟩) ms ⟨⟨#[111,117,116]⟩,line,col,name,num,kids⟩ ka kc w w')=>Tb.part hP 0 0 rfl (by simp only;omega) 2 (by simp only [List.length_append] at hl;simp only;omega) h;obtain ⟨P0,e0⟩:∃ P,Rt.part ms g (kid kids 0) 2=P:=⟨_,rfl⟩;simp only at HP0;rw [e0] at HP0 hl ⊢;simp only [List.length_append,List.length_cons,List.length_nil] at hl;simp only [nval] at *;have HL:∀ w',Hid (Calls Tryz.prog 36 #[.string ⟨#[111,117,116]⟩] w' (LvP 1 w')):=fun w'=>Lib.hid (by have h:=level_any ⟨#[111,117,116]⟩ (by simp only [opList,List.mem_cons,true_or,or_true]) w';rwa [show (Sh.formOf ⟨#[111,117,116]⟩).level=1 from by kernel_rfl] at h);have HQ0:=Lib.hid HP0;have b0:P0.length<=1000000000:=by omega
 have bn:name.size<=1000000000:=by omega
 have g0:¬ 9223372036854775807<4+name.size:=by omega
 have g1:¬ 9223372036854775807<4+name.size+1:=by omega
 have g2:¬ 9223372036854775807<4+name.size+1+P0.length:=by omega
 clear HP0 e0;clear hn hm hm2 hP hW hnd hns hl hk
 go_enter Tryz.func20,Tryz.ntmps20
 go_upto_region 2 with fail
 rw [HW.out];clear c0 c1 c2 c3 c4 c5;have s0:=H0.out.six;have d0:=s0.c0;have d1:=s0.c1;have d2:=s0.c2;have d3:=s0.c3;have d4:=s0.c4;have d5:=s0.c5;simp only at d0 d1 d2 d3 d4 d5;clear s0
 go_wp2_with fail
 refine ((HL _).out).mono ?_;rintro e w1 ⟨rfl,hb⟩;have H1:=Lib.hid (H0.out.step hb);clear hb d0 d1 d2 d3 d4 d5 H0;have s0:=H1.out.six;have d0:=s0.c0;have d1:=s0.c1;have d2:=s0.c2;have d3:=s0.c3;have d4:=s0.c4;have d5:=s0.c5;simp only at d0 d1 d2 d3 d4 d5;have y0:=fun x:Later w1=>Later.cell d0 x;have y1:=fun x:Later w1=>Later.cell d1 x;have y2:=fun x:Later w1=>Later.cell d2 x;have y3:=fun x:Later w1=>Later.cell d3 x;have y4:=fun x:Later w1=>Later.cell d4 x;have y5:=fun x:Later w1=>Later.cell d5 x;have k0:=fun x:Later w1=>calls_later (HQ0.out x.wx (H1.out.step x.le));have K0:=Lib.hid k0;clear s0 k0
 go_wp2_with fail
 clear d0 d1 d2 d3 d4 d5;refine wp_region_later (by kernel_rfl) (by kernel_rfl) ?_
 repeat (first | go_big_quiet_step (first | (go_at_call 37;with_reducible exact K0.out _)) | quiet_step (first | (go_at_call 37;with_reducible exact K0.out _)))
 refine wpQuiet_nil ?_;rintro w' ⟨x,rfl⟩;have HX:=Lib.hid (H1.out.below.trans (x.le.mono H1.out.below.size));generalize x.wx=wx at *
 go_wp2
 go_ret
 refine ⟨congrArg (fun t=>Ending.returned (.string t)) ?_,HX.out⟩;apply ByteArray.ext
 simp
theorem rt5 (N:Nat)(mo:Option Addr)(mc:Nat)(ms:List Nd)(g:Nd->Lx.B)(e:Nd->Bool)(i:Nat)(line col num:Int)(name:ByteArray)(kids:List Int)(hnd:nd ms i=⟨⟨#[115,101,116]⟩,line,col,name,num,kids⟩)(hi:i<ms.length)(hP:KidsC N mo mc ms g ⟨⟨#[115,101,116]⟩,line,col,name,num,kids⟩)(hk:kids.length=1)(hl:(Rt.nodeP ms g e ⟨#[115,101,116]⟩ name num kids).length<=1000000000):
  TextC N mo mc ms (Rt.nodeP ms g e ⟨#[115,101,116]⟩ name num kids) i:=by
 intro w hm hN;have hm2:=hm;obtain ⟨b,o,ka,kc,rfl,hn⟩:=hm i hi;rw [hnd] at hn;have H0:=Lib.hid (Tb.start (kc:=kc) hm2 hn.kids hN);have c0:=hn.c0;have c1:=hn.c1;have c2:=hn.c2;have c3:=hn.c3;have c4:=hn.c4;have c5:=hn.c5;simp only at c0 c1 c2 c3 c4 c5;obtain ⟨W,hW⟩:∃ W,w.alloc (.cells #[.string ⟨#[115,101,116]⟩,.int .i64 line,.int .i64 col,.string name,.int .i64 num,.slice ka kids.length kc] 30)=W:=⟨_,rfl⟩;simp only at H0;rw [hW] at H0;have HW:=Lib.hid hW;rw [Rt.r5] at hl ⊢;have hns:name.size=name.data.toList.length:=by rw [<- ByteArray.size_data];simp
 have HP0:=fun (w':World) (h:Tb N (some ⟨b,o,none⟩) ms ⟨⟨#[115,101,116]⟩,line,col,name,num,kids⟩ ka kc w w')=>Tb.part hP 0 0 rfl (by simp only;omega) 2 (by simp only [List.length_append] at hl;simp only;omega) h;obtain ⟨P0,e0⟩:∃ P,Rt.part ms g (kid kids 0) 2=P:=⟨_,rfl⟩;simp only at HP0;rw [e0] at HP0 hl ⊢;simp only [List.length_append,List.length_cons,List.length_nil] at hl;simp only [nval] at *;have HL:∀ w',Hid (Calls Tryz.prog 36 #[.string ⟨#[115,101,116]⟩] w' (LvP 1 w')):=fun w'=>Lib.hid (by have h:=level_any ⟨#[115,101,116]⟩ (by simp only [opList,List.mem_cons,true_or,or_true]) w';rwa [show (Sh.formOf ⟨#[115,101,116]⟩).level=1 from by kernel_rfl] at h);have HQ0:=Lib.hid HP0;have b0:P0.length<=1000000000:=by omega
 have bn:name.size<=1000000000:=by omega
 have g0:¬ 9223372036854775807<name.size+4:=by omega
 have g1:¬ 9223372036854775807<name.size+4+P0.length:=by omega
 clear HP0 e0;clear hn hm hm2 hP hW hnd hns hl hk
 go_enter Tryz.func20,Tryz.ntmps20
 go_upto_region 2 with fail
 rw [HW.out];clear c0 c1 c2 c3 c4 c5;have s0:=H0.out.six;have d0:=s0.c0;have d1:=s0.c1;have d2:=s0.c2;have d3:=s0.c3;have d4:=s0.c4;have d5:=s0.c5;simp only at d0 d1 d2 d3 d4 d5;clear s0
 go_wp2_with fail
 refine ((HL _).out).mono ?_;rintro e w1 ⟨rfl,hb⟩;have H1:=Lib.hid (H0.out.step hb);clear hb d0 d1 d2 d3 d4 d5 H0;have s0:=H1.out.six;have d0:=s0.c0;have d1:=s0.c1;have d2:=s0.c2;have d3:=s0.c3;have d4:=s0.c4;have d5:=s0.c5;simp only at d0 d1 d2 d3 d4 d5;have y0:=fun x:Later w1=>Later.cell d0 x;have y1:=fun x:Later w1=>Later.cell d1 x;have y2:=fun x:Later w1=>Later.cell d2 x;have y3:=fun x:Later w1=>Later.cell d3 x;have y4:=fun x:Later w1=>Later.cell d4 x;have y5:=fun x:Later w1=>Later.cell d5 x;have k0:=fun x:Later w1=>calls_later (HQ0.out x.wx (H1.out.step x.le));have K0:=Lib.hid k0;clear s0 k0
 go_wp2_with fail
 clear d0 d1 d2 d3 d4 d5;refine wp_region_later (by kernel_rfl) (by kernel_rfl) ?_
 repeat (first | go_big_quiet_step (first | (go_at_call 37;with_reducible exact K0.out _)) | quiet_step (first | (go_at_call 37;with_reducible exact K0.out _)))
 refine wpQuiet_nil ?_;rintro w' ⟨x,rfl⟩;have HX:=Lib.hid (H1.out.below.trans (x.le.mono H1.out.below.size));generalize x.wx=wx at *
 go_wp2
 go_ret
 refine ⟨congrArg (fun t=>Ending.returned (.string t)) ?_,HX.out⟩;apply ByteArray.ext
 simp
theorem rt6 (N:Nat)(mo:Option Addr)(mc:Nat)(ms:List Nd)(g:Nd->Lx.B)(e:Nd->Bool)(i:Nat)(line col num:Int)(name:ByteArray)(kids:List Int)(hnd:nd ms i=⟨⟨#[114,97,105,115,101]⟩,line,col,name,num,kids⟩)(hi:i<ms.length)(hP:KidsC N mo mc ms g ⟨⟨#[114,97,105,115,101]⟩,line,col,name,num,kids⟩)(hl:(Rt.nodeP ms g e ⟨#[114,97,105,115,101]⟩ name num kids).length<=1000000000):
  TextC N mo mc ms (Rt.nodeP ms g e ⟨#[114,97,105,115,101]⟩ name num kids) i:=by
 intro w hm hN;have hm2:=hm;obtain ⟨b,o,ka,kc,rfl,hn⟩:=hm i hi;rw [hnd] at hn;have H0:=Lib.hid (Tb.start (kc:=kc) hm2 hn.kids hN);have c0:=hn.c0;have c1:=hn.c1;have c2:=hn.c2;have c3:=hn.c3;have c4:=hn.c4;have c5:=hn.c5;simp only at c0 c1 c2 c3 c4 c5;obtain ⟨W,hW⟩:∃ W,w.alloc (.cells #[.string ⟨#[114,97,105,115,101]⟩,.int .i64 line,.int .i64 col,.string name,.int .i64 num,.slice ka kids.length kc] 30)=W:=⟨_,rfl⟩;simp only at H0;rw [hW] at H0;have HW:=Lib.hid hW;rw [Rt.r6] at hl ⊢;have hns:name.size=name.data.toList.length:=by rw [<- ByteArray.size_data];simp
 simp only [List.length_append,List.length_cons,List.length_nil] at hl;have HL:∀ w',Hid (Calls Tryz.prog 36 #[.string ⟨#[114,97,105,115,101]⟩] w' (LvP 1 w')):=fun w'=>Lib.hid (by have h:=level_any ⟨#[114,97,105,115,101]⟩ (by simp only [opList,List.mem_cons,true_or,or_true]) w';rwa [show (Sh.formOf ⟨#[114,97,105,115,101]⟩).level=1 from by kernel_rfl] at h);have bn:name.size<=1000000000:=by omega
 have g0:¬ 9223372036854775807<5+1:=by omega
 have g1:¬ 9223372036854775807<5+1+name.size:=by omega
 clear hn hm hm2 hP hW hnd hns hl
 go_enter Tryz.func20,Tryz.ntmps20
 go_upto_region 2 with fail
 rw [HW.out];clear c0 c1 c2 c3 c4 c5;have s0:=H0.out.six;have d0:=s0.c0;have d1:=s0.c1;have d2:=s0.c2;have d3:=s0.c3;have d4:=s0.c4;have d5:=s0.c5;simp only at d0 d1 d2 d3 d4 d5;clear s0
 go_wp2_with fail
 refine ((HL _).out).mono ?_;rintro e w1 ⟨rfl,hb⟩;have H1:=Lib.hid (H0.out.step hb);clear hb d0 d1 d2 d3 d4 d5 H0;have s0:=H1.out.six;have d0:=s0.c0;have d1:=s0.c1;have d2:=s0.c2;have d3:=s0.c3;have d4:=s0.c4;have d5:=s0.c5;simp only at d0 d1 d2 d3 d4 d5;clear s0
 go_wp2
 go_ret
 refine ⟨congrArg (fun t=>Ending.returned (.string t)) ?_,H1.out.below⟩;apply ByteArray.ext
 simp
theorem rt7 (N:Nat)(mo:Option Addr)(mc:Nat)(ms:List Nd)(g:Nd->Lx.B)(e:Nd->Bool)(i:Nat)(line col num:Int)(name:ByteArray)(kids:List Int)(hnd:nd ms i=⟨⟨#[111,114]⟩,line,col,name,num,kids⟩)(hi:i<ms.length)(hP:KidsC N mo mc ms g ⟨⟨#[111,114]⟩,line,col,name,num,kids⟩)(hk:kids.length=2)(hl:(Rt.nodeP ms g e ⟨#[111,114]⟩ name num kids).length<=1000000000):
  TextC N mo mc ms (Rt.nodeP ms g e ⟨#[111,114]⟩ name num kids) i:=by
 intro w hm hN;have hm2:=hm;obtain ⟨b,o,ka,kc,rfl,hn⟩:=hm i hi;rw [hnd] at hn;have H0:=Lib.hid (Tb.start (kc:=kc) hm2 hn.kids hN);have c0:=hn.c0;have c1:=hn.c1;have c2:=hn.c2;have c3:=hn.c3;have c4:=hn.c4;have c5:=hn.c5;simp only at c0 c1 c2 c3 c4 c5;obtain ⟨W,hW⟩:∃ W,w.alloc (.cells #[.string ⟨#[111,114]⟩,.int .i64 line,.int .i64 col,.string name,.int .i64 num,.slice ka kids.length kc] 30)=W:=⟨_,rfl⟩;simp only at H0;rw [hW] at H0;have HW:=Lib.hid hW;rw [Rt.r7] at hl ⊢;have hns:name.size=name.data.toList.length:=by rw [<- ByteArray.size_data];simp
 have HP0:=fun (w':World) (h:Tb N (some ⟨b,o,none⟩) ms ⟨⟨#[111,114]⟩,line,col,name,num,kids⟩ ka kc w w')=>Tb.part hP 0 0 rfl (by simp only;omega) 2 (by simp only [List.length_append] at hl;simp only;omega) h;obtain ⟨P0,e0⟩:∃ P,Rt.part ms g (kid kids 0) 2=P:=⟨_,rfl⟩;simp only at HP0;rw [e0] at HP0 hl ⊢;have HP1:=fun (w':World) (h:Tb N (some ⟨b,o,none⟩) ms ⟨⟨#[111,114]⟩,line,col,name,num,kids⟩ ka kc w w')=>Tb.part hP 1 1 rfl (by simp only;omega) 3 (by simp only [List.length_append] at hl;simp only;omega) h;obtain ⟨P1,e1⟩:∃ P,Rt.part ms g (kid kids 1) 3=P:=⟨_,rfl⟩;simp only at HP1;rw [e1] at HP1 hl ⊢;simp only [List.length_append,List.length_cons,List.length_nil] at hl;simp only [nval] at *;have HL:∀ w',Hid (Calls Tryz.prog 36 #[.string ⟨#[111,114]⟩] w' (LvP 2 w')):=fun w'=>Lib.hid (by have h:=level_any ⟨#[111,114]⟩ (by simp only [opList,List.mem_cons,true_or,or_true]) w';rwa [show (Sh.formOf ⟨#[111,114]⟩).level=2 from by kernel_rfl] at h);have HQ0:=Lib.hid HP0;have HQ1:=Lib.hid HP1;have b0:P0.length<=1000000000:=by omega
 have b1:P1.length<=1000000000:=by omega
 have g0:¬ 9223372036854775807<P0.length+1:=by omega
 have g1:¬ 9223372036854775807<P0.length+1+2:=by omega
 have g2:¬ 9223372036854775807<P0.length+1+2+1:=by omega
 have g3:¬ 9223372036854775807<P0.length+1+2+1+P1.length:=by omega
 clear HP0 e0 HP1 e1;clear hn hm hm2 hP hW hnd hns hl hk
 go_enter Tryz.func20,Tryz.ntmps20
 go_upto_region 2 with fail
 rw [HW.out];clear c0 c1 c2 c3 c4 c5;have s0:=H0.out.six;have d0:=s0.c0;have d1:=s0.c1;have d2:=s0.c2;have d3:=s0.c3;have d4:=s0.c4;have d5:=s0.c5;simp only at d0 d1 d2 d3 d4 d5;clear s0
 go_wp2_with fail
 refine ((HL _).out).mono ?_;rintro e w1 ⟨rfl,hb⟩;have H1:=Lib.hid (H0.out.step hb);clear hb d0 d1 d2 d3 d4 d5 H0;have s0:=H1.out.six;have d0:=s0.c0;have d1:=s0.c1;have d2:=s0.c2;have d3:=s0.c3;have d4:=s0.c4;have d5:=s0.c5;simp only at d0 d1 d2 d3 d4 d5;have y0:=fun x:Later w1=>Later.cell d0 x;have y1:=fun x:Later w1=>Later.cell d1 x;have y2:=fun x:Later w1=>Later.cell d2 x;have y3:=fun x:Later w1=>Later.cell d3 x;have y4:=fun x:Later w1=>Later.cell d4 x;have y5:=fun x:Later w1=>Later.cell d5 x;have k0:=fun x:Later w1=>calls_later (HQ0.out x.wx (H1.out.step x.le));have K0:=Lib.hid k0;have k1:=fun x:Later w1=>calls_later (HQ1.out x.wx (H1.out.step x.le));have K1:=Lib.hid k1;clear s0 k0 k1
 go_wp2_with fail
 clear d0 d1 d2 d3 d4 d5;refine wp_region_later (by kernel_rfl) (by kernel_rfl) ?_
 repeat (first | go_big_quiet_step (first | (go_at_call 37;with_reducible exact K0.out _) | (go_at_call 37;with_reducible exact K1.out _)) | quiet_step (first | (go_at_call 37;with_reducible exact K0.out _) | (go_at_call 37;with_reducible exact K1.out _)))
 refine wpQuiet_nil ?_;rintro w' ⟨x,rfl⟩;have HX:=Lib.hid (H1.out.below.trans (x.le.mono H1.out.below.size));generalize x.wx=wx at *
 go_wp2
 go_ret
 refine ⟨congrArg (fun t=>Ending.returned (.string t)) ?_,HX.out⟩;apply ByteArray.ext
 simp
theorem rt8 (N:Nat)(mo:Option Addr)(mc:Nat)(ms:List Nd)(g:Nd->Lx.B)(e:Nd->Bool)(i:Nat)(line col num:Int)(name:ByteArray)(kids:List Int)(hnd:nd ms i=⟨⟨#[97,110,100]⟩,line,col,name,num,kids⟩)(hi:i<ms.length)(hP:KidsC N mo mc ms g ⟨⟨#[97,110,100]⟩,line,col,name,num,kids⟩)(hk:kids.length=2)(hl:(Rt.nodeP ms g e ⟨#[97,110,100]⟩ name num kids).length<=1000000000):
  TextC N mo mc ms (Rt.nodeP ms g e ⟨#[97,110,100]⟩ name num kids) i:=by
 intro w hm hN;have hm2:=hm;obtain ⟨b,o,ka,kc,rfl,hn⟩:=hm i hi;rw [hnd] at hn;have H0:=Lib.hid (Tb.start (kc:=kc) hm2 hn.kids hN);have c0:=hn.c0;have c1:=hn.c1;have c2:=hn.c2;have c3:=hn.c3;have c4:=hn.c4;have c5:=hn.c5;simp only at c0 c1 c2 c3 c4 c5;obtain ⟨W,hW⟩:∃ W,w.alloc (.cells #[.string ⟨#[97,110,100]⟩,.int .i64 line,.int .i64 col,.string name,.int .i64 num,.slice ka kids.length kc] 30)=W:=⟨_,rfl⟩;simp only at H0;rw [hW] at H0;have HW:=Lib.hid hW;rw [Rt.r8] at hl ⊢;have hns:name.size=name.data.toList.length:=by rw [<- ByteArray.size_data];simp
 have HP0:=fun (w':World) (h:Tb N (some ⟨b,o,none⟩) ms ⟨⟨#[97,110,100]⟩,line,col,name,num,kids⟩ ka kc w w')=>Tb.part hP 0 0 rfl (by simp only;omega) 3 (by simp only [List.length_append] at hl;simp only;omega) h;obtain ⟨P0,e0⟩:∃ P,Rt.part ms g (kid kids 0) 3=P:=⟨_,rfl⟩;simp only at HP0;rw [e0] at HP0 hl ⊢;have HP1:=fun (w':World) (h:Tb N (some ⟨b,o,none⟩) ms ⟨⟨#[97,110,100]⟩,line,col,name,num,kids⟩ ka kc w w')=>Tb.part hP 1 1 rfl (by simp only;omega) 4 (by simp only [List.length_append] at hl;simp only;omega) h;obtain ⟨P1,e1⟩:∃ P,Rt.part ms g (kid kids 1) 4=P:=⟨_,rfl⟩;simp only at HP1;rw [e1] at HP1 hl ⊢;simp only [List.length_append,List.length_cons,List.length_nil] at hl;simp only [nval] at *;have HL:∀ w',Hid (Calls Tryz.prog 36 #[.string ⟨#[97,110,100]⟩] w' (LvP 3 w')):=fun w'=>Lib.hid (by have h:=level_any ⟨#[97,110,100]⟩ (by simp only [opList,List.mem_cons,true_or,or_true]) w';rwa [show (Sh.formOf ⟨#[97,110,100]⟩).level=3 from by kernel_rfl] at h);have HQ0:=Lib.hid HP0;have HQ1:=Lib.hid HP1;have b0:P0.length<=1000000000:=by omega
 have b1:P1.length<=1000000000:=by omega
 have g0:¬ 9223372036854775807<P0.length+1:=by omega
 have g1:¬ 9223372036854775807<P0.length+1+3:=by omega
 have g2:¬ 9223372036854775807<P0.length+1+3+1:=by omega
 have g3:¬ 9223372036854775807<P0.length+1+3+1+P1.length:=by omega
 clear HP0 e0 HP1 e1;clear hn hm hm2 hP hW hnd hns hl hk
 go_enter Tryz.func20,Tryz.ntmps20
 go_upto_region 2 with fail
 rw [HW.out];clear c0 c1 c2 c3 c4 c5;have s0:=H0.out.six;have d0:=s0.c0;have d1:=s0.c1;have d2:=s0.c2;have d3:=s0.c3;have d4:=s0.c4;have d5:=s0.c5;simp only at d0 d1 d2 d3 d4 d5;clear s0
 go_wp2_with fail
 refine ((HL _).out).mono ?_;rintro e w1 ⟨rfl,hb⟩;have H1:=Lib.hid (H0.out.step hb);clear hb d0 d1 d2 d3 d4 d5 H0;have s0:=H1.out.six;have d0:=s0.c0;have d1:=s0.c1;have d2:=s0.c2;have d3:=s0.c3;have d4:=s0.c4;have d5:=s0.c5;simp only at d0 d1 d2 d3 d4 d5;have y0:=fun x:Later w1=>Later.cell d0 x;have y1:=fun x:Later w1=>Later.cell d1 x;have y2:=fun x:Later w1=>Later.cell d2 x;have y3:=fun x:Later w1=>Later.cell d3 x;have y4:=fun x:Later w1=>Later.cell d4 x;have y5:=fun x:Later w1=>Later.cell d5 x;have k0:=fun x:Later w1=>calls_later (HQ0.out x.wx (H1.out.step x.le));have K0:=Lib.hid k0;have k1:=fun x:Later w1=>calls_later (HQ1.out x.wx (H1.out.step x.le));have K1:=Lib.hid k1;clear s0 k0 k1
 go_wp2_with fail
 clear d0 d1 d2 d3 d4 d5;refine wp_region_later (by kernel_rfl) (by kernel_rfl) ?_
 repeat (first | go_big_quiet_step (first | (go_at_call 37;with_reducible exact K0.out _) | (go_at_call 37;with_reducible exact K1.out _)) | quiet_step (first | (go_at_call 37;with_reducible exact K0.out _) | (go_at_call 37;with_reducible exact K1.out _)))
 refine wpQuiet_nil ?_;rintro w' ⟨x,rfl⟩;have HX:=Lib.hid (H1.out.below.trans (x.le.mono H1.out.below.size));generalize x.wx=wx at *
 go_wp2
 go_ret
 refine ⟨congrArg (fun t=>Ending.returned (.string t)) ?_,HX.out⟩;apply ByteArray.ext
 simp
theorem rt9 (N:Nat)(mo:Option Addr)(mc:Nat)(ms:List Nd)(g:Nd->Lx.B)(e:Nd->Bool)(i:Nat)(line col num:Int)(name:ByteArray)(kids:List Int)(hnd:nd ms i=⟨⟨#[61]⟩,line,col,name,num,kids⟩)(hi:i<ms.length)(hP:KidsC N mo mc ms g ⟨⟨#[61]⟩,line,col,name,num,kids⟩)(hk:kids.length=2)(hl:(Rt.nodeP ms g e ⟨#[61]⟩ name num kids).length<=1000000000):
  TextC N mo mc ms (Rt.nodeP ms g e ⟨#[61]⟩ name num kids) i:=by
 intro w hm hN;have hm2:=hm;obtain ⟨b,o,ka,kc,rfl,hn⟩:=hm i hi;rw [hnd] at hn;have H0:=Lib.hid (Tb.start (kc:=kc) hm2 hn.kids hN);have c0:=hn.c0;have c1:=hn.c1;have c2:=hn.c2;have c3:=hn.c3;have c4:=hn.c4;have c5:=hn.c5;simp only at c0 c1 c2 c3 c4 c5;obtain ⟨W,hW⟩:∃ W,w.alloc (.cells #[.string ⟨#[61]⟩,.int .i64 line,.int .i64 col,.string name,.int .i64 num,.slice ka kids.length kc] 30)=W:=⟨_,rfl⟩;simp only at H0;rw [hW] at H0;have HW:=Lib.hid hW;rw [Rt.r9] at hl ⊢;have hns:name.size=name.data.toList.length:=by rw [<- ByteArray.size_data];simp
 have HP0:=fun (w':World) (h:Tb N (some ⟨b,o,none⟩) ms ⟨⟨#[61]⟩,line,col,name,num,kids⟩ ka kc w w')=>Tb.part hP 0 0 rfl (by simp only;omega) 5 (by simp only [List.length_append] at hl;simp only;omega) h;obtain ⟨P0,e0⟩:∃ P,Rt.part ms g (kid kids 0) 5=P:=⟨_,rfl⟩;simp only at HP0;rw [e0] at HP0 hl ⊢;have HP1:=fun (w':World) (h:Tb N (some ⟨b,o,none⟩) ms ⟨⟨#[61]⟩,line,col,name,num,kids⟩ ka kc w w')=>Tb.part hP 1 1 rfl (by simp only;omega) 5 (by simp only [List.length_append] at hl;simp only;omega) h;obtain ⟨P1,e1⟩:∃ P,Rt.part ms g (kid kids 1) 5=P:=⟨_,rfl⟩;simp only at HP1;rw [e1] at HP1 hl ⊢;simp only [List.length_append,List.length_cons,List.length_nil] at hl;simp only [nval] at *;have HL:∀ w',Hid (Calls Tryz.prog 36 #[.string ⟨#[61]⟩] w' (LvP 4 w')):=fun w'=>Lib.hid (by have h:=level_any ⟨#[61]⟩ (by simp only [opList,List.mem_cons,true_or,or_true]) w';rwa [show (Sh.formOf ⟨#[61]⟩).level=4 from by kernel_rfl] at h);have HQ0:=Lib.hid HP0;have HQ1:=Lib.hid HP1;have b0:P0.length<=1000000000:=by omega
 have b1:P1.length<=1000000000:=by omega
 have g0:¬ 9223372036854775807<P0.length+1:=by omega
 have g1:¬ 9223372036854775807<P0.length+1+1:=by omega
 have g2:¬ 9223372036854775807<P0.length+1+1+1:=by omega
 have g3:¬ 9223372036854775807<P0.length+1+1+1+P1.length:=by omega
 clear HP0 e0 HP1 e1;clear hn hm hm2 hP hW hnd hns hl hk
 go_enter Tryz.func20,Tryz.ntmps20
 go_upto_region 2 with fail
 rw [HW.out];clear c0 c1 c2 c3 c4 c5;have s0:=H0.out.six;have d0:=s0.c0;have d1:=s0.c1;have d2:=s0.c2;have d3:=s0.c3;have d4:=s0.c4;have d5:=s0.c5;simp only at d0 d1 d2 d3 d4 d5;clear s0
 go_wp2_with fail
 refine ((HL _).out).mono ?_;rintro e w1 ⟨rfl,hb⟩;have H1:=Lib.hid (H0.out.step hb);clear hb d0 d1 d2 d3 d4 d5 H0;have s0:=H1.out.six;have d0:=s0.c0;have d1:=s0.c1;have d2:=s0.c2;have d3:=s0.c3;have d4:=s0.c4;have d5:=s0.c5;simp only at d0 d1 d2 d3 d4 d5;have y0:=fun x:Later w1=>Later.cell d0 x;have y1:=fun x:Later w1=>Later.cell d1 x;have y2:=fun x:Later w1=>Later.cell d2 x;have y3:=fun x:Later w1=>Later.cell d3 x;have y4:=fun x:Later w1=>Later.cell d4 x;have y5:=fun x:Later w1=>Later.cell d5 x;have k0:=fun x:Later w1=>calls_later (HQ0.out x.wx (H1.out.step x.le));have K0:=Lib.hid k0;have k1:=fun x:Later w1=>calls_later (HQ1.out x.wx (H1.out.step x.le));have K1:=Lib.hid k1;clear s0 k0 k1
 go_wp2_with fail
 clear d0 d1 d2 d3 d4 d5;refine wp_region_later (by kernel_rfl) (by kernel_rfl) ?_
 repeat (first | go_big_quiet_step (first | (go_at_call 37;with_reducible exact K0.out _) | (go_at_call 37;with_reducible exact K1.out _)) | quiet_step (first | (go_at_call 37;with_reducible exact K0.out _) | (go_at_call 37;with_reducible exact K1.out _)))
 refine wpQuiet_nil ?_;rintro w' ⟨x,rfl⟩;have HX:=Lib.hid (H1.out.below.trans (x.le.mono H1.out.below.size));generalize x.wx=wx at *
 go_wp2
 go_ret
 refine ⟨congrArg (fun t=>Ending.returned (.string t)) ?_,HX.out⟩;apply ByteArray.ext
 simp
theorem rt10 (N:Nat)(mo:Option Addr)(mc:Nat)(ms:List Nd)(g:Nd->Lx.B)(e:Nd->Bool)(i:Nat)(line col num:Int)(name:ByteArray)(kids:List Int)(hnd:nd ms i=⟨⟨#[60]⟩,line,col,name,num,kids⟩)(hi:i<ms.length)(hP:KidsC N mo mc ms g ⟨⟨#[60]⟩,line,col,name,num,kids⟩)(hk:kids.length=2)(hl:(Rt.nodeP ms g e ⟨#[60]⟩ name num kids).length<=1000000000):
  TextC N mo mc ms (Rt.nodeP ms g e ⟨#[60]⟩ name num kids) i:=by
 intro w hm hN;have hm2:=hm;obtain ⟨b,o,ka,kc,rfl,hn⟩:=hm i hi;rw [hnd] at hn;have H0:=Lib.hid (Tb.start (kc:=kc) hm2 hn.kids hN);have c0:=hn.c0;have c1:=hn.c1;have c2:=hn.c2;have c3:=hn.c3;have c4:=hn.c4;have c5:=hn.c5;simp only at c0 c1 c2 c3 c4 c5;obtain ⟨W,hW⟩:∃ W,w.alloc (.cells #[.string ⟨#[60]⟩,.int .i64 line,.int .i64 col,.string name,.int .i64 num,.slice ka kids.length kc] 30)=W:=⟨_,rfl⟩;simp only at H0;rw [hW] at H0;have HW:=Lib.hid hW;rw [Rt.r10] at hl ⊢;have hns:name.size=name.data.toList.length:=by rw [<- ByteArray.size_data];simp
 have HP0:=fun (w':World) (h:Tb N (some ⟨b,o,none⟩) ms ⟨⟨#[60]⟩,line,col,name,num,kids⟩ ka kc w w')=>Tb.part hP 0 0 rfl (by simp only;omega) 5 (by simp only [List.length_append] at hl;simp only;omega) h;obtain ⟨P0,e0⟩:∃ P,Rt.part ms g (kid kids 0) 5=P:=⟨_,rfl⟩;simp only at HP0;rw [e0] at HP0 hl ⊢;have HP1:=fun (w':World) (h:Tb N (some ⟨b,o,none⟩) ms ⟨⟨#[60]⟩,line,col,name,num,kids⟩ ka kc w w')=>Tb.part hP 1 1 rfl (by simp only;omega) 5 (by simp only [List.length_append] at hl;simp only;omega) h;obtain ⟨P1,e1⟩:∃ P,Rt.part ms g (kid kids 1) 5=P:=⟨_,rfl⟩;simp only at HP1;rw [e1] at HP1 hl ⊢;simp only [List.length_append,List.length_cons,List.length_nil] at hl;simp only [nval] at *;have HL:∀ w',Hid (Calls Tryz.prog 36 #[.string ⟨#[60]⟩] w' (LvP 4 w')):=fun w'=>Lib.hid (by have h:=level_any ⟨#[60]⟩ (by simp only [opList,List.mem_cons,true_or,or_true]) w';rwa [show (Sh.formOf ⟨#[60]⟩).level=4 from by kernel_rfl] at h);have HQ0:=Lib.hid HP0;have HQ1:=Lib.hid HP1;have b0:P0.length<=1000000000:=by omega
 have b1:P1.length<=1000000000:=by omega
 have g0:¬ 9223372036854775807<P0.length+1:=by omega
 have g1:¬ 9223372036854775807<P0.length+1+1:=by omega
 have g2:¬ 9223372036854775807<P0.length+1+1+1:=by omega
 have g3:¬ 9223372036854775807<P0.length+1+1+1+P1.length:=by omega
 clear HP0 e0 HP1 e1;clear hn hm hm2 hP hW hnd hns hl hk
 go_enter Tryz.func20,Tryz.ntmps20
 go_upto_region 2 with fail
 rw [HW.out];clear c0 c1 c2 c3 c4 c5;have s0:=H0.out.six;have d0:=s0.c0;have d1:=s0.c1;have d2:=s0.c2;have d3:=s0.c3;have d4:=s0.c4;have d5:=s0.c5;simp only at d0 d1 d2 d3 d4 d5;clear s0
 go_wp2_with fail
 refine ((HL _).out).mono ?_;rintro e w1 ⟨rfl,hb⟩;have H1:=Lib.hid (H0.out.step hb);clear hb d0 d1 d2 d3 d4 d5 H0;have s0:=H1.out.six;have d0:=s0.c0;have d1:=s0.c1;have d2:=s0.c2;have d3:=s0.c3;have d4:=s0.c4;have d5:=s0.c5;simp only at d0 d1 d2 d3 d4 d5;have y0:=fun x:Later w1=>Later.cell d0 x;have y1:=fun x:Later w1=>Later.cell d1 x;have y2:=fun x:Later w1=>Later.cell d2 x;have y3:=fun x:Later w1=>Later.cell d3 x;have y4:=fun x:Later w1=>Later.cell d4 x;have y5:=fun x:Later w1=>Later.cell d5 x;have k0:=fun x:Later w1=>calls_later (HQ0.out x.wx (H1.out.step x.le));have K0:=Lib.hid k0;have k1:=fun x:Later w1=>calls_later (HQ1.out x.wx (H1.out.step x.le));have K1:=Lib.hid k1;clear s0 k0 k1
 go_wp2_with fail
 clear d0 d1 d2 d3 d4 d5;refine wp_region_later (by kernel_rfl) (by kernel_rfl) ?_
 repeat (first | go_big_quiet_step (first | (go_at_call 37;with_reducible exact K0.out _) | (go_at_call 37;with_reducible exact K1.out _)) | quiet_step (first | (go_at_call 37;with_reducible exact K0.out _) | (go_at_call 37;with_reducible exact K1.out _)))
 refine wpQuiet_nil ?_;rintro w' ⟨x,rfl⟩;have HX:=Lib.hid (H1.out.below.trans (x.le.mono H1.out.below.size));generalize x.wx=wx at *
 go_wp2
 go_ret
 refine ⟨congrArg (fun t=>Ending.returned (.string t)) ?_,HX.out⟩;apply ByteArray.ext
 simp
theorem rt11 (N:Nat)(mo:Option Addr)(mc:Nat)(ms:List Nd)(g:Nd->Lx.B)(e:Nd->Bool)(i:Nat)(line col num:Int)(name:ByteArray)(kids:List Int)(hnd:nd ms i=⟨⟨#[43]⟩,line,col,name,num,kids⟩)(hi:i<ms.length)(hP:KidsC N mo mc ms g ⟨⟨#[43]⟩,line,col,name,num,kids⟩)(hk:kids.length=2)(hl:(Rt.nodeP ms g e ⟨#[43]⟩ name num kids).length<=1000000000):
  TextC N mo mc ms (Rt.nodeP ms g e ⟨#[43]⟩ name num kids) i:=by
 intro w hm hN;have hm2:=hm;obtain ⟨b,o,ka,kc,rfl,hn⟩:=hm i hi;rw [hnd] at hn;have H0:=Lib.hid (Tb.start (kc:=kc) hm2 hn.kids hN);have c0:=hn.c0;have c1:=hn.c1;have c2:=hn.c2;have c3:=hn.c3;have c4:=hn.c4;have c5:=hn.c5;simp only at c0 c1 c2 c3 c4 c5;obtain ⟨W,hW⟩:∃ W,w.alloc (.cells #[.string ⟨#[43]⟩,.int .i64 line,.int .i64 col,.string name,.int .i64 num,.slice ka kids.length kc] 30)=W:=⟨_,rfl⟩;simp only at H0;rw [hW] at H0;have HW:=Lib.hid hW;rw [Rt.r11] at hl ⊢;have hns:name.size=name.data.toList.length:=by rw [<- ByteArray.size_data];simp
 have HP0:=fun (w':World) (h:Tb N (some ⟨b,o,none⟩) ms ⟨⟨#[43]⟩,line,col,name,num,kids⟩ ka kc w w')=>Tb.part hP 0 0 rfl (by simp only;omega) 5 (by simp only [List.length_append] at hl;simp only;omega) h;obtain ⟨P0,e0⟩:∃ P,Rt.part ms g (kid kids 0) 5=P:=⟨_,rfl⟩;simp only at HP0;rw [e0] at HP0 hl ⊢;have HP1:=fun (w':World) (h:Tb N (some ⟨b,o,none⟩) ms ⟨⟨#[43]⟩,line,col,name,num,kids⟩ ka kc w w')=>Tb.part hP 1 1 rfl (by simp only;omega) 6 (by simp only [List.length_append] at hl;simp only;omega) h;obtain ⟨P1,e1⟩:∃ P,Rt.part ms g (kid kids 1) 6=P:=⟨_,rfl⟩;simp only at HP1;rw [e1] at HP1 hl ⊢;simp only [List.length_append,List.length_cons,List.length_nil] at hl;simp only [nval] at *;have HL:∀ w',Hid (Calls Tryz.prog 36 #[.string ⟨#[43]⟩] w' (LvP 5 w')):=fun w'=>Lib.hid (by have h:=level_any ⟨#[43]⟩ (by simp only [opList,List.mem_cons,true_or,or_true]) w';rwa [show (Sh.formOf ⟨#[43]⟩).level=5 from by kernel_rfl] at h);have HQ0:=Lib.hid HP0;have HQ1:=Lib.hid HP1;have b0:P0.length<=1000000000:=by omega
 have b1:P1.length<=1000000000:=by omega
 have g0:¬ 9223372036854775807<P0.length+1:=by omega
 have g1:¬ 9223372036854775807<P0.length+1+1:=by omega
 have g2:¬ 9223372036854775807<P0.length+1+1+1:=by omega
 have g3:¬ 9223372036854775807<P0.length+1+1+1+P1.length:=by omega
 clear HP0 e0 HP1 e1;clear hn hm hm2 hP hW hnd hns hl hk
 go_enter Tryz.func20,Tryz.ntmps20
 go_upto_region 2 with fail
 rw [HW.out];clear c0 c1 c2 c3 c4 c5;have s0:=H0.out.six;have d0:=s0.c0;have d1:=s0.c1;have d2:=s0.c2;have d3:=s0.c3;have d4:=s0.c4;have d5:=s0.c5;simp only at d0 d1 d2 d3 d4 d5;clear s0
 go_wp2_with fail
 refine ((HL _).out).mono ?_;rintro e w1 ⟨rfl,hb⟩;have H1:=Lib.hid (H0.out.step hb);clear hb d0 d1 d2 d3 d4 d5 H0;have s0:=H1.out.six;have d0:=s0.c0;have d1:=s0.c1;have d2:=s0.c2;have d3:=s0.c3;have d4:=s0.c4;have d5:=s0.c5;simp only at d0 d1 d2 d3 d4 d5;have y0:=fun x:Later w1=>Later.cell d0 x;have y1:=fun x:Later w1=>Later.cell d1 x;have y2:=fun x:Later w1=>Later.cell d2 x;have y3:=fun x:Later w1=>Later.cell d3 x;have y4:=fun x:Later w1=>Later.cell d4 x;have y5:=fun x:Later w1=>Later.cell d5 x;have k0:=fun x:Later w1=>calls_later (HQ0.out x.wx (H1.out.step x.le));have K0:=Lib.hid k0;have k1:=fun x:Later w1=>calls_later (HQ1.out x.wx (H1.out.step x.le));have K1:=Lib.hid k1;clear s0 k0 k1
 go_wp2_with fail
 clear d0 d1 d2 d3 d4 d5;refine wp_region_later (by kernel_rfl) (by kernel_rfl) ?_
 repeat (first | go_big_quiet_step (first | (go_at_call 37;with_reducible exact K0.out _) | (go_at_call 37;with_reducible exact K1.out _)) | quiet_step (first | (go_at_call 37;with_reducible exact K0.out _) | (go_at_call 37;with_reducible exact K1.out _)))
 refine wpQuiet_nil ?_;rintro w' ⟨x,rfl⟩;have HX:=Lib.hid (H1.out.below.trans (x.le.mono H1.out.below.size));generalize x.wx=wx at *
 go_wp2
 go_ret
 refine ⟨congrArg (fun t=>Ending.returned (.string t)) ?_,HX.out⟩;apply ByteArray.ext
 simp
theorem rt12 (N:Nat)(mo:Option Addr)(mc:Nat)(ms:List Nd)(g:Nd->Lx.B)(e:Nd->Bool)(i:Nat)(line col num:Int)(name:ByteArray)(kids:List Int)(hnd:nd ms i=⟨⟨#[45]⟩,line,col,name,num,kids⟩)(hi:i<ms.length)(hP:KidsC N mo mc ms g ⟨⟨#[45]⟩,line,col,name,num,kids⟩)(hk:kids.length=2)(hl:(Rt.nodeP ms g e ⟨#[45]⟩ name num kids).length<=1000000000):
  TextC N mo mc ms (Rt.nodeP ms g e ⟨#[45]⟩ name num kids) i:=by
 intro w hm hN;have hm2:=hm;obtain ⟨b,o,ka,kc,rfl,hn⟩:=hm i hi;rw [hnd] at hn;have H0:=Lib.hid (Tb.start (kc:=kc) hm2 hn.kids hN);have c0:=hn.c0;have c1:=hn.c1;have c2:=hn.c2;have c3:=hn.c3;have c4:=hn.c4;have c5:=hn.c5;simp only at c0 c1 c2 c3 c4 c5;obtain ⟨W,hW⟩:∃ W,w.alloc (.cells #[.string ⟨#[45]⟩,.int .i64 line,.int .i64 col,.string name,.int .i64 num,.slice ka kids.length kc] 30)=W:=⟨_,rfl⟩;simp only at H0;rw [hW] at H0;have HW:=Lib.hid hW;rw [Rt.r12] at hl ⊢;have hns:name.size=name.data.toList.length:=by rw [<- ByteArray.size_data];simp
 have HP0:=fun (w':World) (h:Tb N (some ⟨b,o,none⟩) ms ⟨⟨#[45]⟩,line,col,name,num,kids⟩ ka kc w w')=>Tb.part hP 0 0 rfl (by simp only;omega) 5 (by simp only [List.length_append] at hl;simp only;omega) h;obtain ⟨P0,e0⟩:∃ P,Rt.part ms g (kid kids 0) 5=P:=⟨_,rfl⟩;simp only at HP0;rw [e0] at HP0 hl ⊢;have HP1:=fun (w':World) (h:Tb N (some ⟨b,o,none⟩) ms ⟨⟨#[45]⟩,line,col,name,num,kids⟩ ka kc w w')=>Tb.part hP 1 1 rfl (by simp only;omega) 6 (by simp only [List.length_append] at hl;simp only;omega) h;obtain ⟨P1,e1⟩:∃ P,Rt.part ms g (kid kids 1) 6=P:=⟨_,rfl⟩;simp only at HP1;rw [e1] at HP1 hl ⊢;simp only [List.length_append,List.length_cons,List.length_nil] at hl;simp only [nval] at *;have HL:∀ w',Hid (Calls Tryz.prog 36 #[.string ⟨#[45]⟩] w' (LvP 5 w')):=fun w'=>Lib.hid (by have h:=level_any ⟨#[45]⟩ (by simp only [opList,List.mem_cons,true_or,or_true]) w';rwa [show (Sh.formOf ⟨#[45]⟩).level=5 from by kernel_rfl] at h);have HQ0:=Lib.hid HP0;have HQ1:=Lib.hid HP1;have b0:P0.length<=1000000000:=by omega
 have b1:P1.length<=1000000000:=by omega
 have g0:¬ 9223372036854775807<P0.length+1:=by omega
 have g1:¬ 9223372036854775807<P0.length+1+1:=by omega
 have g2:¬ 9223372036854775807<P0.length+1+1+1:=by omega
 have g3:¬ 9223372036854775807<P0.length+1+1+1+P1.length:=by omega
 clear HP0 e0 HP1 e1;clear hn hm hm2 hP hW hnd hns hl hk
 go_enter Tryz.func20,Tryz.ntmps20
 go_upto_region 2 with fail
 rw [HW.out];clear c0 c1 c2 c3 c4 c5;have s0:=H0.out.six;have d0:=s0.c0;have d1:=s0.c1;have d2:=s0.c2;have d3:=s0.c3;have d4:=s0.c4;have d5:=s0.c5;simp only at d0 d1 d2 d3 d4 d5;clear s0
 go_wp2_with fail
 refine ((HL _).out).mono ?_;rintro e w1 ⟨rfl,hb⟩;have H1:=Lib.hid (H0.out.step hb);clear hb d0 d1 d2 d3 d4 d5 H0;have s0:=H1.out.six;have d0:=s0.c0;have d1:=s0.c1;have d2:=s0.c2;have d3:=s0.c3;have d4:=s0.c4;have d5:=s0.c5;simp only at d0 d1 d2 d3 d4 d5;have y0:=fun x:Later w1=>Later.cell d0 x;have y1:=fun x:Later w1=>Later.cell d1 x;have y2:=fun x:Later w1=>Later.cell d2 x;have y3:=fun x:Later w1=>Later.cell d3 x;have y4:=fun x:Later w1=>Later.cell d4 x;have y5:=fun x:Later w1=>Later.cell d5 x;have k0:=fun x:Later w1=>calls_later (HQ0.out x.wx (H1.out.step x.le));have K0:=Lib.hid k0;have k1:=fun x:Later w1=>calls_later (HQ1.out x.wx (H1.out.step x.le));have K1:=Lib.hid k1;clear s0 k0 k1
 go_wp2_with fail
 clear d0 d1 d2 d3 d4 d5;refine wp_region_later (by kernel_rfl) (by kernel_rfl) ?_
 repeat (first | go_big_quiet_step (first | (go_at_call 37;with_reducible exact K0.out _) | (go_at_call 37;with_reducible exact K1.out _)) | quiet_step (first | (go_at_call 37;with_reducible exact K0.out _) | (go_at_call 37;with_reducible exact K1.out _)))
 refine wpQuiet_nil ?_;rintro w' ⟨x,rfl⟩;have HX:=Lib.hid (H1.out.below.trans (x.le.mono H1.out.below.size));generalize x.wx=wx at *
 go_wp2
 go_ret
 refine ⟨congrArg (fun t=>Ending.returned (.string t)) ?_,HX.out⟩;apply ByteArray.ext
 simp
theorem rt13 (N:Nat)(mo:Option Addr)(mc:Nat)(ms:List Nd)(g:Nd->Lx.B)(e:Nd->Bool)(i:Nat)(line col num:Int)(name:ByteArray)(kids:List Int)(hnd:nd ms i=⟨⟨#[42]⟩,line,col,name,num,kids⟩)(hi:i<ms.length)(hP:KidsC N mo mc ms g ⟨⟨#[42]⟩,line,col,name,num,kids⟩)(hk:kids.length=2)(hl:(Rt.nodeP ms g e ⟨#[42]⟩ name num kids).length<=1000000000):
  TextC N mo mc ms (Rt.nodeP ms g e ⟨#[42]⟩ name num kids) i:=by
 intro w hm hN;have hm2:=hm;obtain ⟨b,o,ka,kc,rfl,hn⟩:=hm i hi;rw [hnd] at hn;have H0:=Lib.hid (Tb.start (kc:=kc) hm2 hn.kids hN);have c0:=hn.c0;have c1:=hn.c1;have c2:=hn.c2;have c3:=hn.c3;have c4:=hn.c4;have c5:=hn.c5;simp only at c0 c1 c2 c3 c4 c5;obtain ⟨W,hW⟩:∃ W,w.alloc (.cells #[.string ⟨#[42]⟩,.int .i64 line,.int .i64 col,.string name,.int .i64 num,.slice ka kids.length kc] 30)=W:=⟨_,rfl⟩;simp only at H0;rw [hW] at H0;have HW:=Lib.hid hW;rw [Rt.r13] at hl ⊢;have hns:name.size=name.data.toList.length:=by rw [<- ByteArray.size_data];simp
 have HP0:=fun (w':World) (h:Tb N (some ⟨b,o,none⟩) ms ⟨⟨#[42]⟩,line,col,name,num,kids⟩ ka kc w w')=>Tb.part hP 0 0 rfl (by simp only;omega) 6 (by simp only [List.length_append] at hl;simp only;omega) h;obtain ⟨P0,e0⟩:∃ P,Rt.part ms g (kid kids 0) 6=P:=⟨_,rfl⟩;simp only at HP0;rw [e0] at HP0 hl ⊢;have HP1:=fun (w':World) (h:Tb N (some ⟨b,o,none⟩) ms ⟨⟨#[42]⟩,line,col,name,num,kids⟩ ka kc w w')=>Tb.part hP 1 1 rfl (by simp only;omega) 7 (by simp only [List.length_append] at hl;simp only;omega) h;obtain ⟨P1,e1⟩:∃ P,Rt.part ms g (kid kids 1) 7=P:=⟨_,rfl⟩;simp only at HP1;rw [e1] at HP1 hl ⊢;simp only [List.length_append,List.length_cons,List.length_nil] at hl;simp only [nval] at *;have HL:∀ w',Hid (Calls Tryz.prog 36 #[.string ⟨#[42]⟩] w' (LvP 6 w')):=fun w'=>Lib.hid (by have h:=level_any ⟨#[42]⟩ (by simp only [opList,List.mem_cons,true_or,or_true]) w';rwa [show (Sh.formOf ⟨#[42]⟩).level=6 from by kernel_rfl] at h);have HQ0:=Lib.hid HP0;have HQ1:=Lib.hid HP1;have b0:P0.length<=1000000000:=by omega
 have b1:P1.length<=1000000000:=by omega
 have g0:¬ 9223372036854775807<P0.length+1:=by omega
 have g1:¬ 9223372036854775807<P0.length+1+1:=by omega
 have g2:¬ 9223372036854775807<P0.length+1+1+1:=by omega
 have g3:¬ 9223372036854775807<P0.length+1+1+1+P1.length:=by omega
 clear HP0 e0 HP1 e1;clear hn hm hm2 hP hW hnd hns hl hk
 go_enter Tryz.func20,Tryz.ntmps20
 go_upto_region 2 with fail
 rw [HW.out];clear c0 c1 c2 c3 c4 c5;have s0:=H0.out.six;have d0:=s0.c0;have d1:=s0.c1;have d2:=s0.c2;have d3:=s0.c3;have d4:=s0.c4;have d5:=s0.c5;simp only at d0 d1 d2 d3 d4 d5;clear s0
 go_wp2_with fail
 refine ((HL _).out).mono ?_;rintro e w1 ⟨rfl,hb⟩;have H1:=Lib.hid (H0.out.step hb);clear hb d0 d1 d2 d3 d4 d5 H0;have s0:=H1.out.six;have d0:=s0.c0;have d1:=s0.c1;have d2:=s0.c2;have d3:=s0.c3;have d4:=s0.c4;have d5:=s0.c5;simp only at d0 d1 d2 d3 d4 d5;have y0:=fun x:Later w1=>Later.cell d0 x;have y1:=fun x:Later w1=>Later.cell d1 x;have y2:=fun x:Later w1=>Later.cell d2 x;have y3:=fun x:Later w1=>Later.cell d3 x;have y4:=fun x:Later w1=>Later.cell d4 x;have y5:=fun x:Later w1=>Later.cell d5 x;have k0:=fun x:Later w1=>calls_later (HQ0.out x.wx (H1.out.step x.le));have K0:=Lib.hid k0;have k1:=fun x:Later w1=>calls_later (HQ1.out x.wx (H1.out.step x.le));have K1:=Lib.hid k1;clear s0 k0 k1
 go_wp2_with fail
 clear d0 d1 d2 d3 d4 d5;refine wp_region_later (by kernel_rfl) (by kernel_rfl) ?_
 repeat (first | go_big_quiet_step (first | (go_at_call 37;with_reducible exact K0.out _) | (go_at_call 37;with_reducible exact K1.out _)) | quiet_step (first | (go_at_call 37;with_reducible exact K0.out _) | (go_at_call 37;with_reducible exact K1.out _)))
 refine wpQuiet_nil ?_;rintro w' ⟨x,rfl⟩;have HX:=Lib.hid (H1.out.below.trans (x.le.mono H1.out.below.size));generalize x.wx=wx at *
 go_wp2
 go_ret
 refine ⟨congrArg (fun t=>Ending.returned (.string t)) ?_,HX.out⟩;apply ByteArray.ext
 simp
theorem rt14 (N:Nat)(mo:Option Addr)(mc:Nat)(ms:List Nd)(g:Nd->Lx.B)(e:Nd->Bool)(i:Nat)(line col num:Int)(name:ByteArray)(kids:List Int)(hnd:nd ms i=⟨⟨#[112,97,105,114]⟩,line,col,name,num,kids⟩)(hi:i<ms.length)(hP:KidsC N mo mc ms g ⟨⟨#[112,97,105,114]⟩,line,col,name,num,kids⟩)(hk:kids.length<=1000000)(hl:(Rt.nodeP ms g e ⟨#[112,97,105,114]⟩ name num kids).length<=1000000000):
  TextC N mo mc ms (Rt.nodeP ms g e ⟨#[112,97,105,114]⟩ name num kids) i:=by
 intro w hm hN;have hm2:=hm;obtain ⟨b,o,ka,kc,rfl,hn⟩:=hm i hi;rw [hnd] at hn;have H0:=Lib.hid (Tb.start (kc:=kc) hm2 hn.kids hN);have c0:=hn.c0;have c1:=hn.c1;have c2:=hn.c2;have c3:=hn.c3;have c4:=hn.c4;have c5:=hn.c5;simp only at c0 c1 c2 c3 c4 c5;obtain ⟨W,hW⟩:∃ W,w.alloc (.cells #[.string ⟨#[112,97,105,114]⟩,.int .i64 line,.int .i64 col,.string name,.int .i64 num,.slice ka kids.length kc] 30)=W:=⟨_,rfl⟩;simp only at H0;rw [hW] at H0;have HW:=Lib.hid hW;rw [Rt.r14] at hl ⊢;have hns:name.size=name.data.toList.length:=by rw [<- ByteArray.size_data];simp
 have HP9:=fun (w':World) (h:Tb N (some ⟨b,o,none⟩) ms ⟨⟨#[112,97,105,114]⟩,line,col,name,num,kids⟩ ka kc w w')=>Tb.list (mc:=mc) (g:=g) hP hk hl h;obtain ⟨P9,e9⟩:∃ P,Rt.list ms g kids=P:=⟨_,rfl⟩;simp only at HP9;rw [e9] at HP9 hl ⊢;simp only [nval] at *;have HL:∀ w',Hid (Calls Tryz.prog 36 #[.string ⟨#[112,97,105,114]⟩] w' (LvP 7 w')):=fun w'=>Lib.hid (by have h:=level_any ⟨#[112,97,105,114]⟩ (by simp only [opList,List.mem_cons,true_or,or_true]) w';rwa [show (Sh.formOf ⟨#[112,97,105,114]⟩).level=7 from by kernel_rfl] at h);have HQ9:=Lib.hid HP9;have b9:P9.length<=1000000000:=by omega
 clear HP9 e9;clear hn hm hm2 hP hW hnd hns hl hk
 go_enter Tryz.func20,Tryz.ntmps20
 go_upto_region 2 with fail
 rw [HW.out];clear c0 c1 c2 c3 c4 c5;have s0:=H0.out.six;have d0:=s0.c0;have d1:=s0.c1;have d2:=s0.c2;have d3:=s0.c3;have d4:=s0.c4;have d5:=s0.c5;simp only at d0 d1 d2 d3 d4 d5;clear s0
 go_wp2_with fail
 refine ((HL _).out).mono ?_;rintro e w1 ⟨rfl,hb⟩;have H1:=Lib.hid (H0.out.step hb);clear hb d0 d1 d2 d3 d4 d5 H0;have s0:=H1.out.six;have d0:=s0.c0;have d1:=s0.c1;have d2:=s0.c2;have d3:=s0.c3;have d4:=s0.c4;have d5:=s0.c5;simp only at d0 d1 d2 d3 d4 d5;clear s0
 go_wp2_with fail
 refine (HQ9.out _ H1.out).mono ?_;rintro e w2 ⟨rfl,hb⟩;have H2:=Lib.hid (H1.out.step hb);clear hb d0 d1 d2 d3 d4 d5 H1;have s0:=H2.out.six;have d0:=s0.c0;have d1:=s0.c1;have d2:=s0.c2;have d3:=s0.c3;have d4:=s0.c4;have d5:=s0.c5;simp only at d0 d1 d2 d3 d4 d5;clear s0
 go_wp2
 go_ret
 refine ⟨congrArg (fun t=>Ending.returned (.string t)) ?_,H2.out.below⟩;apply ByteArray.ext
 simp
theorem rt15 (N:Nat)(mo:Option Addr)(mc:Nat)(ms:List Nd)(g:Nd->Lx.B)(e:Nd->Bool)(i:Nat)(line col num:Int)(name:ByteArray)(kids:List Int)(hnd:nd ms i=⟨⟨#[110,101,103]⟩,line,col,name,num,kids⟩)(hi:i<ms.length)(hP:KidsC N mo mc ms g ⟨⟨#[110,101,103]⟩,line,col,name,num,kids⟩)(hk:kids.length=1)(hl:(Rt.nodeP ms g e ⟨#[110,101,103]⟩ name num kids).length<=1000000000):
  TextC N mo mc ms (Rt.nodeP ms g e ⟨#[110,101,103]⟩ name num kids) i:=by
 intro w hm hN;have hm2:=hm;obtain ⟨b,o,ka,kc,rfl,hn⟩:=hm i hi;rw [hnd] at hn;have H0:=Lib.hid (Tb.start (kc:=kc) hm2 hn.kids hN);have c0:=hn.c0;have c1:=hn.c1;have c2:=hn.c2;have c3:=hn.c3;have c4:=hn.c4;have c5:=hn.c5;simp only at c0 c1 c2 c3 c4 c5;obtain ⟨W,hW⟩:∃ W,w.alloc (.cells #[.string ⟨#[110,101,103]⟩,.int .i64 line,.int .i64 col,.string name,.int .i64 num,.slice ka kids.length kc] 30)=W:=⟨_,rfl⟩;simp only at H0;rw [hW] at H0;have HW:=Lib.hid hW;rw [Rt.r15] at hl ⊢;have hns:name.size=name.data.toList.length:=by rw [<- ByteArray.size_data];simp
 have HP0:=fun (w':World) (h:Tb N (some ⟨b,o,none⟩) ms ⟨⟨#[110,101,103]⟩,line,col,name,num,kids⟩ ka kc w w')=>Tb.part hP 0 0 rfl (by simp only;omega) 7 (by simp only [List.length_append] at hl;simp only;omega) h;obtain ⟨P0,e0⟩:∃ P,Rt.part ms g (kid kids 0) 7=P:=⟨_,rfl⟩;simp only at HP0;rw [e0] at HP0 hl ⊢;simp only [List.length_append,List.length_cons,List.length_nil] at hl;simp only [nval] at *;have HL:∀ w',Hid (Calls Tryz.prog 36 #[.string ⟨#[110,101,103]⟩] w' (LvP 7 w')):=fun w'=>Lib.hid (by have h:=level_any ⟨#[110,101,103]⟩ (by simp only [opList,List.mem_cons,true_or,or_true]) w';rwa [show (Sh.formOf ⟨#[110,101,103]⟩).level=7 from by kernel_rfl] at h);have HQ0:=Lib.hid HP0;have b0:P0.length<=1000000000:=by omega
 have g0:¬ 9223372036854775807<2+P0.length:=by omega
 clear HP0 e0;clear hn hm hm2 hP hW hnd hns hl hk
 go_enter Tryz.func20,Tryz.ntmps20
 go_upto_region 2 with fail
 rw [HW.out];clear c0 c1 c2 c3 c4 c5;have s0:=H0.out.six;have d0:=s0.c0;have d1:=s0.c1;have d2:=s0.c2;have d3:=s0.c3;have d4:=s0.c4;have d5:=s0.c5;simp only at d0 d1 d2 d3 d4 d5;clear s0
 go_wp2_with fail
 refine ((HL _).out).mono ?_;rintro e w1 ⟨rfl,hb⟩;have H1:=Lib.hid (H0.out.step hb);clear hb d0 d1 d2 d3 d4 d5 H0;have s0:=H1.out.six;have d0:=s0.c0;have d1:=s0.c1;have d2:=s0.c2;have d3:=s0.c3;have d4:=s0.c4;have d5:=s0.c5;simp only at d0 d1 d2 d3 d4 d5;clear s0
 go_wp2_with fail
 refine (HQ0.out _ H1.out).mono ?_;rintro e w2 ⟨rfl,hb⟩;have H2:=Lib.hid (H1.out.step hb);clear hb d0 d1 d2 d3 d4 d5 H1;have s0:=H2.out.six;have d0:=s0.c0;have d1:=s0.c1;have d2:=s0.c2;have d3:=s0.c3;have d4:=s0.c4;have d5:=s0.c5;simp only at d0 d1 d2 d3 d4 d5;clear s0
 go_wp2
 go_ret
 refine ⟨congrArg (fun t=>Ending.returned (.string t)) ?_,H2.out.below⟩;apply ByteArray.ext
 simp
theorem rt16 (N:Nat)(mo:Option Addr)(mc:Nat)(ms:List Nd)(g:Nd->Lx.B)(e:Nd->Bool)(i:Nat)(line col num:Int)(name:ByteArray)(kids:List Int)(hnd:nd ms i=⟨⟨#[110,111,116]⟩,line,col,name,num,kids⟩)(hi:i<ms.length)(hP:KidsC N mo mc ms g ⟨⟨#[110,111,116]⟩,line,col,name,num,kids⟩)(hk:kids.length=1)(hl:(Rt.nodeP ms g e ⟨#[110,111,116]⟩ name num kids).length<=1000000000):
  TextC N mo mc ms (Rt.nodeP ms g e ⟨#[110,111,116]⟩ name num kids) i:=by
 intro w hm hN;have hm2:=hm;obtain ⟨b,o,ka,kc,rfl,hn⟩:=hm i hi;rw [hnd] at hn;have H0:=Lib.hid (Tb.start (kc:=kc) hm2 hn.kids hN);have c0:=hn.c0;have c1:=hn.c1;have c2:=hn.c2;have c3:=hn.c3;have c4:=hn.c4;have c5:=hn.c5;simp only at c0 c1 c2 c3 c4 c5;obtain ⟨W,hW⟩:∃ W,w.alloc (.cells #[.string ⟨#[110,111,116]⟩,.int .i64 line,.int .i64 col,.string name,.int .i64 num,.slice ka kids.length kc] 30)=W:=⟨_,rfl⟩;simp only at H0;rw [hW] at H0;have HW:=Lib.hid hW;rw [Rt.r16] at hl ⊢;have hns:name.size=name.data.toList.length:=by rw [<- ByteArray.size_data];simp
 have HP0:=fun (w':World) (h:Tb N (some ⟨b,o,none⟩) ms ⟨⟨#[110,111,116]⟩,line,col,name,num,kids⟩ ka kc w w')=>Tb.part hP 0 0 rfl (by simp only;omega) 7 (by simp only [List.length_append] at hl;simp only;omega) h;obtain ⟨P0,e0⟩:∃ P,Rt.part ms g (kid kids 0) 7=P:=⟨_,rfl⟩;simp only at HP0;rw [e0] at HP0 hl ⊢;simp only [List.length_append,List.length_cons,List.length_nil] at hl;simp only [nval] at *;have HL:∀ w',Hid (Calls Tryz.prog 36 #[.string ⟨#[110,111,116]⟩] w' (LvP 7 w')):=fun w'=>Lib.hid (by have h:=level_any ⟨#[110,111,116]⟩ (by simp only [opList,List.mem_cons,true_or,or_true]) w';rwa [show (Sh.formOf ⟨#[110,111,116]⟩).level=7 from by kernel_rfl] at h);have HQ0:=Lib.hid HP0;have b0:P0.length<=1000000000:=by omega
 have g0:¬ 9223372036854775807<3+1:=by omega
 have g1:¬ 9223372036854775807<3+1+P0.length:=by omega
 clear HP0 e0;clear hn hm hm2 hP hW hnd hns hl hk
 go_enter Tryz.func20,Tryz.ntmps20
 go_upto_region 2 with fail
 rw [HW.out];clear c0 c1 c2 c3 c4 c5;have s0:=H0.out.six;have d0:=s0.c0;have d1:=s0.c1;have d2:=s0.c2;have d3:=s0.c3;have d4:=s0.c4;have d5:=s0.c5;simp only at d0 d1 d2 d3 d4 d5;clear s0
 go_wp2_with fail
 refine ((HL _).out).mono ?_;rintro e w1 ⟨rfl,hb⟩;have H1:=Lib.hid (H0.out.step hb);clear hb d0 d1 d2 d3 d4 d5 H0;have s0:=H1.out.six;have d0:=s0.c0;have d1:=s0.c1;have d2:=s0.c2;have d3:=s0.c3;have d4:=s0.c4;have d5:=s0.c5;simp only at d0 d1 d2 d3 d4 d5;have y0:=fun x:Later w1=>Later.cell d0 x;have y1:=fun x:Later w1=>Later.cell d1 x;have y2:=fun x:Later w1=>Later.cell d2 x;have y3:=fun x:Later w1=>Later.cell d3 x;have y4:=fun x:Later w1=>Later.cell d4 x;have y5:=fun x:Later w1=>Later.cell d5 x;have k0:=fun x:Later w1=>calls_later (HQ0.out x.wx (H1.out.step x.le));have K0:=Lib.hid k0;clear s0 k0
 go_wp2_with fail
 clear d0 d1 d2 d3 d4 d5;refine wp_region_later (by kernel_rfl) (by kernel_rfl) ?_
 repeat (first | go_big_quiet_step (first | (go_at_call 37;with_reducible exact K0.out _)) | quiet_step (first | (go_at_call 37;with_reducible exact K0.out _)))
 refine wpQuiet_nil ?_;rintro w' ⟨x,rfl⟩;have HX:=Lib.hid (H1.out.below.trans (x.le.mono H1.out.below.size));generalize x.wx=wx at *
 go_wp2
 go_ret
 refine ⟨congrArg (fun t=>Ending.returned (.string t)) ?_,HX.out⟩;apply ByteArray.ext
 simp
theorem rt17 (N:Nat)(mo:Option Addr)(mc:Nat)(ms:List Nd)(g:Nd->Lx.B)(e:Nd->Bool)(i:Nat)(line col num:Int)(name:ByteArray)(kids:List Int)(hnd:nd ms i=⟨⟨#[102,115,116]⟩,line,col,name,num,kids⟩)(hi:i<ms.length)(hP:KidsC N mo mc ms g ⟨⟨#[102,115,116]⟩,line,col,name,num,kids⟩)(hk:kids.length=1)(hl:(Rt.nodeP ms g e ⟨#[102,115,116]⟩ name num kids).length<=1000000000):
  TextC N mo mc ms (Rt.nodeP ms g e ⟨#[102,115,116]⟩ name num kids) i:=by
 intro w hm hN;have hm2:=hm;obtain ⟨b,o,ka,kc,rfl,hn⟩:=hm i hi;rw [hnd] at hn;have H0:=Lib.hid (Tb.start (kc:=kc) hm2 hn.kids hN);have c0:=hn.c0;have c1:=hn.c1;have c2:=hn.c2;have c3:=hn.c3;have c4:=hn.c4;have c5:=hn.c5;simp only at c0 c1 c2 c3 c4 c5;obtain ⟨W,hW⟩:∃ W,w.alloc (.cells #[.string ⟨#[102,115,116]⟩,.int .i64 line,.int .i64 col,.string name,.int .i64 num,.slice ka kids.length kc] 30)=W:=⟨_,rfl⟩;simp only at H0;rw [hW] at H0;have HW:=Lib.hid hW;rw [Rt.r17] at hl ⊢;have hns:name.size=name.data.toList.length:=by rw [<- ByteArray.size_data];simp
 have HP0:=fun (w':World) (h:Tb N (some ⟨b,o,none⟩) ms ⟨⟨#[102,115,116]⟩,line,col,name,num,kids⟩ ka kc w w')=>Tb.part hP 0 0 rfl (by simp only;omega) 7 (by simp only [List.length_append] at hl;simp only;omega) h;obtain ⟨P0,e0⟩:∃ P,Rt.part ms g (kid kids 0) 7=P:=⟨_,rfl⟩;simp only at HP0;rw [e0] at HP0 hl ⊢;simp only [List.length_append,List.length_cons,List.length_nil] at hl;simp only [nval] at *;have HL:∀ w',Hid (Calls Tryz.prog 36 #[.string ⟨#[102,115,116]⟩] w' (LvP 7 w')):=fun w'=>Lib.hid (by have h:=level_any ⟨#[102,115,116]⟩ (by simp only [opList,List.mem_cons,true_or,or_true]) w';rwa [show (Sh.formOf ⟨#[102,115,116]⟩).level=7 from by kernel_rfl] at h);have HQ0:=Lib.hid HP0;have b0:P0.length<=1000000000:=by omega
 have g0:¬ 9223372036854775807<3+1:=by omega
 have g1:¬ 9223372036854775807<3+1+P0.length:=by omega
 clear HP0 e0;clear hn hm hm2 hP hW hnd hns hl hk
 go_enter Tryz.func20,Tryz.ntmps20
 go_upto_region 2 with fail
 rw [HW.out];clear c0 c1 c2 c3 c4 c5;have s0:=H0.out.six;have d0:=s0.c0;have d1:=s0.c1;have d2:=s0.c2;have d3:=s0.c3;have d4:=s0.c4;have d5:=s0.c5;simp only at d0 d1 d2 d3 d4 d5;clear s0
 go_wp2_with fail
 refine ((HL _).out).mono ?_;rintro e w1 ⟨rfl,hb⟩;have H1:=Lib.hid (H0.out.step hb);clear hb d0 d1 d2 d3 d4 d5 H0;have s0:=H1.out.six;have d0:=s0.c0;have d1:=s0.c1;have d2:=s0.c2;have d3:=s0.c3;have d4:=s0.c4;have d5:=s0.c5;simp only at d0 d1 d2 d3 d4 d5;have y0:=fun x:Later w1=>Later.cell d0 x;have y1:=fun x:Later w1=>Later.cell d1 x;have y2:=fun x:Later w1=>Later.cell d2 x;have y3:=fun x:Later w1=>Later.cell d3 x;have y4:=fun x:Later w1=>Later.cell d4 x;have y5:=fun x:Later w1=>Later.cell d5 x;have k0:=fun x:Later w1=>calls_later (HQ0.out x.wx (H1.out.step x.le));have K0:=Lib.hid k0;clear s0 k0
 go_wp2_with fail
 clear d0 d1 d2 d3 d4 d5;refine wp_region_later (by kernel_rfl) (by kernel_rfl) ?_
 repeat (first | go_big_quiet_step (first | (go_at_call 37;with_reducible exact K0.out _)) | quiet_step (first | (go_at_call 37;with_reducible exact K0.out _)))
 refine wpQuiet_nil ?_;rintro w' ⟨x,rfl⟩;have HX:=Lib.hid (H1.out.below.trans (x.le.mono H1.out.below.size));generalize x.wx=wx at *
 go_wp2
 go_ret
 refine ⟨congrArg (fun t=>Ending.returned (.string t)) ?_,HX.out⟩;apply ByteArray.ext
 simp
theorem rt18 (N:Nat)(mo:Option Addr)(mc:Nat)(ms:List Nd)(g:Nd->Lx.B)(e:Nd->Bool)(i:Nat)(line col num:Int)(name:ByteArray)(kids:List Int)(hnd:nd ms i=⟨⟨#[115,110,100]⟩,line,col,name,num,kids⟩)(hi:i<ms.length)(hP:KidsC N mo mc ms g ⟨⟨#[115,110,100]⟩,line,col,name,num,kids⟩)(hk:kids.length=1)(hl:(Rt.nodeP ms g e ⟨#[115,110,100]⟩ name num kids).length<=1000000000):
  TextC N mo mc ms (Rt.nodeP ms g e ⟨#[115,110,100]⟩ name num kids) i:=by
 intro w hm hN;have hm2:=hm;obtain ⟨b,o,ka,kc,rfl,hn⟩:=hm i hi;rw [hnd] at hn;have H0:=Lib.hid (Tb.start (kc:=kc) hm2 hn.kids hN);have c0:=hn.c0;have c1:=hn.c1;have c2:=hn.c2;have c3:=hn.c3;have c4:=hn.c4;have c5:=hn.c5;simp only at c0 c1 c2 c3 c4 c5;obtain ⟨W,hW⟩:∃ W,w.alloc (.cells #[.string ⟨#[115,110,100]⟩,.int .i64 line,.int .i64 col,.string name,.int .i64 num,.slice ka kids.length kc] 30)=W:=⟨_,rfl⟩;simp only at H0;rw [hW] at H0;have HW:=Lib.hid hW;rw [Rt.r18] at hl ⊢;have hns:name.size=name.data.toList.length:=by rw [<- ByteArray.size_data];simp
 have HP0:=fun (w':World) (h:Tb N (some ⟨b,o,none⟩) ms ⟨⟨#[115,110,100]⟩,line,col,name,num,kids⟩ ka kc w w')=>Tb.part hP 0 0 rfl (by simp only;omega) 7 (by simp only [List.length_append] at hl;simp only;omega) h;obtain ⟨P0,e0⟩:∃ P,Rt.part ms g (kid kids 0) 7=P:=⟨_,rfl⟩;simp only at HP0;rw [e0] at HP0 hl ⊢;simp only [List.length_append,List.length_cons,List.length_nil] at hl;simp only [nval] at *;have HL:∀ w',Hid (Calls Tryz.prog 36 #[.string ⟨#[115,110,100]⟩] w' (LvP 7 w')):=fun w'=>Lib.hid (by have h:=level_any ⟨#[115,110,100]⟩ (by simp only [opList,List.mem_cons,true_or,or_true]) w';rwa [show (Sh.formOf ⟨#[115,110,100]⟩).level=7 from by kernel_rfl] at h);have HQ0:=Lib.hid HP0;have b0:P0.length<=1000000000:=by omega
 have g0:¬ 9223372036854775807<3+1:=by omega
 have g1:¬ 9223372036854775807<3+1+P0.length:=by omega
 clear HP0 e0;clear hn hm hm2 hP hW hnd hns hl hk
 go_enter Tryz.func20,Tryz.ntmps20
 go_upto_region 2 with fail
 rw [HW.out];clear c0 c1 c2 c3 c4 c5;have s0:=H0.out.six;have d0:=s0.c0;have d1:=s0.c1;have d2:=s0.c2;have d3:=s0.c3;have d4:=s0.c4;have d5:=s0.c5;simp only at d0 d1 d2 d3 d4 d5;clear s0
 go_wp2_with fail
 refine ((HL _).out).mono ?_;rintro e w1 ⟨rfl,hb⟩;have H1:=Lib.hid (H0.out.step hb);clear hb d0 d1 d2 d3 d4 d5 H0;have s0:=H1.out.six;have d0:=s0.c0;have d1:=s0.c1;have d2:=s0.c2;have d3:=s0.c3;have d4:=s0.c4;have d5:=s0.c5;simp only at d0 d1 d2 d3 d4 d5;have y0:=fun x:Later w1=>Later.cell d0 x;have y1:=fun x:Later w1=>Later.cell d1 x;have y2:=fun x:Later w1=>Later.cell d2 x;have y3:=fun x:Later w1=>Later.cell d3 x;have y4:=fun x:Later w1=>Later.cell d4 x;have y5:=fun x:Later w1=>Later.cell d5 x;have k0:=fun x:Later w1=>calls_later (HQ0.out x.wx (H1.out.step x.le));have K0:=Lib.hid k0;clear s0 k0
 go_wp2_with fail
 clear d0 d1 d2 d3 d4 d5;refine wp_region_later (by kernel_rfl) (by kernel_rfl) ?_
 repeat (first | go_big_quiet_step (first | (go_at_call 37;with_reducible exact K0.out _)) | quiet_step (first | (go_at_call 37;with_reducible exact K0.out _)))
 refine wpQuiet_nil ?_;rintro w' ⟨x,rfl⟩;have HX:=Lib.hid (H1.out.below.trans (x.le.mono H1.out.below.size));generalize x.wx=wx at *
 go_wp2
 go_ret
 refine ⟨congrArg (fun t=>Ending.returned (.string t)) ?_,HX.out⟩;apply ByteArray.ext
 simp
theorem rt19 (N:Nat)(mo:Option Addr)(mc:Nat)(ms:List Nd)(g:Nd->Lx.B)(e:Nd->Bool)(i:Nat)(line col num:Int)(name:ByteArray)(kids:List Int)(hnd:nd ms i=⟨⟨#[114,101,108,101,97,115,101]⟩,line,col,name,num,kids⟩)(hi:i<ms.length)(hP:KidsC N mo mc ms g ⟨⟨#[114,101,108,101,97,115,101]⟩,line,col,name,num,kids⟩)(hk:kids.length=1)(hl:(Rt.nodeP ms g e ⟨#[114,101,108,101,97,115,101]⟩ name num kids).length<=1000000000):
  TextC N mo mc ms (Rt.nodeP ms g e ⟨#[114,101,108,101,97,115,101]⟩ name num kids) i:=by
 intro w hm hN;have hm2:=hm;obtain ⟨b,o,ka,kc,rfl,hn⟩:=hm i hi;rw [hnd] at hn;have H0:=Lib.hid (Tb.start (kc:=kc) hm2 hn.kids hN);have c0:=hn.c0;have c1:=hn.c1;have c2:=hn.c2;have c3:=hn.c3;have c4:=hn.c4;have c5:=hn.c5;simp only at c0 c1 c2 c3 c4 c5;obtain ⟨W,hW⟩:∃ W,w.alloc (.cells #[.string ⟨#[114,101,108,101,97,115,101]⟩,.int .i64 line,.int .i64 col,.string name,.int .i64 num,.slice ka kids.length kc] 30)=W:=⟨_,rfl⟩;simp only at H0;rw [hW] at H0;have HW:=Lib.hid hW;rw [Rt.r19] at hl ⊢;have hrl:Rt.list ms g kids=Rt.bk (Rt.part ms g (kid kids 0) 0):=by
  match kids,hk with
  | [k],_=>simp [Rt.list,Rt.listGo,kid]
 rw [hrl] at hl ⊢;unfold Rt.bk at hl ⊢;have hns:name.size=name.data.toList.length:=by rw [<- ByteArray.size_data];simp
 have HP0:=fun (w':World) (h:Tb N (some ⟨b,o,none⟩) ms ⟨⟨#[114,101,108,101,97,115,101]⟩,line,col,name,num,kids⟩ ka kc w w')=>Tb.part hP 0 0 rfl (by simp only;omega) 0 (by simp only [List.length_append,List.length_cons] at hl;simp only;omega) h;obtain ⟨P0,e0⟩:∃ P,Rt.part ms g (kid kids 0) 0=P:=⟨_,rfl⟩;simp only at HP0;rw [e0] at HP0 hl ⊢;simp only [List.length_append,List.length_cons,List.length_nil] at hl;simp only [nval] at *;have HL:∀ w',Hid (Calls Tryz.prog 36 #[.string ⟨#[114,101,108,101,97,115,101]⟩] w' (LvP 7 w')):=fun w'=>Lib.hid (by have h:=level_any ⟨#[114,101,108,101,97,115,101]⟩ (by simp only [opList,List.mem_cons,true_or,or_true]) w';rwa [show (Sh.formOf ⟨#[114,101,108,101,97,115,101]⟩).level=7 from by kernel_rfl] at h);have HQ0:=Lib.hid HP0;have b0:P0.length<=1000000000:=by omega
 have bn:name.size<=1000000000:=by omega
 have g0:¬ 9223372036854775807<8+name.size:=by omega
 have g1:¬ 9223372036854775807<8+name.size+2:=by omega
 have g2:¬ 9223372036854775807<8+name.size+2+P0.length:=by omega
 have g3:¬ 9223372036854775807<8+name.size+2+P0.length+1:=by omega
 clear HP0 e0;clear hn hm hm2 hP hW hnd hns hl hk
 go_enter Tryz.func20,Tryz.ntmps20
 go_upto_region 2 with fail
 rw [HW.out];clear c0 c1 c2 c3 c4 c5;have s0:=H0.out.six;have d0:=s0.c0;have d1:=s0.c1;have d2:=s0.c2;have d3:=s0.c3;have d4:=s0.c4;have d5:=s0.c5;simp only at d0 d1 d2 d3 d4 d5;clear s0
 go_wp2_with fail
 refine ((HL _).out).mono ?_;rintro e w1 ⟨rfl,hb⟩;have H1:=Lib.hid (H0.out.step hb);clear hb d0 d1 d2 d3 d4 d5 H0;have s0:=H1.out.six;have d0:=s0.c0;have d1:=s0.c1;have d2:=s0.c2;have d3:=s0.c3;have d4:=s0.c4;have d5:=s0.c5;simp only at d0 d1 d2 d3 d4 d5;have y0:=fun x:Later w1=>Later.cell d0 x;have y1:=fun x:Later w1=>Later.cell d1 x;have y2:=fun x:Later w1=>Later.cell d2 x;have y3:=fun x:Later w1=>Later.cell d3 x;have y4:=fun x:Later w1=>Later.cell d4 x;have y5:=fun x:Later w1=>Later.cell d5 x;have k0:=fun x:Later w1=>calls_later (HQ0.out x.wx (H1.out.step x.le));have K0:=Lib.hid k0;clear s0 k0
 go_wp2_with fail
 clear d0 d1 d2 d3 d4 d5;refine wp_region_later (by kernel_rfl) (by kernel_rfl) ?_
 repeat (first | go_big_quiet_step (first | (go_at_call 37;with_reducible exact K0.out _)) | quiet_step (first | (go_at_call 37;with_reducible exact K0.out _)))
 refine wpQuiet_nil ?_;rintro w' ⟨x,rfl⟩;have HX:=Lib.hid (H1.out.below.trans (x.le.mono H1.out.below.size));generalize x.wx=wx at *
 go_wp2
 go_ret
 refine ⟨congrArg (fun t=>Ending.returned (.string t)) ?_,HX.out⟩;apply ByteArray.ext
 simp
theorem rt20 (N:Nat)(mo:Option Addr)(mc:Nat)(ms:List Nd)(g:Nd->Lx.B)(e:Nd->Bool)(i:Nat)(line col num:Int)(name:ByteArray)(kids:List Int)(hnd:nd ms i=⟨⟨#[103,101,116]⟩,line,col,name,num,kids⟩)(hi:i<ms.length)(hP:KidsC N mo mc ms g ⟨⟨#[103,101,116]⟩,line,col,name,num,kids⟩)(hl:(Rt.nodeP ms g e ⟨#[103,101,116]⟩ name num kids).length<=1000000000):
  TextC N mo mc ms (Rt.nodeP ms g e ⟨#[103,101,116]⟩ name num kids) i:=by
 intro w hm hN;have hm2:=hm;obtain ⟨b,o,ka,kc,rfl,hn⟩:=hm i hi;rw [hnd] at hn;have H0:=Lib.hid (Tb.start (kc:=kc) hm2 hn.kids hN);have c0:=hn.c0;have c1:=hn.c1;have c2:=hn.c2;have c3:=hn.c3;have c4:=hn.c4;have c5:=hn.c5;simp only at c0 c1 c2 c3 c4 c5;obtain ⟨W,hW⟩:∃ W,w.alloc (.cells #[.string ⟨#[103,101,116]⟩,.int .i64 line,.int .i64 col,.string name,.int .i64 num,.slice ka kids.length kc] 30)=W:=⟨_,rfl⟩;simp only at H0;rw [hW] at H0;have HW:=Lib.hid hW;rw [Rt.r20] at hl ⊢;have hns:name.size=name.data.toList.length:=by rw [<- ByteArray.size_data];simp
 simp only [List.length_append,List.length_cons,List.length_nil] at hl;have HL:∀ w',Hid (Calls Tryz.prog 36 #[.string ⟨#[103,101,116]⟩] w' (LvP 7 w')):=fun w'=>Lib.hid (by have h:=level_any ⟨#[103,101,116]⟩ (by simp only [opList,List.mem_cons,true_or,or_true]) w';rwa [show (Sh.formOf ⟨#[103,101,116]⟩).level=7 from by kernel_rfl] at h);have bn:name.size<=1000000000:=by omega
 have g0:¬ 9223372036854775807<1+name.size:=by omega
 clear hn hm hm2 hP hW hnd hns hl
 go_enter Tryz.func20,Tryz.ntmps20
 go_upto_region 2 with fail
 rw [HW.out];clear c0 c1 c2 c3 c4 c5;have s0:=H0.out.six;have d0:=s0.c0;have d1:=s0.c1;have d2:=s0.c2;have d3:=s0.c3;have d4:=s0.c4;have d5:=s0.c5;simp only at d0 d1 d2 d3 d4 d5;clear s0
 go_wp2_with fail
 refine ((HL _).out).mono ?_;rintro e w1 ⟨rfl,hb⟩;have H1:=Lib.hid (H0.out.step hb);clear hb d0 d1 d2 d3 d4 d5 H0;have s0:=H1.out.six;have d0:=s0.c0;have d1:=s0.c1;have d2:=s0.c2;have d3:=s0.c3;have d4:=s0.c4;have d5:=s0.c5;simp only at d0 d1 d2 d3 d4 d5;clear s0
 go_wp2
 go_ret
 refine ⟨congrArg (fun t=>Ending.returned (.string t)) ?_,H1.out.below⟩;apply ByteArray.ext
 simp
theorem rt21 (N:Nat)(mo:Option Addr)(mc:Nat)(ms:List Nd)(g:Nd->Lx.B)(e:Nd->Bool)(i:Nat)(line col num:Int)(name:ByteArray)(kids:List Int)(hnd:nd ms i=⟨⟨#[116,114,117,101]⟩,line,col,name,num,kids⟩)(hi:i<ms.length)(hP:KidsC N mo mc ms g ⟨⟨#[116,114,117,101]⟩,line,col,name,num,kids⟩):
  TextC N mo mc ms (Rt.nodeP ms g e ⟨#[116,114,117,101]⟩ name num kids) i:=by
 intro w hm hN;have hm2:=hm;obtain ⟨b,o,ka,kc,rfl,hn⟩:=hm i hi;rw [hnd] at hn;have H0:=Lib.hid (Tb.start (kc:=kc) hm2 hn.kids hN);have c0:=hn.c0;have c1:=hn.c1;have c2:=hn.c2;have c3:=hn.c3;have c4:=hn.c4;have c5:=hn.c5;simp only at c0 c1 c2 c3 c4 c5;obtain ⟨W,hW⟩:∃ W,w.alloc (.cells #[.string ⟨#[116,114,117,101]⟩,.int .i64 line,.int .i64 col,.string name,.int .i64 num,.slice ka kids.length kc] 30)=W:=⟨_,rfl⟩;simp only at H0;rw [hW] at H0;have HW:=Lib.hid hW;rw [Rt.r21] at ⊢;have HL:∀ w',Hid (Calls Tryz.prog 36 #[.string ⟨#[116,114,117,101]⟩] w' (LvP 7 w')):=fun w'=>Lib.hid (by have h:=level_any ⟨#[116,114,117,101]⟩ (by simp only [opList,List.mem_cons,true_or,or_true]) w';rwa [show (Sh.formOf ⟨#[116,114,117,101]⟩).level=7 from by kernel_rfl] at h);clear hn hm hm2 hP hW hnd
 go_enter Tryz.func20,Tryz.ntmps20
 go_upto_region 2 with fail
 rw [HW.out];clear c0 c1 c2 c3 c4 c5;have s0:=H0.out.six;have d0:=s0.c0;have d1:=s0.c1;have d2:=s0.c2;have d3:=s0.c3;have d4:=s0.c4;have d5:=s0.c5;simp only at d0 d1 d2 d3 d4 d5;clear s0
 go_wp2_with fail
 refine ((HL _).out).mono ?_;rintro e w1 ⟨rfl,hb⟩;have H1:=Lib.hid (H0.out.step hb);clear hb d0 d1 d2 d3 d4 d5 H0;have s0:=H1.out.six;have d0:=s0.c0;have d1:=s0.c1;have d2:=s0.c2;have d3:=s0.c3;have d4:=s0.c4;have d5:=s0.c5;simp only at d0 d1 d2 d3 d4 d5;clear s0
 go_wp2
 go_ret
 refine ⟨congrArg (fun t=>Ending.returned (.string t)) ?_,H1.out.below⟩;apply ByteArray.ext
 simp
theorem rt22 (N:Nat)(mo:Option Addr)(mc:Nat)(ms:List Nd)(g:Nd->Lx.B)(e:Nd->Bool)(i:Nat)(line col num:Int)(name:ByteArray)(kids:List Int)(hnd:nd ms i=⟨⟨#[102,97,108,115,101]⟩,line,col,name,num,kids⟩)(hi:i<ms.length)(hP:KidsC N mo mc ms g ⟨⟨#[102,97,108,115,101]⟩,line,col,name,num,kids⟩):
  TextC N mo mc ms (Rt.nodeP ms g e ⟨#[102,97,108,115,101]⟩ name num kids) i:=by
 intro w hm hN;have hm2:=hm;obtain ⟨b,o,ka,kc,rfl,hn⟩:=hm i hi;rw [hnd] at hn;have H0:=Lib.hid (Tb.start (kc:=kc) hm2 hn.kids hN);have c0:=hn.c0;have c1:=hn.c1;have c2:=hn.c2;have c3:=hn.c3;have c4:=hn.c4;have c5:=hn.c5;simp only at c0 c1 c2 c3 c4 c5;obtain ⟨W,hW⟩:∃ W,w.alloc (.cells #[.string ⟨#[102,97,108,115,101]⟩,.int .i64 line,.int .i64 col,.string name,.int .i64 num,.slice ka kids.length kc] 30)=W:=⟨_,rfl⟩;simp only at H0;rw [hW] at H0;have HW:=Lib.hid hW;rw [Rt.r22] at ⊢;have HL:∀ w',Hid (Calls Tryz.prog 36 #[.string ⟨#[102,97,108,115,101]⟩] w' (LvP 7 w')):=fun w'=>Lib.hid (by have h:=level_any ⟨#[102,97,108,115,101]⟩ (by simp only [opList,List.mem_cons,true_or,or_true]) w';rwa [show (Sh.formOf ⟨#[102,97,108,115,101]⟩).level=7 from by kernel_rfl] at h);clear hn hm hm2 hP hW hnd
 go_enter Tryz.func20,Tryz.ntmps20
 go_upto_region 2 with fail
 rw [HW.out];clear c0 c1 c2 c3 c4 c5;have s0:=H0.out.six;have d0:=s0.c0;have d1:=s0.c1;have d2:=s0.c2;have d3:=s0.c3;have d4:=s0.c4;have d5:=s0.c5;simp only at d0 d1 d2 d3 d4 d5;clear s0
 go_wp2_with fail
 refine ((HL _).out).mono ?_;rintro e w1 ⟨rfl,hb⟩;have H1:=Lib.hid (H0.out.step hb);clear hb d0 d1 d2 d3 d4 d5 H0;have s0:=H1.out.six;have d0:=s0.c0;have d1:=s0.c1;have d2:=s0.c2;have d3:=s0.c3;have d4:=s0.c4;have d5:=s0.c5;simp only at d0 d1 d2 d3 d4 d5;clear s0
 go_wp2
 go_ret
 refine ⟨congrArg (fun t=>Ending.returned (.string t)) ?_,H1.out.below⟩;apply ByteArray.ext
 simp
theorem rt23 (N:Nat)(mo:Option Addr)(mc:Nat)(ms:List Nd)(g:Nd->Lx.B)(e:Nd->Bool)(i:Nat)(line col num:Int)(name:ByteArray)(kids:List Int)(hnd:nd ms i=⟨⟨#[104,111,108,101]⟩,line,col,name,num,kids⟩)(hi:i<ms.length)(hP:KidsC N mo mc ms g ⟨⟨#[104,111,108,101]⟩,line,col,name,num,kids⟩)(hl:(Rt.nodeP ms g e ⟨#[104,111,108,101]⟩ name num kids).length<=1000000000):
  TextC N mo mc ms (Rt.nodeP ms g e ⟨#[104,111,108,101]⟩ name num kids) i:=by
 intro w hm hN;have hm2:=hm;obtain ⟨b,o,ka,kc,rfl,hn⟩:=hm i hi;rw [hnd] at hn;have H0:=Lib.hid (Tb.start (kc:=kc) hm2 hn.kids hN);have c0:=hn.c0;have c1:=hn.c1;have c2:=hn.c2;have c3:=hn.c3;have c4:=hn.c4;have c5:=hn.c5;simp only at c0 c1 c2 c3 c4 c5;obtain ⟨W,hW⟩:∃ W,w.alloc (.cells #[.string ⟨#[104,111,108,101]⟩,.int .i64 line,.int .i64 col,.string name,.int .i64 num,.slice ka kids.length kc] 30)=W:=⟨_,rfl⟩;simp only at H0;rw [hW] at H0;have HW:=Lib.hid hW;rw [Rt.r23] at hl ⊢;have hns:name.size=name.data.toList.length:=by rw [<- ByteArray.size_data];simp
 simp only [List.length_append,List.length_cons,List.length_nil] at hl;have HL:∀ w',Hid (Calls Tryz.prog 36 #[.string ⟨#[104,111,108,101]⟩] w' (LvP 7 w')):=fun w'=>Lib.hid (by have h:=level_any ⟨#[104,111,108,101]⟩ (by simp only [opList,List.mem_cons,true_or,or_true]) w';rwa [show (Sh.formOf ⟨#[104,111,108,101]⟩).level=7 from by kernel_rfl] at h);have bn:name.size<=1000000000:=by omega
 have g0:¬ 9223372036854775807<4+1:=by omega
 have g1:¬ 9223372036854775807<4+1+name.size:=by omega
 clear hn hm hm2 hP hW hnd hns hl
 go_enter Tryz.func20,Tryz.ntmps20
 go_upto_region 2 with fail
 rw [HW.out];clear c0 c1 c2 c3 c4 c5;have s0:=H0.out.six;have d0:=s0.c0;have d1:=s0.c1;have d2:=s0.c2;have d3:=s0.c3;have d4:=s0.c4;have d5:=s0.c5;simp only at d0 d1 d2 d3 d4 d5;clear s0
 go_wp2_with fail
 refine ((HL _).out).mono ?_;rintro e w1 ⟨rfl,hb⟩;have H1:=Lib.hid (H0.out.step hb);clear hb d0 d1 d2 d3 d4 d5 H0;have s0:=H1.out.six;have d0:=s0.c0;have d1:=s0.c1;have d2:=s0.c2;have d3:=s0.c3;have d4:=s0.c4;have d5:=s0.c5;simp only at d0 d1 d2 d3 d4 d5;clear s0
 go_wp2
 go_ret
 refine ⟨congrArg (fun t=>Ending.returned (.string t)) ?_,H1.out.below⟩;apply ByteArray.ext
 simp
theorem rt24 (N:Nat)(mo:Option Addr)(mc:Nat)(ms:List Nd)(g:Nd->Lx.B)(e:Nd->Bool)(i:Nat)(line col num:Int)(name:ByteArray)(kids:List Int)(hnd:nd ms i=⟨⟨#[117,110,105,116]⟩,line,col,name,num,kids⟩)(hi:i<ms.length)(hP:KidsC N mo mc ms g ⟨⟨#[117,110,105,116]⟩,line,col,name,num,kids⟩)(hk:kids.length=0):
  TextC N mo mc ms (Rt.nodeP ms g e ⟨#[117,110,105,116]⟩ name num kids) i:=by
 intro w hm hN;have hm2:=hm;obtain ⟨b,o,ka,kc,rfl,hn⟩:=hm i hi;rw [hnd] at hn;have H0:=Lib.hid (Tb.start (kc:=kc) hm2 hn.kids hN);have c0:=hn.c0;have c1:=hn.c1;have c2:=hn.c2;have c3:=hn.c3;have c4:=hn.c4;have c5:=hn.c5;simp only at c0 c1 c2 c3 c4 c5;obtain ⟨W,hW⟩:∃ W,w.alloc (.cells #[.string ⟨#[117,110,105,116]⟩,.int .i64 line,.int .i64 col,.string name,.int .i64 num,.slice ka kids.length kc] 30)=W:=⟨_,rfl⟩;simp only at H0;rw [hW] at H0;have HW:=Lib.hid hW;rw [Rt.r24] at ⊢;have hrl:Rt.list ms g kids=[40,41]:=by rw [List.eq_nil_of_length_eq_zero hk];rfl
 rw [hrl];have HL:∀ w',Hid (Calls Tryz.prog 36 #[.string ⟨#[117,110,105,116]⟩] w' (LvP 7 w')):=fun w'=>Lib.hid (by have h:=level_any ⟨#[117,110,105,116]⟩ (by simp only [opList,List.mem_cons,true_or,or_true]) w';rwa [show (Sh.formOf ⟨#[117,110,105,116]⟩).level=7 from by kernel_rfl] at h);clear hn hm hm2 hP hW hnd  hk
 go_enter Tryz.func20,Tryz.ntmps20
 go_upto_region 2 with fail
 rw [HW.out];clear c0 c1 c2 c3 c4 c5;have s0:=H0.out.six;have d0:=s0.c0;have d1:=s0.c1;have d2:=s0.c2;have d3:=s0.c3;have d4:=s0.c4;have d5:=s0.c5;simp only at d0 d1 d2 d3 d4 d5;clear s0
 go_wp2_with fail
 refine ((HL _).out).mono ?_;rintro e w1 ⟨rfl,hb⟩;have H1:=Lib.hid (H0.out.step hb);clear hb d0 d1 d2 d3 d4 d5 H0;have s0:=H1.out.six;have d0:=s0.c0;have d1:=s0.c1;have d2:=s0.c2;have d3:=s0.c3;have d4:=s0.c4;have d5:=s0.c5;simp only at d0 d1 d2 d3 d4 d5;clear s0
 go_wp2
 go_ret
 refine ⟨congrArg (fun t=>Ending.returned (.string t)) ?_,H1.out.below⟩;apply ByteArray.ext
 simp
theorem rt25 (N:Nat)(mo:Option Addr)(mc:Nat)(ms:List Nd)(g:Nd->Lx.B)(e:Nd->Bool)(i:Nat)(line col num:Int)(name:ByteArray)(kids:List Int)(hnd:nd ms i=⟨⟨#[105,110,116]⟩,line,col,name,num,kids⟩)(hi:i<ms.length)(hP:KidsC N mo mc ms g ⟨⟨#[105,110,116]⟩,line,col,name,num,kids⟩)(hk : -9223372036854775807<=num/\num<=9223372036854775807):
  TextC N mo mc ms (Rt.nodeP ms g e ⟨#[105,110,116]⟩ name num kids) i:=by
 intro w hm hN;have hm2:=hm;obtain ⟨b,o,ka,kc,rfl,hn⟩:=hm i hi;rw [hnd] at hn;have H0:=Lib.hid (Tb.start (kc:=kc) hm2 hn.kids hN);have c0:=hn.c0;have c1:=hn.c1;have c2:=hn.c2;have c3:=hn.c3;have c4:=hn.c4;have c5:=hn.c5;simp only at c0 c1 c2 c3 c4 c5;obtain ⟨W,hW⟩:∃ W,w.alloc (.cells #[.string ⟨#[105,110,116]⟩,.int .i64 line,.int .i64 col,.string name,.int .i64 num,.slice ka kids.length kc] 30)=W:=⟨_,rfl⟩;simp only at H0;rw [hW] at H0;have HW:=Lib.hid hW;rw [Rt.r25] at ⊢;have HD:=fun w'=>Lib.hid (digits_any num hk.1 hk.2 w');have HL:∀ w',Hid (Calls Tryz.prog 36 #[.string ⟨#[105,110,116]⟩] w' (LvP 7 w')):=fun w'=>Lib.hid (by have h:=level_any ⟨#[105,110,116]⟩ (by simp only [opList,List.mem_cons,true_or,or_true]) w';rwa [show (Sh.formOf ⟨#[105,110,116]⟩).level=7 from by kernel_rfl] at h);clear hn hm hm2 hP hW hnd  hk
 go_enter Tryz.func20,Tryz.ntmps20
 go_upto_region 2 with fail
 rw [HW.out];clear c0 c1 c2 c3 c4 c5;have s0:=H0.out.six;have d0:=s0.c0;have d1:=s0.c1;have d2:=s0.c2;have d3:=s0.c3;have d4:=s0.c4;have d5:=s0.c5;simp only at d0 d1 d2 d3 d4 d5;clear s0
 go_wp2_with fail
 refine ((HL _).out).mono ?_;rintro e w1 ⟨rfl,hb⟩;have H1:=Lib.hid (H0.out.step hb);clear hb d0 d1 d2 d3 d4 d5 H0;have s0:=H1.out.six;have d0:=s0.c0;have d1:=s0.c1;have d2:=s0.c2;have d3:=s0.c3;have d4:=s0.c4;have d5:=s0.c5;simp only at d0 d1 d2 d3 d4 d5;clear s0
 go_wp2_with fail
 refine ((HD _).out).mono ?_;rintro e w2 ⟨rfl,hb⟩;have H2:=Lib.hid (H1.out.step hb);clear hb d0 d1 d2 d3 d4 d5 H1;have s0:=H2.out.six;have d0:=s0.c0;have d1:=s0.c1;have d2:=s0.c2;have d3:=s0.c3;have d4:=s0.c4;have d5:=s0.c5;simp only at d0 d1 d2 d3 d4 d5;clear s0
 go_wp2
 go_ret
 refine ⟨congrArg (fun t=>Ending.returned (.string t)) ?_,H2.out.below⟩;apply ByteArray.ext
 simp
theorem rt26 (N:Nat)(mo:Option Addr)(mc:Nat)(ms:List Nd)(g:Nd->Lx.B)(e:Nd->Bool)(i:Nat)(line col num:Int)(name:ByteArray)(kids:List Int)(hnd:nd ms i=⟨⟨#[118,97,114]⟩,line,col,name,num,kids⟩)(hi:i<ms.length)(hP:KidsC N mo mc ms g ⟨⟨#[118,97,114]⟩,line,col,name,num,kids⟩)(hl:(Rt.nodeP ms g e ⟨#[118,97,114]⟩ name num kids).length<=1000000000):
  TextC N mo mc ms (Rt.nodeP ms g e ⟨#[118,97,114]⟩ name num kids) i:=by
 intro w hm hN;have hm2:=hm;obtain ⟨b,o,ka,kc,rfl,hn⟩:=hm i hi;rw [hnd] at hn;have H0:=Lib.hid (Tb.start (kc:=kc) hm2 hn.kids hN);have c0:=hn.c0;have c1:=hn.c1;have c2:=hn.c2;have c3:=hn.c3;have c4:=hn.c4;have c5:=hn.c5;simp only at c0 c1 c2 c3 c4 c5;obtain ⟨W,hW⟩:∃ W,w.alloc (.cells #[.string ⟨#[118,97,114]⟩,.int .i64 line,.int .i64 col,.string name,.int .i64 num,.slice ka kids.length kc] 30)=W:=⟨_,rfl⟩;simp only at H0;rw [hW] at H0;have HW:=Lib.hid hW;rw [Rt.r26] at hl ⊢;have hns:name.size=name.data.toList.length:=by rw [<- ByteArray.size_data];simp
 have HL:∀ w',Hid (Calls Tryz.prog 36 #[.string ⟨#[118,97,114]⟩] w' (LvP 7 w')):=fun w'=>Lib.hid (by have h:=level_any ⟨#[118,97,114]⟩ (by simp only [opList,List.mem_cons,true_or,or_true]) w';rwa [show (Sh.formOf ⟨#[118,97,114]⟩).level=7 from by kernel_rfl] at h);have bn:name.size<=1000000000:=by omega
 clear hn hm hm2 hP hW hnd hns hl
 go_enter Tryz.func20,Tryz.ntmps20
 go_upto_region 2 with fail
 rw [HW.out];clear c0 c1 c2 c3 c4 c5;have s0:=H0.out.six;have d0:=s0.c0;have d1:=s0.c1;have d2:=s0.c2;have d3:=s0.c3;have d4:=s0.c4;have d5:=s0.c5;simp only at d0 d1 d2 d3 d4 d5;clear s0
 go_wp2_with fail
 refine ((HL _).out).mono ?_;rintro e w1 ⟨rfl,hb⟩;have H1:=Lib.hid (H0.out.step hb);clear hb d0 d1 d2 d3 d4 d5 H0;have s0:=H1.out.six;have d0:=s0.c0;have d1:=s0.c1;have d2:=s0.c2;have d3:=s0.c3;have d4:=s0.c4;have d5:=s0.c5;simp only at d0 d1 d2 d3 d4 d5;clear s0
 go_wp2
 go_ret
 refine ⟨congrArg (fun t=>Ending.returned (.string t)) ?_,H1.out.below⟩;apply ByteArray.ext
 simp
theorem rt27 (N:Nat)(mo:Option Addr)(mc:Nat)(ms:List Nd)(g:Nd->Lx.B)(e:Nd->Bool)(i:Nat)(line col num:Int)(name:ByteArray)(kids:List Int)(hnd:nd ms i=⟨⟨#[99,97,108,108]⟩,line,col,name,num,kids⟩)(hi:i<ms.length)(hP:KidsC N mo mc ms g ⟨⟨#[99,97,108,108]⟩,line,col,name,num,kids⟩)(hk:kids.length<=1000000)(hl:(Rt.nodeP ms g e ⟨#[99,97,108,108]⟩ name num kids).length<=1000000000):
  TextC N mo mc ms (Rt.nodeP ms g e ⟨#[99,97,108,108]⟩ name num kids) i:=by
 intro w hm hN;have hm2:=hm;obtain ⟨b,o,ka,kc,rfl,hn⟩:=hm i hi;rw [hnd] at hn;have H0:=Lib.hid (Tb.start (kc:=kc) hm2 hn.kids hN);have c0:=hn.c0;have c1:=hn.c1;have c2:=hn.c2;have c3:=hn.c3;have c4:=hn.c4;have c5:=hn.c5;simp only at c0 c1 c2 c3 c4 c5;obtain ⟨W,hW⟩:∃ W,w.alloc (.cells #[.string ⟨#[99,97,108,108]⟩,.int .i64 line,.int .i64 col,.string name,.int .i64 num,.slice ka kids.length kc] 30)=W:=⟨_,rfl⟩;simp only at H0;rw [hW] at H0;have HW:=Lib.hid hW;rw [Rt.r27] at hl ⊢;have hns:name.size=name.data.toList.length:=by rw [<- ByteArray.size_data];simp
 have HP9:=fun (w':World) (h:Tb N (some ⟨b,o,none⟩) ms ⟨⟨#[99,97,108,108]⟩,line,col,name,num,kids⟩ ka kc w w')=>Tb.list (mc:=mc) (g:=g) hP (by simp only;omega) (by simp only [List.length_append] at hl;simp only;omega) h;obtain ⟨P9,e9⟩:∃ P,Rt.list ms g kids=P:=⟨_,rfl⟩;simp only at HP9;rw [e9] at HP9 hl ⊢;simp only [List.length_append] at hl;simp only [nval] at *;have HL:∀ w',Hid (Calls Tryz.prog 36 #[.string ⟨#[99,97,108,108]⟩] w' (LvP 7 w')):=fun w'=>Lib.hid (by have h:=level_any ⟨#[99,97,108,108]⟩ (by simp only [opList,List.mem_cons,true_or,or_true]) w';rwa [show (Sh.formOf ⟨#[99,97,108,108]⟩).level=7 from by kernel_rfl] at h);have HQ9:=Lib.hid HP9;have b9:P9.length<=1000000000:=by omega
 have bn:name.size<=1000000000:=by omega
 have g0:¬ 9223372036854775807<name.size+P9.length:=by omega
 clear HP9 e9;clear hn hm hm2 hP hW hnd hns hl hk
 go_enter Tryz.func20,Tryz.ntmps20
 go_upto_region 2 with fail
 rw [HW.out];clear c0 c1 c2 c3 c4 c5;have s0:=H0.out.six;have d0:=s0.c0;have d1:=s0.c1;have d2:=s0.c2;have d3:=s0.c3;have d4:=s0.c4;have d5:=s0.c5;simp only at d0 d1 d2 d3 d4 d5;clear s0
 go_wp2_with fail
 refine ((HL _).out).mono ?_;rintro e w1 ⟨rfl,hb⟩;have H1:=Lib.hid (H0.out.step hb);clear hb d0 d1 d2 d3 d4 d5 H0;have s0:=H1.out.six;have d0:=s0.c0;have d1:=s0.c1;have d2:=s0.c2;have d3:=s0.c3;have d4:=s0.c4;have d5:=s0.c5;simp only at d0 d1 d2 d3 d4 d5;have y0:=fun x:Later w1=>Later.cell d0 x;have y1:=fun x:Later w1=>Later.cell d1 x;have y2:=fun x:Later w1=>Later.cell d2 x;have y3:=fun x:Later w1=>Later.cell d3 x;have y4:=fun x:Later w1=>Later.cell d4 x;have y5:=fun x:Later w1=>Later.cell d5 x;have k9:=fun x:Later w1=>calls_later (HQ9.out x.wx (H1.out.step x.le));have K9:=Lib.hid k9;clear s0 k9
 go_wp2_with fail
 clear d0 d1 d2 d3 d4 d5;refine wp_region_later (by kernel_rfl) (by kernel_rfl) ?_
 repeat (first | go_big_quiet_step (first | (go_at_call 39;with_reducible exact K9.out _)) | quiet_step (first | (go_at_call 39;with_reducible exact K9.out _)))
 refine wpQuiet_nil ?_;rintro w' ⟨x,rfl⟩;have HX:=Lib.hid (H1.out.below.trans (x.le.mono H1.out.below.size));generalize x.wx=wx at *
 go_wp2
 go_ret
 refine ⟨congrArg (fun t=>Ending.returned (.string t)) ?_,HX.out⟩;apply ByteArray.ext
 simp
end Go.Proofs.YtninlbknklbofaaGreatDoor
