/- A part of the proof: What comes to the document's reader: a mark, a word; what it passes over; what is wrong first. -/
import Derived.Test.YtninlbknklbofaaGreatDoorQa
import Derived.Deep.RegionHeld2
set_option linter.unusedSimpArgs false
set_option linter.unusedVariables false
set_option maxRecDepth 100000
set_option maxHeartbeats 2000000
namespace Go.Proofs.YtninlbknklbofaaGreatDoor
open Go.RowKit Tn Lx
theorem qtok_field0 (a b c d e:Value)(w:World):(Instr.field 109 (.agg #[a,b,c,d,e]) 0).run Tryz.prog w = .ok a w:=by kernel_rfl
theorem qtok_field1 (a b c d e:Value)(w:World):(Instr.field 109 (.agg #[a,b,c,d,e]) 1).run Tryz.prog w = .ok b w:=by kernel_rfl
theorem qtok_field2 (a b c d e:Value)(w:World):(Instr.field 109 (.agg #[a,b,c,d,e]) 2).run Tryz.prog w = .ok c w:=by kernel_rfl
theorem qtok_field3 (a b c d e:Value)(w:World):(Instr.field 109 (.agg #[a,b,c,d,e]) 3).run Tryz.prog w = .ok (.agg #[d,e]) w:=by kernel_rfl
attribute [local go_sem] qtok_field0 qtok_field1 qtok_field2 qtok_field3
structure Fiq (w:World)(b:Nat)(t:Tok):Prop where
 blk:w.heap[b]? = some (.cells #[.int .i64 t.kind,.string ⟨t.text.toArray⟩,.int .i64 t.int,.int .i64 t.at_.line,.int .i64 t.at_.col] 109 (0,0))
section
variable {w w':World} {b:Nat} {t:Tok}
theorem Fiq.c0 (h:Fiq w b t):w.cell? ⟨b,0,none⟩=some (.int .i64 t.kind):=(blk_cell h.blk 0).trans rfl
theorem Fiq.c1 (h:Fiq w b t):w.cell? ⟨b,1,none⟩=some (.string ⟨t.text.toArray⟩):=(blk_cell h.blk 1).trans rfl
theorem Fiq.c2 (h:Fiq w b t):w.cell? ⟨b,2,none⟩=some (.int .i64 t.int):=(blk_cell h.blk 2).trans rfl
theorem Fiq.c3 (h:Fiq w b t):w.cell? ⟨b,3,none⟩=some (.int .i64 t.at_.line):=(blk_cell h.blk 3).trans rfl
theorem Fiq.c4 (h:Fiq w b t):w.cell? ⟨b,4,none⟩=some (.int .i64 t.at_.col):=(blk_cell h.blk 4).trans rfl
theorem Fiq.below (h:Fiq w b t)(hb:Below w.heap.size w w'):Fiq w' b t:=⟨(hb.block b (lt_of_heap h.blk)).trans h.blk⟩
theorem Fiq.kp {c:Cx}(h:Fiq w b t)(hk:Kp c w w')(h1:b≠c.r)(h2:b≠c.bt):Fiq w' b t:=⟨hk.heap h.blk h1 h2 (fun e=>absurd e (by decide))⟩
theorem Fiq.new (w:World)(t:Tok):Fiq (w.alloc (.cells #[.int .i64 t.kind,.string ⟨t.text.toArray⟩,.int .i64 t.int,.int .i64 t.at_.line,.int .i64 t.at_.col] 109)) w.heap.size t:=⟨blk_new w _⟩
theorem Fiq.drawn (w:World)(t:Tok):Fiq (w.alloc (.cells #[.int .i64 t.kind,.string ⟨t.text.toArray⟩,.int .i64 t.int,.int .i64 t.at_.line,.int .i64 t.at_.col] 109)).drew w.heap.size t:=⟨blk_new w _⟩
theorem Fiq.store (h:Fiq w b t)(u:Tok):Fiq (((((w.setCell ⟨b,0,none⟩ (.int .i64 u.kind)).setCell ⟨b,1,none⟩ (.string ⟨u.text.toArray⟩)).setCell ⟨b,2,none⟩ (.int .i64 u.int)).setCell ⟨b,3,none⟩ (.int .i64 u.at_.line)).setCell ⟨b,4,none⟩ (.int .i64 u.at_.col)) b u :=
 ⟨(blk_set (blk_set (blk_set (blk_set (blk_set h.blk 0 _) 1 _) 2 _) 3 _) 4 _).trans rfl⟩
theorem Fiq.fz (h:Fiq w b t)(i:Nat):w.frozen? ⟨b,i,none⟩=false:=blk_frozen h.blk i
theorem Qd.five {c:Cx}{X:Nat->Prop}{d:Nat}{q:Qs}(h:Qd c X w d q)(hF:Fiq w b t)(hb:c.B<=b)(u0 u1 u2 u3 u4:Value):
  Qd c X (((((w.setCell ⟨b,0,none⟩ u0).setCell ⟨b,1,none⟩ u1).setCell ⟨b,2,none⟩ u2).setCell ⟨b,3,none⟩ u3).setCell ⟨b,4,none⟩ u4) d q :=
 h.but (but_five w b u0 u1 u2 u3 u4) (fun e=>by have:=h.rlt;omega) (fun e=>by have:=h.glt;omega) (fun k e => .inr (by subst e;exact ⟨_,_,_,hF.blk,by decide,by decide⟩))
theorem Fiq.lt (h:Fiq w b t):b<w.heap.size:=lt_of_heap h.blk
end
theorem alloc_cell {w:World}{a:Addr}{v:Value}(h:w.cell? a=some v)(o:Obj):(w.alloc o).cell? a=some v:=(World.cell?_alloc_lt _ _ a (World.block_lt_of_cell? _ _ h)).trans h
theorem Below.drawn (w:World)(o:Obj):Below w.heap.size w (w.alloc o).drew:=((Below.refl _ w).alloc (Nat.le_refl _) o).drew
structure Looks (c:Cx)(w:World)(p:Nat)(t:Tok):Prop where
 a0:∀ o,(w.alloc o).cell? ⟨c.r,0,none⟩=some (.slice (some ⟨c.g,0,none⟩) c.ts.length c.cap)
 a1:∀ o,(w.alloc o).cell? ⟨c.r,1,none⟩=some (.int .i64 p)
 b0:∀ o,(w.alloc o).cell? ⟨c.g,p*5,none⟩=some (.int .i64 t.kind)
 b1:∀ o,(w.alloc o).cell? ⟨c.g,p*5+1,none⟩=some (.string ⟨t.text.toArray⟩)
 b2:∀ o,(w.alloc o).cell? ⟨c.g,p*5+2,none⟩=some (.int .i64 t.int)
 b3:∀ o,(w.alloc o).cell? ⟨c.g,p*5+3,none⟩=some (.int .i64 t.at_.line)
 b4:∀ o,(w.alloc o).cell? ⟨c.g,p*5+4,none⟩=some (.int .i64 t.at_.col)
 c0:w.cell? ⟨c.r,0,none⟩=some (.slice (some ⟨c.g,0,none⟩) c.ts.length c.cap)
 c1:w.cell? ⟨c.r,1,none⟩=some (.int .i64 p)
 k0:w.cell? ⟨c.g,p*5,none⟩=some (.int .i64 t.kind)
 k1:w.cell? ⟨c.g,p*5+1,none⟩=some (.string ⟨t.text.toArray⟩)
 k2:w.cell? ⟨c.g,p*5+2,none⟩=some (.int .i64 t.int)
 k3:w.cell? ⟨c.g,p*5+3,none⟩=some (.int .i64 t.at_.line)
 k4:w.cell? ⟨c.g,p*5+4,none⟩=some (.int .i64 t.at_.col)
 wr:IntKind.i64.wrap (p:Int)=(p:Int)
 w1:(p:Int)<(c.ts.length:Int)
 few:c.ts.length<=900000
 room:c.ts.length<=c.cap
theorem Qd.looks {c:Cx}{X:Nat->Prop}{w:World}{d:Nat}{q:Qs}(h:Qd c X w d q)(hp:q.p<c.ts.length):Looks c w q.p (Ex.tk c.ts q.p):=by
 have few:=h.few;have k0:=h.tk hp 0 (by omega) rfl;have k1:=h.tk hp 1 (by omega) rfl;have k2:=h.tk hp 2 (by omega) rfl;have k3:=h.tk hp 3 (by omega) rfl;have k4:=h.tk hp 4 (by omega) rfl;rw [Nat.add_zero] at k0;exact ⟨alloc_cell h.c0,alloc_cell h.c1,alloc_cell k0,alloc_cell k1,alloc_cell k2,alloc_cell k3,alloc_cell k4,h.c0,h.c1,k0,k1,k2,k3,k4,IntWalk.i64_in _ (by omega),by omega,few,h.room⟩
theorem qis_any (c:Cx)(X:Nat->Prop)(w:World)(d:Nat)(q:Qs)(m:B)(h:Qd c X w d q)(hp:q.p<c.ts.length):Calls Tryz.prog 83 #[.pointer (some ⟨c.r,0,none⟩),.string ⟨m.toArray⟩] w fun e w'=>e = .returned (.bool (qis c.ts q m))/\Below w.heap.size w w':=by
 obtain ⟨a0,a1,b0,b1,b2,b3,b4,c0,c1,k0,k1,k2,k3,k4,wr,w1,few,room⟩:=h.looks hp;unfold qis;generalize Ex.tk c.ts q.p=t at *;obtain ⟨V,hV⟩:∃ V,(w.alloc (.cells #[.int .i64 t.kind,.string ⟨t.text.toArray⟩,.int .i64 t.int,.int .i64 t.at_.line,.int .i64 t.at_.col] 109)).drew=V:=⟨_,rfl⟩;have hbV:Below w.heap.size w V:=by rw [<- hV];exact Below.drawn w _
 have hF:Fiq V w.heap.size t:=by rw [<- hV];exact Fiq.drawn w t
 have HR:=Lib.hid (h.below hbV);have HB:=Lib.hid hbV;have HF:=Lib.hid hF;have HV:=Lib.hid hV;clear h hbV hF hV
 go_enter Tryz.func83,Tryz.ntmps83
 go_upto_region 1 with fail
 go_region
 rw [HV.out];clear a0 a1 b0 b1 b2 b3 b4 c0 c1 k0 k1 k2 k3 k4;have c4:=HR.out.c4;have z0:=HF.out.c0;have z1:=HF.out.c1
 go_wp2
 all_goals
  go_ret
  exact ⟨ret_bool (by simp [Ex.isT, *]),HB.out⟩
def QR (c:Cx)(X:Nat->Prop)(w:World)(d:Nat)(q:Qs)(v:Value)(e:Ending)(w':World):Prop:=e = .returned v/\Qd c X w' d q/\Kp c w w'
theorem qtake_any (c:Cx)(X:Nat->Prop)(w:World)(d:Nat)(q:Qs)(m:B)(h:Qd c X w d q)(hp:q.p<c.ts.length):Calls Tryz.prog 136 #[.pointer (some ⟨c.r,0,none⟩),.string ⟨m.toArray⟩] w (QR c X w d (qtake c.ts q m) (.bool (qis c.ts q m))):=by
 have hI:=qis_any c X w d q m h hp;have few:=h.few;unfold qtake
 cases hv:qis c.ts q m with
 | false =>
  rw [hv] at hI;have HI:=Lib.hid hI;have HR:=Lib.hid h;clear hI h hv
  go_enter Tryz.func136,Tryz.ntmps136
  go_wp2_with fail
  refine HI.out.mono ?_;rintro e w1 ⟨rfl,hb⟩
  go_wp2
  go_ret
  exact ⟨rfl,HR.out.below hb,Kp.of_below hb⟩
 | true =>
  rw [hv] at hI;have HI:=Lib.hid hI;have HR:=Lib.hid h;clear hI h hv
  go_enter Tryz.func136,Tryz.ntmps136
  go_wp2_with fail
  refine HI.out.mono ?_;rintro e w1 ⟨rfl,hb⟩;have hq:=HR.out.below hb;have c1:=hq.c1;have cf:=hq.fz;obtain ⟨hQ,hK⟩:=hq.setp (p':=q.p+1) (by omega);have HQ:=Lib.hid hQ;have HK:=Lib.hid ((Kp.of_below (c:=c) hb).trans hK);clear hq hQ hK hb
  go_wp2
  go_ret
  refine ⟨rfl, ?_,by simpa using HK.out⟩
  show Qd c X _ d ⟨q.p+1,q.ns,q.cd,q.bp⟩
  simpa using HQ.out
theorem qfail_any (c:Cx)(X:Nat->Prop)(w:World)(d:Nat)(q:Qs)(e:Int)(h:Qd c X w d q)(hp:q.p<c.ts.length):Calls Tryz.prog 43 #[.pointer (some ⟨c.r,0,none⟩),.int .i64 e] w (QR c X w d (qfail c.ts q e) (.tuple #[])):=by
 obtain ⟨a0,a1,b0,b1,b2,b3,b4,c0,c1,k0,k1,k2,k3,k4,wr,w1,few,room⟩:=h.looks hp;have c4:=h.c4;have c5:=h.c5;have c6:=h.c6;have c7:=h.c7;have cf:=h.fz;unfold qfail
 by_cases hc:q.cd=0
 ·rw [if_pos hc];rw [hc] at c4;obtain ⟨hQ,hK⟩:=h.setbad e (Ex.tk c.ts q.p).at_;generalize Ex.tk c.ts q.p=t at *;have HQ:=Lib.hid hQ;have HK:=Lib.hid hK;clear h hQ hK hc a0 a1 b0 b1 b2 b3 b4
  go_enter Tryz.func43,Tryz.ntmps43
  go_upto_region 1 with fail
  go_region
  go_end0
  exact ⟨rfl,HQ.out.drew,HK.out.drew⟩
 ·rw [if_neg hc];have hc2:(q.cd==0)=false:=by simpa using hc
  have HQ:=Lib.hid h;clear h hp
  go_enter Tryz.func43,Tryz.ntmps43
  go_wp2
  go_end0
  exact ⟨rfl,HQ.out,Kp.refl _ _⟩
theorem qmust_any (c:Cx)(X:Nat->Prop)(w:World)(d:Nat)(q:Qs)(m:B)(h:Qd c X w d q)(hp:q.p<c.ts.length):Calls Tryz.prog 133 #[.pointer (some ⟨c.r,0,none⟩),.string ⟨m.toArray⟩] w (QR c X w d (qmust c.ts q m) (.tuple #[])):=by
 have hI:=qtake_any c X w d q m h hp;have hF:=fun w1 (h1:Qd c X w1 d q)=>qfail_any c X w1 d q 5 h1 hp;unfold qmust;unfold qtake at hI
 cases hv:qis c.ts q m with
 | false =>
  rw [hv] at hI;have HI:=Lib.hid hI;have HF:=Lib.hid hF;clear hI hF h hv
  go_enter Tryz.func133,Tryz.ntmps133
  go_wp2_with fail
  refine HI.out.mono ?_;rintro e w1 ⟨rfl,hQ1,hK1⟩;have HQ1:=Lib.hid hQ1;have HK1:=Lib.hid hK1;clear hQ1 hK1
  go_wp2_with fail
  refine (HF.out _ HQ1.out).mono ?_;rintro e w2 ⟨rfl,hQ2,hK2⟩;have HQ2:=Lib.hid hQ2;have HK2:=Lib.hid (HK1.out.trans hK2);clear hQ2 hK2
  go_wp2
  go_end0
  exact ⟨rfl,HQ2.out,HK2.out⟩
 | true =>
  rw [hv] at hI;have HI:=Lib.hid hI;clear hI hF h hv
  go_enter Tryz.func133,Tryz.ntmps133
  go_wp2_with fail
  refine HI.out.mono ?_;rintro e w1 ⟨rfl,hQ1,hK1⟩;have HQ1:=Lib.hid hQ1;have HK1:=Lib.hid hK1;clear hQ1 hK1
  go_wp2
  go_end0
  exact ⟨rfl,HQ1.out,HK1.out⟩
theorem qkind_yes (c:Cx)(X:Nat->Prop)(w:World)(d:Nat)(q:Qs)(k:Int)(h:Qd c X w d q)(hp:q.p<c.ts.length)(hc:q.cd=0)(hk:(Ex.tk c.ts q.p).kind=k):Calls Tryz.prog 132 #[.pointer (some ⟨c.r,0,none⟩),.int .i64 k] w (QR c X w d (q.skip) (tval (Ex.tk c.ts q.p))):=by
 obtain ⟨W,hW⟩:∃ W,w.alloc (.cells #[.int .i64 0,.string ⟨#[]⟩,.int .i64 0,.int .i64 0,.int .i64 0] 109)=W:=⟨_,rfl⟩;have hbW:Below w.heap.size w W:=by rw [<- hW];exact (Below.refl _ w).alloc (Nat.le_refl _) _
 have hZ:Fiq W w.heap.size Ex.zt:=by rw [<- hW];exact ⟨blk_new w _⟩
 have hQW:=h.below hbW;have hlt:=h.lt;have hrl:=h.rlt;have hsz:=h.size;have hbt:=h.bt;obtain ⟨a0,a1,b0,b1,b2,b3,b4,c0,c1,k0,k1,k2,k3,k4,wr,w1,few,room⟩:=hQW.looks hp;have hF:=fun w1 (h1:Qd c X w1 d q)=>qfail_any c X w1 d q 5 h1 hp;generalize Ex.tk c.ts q.p=t at *;obtain ⟨V,hV⟩:∃ V,(W.alloc (.cells #[.int .i64 t.kind,.string ⟨t.text.toArray⟩,.int .i64 t.int,.int .i64 t.at_.line,.int .i64 t.at_.col] 109)).drew=V:=⟨_,rfl⟩;have hbV:Below W.heap.size W V:=by rw [<- hV];exact Below.drawn W _
 have hT:Fiq V W.heap.size t:=by rw [<- hV];exact Fiq.drawn W t
 have hbw:Below w.heap.size w V:=hbW.trans (hbV.mono hbW.size);have HQ:=Lib.hid (h.below hbw);have HT:=Lib.hid hT;have HZ:=Lib.hid (hZ.below hbV);have HK:=Lib.hid (Kp.of_below (c:=c) hbw);have HV:=Lib.hid hV;have HW:=Lib.hid hW;have HF:=Lib.hid hF;have hzW:w.heap.size<W.heap.size:=by rw [<- hW];simp
 clear h hQW hbW hbV hbw hT hZ hV hW hF;have HKK:=Lib.hid hk;clear hk
 go_enter Tryz.func132,Tryz.ntmps132
 go_upto_region 1 with fail
 rw [HW.out]
 go_region
 rw [HV.out];clear a0 a1 b0 b1 b2 b3 b4 c0 c1 k0 k1 k2 k3 k4;have c4:=HQ.out.c4;have z0:=HT.out.c0;have hk:=HKK.out;rw [hc] at c4;subst hk;obtain ⟨hQ,hK⟩:=HQ.out.setp (p':=q.p+1) (by omega);have c1:=HQ.out.c1;have cf:=HQ.out.fz;obtain ⟨V2,hV2⟩:∃ V2,V.setCell ⟨c.r,1,none⟩ (.int .i64 ((q.p:Int)+1))=V2:=⟨_,rfl⟩;rw [show (((q.p+1:Nat):Int))=(q.p:Int)+1 by omega,hV2] at hQ hK;have hT2:=HT.out.kp hK (by omega) (by omega);have hZ2:=HZ.out.kp hK (by omega) (by omega);have HQ2:=Lib.hid hQ;have HK2:=Lib.hid (HK.out.trans hK);have HT2:=Lib.hid hT2;have HZ2:=Lib.hid hZ2;have HV2:=Lib.hid hV2;clear hQ hK hT2 hZ2 hV2
 go_upto_region 6 with fail
 rw [HV2.out];clear c1 cf z0 c4;have y0:=HT2.out.c0;have y1:=HT2.out.c1;have y2:=HT2.out.c2;have y3:=HT2.out.c3;have y4:=HT2.out.c4;have x0:=HZ2.out.c0;have x1:=HZ2.out.c1;have x2:=HZ2.out.c2;have x3:=HZ2.out.c3;have x4:=HZ2.out.c4;have xf:=HZ2.out.fz
 go_wp2
 have T:=HZ2.out.store t;refine bodyPost_ret (v:=tval t) (by simp [results,Tryz.results132,go_sem,T.c0,T.c1,T.c2,T.c3,T.c4,tval]) rfl ⟨rfl, ?_, ?_⟩
 ·exact HQ2.out.five HZ2.out (by omega) _ _ _ _ _
 ·exact HK2.out.new (but_five _ _ _ _ _ _ _) (fun k e=>by omega)
theorem qkind_no (c:Cx)(X:Nat->Prop)(w:World)(d:Nat)(q:Qs)(k:Int)(h:Qd c X w d q)(hp:q.p<c.ts.length)(hc:q.cd=0)(hk:(Ex.tk c.ts q.p).kind≠k):Calls Tryz.prog 132 #[.pointer (some ⟨c.r,0,none⟩),.int .i64 k] w (QR c X w d (qfail c.ts q 5) (tval Ex.zt)):=by
 obtain ⟨W,hW⟩:∃ W,w.alloc (.cells #[.int .i64 0,.string ⟨#[]⟩,.int .i64 0,.int .i64 0,.int .i64 0] 109)=W:=⟨_,rfl⟩;have hbW:Below w.heap.size w W:=by rw [<- hW];exact (Below.refl _ w).alloc (Nat.le_refl _) _
 have hZ:Fiq W w.heap.size Ex.zt:=by rw [<- hW];exact ⟨blk_new w _⟩
 have hQW:=h.below hbW;have hlt:=h.lt;have hrl:=h.rlt;have hsz:=h.size;have hbt:=h.bt;obtain ⟨a0,a1,b0,b1,b2,b3,b4,c0,c1,k0,k1,k2,k3,k4,wr,w1,few,room⟩:=hQW.looks hp;have hF:=fun w1 (h1:Qd c X w1 d q)=>qfail_any c X w1 d q 5 h1 hp;generalize Ex.tk c.ts q.p=t at *;obtain ⟨V,hV⟩:∃ V,(W.alloc (.cells #[.int .i64 t.kind,.string ⟨t.text.toArray⟩,.int .i64 t.int,.int .i64 t.at_.line,.int .i64 t.at_.col] 109)).drew=V:=⟨_,rfl⟩;have hbV:Below W.heap.size W V:=by rw [<- hV];exact Below.drawn W _
 have hT:Fiq V W.heap.size t:=by rw [<- hV];exact Fiq.drawn W t
 have hbw:Below w.heap.size w V:=hbW.trans (hbV.mono hbW.size);have HQ:=Lib.hid (h.below hbw);have HT:=Lib.hid hT;have HZ:=Lib.hid (hZ.below hbV);have HK:=Lib.hid (Kp.of_below (c:=c) hbw);have HV:=Lib.hid hV;have HW:=Lib.hid hW;have HF:=Lib.hid hF;have hzW:w.heap.size<W.heap.size:=by rw [<- hW];simp
 clear h hQW hbW hbV hbw hT hZ hV hW hF;have HKK:=Lib.hid hk;clear hk
 go_enter Tryz.func132,Tryz.ntmps132
 go_upto_region 1 with fail
 rw [HW.out]
 go_region
 rw [HV.out];clear a0 a1 b0 b1 b2 b3 b4 c0 c1 k0 k1 k2 k3 k4;have c4:=HQ.out.c4;have z0:=HT.out.c0;have hk:=HKK.out;rw [hc] at c4;have hkn:(t.kind != k)=true:=by simpa using hk
 have HC:=Lib.hid hc;clear hk hc
 go_wp2_with fail
 refine (HF.out _ HQ.out).mono ?_;rintro e w2 ⟨rfl,hQ2,hK2⟩;have HQ2:=Lib.hid hQ2;have HK2:=Lib.hid (HK.out.trans hK2);have HZ2:=Lib.hid (HZ.out.kp hK2 (by omega) (by omega));clear hQ2 hK2 c4 z0;have x0:=HZ2.out.c0;have x1:=HZ2.out.c1;have x2:=HZ2.out.c2;have x3:=HZ2.out.c3;have x4:=HZ2.out.c4;have xf:=HZ2.out.fz
 go_wp2
 have T:Fiq (((((w2.setCell ⟨w.heap.size,0,none⟩ (.int .i64 0)).setCell ⟨w.heap.size,1,none⟩ (.string ⟨#[]⟩)).setCell ⟨w.heap.size,2,none⟩ (.int .i64 0)).setCell ⟨w.heap.size,3,none⟩ (.int .i64 0)).setCell ⟨w.heap.size,4,none⟩ (.int .i64 0)) w.heap.size Ex.zt:=HZ2.out.store Ex.zt;have T0:_=some (Value.int .i64 0):=T.c0;have T1:_=some (Value.string ⟨#[]⟩):=T.c1;have T2:_=some (Value.int .i64 0):=T.c2;have T3:_=some (Value.int .i64 0):=T.c3;have T4:_=some (Value.int .i64 0):=T.c4;refine bodyPost_ret (v:=tval Ex.zt) (by simp [results,Tryz.results132,go_sem,T0,T1,T2,T3,T4,tval,Ex.zt]) rfl ⟨rfl, ?_, ?_⟩
 ·exact HQ2.out.five HZ2.out (by omega) _ _ _ _ _
 ·exact HK2.out.new (but_five _ _ _ _ _ _ _) (fun k e=>by omega)
theorem qkind_out (c:Cx)(X:Nat->Prop)(w:World)(d:Nat)(q:Qs)(k:Int)(h:Qd c X w d q)(hp:q.p<c.ts.length)(hc:q.cd≠0):Calls Tryz.prog 132 #[.pointer (some ⟨c.r,0,none⟩),.int .i64 k] w (QR c X w d (qfail c.ts q 5) (tval Ex.zt)):=by
 obtain ⟨W,hW⟩:∃ W,w.alloc (.cells #[.int .i64 0,.string ⟨#[]⟩,.int .i64 0,.int .i64 0,.int .i64 0] 109)=W:=⟨_,rfl⟩;have hbW:Below w.heap.size w W:=by rw [<- hW];exact (Below.refl _ w).alloc (Nat.le_refl _) _
 have hZ:Fiq W w.heap.size Ex.zt:=by rw [<- hW];exact ⟨blk_new w _⟩
 have hQW:=h.below hbW;have hlt:=h.lt;have hrl:=h.rlt;have hsz:=h.size;have hbt:=h.bt;obtain ⟨a0,a1,b0,b1,b2,b3,b4,c0,c1,k0,k1,k2,k3,k4,wr,w1,few,room⟩:=hQW.looks hp;have hF:=fun w1 (h1:Qd c X w1 d q)=>qfail_any c X w1 d q 5 h1 hp;generalize Ex.tk c.ts q.p=t at *;obtain ⟨V,hV⟩:∃ V,(W.alloc (.cells #[.int .i64 t.kind,.string ⟨t.text.toArray⟩,.int .i64 t.int,.int .i64 t.at_.line,.int .i64 t.at_.col] 109)).drew=V:=⟨_,rfl⟩;have hbV:Below W.heap.size W V:=by rw [<- hV];exact Below.drawn W _
 have hT:Fiq V W.heap.size t:=by rw [<- hV];exact Fiq.drawn W t
 have hbw:Below w.heap.size w V:=hbW.trans (hbV.mono hbW.size);have HQ:=Lib.hid (h.below hbw);have HT:=Lib.hid hT;have HZ:=Lib.hid (hZ.below hbV);have HK:=Lib.hid (Kp.of_below (c:=c) hbw);have HV:=Lib.hid hV;have HW:=Lib.hid hW;have HF:=Lib.hid hF;have hzW:w.heap.size<W.heap.size:=by rw [<- hW];simp
 clear h hQW hbW hbV hbw hT hZ hV hW hF
 go_enter Tryz.func132,Tryz.ntmps132
 go_upto_region 1 with fail
 rw [HW.out]
 go_region
 rw [HV.out];clear a0 a1 b0 b1 b2 b3 b4 c0 c1 k0 k1 k2 k3 k4;have c4:=HQ.out.c4;have z0:=HT.out.c0;have hcn:(q.cd==0)=false:=by simpa using hc
 have hcd:¬ q.cd=0:=hc
 go_wp2_with fail
 refine (HF.out _ HQ.out).mono ?_;rintro e w2 ⟨rfl,hQ2,hK2⟩;have HQ2:=Lib.hid hQ2;have HK2:=Lib.hid (HK.out.trans hK2);have HZ2:=Lib.hid (HZ.out.kp hK2 (by omega) (by omega));clear hQ2 hK2 c4 z0;have x0:=HZ2.out.c0;have x1:=HZ2.out.c1;have x2:=HZ2.out.c2;have x3:=HZ2.out.c3;have x4:=HZ2.out.c4;have xf:=HZ2.out.fz
 go_wp2
 have T:Fiq (((((w2.setCell ⟨w.heap.size,0,none⟩ (.int .i64 0)).setCell ⟨w.heap.size,1,none⟩ (.string ⟨#[]⟩)).setCell ⟨w.heap.size,2,none⟩ (.int .i64 0)).setCell ⟨w.heap.size,3,none⟩ (.int .i64 0)).setCell ⟨w.heap.size,4,none⟩ (.int .i64 0)) w.heap.size Ex.zt:=HZ2.out.store Ex.zt;have T0:_=some (Value.int .i64 0):=T.c0;have T1:_=some (Value.string ⟨#[]⟩):=T.c1;have T2:_=some (Value.int .i64 0):=T.c2;have T3:_=some (Value.int .i64 0):=T.c3;have T4:_=some (Value.int .i64 0):=T.c4;refine bodyPost_ret (v:=tval Ex.zt) (by simp [results,Tryz.results132,go_sem,T0,T1,T2,T3,T4,tval,Ex.zt]) rfl ⟨rfl, ?_, ?_⟩
 ·exact HQ2.out.five HZ2.out (by omega) _ _ _ _ _
 ·exact HK2.out.new (but_five _ _ _ _ _ _ _) (fun k e=>by omega)
theorem qkind_any (c:Cx)(X:Nat->Prop)(w:World)(d:Nat)(q:Qs)(k:Int)(h:Qd c X w d q)(hp:q.p<c.ts.length):Calls Tryz.prog 132 #[.pointer (some ⟨c.r,0,none⟩),.int .i64 k] w (QR c X w d (qkind c.ts q k) (tval (qkindT c.ts q k))):=by
 unfold qkind qkindT qkindB
 by_cases hc:q.cd=0
 ·by_cases hk:(Ex.tk c.ts q.p).kind=k
  ·simp only [hc,hk,decide_true,Bool.and_self,if_true];exact qkind_yes c X w d q k h hp hc hk
  ·simp only [hc,hk,decide_true,decide_false,Bool.and_false,Bool.false_eq_true,if_false];exact qkind_no c X w d q k h hp hc hk
 ·simp only [hc,decide_false,Bool.false_and,Bool.false_eq_true,if_false];exact qkind_out c X w d q k h hp hc
end Go.Proofs.YtninlbknklbofaaGreatDoor
