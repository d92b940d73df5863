/- A part of the proof: A part of the proof. -/
import Derived.Test.YtninlbknklbofaaGreatDoorQm
import Derived.Deep.AppendLies
import Derived.Deep.OwnRows
import Derived.Laws.OwnMore
set_option linter.unusedSimpArgs false
set_option linter.unusedVariables false
set_option maxRecDepth 100000
set_option maxHeartbeats 4000000
namespace Go.Proofs.YtninlbknklbofaaGreatDoor
section
open Go.RowKit Tn Lx
attribute [local go_sem] qtok_field0 qtok_field1 qtok_field2 qtok_field3
theorem qin_any (c:Cx)(X:Nat->Prop)(w:World)(d:Nat)(q:Qs)(h:Qd c X w d q)(hp:q.p<c.ts.length)(hd:d<=64):Calls Tryz.prog 81 #[.pointer (some ⟨c.r,0,none⟩)] w (QR c X w (d+1) (qin c.ts q (d+1)) (.bool (decide ((qin c.ts q (d+1)).cd=0)))):=by
 have c2:=h.c2;have cf:=h.fz;obtain ⟨hQ,hK⟩:=h.setd (d+1);obtain ⟨V,hV⟩:∃ V,w.setCell ⟨c.r,2,none⟩ (.int .i64 ((d:Int)+1))=V:=⟨_,rfl⟩;rw [show (((d+1:Nat):Int))=(d:Int)+1 by omega,hV] at hQ hK;have hF:=fun w1 (h1:Qd c X w1 (d+1) q)=>qfail_any c X w1 (d+1) q 6 h1 hp;have HV:=Lib.hid hV;have HQ:=Lib.hid hQ;have HK:=Lib.hid hK;have HF:=Lib.hid hF;clear hV hQ hK hF h;obtain ⟨q',hq'⟩:∃ q',qin c.ts q (d+1)=q':=⟨_,rfl⟩;rw [hq'];unfold qin at hq'
 by_cases h64:64<d+1
 ·rw [if_pos h64] at hq';have hd2:(64:Int)<(d:Int)+1:=by omega
  have HE:=Lib.hid hq';clear hq'
  go_enter Tryz.func81,Tryz.ntmps81
  go_upto_region 2 with fail
  rw [HV.out];clear c2 cf;have e2:V.cell? ⟨c.r,2,none⟩=some (.int .i64 ((d:Int)+1)):=by rw [HQ.out.c2];congr 2
  go_wp2_with fail
  refine (HF.out _ HQ.out).mono ?_;rintro e w1 ⟨rfl,hQ1,hK1⟩;rw [HE.out] at hQ1;have HQ1:=Lib.hid hQ1;have HK1:=Lib.hid (HK.out.trans hK1);clear hQ1 hK1 e2;have c4:=HQ1.out.c4
  go_wp2
  go_ret
  exact ⟨ret_bool (by by_cases h0:q'.cd=0 <;> simp [h0]),HQ1.out,HK1.out⟩
 ·rw [if_neg h64] at hq';subst hq';have hd2:¬ (64:Int)<(d:Int)+1:=by omega
  go_enter Tryz.func81,Tryz.ntmps81
  go_upto_region 2 with fail
  rw [HV.out];clear c2 cf;have e2:V.cell? ⟨c.r,2,none⟩=some (.int .i64 ((d:Int)+1)):=by rw [HQ.out.c2];congr 2
  have c4:=HQ.out.c4
  go_wp2
  go_ret
  exact ⟨ret_bool (by by_cases h0:q.cd=0 <;> simp [h0]),HQ.out,HK.out⟩
theorem qbegins_any (t:Tok)(w:World):Calls Tryz.prog 84 #[tval t] w fun e w'=>e = .returned (.bool (Ex.begins t))/\Below w.heap.size w w':=by
 have hb:∀ o,Below w.heap.size w (w.alloc o):=fun o=>(Below.refl _ w).alloc (Nat.le_refl _) o;have HB:=Lib.hid hb;clear hb;unfold tval
 go_enter Tryz.func84,Tryz.ntmps84
 go_wp2
 all_goals
  go_ret
  refine ⟨ret_bool ?_,HB.out _⟩;clear HB
  go_light
  simp_all [Ex.begins]
def qgoes (ts:List Tok)(q:Qs):Bool:=qis ts q [59] && Ex.begins (Ex.tk ts (q.p+1))
theorem qgoes_any (c:Cx)(X:Nat->Prop)(w:World)(d:Nat)(q:Qs)(hT:Ex.TsOk c.ts)(h:Qd c X w d q)(hp:q.p<c.ts.length):Calls Tryz.prog 56 #[.pointer (some ⟨c.r,0,none⟩)] w fun e w'=>e = .returned (.bool (qgoes c.ts q))/\Below w.heap.size w w':=by
 have hI:=qis_any c X w d q [59] h hp;unfold qgoes
 cases hv:qis c.ts q [59] with
 | false =>
  rw [hv] at hI;have HI:=Lib.hid hI;clear hI hv h
  go_enter Tryz.func56,Tryz.ntmps56
  go_wp2_with fail
  refine HI.out.mono ?_;rintro e w1 ⟨rfl,hb⟩
  go_wp2
  go_ret
  exact ⟨rfl,hb⟩
 | true =>
  rw [hv] at hI;have hp1:=qis_lt hT hv;have hl:=fun w1 (hb:Below w.heap.size w w1)=>((h.below hb).looks hp).c0;have few:=h.few;have room:=h.room;have HI:=Lib.hid hI;have HQ:=Lib.hid h;have HP:=Lib.hid hp1;have HL:=Lib.hid hl;clear hI hv h hl
  go_enter Tryz.func56,Tryz.ntmps56
  go_wp2_with fail
  refine HI.out.mono ?_;rintro e w1 ⟨rfl,hb⟩;have hq:=HQ.out.below hb;have c0:=hq.c0;have c1:=hq.c1;have k0:=hq.tk HP.out 0 (by omega) rfl;have k1:=hq.tk HP.out 1 (by omega) rfl;have k2:=hq.tk HP.out 2 (by omega) rfl;have k3:=hq.tk HP.out 3 (by omega) rfl;have k4:=hq.tk HP.out 4 (by omega) rfl;rw [Nat.add_zero] at k0;have wr:IntKind.i64.wrap ((q.p:Int)+1)=(q.p:Int)+1:=IntWalk.i64_in _ (by omega);have wn:((q.p:Int)+1).toNat=q.p+1:=by omega
  have w0:(0:Int)<=(q.p:Int)+1:=by omega
  have w2:(q.p:Int)+1<(c.ts.length:Int):=by omega
  have HB:=Lib.hid hb;have hB:=qbegins_any (Ex.tk c.ts (q.p+1)) w1.drew;generalize hgt:Ex.tk c.ts (q.p+1)=t at *;have HBE:=Lib.hid hB;have HGT:=Lib.hid hgt;clear hq hb hB hgt;unfold tval at HBE
  go_upto_region 4 with fail
  go_still_tail 11,(by kernel_rfl)
  go_wp2_with fail
  refine HBE.out.mono ?_;rintro e w3 ⟨rfl,hb3⟩;have HB3:=Lib.hid (HB.out.drew.trans (hb3.mono HB.out.drew.size));clear hb3
  go_wp2
  go_ret
  exact ⟨by rw [HGT.out];simp,HB3.out⟩
theorem Fiq.tok3 {w:World}{b:Nat}{t:Tok}(h:Fiq w b t):w.cell? ⟨b,2,none⟩=some (.int .i64 t.int)/\w.cell? ⟨b,3,none⟩=some (.int .i64 t.at_.line)/\w.cell? ⟨b,4,none⟩=some (.int .i64 t.at_.col):=⟨h.c2,h.c3,h.c4⟩
theorem qpush {c:Cx}{X:Nat->Prop}{W w5:World}{d:Nat}{q:Qs}{v:Value}{l:List SN}{s:SN}{o:Obj}{gg cap b:Nat}{t:Tok}(h:Qd c X W d q)
  (hblk:W.heap[c.r]? = some (.cells #[.slice (some ⟨c.g,0,none⟩) c.ts.length c.cap,.int .i64 q.p,.int .i64 d,v,.int .i64 q.cd,.int .i64 q.bp.line,.int .i64 q.bp.col,.string ⟨#[]⟩] 112 (0,0)))
  (en:nds l=q.ns) (ho:W.ownsRow c.B 30 6 v l.length (cells6 l)) (hkk:∀ s∈l,W.ownsRow c.B 3 1 (.slice s.ka s.n.kids.length s.kc) s.n.kids.length (ints s.n.kids)) (hx:Off X v l) (hl:l.length<4000) (hT:Fiq W b t) (hbr:b≠c.r)
  (hk:W.ownsRow c.B 3 1 (.slice s.ka s.n.kids.length s.kc) s.n.kids.length (ints s.n.kids)) (hkx:∀ g,(Value.slice s.ka s.n.kids.length s.kc).ownBlock=some g->¬ X g)
  (hown:w5.ownsRow c.B 30 6 (.slice (some ⟨gg,0,none⟩) (l.length+1) cap) (l.length+1) (cells6 l++cell6 s)) (hgrow:((W.alloc o).drew).grownBy w5 v.ownBlock)
  (hv:(Value.slice (some ⟨gg,0,none⟩) (l.length+1) cap).ownBlock=v.ownBlock\/∃ g',(Value.slice (some ⟨gg,0,none⟩) (l.length+1) cap).ownBlock=some g'/\W.heap.size<=g'):
  w5.cell? ⟨c.r,3,none⟩=some v/\w5.frozen? ⟨c.r,3,none⟩=false/\Fiq w5 b t/\Fiq (w5.setCell ⟨c.r,3,none⟩ (.slice (some ⟨gg,0,none⟩) (l.length+1) cap)) b t /\
  (w5.setCell ⟨c.r,3,none⟩ (.slice (some ⟨gg,0,none⟩) (l.length+1) cap)).cell? ⟨c.r,3,none⟩=some (.slice (some ⟨gg,0,none⟩) (l.length+1) cap) /\
  Qd c X (w5.setCell ⟨c.r,3,none⟩ (.slice (some ⟨gg,0,none⟩) (l.length+1) cap)) d ⟨q.p,q.ns++[s.n],q.cd,q.bp⟩/\Kp c W (w5.setCell ⟨c.r,3,none⟩ (.slice (some ⟨gg,0,none⟩) (l.length+1) cap)):=by
 have hB5:But (fun k=>some k=v.ownBlock) W w5:=(But.of_below (Below.drawn W o)).trans (But.of_grown hgrow (fun k e=>e.symm));have hrl:=h.rlt;have nr:¬ (some c.r=v.ownBlock):=fun e=>by have:=(own_tag ho e.symm).1;omega
 have nb:¬ (some b=v.ownBlock):=fun e=>by
  obtain ⟨_,cur,e1⟩:=own_tag ho e.symm;rw [hT.blk] at e1;injection e1 with e1;injection e1 with _ e1;exact absurd e1 (by decide)
 have h5:=hB5.heap hblk nr;have hT5:Fiq w5 b t:=⟨hB5.heap hT.blk nb⟩;have hT6:Fiq (w5.setCell ⟨c.r,3,none⟩ (.slice (some ⟨gg,0,none⟩) (l.length+1) cap)) b t:=⟨(blk_other hbr _ _).trans hT5.blk⟩;have h6:=blk_set h5 3 (.slice (some ⟨gg,0,none⟩) (l.length+1) cap);have hB6:But (fun k=>k=c.r\/some k=v.ownBlock) W (w5.setCell ⟨c.r,3,none⟩ (.slice (some ⟨gg,0,none⟩) (l.length+1) cap)):=(hB5.mono fun k _ e => .inr e).trans (But.setCell (p:=fun k=>k=c.r\/some k=v.ownBlock) w5 (.inl rfl) 3 _);have hA:=h.added (s:=s) en ho hkk hx hl h6 (by rw [cells6_snoc];exact ownsRow_setCell_below hown hrl _) hB6 hv hk hkx;exact ⟨(blk_cell h5 3).trans rfl,blk_frozen h5 3,hT5,hT6,(blk_cell h6 3).trans rfl,hA⟩
theorem qnode_yes (c:Cx)(X:Nat->Prop)(w:World)(d:Nat)(q:Qs)(op name:ByteArray)(t:Tok)(ks:List Int)(ka:Option Addr)(kc:Nat)(h:Qd c X w d q)(hp:q.p<c.ts.length)(hc:q.cd=0)(h4:q.ns.length<4000)
  (hk:w.ownsRow c.B 3 1 (.slice ka ks.length kc) ks.length (ints ks)) (hkx:∀ g,(Value.slice ka ks.length kc).ownBlock=some g->¬ X g):
  Calls Tryz.prog 57 #[.pointer (some ⟨c.r,0,none⟩),.string op,tval t,.string name,.slice ka ks.length kc] w (QR c X w d ⟨q.p,q.ns++[⟨op,t.at_.line,t.at_.col,name,t.int,ks⟩],q.cd,q.bp⟩ (.int .i64 (q.ns.length:Int))):=by
 obtain ⟨W,hW⟩:∃ W,w.alloc (.cells #[.int .i64 t.kind,.string ⟨t.text.toArray⟩,.int .i64 t.int,.int .i64 t.at_.line,.int .i64 t.at_.col] 109)=W:=⟨_,rfl⟩;have hbW:Below w.heap.size w W:=by rw [<- hW];exact (Below.refl _ w).alloc (Nat.le_refl _) _
 have hT:Fiq W w.heap.size t:=by rw [<- hW];exact Fiq.new w t
 have hq:=h.below hbW;obtain ⟨v,hblk,hrow⟩:=hq.blk;obtain ⟨l,en,ho,hkk,hx⟩:=hrow.ex;obtain ⟨ao,cap,rfl⟩:=own_form ho;have hll:l.length=q.ns.length:=by rw [<- en,nds_len]
 have c4:=hq.c4;have cf:=hq.fz;have c3:W.cell? ⟨c.r,3,none⟩=some (.slice ao l.length cap):=(blk_cell hblk 3).trans rfl;rw [hc] at c4;have h4n:¬ (4000:Int)<=(l.length:Int):=by omega
 have h4c:(l.length:Int)<4000:=by omega
 obtain ⟨i0,hi0,hz0,hz1,hz2⟩:=info_parts Tryz.info30;have HI:=Lib.hid hi0;have HZ:=Lib.hid hz0;have HZ1:=Lib.hid hz1;have HZ2:=Lib.hid hz2;clear hi0 hz0 hz1 hz2;have hS0:=(hT.below (Below.refl _ W).drew).tok3;have hSA:=fun o=>(hT.below (Below.drawn W o)).tok3;have hnb:((W.alloc (.cells (cell6 ⟨⟨op,t.at_.line,t.at_.col,name,t.int,ks⟩,ka,kc⟩).toArray 30)).drew).heap[W.heap.size]? = some (.cells (cell6 ⟨⟨op,t.at_.line,t.at_.col,name,t.int,ks⟩,ka,kc⟩).toArray 30 (0,0)):=heap_alloc_new W _;have g3:W.drew.cell? ⟨c.r,3,none⟩=some (.slice ao l.length cap):=c3;have g3':∀ o,(W.alloc o).drew.cell? ⟨c.r,3,none⟩=some (.slice ao l.length cap):=fun o=>alloc_cell c3 o;have hsz:=hq.size;have hrl:=hq.rlt;have hlw:=h.lt;have hzw:=hbW.size;have hbk:=Kp.of_below (c:=c) hbW;have HS0:=Lib.hid hS0;have HSA:=Lib.hid hSA;have HNB:=Lib.hid hnb;have HBK:=Lib.hid hbk;clear hS0 hSA hnb hbk
 replace hk:=own_below hk hbW
 have HW:=Lib.hid hW;have HT:=Lib.hid hT;have HQ:=Lib.hid hq;have HB:=Lib.hid hbW;have HBLK:=Lib.hid hblk;have HO:=Lib.hid ho;have HKK:=Lib.hid hkk;have HX:=Lib.hid hx;have HEN:=Lib.hid en;have HLL:=Lib.hid hll;have HC:=Lib.hid hc;have HK:=Lib.hid hk;have HKX:=Lib.hid hkx;clear hW hT hq hbW hblk ho hkk hx en hll hc hk hkx h hrow;unfold tval
 go_enter Tryz.func57,Tryz.ntmps57
 go_upto_region 1 with fail
 rw [HW.out]
 go_upto_region 6 with fail
 refine wp_region_held_drew (S:=(fun W'=>W'.cell? ⟨w.heap.size,2,none⟩=some (.int .i64 t.int)/\W'.cell? ⟨w.heap.size,3,none⟩=some (.int .i64 t.at_.line)/\W'.cell? ⟨w.heap.size,4,none⟩=some (.int .i64 t.at_.col))) (by kernel_rfl) HS0.out (fun hHeld=>?_);refine wpAnyH_take (i:=0) (oi:={ dst:=some 25,op:=Op.move (Operand.tmp 0),type:=105,pos := "ref.go:68", after:=#[],guard:=none }) (v := .pointer (some ⟨c.r,0,none⟩)) rfl (by kernel_rfl) (by kernel_rfl) (by kernel_rfl) (fun _ _ _ h=>h) (Or.inl ⟨by rfl,by intro w hSw;(try dsimp only at hSw);go_simp⟩) hHeld ?_
 try simp only [Act.put,List.setIfInBounds_toArray,List.set_cons_zero,List.set_cons_succ]
 refine wpAnyH_take (i:=1) (oi:={ dst:=some 26,op:=Op.move (Operand.tmp 0),type:=105,pos := "ref.go:68", after:=#[],guard:=none }) (v := .pointer (some ⟨c.r,0,none⟩)) rfl (by kernel_rfl) (by kernel_rfl) (by kernel_rfl) (fun _ _ _ h=>h) (Or.inl ⟨by rfl,by intro w hSw;(try dsimp only at hSw);go_simp⟩) hHeld ?_
 try simp only [Act.put,List.setIfInBounds_toArray,List.set_cons_zero,List.set_cons_succ]
 refine wpAnyH_take (i:=2) (oi:={ dst:=some 27,op:=Op.nilCheck (Operand.tmp 26),type:=0,pos := "ref.go:68", after:=#[{ on:=1,ground:=Ground.data }],guard:=none }) (v := .pointer (some ⟨c.r,0,none⟩)) rfl (by kernel_rfl) (by kernel_rfl) (by kernel_rfl) (fun _ _ _ h=>h) (Or.inl ⟨by rfl,by intro w hSw;(try dsimp only at hSw);go_simp⟩) hHeld ?_
 try simp only [Act.put,List.setIfInBounds_toArray,List.set_cons_zero,List.set_cons_succ]
 refine wpAnyH_take (i:=3) (oi:={ dst:=some 28,op:=Op.fieldAddr 112 (Operand.tmp 27) 3,type:=0,pos := "ref.go:68", after:=#[{ on:=2,ground:=Ground.data }],guard:=none }) (v := .pointer (some ⟨c.r,3,none⟩)) rfl (by kernel_rfl) (by kernel_rfl) (by kernel_rfl) (fun _ _ _ h=>h) (Or.inl ⟨by rfl,by intro w hSw;(try dsimp only at hSw);go_simp⟩) hHeld ?_
 try simp only [Act.put,List.setIfInBounds_toArray,List.set_cons_zero,List.set_cons_succ]
 refine wpAnyH_take (i:=5) (oi:={ dst:=some 30,op:=Op.move (Operand.tmp 1),type:=9,pos := "ref.go:68", after:=#[],guard:=none }) (v := .string op) rfl (by kernel_rfl) (by kernel_rfl) (by kernel_rfl) (fun _ _ _ h=>h) (Or.inl ⟨by rfl,by intro w hSw;(try dsimp only at hSw);go_simp⟩) hHeld ?_
 try simp only [Act.put,List.setIfInBounds_toArray,List.set_cons_zero,List.set_cons_succ]
 refine wpAnyH_take (i:=6) (oi:={ dst:=some 31,op:=Op.fieldAddr 109 (Operand.tmp 7) 3,type:=0,pos := "ref.go:68", after:=#[],guard:=none }) (v := .pointer (some ⟨w.heap.size,3,none⟩)) rfl (by kernel_rfl) (by kernel_rfl) (by kernel_rfl) (fun _ _ _ h=>h) (Or.inl ⟨by rfl,by intro w hSw;(try dsimp only at hSw);go_simp⟩) hHeld ?_
 try simp only [Act.put,List.setIfInBounds_toArray,List.set_cons_zero,List.set_cons_succ]
 refine wpAnyH_take (i:=7) (oi:={ dst:=some 32,op:=Op.load 27 (Operand.tmp 31),type:=27,pos := "ref.go:68", after:=#[{ on:=6,ground:=Ground.data }],guard:=none }) (v := .agg #[.int .i64 t.at_.line,.int .i64 t.at_.col]) rfl (by kernel_rfl) (by kernel_rfl) (by kernel_rfl) (fun _ _ _ h=>h) (Or.inl ⟨by rfl,by intro w hSw;(try dsimp only at hSw);go_simp⟩) hHeld ?_
 try simp only [Act.put,List.setIfInBounds_toArray,List.set_cons_zero,List.set_cons_succ]
 refine wpAnyH_take (i:=8) (oi:={ dst:=some 33,op:=Op.move (Operand.tmp 3),type:=9,pos := "ref.go:68", after:=#[],guard:=none }) (v := .string name) rfl (by kernel_rfl) (by kernel_rfl) (by kernel_rfl) (fun _ _ _ h=>h) (Or.inl ⟨by rfl,by intro w hSw;(try dsimp only at hSw);go_simp⟩) hHeld ?_
 try simp only [Act.put,List.setIfInBounds_toArray,List.set_cons_zero,List.set_cons_succ]
 refine wpAnyH_take (i:=9) (oi:={ dst:=some 34,op:=Op.fieldAddr 109 (Operand.tmp 7) 2,type:=0,pos := "ref.go:68", after:=#[],guard:=none }) (v := .pointer (some ⟨w.heap.size,2,none⟩)) rfl (by kernel_rfl) (by kernel_rfl) (by kernel_rfl) (fun _ _ _ h=>h) (Or.inl ⟨by rfl,by intro w hSw;(try dsimp only at hSw);go_simp⟩) hHeld ?_
 try simp only [Act.put,List.setIfInBounds_toArray,List.set_cons_zero,List.set_cons_succ]
 refine wpAnyH_take (i:=10) (oi:={ dst:=some 35,op:=Op.load 2 (Operand.tmp 34),type:=2,pos := "ref.go:68", after:=#[{ on:=9,ground:=Ground.data }],guard:=none }) (v := .int .i64 t.int) rfl (by kernel_rfl) (by kernel_rfl) (by kernel_rfl) (fun _ _ _ h=>h) (Or.inl ⟨by rfl,by intro w hSw;(try dsimp only at hSw);go_simp⟩) hHeld ?_
 try simp only [Act.put,List.setIfInBounds_toArray,List.set_cons_zero,List.set_cons_succ]
 refine wpAnyH_take (i:=11) (oi:={ dst:=some 36,op:=Op.move (Operand.tmp 4),type:=28,pos := "ref.go:68", after:=#[],guard:=none }) (v := .slice ka ks.length kc) rfl (by kernel_rfl) (by kernel_rfl) (by kernel_rfl) (fun _ _ _ h=>h) (Or.inl ⟨by rfl,by intro w hSw;(try dsimp only at hSw);go_simp⟩) hHeld ?_
 try simp only [Act.put,List.setIfInBounds_toArray,List.set_cons_zero,List.set_cons_succ]
 refine wpAnyH_take (i:=12) (oi:={ dst:=some 37,op:=Op.build 30 #[(0,Operand.tmp 30),(1,Operand.tmp 32),(2,Operand.tmp 33),(3,Operand.tmp 35),(4,Operand.tmp 36)],type:=30,pos := "ref.go:68", after:=#[{ on:=5,ground:=Ground.data },{ on:=7,ground:=Ground.data },{ on:=8,ground:=Ground.data },{ on:=10,ground:=Ground.data },{ on:=11,ground:=Ground.data }],guard:=none }) (v := .agg #[.string op,.int .i64 t.at_.line,.int .i64 t.at_.col,.string name,.int .i64 t.int,.slice ka ks.length kc]) rfl (by kernel_rfl) (by kernel_rfl) (by kernel_rfl) (fun _ _ _ h=>h) (Or.inl ⟨by rfl,by intro w hSw;(try dsimp only at hSw);go_simp⟩) hHeld ?_
 try simp only [Act.put,List.setIfInBounds_toArray,List.set_cons_zero,List.set_cons_succ]
 refine wpAnyH_ready (rs:=[4,13]) (by kernel_rfl) (by simp) ?_;refine AllReadyH.cons (o:={ dst:=some 29,op:=Op.load 22 (Operand.tmp 28),type:=22,pos := "ref.go:68", after:=#[{ on:=3,ground:=Ground.data }],guard:=none }) rfl (fun K hK=>?_) ?_
 ·go_simp
  refine hK.out _ _ HS0.out (fun hHeld=>?_);clear hK K
  try simp only [Act.put,List.setIfInBounds_toArray,List.set_cons_zero,List.set_cons_succ]
  refine wpAnyH_ready (rs:=[13]) (by kernel_rfl) (by simp) ?_;refine AllReadyH.cons (o:={ dst:=some 38,op:=Op.buildSlice 22 1 #[(0,Operand.tmp 37)],type:=22,pos := "ref.go:68", after:=#[{ on:=12,ground:=Ground.data }],guard:=none }) rfl (fun K hK=>?_) AllReadyH.nil
  go_simp
  refine hK.out _ _ (HSA.out _) (fun hHeld=>?_);clear hK K
  try simp only [Act.put,List.setIfInBounds_toArray,List.set_cons_zero,List.set_cons_succ]
  refine wpAnyH_ready (rs:=[14]) (by kernel_rfl) (by simp) ?_;refine AllReadyH.cons (o:={ dst:=some 39,op:=Op.call { callee:=Callee.builtin Builtin.append,args:=#[Operand.tmp 29,Operand.tmp 38],argTypes:=#[22,22] },type:=22,pos := "ref.go:68", after:=#[{ on:=4,ground:=Ground.data },{ on:=13,ground:=Ground.data }],guard:=none }) rfl (fun K hK=>?_) AllReadyH.nil;refine step_append_lies _ (by rfl) (.tmp 29) (.tmp 38) 22 (by rfl) c.B 30 i0 _ 6 80 Tryz.underlying22 HI.out HZ.out HZ1.out HZ2.out rfl (by decide) (.slice ao l.length cap) l.length (cells6 l) (by rfl) ((HO.out.alloc _).drew) ⟨W.heap.size,0,none⟩ 1 1 (cell6 ⟨⟨op,t.at_.line,t.at_.col,name,t.int,ks⟩,ka,kc⟩) (by rfl) (by rfl) (World.news_of_block (cs:=(cell6 ⟨⟨op,t.at_.line,t.at_.col,name,t.int,ks⟩,ka,kc⟩).toArray) (t:=30) (fr:=(0,0)) HNB.out) (by intro x hx;simp only [cell6,List.mem_cons,List.not_mem_nil,or_false] at hx;rcases hx with rfl | rfl | rfl | rfl | rfl | rfl <;> rfl) (by omega) (by unfold maxLen;omega) (by omega) (by simp;omega) (W.heap.size+1) (by simp) ?_;intro gg cap5 w5 hown5 hgrow5 hat5 hlt5;have hv5:(Value.slice (some ⟨gg,0,none⟩) (l.length+1) cap5).ownBlock=(Value.slice ao l.length cap).ownBlock\/∃ g',(Value.slice (some ⟨gg,0,none⟩) (l.length+1) cap5).ownBlock=some g'/\W.heap.size<=g':=by
   rcases hat5 with e | e
   ·exact .inl e.symm
   ·exact .inr ⟨gg,rfl,by omega⟩
  obtain ⟨c5,f5,hT5,hT6,d5,hQ6,hK6⟩:=qpush HQ.out HBLK.out HEN.out HO.out HKK.out HX.out (by omega) HT.out (by omega) HK.out HKX.out hown5 hgrow5 hv5;have hS5:=hT5.tok3;have hS6:=hT6.tok3;refine hK.out _ _ hS5 (fun hHeld=>?_);clear hK K
  try simp only [Act.put,List.setIfInBounds_toArray,List.set_cons_zero,List.set_cons_succ]
  refine wpAnyH_take (i:=15) (oi:={ dst:=some 40,op:=Op.nilCheck (Operand.tmp 25),type:=0,pos := "ref.go:68", after:=#[{ on:=0,ground:=Ground.data },{ on:=0,ground:=Ground.phase },{ on:=1,ground:=Ground.phase },{ on:=2,ground:=Ground.phase },{ on:=3,ground:=Ground.phase },{ on:=4,ground:=Ground.phase },{ on:=5,ground:=Ground.phase },{ on:=6,ground:=Ground.phase },{ on:=7,ground:=Ground.phase },{ on:=8,ground:=Ground.phase },{ on:=9,ground:=Ground.phase },{ on:=10,ground:=Ground.phase },{ on:=11,ground:=Ground.phase },{ on:=12,ground:=Ground.phase },{ on:=13,ground:=Ground.phase },{ on:=14,ground:=Ground.phase }],guard:=none }) (v := .pointer (some ⟨c.r,0,none⟩)) rfl (by kernel_rfl) (by kernel_rfl) (by kernel_rfl) (fun _ _ _ h=>h) (Or.inl ⟨by rfl,by intro w hSw;(try dsimp only at hSw);go_simp⟩) hHeld ?_
  try simp only [Act.put,List.setIfInBounds_toArray,List.set_cons_zero,List.set_cons_succ]
  refine wpAnyH_take (i:=16) (oi:={ dst:=some 41,op:=Op.fieldAddr 112 (Operand.tmp 40) 3,type:=0,pos := "ref.go:68", after:=#[{ on:=15,ground:=Ground.data },{ on:=0,ground:=Ground.phase },{ on:=1,ground:=Ground.phase },{ on:=2,ground:=Ground.phase },{ on:=3,ground:=Ground.phase },{ on:=4,ground:=Ground.phase },{ on:=5,ground:=Ground.phase },{ on:=6,ground:=Ground.phase },{ on:=7,ground:=Ground.phase },{ on:=8,ground:=Ground.phase },{ on:=9,ground:=Ground.phase },{ on:=10,ground:=Ground.phase },{ on:=11,ground:=Ground.phase },{ on:=12,ground:=Ground.phase },{ on:=13,ground:=Ground.phase },{ on:=14,ground:=Ground.phase }],guard:=none }) (v := .pointer (some ⟨c.r,3,none⟩)) rfl (by kernel_rfl) (by kernel_rfl) (by kernel_rfl) (fun _ _ _ h=>h) (Or.inl ⟨by rfl,by intro w hSw;(try dsimp only at hSw);go_simp⟩) hHeld ?_
  try simp only [Act.put,List.setIfInBounds_toArray,List.set_cons_zero,List.set_cons_succ]
  refine wpAnyH_ready (rs:=[17]) (by kernel_rfl) (by simp) ?_;refine AllReadyH.cons (o:={ dst:=none,op:=Op.store 22 (Operand.tmp 41) (Operand.tmp 39),type:=0,pos := "ref.go:68", after:=#[{ on:=16,ground:=Ground.data },{ on:=14,ground:=Ground.data },{ on:=14,ground:=Ground.chain },{ on:=0,ground:=Ground.phase },{ on:=1,ground:=Ground.phase },{ on:=2,ground:=Ground.phase },{ on:=3,ground:=Ground.phase },{ on:=4,ground:=Ground.phase },{ on:=5,ground:=Ground.phase },{ on:=6,ground:=Ground.phase },{ on:=7,ground:=Ground.phase },{ on:=8,ground:=Ground.phase },{ on:=9,ground:=Ground.phase },{ on:=10,ground:=Ground.phase },{ on:=11,ground:=Ground.phase },{ on:=12,ground:=Ground.phase },{ on:=13,ground:=Ground.phase },{ on:=14,ground:=Ground.phase }],guard:=none }) rfl (fun K hK=>?_) AllReadyH.nil
  go_simp
  refine hK.out _ _ hS6 (fun hHeld=>?_);clear hK K
  try simp only [Act.put,List.setIfInBounds_toArray,List.set_cons_zero,List.set_cons_succ]
  refine wpAnyH_done (by kernel_rfl) ?_ _;have HQ6:=Lib.hid hQ6;have HK6:=Lib.hid hK6;clear hown5 hgrow5 hat5 hlt5 c5 f5 hT5 hT6 hS5 hS6 hv5 hHeld hQ6 hK6
  go_wp2
  go_ret
  exact ⟨ret_int (by rw [<- HLL.out]),HQ6.out,HBK.out.trans HK6.out⟩
 ·refine AllReadyH.cons (o:={ dst:=some 38,op:=Op.buildSlice 22 1 #[(0,Operand.tmp 37)],type:=22,pos := "ref.go:68", after:=#[{ on:=12,ground:=Ground.data }],guard:=none }) rfl (fun K hK=>?_) AllReadyH.nil
  go_simp
  refine hK.out _ _ (HSA.out _) (fun hHeld=>?_);clear hK K
  try simp only [Act.put,List.setIfInBounds_toArray,List.set_cons_zero,List.set_cons_succ]
  refine wpAnyH_ready (rs:=[4]) (by kernel_rfl) (by simp) ?_;refine AllReadyH.cons (o:={ dst:=some 29,op:=Op.load 22 (Operand.tmp 28),type:=22,pos := "ref.go:68", after:=#[{ on:=3,ground:=Ground.data }],guard:=none }) rfl (fun K hK=>?_) AllReadyH.nil
  go_simp
  refine hK.out _ _ (HSA.out _) (fun hHeld=>?_);clear hK K
  try simp only [Act.put,List.setIfInBounds_toArray,List.set_cons_zero,List.set_cons_succ]
  refine wpAnyH_ready (rs:=[14]) (by kernel_rfl) (by simp) ?_;refine AllReadyH.cons (o:={ dst:=some 39,op:=Op.call { callee:=Callee.builtin Builtin.append,args:=#[Operand.tmp 29,Operand.tmp 38],argTypes:=#[22,22] },type:=22,pos := "ref.go:68", after:=#[{ on:=4,ground:=Ground.data },{ on:=13,ground:=Ground.data }],guard:=none }) rfl (fun K hK=>?_) AllReadyH.nil;refine step_append_lies _ (by rfl) (.tmp 29) (.tmp 38) 22 (by rfl) c.B 30 i0 _ 6 80 Tryz.underlying22 HI.out HZ.out HZ1.out HZ2.out rfl (by decide) (.slice ao l.length cap) l.length (cells6 l) (by rfl) ((HO.out.alloc _).drew) ⟨W.heap.size,0,none⟩ 1 1 (cell6 ⟨⟨op,t.at_.line,t.at_.col,name,t.int,ks⟩,ka,kc⟩) (by rfl) (by rfl) (World.news_of_block (cs:=(cell6 ⟨⟨op,t.at_.line,t.at_.col,name,t.int,ks⟩,ka,kc⟩).toArray) (t:=30) (fr:=(0,0)) HNB.out) (by intro x hx;simp only [cell6,List.mem_cons,List.not_mem_nil,or_false] at hx;rcases hx with rfl | rfl | rfl | rfl | rfl | rfl <;> rfl) (by omega) (by unfold maxLen;omega) (by omega) (by simp;omega) (W.heap.size+1) (by simp) ?_;intro gg cap5 w5 hown5 hgrow5 hat5 hlt5;have hv5:(Value.slice (some ⟨gg,0,none⟩) (l.length+1) cap5).ownBlock=(Value.slice ao l.length cap).ownBlock\/∃ g',(Value.slice (some ⟨gg,0,none⟩) (l.length+1) cap5).ownBlock=some g'/\W.heap.size<=g':=by
   rcases hat5 with e | e
   ·exact .inl e.symm
   ·exact .inr ⟨gg,rfl,by omega⟩
  obtain ⟨c5,f5,hT5,hT6,d5,hQ6,hK6⟩:=qpush HQ.out HBLK.out HEN.out HO.out HKK.out HX.out (by omega) HT.out (by omega) HK.out HKX.out hown5 hgrow5 hv5;have hS5:=hT5.tok3;have hS6:=hT6.tok3;refine hK.out _ _ hS5 (fun hHeld=>?_);clear hK K
  try simp only [Act.put,List.setIfInBounds_toArray,List.set_cons_zero,List.set_cons_succ]
  refine wpAnyH_take (i:=15) (oi:={ dst:=some 40,op:=Op.nilCheck (Operand.tmp 25),type:=0,pos := "ref.go:68", after:=#[{ on:=0,ground:=Ground.data },{ on:=0,ground:=Ground.phase },{ on:=1,ground:=Ground.phase },{ on:=2,ground:=Ground.phase },{ on:=3,ground:=Ground.phase },{ on:=4,ground:=Ground.phase },{ on:=5,ground:=Ground.phase },{ on:=6,ground:=Ground.phase },{ on:=7,ground:=Ground.phase },{ on:=8,ground:=Ground.phase },{ on:=9,ground:=Ground.phase },{ on:=10,ground:=Ground.phase },{ on:=11,ground:=Ground.phase },{ on:=12,ground:=Ground.phase },{ on:=13,ground:=Ground.phase },{ on:=14,ground:=Ground.phase }],guard:=none }) (v := .pointer (some ⟨c.r,0,none⟩)) rfl (by kernel_rfl) (by kernel_rfl) (by kernel_rfl) (fun _ _ _ h=>h) (Or.inl ⟨by rfl,by intro w hSw;(try dsimp only at hSw);go_simp⟩) hHeld ?_
  try simp only [Act.put,List.setIfInBounds_toArray,List.set_cons_zero,List.set_cons_succ]
  refine wpAnyH_take (i:=16) (oi:={ dst:=some 41,op:=Op.fieldAddr 112 (Operand.tmp 40) 3,type:=0,pos := "ref.go:68", after:=#[{ on:=15,ground:=Ground.data },{ on:=0,ground:=Ground.phase },{ on:=1,ground:=Ground.phase },{ on:=2,ground:=Ground.phase },{ on:=3,ground:=Ground.phase },{ on:=4,ground:=Ground.phase },{ on:=5,ground:=Ground.phase },{ on:=6,ground:=Ground.phase },{ on:=7,ground:=Ground.phase },{ on:=8,ground:=Ground.phase },{ on:=9,ground:=Ground.phase },{ on:=10,ground:=Ground.phase },{ on:=11,ground:=Ground.phase },{ on:=12,ground:=Ground.phase },{ on:=13,ground:=Ground.phase },{ on:=14,ground:=Ground.phase }],guard:=none }) (v := .pointer (some ⟨c.r,3,none⟩)) rfl (by kernel_rfl) (by kernel_rfl) (by kernel_rfl) (fun _ _ _ h=>h) (Or.inl ⟨by rfl,by intro w hSw;(try dsimp only at hSw);go_simp⟩) hHeld ?_
  try simp only [Act.put,List.setIfInBounds_toArray,List.set_cons_zero,List.set_cons_succ]
  refine wpAnyH_ready (rs:=[17]) (by kernel_rfl) (by simp) ?_;refine AllReadyH.cons (o:={ dst:=none,op:=Op.store 22 (Operand.tmp 41) (Operand.tmp 39),type:=0,pos := "ref.go:68", after:=#[{ on:=16,ground:=Ground.data },{ on:=14,ground:=Ground.data },{ on:=14,ground:=Ground.chain },{ on:=0,ground:=Ground.phase },{ on:=1,ground:=Ground.phase },{ on:=2,ground:=Ground.phase },{ on:=3,ground:=Ground.phase },{ on:=4,ground:=Ground.phase },{ on:=5,ground:=Ground.phase },{ on:=6,ground:=Ground.phase },{ on:=7,ground:=Ground.phase },{ on:=8,ground:=Ground.phase },{ on:=9,ground:=Ground.phase },{ on:=10,ground:=Ground.phase },{ on:=11,ground:=Ground.phase },{ on:=12,ground:=Ground.phase },{ on:=13,ground:=Ground.phase },{ on:=14,ground:=Ground.phase }],guard:=none }) rfl (fun K hK=>?_) AllReadyH.nil
  go_simp
  refine hK.out _ _ hS6 (fun hHeld=>?_);clear hK K
  try simp only [Act.put,List.setIfInBounds_toArray,List.set_cons_zero,List.set_cons_succ]
  refine wpAnyH_done (by kernel_rfl) ?_ _;have HQ6:=Lib.hid hQ6;have HK6:=Lib.hid hK6;clear hown5 hgrow5 hat5 hlt5 c5 f5 hT5 hT6 hS5 hS6 hv5 hHeld hQ6 hK6
  go_wp2
  go_ret
  exact ⟨ret_int (by rw [<- HLL.out]),HQ6.out,HBK.out.trans HK6.out⟩
theorem qnode_full (c:Cx)(X:Nat->Prop)(w:World)(d:Nat)(q:Qs)(op name:ByteArray)(t:Tok)(n:Nat)(ka:Option Addr)(kc:Nat)(h:Qd c X w d q)(hp:q.p<c.ts.length)(hc:q.cd=0)(h4:4000<=q.ns.length):
  Calls Tryz.prog 57 #[.pointer (some ⟨c.r,0,none⟩),.string op,tval t,.string name,.slice ka n kc] w (QR c X w d (qfail c.ts q 6) (.int .i64 0)):=by
 obtain ⟨W,hW⟩:∃ W,w.alloc (.cells #[.int .i64 t.kind,.string ⟨t.text.toArray⟩,.int .i64 t.int,.int .i64 t.at_.line,.int .i64 t.at_.col] 109)=W:=⟨_,rfl⟩;have hbW:Below w.heap.size w W:=by rw [<- hW];exact (Below.refl _ w).alloc (Nat.le_refl _) _
 have hq:=h.below hbW;obtain ⟨v,hblk,hrow⟩:=hq.blk;obtain ⟨l,en,ho,hkk,hx⟩:=hrow.ex;obtain ⟨ao,cap,rfl⟩:=own_form ho;have hll:l.length=q.ns.length:=by rw [<- en,nds_len]
 have c4:=hq.c4;have c3:W.cell? ⟨c.r,3,none⟩=some (.slice ao l.length cap):=(blk_cell hblk 3).trans rfl;rw [hc] at c4;have h4n:(4000:Int)<=(l.length:Int):=by omega
 have hF:=fun w1 (h1:Qd c X w1 d q)=>qfail_any c X w1 d q 6 h1 hp;have HW:=Lib.hid hW;have HQ:=Lib.hid hq;have HF:=Lib.hid hF;have HK:=Lib.hid (Kp.of_below (c:=c) hbW);clear hW hq hbW hblk ho hkk hx en hll hc h hrow hF;unfold tval
 go_enter Tryz.func57,Tryz.ntmps57
 go_upto_region 1 with fail
 rw [HW.out]
 go_wp2_with fail
 refine (HF.out _ HQ.out).mono ?_;rintro e w1 ⟨rfl,hQ1,hK1⟩;have HQ1:=Lib.hid hQ1;have HK1:=Lib.hid (HK.out.trans hK1);clear hQ1 hK1
 go_wp2
 go_ret
 exact ⟨rfl,HQ1.out,HK1.out⟩
theorem qnode_bad (c:Cx)(X:Nat->Prop)(w:World)(d:Nat)(q:Qs)(op name:ByteArray)(t:Tok)(n:Nat)(ka:Option Addr)(kc:Nat)(h:Qd c X w d q)(hc:q.cd≠0):
  Calls Tryz.prog 57 #[.pointer (some ⟨c.r,0,none⟩),.string op,tval t,.string name,.slice ka n kc] w (QR c X w d q (.int .i64 0)):=by
 obtain ⟨W,hW⟩:∃ W,w.alloc (.cells #[.int .i64 t.kind,.string ⟨t.text.toArray⟩,.int .i64 t.int,.int .i64 t.at_.line,.int .i64 t.at_.col] 109)=W:=⟨_,rfl⟩;have hbW:Below w.heap.size w W:=by rw [<- hW];exact (Below.refl _ w).alloc (Nat.le_refl _) _
 have hq:=h.below hbW;have c4:=hq.c4;have hcn:(q.cd != 0)=true:=by simpa using hc
 have HW:=Lib.hid hW;have HQ:=Lib.hid hq;have HK:=Lib.hid (Kp.of_below (c:=c) hbW);clear hW hq hbW h;unfold tval
 go_enter Tryz.func57,Tryz.ntmps57
 go_upto_region 1 with fail
 rw [HW.out]
 go_wp2
 go_ret
 exact ⟨rfl,HQ.out,HK.out⟩
theorem qnode_any (c:Cx)(X:Nat->Prop)(w:World)(d:Nat)(q:Qs)(op:ByteArray)(t:Tok)(name:ByteArray)(ks:List Nat)(ka:Option Addr)(kc:Nat)(h:Qd c X w d q)(hp:q.p<c.ts.length)
  (hk:w.ownsRow c.B 3 1 (.slice ka ks.length kc) ks.length (ints (ks.map fun (k:Nat)=>(k:Int)))) (hkx:∀ g,(Value.slice ka ks.length kc).ownBlock=some g->¬ X g):
  Calls Tryz.prog 57 #[.pointer (some ⟨c.r,0,none⟩),.string op,tval t,.string name,.slice ka ks.length kc] w (QR c X w d (qnode c.ts q ⟨op,t.at_.line,t.at_.col,name,t.int,ks.map fun (k:Nat)=>(k:Int)⟩) (.int .i64 (qnodeV q:Int))):=by
 unfold qnode qnodeV qroom
 by_cases hc:q.cd=0
 ·by_cases h4:q.ns.length<4000
  ·have:=qnode_yes c X w d q op name t (ks.map fun (k:Nat)=>(k:Int)) ka kc h hp hc h4 (by simpa using hk) (by simpa using hkx);rw [decide_eq_true hc,decide_eq_true h4]
   simpa using this
  ·have:=qnode_full c X w d q op name t ks.length ka kc h hp hc (by omega);rw [decide_eq_false h4,Bool.and_false]
   simpa using this
 ·have:=qnode_bad c X w d q op name t ks.length ka kc h hc;rw [decide_eq_false hc,Bool.false_and,qfail_bad hc]
  simpa using this
end
section
open Go.RowKit Tn Lx
def QP (c:Cx)(X:Nat->Prop)(w:World)(d:Nat)(R:Ex.Res Nat)(e:Ending)(w':World):Prop :=
 ∃ (v:Nat) (q:Qs),e = .returned (.int .i64 (v:Int))/\Qd c X w' d q/\q.p<c.ts.length/\Abs R q/\(∀ i s,R = .ok i s->v=i)/\Kp c w w'
structure Pre (c:Cx)(X:Nat->Prop)(w:World)(d n k m:Nat)(ks:List Nat){α:Type}(R:Ex.Res α)(q:Qs):Prop where
 qd:Qd c X w d q
 lt:q.p<c.ts.length
 abs:Abs R q
 st:St c.ts m ks R
 fuel:10*(c.ts.length-m)+k<n
 deep:d<=64
structure QSpec (c:Cx)(n:Nat)(f:Ex.Rec):Prop where
 ts:Ex.TsOk c.ts
 ends:Ex.AllEnd c.ts n f
 gr:Ex.AllGr f
 all:∀ {α:Type} (R:Ex.Res α) (X:Nat->Prop) (w:World) (d m:Nat) (ks:List Nat) (q:Qs),Pre c X w d n 8 m ks R q->Calls Tryz.prog 42 #[.pointer (some ⟨c.r,0,none⟩)] w (QP c X w d (R.bind fun _ s=>f .all d s))
 item:∀ {α:Type} (R:Ex.Res α) (X:Nat->Prop) (w:World) (d m:Nat) (ks:List Nat) (q:Qs),Pre c X w d n 7 m ks R q->Calls Tryz.prog 55 #[.pointer (some ⟨c.r,0,none⟩)] w (QP c X w d (R.bind fun _ s=>f .item d s))
 or:∀ {α:Type} (R:Ex.Res α) (X:Nat->Prop) (w:World) (d m:Nat) (ks:List Nat) (q:Qs),Pre c X w d n 6 m ks R q->Calls Tryz.prog 118 #[.pointer (some ⟨c.r,0,none⟩),.int .i64 0] w (QP c X w d (R.bind fun _ s=>f .or d s))
 and:∀ {α:Type} (R:Ex.Res α) (X:Nat->Prop) (w:World) (d m:Nat) (ks:List Nat) (q:Qs),Pre c X w d n 5 m ks R q->Calls Tryz.prog 118 #[.pointer (some ⟨c.r,0,none⟩),.int .i64 1] w (QP c X w d (R.bind fun _ s=>f .and d s))
 test:∀ {α:Type} (R:Ex.Res α) (X:Nat->Prop) (w:World) (d m:Nat) (ks:List Nat) (q:Qs),Pre c X w d n 4 m ks R q->Calls Tryz.prog 118 #[.pointer (some ⟨c.r,0,none⟩),.int .i64 2] w (QP c X w d (R.bind fun _ s=>f .test d s))
 sum:∀ {α:Type} (R:Ex.Res α) (X:Nat->Prop) (w:World) (d m:Nat) (ks:List Nat) (q:Qs),Pre c X w d n 3 m ks R q->Calls Tryz.prog 118 #[.pointer (some ⟨c.r,0,none⟩),.int .i64 3] w (QP c X w d (R.bind fun _ s=>f .sum d s))
 times:∀ {α:Type} (R:Ex.Res α) (X:Nat->Prop) (w:World) (d m:Nat) (ks:List Nat) (q:Qs),Pre c X w d n 2 m ks R q->Calls Tryz.prog 118 #[.pointer (some ⟨c.r,0,none⟩),.int .i64 4] w (QP c X w d (R.bind fun _ s=>f .times d s))
 unary:∀ {α:Type} (R:Ex.Res α) (X:Nat->Prop) (w:World) (d m:Nat) (ks:List Nat) (q:Qs),Pre c X w d n 1 m ks R q->Calls Tryz.prog 134 #[.pointer (some ⟨c.r,0,none⟩)] w (QP c X w d (R.bind fun _ s=>f .unary d s))
theorem qints1 (w:World){B:Nat}(hB:B<=w.heap.size)(a:Nat):(w.alloc (.cells #[.int .i64 (a:Int)] 3)).ownsRow B 3 1 (.slice (some ⟨w.heap.size,0,none⟩) 1 1) 1 (ints ([a].map fun (k:Nat)=>(k:Int))):=World.ownsRow_lit w #[.int .i64 (a:Int)] 1 hB (by decide) rfl
theorem qints2 (w:World){B:Nat}(hB:B<=w.heap.size)(a b:Nat):(w.alloc (.cells #[.int .i64 (a:Int),.int .i64 (b:Int)] 3)).ownsRow B 3 1 (.slice (some ⟨w.heap.size,0,none⟩) 2 2) 2 (ints ([a,b].map fun (k:Nat)=>(k:Int))):=World.ownsRow_lit w #[.int .i64 (a:Int),.int .i64 (b:Int)] 2 hB (by decide) rfl
theorem qints3 (w:World){B:Nat}(hB:B<=w.heap.size)(a b d:Nat):(w.alloc (.cells #[.int .i64 (a:Int),.int .i64 (b:Int),.int .i64 (d:Int)] 3)).ownsRow B 3 1 (.slice (some ⟨w.heap.size,0,none⟩) 3 3) 3 (ints ([a,b,d].map fun (k:Nat)=>(k:Int))):=World.ownsRow_lit w #[.int .i64 (a:Int),.int .i64 (b:Int),.int .i64 (d:Int)] 3 hB (by decide) rfl
theorem qints0 (w:World)(B:Nat):w.ownsRow B 3 1 (.slice none 0 0) 0 (ints (([]:List Nat).map fun (k:Nat)=>(k:Int))):=World.ownsRow_nil w B _ _
theorem Qd.fresh {c:Cx}{X:Nat->Prop}{w:World}{d:Nat}{q:Qs}(h:Qd c X w d q)(n cap:Nat):∀ g,(Value.slice (some ⟨w.heap.size,0,none⟩) n cap).ownBlock=some g->¬ X g:=fun g hg hx=>by
 have e:w.heap.size=g:=by injection hg
 have:=h.xlt g hx;omega
theorem fits_of {L:Nat}{ks kids:List Nat}{op name:ByteArray}{a b num:Int}(h:∀ k∈ks,k<L)(hsub:∀ k∈kids,k∈ks:=by simp):fits L ⟨op,a,b,name,num,kids.map fun (k:Nat)=>(k:Int)⟩=true:=by
 rw [fits_iff];intro k hk;obtain ⟨j,hj,rfl⟩:=List.mem_map.1 hk;have:=h j (hsub j hj);exact ⟨by omega,by omega⟩
end
end Go.Proofs.YtninlbknklbofaaGreatDoor
