/- A part of the proof: A part of the proof. -/
import Derived.Test.YtninlbknklbofaaGreatDoorLPoint
import Derived.Test.YtninlbknklbofaaGreatDoorLRToks
import Derived.Test.YtninlbknklbofaaGreatDoorRs
import Derived.Test.YtninlbknklbofaaGreatDoorWe
set_option linter.unusedSimpArgs false
set_option linter.unusedVariables false
set_option maxRecDepth 100000
set_option maxHeartbeats 4000000
namespace Go.Proofs.YtninlbknklbofaaGreatDoor
section
open Go.RowKit Tn Lx
attribute [local go_sem] qtok_field0 qtok_field1 qtok_field2 qtok_field3
def zdiag (cd:Int)(p:Pos):Value := .agg #[.int .i64 cd,.int .i64 p.line,.int .i64 p.col,.string ⟨#[]⟩]
def QNewP (w:World)(R:Lx.Res)(e:Ending)(w':World):Prop :=
 Below w.heap.size w w'/\match R with
 | .bad cd p=>∃ a,e = .returned (.tuple #[.pointer (some a),zdiag cd p])
 | .ok ts=>∃ c:Cx,c.ts=ts/\w.heap.size<=c.r/\w.heap.size<=c.B/\e = .returned (.tuple #[.pointer (some ⟨c.r,0,none⟩),zdiag 0 ⟨0,0⟩])/\Qd c (fun _=>False) w' 0 ⟨0,[],0,⟨0,0⟩⟩
theorem QRow.nil (c:Cx)(X:Nat->Prop)(w:World):QRow c X w (.slice none 0 0) []:=⟨⟨[],rfl,World.ownsRow_nil _ _ _ _,(fun s hs=>by cases hs),⟨(fun g hg=>by cases hg),(fun q hq=>by cases hq)⟩⟩⟩
theorem qnew_any (s:ByteArray)(w:World)(hs:s.size<=1000000000000):Calls Tryz.prog 41 #[.string s] w (QNewP w (Lx.whole s.data.toList)):=by
 have hT:=fun w'=>rtokens_any s w' hs;have HT:=Lib.hid hT;clear hT
 cases hR:Lx.whole s.data.toList with
 | bad cd p =>
  rw [hR] at HT;clear hR;obtain ⟨Z,hZ⟩:∃ Z,w.alloc (.cells #[.int .i64 0,.int .i64 0,.int .i64 0,.string ⟨#[]⟩] 67)=Z:=⟨_,rfl⟩;have hbZ:Below w.heap.size w Z:=by rw [<- hZ];exact (Below.refl _ w).alloc (Nat.le_refl _) _
  have hz:Z.heap[w.heap.size]? = some (.cells #[.int .i64 0,.int .i64 0,.int .i64 0,.string ⟨#[]⟩] 67 (0,0)):=by rw [<- hZ];exact blk_new w _
  have HZ:=Lib.hid hZ;have HBZ:=Lib.hid hbZ;have HZB:=Lib.hid hz;clear hZ hbZ hz
  go_enter Tryz.func41,Tryz.ntmps41
  go_wp2_with fail
  rw [HZ.out];refine (HT.out _).mono ?_;rintro e w1 ⟨hb1,rfl⟩;obtain ⟨U,hU⟩:∃ U,w1.alloc (.cells #[.int .i64 cd,.int .i64 p.line,.int .i64 p.col,.string ⟨#[]⟩] 67)=U:=⟨_,rfl⟩;have hbU:Below w1.heap.size w1 U:=by rw [<- hU];exact (Below.refl _ w1).alloc (Nat.le_refl _) _
  have hd:U.heap[w1.heap.size]? = some (.cells #[.int .i64 cd,.int .i64 p.line,.int .i64 p.col,.string ⟨#[]⟩] 67 (0,0)):=by rw [<- hU];exact blk_new w1 _
  have hr:U.heap[w.heap.size]? = some (.cells #[.int .i64 0,.int .i64 0,.int .i64 0,.string ⟨#[]⟩] 67 (0,0)):=(hbU.block _ (Nat.lt_of_lt_of_le (lt_of_heap HZB.out) hb1.size)).trans ((hb1.block _ (lt_of_heap HZB.out)).trans HZB.out);have hbw:=HBZ.out.trans ((hb1.trans (hbU.mono hb1.size)).mono HBZ.out.size);have e0:=blk_cell hd 0;have e1:=blk_cell hd 1;have e2:=blk_cell hd 2;have e3:=blk_cell hd 3;have f0:=fun o=>blk_cell (blk_alloc hd o) 0;have f1:=fun o=>blk_cell (blk_alloc hd o) 1;have f2:=fun o=>blk_cell (blk_alloc hd o) 2;have f3:=fun o=>blk_cell (blk_alloc hd o) 3;have g0:=fun o=>blk_cell (blk_alloc hr o) 0;have g1:=fun o=>blk_cell (blk_alloc hr o) 1;have g2:=fun o=>blk_cell (blk_alloc hr o) 2;have g3:=fun o=>blk_cell (blk_alloc hr o) 3;have gf:=fun o=>blk_frozen (blk_alloc hr o);simp only [List.getElem?_toArray,List.getElem?_cons_zero,List.getElem?_cons_succ] at e0 e1 e2 e3 f0 f1 f2 f3 g0 g1 g2 g3;have HU:=Lib.hid hU;have HBW:=Lib.hid hbw;clear hU hbU hd hr hb1 hbw
  go_upto_region 2 with fail
  rw [HU.out]
  go_region
  obtain ⟨A,hA⟩:∃ A,U.alloc (.cells #[.slice none 0 0,.int .i64 0,.int .i64 0,.slice none 0 0,.int .i64 0,.int .i64 0,.int .i64 0,.string ⟨#[]⟩] 112)=A:=⟨_,rfl⟩;have hbA:Below U.heap.size U A:=by rw [<- hA];exact (Below.refl _ U).alloc (Nat.le_refl _) _
  have hrd:A.heap[U.heap.size]? = some (.cells #[.slice none 0 0,.int .i64 0,.int .i64 0,.slice none 0 0,.int .i64 0,.int .i64 0,.int .i64 0,.string ⟨#[]⟩] 112 (0,0)):=by rw [<- hA];exact blk_new U _
  have a0:=g0 (.cells #[.slice none 0 0,.int .i64 0,.int .i64 0,.slice none 0 0,.int .i64 0,.int .i64 0,.int .i64 0,.string ⟨#[]⟩] 112);have a1:=g1 (.cells #[.slice none 0 0,.int .i64 0,.int .i64 0,.slice none 0 0,.int .i64 0,.int .i64 0,.int .i64 0,.string ⟨#[]⟩] 112);have a2:=g2 (.cells #[.slice none 0 0,.int .i64 0,.int .i64 0,.slice none 0 0,.int .i64 0,.int .i64 0,.int .i64 0,.string ⟨#[]⟩] 112);have a3:=g3 (.cells #[.slice none 0 0,.int .i64 0,.int .i64 0,.slice none 0 0,.int .i64 0,.int .i64 0,.int .i64 0,.string ⟨#[]⟩] 112);rw [hA] at a0 a1 a2 a3 ⊢;have s4:=qset_four A w.heap.size (.int .i64 cd) (.int .i64 p.line) (.int .i64 p.col) (.string ⟨#[]⟩) _ _ _ _ a0 a1 a2 a3;have hbF:Below w.heap.size w ((((A.setCell ⟨w.heap.size,0,none⟩ (.int .i64 cd)).setCell ⟨w.heap.size,1,none⟩ (.int .i64 p.line)).setCell ⟨w.heap.size,2,none⟩ (.int .i64 p.col)).setCell ⟨w.heap.size,3,none⟩ (.string ⟨#[]⟩)).drew:=(((((HBW.out.trans (hbA.mono HBW.out.size)).setCell (Nat.le_refl _) _).setCell (Nat.le_refl _) _).setCell (Nat.le_refl _) _).setCell (Nat.le_refl _) _).drew;have hbut:But (fun k=>k=w.heap.size) A ((((A.setCell ⟨w.heap.size,0,none⟩ (.int .i64 cd)).setCell ⟨w.heap.size,1,none⟩ (.int .i64 p.line)).setCell ⟨w.heap.size,2,none⟩ (.int .i64 p.col)).setCell ⟨w.heap.size,3,none⟩ (.string ⟨#[]⟩)) :=
   (((But.setCell (p:=fun k=>k=w.heap.size) A rfl 0 _).trans (But.setCell (p:=fun k=>k=w.heap.size) _ rfl 1 _)).trans (But.setCell (p:=fun k=>k=w.heap.size) _ rfl 2 _)).trans (But.setCell (p:=fun k=>k=w.heap.size) _ rfl 3 _)
  have hbw:=HBW.out;have HBF:=Lib.hid hbF;have HBUT:=Lib.hid hbut;have HRD:=Lib.hid hrd;have HBA:=Lib.hid hbA;clear hA hbA hrd hbF hbut a0 a1 a2 a3 e0 e1 e2 e3 f0 f1 f2 f3 g0 g1 g2 g3 gf hbw
  go_wp2_with fail
  refine bodyPost_ret (v := .tuple #[.pointer (some ⟨U.heap.size,0,none⟩),.agg #[.int .i64 cd,.int .i64 p.line,.int .i64 p.col,.string ⟨#[]⟩]]) (by simp [results,Tryz.results41,go_sem,s4.1,s4.2.1,s4.2.2.1,s4.2.2.2]) rfl ⟨HBF.out, ?_⟩;exact ⟨_,rfl⟩
 | ok ts =>
  have hlen:=Lx.whole_len hR;have hts:=Lx.whole_is hR;have hne:0<ts.length:=(Ex.TsOk.mk hts.1 hts.2).pos;rw [hR] at HT;clear hR hts;obtain ⟨Z,hZ⟩:∃ Z,w.alloc (.cells #[.int .i64 0,.int .i64 0,.int .i64 0,.string ⟨#[]⟩] 67)=Z:=⟨_,rfl⟩;have hbZ:Below w.heap.size w Z:=by rw [<- hZ];exact (Below.refl _ w).alloc (Nat.le_refl _) _
  have hz:Z.heap[w.heap.size]? = some (.cells #[.int .i64 0,.int .i64 0,.int .i64 0,.string ⟨#[]⟩] 67 (0,0)):=by rw [<- hZ];exact blk_new w _
  have HZ:=Lib.hid hZ;have HBZ:=Lib.hid hbZ;have HZB:=Lib.hid hz;clear hZ hbZ hz
  go_enter Tryz.func41,Tryz.ntmps41
  go_wp2_with fail
  rw [HZ.out];refine (HT.out _).mono ?_;rintro e w1 ⟨hb1,v,rfl,hown⟩;obtain ⟨g,cap,rfl,hcap,hgB,hcell⟩:=own_slice hown hne;obtain ⟨U,hU⟩:∃ U,w1.alloc (.cells #[.int .i64 0,.int .i64 0,.int .i64 0,.string ⟨#[]⟩] 67)=U:=⟨_,rfl⟩;have hbU:Below w1.heap.size w1 U:=by rw [<- hU];exact (Below.refl _ w1).alloc (Nat.le_refl _) _
  have hd:U.heap[w1.heap.size]? = some (.cells #[.int .i64 0,.int .i64 0,.int .i64 0,.string ⟨#[]⟩] 67 (0,0)):=by rw [<- hU];exact blk_new w1 _
  have hr:U.heap[w.heap.size]? = some (.cells #[.int .i64 0,.int .i64 0,.int .i64 0,.string ⟨#[]⟩] 67 (0,0)):=(hbU.block _ (Nat.lt_of_lt_of_le (lt_of_heap HZB.out) hb1.size)).trans ((hb1.block _ (lt_of_heap HZB.out)).trans HZB.out);have hbw:=HBZ.out.trans ((hb1.trans (hbU.mono hb1.size)).mono HBZ.out.size);have e0:=blk_cell hd 0;have e1:=blk_cell hd 1;have e2:=blk_cell hd 2;have e3:=blk_cell hd 3;have f0:=fun o=>blk_cell (blk_alloc hd o) 0;have f1:=fun o=>blk_cell (blk_alloc hd o) 1;have f2:=fun o=>blk_cell (blk_alloc hd o) 2;have f3:=fun o=>blk_cell (blk_alloc hd o) 3;have g0:=fun o=>blk_cell (blk_alloc hr o) 0;have g1:=fun o=>blk_cell (blk_alloc hr o) 1;have g2:=fun o=>blk_cell (blk_alloc hr o) 2;have g3:=fun o=>blk_cell (blk_alloc hr o) 3;have gf:=fun o=>blk_frozen (blk_alloc hr o);simp only [List.getElem?_toArray,List.getElem?_cons_zero,List.getElem?_cons_succ] at e0 e1 e2 e3 f0 f1 f2 f3 g0 g1 g2 g3;have hgl:g<w1.heap.size:=World.block_lt_of_cell? _ _ (hcell 0 _ (by rw [show (0:Nat)=0*5+0 from rfl,tokCells_get (Ex.tk_get hne) 0 (by omega)];rfl));have hcU:∀ i u,(tokCells ts)[i]? = some u->U.cell? ⟨g,i,none⟩=some u:=fun i u hu=>(hbU.cell (p:=⟨g,i,none⟩) hgl).trans (hcell i u hu);have hzU:=hbU.size;have hz1:=hb1.size;have hzZ:=lt_of_heap HZB.out;have HCU:=Lib.hid hcU;have HU:=Lib.hid hU;have HBW:=Lib.hid hbw;clear hU hbU hd hr hb1 hbw hown hcell hcU
  go_upto_region 2 with fail
  rw [HU.out]
  go_region
  obtain ⟨A,hA⟩:∃ A,U.alloc (.cells #[.slice (some ⟨g,0,none⟩) ts.length cap,.int .i64 0,.int .i64 0,.slice none 0 0,.int .i64 0,.int .i64 0,.int .i64 0,.string ⟨#[]⟩] 112)=A:=⟨_,rfl⟩;have hbA:Below U.heap.size U A:=by rw [<- hA];exact (Below.refl _ U).alloc (Nat.le_refl _) _
  have hrd:A.heap[U.heap.size]? = some (.cells #[.slice (some ⟨g,0,none⟩) ts.length cap,.int .i64 0,.int .i64 0,.slice none 0 0,.int .i64 0,.int .i64 0,.int .i64 0,.string ⟨#[]⟩] 112 (0,0)):=by rw [<- hA];exact blk_new U _
  have a0:=g0 (.cells #[.slice (some ⟨g,0,none⟩) ts.length cap,.int .i64 0,.int .i64 0,.slice none 0 0,.int .i64 0,.int .i64 0,.int .i64 0,.string ⟨#[]⟩] 112);have a1:=g1 (.cells #[.slice (some ⟨g,0,none⟩) ts.length cap,.int .i64 0,.int .i64 0,.slice none 0 0,.int .i64 0,.int .i64 0,.int .i64 0,.string ⟨#[]⟩] 112);have a2:=g2 (.cells #[.slice (some ⟨g,0,none⟩) ts.length cap,.int .i64 0,.int .i64 0,.slice none 0 0,.int .i64 0,.int .i64 0,.int .i64 0,.string ⟨#[]⟩] 112);have a3:=g3 (.cells #[.slice (some ⟨g,0,none⟩) ts.length cap,.int .i64 0,.int .i64 0,.slice none 0 0,.int .i64 0,.int .i64 0,.int .i64 0,.string ⟨#[]⟩] 112);rw [hA] at a0 a1 a2 a3 ⊢;have s4:=qset_four A w.heap.size (.int .i64 0) (.int .i64 0) (.int .i64 0) (.string ⟨#[]⟩) _ _ _ _ a0 a1 a2 a3;have hbF:Below w.heap.size w ((((A.setCell ⟨w.heap.size,0,none⟩ (.int .i64 0)).setCell ⟨w.heap.size,1,none⟩ (.int .i64 0)).setCell ⟨w.heap.size,2,none⟩ (.int .i64 0)).setCell ⟨w.heap.size,3,none⟩ (.string ⟨#[]⟩)).drew:=(((((HBW.out.trans (hbA.mono HBW.out.size)).setCell (Nat.le_refl _) _).setCell (Nat.le_refl _) _).setCell (Nat.le_refl _) _).setCell (Nat.le_refl _) _).drew;have hbut:But (fun k=>k=w.heap.size) A ((((A.setCell ⟨w.heap.size,0,none⟩ (.int .i64 0)).setCell ⟨w.heap.size,1,none⟩ (.int .i64 0)).setCell ⟨w.heap.size,2,none⟩ (.int .i64 0)).setCell ⟨w.heap.size,3,none⟩ (.string ⟨#[]⟩)) :=
   (((But.setCell (p:=fun k=>k=w.heap.size) A rfl 0 _).trans (But.setCell (p:=fun k=>k=w.heap.size) _ rfl 1 _)).trans (But.setCell (p:=fun k=>k=w.heap.size) _ rfl 2 _)).trans (But.setCell (p:=fun k=>k=w.heap.size) _ rfl 3 _)
  have hbw:=HBW.out;have HBF:=Lib.hid hbF;have HBUT:=Lib.hid hbut;have HRD:=Lib.hid hrd;have HBA:=Lib.hid hbA;clear hA hbA hrd hbF hbut a0 a1 a2 a3 e0 e1 e2 e3 f0 f1 f2 f3 g0 g1 g2 g3 gf hbw
  go_wp2_with fail
  refine bodyPost_ret (v := .tuple #[.pointer (some ⟨U.heap.size,0,none⟩),.agg #[.int .i64 0,.int .i64 0,.int .i64 0,.string ⟨#[]⟩]]) (by simp [results,Tryz.results41,go_sem,s4.1,s4.2.1,s4.2.2.1,s4.2.2.2]) rfl ⟨HBF.out, ?_⟩;have hU0:=HBA.out.size;have hrlt:=lt_of_heap HRD.out;refine ⟨⟨A.heap.size,U.heap.size,U.heap.size,g,cap,ts⟩,rfl, ?_, ?_,rfl, ?_⟩
  ·simp only;omega
  ·simp only;omega
  ·refine ⟨⟨.slice none 0 0, ?_,QRow.nil _ _ _⟩,fun i u hu=>?_,Nat.zero_le _,by simp only;omega,hcap,Nat.zero_le _,hrlt,by simp only;omega,by simp only;omega,rfl, ?_,fun k hk=>hk.elim⟩
   ·exact HBUT.out.heap HRD.out (by show U.heap.size≠w.heap.size;omega)
   ·have h1:A.cell? ⟨g,i,none⟩=some u:=(HBA.out.cell (p:=⟨g,i,none⟩) (by show g<U.heap.size;omega)).trans (HCU.out i u hu);exact (World.cell?_of_block (HBUT.out.block g (by show g<A.heap.size;omega) (by omega))).trans h1
   ·exact HBUT.out.size
end
section
open Go.RowKit Tn Lx
attribute [local go_sem] qtok_field0 qtok_field1 qtok_field2 qtok_field3
def RParseP (w:World)(R:Ex.PRes)(e:Ending)(w':World):Prop :=
 Below w.heap.size w w'/\((∃ i ns mo mc,R = .ok i ns/\e = .returned (.tuple #[.slice mo ns.length mc,.int .i64 ((i:Nat):Int),zdiag 0 ⟨0,0⟩])/\NodesAt w'.heap.size w' mo ns)\/(∃ cd p,cd≠0/\R = .bad cd p/\e = .returned (.tuple #[.slice none 0 0,.int .i64 0,zdiag cd p])))
theorem whole_bad {l:B}{cd:Int}{p:Pos}(h:Lx.whole l = .bad cd p):cd≠0:=by
 have one:∀ l e,Lx.one l = .bad e->e≠0:=fun l e h=>by
  unfold Lx.one at h
  split at h
  ·cases h
  ·split at h
   ·split at h
    ·cases h;decide
    ·cases h
   ·split at h
    ·split at h
     ·cases h;decide
     ·split at h <;> cases h
    ·split at h
     ·cases h;decide
     ·cases h
 have tk:∀ f note p0 l,Lx.toks f note p0 l = .bad cd p->cd≠0:=fun f=>by
  induction f with
  | zero=>intro note p0 l h;simp [Lx.toks] at h
  | succ f ih =>
   intro note p0 l h;rw [Lx.toks] at h
   cases ho:Lx.one (l.drop (Lx.blanks note l)) with
   | bad e=>rw [ho] at h;simp only at h;cases h;exact one _ _ ho
   | tok k n v =>
    rw [ho] at h;simp only at h
    split at h
    ·cases h
    ·cases hr:Lx.toks f false (Lx.adv p0 (l.take (Lx.blanks note l+n))) (l.drop (Lx.blanks note l+n)) with
     | bad c' q'=>rw [hr] at h;simp only [Lx.Res.after] at h;cases h;exact ih _ _ _ hr
     | ok us=>rw [hr] at h;simp [Lx.Res.after] at h
 unfold Lx.whole at h
 split at h
 ·cases h;decide
 ·split at h
  ·cases h;decide
  ·exact tk _ _ _ _ h
theorem QRow.nodes {c:Cx}{X:Nat->Prop}{w:World}{ao:Option Addr}{n cap:Nat}{ns:List Nd}(h:QRow c X w (.slice ao n cap) ns):n=ns.length/\NodesAt w.heap.size w ao ns:=by
 obtain ⟨l,e,ho,hk,_⟩:=h.ex;have hn:n=l.length:=by
  obtain ⟨a,c',e1⟩:=own_form ho
  injection e1
 subst hn;exact ⟨by rw [<- e,nds_len],by rw [<- e];exact own_nodes ho (fun s hs=>own_ints (hk s hs)) (fun s hs e=>own_nil (hk s hs) e) (Nat.le_refl _)⟩
theorem parse_fin {ts:List Tok}{n v:Nat}{q:Qs}(hA:Abs (Ex.rec_ ts n .all 0 ⟨0,[]⟩) q)(hv:∀ i s,Ex.rec_ ts n .all 0 ⟨0,[]⟩ = .ok i s->v=i):
  ((Ex.tk ts q.p).kind=0->q.cd=0->Ex.parseT n ts = .ok v q.ns)/\((Ex.tk ts q.p).kind=0->q.cd≠0->Ex.parseT n ts = .bad q.cd q.bp)/\((Ex.tk ts q.p).kind≠0->(qfail ts q 5).cd≠0/\Ex.parseT n ts = .bad (qfail ts q 5).cd (qfail ts q 5).bp):=by
 unfold Ex.parseT
 cases e:Ex.rec_ ts n .all 0 ⟨0,[]⟩ with
 | ok i s =>
  rw [e] at hA hv;obtain ⟨e1,e2,e3⟩:=hA;obtain rfl:=hv i s rfl;refine ⟨fun hk _=>?_,fun _ hc=>absurd e3 hc,fun hk=>?_⟩
  ·simp only;rw [<- e1,if_pos (by simpa using hk),e2]
  ·have:qfail ts q 5=⟨q.p,q.ns,5,(Ex.tk ts q.p).at_⟩:=if_pos e3;rw [this];refine ⟨by show (5:Int)≠0;decide, ?_⟩;simp only;rw [<- e1,if_neg (by simpa using hk)];unfold Ex.at_;rw [<- e1]
 | bad c p =>
  rw [e] at hA;obtain ⟨e1,e2,e3⟩:=hA;have hc:q.cd≠0:=by rw [e2];exact e1
  refine ⟨fun _ h0=>absurd h0 hc,fun _ _=>by simp only;rw [e2,e3],fun _=>?_⟩;rw [qfail_bad hc];exact ⟨hc,by simp only;rw [e2,e3]⟩
 | out=>rw [e] at hA;exact hA.elim
theorem rparse_any (n:Nat)(hn:n<=900000)(s:ByteArray)(w:World)(hs:s.size<=1000000000000)(hfu:∀ ts,Lx.whole s.data.toList = .ok ts->10*ts.length+8<n):Calls Tryz.prog 21 #[.string s] w (RParseP w (Ex.parse n s.data.toList)):=by
 have hN:=fun w'=>qnew_any s w' hs;obtain ⟨Z,hZ⟩:∃ Z,w.alloc (.cells #[.int .i64 0,.int .i64 0,.int .i64 0,.string ⟨#[]⟩] 67)=Z:=⟨_,rfl⟩;have hbZ:Below w.heap.size w Z:=by rw [<- hZ];exact (Below.refl _ w).alloc (Nat.le_refl _) _
 have hz:Z.heap[w.heap.size]? = some (.cells #[.int .i64 0,.int .i64 0,.int .i64 0,.string ⟨#[]⟩] 67 (0,0)):=by rw [<- hZ];exact blk_new w _
 have HN:=Lib.hid hN;have HZ:=Lib.hid hZ;have HBZ:=Lib.hid hbZ;have HZB:=Lib.hid hz;clear hN hZ hbZ hz;unfold Ex.parse
 cases hR:Lx.whole s.data.toList with
 | bad cd p =>
  have hcd:=whole_bad hR;have hcn:(cd != 0)=true:=by simpa using hcd
  rw [hR] at HN;have HC:=Lib.hid hcd;clear hR hfu hcd
  go_enter Tryz.func21,Tryz.ntmps21
  go_wp2_with fail
  rw [HZ.out];refine (HN.out _).mono ?_;rintro e w1 ⟨hb1,a,rfl⟩;obtain ⟨U,hU⟩:∃ U,w1.alloc (.cells #[.int .i64 cd,.int .i64 p.line,.int .i64 p.col,.string ⟨#[]⟩] 67)=U:=⟨_,rfl⟩;have hbU:Below w1.heap.size w1 U:=by rw [<- hU];exact (Below.refl _ w1).alloc (Nat.le_refl _) _
  have hd:U.heap[w1.heap.size]? = some (.cells #[.int .i64 cd,.int .i64 p.line,.int .i64 p.col,.string ⟨#[]⟩] 67 (0,0)):=by rw [<- hU];exact blk_new w1 _
  have hr:U.heap[w.heap.size]? = some (.cells #[.int .i64 0,.int .i64 0,.int .i64 0,.string ⟨#[]⟩] 67 (0,0)):=(hbU.block _ (Nat.lt_of_lt_of_le (lt_of_heap HZB.out) hb1.size)).trans ((hb1.block _ (lt_of_heap HZB.out)).trans HZB.out);have hbw:=HBZ.out.trans ((hb1.trans (hbU.mono hb1.size)).mono HBZ.out.size);have e0:=blk_cell hd 0;have e1:=blk_cell hd 1;have e2:=blk_cell hd 2;have e3:=blk_cell hd 3;simp only [List.getElem?_toArray,List.getElem?_cons_zero,List.getElem?_cons_succ] at e0 e1 e2 e3;have g0:=blk_cell hr 0;have g1:=blk_cell hr 1;have g2:=blk_cell hr 2;have g3:=blk_cell hr 3;have gf:=blk_frozen hr;simp only [List.getElem?_toArray,List.getElem?_cons_zero,List.getElem?_cons_succ] at g0 g1 g2 g3;have HU:=Lib.hid hU;have HBW:=Lib.hid hbw;clear hU hbU hd hr hb1 hbw;unfold zdiag
  go_upto_region 2 with fail
  rw [HU.out]
  go_upto_region 3 with fail
  go_region
  have s4:=qset_four U w.heap.size (.int .i64 cd) (.int .i64 p.line) (.int .i64 p.col) (.string ⟨#[]⟩) _ _ _ _ g0 g1 g2 g3;clear g0 g1 g2 g3 gf e0 e1 e2 e3
  go_wp2_with fail
  refine bodyPost_ret (v := .tuple #[.slice none 0 0,.int .i64 0,.agg #[.int .i64 cd,.int .i64 p.line,.int .i64 p.col,.string ⟨#[]⟩]]) (by simp [results,Tryz.results21,go_sem,s4.1,s4.2.1,s4.2.2.1,s4.2.2.2]) rfl ?_;exact ⟨((((HBW.out.setCell (Nat.le_refl _) _).setCell (Nat.le_refl _) _).setCell (Nat.le_refl _) _).setCell (Nat.le_refl _) _).drew,.inr ⟨cd,p,HC.out,rfl,rfl⟩⟩
 | ok ts =>
  have hts:=Lx.whole_is hR;have hfuel:=hfu ts hR;rw [hR] at HN;have HTS:=Lib.hid (Ex.TsOk.mk hts.1 hts.2);clear hR hfu hts
  go_enter Tryz.func21,Tryz.ntmps21
  go_wp2_with fail
  rw [HZ.out];refine (HN.out _).mono ?_;rintro e w1 ⟨hb1,c,rfl,hcr,hcB,rfl,hQ1⟩;obtain ⟨U,hU⟩:∃ U,w1.alloc (.cells #[.int .i64 0,.int .i64 0,.int .i64 0,.string ⟨#[]⟩] 67)=U:=⟨_,rfl⟩;have hbU:Below w1.heap.size w1 U:=by rw [<- hU];exact (Below.refl _ w1).alloc (Nat.le_refl _) _
  have hr:U.heap[w.heap.size]? = some (.cells #[.int .i64 0,.int .i64 0,.int .i64 0,.string ⟨#[]⟩] 67 (0,0)):=(hbU.block _ (Nat.lt_of_lt_of_le (lt_of_heap HZB.out) hb1.size)).trans ((hb1.block _ (lt_of_heap HZB.out)).trans HZB.out);have hbw:=HBZ.out.trans ((hb1.trans (hbU.mono hb1.size)).mono HBZ.out.size);have hsp:=qspec_rec c HTS.out n hn;have hpos:=HTS.out.pos;have hP:Pre c (fun _=>False) U 0 n 8 0 [] (Ex.Res.ok () ⟨0,[]⟩:Ex.Res Unit) ⟨0,[],0,⟨0,0⟩⟩:=⟨hQ1.below hbU,hpos,⟨rfl,rfl,rfl⟩,⟨Ex.goodS_nil _,Nat.le_refl _,fun k hk=>by cases hk⟩,by omega,by omega⟩;have hC:=hsp.all _ _ _ _ _ _ _ hP;have hzw:=lt_of_heap HZB.out;have hbt:=hQ1.bt;have HC:=Lib.hid hC;have HU:=Lib.hid hU;have HBW:=Lib.hid hbw;have HR:=Lib.hid hr;clear hC hU hbw hr hbU hb1 hQ1 hP hsp;unfold zdiag
  go_wp2_with fail
  rw [HU.out];refine HC.out.mono ?_;rintro e w2 ⟨v,q,rfl,hQ2,hp2,hA2,hv2,hK2⟩;obtain ⟨hf1,hf2,hf3⟩:=parse_fin hA2 hv2;obtain ⟨D,hD⟩:∃ D,w2.drew=D:=⟨_,rfl⟩;have hbD:Below w2.heap.size w2 D:=by rw [<- hD];exact (Below.refl _ w2).drew
  have hQD:=hQ2.below hbD;have hrD:=(hK2.then_below hbD).heap HR.out (show w.heap.size≠c.r by omega) (show w.heap.size≠c.bt by omega) (fun e=>absurd e (by decide));have few:=hQD.few;have room:=hQD.room;have c0:=hQ2.c0;have c1:=hQ2.c1;have k0:=hQ2.tk hp2 0 (by omega) rfl;rw [Nat.add_zero] at k0;have wr:IntKind.i64.wrap (q.p:Int)=(q.p:Int):=IntWalk.i64_in _ (by omega);have wl:(q.p:Int)<(c.ts.length:Int):=by omega
  have hbl:=HBW.out.trans (Kp.below hK2 HBW.out.size (by omega) (by omega) (by omega));have hsD:=hbD.size;have hKD:=hbl.trans (hbD.mono hbl.size);have HD:=Lib.hid hD;have HQD:=Lib.hid hQD;have HRD:=Lib.hid hrD;have HKD:=Lib.hid hKD;have HP2:=Lib.hid hp2;have HF1:=Lib.hid hf1;have HF2:=Lib.hid hf2;have HF3:=Lib.hid hf3;clear hD hQD hrD hKD hbl hp2 hf1 hf2 hf3 hA2 hv2 hK2 hQ2 hbD HC HU HN HZ
  by_cases hk0:(Ex.tk c.ts q.p).kind=0
  ·rw [hk0] at k0
   by_cases hc0:q.cd=0
   ·have HFIN:=Lib.hid (HF1.out hk0 hc0);clear HF1 HF2 HF3 hk0
    go_upto_region 4 with fail
    go_region
    rw [HD.out];clear c0 c1 k0;have c4:=HQD.out.c4;rw [hc0] at c4;obtain ⟨vn,cn,hrow⟩:=HQD.out.c3;obtain ⟨l,_,ho,_,_⟩:=hrow.ex;obtain ⟨ao,cap,rfl⟩:=own_form ho;obtain ⟨hln,_⟩:=hrow.nodes;rw [hln] at cn hrow;have HROW:=Lib.hid hrow;clear ho hrow hc0;have g0:=blk_cell HRD.out 0;have g1:=blk_cell HRD.out 1;have g2:=blk_cell HRD.out 2;have g3:=blk_cell HRD.out 3;have gf:=blk_frozen HRD.out;simp only [List.getElem?_toArray,List.getElem?_cons_zero,List.getElem?_cons_succ] at g0 g1 g2 g3;have s4:=qset_four D w.heap.size (.int .i64 0) (.int .i64 0) (.int .i64 0) (.string ⟨#[]⟩) _ _ _ _ g0 g1 g2 g3
    go_wp2_with fail
    refine bodyPost_ret (v := .tuple #[.slice ao q.ns.length cap,.int .i64 (v:Int),.agg #[.int .i64 0,.int .i64 0,.int .i64 0,.string ⟨#[]⟩]]) (by simp [results,Tryz.results21,go_sem,s4.1,s4.2.1,s4.2.2.1,s4.2.2.2]) rfl ?_;have hbut:But (fun k=>k=w.heap.size) D ((((D.setCell ⟨w.heap.size,0,none⟩ (.int .i64 0)).setCell ⟨w.heap.size,1,none⟩ (.int .i64 0)).setCell ⟨w.heap.size,2,none⟩ (.int .i64 0)).setCell ⟨w.heap.size,3,none⟩ (.string ⟨#[]⟩)):=(((But.setCell (p:=fun k=>k=w.heap.size) D rfl 0 _).trans (But.setCell (p:=fun k=>k=w.heap.size) _ rfl 1 _)).trans (But.setCell (p:=fun k=>k=w.heap.size) _ rfl 2 _)).trans (But.setCell (p:=fun k=>k=w.heap.size) _ rfl 3 _);have hrF:=HROW.out.but hbut (fun k e => .inr (.inr (by subst e;exact ⟨_,_,_,HRD.out,by decide,by decide⟩)));exact ⟨(((HKD.out.setCell (Nat.le_refl _) _).setCell (Nat.le_refl _) _).setCell (Nat.le_refl _) _).setCell (Nat.le_refl _) _,.inl ⟨v,q.ns,ao,cap,HFIN.out,rfl,hrF.nodes.2⟩⟩
   ·have hfin:=HF2.out hk0 hc0;clear HF1 HF2 HF3 hk0
    go_upto_region 4 with fail
    go_region
    rw [HD.out];clear c0 c1 k0;have c4:=HQD.out.c4;have c5:=HQD.out.c5;have c6:=HQD.out.c6;have c7:=HQD.out.c7;have hcn:(q.cd != 0)=true:=by simpa using hc0
    have HCD:=Lib.hid hc0;have HFIN:=Lib.hid hfin;have g0:=blk_cell HRD.out 0;have g1:=blk_cell HRD.out 1;have g2:=blk_cell HRD.out 2;have g3:=blk_cell HRD.out 3;have gf:=blk_frozen HRD.out;simp only [List.getElem?_toArray,List.getElem?_cons_zero,List.getElem?_cons_succ] at g0 g1 g2 g3;have s4:=qset_four D w.heap.size (.int .i64 q.cd) (.int .i64 q.bp.line) (.int .i64 q.bp.col) (.string ⟨#[]⟩) _ _ _ _ g0 g1 g2 g3;clear hfin hc0
    go_wp2_with fail
    go_region
    go_wp2_with fail
    refine bodyPost_ret (v := .tuple #[.slice none 0 0,.int .i64 0,.agg #[.int .i64 q.cd,.int .i64 q.bp.line,.int .i64 q.bp.col,.string ⟨#[]⟩]]) (by simp [results,Tryz.results21,go_sem,s4.1,s4.2.1,s4.2.2.1,s4.2.2.2]) rfl ?_;exact ⟨((((HKD.out.setCell (Nat.le_refl _) _).setCell (Nat.le_refl _) _).setCell (Nat.le_refl _) _).setCell (Nat.le_refl _) _).drew,.inr ⟨_,_,HCD.out,HFIN.out,rfl⟩⟩
  ·obtain ⟨hc3,hfin⟩:=HF3.out hk0;have hkn:((Ex.tk c.ts q.p).kind != 0)=true:=by simpa using hk0
   have hFl:=qfail_any c (fun _=>False) D 0 q 5 HQD.out HP2.out;generalize qfail c.ts q 5=q3 at *;generalize (Ex.tk c.ts q.p).kind=kd at *;have HFL:=Lib.hid hFl;have HC3:=Lib.hid hc3;have HFN:=Lib.hid hfin;clear HF1 HF2 HF3 hk0 hFl hc3 hfin
   go_upto_region 4 with fail
   go_region
   rw [HD.out];clear c0 c1 k0
   go_wp2_with fail
   refine HFL.out.mono ?_;rintro e w3 ⟨rfl,hQ3,hK3⟩;have hr3:=hK3.heap HRD.out (show w.heap.size≠c.r by omega) (show w.heap.size≠c.bt by omega) (fun e=>absurd e (by decide));have hk3:=HKD.out.trans (Kp.below hK3 HKD.out.size (by omega) (by omega) (by omega));have HQ3:=Lib.hid hQ3;have HR3:=Lib.hid hr3;have HK3:=Lib.hid hk3;clear hQ3 hK3 hr3 hk3;have c4:=HQ3.out.c4;have c5:=HQ3.out.c5;have c6:=HQ3.out.c6;have c7:=HQ3.out.c7;have hcn:(q3.cd != 0)=true:=by simpa using HC3.out
   have HCD:=Lib.hid HC3.out;have HFIN:=Lib.hid HFN.out;have g0:=blk_cell HR3.out 0;have g1:=blk_cell HR3.out 1;have g2:=blk_cell HR3.out 2;have g3:=blk_cell HR3.out 3;have gf:=blk_frozen HR3.out;simp only [List.getElem?_toArray,List.getElem?_cons_zero,List.getElem?_cons_succ] at g0 g1 g2 g3;have s4:=qset_four w3 w.heap.size (.int .i64 q3.cd) (.int .i64 q3.bp.line) (.int .i64 q3.bp.col) (.string ⟨#[]⟩) _ _ _ _ g0 g1 g2 g3
   go_wp2_with fail
   go_region
   go_wp2_with fail
   refine bodyPost_ret (v := .tuple #[.slice none 0 0,.int .i64 0,.agg #[.int .i64 q3.cd,.int .i64 q3.bp.line,.int .i64 q3.bp.col,.string ⟨#[]⟩]]) (by simp [results,Tryz.results21,go_sem,s4.1,s4.2.1,s4.2.2.1,s4.2.2.2]) rfl ?_;exact ⟨((((HK3.out.setCell (Nat.le_refl _) _).setCell (Nat.le_refl _) _).setCell (Nat.le_refl _) _).setCell (Nat.le_refl _) _).drew,.inr ⟨_,_,HCD.out,HFIN.out,rfl⟩⟩
end
section
open Go.RowKit Tn
def rexprT (n:Nat)(ms:List Nd)(i:Nat):Option Lx.B :=
 if ((Pl ms i).all fun j=>Sh.well (nd ms j))=true then (match Ex.parse n (Rt.rtxt ms i) with
  | .ok j ns=>if sameB ms ns i j=true then some (Rt.rtxt ms i) else none
  | _=>none) else none
def rshowV:Option Lx.B->Value
 | some t => .tuple #[.string ⟨t.toArray⟩,.bool true]
 | none => .tuple #[.string ⟨#[]⟩,.bool false]
def RExprP (R:Option Lx.B)(w:World)(e:Ending)(w':World):Prop:=e = .returned (rshowV R)/\Below w.heap.size w w'
theorem rexpr_no (mo:Option Addr)(len mc:Nat)(i:Int)(w:World)(h:¬ (0<=i/\i<(len:Int))):Calls Tryz.prog 8 #[.slice mo len mc,.int .i64 i] w (RExprP none w):=by
 have H:=Lib.hid h;clear h
 go_enter Tryz.func8,Tryz.ntmps8
 go_wp2_with fail
 refine (in_no mo len mc i _ H.out).mono ?_;rintro e w1 ⟨rfl,rfl⟩
 go_wp2
 refine bodyPost_ret (v := .tuple #[.string ⟨#[]⟩,.bool false]) (by simp [results,Tryz.results8,go_sem]) rfl ?_;exact ⟨rfl,Below.refl _ _⟩
theorem rexpr_in (n:Nat)(hn:n<=900000)(N:Nat)(mo:Option Addr)(mc:Nat)(ms:List Nd)(hw:WF ms)(hg:Tn.Good ms)(hf:∀ i,i<ms.length->(nd ms i).kids.length<=2000)(hnum:∀ j,j<ms.length -> -9223372036854775807<=(nd ms j).num/\(nd ms j).num<=9223372036854775807)(hname:∀ i,i<ms.length->(nd ms i).name.size<=2000)
  (hfu:∀ l ts,Lx.whole l = .ok ts->10*ts.length+8<n) (hpl:∀ i,i<ms.length->(Pl ms i).length<=2000) (i:Nat) (hi:i<ms.length) (w:World) (hm:NodesAt N w mo ms) (hN:N<=w.heap.size):
  Calls Tryz.prog 8 #[.slice mo ms.length mc,.int .i64 (i:Int)] w (RExprP (rexprT n ms i) w):=by
 have hPl:=fun w' hb=>places_any N mo mc ms hw hg hf i hi w' (hm.below (Below.mono hb hN)) (Nat.le_trans hN (Below.size hb));have hL:=Pl_lt_len hw i hi;have hlen:∀ j,j<ms.length->Fit ms j->∀ u,(Rt.node ms u (nd ms j)).length<=8000000:=fun j hj hfj u=>by
  have h1:=Rt.node_up hw hname j hj hfj u;have h2:=hpl j hj;omega
 have hT:Fit ms i->TextC N mo mc ms (Rt.rtxt ms i) i:=fun hfi=>rtext_any N mo mc ms hw (fun j hj=>(hnum j hj).1) (fun j hj hfj u=>Nat.le_trans (hlen j hj hfj u) (by decide)) i hi hfi (i+1) (by omega);have hS:Fit ms i->(Rt.rtxt ms i).length<=8000000:=fun hfi=>hlen i hi hfi (i+1);have hfit:(∀ j,j<(Pl ms i).length->Sh.well (nd ms ((Pl ms i).getD j 0))=true)->Fit ms i:=fun h k hk=>by
  have hkl:=hL k hk;obtain ⟨j,hj,e⟩:=List.getElem_of_mem hk;have h1:=h j hj;rw [List.getD_eq_getElem?_getD,List.getElem?_eq_getElem hj,e] at h1;have h2:=hnum k hkl;exact ⟨h1,Nat.le_trans (hf k hkl) (by decide),by omega,h2.2⟩
 have hno:∀ j,j<(Pl ms i).length->Sh.well (nd ms ((Pl ms i).getD j 0))=false->rexprT n ms i=none:=fun j hj h=>by
  unfold rexprT;rw [if_neg];intro h1;rw [List.all_eq_true] at h1;have h2:=h1 _ (List.getElem_mem hj);rw [List.getD_eq_getElem?_getD,List.getElem?_eq_getElem hj,Option.getD_some,h2] at h
  cases h
 have hyes:(∀ j,j<(Pl ms i).length->Sh.well (nd ms ((Pl ms i).getD j 0))=true)->rexprT n ms i=(match Ex.parse n (Rt.rtxt ms i) with
  | .ok j ns=>if sameB ms ns i j=true then some (Rt.rtxt ms i) else none
  | _=>none):=fun h=>by
  unfold rexprT;rw [if_pos];rw [List.all_eq_true];intro k hk;obtain ⟨j,hj,e⟩:=List.getElem_of_mem hk;have h1:=h j hj;rw [List.getD_eq_getElem?_getD,List.getElem?_eq_getElem hj,e] at h1;exact h1
 have hget:∀ j,j<(Pl ms i).length->kid (nats (Pl ms i)) j=(((Pl ms i).getD j 0:Nat):Int)/\(Pl ms i).getD j 0<ms.length:=fun j hj=>by
  refine ⟨by simp [kid,nats,List.getD_eq_getElem?_getD,List.getElem?_eq_getElem hj], ?_⟩;rw [List.getD_eq_getElem?_getD,List.getElem?_eq_getElem hj];exact hL _ (List.getElem_mem hj)
 have hPR:=fun (h:(Rt.rtxt ms i).length<=8000000) w'=>rparse_any n hn ⟨(Rt.rtxt ms i).toArray⟩ w' (by show (Rt.rtxt ms i).toArray.size<=_;simp;omega) (hfu _);have hPE:(⟨(Rt.rtxt ms i).toArray⟩:ByteArray).data.toList=Rt.rtxt ms i:=by simp
 rw [hPE] at hPR;have hRD:=(Ex.parse_read (hfu (Rt.rtxt ms i)));have hRS:=fun (N':Nat) mo2 mc2 (ns:List Nd) (j:Nat) (hr:Ex.Read j ns)=>rsame_in N' mo mo2 mc mc2 ms ns hw hr.wf (fun k hk=>Nat.le_trans (hf k hk) (by decide)) i hi j hr.lt;obtain ⟨R,hR⟩:∃ R,rexprT n ms i=R:=⟨_,rfl⟩;rw [hR] at hno hyes ⊢;have hi2:(i:Int)<(ms.length:Int):=by omega
 have hll:=hpl i hi;generalize Ex.parse n (Rt.rtxt ms i)=P at *;generalize Rt.rtxt ms i=T at *;generalize hl:Pl ms i=l at *;have hPl2:=hPl;have HP:=Lib.hid hPl;have HM:=Lib.hid hm;have HFIT:=Lib.hid hfit;have HT:=Lib.hid hT;have HS:=Lib.hid hS;have HNO:=Lib.hid hno;have HYES:=Lib.hid hyes;have HG:=Lib.hid hget;have HPR:=Lib.hid hPR;have HRD:=Lib.hid hRD;have HRS:=Lib.hid hRS;have hF2:=fun j hj=>(hf j hj);have HF2:=Lib.hid hF2;clear hPl hPl2 hL hlen hm hfit hT hS hno hyes hget hPR hPE hRD hRS hR hl hF2 hpl hname hnum hfu hn hg hw hf
 go_enter Tryz.func8,Tryz.ntmps8
 go_wp2_with fail
 refine (in_yes _ ms.length mc i _ (by omega) (by omega)).mono ?_;rintro e w1 ⟨rfl,rfl⟩
 go_wp2_with fail
 refine (HP.out _ (Below.refl _ _)).mono ?_;rintro e w1 ⟨vo,vc,rfl,hown,hb1⟩;have hkl:IntsAt w1.heap.size w1 vo (nats l):=own_ints (kc:=vc) (by rw [nats_len];exact hown);have HB1:=Lib.hid hb1;have HKL:=Lib.hid hkl;clear hown hb1 hkl HP
 go_wp2
 go_loopw [8] (fun v wr=>∃ j:Nat,j<=l.length/\v = .int .i64 j/\Below w1.heap.size w1 wr/\∀ t,t<j->Sh.well (nd ms (l.getD t 0))=true) (fun v _=>l.length-(intOf v).toNat)
 case atStart=>exact ⟨0,Nat.zero_le _,rfl,Below.refl _ _,fun t ht=>absurd ht (Nat.not_lt_zero _)⟩
 case round =>
  obtain ⟨j,hj,rfl,hbr,hall⟩:=hrel;have HALL:=Lib.hid hall;have HBR:=Lib.hid hbr;clear hall hbr
  by_cases hlt:j<l.length
  ·obtain ⟨g,o,rfl,_,hc⟩:=(HKL.out.below HBR.out) j (by rw [nats_len];exact hlt);have hq:=HG.out j hlt;rw [hq.1] at hc;have hwj:=HNO.out j hlt;have hal:Sh.well (nd ms (l.getD j 0))=true->∀ t,t<j+1->Sh.well (nd ms (l.getD t 0))=true:=fun h t ht=>by
    by_cases e:t=j
    ·subst e;exact h
    ·exact HALL.out t (by omega)
   have HAL:=Lib.hid hal;have hqm:=hq.2;clear hal hq;generalize l.getD j 0=q at *;have hbN:Below N w wr:=(HB1.out.trans (HBR.out.mono HB1.out.size)).mono hN;obtain ⟨b,o2,ka,kc,rfl,hnn⟩:=(HM.out.below hbN) q hqm;have c0:=hnn.c0;have hq2:(q:Int)<(ms.length:Int):=by omega
   have hj2:(j:Int)<(l.length:Int):=by omega
   have hfq:=HF2.out q hqm;rw [well_kidsOf] at hwj;rw [well_kidsOf] at HAL;have HWJ:=Lib.hid hwj;have HN:=Lib.hid hnn;have HC:=Lib.hid hc;clear hwj hnn hbN
   go_wp2_with fail
   refine (kids_any _ _).mono ?_;rintro e w2 ⟨rfl,hb2⟩;have HB2:=Lib.hid (HBR.out.trans (hb2.mono HBR.out.size));have hc2:w2.cell? ⟨g,o+j,none⟩=some (.int .i64 (q:Int)):=(hb2.cell (World.block_lt_of_cell? _ _ HC.out)).trans HC.out;have c5:=(HN.out.below (hb2.mono (Nat.le_trans hN ((HB1.out.trans (HBR.out.mono HB1.out.size)).size)))).c5;clear hb2 hc c0;generalize kidsOf (nd ms q).op=kv at *
   by_cases h2:kv = -2
   ·have HR:=Lib.hid (HWJ.out (by rw [h2];rfl));subst h2;clear c5 hc2
    go_wp2
    refine bodyPost_ret (v := .tuple #[.string ⟨#[]⟩,.bool false]) (by simp [results,Tryz.results8,go_sem]) rfl ?_;exact ⟨by rw [HR.out];rfl,HB1.out.trans (HB2.out.mono HB1.out.size)⟩
   ·by_cases h0:0<=kv
    ·by_cases he:kv=((nd ms q).kids.length:Int)
     ·have HW:=Lib.hid (HAL.out (by rw [he];simp));subst he
      go_wp2
      refine ⟨⟨j+1,by omega,by go_num,HB2.out,HW.out⟩,by simp [intOf];omega⟩
     ·have HR:=Lib.hid (HWJ.out (by simp [h2,h0,he]));have hne2:(kv != ((nd ms q).kids.length:Int))=true:=by simpa using he
      go_wp2
      refine bodyPost_ret (v := .tuple #[.string ⟨#[]⟩,.bool false]) (by simp [results,Tryz.results8,go_sem]) rfl ?_;exact ⟨by rw [HR.out];rfl,HB1.out.trans (HB2.out.mono HB1.out.size)⟩
    ·have HW:=Lib.hid (HAL.out (by simp [h2,h0]));clear c5 hc2
     go_wp2
     refine ⟨⟨j+1,by omega,by go_num,HB2.out,HW.out⟩,by simp [intOf];omega⟩
  ·obtain rfl:j=l.length:=by omega
   have hfi:=HFIT.out HALL.out;have hr:=HYES.out HALL.out;have HBW:=Lib.hid (HB1.out.trans (HBR.out.mono HB1.out.size));have ht:=HT.out hfi wr (HM.out.below (HBW.out.mono hN)) (Nat.le_trans hN HBW.out.size);have HTT:=Lib.hid ht;have HR:=Lib.hid hr;have HPX:=Lib.hid (HPR.out (HS.out hfi));clear ht hr hfi
   go_wp2_with fail
   refine HTT.out.mono ?_;rintro e w2 ⟨rfl,hb2⟩;have HB2:=Lib.hid (HBW.out.trans (hb2.mono HBW.out.size));clear hb2
   go_wp2_with fail
   refine (HPX.out _).mono ?_;rintro e w3 ⟨hb3,hcase⟩;have HB3:=Lib.hid (HB2.out.trans (hb3.mono HB2.out.size));clear hb3
   rcases hcase with ⟨j2,ns,mo2,mc2,hP,rfl,hns⟩ | ⟨cd,p,hcd,hP,rfl⟩
   ·have hrd:=HRD.out.2 j2 ns hP;have hs:=fun w' (hb:Below w3.heap.size w3 w')=>HRS.out w3.heap.size mo2 mc2 ns j2 hrd w' ((HM.out.below ((HB3.out.trans (hb.mono HB3.out.size)).mono hN)).mono (Nat.le_trans hN HB3.out.size)) (hns.below hb) hb.size;rw [hP] at HR;simp only at HR;have HSA:=Lib.hid hs;clear hs hns hP hrd;unfold zdiag
    go_wp2_with fail
    refine (HSA.out _ ((Below.refl _ w3).alloc (Nat.le_refl _) _)).mono ?_;rintro e w4 ⟨rfl,hb4⟩;have HB4:=Lib.hid (HB3.out.trans ((((Below.refl _ w3).alloc (Nat.le_refl _) _).trans (hb4.mono (by simp))).mono HB3.out.size));clear hb4
    cases hsb:sameB ms ns i j2 with
    | true =>
     rw [hsb,if_pos rfl] at HR
     go_wp2
     refine bodyPost_ret (v := .tuple #[.string ⟨T.toArray⟩,.bool true]) (by simp [results,Tryz.results8,go_sem]) rfl ?_;exact ⟨by rw [HR.out];rfl,HB4.out⟩
    | false =>
     rw [hsb,if_neg (by decide)] at HR
     go_wp2
     refine bodyPost_ret (v := .tuple #[.string ⟨#[]⟩,.bool false]) (by simp [results,Tryz.results8,go_sem]) rfl ?_;exact ⟨by rw [HR.out];rfl,HB4.out⟩
   ·rw [hP] at HR;simp only at HR;unfold zdiag;have hcd2:(cd==0)=false:=by simpa using hcd
    go_wp2
    refine bodyPost_ret (v := .tuple #[.string ⟨#[]⟩,.bool false]) (by simp [results,Tryz.results8,go_sem]) rfl ?_;exact ⟨by rw [HR.out];rfl,HB3.out.trans (((Below.refl _ w3).alloc (Nat.le_refl _) _).mono HB3.out.size)⟩
end
end Go.Proofs.YtninlbknklbofaaGreatDoor
