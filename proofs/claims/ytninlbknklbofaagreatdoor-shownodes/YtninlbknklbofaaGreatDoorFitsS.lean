/- A part of the proof: A part of the proof. -/
import Derived.Test.YtninlbknklbofaaGreatDoorTVisit
import Derived.Test.YtninlbknklbofaaGreatDoorTLeaf
import Derived.Test.YtninlbknklbofaaGreatDoorLFloat
import Derived.OrdersIn
import Derived.TacticsIn
import Derived.Test.YtninlbknklbofaaGreatDoorTAdd
import Derived.Deep.OwnRows
import Derived.Sort.CutIn
import Derived.Test.YtninlbknklbofaaGreatDoorFitS
set_option linter.unusedSimpArgs false
set_option linter.unusedVariables false
set_option maxRecDepth 100000
set_option maxHeartbeats 4000000
namespace Go.Proofs.YtninlbknklbofaaGreatDoor
section
open Go.RowKit Go.Shelf Tn
attribute [local go_sem] Oper.semAt_some
structure EachP (w:World)(bt:Nat)(at_:Int)(there:Bool)(e:Ending)(w':World):Prop where
 val:e = .returned (.func (.func 50) #[] #[.pointer (some ⟨w.heap.size+2,0,none⟩),.pointer (some ⟨w.heap.size,0,none⟩),.pointer (some ⟨w.heap.size+1,0,none⟩)])
 c0:w'.cell? ⟨w.heap.size,0,none⟩=some (.pointer (some ⟨bt,0,none⟩))
 c1:w'.cell? ⟨w.heap.size+1,0,none⟩=some (.int .i64 at_)
 c2:w'.cell? ⟨w.heap.size+2,0,none⟩=some (.bool there)
 below:Below w.heap.size w w'
theorem each_any (bt:Nat)(ao:Option Addr)(len cap:Nat)(i:Int)(w:World)(hc:w.cell? ⟨bt,0,none⟩=some (.slice ao len cap)):
  Calls Tryz.prog 29 #[.pointer (some ⟨bt,0,none⟩),.int .i64 i] w (EachP w bt i (decide (0<=i) && decide (i<(len:Int)))):=by
 obtain ⟨W,hW⟩:∃ W,(w.alloc (.cells #[.pointer (some ⟨bt,0,none⟩)] 31)).alloc (.cells #[.int .i64 i] 3)=W:=⟨_,rfl⟩;have hb:Below w.heap.size w W:=by rw [<- hW];exact ((Below.refl _ w).alloc (Nat.le_refl _) _).alloc (by simp) _
 have hcW:W.cell? ⟨bt,0,none⟩=some (.slice ao len cap):=(hb.cell (p:=⟨bt,0,none⟩) (World.block_lt_of_cell? _ _ hc)).trans hc;have hs:W.heap.size=w.heap.size+2:=by rw [<- hW];simp
 have e0:W.heap[w.heap.size]? = some (.cells #[.pointer (some ⟨bt,0,none⟩)] 31 (0,0)):=by rw [<- hW];exact blk_alloc (blk_new w _) _
 have e1:W.heap[w.heap.size+1]? = some (.cells #[.int .i64 i] 3 (0,0)):=by
  rw [<- hW];have:=blk_new (w.alloc (.cells #[.pointer (some ⟨bt,0,none⟩)] 31)) (.cells #[.int .i64 i] 3);rwa [World.size_alloc] at this
 have HW:=Lib.hid hW;have HC:=Lib.hid hcW;have HS:=Lib.hid hs;have E0:=Lib.hid e0;have E1:=Lib.hid e1;clear hW hcW hs e0 e1 hc
 go_enter Tryz.func29,Tryz.ntmps29
 go_wp2_with fail
 rw [HW.out];refine (has_any bt ao len cap i W HC.out).mono ?_;rintro e w' ⟨rfl,rfl⟩;generalize hq:(decide (0<=i) && decide (i<(len:Int)))=q;have HQ:=Lib.hid hq;clear hq
 go_wp2
 go_ret
 have e2:(W.alloc (.cells #[.bool q] 4)).heap[w.heap.size+2]? = some (.cells #[.bool q] 4 (0,0)):=by rw [<- HS.out];exact blk_new W _
 refine ⟨?_,(blk_cell (blk_alloc E0.out _) 0).trans rfl,(blk_cell (blk_alloc E1.out _) 0).trans rfl,(blk_cell e2 0).trans (by rw [HQ.out];rfl),hb.alloc hb.size _⟩;have:=HS.out;simp [this]
theorem each1_no (ms:List Nd)(full:List Nat)(l N:Nat)(B2 B0 B1:Nat)(W:World)(hc:W.cell? ⟨B2,0,none⟩=some (.bool false)):
  Iterates Tryz.prog 50 #[.pointer (some ⟨B2,0,none⟩),.pointer (some ⟨B0,0,none⟩),.pointer (some ⟨B1,0,none⟩)] l enc2 (Comes ms full) N NoNode (fun xs=>xs=[]) (fun _=>False) W:=by
 intro J Jx _ _ _ h0;have H0:=Lib.hid h0;clear h0;refine callsIn_of_wp Tryz.func50 rfl trivial ?_ rfl;simp only [Tryz.ntmps50,List.size_toArray,List.length_cons,List.length_nil,Nat.reduceAdd,Nat.reduceSub,Array.replicate_succ,Array.replicate_zero,List.push_toArray,List.append_toArray,List.nil_append,List.cons_append]
 gi_wp2
 go_end0
 exact ⟨⟨_,rfl⟩,.inl ⟨[],rfl,H0.out⟩⟩
theorem each1_yes (ms:List Nd)(i:Nat)(l N bt:Nat)(ao:Option Addr)(cap:Nat)(B2 B0 B1:Nat)(W:World)(hw:WF ms)(hf:∀ i,i<ms.length->(nd ms i).kids.length<=999000)(hi:i<ms.length)(ht:TreeAt N W bt ao cap ms)(hN:N<=W.heap.size)
  (c0:W.cell? ⟨B0,0,none⟩=some (.pointer (some ⟨bt,0,none⟩))) (c1:W.cell? ⟨B1,0,none⟩=some (.int .i64 (i:Int))) (c2:W.cell? ⟨B2,0,none⟩=some (.bool true)):
  Iterates Tryz.prog 50 #[.pointer (some ⟨B2,0,none⟩),.pointer (some ⟨B0,0,none⟩),.pointer (some ⟨B1,0,none⟩)] l enc2 (Comes ms (Pl ms i)) N NoNode (fun xs=>xs.map (·.1)=Pl ms i) (fun pre=>pre.map (·.1) <+: Pl ms i) W:=by
 intro J Jx hJ hJx hY h0;have hv:=visit_in l N bt ao cap ms (Pl ms i) J Jx hw hf (fun pre x W0 W1 h hb hg=>(hY pre x W0 W1 h hb hg).mono fun e W' he=>he.elim (fun q => .inl ⟨q.1,q.2.1,q.2.2.1⟩) (fun q => .inr ⟨q.1,q.2.1⟩)) i hi [] W ht hN h0 (List.prefix_refl _);have HV:=Lib.hid hv;clear hw hf ht hJ hJx hY h0 hv;refine callsIn_of_wp Tryz.func50 rfl trivial ?_ rfl;simp only [Tryz.ntmps50,List.size_toArray,List.length_cons,List.length_nil,Nat.reduceAdd,Nat.reduceSub,Array.replicate_succ,Array.replicate_zero,List.push_toArray,List.append_toArray,List.nil_append,List.cons_append]
 gi_wp2_with fail
 refine ⟨trivial,rfl,HV.out.mono ?_⟩;rintro e W1 (⟨rfl,xs,hxs,hj,_⟩ | ⟨rfl,xs,hxs,hx⟩)
 ·have HX:=Lib.hid hxs;have HJ:=Lib.hid hj;clear hxs hj
  gi_wp2
  go_end0
  exact ⟨⟨_,rfl⟩,.inl ⟨xs,HX.out,HJ.out⟩⟩
 ·have HX:=Lib.hid hxs;have HJ:=Lib.hid hx;clear hxs hx
  gi_wp2
  go_end0
  exact ⟨⟨_,rfl⟩,.inr ⟨xs,HX.out,HJ.out⟩⟩
end
section
open Go.RowKit
section
variable {P:Program} {n l:Nat} {Q:Exit->Act->World->Prop}
theorem oper_in {o:Oper}{a:Act}{w:World}{K:Act->World->Prop}(hd:∀ c,o.op ≠ .defer c)(h:o.wp P a w K Q):o.wpIn (Fence.wide.inRound l) n P a w K Q:=by
 refine ⟨fun _ _=>trivial, ?_⟩;rw [Fence.inRound_round,Oper.semAt_some _ _ _ hd];unfold Oper.wp at h;generalize (execOp a.eval o).run P w=r at *
 cases r with
 | ok x w' =>
  cases x <;> simp only [Oper.upon,Oper.uponIn] at h ⊢ <;>
   first
    | exact h
    | exact ⟨fun h=>(by cases h),CallsIn.inRound l (callsIn_wide.2 (h.mono fun e w'' he=>by cases e <;> exact he))⟩
    | exact ⟨fun h=>(by cases h),fun c cs _=>let ⟨v,w'',hr,hs⟩:=h c cs;⟨v,w'',hr,stepsIn_wide.2 hs⟩⟩
    | exact h.elim
 | halt x w'=>cases x <;> simp only [Oper.upon,Oper.uponIn] at h ⊢ <;> exact h
def noDefer (ops:Array Oper):Bool:=ops.all fun o=>match o.op with | .defer _=>false | _=>true
theorem noDefer_at {ops:Array Oper}(h:noDefer ops=true){i:Nat}{o:Oper}(hi:ops[i]? = some o):∀ c,o.op ≠ .defer c:=by
 intro c e;have hm:o∈ops:=Array.mem_of_getElem? hi;have:=(Array.all_eq_true_iff_forall_mem.1 h) o hm;rw [e] at this;cases this
theorem any_in {ops:Array Oper}{md:Region.Mode}(hd:noDefer ops=true)(hq:¬ LetsOut Q)(k:Nat):∀ (s:Array Bool) (a:Act) (w:World),wpAny P md ops Q k s a w->wpAnyIn (Fence.wide.inRound l) n P md ops Q k s a w:=by
 induction k with
 | zero=>intro s a w h;exact h
 | succ k ih =>
  intro s a w h;refine ⟨h.1,fun i hi=>?_⟩;have h1:=h.2 i hi;unfold wpOp at h1;unfold wpOpIn
  cases ho:ops[i]? with
  | none=>rw [ho] at h1;exact ih _ _ _ h1
  | some o =>
   rw [ho] at h1;simp only at h1 ⊢
   split
   ·rename_i hw;rw [if_pos hw] at h1;exact Oper.wpIn_mono (fun a w h=>ih _ a w h) (oper_in (noDefer_at hd ho) (h1.resolve_right fun h=>hq h.2))
   ·rename_i hw;rw [if_neg hw] at h1;exact ⟨fun _ _=>trivial,ih _ _ _ h1⟩
end
end
section
end
section
open Go.RowKit Go.Shelf Tn
attribute [local go_sem] Oper.semAt_some
theorem well_any (n:Nd)(ka:Option Addr)(kc:Nat)(w:World)(hl:n.kids.length<=999000):Calls Tryz.prog 30 #[nval n ka kc] w fun e w'=>e = .returned (.bool (Sh.well n))/\Below w.heap.size w w':=by
 obtain ⟨W,hW⟩:∃ W,w.alloc (.cells #[.string n.op,.int .i64 n.line,.int .i64 n.col,.string n.name,.int .i64 n.num,.slice ka n.kids.length kc] 30)=W:=⟨_,rfl⟩;have hbW:Below w.heap.size w W:=by rw [<- hW];exact (Below.refl _ w).alloc (Nat.le_refl _) _
 have hbox:Six W w.heap.size 30 (.string n.op) (.int .i64 n.line) (.int .i64 n.col) (.string n.name) (.int .i64 n.num) (.slice ka n.kids.length kc):=⟨by rw [<- hW];exact blk_new w _⟩;have c0:=hbox.c0;have hF:=fun W=>form_any n.op W;have hwell:Sh.well n=((Sh.formOf n.op).known && ((Sh.formOf n.op).kids == -1 || (Sh.formOf n.op).kids==(n.kids.length:Int))):=rfl;rw [hwell];unfold FormP at hF;generalize Sh.formOf n.op=F at *;unfold fval at hF;have HF:=Lib.hid hF;have HW:=Lib.hid hW;have HB:=Lib.hid hbW;have HX:=Lib.hid hbox;clear hF hW hbW hbox hwell;unfold nval
 go_enter Tryz.func30,Tryz.ntmps30
 go_upto_region 1 with fail
 rw [HW.out]
 go_wp2_with fail
 refine (HF.out _).mono ?_;rintro e w1 ⟨rfl,hb1⟩;have hx1:=HX.out.below hb1 (lt_of_heap HX.out.blk);have c5:=hx1.c5;have HB1:=Lib.hid (HB.out.trans (hb1.mono HB.out.size));clear hb1 c0 hx1;have HKL:=Lib.hid hl;have HKL:=Lib.hid hl;have hlt1:w.heap.size<w1.heap.size:=World.block_lt_of_cell? _ _ c5;clear hl;obtain ⟨lv,kd,kn⟩:=F;simp only at HF ⊢
 cases kn with
 | false =>
  go_wp2
  go_ret
  exact ⟨rfl,HB1.out.alloc HB1.out.size _⟩
 | true =>
  by_cases h1:kd = -1
  ·subst h1
   go_wp2
   go_ret
   exact ⟨rfl,HB1.out.alloc HB1.out.size _⟩
  ·have h2:(kd == -1)=false:=by simpa using h1
   clear h1
   go_wp2
   go_ret
   exact ⟨ret_bool (by simp [h2]),HB1.out.alloc HB1.out.size _⟩
def okN (n:Nd):Bool:=decide (n.name.size<=40) && Sh.well n
def fitsB (ms:List Nd)(i:Nat):Bool:=decide ((Pl ms i).length<=4000) && (Pl ms i).all fun j=>okN (nd ms j)
structure FtAt (b0:Nat)(w:World)(ms:List Nd)(l:List Nat)(W:World):Prop where
 num:W.heap[b0+1]? = some (.cells #[.int .i64 (l.length:Int)] 3 (0,0))
 res:W.heap[b0]? = some (.cells #[.bool false] 4 (0,0))
 below:Below b0 w W
 few:l.length<=4000
 good:∀ j∈l,okN (nd ms j)=true
theorem FtAt.still {b0:Nat}{w A B:World}{ms:List Nd}{l:List Nat}(h:FtAt b0 w ms l A)(hs:Still b0 A B):FtAt b0 w ms l B :=
 ⟨hs.same _ _ _ _ (fun e=>e) h.num,hs.same _ _ _ _ (fun e=>e) h.res,h.below.trans hs.below,h.few,h.good⟩
def frF (bp bt i b0:Nat)(v7 v14 v15:Value):Array Value :=
 #[.pointer (some ⟨bp,0,none⟩),.int .i64 (i:Int),undef,undef,.pointer (some ⟨b0,0,none⟩),.pointer (some ⟨b0+1,0,none⟩),undef,v7,.pointer (some ⟨bp,0,none⟩),.pointer (some ⟨bp,0,none⟩),.pointer (some ⟨bp,0,none⟩),.pointer (some ⟨bt,0,none⟩),.int .i64 (i:Int),
  .func (.func 50) #[] #[.pointer (some ⟨b0+2+2,0,none⟩),.pointer (some ⟨b0+2,0,none⟩),.pointer (some ⟨b0+2+1,0,none⟩)],v14,v15,undef,undef,undef,undef,undef,undef,undef,undef,undef,undef,undef,undef,undef,undef,undef,undef,undef]
theorem fits_any (bp bt:Nat)(ao:Option Addr)(cap:Nat)(ms:List Nd)(i:Nat)(w:World)(hw:WF ms)(hf:∀ i,i<ms.length->(nd ms i).kids.length<=999000)(hi:i<ms.length)(ht:TreeAt w.heap.size w bt ao cap ms)
  (hc:w.cell? ⟨bp,0,none⟩=some (.pointer (some ⟨bt,0,none⟩))):Calls Tryz.prog 13 #[.pointer (some ⟨bp,0,none⟩),.int .i64 (i:Int)] w fun e w'=>e = .returned (.bool (fitsB ms i))/\Below w.heap.size w w':=by
 have hEA:=fun W (hW:W.cell? ⟨bt,0,none⟩=some (.slice ao ms.length cap))=>each_any bt ao ms.length cap (i:Int) W hW;have htc:=ht.cell;obtain ⟨b0,hb0⟩:∃ b0,w.heap.size=b0:=⟨_,rfl⟩;obtain ⟨W,hW⟩:∃ W,(w.alloc (.cells #[.bool false] 4)).alloc (.cells #[.int .i64 0] 3)=W:=⟨_,rfl⟩;have hbW:Below w.heap.size w W:=by rw [<- hW];exact ((Below.refl _ w).alloc (Nat.le_refl _) _).alloc (by simp) _
 have hsW:W.heap.size=b0+2:=by rw [<- hW,<- hb0];simp
 have hr:W.heap[b0]? = some (.cells #[.bool false] 4 (0,0)):=by rw [<- hW,<- hb0];exact blk_alloc (blk_new w _) _
 have hn:W.heap[b0+1]? = some (.cells #[.int .i64 0] 3 (0,0)):=by rw [<- hW,<- hb0];have:=blk_new (w.alloc (.cells #[.bool false] 4)) (.cells #[.int .i64 0] 3);rwa [World.size_alloc] at this
 have htW:W.cell? ⟨bt,0,none⟩=some (.slice ao ms.length cap):=(hbW.cell (p:=⟨bt,0,none⟩) ht.lt).trans htc;have hcW:W.cell? ⟨bp,0,none⟩=some (.pointer (some ⟨bt,0,none⟩)):=(hbW.cell (p:=⟨bp,0,none⟩) (World.block_lt_of_cell? _ _ hc)).trans hc;have HEA:=Lib.hid (hEA W htW);have HW:=Lib.hid hW;have HB:=Lib.hid hbW;have HS:=Lib.hid hsW;have HR:=Lib.hid hr;have HN:=Lib.hid hn;have HT:=Lib.hid (ht.below hbW);have HWF:=Lib.hid hw;have HC:=Lib.hid hcW;have HF:=Lib.hid hf;rw [hb0] at HB HT ⊢;have HB0:=Lib.hid hb0;clear hEA hW hbW hsW hr hn htW hw hf ht htc hc hcW hb0;refine (callsIn_wide (n:=0)).1 ?_;refine callsIn_of_wp_marks Tryz.func13 rfl trivial ?_ rfl;simp only [Tryz.ntmps13,List.size_toArray,List.length_cons,List.length_nil,Nat.reduceAdd,Nat.reduceSub,Array.replicate_succ,Array.replicate_zero,List.push_toArray,List.append_toArray,List.nil_append,List.cons_append];refine wpIn_wide.2 ?_
 go_upto_region 2 with fail
 rw [HW.out,HB0.out];have q0:=HC.out
 go_wp2_with (go_at_call 29;refine HEA.out.mono ?_;rintro e w3 ⟨rfl,e0,e1,e2,hb3⟩)
 have hs2:=HS.out;rw [hs2] at e0 e1 e2 hb3 ⊢;have hA0:FtAt b0 w ms [] w3:=⟨(hb3.block _ (by omega)).trans HN.out,(hb3.block _ (by omega)).trans HR.out,HB.out.trans (hb3.mono (by omega)),by simp,fun p hp=>by simp at hp⟩;have HA:=Lib.hid hA0;have E0:=Lib.hid e0;have E1:=Lib.hid e1;have E2:=Lib.hid e2;have HB3:=Lib.hid hb3;have hs3:b0+2<=w3.heap.size:=by have:=hb3.size;omega
 clear hA0 e0 e1 e2 hb3 q0 hs2 HS;refine (wpIn_wide (n:=0)).1 (wp_range (gf:=50) (lb:=#[.pointer (some ⟨b0+2+2,0,none⟩),.pointer (some ⟨b0+2,0,none⟩),.pointer (some ⟨b0+2+1,0,none⟩)]) rfl (enters_of Tryz.func50 (by kernel_rfl) rfl) (encs:=enc2) (fun _=>rfl) (G:=Comes ms (Pl ms i)) (N:=b0) (M:=NoNode)
  (S:=fun xs=>xs.map (fun p:Nat × Value=>p.1)=Pl ms i) (Sp:=fun pre=>pre.map (fun p:Nat × Value=>p.1) <+: Pl ms i) ?hN ?hseq
  (fun pre W'=>FtAt b0 w ms (pre.map fun p:Nat × Value=>p.1) W')
  (fun c _ W'=>c = .ret/\fitsB ms i=false/\W'.heap[b0]? = some (.cells #[.bool false] 4 (0,0))/\Below b0 w W')
  (fun _ x a C=>∃ Bn ka kc,b0+1<Bn/\x.2=nval (nd ms x.1) ka kc/\Six C Bn 30 (.string (nd ms x.1).op) (.int .i64 (nd ms x.1).line) (.int .i64 (nd ms x.1).col) (.string (nd ms x.1).name) (.int .i64 (nd ms x.1).num) (.slice ka (nd ms x.1).kids.length kc) /\
   a={ tmps:=frF bp bt i b0 (.pointer (some ⟨Bn,0,none⟩)) (.int .i64 (x.1:Int)) x.2,defers:=[] })
  (fun _ A B h hs=>h.still hs) (fun _ _ A B h hs=>⟨h.1,h.2.1,hs.same _ _ _ _ (fun e=>e) h.2.2.1,h.2.2.2.trans hs.below⟩)
  (fun _ s x A B h hs=>⟨h.lt,h.val.elim fun ka h=>h.elim fun kc h=>⟨ka,kc,h.1,fun j hj=>(h.2.1 j hj).elim fun b q=>q.elim fun o q=>⟨b,o,q.1,Nat.lt_of_lt_of_le q.2.1 hs.size,hs.cell q.2.2⟩,h.2.2⟩,h.order⟩)
  (fun s x a C B h hs=>h.elim fun Bn h=>h.elim fun ka h=>h.elim fun kc h=>⟨Bn,ka,kc,h.1,h.2.1,⟨hs.same _ _ _ _ (fun e=>e) h.2.2.1.blk⟩,h.2.2.2⟩) HA.out ?assign ?body ?done ?stop)
 case hN=>omega
 case hseq =>
  intro l' W' hb';have q0:=(hb'.cell (World.block_lt_of_cell? _ _ E0.out)).trans E0.out;have q1:=(hb'.cell (World.block_lt_of_cell? _ _ E1.out)).trans E1.out;have q2:=(hb'.cell (World.block_lt_of_cell? _ _ E2.out)).trans E2.out;have:=hb'.size;have hyes:(decide (0<=(i:Int)) && decide ((i:Int)<(ms.length:Int)))=true:=by simp;omega
  rw [hyes] at q2;exact each1_yes ms i l' b0 bt ao cap (b0+2+2) (b0+2) (b0+2+1) W' HWF.out HF.out hi (HT.out.below ((HB3.out.mono (by omega)).trans (hb'.mono (by omega)))) (by omega) q0 q1 q2
 case assign =>
  rintro l' pre ⟨k,v⟩ W0' W' hm0 hst hg;have hm:=hm0.still hst;obtain ⟨ka,kc,hv,_⟩:=hg.val;have hv:v=nval (nd ms k) ka kc:=hv;subst hv;have hx:=lt_of_heap hm.num;clear hm hm0 hst hg;simp only [enc2,nval]
  gi_wp2
  exact ⟨KeepsOthers.alloc _ _,Still.alloc _ _ _ (by omega),W'.heap.size,hx,ka,kc,⟨rfl,rfl⟩,⟨blk_new _ _⟩,rfl⟩
 case done =>
  rintro D xs W5 hD hxs hm hdef;have hfit:fitsB ms i=true:=by
   rw [hxs] at hm;unfold fitsB;rw [Bool.and_eq_true,decide_eq_true_iff,List.all_eq_true];exact ⟨hm.few,hm.good⟩
  have hpos:0<(xs.map fun p:Nat × Value=>p.1).length:=by rw [hxs,Pl_eq HWF.out hi];simp
  generalize (xs.map fun p:Nat × Value=>p.1)=nums at *;have c1:W5.cell? ⟨b0+1,0,none⟩=some (.int .i64 (nums.length:Int)):=(blk_cell hm.num 0).trans rfl;have c2:W5.cell? ⟨b0,0,none⟩=some (.bool false):=(blk_cell hm.res 0).trans rfl;have c3:=blk_frozen hm.res 0;have hp2:(0:Int)<(nums.length:Int):=by omega
  have HR5:=Lib.hid hm.res;have HBW:=Lib.hid hm.below;have HDF:=Lib.hid hdef;have HFT:=Lib.hid hfit;have hdd:decide (0<nums.length)=true:=decide_eq_true hpos;have HDD:=Lib.hid hdd;clear hm hdef hxs hfit hpos hdd;simp only [frF]
  go_wp2
  rw [HDD.out];have hD2:D≠b0:=by omega
  have hdf:=(KeepsOthers.setCell W5 ⟨b0,0,none⟩ (.bool true)).same D _ HDF.out rfl;refine ⟨by simp,.inl ⟨_,_,rfl,run_takeDeferred hdf, ?_⟩⟩;have hq:((W5.setCell ⟨b0,0,none⟩ (.bool true)).putObj D (.deferred none)).cell? ⟨b0,0,none⟩=some (.bool true) :=
   (blk_cell ((World.putObj_heap_other (by omega)).trans (blk_set HR5.out 0 (.bool true))) 0).trans rfl
  refine ⟨.bool true,by simp [results,Tryz.f13,go_sem,hq],by rw [HFT.out], ?_⟩;exact ((HBW.out.setCell (p:=⟨b0,0,none⟩) (Nat.le_refl _) _).trans (Still.putObj (N:=b0) _ (by omega) hdf rfl).below)
 case stop =>
  rintro D c pre W5 hD _ ⟨rfl,hno,hres,hbw⟩ hdef;have HDF:=Lib.hid hdef;have HR5:=Lib.hid hres;have HNO:=Lib.hid hno;have HBW:=Lib.hid hbw;clear hdef hres hno hbw
  gi_wp2_with fail
  have hD2:D≠b0:=by omega
  refine ⟨by simp,.inl ⟨_,_,rfl,run_takeDeferred HDF.out, ?_⟩⟩;have hq:(W5.putObj D (.deferred none)).cell? ⟨b0,0,none⟩=some (.bool false) :=
   (blk_cell ((World.putObj_heap_other (by omega)).trans HR5.out) 0).trans rfl
  refine ⟨.bool false,by simp [results,Tryz.f13,go_sem,hq],by rw [HNO.out], ?_⟩;exact (HBW.out.trans (Still.putObj (N:=b0) _ (by omega) HDF.out rfl).below)
 case body =>
  rintro l' pre ⟨k,v⟩ a₁ W0' W' hm0 hst hg ⟨Bn,ka,kc,hBn,hv,hs6,rfl⟩;have hm:=hm0.still hst;have hkm:k<ms.length:=hg.lt;have hord:=hg.order;have hv:v=nval (nd ms k) ka kc:=hv;subst hv;have hmap:∀ v:Value,((pre++[(k,v)]).map fun p:Nat × Value=>p.1)=(pre.map fun p:Nat × Value=>p.1)++[k]:=fun v=>by simp
  have HMAP:=Lib.hid hmap;clear hmap hm0 hst hg;generalize (pre.map fun p:Nat × Value=>p.1)=nums at *;have hkl:=HF.out k hkm;have hkin:k∈Pl ms i:=hord.subset (by simp);have hnl:nums.length+1<=(Pl ms i).length:=by have:=hord.length_le;simpa using this
  have hwl:=well_any (nd ms k) ka kc;have hno:(4000<nums.length+1\/okN (nd ms k)=false)->fitsB ms i=false:=by
   intro h;unfold fitsB
   rcases h with h | h
   ·rw [decide_eq_false (by omega)];rfl
   ·rw [Bool.and_eq_false_iff];right;rw [List.all_eq_false];exact ⟨k,hkin,by rw [h];simp⟩
  have hok:okN (nd ms k)=(decide ((nd ms k).name.size<=40) && Sh.well (nd ms k)):=rfl;have hff:fitsB ms i=fitsB ms i:=rfl;have HNO:=Lib.hid hno;have HOK:=Lib.hid hok;have HWL:=Lib.hid hwl;have HM:=Lib.hid hm;have H6:=Lib.hid hs6;clear hno hok hwl hord hff;have c1:W'.cell? ⟨b0+1,0,none⟩=some (.int .i64 (nums.length:Int)):=(blk_cell hm.num 0).trans rfl;have c2:W'.cell? ⟨b0,0,none⟩=some (.bool false):=(blk_cell hm.res 0).trans rfl;have c3:=blk_frozen hm.num 0;have c4:=blk_frozen hm.res 0;have hfew:=hm.few;have d0:=hs6.c0;have d1:=hs6.c1;have d2:=hs6.c2;have d3:=hs6.c3;have d4:=hs6.c4;have d5:=hs6.c5;have hlt:=lt_of_heap hm.num;clear hm hs6;generalize hnk:nd ms k=n at *;have HND:=Lib.hid hnk;clear hnk;simp only [frF];have HR:=Lib.hid HM.out.res;have stop:∀ W1:World,KeepsOthers W' W1->Below b0 W' W1->W1.heap[b0]? = some (.cells #[.bool false] 4 (0,0))->fitsB ms i=false ->
    KeepsOthers W' (W1.setCell ⟨b0,0,none⟩ (.bool false))/\(fitsB ms i=false/\(W1.setCell ⟨b0,0,none⟩ (.bool false)).heap[b0]? = some (.cells #[.bool false] 4 (0,0))/\Below b0 w (W1.setCell ⟨b0,0,none⟩ (.bool false))):=fun W1 hk hb hr hf =>
   ⟨hk.trans (KeepsOthers.setCell _ _ _),hf,(blk_set hr 0 (.bool false)).trans rfl,(HM.out.below.trans hb).setCell (p:=⟨b0,0,none⟩) (Nat.le_refl _) _⟩
  have STOP:=Lib.hid stop;clear stop;have keep1:∀ u:Int,KeepsOthers W' (W'.setCell ⟨b0+1,0,none⟩ (.int .i64 u))/\Below b0 W' (W'.setCell ⟨b0+1,0,none⟩ (.int .i64 u))/\(W'.setCell ⟨b0+1,0,none⟩ (.int .i64 u)).heap[b0]? = some (.cells #[.bool false] 4 (0,0)):=fun u =>
   ⟨KeepsOthers.setCell _ _ _,(Below.refl _ _).setCell (p:=⟨b0+1,0,none⟩) (by simp) _,(blk_other (by omega) 0 _).trans HR.out⟩
  have K1:=Lib.hid keep1;clear keep1
  by_cases h1:4000<=nums.length
  ·have hn4:nums.length=4000:=by omega
   have HNN:=Lib.hid hn4
   gi_wp2_with fail
   refine ⟨trivial, ?_⟩
   gi_wp2
   have q:=STOP.out _ (K1.out 4001).1 (K1.out 4001).2.1 (K1.out 4001).2.2 (HNO.out (.inl (by omega)));exact ⟨q.1,rfl,q.2⟩
  ·by_cases h2:40<n.name.size
   ·gi_wp2_with fail
    refine ⟨trivial, ?_⟩
    gi_wp2
    have q:=STOP.out _ (K1.out ((nums.length:Int)+1)).1 (K1.out ((nums.length:Int)+1)).2.1 (K1.out ((nums.length:Int)+1)).2.2 (HNO.out (.inr (by rw [HOK.out,decide_eq_false (by omega)];rfl)));exact ⟨q.1,rfl,q.2⟩
   ·obtain ⟨W2,hW2⟩:∃ W2,W'.setCell ⟨b0+1,0,none⟩ (.int .i64 ((nums.length:Int)+1))=W2:=⟨_,rfl⟩;have k2:=K1.out ((nums.length:Int)+1);have hn2:(W'.setCell ⟨b0+1,0,none⟩ (.int .i64 ((nums.length:Int)+1))).heap[b0+1]? = some (.cells #[.int .i64 ((nums.length:Int)+1)] 3 (0,0)):=(blk_set HM.out.num 0 _).trans rfl;have hkp:Kept b0 NoNode W' (W'.setCell ⟨b0+1,0,none⟩ (.int .i64 ((nums.length:Int)+1))):=⟨(Below.refl _ _).setCell (p:=⟨b0+1,0,none⟩) (by simp) _,fun b c t r hm hb=>by
     rcases Nat.lt_or_ge b (b0+1) with h | h
     ·rw [blk_other (by omega)];exact hb
     ·by_cases he:b=b0+1
      ·subst he;rw [HM.out.num] at hb;injection hb with hb;injection hb with _ hb
       subst hb;exact absurd (show (3:Nat)≠30 from by decide) hm
      ·rw [blk_other (by omega)];exact hb⟩
    have h62:=H6.out.other (b':=b0+1) (by omega) 0 (.int .i64 ((nums.length:Int)+1));have HW2:=Lib.hid hW2;rw [hW2] at k2 hn2 hkp h62;have e0:=h62.c0;have e1:=h62.c1;have e2:=h62.c2;have e3:=h62.c3;have e4:=h62.c4;have e5:=h62.c5;have f0:W2.cell? ⟨b0+1,0,none⟩=some (.int .i64 ((nums.length:Int)+1)):=(blk_cell hn2 0).trans rfl;have HWQ:=Lib.hid (HWL.out W2 hkl);have HK2:=Lib.hid k2;have HN2:=Lib.hid hn2;have HKP:=Lib.hid hkp;clear hW2 k2 hn2 hkp h62 HWL
    gi_upto_region 5 with fail
    rw [HW2.out];clear d0 d1 d2 d3 d4 d5 c1 c2 c3 c4;unfold nval at HWQ
    cases hwv:Sh.well n with
    | false =>
     rw [hwv] at HWQ;have HWV:=Lib.hid hwv;clear hwv
     gi_wp2_with fail
     refine ⟨trivial,rfl,(callsIn_wide.2 HWQ.out).mono ?_⟩;rintro e W3 ⟨rfl,hb3⟩;have c4:=blk_frozen ((hb3.block _ (lt_of_heap HK2.out.2.2)).trans HK2.out.2.2) 0;have c2:W3.cell? ⟨b0,0,none⟩=some (.bool false):=(blk_cell ((hb3.block _ (lt_of_heap HK2.out.2.2)).trans HK2.out.2.2) 0).trans rfl;have HB3':=Lib.hid hb3;have hsz2:b0<=W2.heap.size:=Nat.le_of_lt (lt_of_heap HK2.out.2.2);clear hb3
     gi_wp2
     have q:=STOP.out _ (HK2.out.1.trans (others_of_below HB3'.out)) (HK2.out.2.1.trans (HB3'.out.mono hsz2)) ((HB3'.out.block _ (lt_of_heap HK2.out.2.2)).trans HK2.out.2.2) (HNO.out (.inr (by rw [HOK.out,HWV.out,Bool.and_false])));exact ⟨q.1,rfl,q.2⟩
    | true =>
     rw [hwv] at HWQ;have HWV:=Lib.hid hwv;clear hwv
     gi_wp2_with fail
     refine ⟨trivial,rfl,(callsIn_wide.2 HWQ.out).mono ?_⟩;rintro e W3 ⟨rfl,hb3⟩;have hsz2:b0<=W2.heap.size:=Nat.le_of_lt (lt_of_heap HK2.out.2.2);have HB3':=Lib.hid hb3;clear hb3
     gi_wp2
     refine ⟨HK2.out.1.trans (others_of_below HB3'.out),HKP.out.trans ((Still.of_below HB3'.out hsz2).kept NoNode), ?_⟩
     show FtAt b0 w ms ((pre++[(k,nval n ka kc)]).map fun p:Nat × Value=>p.1) W3
     rw [HMAP.out];exact ⟨by rw [List.length_append];exact (HB3'.out.block _ (lt_of_heap HN2.out)).trans HN2.out,(HB3'.out.block _ (lt_of_heap HK2.out.2.2)).trans HK2.out.2.2,HM.out.below.trans (HK2.out.2.1.trans (HB3'.out.mono hsz2)),by rw [List.length_append];simp;omega,fun j hj=>by
      rcases List.mem_append.1 hj with hj | hj
      ·exact HM.out.good j hj
      ·rw [List.mem_singleton.1 hj,HND.out,HOK.out,HWV.out,decide_eq_true (by omega)];rfl⟩
end
end Go.Proofs.YtninlbknklbofaaGreatDoor
