/- A part of the proof: A part of the proof. -/
import Derived.Test.YtninlbknklbofaaGreatDoorRx
import Derived.Test.YtninlbknklbofaaGreatDoorFin
import Derived.Test.YtninlbknklbofaaGreatDoorRp
set_option linter.unusedSimpArgs false
set_option linter.unusedVariables false
set_option maxRecDepth 100000
set_option maxHeartbeats 4000000
namespace Go.Proofs.YtninlbknklbofaaGreatDoor
section
open Go.RowKit Tn
theorem rt0 (N:Nat)(mo:Option Addr)(mc:Nat)(ms:List Nd)(g:Nd->Lx.B)(e:Nd->Bool)(i:Nat)(line col num:Int)(name:ByteArray)(kids:List Int)(hnd:nd ms i=⟨⟨#[115,101,113]⟩,line,col,name,num,kids⟩)(hi:i<ms.length)(hP:KidsC N mo mc ms g ⟨⟨#[115,101,113]⟩,line,col,name,num,kids⟩)(hk:kids.length=2)
  (hO:∀ q:Nat,kid kids 0=(q:Int)->∀ w,NodesAt N w mo ms->N<=w.heap.size->Calls Tryz.prog 38 #[.slice mo ms.length mc,.int .i64 (q:Int)] w (OpP (e (nd ms q)) w))
  (hl:(Rt.nodeP ms g e ⟨#[115,101,113]⟩ name num kids).length<=1000000000):
  TextC N mo mc ms (Rt.nodeP ms g e ⟨#[115,101,113]⟩ name num kids) i:=by
 intro w hm hN;have hm2:=hm;obtain ⟨b,o,ka,kc,rfl,hn⟩:=hm i hi;rw [hnd] at hn;have H0:=Lib.hid (Tb.start (kc:=kc) hm2 hn.kids hN);have c0:=hn.c0;have c1:=hn.c1;have c2:=hn.c2;have c3:=hn.c3;have c4:=hn.c4;have c5:=hn.c5;simp only at c0 c1 c2 c3 c4 c5;obtain ⟨W,hW⟩:∃ W,w.alloc (.cells #[.string ⟨#[115,101,113]⟩,.int .i64 line,.int .i64 col,.string name,.int .i64 num,.slice ka kids.length kc] 30)=W:=⟨_,rfl⟩;simp only at H0;rw [hW] at H0;have HW:=Lib.hid hW;obtain ⟨q,hq,hql,hop,hT⟩:=hP 0 (by simp only;omega);simp only at hq;have hO1:=hO q hq;obtain ⟨G,hG⟩:∃ G,g (nd ms q)=G:=⟨_,rfl⟩;obtain ⟨E,hE⟩:∃ E,e (nd ms q)=E:=⟨_,rfl⟩;have hsemi:Rt.semi ms g e (kid kids 0)=if E=true then Rt.bk G else Rt.part ms g (kid kids 0) 1:=by
  unfold Rt.semi Rt.part;rw [hq,Int.toNat_natCast,hG,hE]
  cases E
  ·simp
  ·simp
 have hpl:(Rt.part ms g (kid kids 0) 1).length<=G.length+2/\G.length<=(Rt.part ms g (kid kids 0) 1).length:=by
  unfold Rt.part Rt.bk;rw [hq,Int.toNat_natCast,hG]
  split
  ·simp only [List.length_cons,List.length_append,List.length_nil];omega
  ·omega
 rw [Rt.r0,hsemi] at hl ⊢;rw [hG] at hT;rw [hE] at hO1;have hbk:(Rt.bk G).length=G.length+2:=by simp [Rt.bk]
 have hfl:G.length<=1000000000/\(Rt.part ms g (kid kids 0) 1).length<=1000000000/\(Rt.part ms g (kid kids 1) 0).length<=1000000000:=by
  simp only [List.length_append] at hl
  split at hl <;> omega
 have HP0:=fun (w':World) (h:Tb N (some ⟨b,o,none⟩) ms ⟨⟨#[115,101,113]⟩,line,col,name,num,kids⟩ ka kc w w')=>Tb.part hP 0 0 rfl (by simp only;omega) 1 hfl.2.1 h;have HP1:=fun (w':World) (h:Tb N (some ⟨b,o,none⟩) ms ⟨⟨#[115,101,113]⟩,line,col,name,num,kids⟩ ka kc w w')=>Tb.part hP 1 1 rfl (by simp only;omega) 0 hfl.2.2 h;obtain ⟨P0,e0⟩:∃ P,Rt.part ms g (kid kids 0) 1=P:=⟨_,rfl⟩;obtain ⟨P1,e1⟩:∃ P,Rt.part ms g (kid kids 1) 0=P:=⟨_,rfl⟩;simp only at HP0 HP1;rw [e0] at HP0 hfl hl ⊢;rw [e1] at HP1 hfl hl ⊢;obtain ⟨R,hR⟩:∃ R,(if E=true then Rt.bk G else P0)=R:=⟨_,rfl⟩;rw [hR] at hl ⊢;have HR:=Lib.hid hR;have hrl:R.length<=1000000002:=by rw [<- hR];split <;> omega
 simp only [nval] at *;have HL:∀ w',Hid (Calls Tryz.prog 36 #[.string ⟨#[115,101,113]⟩] w' (LvP 0 w')):=fun w'=>Lib.hid (by have h:=level_any ⟨#[115,101,113]⟩ (by simp only [opList,List.mem_cons,true_or]) w';rwa [show (Sh.formOf ⟨#[115,101,113]⟩).level=0 from by kernel_rfl] at h);obtain ⟨b2,o2,rfl,hb2,kk⟩:=hn.kids 0 (by simp only;omega);have HKA:=Lib.hid (show ∀ w',Tb N (some ⟨b,o,none⟩) ms ⟨⟨#[115,101,113]⟩,line,col,name,num,kids⟩ (some ⟨b2,o2,none⟩) kc w w'->w'.cell? ⟨b2,o2,none⟩=some (.int .i64 (q:Int)) from fun w' h=>by
  obtain ⟨_,_,he,_,hc⟩:=h.ints 0 (by simp only;omega)
  injection he with he;injection he with e1 e2
  subst e1 e2;simp only at hc;rw [hq] at hc;exact hc)
 have HQ0:=Lib.hid HP0;have HQ1:=Lib.hid HP1;have HO:=Lib.hid hO1;have HT:=Lib.hid hT;have HFL:=Lib.hid hfl;have hk2:(0:Int)<(kids.length:Int):=by omega
 have b0:P0.length<=1000000000:=hfl.2.1;have b1:P1.length<=1000000000:=hfl.2.2;have b3:G.length<=1000000000:=hfl.1;clear HP0 HP1 e0 e1 hn hm hm2 hP hW hnd hl hT hO1 hO hG hE hR hsemi hpl hop hq hfl hk hbk kk
 go_enter Tryz.func20,Tryz.ntmps20
 go_upto_region 2 with fail
 rw [HW.out];clear c0 c1 c2 c3 c4 c5;have s0:=H0.out.six;have d0:=s0.c0;have d1:=s0.c1;have d2:=s0.c2;have d3:=s0.c3;have d4:=s0.c4;have d5:=s0.c5;simp only at d0 d1 d2 d3 d4 d5;clear s0
 go_wp2_with fail
 refine (HL _).out.mono ?_;rintro e w1 ⟨rfl,hb⟩;have H1:=Lib.hid (H0.out.step hb);clear hb d0 d1 d2 d3 d4 d5 H0;have s0:=H1.out.six;have d0:=s0.c0;have d1:=s0.c1;have d2:=s0.c2;have d3:=s0.c3;have d4:=s0.c4;have d5:=s0.c5;simp only at d0 d1 d2 d3 d4 d5;clear s0
 go_wp2_with fail
 refine (HQ0.out _ H1.out).mono ?_;rintro e w2 ⟨rfl,hb⟩;have H2:=Lib.hid (H1.out.step hb);clear hb d0 d1 d2 d3 d4 d5 H1;have s0:=H2.out.six;have d0:=s0.c0;have d1:=s0.c1;have d2:=s0.c2;have d3:=s0.c3;have d4:=s0.c4;have d5:=s0.c5;simp only at d0 d1 d2 d3 d4 d5;have kk:=HKA.out _ H2.out;clear s0
 go_wp2_with fail
 refine (HO.out _ H2.out.nodes H2.out.here).mono ?_;rintro e w3 ⟨rfl,hb⟩;have H3:=Lib.hid (H2.out.step hb);clear hb d0 d1 d2 d3 d4 d5 H2 kk;have s0:=H3.out.six;have d0:=s0.c0;have d1:=s0.c1;have d2:=s0.c2;have d3:=s0.c3;have d4:=s0.c4;have d5:=s0.c5;simp only at d0 d1 d2 d3 d4 d5;have kk:=HKA.out _ H3.out;clear s0
 cases E with
 | false =>
  have g0:¬ 9223372036854775807<P0.length+2:=by omega
  have g1:¬ 9223372036854775807<P0.length+2+P1.length:=by omega
  go_wp2_with fail
  refine (HQ1.out _ H3.out).mono ?_;rintro e w4 ⟨rfl,hb⟩;have HX:=Lib.hid (H3.out.step hb);clear hb d0 d1 d2 d3 d4 d5 kk
  go_wp2
  go_ret
  refine ⟨congrArg (fun t=>Ending.returned (.string t)) ?_,HX.out.below⟩;rw [<- HR.out];apply ByteArray.ext
  simp
 | true =>
  have l0:¬ 9223372036854775807<1+G.length:=by omega
  have l1:¬ 9223372036854775807<1+G.length+1:=by omega
  have g0:¬ 9223372036854775807<1+G.length+1+2:=by omega
  have g1:¬ 9223372036854775807<1+G.length+1+2+P1.length:=by omega
  go_wp2_with fail
  refine (HT.out _ H3.out.nodes H3.out.here).mono ?_;rintro e w4 ⟨rfl,hb⟩;have H4:=Lib.hid (H3.out.step hb);clear hb d0 d1 d2 d3 d4 d5 H3 kk;have s0:=H4.out.six;have d0:=s0.c0;have d1:=s0.c1;have d2:=s0.c2;have d3:=s0.c3;have d4:=s0.c4;have d5:=s0.c5;simp only at d0 d1 d2 d3 d4 d5;clear s0
  go_wp2_with fail
  refine (HQ1.out _ H4.out).mono ?_;rintro e w5 ⟨rfl,hb⟩;have HX:=Lib.hid (H4.out.step hb);clear hb d0 d1 d2 d3 d4 d5
  go_wp2
  go_ret
  refine ⟨congrArg (fun t=>Ending.returned (.string t)) ?_,HX.out.below⟩;rw [<- HR.out];apply ByteArray.ext;simp [Rt.bk]
end
section
open Go.RowKit Tn
theorem op_in {n:Nd}(h:Sh.well n=true):n.op∈opList:=by
 by_cases hn:n.op∈opList
 ·exact hn
 ·unfold Sh.well at h;rw [form_no hn] at h;simp at h
theorem rtext_any (N:Nat)(mo:Option Addr)(mc:Nat)(ms:List Nd)(hw:WF ms)(hnum:∀ j,j<ms.length -> -9223372036854775807<=(nd ms j).num)(hlen:∀ j,j<ms.length->Fit ms j->∀ u,(Rt.node ms u (nd ms j)).length<=1000000000)(i:Nat):
  i<ms.length->Fit ms i->∀ u,i<u->TextC N mo mc ms (Rt.node ms u (nd ms i)) i:=by
 induction i using Nat.strongRecOn with
 | _ i ih =>
  intro hi hf u hu;obtain ⟨u,rfl⟩:∃ v,u=v+1:=⟨u-1,by omega⟩;have hself:=hf.self hw hi;have hl:=hlen i hi hf (u+1);have hlo:=hnum i hi;have hP:KidsC N mo mc ms (Rt.node ms u) (nd ms i):=fun j hj=>by
   have a:=kid_lt hw hi (kid_mem hj);have hfk:=hf.kid hw hi (kid_mem hj);exact ⟨(kid (nd ms i).kids j).toNat,a.2.symm,by omega,op_in (hfk.self hw (by omega)).well,ih _ a.1 (by omega) hfk u (by omega)⟩
  have hO:0<(nd ms i).kids.length->∀ q:Nat,kid (nd ms i).kids 0=(q:Int)->∀ w,NodesAt N w mo ms->N<=w.heap.size->Calls Tryz.prog 38 #[.slice mo ms.length mc,.int .i64 (q:Int)] w (OpP (Sh.ends ms (u+1) (nd ms q)) w):=fun hj q hq w hm hN=>by
   have a:=kid_lt hw hi (kid_mem hj);have hfk:=hf.kid hw hi (kid_mem hj);rw [hq,Int.toNat_natCast] at a hfk;exact ropen_any N mo mc ms hw q (by omega) hfk (u+1) (by omega) w hm hN
  rw [Rt.node] at hl ⊢;unfold Rt.nodeF at hl ⊢;have hop:=op_in hself.well;clear ih hf;generalize hnd:nd ms i=n at hself hl hlo hP hO hop ⊢;obtain ⟨op,line,col,name,num,kids⟩:=n;simp only at hl hlo hO hop ⊢;have hwell:=hself.well;have hfew:=hself.few;have hhi:=hself.hi;simp only at hfew hhi;clear hself;simp only [opList,List.mem_cons,List.not_mem_nil,or_false] at hop
  rcases hop with rfl | rfl | rfl | rfl | rfl | rfl | rfl | rfl | rfl | rfl | rfl | rfl | rfl | rfl | rfl | rfl | rfl | rfl | rfl | rfl | rfl | rfl | rfl | rfl | rfl | rfl | rfl | rfl
  ·exact rt0 N mo mc ms _ _ i line col num name kids hnd hi hP (by have:=well_kids (a:=0) (b:=2) hwell (by kernel_rfl) (by decide);simp only at this;omega) (hO (by have:=well_kids (a:=0) (b:=2) hwell (by kernel_rfl) (by decide);simp only at this;omega)) hl
  ·exact rt1 N mo mc ms _ _ i line col num name kids hnd hi hP (by have:=well_kids (a:=1) (b:=3) hwell (by kernel_rfl) (by decide);simp only at this;omega) hl
  ·exact rt2 N mo mc ms _ _ i line col num name kids hnd hi hP (by have:=well_kids (a:=1) (b:=2) hwell (by kernel_rfl) (by decide);simp only at this;omega) hl
  ·exact rt3 N mo mc ms _ _ i line col num name kids hnd hi hP (by have:=well_kids (a:=1) (b:=2) hwell (by kernel_rfl) (by decide);simp only at this;omega) hl
  ·exact rt4 N mo mc ms _ _ i line col num name kids hnd hi hP (by have:=well_kids (a:=1) (b:=1) hwell (by kernel_rfl) (by decide);simp only at this;omega) hl
  ·exact rt5 N mo mc ms _ _ i line col num name kids hnd hi hP (by have:=well_kids (a:=1) (b:=1) hwell (by kernel_rfl) (by decide);simp only at this;omega) hl
  ·exact rt6 N mo mc ms _ _ i line col num name kids hnd hi hP hl
  ·exact rt7 N mo mc ms _ _ i line col num name kids hnd hi hP (by have:=well_kids (a:=2) (b:=2) hwell (by kernel_rfl) (by decide);simp only at this;omega) hl
  ·exact rt8 N mo mc ms _ _ i line col num name kids hnd hi hP (by have:=well_kids (a:=3) (b:=2) hwell (by kernel_rfl) (by decide);simp only at this;omega) hl
  ·exact rt9 N mo mc ms _ _ i line col num name kids hnd hi hP (by have:=well_kids (a:=4) (b:=2) hwell (by kernel_rfl) (by decide);simp only at this;omega) hl
  ·exact rt10 N mo mc ms _ _ i line col num name kids hnd hi hP (by have:=well_kids (a:=4) (b:=2) hwell (by kernel_rfl) (by decide);simp only at this;omega) hl
  ·exact rt11 N mo mc ms _ _ i line col num name kids hnd hi hP (by have:=well_kids (a:=5) (b:=2) hwell (by kernel_rfl) (by decide);simp only at this;omega) hl
  ·exact rt12 N mo mc ms _ _ i line col num name kids hnd hi hP (by have:=well_kids (a:=5) (b:=2) hwell (by kernel_rfl) (by decide);simp only at this;omega) hl
  ·exact rt13 N mo mc ms _ _ i line col num name kids hnd hi hP (by have:=well_kids (a:=6) (b:=2) hwell (by kernel_rfl) (by decide);simp only at this;omega) hl
  ·exact rt14 N mo mc ms _ _ i line col num name kids hnd hi hP (by omega) hl
  ·exact rt15 N mo mc ms _ _ i line col num name kids hnd hi hP (by have:=well_kids (a:=7) (b:=1) hwell (by kernel_rfl) (by decide);simp only at this;omega) hl
  ·exact rt16 N mo mc ms _ _ i line col num name kids hnd hi hP (by have:=well_kids (a:=7) (b:=1) hwell (by kernel_rfl) (by decide);simp only at this;omega) hl
  ·exact rt17 N mo mc ms _ _ i line col num name kids hnd hi hP (by have:=well_kids (a:=7) (b:=1) hwell (by kernel_rfl) (by decide);simp only at this;omega) hl
  ·exact rt18 N mo mc ms _ _ i line col num name kids hnd hi hP (by have:=well_kids (a:=7) (b:=1) hwell (by kernel_rfl) (by decide);simp only at this;omega) hl
  ·exact rt19 N mo mc ms _ _ i line col num name kids hnd hi hP (by have:=well_kids (a:=7) (b:=1) hwell (by kernel_rfl) (by decide);simp only at this;omega) hl
  ·exact rt20 N mo mc ms _ _ i line col num name kids hnd hi hP hl
  ·exact rt21 N mo mc ms _ _ i line col num name kids hnd hi hP
  ·exact rt22 N mo mc ms _ _ i line col num name kids hnd hi hP
  ·exact rt23 N mo mc ms _ _ i line col num name kids hnd hi hP hl
  ·exact rt24 N mo mc ms _ _ i line col num name kids hnd hi hP (by have:=well_kids (a:=7) (b:=0) hwell (by kernel_rfl) (by decide);simp only at this;omega)
  ·exact rt25 N mo mc ms _ _ i line col num name kids hnd hi hP ⟨hlo,hhi⟩
  ·exact rt26 N mo mc ms _ _ i line col num name kids hnd hi hP hl
  ·exact rt27 N mo mc ms _ _ i line col num name kids hnd hi hP (by omega) hl
end
end Go.Proofs.YtninlbknklbofaaGreatDoor
namespace Go.Proofs.YtninlbknklbofaaGreatDoor.Ex
open Lx (Tok Pos B)
open Tn (Nd fits WF)
section
variable (ts:List Tok)
def goes (s:S):Bool:=is ts s [59] && begins (tk ts (s.p+1))
def tailR (item:Part):Nat->Nat->S->Res Nat
 | 0,_,_ => .out
 | n+1,i,s=>if goes ts s=true then ((item s.skip).bind (tailR item n)).bind fun b s1=>add ts [115,101,113] (at_ ts s) [] [i,b] s1 else .ok i s
def allR (n:Nat)(item:Part)(s:S):Res Nat:=(item s).bind (tailR ts item n)
end
theorem Res.bind_assoc {α β γ:Type}(r:Res α)(f:α->S->Res β)(g:β->S->Res γ):(r.bind f).bind g=r.bind fun a s=>(f a s).bind g:=by cases r <;> rfl
theorem Res.bind_congr {α β:Type}{r:Res α}{f g:α->S->Res β}(h:∀ a s,f a s=g a s):r.bind f=r.bind g:=by cases r <;> simp [Res.bind,h]
theorem getD_app_lt {α:Type}(l:List α)(x d:α){k:Nat}(h:k<l.length):(l++[x]).getD k d=l.getD k d:=by
 simp [List.getD_eq_getElem?_getD,List.getElem?_append_left h]
theorem getD_app_last {α:Type}(l:List α)(x d:α):(l++[x]).getD l.length d=x:=by
 simp [List.getD_eq_getElem?_getD]
theorem seqs_app (ts:List Tok)(is_:List Nat)(ps:List Pos)(i:Nat)(p:Pos):∀ (k rest:Nat) (s:S),k<=ps.length->k<=is_.length->seqs ts (is_++[i]) (ps++[p]) k rest s=seqs ts is_ ps k rest s
 | 0,_,_,_,_=>rfl
 | k+1,rest,s,h1,h2=>by
  rw [seqs,seqs,getD_app_lt _ _ _ (by omega),getD_app_lt _ _ _ (by omega)];exact Res.bind_congr fun a s1=>seqs_app ts is_ ps i p k a s1 (by omega) (by omega)
theorem items_tail (ts:List Tok)(item:Part):∀ (n:Nat) (is_:List Nat) (ps:List Pos) (s:S),is_.length=ps.length+1 ->
  ((itemsLoop ts item n is_ ps s).bind fun x s2=>seqs ts x.1 x.2 x.2.length (x.1.getD (x.1.length-1) 0) s2)=(tailR ts item n (is_.getD ps.length 0) s).bind fun b s2=>seqs ts is_ ps ps.length b s2
 | 0,_,_,_,_=>rfl
 | n+1,is_,ps,s,h=>by
  rw [itemsLoop,tailR]
  show Res.bind (if goes ts s=true then _ else _) _=_
  by_cases hg:goes ts s=true
  ·rw [if_pos hg,if_pos hg,Res.bind_assoc,Res.bind_assoc,Res.bind_assoc];refine Res.bind_congr fun i s1=>?_;rw [items_tail ts item n (is_++[i]) (ps++[at_ ts s]) s1 (by simp [h])];have e:(is_++[i]).getD (ps++[at_ ts s]).length 0=i:=by
    rw [show (ps++[at_ ts s]).length=is_.length by simp [h]];exact getD_app_last _ _ _
   rw [e];refine Res.bind_congr fun b s2=>?_;rw [show (ps++[at_ ts s]).length=ps.length+1 by simp,seqs,getD_app_last,getD_app_lt _ _ _ (by omega)];exact Res.bind_congr fun a s3=>seqs_app ts is_ ps i _ ps.length a s3 (Nat.le_refl _) (by omega)
  ·rw [if_neg hg,if_neg hg]
   show seqs ts is_ ps ps.length (is_.getD (is_.length-1) 0) s=seqs ts is_ ps ps.length (is_.getD ps.length 0) s
   rw [show is_.length-1=ps.length by omega]
theorem allF_eq (ts:List Tok)(n:Nat)(item:Part)(s:S):allF ts n item s=allR ts n item s:=by
 unfold allF allR;refine Res.bind_congr fun i s1=>?_;rw [items_tail ts item n [i] [] s1 rfl]
 show (tailR ts item n i s1).bind (fun b s2=>Res.ok b s2)=_
 cases tailR ts item n i s1 <;> rfl
end Go.Proofs.YtninlbknklbofaaGreatDoor.Ex
namespace Go.Proofs.YtninlbknklbofaaGreatDoor.Lx
structure TokIs (t:Tok):Prop where
 num:t.kind≠3->t.int=0
 word:t.kind=2->keys.contains t.text=true
 mark:t.kind=4->∀ c r,t.text=c :: r->shorts.contains c=true
 zero:t.kind=0->t.text=[]
 name:t.kind=1->t.text.length<=40/\∀ c r,t.text=c :: r->letter c=true
theorem mark_short {c:UInt8}{l:B}(h:mark (c :: l)≠0):shorts.contains c=true:=by
 rw [mark] at h
 by_cases h1:((c :: l).take 2==[58,61] || (c :: l).take 2==[45,62])=true
 ·have hc:c=58\/c=45:=by
   cases l with
   | nil=>simp at h1
   | cons b l=>simp at h1;rcases h1 with h1 | h1 <;> simp [h1.1]
  rcases hc with rfl | rfl <;> decide
 ·rw [if_neg h1] at h
  by_cases h2:shorts.contains c=true
  ·exact h2
  ·rw [if_neg h2] at h;exact absurd rfl h
theorem take_cons {l:B}{n:Nat}{c:UInt8}{r:B}(h:l.take n=c :: r):∃ m,l=c :: m:=by
 cases l with
 | nil=>simp at h
 | cons a m=>cases n with
  | zero=>simp at h
  | succ n=>simp at h;exact ⟨m,by rw [h.1]⟩
theorem one_is {l:B}{k:Int}{n:Nat}{v:Int}(h:one l = .tok k n v)(p:Pos):TokIs ⟨k,l.take n,v,p⟩:=by
 unfold one at h
 split at h
 ·injection h with h1 h2 h3;subst h1 h2 h3;exact ⟨fun _=>rfl,fun e=>by simp at e,fun e=>by simp at e,fun _=>by simp,fun e=>by simp at e⟩
 ·rename_i c m
  split at h
  ·split at h
   ·cases h
   ·injection h with h1 h2 h3;subst h1;exact ⟨fun e=>absurd rfl e,fun e=>by simp at e,fun e=>by simp at e,fun e=>by simp at e,fun e=>by simp at e⟩
  ·split at h
   ·rename_i hl
    split at h
    ·cases h
    ·rename_i h40
     split at h
     ·rename_i ho
      injection h with h1 h2 h3;subst h1 h2 h3;exact ⟨fun _=>rfl,fun _=>ho,fun e=>by simp at e,fun e=>by simp at e,fun e=>by simp at e⟩
     ·injection h with h1 h2 h3;subst h1 h2 h3
      refine ⟨fun _=>rfl,fun e=>by simp at e,fun e=>by simp at e,fun e=>by simp at e,fun _=>⟨?_,fun c' r e=>?_⟩⟩
      ·exact Nat.le_trans (List.length_take_le _ _) (by omega)
      ·obtain ⟨m',e'⟩:=take_cons e
       injection e' with e1 e2
       subst e1;exact hl
   ·split at h
    ·cases h
    ·rename_i hm
     injection h with h1 h2 h3;subst h1 h2 h3
     refine ⟨fun _=>rfl,fun e=>by simp at e,fun _ c' r e=>?_,fun e=>by simp at e,fun e=>by simp at e⟩;obtain ⟨m',e'⟩:=take_cons e
     injection e' with e1 e2
     subst e1;exact mark_short hm
theorem toks_is:∀ (f:Nat)(note:Bool)(p:Pos)(l:B)(ts:List Tok),toks f note p l = .ok ts->∀ t∈ts,TokIs t
 | 0,_,_,_,_,h,t,ht=>by simp [toks] at h;subst h;simp at ht
 | f+1,note,p,l,ts,h,t,ht=>by
  rw [toks] at h
  cases ho:one (l.drop (blanks note l)) with
  | bad e=>rw [ho] at h;cases h
  | tok k n v =>
   rw [ho] at h;simp only at h
   by_cases hk:k=0
   ·rw [if_pos hk] at h;cases h;rw [List.mem_singleton.1 ht];exact ⟨fun _=>rfl,fun e=>by simp at e,fun e=>by simp at e,fun _=>rfl,fun e=>by simp at e⟩
   ·rw [if_neg hk] at h
    cases hr:toks f false (adv p (l.take (blanks note l+n))) (l.drop (blanks note l+n)) with
    | bad c' q'=>rw [hr] at h;simp [Res.after] at h
    | ok us =>
     rw [hr] at h;simp only [Res.after,Res.ok.injEq] at h;subst h
     rcases List.mem_cons.1 ht with rfl | ht
     ·exact one_is ho _
     ·exact toks_is f _ _ _ _ hr t ht
def Ended (ts:List Tok):Prop:=∃ us t,ts=us++[t]/\t.kind=0
theorem toks_ended:∀ (f:Nat)(note:Bool)(p:Pos)(l:B)(ts:List Tok),l.length<f->toks f note p l = .ok ts->Ended ts
 | 0,_,_,_,_,hf,_=>absurd hf (Nat.not_lt_zero _)
 | f+1,note,p,l,ts,hf,h=>by
  rw [toks] at h
  cases ho:one (l.drop (blanks note l)) with
  | bad e=>rw [ho] at h;cases h
  | tok k n v =>
   rw [ho] at h;simp only at h
   by_cases hk:k=0
   ·rw [if_pos hk] at h;cases h;exact ⟨[],_,rfl,rfl⟩
   ·rw [if_neg hk] at h;have T:=one_tok ho;have hp:=T.pos hk;have hle:=T.le;rw [List.length_drop] at hle
    cases hr:toks f false (adv p (l.take (blanks note l+n))) (l.drop (blanks note l+n)) with
    | bad c' q'=>rw [hr] at h;simp [Res.after] at h
    | ok us =>
     rw [hr] at h;simp only [Res.after,Res.ok.injEq] at h;subst h;obtain ⟨vs,t,e,ht⟩:=toks_ended f _ _ _ _ (by rw [List.length_drop];omega) hr;exact ⟨_ :: vs,t,by rw [e];rfl,ht⟩
theorem whole_is {l:B}{ts:List Tok}(h:whole l = .ok ts):(∀ t∈ts,TokIs t)/\Ended ts:=by
 unfold whole at h
 split at h
 ·cases h
 ·split at h
  ·cases h
  ·exact ⟨toks_is _ _ _ _ _ h,toks_ended _ _ _ _ _ (Nat.lt_succ_self _) h⟩
end Go.Proofs.YtninlbknklbofaaGreatDoor.Lx
namespace Go.Proofs.YtninlbknklbofaaGreatDoor.Ex
open Lx (Tok Pos B TokIs Ended)
structure TsOk (ts:List Tok):Prop where
 all:∀ t∈ts,TokIs t
 ended:Ended ts
variable {ts:List Tok}
theorem TsOk.pos (h:TsOk ts):0<ts.length:=by obtain ⟨us,t,rfl,_⟩:=h.ended;simp
theorem TsOk.next (h:TsOk ts){p:Nat}(hk:(tk ts p).kind≠0):p+1<ts.length:=by
 have hl:=kind_lt hk;obtain ⟨us,t,rfl,ht⟩:=h.ended
 rcases Nat.lt_or_ge p us.length with h1 | h1
 ·simp;omega
 ·have:p=us.length:=by simp at hl;omega
  subst this;rw [tk,getD_app_last] at hk;exact absurd ht hk
theorem TsOk.tok (h:TsOk ts){p:Nat}(hp:p<ts.length):TokIs (tk ts p):=h.all _ (by have:=tk_get hp;exact List.mem_of_getElem? this)
theorem TsOk.is_next (h:TsOk ts){s:S}{m:B}(hi:is ts s m=true):s.p+1<ts.length:=h.next (by
 intro e;simp [is,isT,e] at hi)
theorem TsOk.num (h:TsOk ts){p:Nat}(hk:(tk ts p).kind≠3):(tk ts p).int=0:=by
 rcases Nat.lt_or_ge p ts.length with h1 | h1
 ·exact (h.tok h1).num hk
 ·rw [tk,List.getD_eq_getElem?_getD,List.getElem?_eq_none h1];rfl
theorem TsOk.kind0 (h:TsOk ts){p:Nat}(hx:(tk ts p).text≠[]):(tk ts p).kind≠0:=fun e=>hx ((h.tok (text_lt hx)).zero e)
theorem TsOk.word (h:TsOk ts){p:Nat}{m:B}(hm:∀ c r,m=c :: r->Lx.shorts.contains c=false)(hne:m≠[]):isT (tk ts p) m=((tk ts p).kind==2 && (tk ts p).text==m):=by
 unfold isT
 cases ht:(tk ts p).text==m with
 | false=>simp
 | true =>
  have ht:=eq_of_beq ht;have h4:(tk ts p).kind≠4:=fun e=>by
   have hl:p<ts.length:=kind_lt (by rw [e];decide)
   cases m with
   | nil=>exact hne rfl
   | cons c r =>
    have:=(h.tok hl).mark e c r ht;rw [hm c r rfl] at this;cases this
  simp [h4]
theorem TsOk.set (h:TsOk ts){p:Nat}{m:B}(hm:Lx.keys.contains m=false):isT (tk ts p) m=((tk ts p).kind==4 && (tk ts p).text==m):=by
 unfold isT
 cases ht:(tk ts p).text==m with
 | false=>simp
 | true =>
  have ht:=eq_of_beq ht;have h2:(tk ts p).kind≠2:=fun e=>by
   have hl:p<ts.length:=kind_lt (by rw [e];decide);have:=(h.tok hl).word e;rw [ht,hm] at this;cases this
  simp [h2]
end Go.Proofs.YtninlbknklbofaaGreatDoor.Ex
namespace Go.Proofs.YtninlbknklbofaaGreatDoor.Rt
open Tn
def Bare (x:ByteArray):Prop:=Sh.closes x=false/\Sh.tightens x=false
theorem bare_of {x:ByteArray}(h:∀ c r,x.data.toList=c :: r->c≠40/\c≠41/\c≠44/\c≠59/\c≠33):Bare x:=by
 have no:∀ m:UInt8,(m=40\/m=41\/m=44\/m=59\/m=33)->decide (x=⟨#[m]⟩)=false:=fun m hm=>decide_eq_false (by
  rintro rfl;have:=h m [] rfl
  rcases hm with rfl | rfl | rfl | rfl | rfl <;> simp at this)
 refine ⟨?_, ?_⟩
 ·unfold Sh.closes;rw [no 41 (by simp),no 44 (by simp),no 59 (by simp)];rfl
 ·unfold Sh.tightens;rw [no 40 (by simp),no 33 (by simp)];rfl
theorem bare_dig (n:Int):Bare (dig n):=by
 have hd:∀ u,∀ c∈Lib.decDigits u,48<=c.toNat:=fun u=>by
  induction u using Nat.strongRecOn with
  | _ u ih =>
   intro c hc;rw [Lib.decDigits] at hc;have key:∀ k,k<10->48<=(UInt8.ofNat (48+k)).toNat:=fun k hk=>by
    rw [UInt8.toNat_ofNat'];omega
   split at hc
   ·rw [List.mem_singleton.1 hc];exact key _ ‹_›
   ·rcases List.mem_append.1 hc with hc | hc
    ·exact ih _ (by omega) c hc
    ·rw [List.mem_singleton.1 hc];exact key _ (by omega)
 refine bare_of fun c r e=>?_;have e':Lib.itoa n=c :: r:=by simpa [dig] using e
 unfold Lib.itoa at e';have key:45<=c.toNat/\c.toNat≠59:=by
  split at e'
  ·injection e' with e1 e2;subst e1;decide
  ·have h1:=hd n.toNat c (by rw [e'];exact List.mem_cons_self ..);refine ⟨by omega, ?_⟩;have hu:∀ u,∀ c∈Lib.decDigits u,c.toNat<=57:=fun u=>by
    induction u using Nat.strongRecOn with
    | _ u ih =>
     intro c hc;rw [Lib.decDigits] at hc;have key:∀ k,k<10->(UInt8.ofNat (48+k)).toNat<=57:=fun k hk=>by
      rw [UInt8.toNat_ofNat'];omega
     split at hc
     ·rw [List.mem_singleton.1 hc];exact key _ ‹_›
     ·rcases List.mem_append.1 hc with hc | hc
      ·exact ih _ (by omega) c hc
      ·rw [List.mem_singleton.1 hc];exact key _ (by omega)
   have:=hu n.toNat c (by rw [e'];exact List.mem_cons_self ..);omega
 refine ⟨?_, ?_, ?_, ?_, ?_⟩ <;> (rintro rfl;simp at key)
def AllBare (ms:List Nd)(i:Nat):Prop:=∀ j∈Pl ms i,Bare (nd ms j).name
theorem AllBare.kid {ms:List Nd}(hw:WF ms){i:Nat}(hi:i<ms.length)(h:AllBare ms i){k:Int}(hk:k∈(nd ms i).kids):AllBare ms k.toNat:=fun j hj=>h j (by
 rw [Pl_eq hw hi];refine List.mem_cons_of_mem _ ?_;rw [partPl,List.take_length];exact List.mem_flatMap.2 ⟨k,hk,hj⟩)
theorem node_all {ms:List Nd}(hw:WF ms)(i:Nat):i<ms.length->Fit ms i->AllBare ms i->∀ u,i<u->∀ s,Sh.node ms dig u (nd ms i) s=⟨s.bs++sp s++node ms u (nd ms i),false⟩:=by
 induction i using Nat.strongRecOn with
 | _ i ih =>
  intro hi hf hb u hu s;obtain ⟨u,rfl⟩:∃ v,u=v+1:=⟨u-1,by omega⟩;have hself:=hf.self hw hi;have hn:=hb i (by rw [Pl_eq hw hi];exact List.mem_cons_self ..);have hd:=bare_dig (nd ms i).num;rw [Sh.node,node];exact node_go hself.well hn.1 hn.2 hd.1 hd.2 (fun k hk s=>by
   have a:=kid_lt hw hi hk;exact ih _ a.1 (by omega) (hf.kid hw hi hk) (hb.kid hw hi hk) u (by omega) s) s
def rtxt (ms:List Nd)(i:Nat):Lx.B:=node ms (i+1) (nd ms i)
theorem txt_rtxt {ms:List Nd}(hw:WF ms){i:Nat}(hi:i<ms.length)(hf:Fit ms i)(hb:AllBare ms i):txt ms i=rtxt ms i:=by
 have hl:decide ((Sh.formOf (nd ms i).op).level<0)=false:=by
  have h:=(hf.self hw hi).well;refine decide_eq_false fun hlt=>?_;have:=op_in h;simp only [opList,List.mem_cons,List.not_mem_nil,or_false] at this
  rcases this with e | e | e | e | e | e | e | e | e | e | e | e | e | e | e | e | e | e | e | e | e | e | e | e | e | e | e | e <;> (rw [e] at hlt;revert hlt;decide +kernel)
 unfold txt Sh.full;rw [hl]
 show (Sh.node ms dig (i+1) (nd ms i) ⟨[],true⟩).bs=_
 rw [node_all hw i hi hf hb (i+1) (by omega)]
 rfl
theorem same_names {ns ms:List Nd}(hwn:WF ns)(hwm:WF ms)(i:Nat):i<ns.length->∀ k,k<ms.length->sameB ns ms i k=true->(Pl ns i).map (fun j=>(nd ns j).name)=(Pl ms k).map (fun j=>(nd ms j).name):=by
 induction i using Nat.strongRecOn with
 | _ i ih =>
  intro hi k hk hs;obtain ⟨hh,hkd⟩:=sameB_inv hwn hi hs;obtain ⟨_,e2,_,e4⟩:=headB_iff.1 hh;have part:∀ j,j<=(nd ns i).kids.length->(partPl ns (nd ns i).kids j).map (fun j=>(nd ns j).name)=(partPl ms (nd ms k).kids j).map (fun j=>(nd ms j).name):=fun j=>by
   induction j with
   | zero=>intro _;rfl
   | succ j ihj =>
    intro hj;have a:=kid_lt hwn hi (kid_mem (ks:=(nd ns i).kids) (i:=j) (by omega));have b:=kid_lt hwm hk (kid_mem (ks:=(nd ms k).kids) (i:=j) (by omega));rw [partPl_succ ns (by omega),partPl_succ ms (by omega),List.map_append,List.map_append,ihj (by omega),ih _ a.1 (by omega) _ (by omega) (hkd j (by omega))]
  rw [Pl_eq hwn hi,Pl_eq hwm hk,List.map_cons,List.map_cons,e2,part _ (Nat.le_refl _),e4]
theorem Pl_bound {ms:List Nd}(hw:WF ms)(i:Nat):i<ms.length->∀ j∈Pl ms i,j<ms.length:=fun hi j hj=>Pl_lt_len hw i hi j hj
theorem bare_read {ms ns:List Nd}{i j:Nat}(hwm:WF ms)(hwn:WF ns)(hi:i<ms.length)(hj:j<ns.length)(hn:∀ m∈ns,Bare m.name/\m.name.size<=40)(hs:sameB ms ns i j=true):AllBare ms i/\∀ k∈Pl ms i,(nd ms k).name.size<=40:=by
 have e:=same_names hwm hwn i hi j hj hs;have key:∀ k∈Pl ms i,Bare (nd ms k).name/\(nd ms k).name.size<=40:=fun k hk=>by
  have hm:(nd ms k).name∈(Pl ns j).map (fun j=>(nd ns j).name):=by rw [<- e];exact List.mem_map.2 ⟨k,hk,rfl⟩
  obtain ⟨q,hq,e1⟩:=List.mem_map.1 hm;rw [<- e1];have hql:=Pl_bound hwn j hj q hq;refine hn _ ?_;unfold nd;rw [List.getD_eq_getElem?_getD,List.getElem?_eq_getElem hql];exact List.getElem_mem hql
 exact ⟨fun k hk=>(key k hk).1,fun k hk=>(key k hk).2⟩
end Go.Proofs.YtninlbknklbofaaGreatDoor.Rt
namespace Go.Proofs.YtninlbknklbofaaGreatDoor.Ex
open Tn (Nd)
theorem parse_names {n:Nat}{l:Lx.B}(hn:∀ ts,Lx.whole l = .ok ts->10*ts.length+8<n){i:Nat}{ns:List Nd}(h:parse n l = .ok i ns):∀ m∈ns,Rt.Bare m.name/\m.name.size<=40:=by
 unfold parse at h
 cases hw:Lx.whole l with
 | bad c p=>rw [hw] at h;cases h
 | ok ts =>
  rw [hw] at h;have hp:=parseT_ends (ts:=ts) (n:=n) (hn ts hw);obtain ⟨_,_,_,_,_,g⟩:=hp.2 i ns h;intro m hm
  rcases g m hm with e | ⟨p,e1,e2⟩
  ·rw [e];exact ⟨Rt.bare_of fun c r e=>by simp [bt] at e,by decide⟩
  ·rw [e2];have ht:=((Lx.whole_is hw).1 (tk ts p) (by
    have hl:p<ts.length:=kind_lt (by rw [e1];decide);exact List.mem_of_getElem? (tk_get hl))).name e1
   refine ⟨Rt.bare_of fun c r e=>?_,by show (tk ts p).text.toArray.size<=40;simpa using ht.1⟩;have hl:=ht.2 c r (by simpa [bt] using e);refine ⟨?_, ?_, ?_, ?_, ?_⟩ <;> (rintro rfl;revert hl;decide)
end Go.Proofs.YtninlbknklbofaaGreatDoor.Ex
namespace Go.Proofs.YtninlbknklbofaaGreatDoor
open Go.RowKit Tn
theorem form_kids (op:ByteArray):(Sh.formOf op).kids = -1\/0<=(Sh.formOf op).kids:=by
 by_cases hn:op∈opList
 ·simp only [opList,List.mem_cons,List.not_mem_nil,or_false] at hn
  rcases hn with rfl | rfl | rfl | rfl | rfl | rfl | rfl | rfl | rfl | rfl | rfl | rfl | rfl | rfl | rfl | rfl | rfl | rfl | rfl | rfl | rfl | rfl | rfl | rfl | rfl | rfl | rfl | rfl <;> first | exact Or.inr (by decide +kernel) | exact Or.inl (by decide +kernel)
 ·rw [form_no hn];exact Or.inr (by decide)
theorem well_kidsOf {n:Nd} : Sh.well n=!((kidsOf n.op == -2) || (decide (0<=kidsOf n.op) && (kidsOf n.op != (n.kids.length:Int)))):=by
 have hf:=form_kids n.op;unfold Sh.well kidsOf;generalize Sh.formOf n.op=f at hf;obtain ⟨lv,ks,kn⟩:=f;simp only at hf ⊢
 cases kn with
 | false=>simp
 | true =>
  simp only [if_true,Bool.true_and]
  rcases hf with rfl | hf
  ·simp
  ·have h1:(ks == -1)=false:=by simp;omega
   have h2:(ks == -2)=false:=by simp;omega
   rw [h1,h2,decide_eq_true hf];simp [bne]
end Go.Proofs.YtninlbknklbofaaGreatDoor
