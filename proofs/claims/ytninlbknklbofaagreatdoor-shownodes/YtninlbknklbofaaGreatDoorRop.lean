/- A part of the proof: A part of the proof. -/
import Derived.Test.YtninlbknklbofaaGreatDoorSmallN
import Derived.Test.YtninlbknklbofaaGreatDoorRs
import Derived.ProofKit
import Derived.OpenShut
import Derived.Deep.Slices
import Derived.Lib.SmallJoins
import Derived.SizedLaws
set_option linter.unusedSimpArgs false
set_option linter.unusedVariables false
set_option maxRecDepth 100000
set_option maxHeartbeats 4000000
namespace Go.Proofs.YtninlbknklbofaaGreatDoor
section
open Go.RowKit Tn
theorem nd_get {ms:List Nd}{n:Nd}(h:n∈ms):∃ i,i<ms.length/\nd ms i=n:=by
 obtain ⟨i,hi,e⟩:=List.getElem_of_mem h;exact ⟨i,hi,by simp [nd,List.getD_eq_getElem?_getD,List.getElem?_eq_getElem hi,e]⟩
theorem build_sub (L:List Nd):∀ n∈build L,n∈L:=by
 suffices ∀ (L ms:List Nd),∀ n∈L.foldl Tn.add ms,n∈ms\/n∈L from fun n hn=>(this L [] n hn).elim (fun h=>by simp at h) id
 intro L
 induction L with
 | nil=>intro ms n hn;exact .inl hn
 | cons m L ih =>
  intro ms n hn
  rcases ih (Tn.add ms m) n hn with h | h
  ·unfold Tn.add at h
   split at h
   ·rcases List.mem_append.1 h with h | h
    ·exact .inl h
    ·exact .inr (by rw [List.mem_singleton.1 h];exact List.mem_cons_self ..)
   ·exact .inl h
  ·exact .inr (List.mem_cons_of_mem _ h)
theorem shownodes_any (ao:Option Addr)(cap:Nat)(L:List Nd)(i:Int)(hi0 : -128<=i)(hi1:i<=127)(w:World)(hw:Wd w)(hA:NodesAt w.heap.size w ao L)(hL:L.length<=140737488355328)
  (hS:∀ i,i<L.length->(nd L i).op.size<=140737488355328/\(nd L i).name.size<=140737488355328/\(nd L i).kids.length<=140737488355328) (hI:∀ i,i<L.length -> -9223372036854775808<=(nd L i).num/\(nd L i).num<=9223372036854775807):
  Calls Tryz.prog 3 #[.slice ao L.length cap,.int .i8 i] w fun e w'=>e = .returned (.bool true)/\Below w.heap.size w w':=by
 have hL1:=lives8_any w hw;have hL2:=fun w1 (h:Below w.heap.size w w1)=>lives8_any w1 (hw.below h);have HL:=Lib.hid hL1;have HL2:=Lib.hid hL2;have HW:=Lib.hid hw;have HA:=Lib.hid hA;have HI:=Lib.hid hI;have HS:=Lib.hid hS;clear hL1 hL2 hw hA hI hS
 go_enter Tryz.func3,Tryz.ntmps3
 go_wp2_with fail
 refine HL.out.mono ?_;rintro e w1 ⟨rfl,hb1⟩;have hA1:NodesAt w1.heap.size w1 ao L:=(HA.out.below hb1).mono hb1.size;have hSm:=small_any w1 ao cap L hA1 hL HS.out;have HSM:=Lib.hid hSm;have HB1:=Lib.hid hb1;clear hSm hb1 hA1
 go_wp2_with fail
 refine HSM.out.mono ?_;rintro e w2 ⟨b,rfl,hsm,hb2⟩;have HB2:=Lib.hid (HB1.out.trans (hb2.mono HB1.out.size));clear hb2 HSM
 cases b with
 | false =>
  clear hsm
  go_wp2_with fail
  refine (HL2.out w2 HB2.out).mono ?_;rintro e w3 ⟨rfl,hb3⟩;have HB3:=Lib.hid (HB2.out.trans (hb3.mono HB2.out.size));clear hb3
  go_wp2
  go_ret
  exact ⟨rfl,HB3.out⟩
 | true =>
  have hok:=hsm rfl;have HOK:=Lib.hid hok;have hl2:=hok.1;clear hsm hok
  go_wp2
  go_loopw [26] (fun v wr=>∃ k:Nat,k<=L.length/\v = .int .i64 k/\Below w2.heap.size w2 wr/\∀ j,j<k -> -4611686018427387904<=(nd L j).num) (fun v _=>L.length-(intOf v).toNat)
  case atStart=>exact ⟨0,Nat.zero_le _,rfl,Below.refl _ _,fun t ht=>absurd ht (Nat.not_lt_zero _)⟩
  case round =>
   obtain ⟨k,hk,rfl,hbr,hall⟩:=hrel;have HALL:=Lib.hid hall;have HBR:=Lib.hid hbr;clear hall hbr
   by_cases hlt:k<L.length
   ·obtain ⟨b,o,ka,kc,rfl,hn⟩:=(HA.out.below (HB2.out.trans (HBR.out.mono HB2.out.size))) k hlt;have c0:=hn.c0;have c1:=hn.c1;have c2:=hn.c2;have c3:=hn.c3;have c4:=hn.c4;have c5:=hn.c5;have hk2:(k:Int)<(L.length:Int):=by omega
    have hup : -4611686018427387904<=(nd L k).num->∀ j,j<k+1 -> -4611686018427387904<=(nd L j).num:=fun h j hj=>by
     by_cases e:j=k
     ·subst e;exact h
     ·exact HALL.out j (by omega)
    have HUP:=Lib.hid hup;clear hup hn;generalize nd L k=nk at *
    by_cases h1:nk.num < -4611686018427387904
    ·have e1:¬ -2<nk.num:=by omega
     have e2:nk.num<0:=by omega
     go_wp2
     go_ret
     exact ⟨rfl,HB2.out.trans ((HBR.out.alloc HBR.out.size _).mono HB2.out.size)⟩
    ·have HU:=Lib.hid (HUP.out (by omega))
     by_cases h2:nk.num<0
     ·by_cases h3 : -2<nk.num
      ·go_wp2
       refine ⟨⟨k+1,by omega,by go_num,HBR.out.alloc HBR.out.size _,HU.out⟩,by simp [intOf];omega⟩
      ·go_wp2
       refine ⟨⟨k+1,by omega,by go_num,HBR.out.alloc HBR.out.size _,HU.out⟩,by simp [intOf];omega⟩
     ·go_wp2
      refine ⟨⟨k+1,by omega,by go_num,HBR.out.alloc HBR.out.size _,HU.out⟩,by simp [intOf];omega⟩
   ·obtain rfl:k=L.length:=by omega
    have hall:=HALL.out;have hA4:NodesAt wr.heap.size wr ao L:=(HA.out.below (HB2.out.trans (HBR.out.mono HB2.out.size))).mono (HB2.out.trans (HBR.out.mono HB2.out.size)).size;have hOf:=of_any wr ao cap L hA4 (by omega) (fun i hi=>(HOK.out.2.1 i hi).1);have HOF:=Lib.hid hOf;have HB4:=Lib.hid (HB2.out.trans (HBR.out.mono HB2.out.size));have hsub:∀ j,j<(build L).length->∃ q,q<L.length/\nd L q=nd (build L) j:=fun j hj=>nd_get (build_sub L _ (nd_mem hj));have hkids:∀ j,j<(build L).length->(nd (build L) j).kids.length<=2000:=fun j hj=>by obtain ⟨q,hq,e⟩:=hsub j hj;rw [<- e];exact (HOK.out.2.1 q hq).1
    have hname:∀ j,j<(build L).length->(nd (build L) j).name.size<=2000:=fun j hj=>by obtain ⟨q,hq,e⟩:=hsub j hj;rw [<- e];exact (HOK.out.2.1 q hq).2
    have hnum:∀ j,j<(build L).length -> -9223372036854775807<=(nd (build L) j).num/\(nd (build L) j).num<=9223372036854775807:=fun j hj=>by
     obtain ⟨q,hq,e⟩:=hsub j hj;rw [<- e];have h1:=hall q hq;have h2:=HI.out q hq;omega
    have hwf:=Tn.WF.ofBuild L;have hgl:=HOK.out.2.2.1;have hgp:=HOK.out.2.2.2;generalize hms:build L=ms at *;have HMS:=Lib.hid hms;clear hms;have HKD:=Lib.hid hkids;have HNM:=Lib.hid hname;have HNU:=Lib.hid hnum;have HWF:=Lib.hid hwf;have HGP:=Lib.hid hgp;clear hall hA4 hOf hsub hkids hname hnum hwf hgp
    go_wp2_with fail
    refine HOF.out.mono ?_;rintro e w5 ⟨bt,ao5,cap5,mo,mc,rfl,htree,hnodes,hb5⟩;rw [HMS.out] at htree hnodes ⊢;have htr:Tr w5 bt ms:=⟨⟨ao5,cap5,htree⟩,HWF.out,by omega,fun j hj=>Nat.le_trans (HKD.out j hj) (by decide),fun j hj=>by have:=HNU.out j hj;omega⟩;have hB5:=HB4.out.trans (hb5.mono HB4.out.size);have hSh:=show_law bt ms i w5 (HW.out.below hB5) htr;have HSH:=Lib.hid hSh;have HB5:=Lib.hid hB5;have HND:=Lib.hid hnodes;clear htree hnodes hb5 htr hB5 hSh HOF
    go_wp2_with fail
    refine HSH.out.mono ?_;rintro e w6 ⟨rfl,hb6⟩;have hR:=rexpr_law w5.heap.size mo mc ms HWF.out ⟨by omega,fun j hj=>Nat.le_trans (HGP.out j hj) (by decide)⟩ HGP.out HKD.out HNU.out HNM.out i w6 (HND.out.below hb6) hb6.size;have HR:=Lib.hid hR;have HB6:=Lib.hid (HB5.out.trans (hb6.mono HB5.out.size));clear hR hb6 HSH;generalize lawT ms i=R at *
    cases R with
    | none =>
     unfold showV
     go_wp2_with fail
     refine HR.out.mono ?_;rintro e w7 ⟨rfl,hb7⟩;have HB7:=Lib.hid (HB6.out.trans (hb7.mono HB6.out.size));clear hb7 HR;unfold rshowV
     go_wp2_with fail
     refine (show_nil 0 w7).mono ?_;rintro e w8 ⟨rfl,hb8⟩;have HB8:=Lib.hid (HB7.out.trans (hb8.mono HB7.out.size));clear hb8;unfold showV
     go_wp2
     go_ret
     exact ⟨rfl,HB8.out⟩
    | some t =>
     unfold showV
     go_wp2_with fail
     refine HR.out.mono ?_;rintro e w7 ⟨rfl,hb7⟩;have HB7:=Lib.hid (HB6.out.trans (hb7.mono HB6.out.size));clear hb7 HR;unfold rshowV
     go_wp2_with fail
     refine (show_nil 0 w7).mono ?_;rintro e w8 ⟨rfl,hb8⟩;have HB8:=Lib.hid (HB7.out.trans (hb8.mono HB7.out.size));clear hb8;unfold showV
     go_wp2
     go_ret
     exact ⟨rfl,HB8.out⟩
end
section
open Go.ChangeShapes Go.WideShapes Go.ChangeAt Go.RowKit Go.Deep Tn
theorem Tryz.cells3:Tryz.prog.cellsOf 3=1:=by kernel_rfl
theorem Tryz.cells2:Tryz.prog.cellsOf 2=1:=by kernel_rfl
theorem Tryz.cells9:Tryz.prog.cellsOf 9=1:=by kernel_rfl
theorem Tryz.cells27:Tryz.prog.cellsOf 27=2:=by kernel_rfl
theorem Tryz.cells28:Tryz.prog.cellsOf 28=1:=by kernel_rfl
theorem Tryz.cells30:Tryz.prog.cellsOf 30=6:=by kernel_rfl
theorem Tryz.bytes3:Tryz.prog.bytesOf 3=8:=by kernel_rfl
theorem Tryz.bytes30:Tryz.prog.bytesOf 30=80:=by kernel_rfl
theorem Tryz.own:ownKnob Tryz.prog.godebug=none:=by kernel_rfl
theorem Tryz.laidOut:laidOutB Tryz.prog=true:=by kernel_rfl
theorem weights_mem_all {H:Type}{P:Program}{e:TypeId} : ∀ {ds:List (DataW H)} {d:DataW H},d∈ds->∀ n∈d.weights P e,n∈DataW.weightsAll P e ds
 | d0 :: ds,d,hd,n,hn=>by
  simp only [DataW.weightsAll,List.mem_append]
  rcases List.mem_cons.1 hd with rfl | hd
  ·exact .inl hn
  ·exact .inr (weights_mem_all hd n hn)
 | [],_,hd,_,_=>by cases hd
theorem wf_num {k:Int}(h:(Lit.int .i64 k).wf=true) : -9223372036854775808<=k/\k<=9223372036854775807:=by
 simp [Lit.wf,IntKind.min,IntKind.max,IntKind.signed,IntKind.bits] at h;omega
section
variable {H:Type} {enc:TypeId × Value->H} {w:World} {base:Nat} {spare:Nat->Bool} {held:Bool}
theorem open_nums {fuel:Nat}{ao:Option Addr}{len cap:Nat}{x:DataW H × List MemPlace}(h:DataW.trod enc Tryz.prog w base spare held fuel 28 [.slice ao len cap]=some x):
  ∃ ks:List Int,ks.length=len/\IntsAt w.heap.size w ao ks/\(ao=none->cap=0)/\∀ B,(∀ n∈x.1.weights Tryz.prog 28,n<=B)->len<=B:=by
 rcases open_slice1 Tryz.underlying28 Tryz.cells3 h with ⟨hcs,_⟩ | ⟨a,l,c,m,n,V,D,Pl,hcs,hb,hl,hm,hmm,hx,hi⟩
 ·simp at hcs;obtain ⟨rfl,rfl,rfl⟩:=hcs;exact ⟨[],rfl,fun i hi=>by simp at hi,fun _=>rfl,fun B _=>Nat.zero_le _⟩
 ·simp at hcs;obtain ⟨rfl,rfl,rfl⟩:=hcs;have hle:len<=m:=by rw [hmm];split <;> omega
  have key:∀ i,i<len->∃ u:Int,∃ b off,a=⟨b,off,none⟩/\b<w.heap.size/\w.cell? ⟨b,off+i,none⟩=some (.int .i64 u):=by
   intro i hil;obtain ⟨hc,ht⟩:=hi i (by omega);obtain ⟨u,hu,_⟩:=DataW.trod_int Tryz.underlying3 ht;simp at hu;rw [hu] at hc;obtain ⟨b,off,spot⟩:=a;have hs:spot=none:=by
    obtain ⟨h0,t0⟩:=hi 0 (by omega);obtain ⟨u0,hu0,_⟩:=DataW.trod_int Tryz.underlying3 t0;simp at hu0;rw [hu0] at h0;have:=World.cell?_spot h0
    simpa [Addr.add] using this
   subst hs;rw [add_plain] at hc;exact ⟨u,b,off,rfl,World.block_lt_of_cell? _ _ hc,hc⟩
  obtain ⟨F,hF⟩:=choose_lt key;refine ⟨(List.range len).map F,by simp,fun i hi=>?_,(fun e=>by cases e),fun B hB=>?_⟩
  ·have hil:i<len:=by simpa using hi
   obtain ⟨b,off,e,h1,h2⟩:=hF i hil;exact ⟨b,off,by rw [e],h1,by simpa [kid,hil] using h2⟩
  ·rw [hx] at hB;have:=hB ((len+(m-len))*8) (by simp [DataW.weights,Tryz.underlying28,Tryz.bytes3]);omega
theorem open_node {fuel:Nat}{cs:List Value}{x:DataW H × List MemPlace}(h:DataW.trod enc Tryz.prog w base spare held fuel 30 cs=some x):
  ∃ s:SN,cs=cell6 s/\IntsAt w.heap.size w s.ka s.n.kids/\(s.ka=none->s.kc=0)/\(-9223372036854775808<=s.n.num/\s.n.num<=9223372036854775807)/\∀ B,(∀ n∈x.1.weights Tryz.prog 30,n<=B)->s.n.op.size<=B/\s.n.name.size<=B/\s.n.kids.length<=B:=by
 obtain ⟨xs,n,_,rfl,hl,hlen,hf⟩:=DataW.trod_struct Tryz.underlying30 h;rw [Tryz.cells30] at hl
 match cs,hl,xs,hlen with
 | [c0,c1,c2,c3,c4,c5],_,[y0,y1,y2,y3,y4],_ =>
  have e0:=hf 0 _ rfl;have e1:=hf 1 _ rfl;have e2:=hf 2 _ rfl;have e3:=hf 3 _ rfl;have e4:=hf 4 _ rfl;simp [Tryz.cells9,Tryz.cells27,Tryz.cells2,Tryz.cells28] at e0 e1 e2 e3 e4;obtain ⟨s0,h0,d0,_⟩:=DataW.trod_string Tryz.underlying9 e0;obtain ⟨s2,h2,d2,_⟩:=DataW.trod_string Tryz.underlying9 e2;obtain ⟨k3,h3,d3,f3⟩:=DataW.trod_int Tryz.underlying2 e3;obtain ⟨ka,kl,kc,h4⟩:=Joins.slice_form Tryz.underlying28 e4;obtain ⟨z0,z1,m,_,hcl,g0,g1⟩:=trod_struct2 Tryz.underlying27 e1;simp only [Tryz.cells3] at g0 g1;simp at g0 g1;obtain ⟨a,ha,_⟩:=DataW.trod_int Tryz.underlying3 g0;obtain ⟨b,hb,_⟩:=DataW.trod_int Tryz.underlying3 g1;simp at h0 h2 h3 h4 ha hb;subst h0 h2 h3 h4 ha hb;obtain ⟨ks,rfl,hk,hnil,hw⟩:=open_nums e4;refine ⟨⟨⟨s0,a,b,s2,k3,ks⟩,ka,kc⟩,rfl,hk,hnil,wf_num f3,fun B hB=>?_⟩;have q:∀ (j:Nat) (t:TypeId) (d:DataW H),([9,27,9,2,28]:List TypeId)[j]? = some t->[y0.1,y1.1,y2.1,y3.1,y4.1][j]? = some d->∀ n∈d.weights Tryz.prog t,n<=B:=fun j t d ht hd n hn=>hB n (by
   have:=DataW.weights_mem_each (P:=Tryz.prog) ht hd n hn
   simpa [DataW.weights,Tryz.underlying30] using this)
  refine ⟨?_, ?_,hw B (fun n hn=>q 4 28 y4.1 rfl rfl n hn)⟩
  ·have:=q 0 9 y0.1 rfl rfl s0.size (by rw [d0];simp [DataW.weights]);exact this
  ·have:=q 2 9 y2.1 rfl rfl s2.size (by rw [d2];simp [DataW.weights]);exact this
theorem open_nodes {fuel:Nat}{ao:Option Addr}{len cap:Nat}{x:DataW H × List MemPlace}(h:DataW.trod enc Tryz.prog w base spare held fuel 22 [.slice ao len cap]=some x):
  ∃ L:List Nd,L.length=len/\NodesAt w.heap.size w ao L/\(∀ i,i<len -> -9223372036854775808<=(nd L i).num/\(nd L i).num<=9223372036854775807)/\∀ B,(∀ n∈x.1.weights Tryz.prog 22,n<=B)->len<=B/\∀ i,i<len->(nd L i).op.size<=B/\(nd L i).name.size<=B/\(nd L i).kids.length<=B:=by
 rcases open_slice Tryz.underlying22 h with ⟨hcs,_⟩ | ⟨a,l,c,m,n,D,Pl,hcs,hb,hl,hm,hmm,hx,hi⟩
 ·simp at hcs;obtain ⟨rfl,rfl,rfl⟩:=hcs;exact ⟨[],rfl,fun i hi=>by simp at hi,fun i hi=>by omega,fun B _=>⟨Nat.zero_le _,fun i hi=>by omega⟩⟩
 ·simp at hcs;obtain ⟨rfl,rfl,rfl⟩:=hcs;have hle:len<=m:=by rw [hmm];split <;> omega
  have key:∀ i,i<len->∃ nn:Nd,(∃ b off ka kc,a=⟨b,off,none⟩/\NodeAt w.heap.size w b (off+i*6) nn ka kc)/\(-9223372036854775808<=nn.num/\nn.num<=9223372036854775807)/\∀ B,(∀ n∈(D i).weights Tryz.prog 30,n<=B)->nn.op.size<=B/\nn.name.size<=B/\nn.kids.length<=B:=by
   intro i hil;obtain ⟨cs',hc,ht⟩:=hi i (by omega);obtain ⟨s,rfl,hk,hnil,hr,hw⟩:=open_node ht;rw [Tryz.cells30] at hc;obtain ⟨_,_,hat⟩:=World.cells?_some hc;obtain ⟨b,off,spot⟩:=a;have hs:spot=none:=by
    obtain ⟨cs0,hc0,t0⟩:=hi 0 (by omega);obtain ⟨s0,rfl,_⟩:=open_node t0;rw [Tryz.cells30] at hc0;have h0:=(World.cells?_some hc0).2.2 0 (by omega);have:=World.cell?_spot (by simpa [cell6] using h0)
    simpa [Addr.add] using this
   subst hs;have at_:∀ j,j<6->∀ u,(cell6 s)[j]? = some u->w.cell? ⟨b,off+i*6+j,none⟩=some u:=fun j hj u hu=>by
    have h0:=hat j hj;rw [hu,add_add,add_plain] at h0;rw [Nat.add_assoc];exact h0
   have hlt:=World.block_lt_of_cell? _ _ (at_ 0 (by omega) _ rfl);exact ⟨s.n,⟨b,off,s.ka,s.kc,rfl,hlt,at_ 0 (by omega) _ rfl,at_ 1 (by omega) _ rfl,at_ 2 (by omega) _ rfl,at_ 3 (by omega) _ rfl,at_ 4 (by omega) _ rfl,at_ 5 (by omega) _ rfl,hk,hnil⟩,hr,hw⟩
  obtain ⟨F,hF⟩:=choose_lt key;have hnd:∀ i,i<len->nd ((List.range len).map F) i=F i:=fun i hi=>by simp [nd,hi]
  refine ⟨(List.range len).map F,by simp,fun i hi=>?_,fun i hi=>by rw [hnd i hi];exact (hF i hi).2.1,fun B hB=>?_⟩
  ·have hil:i<len:=by simpa using hi
   obtain ⟨⟨b,off,ka,kc,e,hn⟩,_⟩:=hF i hil;rw [hnd i hil];exact ⟨b,off,ka,kc,by rw [e],hn⟩
  ·rw [hx] at hB;refine ⟨?_,fun i hi=>?_⟩
   ·have:=hB ((len+(m-len))*80) (by simp [DataW.weights,Tryz.underlying22,Tryz.bytes30]);omega
   ·rw [hnd i hi];refine (hF i hi).2.2 B fun n hn=>hB n ?_;have:=weights_mem_all (P:=Tryz.prog) (e:=30) (ds:=(List.range len).map D) (d:=D i) (List.mem_map.2 ⟨i,List.mem_range.2 hi,rfl⟩) n hn;simp only [DataW.weights,Tryz.underlying22,List.mem_cons,List.mem_append];exact .inr (.inl this)
end
end
end Go.Proofs.YtninlbknklbofaaGreatDoor
