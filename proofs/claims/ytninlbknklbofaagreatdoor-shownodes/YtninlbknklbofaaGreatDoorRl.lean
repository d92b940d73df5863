/- A part of the proof: A part of the proof. -/
import Derived.Test.YtninlbknklbofaaGreatDoorRp
import Derived.Test.YtninlbknklbofaaGreatDoorTVisit
set_option linter.unusedSimpArgs false
set_option linter.unusedVariables false
set_option maxRecDepth 100000
set_option maxHeartbeats 4000000
namespace Go.Proofs.YtninlbknklbofaaGreatDoor
open Go.RowKit Tn
def OpP (b:Bool)(w:World)(e:Ending)(w':World):Prop:=e = .returned (.bool b)/\Below w.heap.size w w'
theorem ropen_any (N:Nat)(mo:Option Addr)(mc:Nat)(ms:List Nd)(hw:WF ms)(i:Nat):i<ms.length->Fit ms i->∀ u,i<u->∀ (w:World),NodesAt N w mo ms->N<=w.heap.size ->
  Calls Tryz.prog 38 #[.slice mo ms.length mc,.int .i64 (i:Int)] w (OpP (Sh.ends ms u (nd ms i)) w):=by
 induction i using Nat.strongRecOn with
 | _ i ih =>
  intro hi hf u hu w hm hN;obtain ⟨u,rfl⟩:∃ v,u=v+1:=⟨u-1,by omega⟩;have hself:=hf.self hw hi;obtain ⟨b,o,ka,kc,rfl,hn⟩:=hm i hi;have c0:=hn.c0;have c1:=hn.c1;have c2:=hn.c2;have c3:=hn.c3;have c4:=hn.c4;have c5:=hn.c5;obtain ⟨R,hR⟩:∃ R,Sh.ends ms (u+1) (nd ms i)=R:=⟨_,rfl⟩;rw [hR];have HR:=Lib.hid hR;have hi':(i:Int)<(ms.length:Int):=by omega
  clear hR
  by_cases hl:(nd ms i).op=⟨#[108,101,116]⟩
  ·rw [hl] at c0;rw [Sh_ends_let ms u _ hl] at HR;clear ih
   go_enter Tryz.func38,Tryz.ntmps38
   go_wp2
   go_ret
   exact ⟨by rw [<- HR.out];rfl,(Below.refl _ w).alloc (Nat.le_refl _) _⟩
  ·by_cases hif:(nd ms i).op=⟨#[105,102]⟩
   ·have hk:(nd ms i).kids.length=3:=by have:=well_kids (a:=1) (b:=3) hself.well (by rw [hif];kernel_rfl) (by decide);omega
    rw [hif] at c0;rw [hk] at c5;have hkm:=kid_lt hw hi (kid_mem (ks:=(nd ms i).kids) (i:=2) (by omega));have hfk:=hf.kid hw hi (kid_mem (ks:=(nd ms i).kids) (i:=2) (by omega));obtain ⟨q,hq⟩:∃ q:Nat,kid (nd ms i).kids 2=(q:Int):=⟨(kid (nd ms i).kids 2).toNat,hkm.2.symm⟩;rw [hq,Int.toNat_natCast] at hkm hfk;obtain ⟨b2,o2,rfl,hb2,kk⟩:=hn.kids 2 (by omega);rw [hq] at kk;have kw:∀ ob,(w.alloc ob).cell? ⟨b2,o2+2,none⟩=some (.int .i64 (q:Int)):=fun ob=>(((Below.refl w.heap.size w).alloc (Nat.le_refl _) ob).cell (World.block_lt_of_cell? _ _ kk)).trans kk;have hE:Sh.ends ms (u+1) (nd ms i)=Sh.ends ms u (nd ms q):=by rw [Sh_ends_if ms u _ (.inl hif),hk];show Sh.ends ms u (nd ms (kid (nd ms i).kids 2).toNat)=_;rw [hq];rfl
    have hI:=fun w' hb=>ih q hkm.1 (by omega) hfk u (by omega) w' (hm.below (Below.mono hb hN)) (Nat.le_trans hN (Below.size hb));rw [hE] at HR;rw [HR.out] at hI;have HI:=Lib.hid hI;clear hI ih hm hn hfk hkm hE hq
    go_enter Tryz.func38,Tryz.ntmps38
    go_wp2_with fail
    refine (HI.out _ ((Below.refl _ w).alloc (Nat.le_refl _) _)).mono ?_;rintro e w1 ⟨rfl,hb1⟩;have HB1:=Lib.hid ((((Below.refl _ w).alloc (Nat.le_refl _) _)).trans (hb1.mono (by simp)));clear hb1
    go_wp2
    go_ret
    exact ⟨rfl,HB1.out⟩
   ·by_cases htr:(nd ms i).op=⟨#[116,114,121]⟩
    ·have hk:(nd ms i).kids.length=2:=by have:=well_kids (a:=1) (b:=2) hself.well (by rw [htr];kernel_rfl) (by decide);omega
     rw [htr] at c0;rw [hk] at c5;have hkm:=kid_lt hw hi (kid_mem (ks:=(nd ms i).kids) (i:=1) (by omega));have hfk:=hf.kid hw hi (kid_mem (ks:=(nd ms i).kids) (i:=1) (by omega));obtain ⟨q,hq⟩:∃ q:Nat,kid (nd ms i).kids 1=(q:Int):=⟨(kid (nd ms i).kids 1).toNat,hkm.2.symm⟩;rw [hq,Int.toNat_natCast] at hkm hfk;obtain ⟨b2,o2,rfl,hb2,kk⟩:=hn.kids 1 (by omega);rw [hq] at kk;have kw:∀ ob,(w.alloc ob).cell? ⟨b2,o2+1,none⟩=some (.int .i64 (q:Int)):=fun ob=>(((Below.refl w.heap.size w).alloc (Nat.le_refl _) ob).cell (World.block_lt_of_cell? _ _ kk)).trans kk;have hE:Sh.ends ms (u+1) (nd ms i)=Sh.ends ms u (nd ms q):=by rw [Sh_ends_if ms u _ (.inr htr),hk];show Sh.ends ms u (nd ms (kid (nd ms i).kids 1).toNat)=_;rw [hq];rfl
     have hI:=fun w' hb=>ih q hkm.1 (by omega) hfk u (by omega) w' (hm.below (Below.mono hb hN)) (Nat.le_trans hN (Below.size hb));rw [hE] at HR;rw [HR.out] at hI;have HI:=Lib.hid hI;clear hI ih hm hn hfk hkm hE hq
     go_enter Tryz.func38,Tryz.ntmps38
     go_wp2_with fail
     refine (HI.out _ ((Below.refl _ w).alloc (Nat.le_refl _) _)).mono ?_;rintro e w1 ⟨rfl,hb1⟩;have HB1:=Lib.hid ((((Below.refl _ w).alloc (Nat.le_refl _) _)).trans (hb1.mono (by simp)));clear hb1
     go_wp2
     go_ret
     exact ⟨rfl,HB1.out⟩
    ·rw [Sh_ends_no ms u _ hl hif htr] at HR;have n0:((nd ms i).op.toList==[108,101,116])=false:=by rw [tl_beq];exact decide_eq_false hl
     have n1:((nd ms i).op.toList==[105,102])=false:=by rw [tl_beq];exact decide_eq_false hif
     have n2:((nd ms i).op.toList==[116,114,121])=false:=by rw [tl_beq];exact decide_eq_false htr
     clear ih hl hif htr
     go_enter Tryz.func38,Tryz.ntmps38
     go_wp2
     go_ret
     exact ⟨by rw [<- HR.out];rfl,(Below.refl _ w).alloc (Nat.le_refl _) _⟩
end Go.Proofs.YtninlbknklbofaaGreatDoor
namespace Go.Proofs.YtninlbknklbofaaGreatDoor.Rt
open Tn (Nd nd kid)
theorem listGo_snoc (ms:List Nd)(g:Nd->Lx.B)(k:Int):∀ (l:List Int) (b:Bool),listGo ms g b (l++[k])=listGo ms g b l++((if (b && l.isEmpty)=true then [] else [44,32])++part ms g k 0)
 | [],b=>by cases b <;> simp [listGo]
 | x :: l,b=>by
  rw [List.cons_append,listGo,listGo,listGo_snoc ms g k l false]
  cases b <;> simp
def pre (ms:List Nd)(g:Nd->Lx.B)(kids:List Int)(j:Nat):Lx.B:=listGo ms g true (kids.take j)
theorem pre_one (ms:List Nd)(g:Nd->Lx.B){kids:List Int}(h:0<kids.length):pre ms g kids 1=pre ms g kids 0++part ms g (kid kids 0) 0:=by
 cases kids with
 | nil=>simp at h
 | cons k l=>simp [pre,listGo,kid]
theorem pre_succ (ms:List Nd)(g:Nd->Lx.B){kids:List Int}{j:Nat}(h:j<kids.length)(h0:0<j):pre ms g kids (j+1)=(pre ms g kids j++[44,32])++part ms g (kid kids j) 0:=by
 have e:kids.take (j+1)=kids.take j++[kid kids j]:=by
  rw [List.take_succ_eq_append_getElem h];simp [kid,h]
 unfold pre;rw [e,listGo_snoc];have:(kids.take j).isEmpty=false:=by
  cases kids with
  | nil=>simp at h
  | cons k l=>cases j with
   | zero=>omega
   | succ j=>rfl
 rw [this]
 simp
theorem pre_le (ms:List Nd)(g:Nd->Lx.B)(kids:List Int)(j:Nat):(pre ms g kids j).length<=(listGo ms g true kids).length:=by
 have key:∀ (l m:List Int) (b:Bool),(listGo ms g b l).length<=(listGo ms g b (l++m)).length:=by
  intro l
  induction l with
  | nil=>intro m b;simp [listGo]
  | cons x l ih=>intro m b;rw [List.cons_append,listGo,listGo];have:=ih m false;simp only [List.length_append];omega
 have:=key (kids.take j) (kids.drop j) true
 rwa [List.take_append_drop] at this
theorem part_le (ms:List Nd)(g:Nd->Lx.B)(k l:Int):(g (nd ms k.toNat)).length<=(part ms g k l).length:=by
 unfold part bk
 split
 ·simp only [List.length_cons,List.length_append,List.length_nil];omega
 ·exact Nat.le_refl _
end Go.Proofs.YtninlbknklbofaaGreatDoor.Rt
namespace Go.Proofs.YtninlbknklbofaaGreatDoor
open Go.RowKit Tn
def KidsC (N:Nat)(mo:Option Addr)(mc:Nat)(ms:List Nd)(g:Nd->Lx.B)(n:Nd):Prop :=
 ∀ j,j<n.kids.length->∃ q:Nat,kid n.kids j=(q:Int)/\q<ms.length/\(nd ms q).op∈opList/\TextC N mo mc ms (g (nd ms q)) q
theorem joined (a b:Lx.B):((⟨a.toArray⟩:ByteArray)++⟨b.toArray⟩)=⟨(a++b).toArray⟩:=by apply ByteArray.ext;simp
theorem rlist_any (N:Nat)(mo:Option Addr)(mc:Nat)(ms:List Nd)(n:Nd)(ka:Option Addr)(kc:Nat)(g:Nd->Lx.B)(hP:KidsC N mo mc ms g n)(hkl:n.kids.length<=1000000)(hlen:(Rt.list ms g n.kids).length<=1000000000)(w:World)(hm:NodesAt N w mo ms)(hN:N<=w.heap.size)(hk:IntsAt N w ka n.kids):
  Calls Tryz.prog 39 #[.slice mo ms.length mc,nval n ka kc] w (TxP (Rt.list ms g n.kids) w):=by
 obtain ⟨W,hW⟩:∃ W,w.alloc (.cells #[.string n.op,.int .i64 n.line,.int .i64 n.col,.string n.name,.int .i64 n.num,.slice ka n.kids.length kc] 30)=W:=⟨_,rfl⟩;have hbW:Below w.heap.size w W:=by rw [<- hW];exact (Below.refl _ w).alloc (Nat.le_refl _) _
 have s1:Six W w.heap.size 30 (.string n.op) (.int .i64 n.line) (.int .i64 n.col) (.string n.name) (.int .i64 n.num) (.slice ka n.kids.length kc):=⟨by rw [<- hW];exact blk_new w _⟩;have hzW:w.heap.size<W.heap.size:=by rw [<- hW];simp
 have hll:(Rt.listGo ms g true n.kids).length<=999999998:=by
  have h:=hlen;unfold Rt.list Rt.bk at h;simp only [List.length_cons,List.length_append,List.length_nil] at h;omega
 have HP:=Lib.hid hP;have HM:=Lib.hid hm;have HN:=Lib.hid hN;have HB:=Lib.hid hbW;have HK:=Lib.hid hk;have HS:=Lib.hid s1;have HW:=Lib.hid hW;have HZ:=Lib.hid hzW;have HL:=Lib.hid hll;clear hP hm hN hbW hk s1 hW hzW hll hlen;unfold nval
 go_enter Tryz.func39,Tryz.ntmps39
 go_upto_region 1 with fail
 rw [HW.out]
 go_wp2_with fail
 go_loopw [5,6] (fun s k wr=>∃ j:Nat,j<=n.kids.length/\k = .int .i64 j/\s = .string ⟨(Rt.pre ms g n.kids j).toArray⟩/\Below W.heap.size W wr) (fun _ k _=>n.kids.length-(intOf k).toNat)
 case atStart=>exact ⟨0,Nat.zero_le _,rfl,rfl,Below.refl _ W⟩
 case round =>
  obtain ⟨j,hj,rfl,rfl,hb⟩:=hrel;have sx:=HS.out.below hb HZ.out;have c0:=sx.c0;have c1:=sx.c1;have c2:=sx.c2;have c3:=sx.c3;have c4:=sx.c4;have c5:=sx.c5;clear sx;have HB1:=Lib.hid hb;clear hb
  by_cases hjl:j<n.kids.length
  ·obtain ⟨q,hq,hql,hop,hT⟩:=HP.out j hjl;have hgl:(g (nd ms q)).length<=1000000000:=by
    have h1:=Rt.part_le ms g (kid n.kids j) 0;have h2:=Rt.pre_le ms g n.kids (j+1);have h3:=HL.out;rw [hq,Int.toNat_natCast,<- hq] at h1
    by_cases h0:j=0
    ·subst h0;rw [Rt.pre_one ms g hjl,List.length_append] at h2;omega
    ·rw [Rt.pre_succ ms g hjl (by omega),List.length_append] at h2;omega
   have hR:=fun w' (hb:Below W.heap.size W w')=>rpart_any N mo mc ms n ka kc j q g hjl hq hql hop hT hgl 0 w' (HM.out.below ((HB.out.trans (hb.mono HB.out.size)).mono HN.out)) (Nat.le_trans HN.out (Nat.le_trans HB.out.size hb.size)) (HK.out.below ((HB.out.trans (hb.mono HB.out.size)).mono HN.out));have HR:=Lib.hid hR;clear hR hT hop hq;unfold nval at HR
   by_cases h0:j=0
   ·subst h0;have hpl:(Rt.pre ms g n.kids 0).length+(Rt.part ms g (kid n.kids 0) 0).length<=999999998:=by
     have h2:=Rt.pre_le ms g n.kids 1;have h3:=HL.out;rw [Rt.pre_one ms g hjl,List.length_append] at h2;omega
    have hp2:¬ 9223372036854775807<(Rt.pre ms g n.kids 0).length+(Rt.part ms g (kid n.kids 0) 0).length:=by omega
    have HPO:=Lib.hid (Rt.pre_one ms g hjl)
    go_wp2_with fail
    refine (HR.out _ HB1.out).mono ?_;rintro e w1 ⟨rfl,hb1⟩;have HB2:=Lib.hid (HB1.out.trans (hb1.mono HB1.out.size));clear hb1
    go_wp2
    exact ⟨⟨1,by omega,by go_num,by rw [joined,<- HPO.out],HB2.out⟩,by simp [intOf];omega⟩
   ·have hpl:(Rt.pre ms g n.kids j).length+2+(Rt.part ms g (kid n.kids j) 0).length<=999999998:=by
     have h2:=Rt.pre_le ms g n.kids (j+1);have h3:=HL.out;rw [Rt.pre_succ ms g hjl (by omega),List.length_append,List.length_append] at h2;simp only [List.length_cons,List.length_nil] at h2;omega
    have hp1:¬ 9223372036854775807<(Rt.pre ms g n.kids j).length+2:=by omega
    have hp2:¬ 9223372036854775807<(Rt.pre ms g n.kids j).length+2+(Rt.part ms g (kid n.kids j) 0).length:=by omega
    have HPO:=Lib.hid (Rt.pre_succ ms g hjl (by omega))
    go_wp2_with fail
    refine (HR.out _ HB1.out).mono ?_;rintro e w1 ⟨rfl,hb1⟩;have HB2:=Lib.hid (HB1.out.trans (hb1.mono HB1.out.size));clear hb1
    go_wp2
    refine ⟨⟨j+1,by omega,by go_num, ?_,HB2.out⟩,by simp [intOf];omega⟩;rw [HPO.out,<- joined,<- joined]
  ·obtain rfl:j=n.kids.length:=by omega
   have e:Rt.pre ms g n.kids n.kids.length=Rt.listGo ms g true n.kids:=by unfold Rt.pre;rw [List.take_length]
   rw [e];have hl:¬ 9223372036854775807<1+(Rt.listGo ms g true n.kids).length:=by have:=HL.out;omega
   have hl2:¬ 9223372036854775807<1+(Rt.listGo ms g true n.kids).length+1:=by have:=HL.out;omega
   go_wp2
   go_ret
   refine ⟨?_,HB.out.trans (HB1.out.mono HB.out.size)⟩;exact congrArg (fun t=>Ending.returned (.string t)) (bracketed _)
end Go.Proofs.YtninlbknklbofaaGreatDoor
