/- A part of the proof: A part of the proof. -/
import Derived.Test.YtninlbknklbofaaGreatDoorPlain
set_option linter.unusedSimpArgs false
set_option linter.unusedVariables false
set_option maxHeartbeats 1000000
namespace Go.Proofs.YtninlbknklbofaaGreatDoor
open Tn
def Short (ms:List Nd)(i:Nat):Prop:=∀ j∈Pl ms i,(nd ms j).name.size<=40
theorem node_up {ms:List Nd}(hw:WF ms)(i:Nat):i<ms.length->Fit ms i->Short ms i->∀ u,i<u->∀ s,(Sh.node ms dig u (nd ms i) s).bs.length+10<=s.bs.length+300*(Pl ms i).length:=by
 induction i using Nat.strongRecOn with
 | _ i ih =>
  intro hi hf hn u hu s;obtain ⟨u,rfl⟩:∃ v,u=v+1:=⟨u-1,by omega⟩;have hself:=hf.self hw hi;have hsub:∀ j,j<(nd ms i).kids.length->Short ms (kid (nd ms i).kids j).toNat:=fun j hj q hq=>hn q (by
   rw [Pl_eq hw hi];refine List.mem_cons_of_mem _ ?_;rw [partPl,List.take_length];exact List.mem_flatMap.2 ⟨_,kid_mem hj,hq⟩)
  have hb:∀ j,j<(nd ms i).kids.length->∀ (b:Bool) s,(Sh.brk (Sh.node ms dig u (nd ms (kid (nd ms i).kids j).toNat)) b s).bs.length+6<=s.bs.length+300*(Pl ms (kid (nd ms i).kids j).toNat).length:=fun j hj b s=>by
   have a:=kid_lt hw hi (kid_mem hj);have hq:=fun s=>ih _ a.1 (by omega) (hf.kid hw hi (kid_mem hj)) (hsub j hj) u (by omega) s;unfold Sh.brk
   split
   ·have h1:=tok_up s Sh.opn 1 (by decide);have h2:=hq (Sh.tok s Sh.opn);have h3:=tok_up (Sh.node ms dig u (nd ms (kid (nd ms i).kids j).toNat) (Sh.tok s Sh.opn)) Sh.cls 1 (by decide);omega
   ·have:=hq s;omega
  rw [Sh.node,Pl_eq hw hi,List.length_cons];exact nodeF_up hself.well (hn i (by rw [Pl_eq hw hi];exact List.mem_cons_self ..)) hself.lo hself.hi (fun j hj l s=>hb j hj _ s) (fun hj s=>hb 0 hj _ s) s
theorem txt_len {ms:List Nd}(hw:WF ms){i:Nat}(hi:i<ms.length)(hk:∀ i,i<ms.length->(nd ms i).kids.length<=999000)(hn:∀ i,i<ms.length -> -9223372036854775808<=(nd ms i).num/\(nd ms i).num<=9223372036854775807)(h:fitsB ms i=true):(txt ms i).length<=1000000000:=by
 have hf:=fits_fit h hw hi hk hn (Pl_lt_len hw i hi);unfold fitsB at h;rw [Bool.and_eq_true,decide_eq_true_iff,List.all_eq_true] at h;have hs:Short ms i:=fun j hj=>by
  have:=h.2 j hj;unfold okN at this;rw [Bool.and_eq_true,decide_eq_true_iff] at this;exact this.1
 have hu:=fun s=>node_up hw i hi hf hs (i+1) (by omega) s;have h1:=h.1;unfold txt Sh.full Sh.brk
 split
 ·have a:=tok_up ⟨[],true⟩ Sh.opn 1 (by decide);have b:=hu (Sh.tok ⟨[],true⟩ Sh.opn);have c:=tok_up (Sh.node ms dig (i+1) (nd ms i) (Sh.tok ⟨[],true⟩ Sh.opn)) Sh.cls 1 (by decide);simp only [List.length_nil] at a;omega
 ·have b:=hu ⟨[],true⟩;simp only [List.length_nil] at b;omega
end Go.Proofs.YtninlbknklbofaaGreatDoor
namespace Go.Proofs.YtninlbknklbofaaGreatDoor.Rt
open Lx (B)
open Tn (Nd nd kid WF kid_lt kid_mem)
section
variable (ms:List Nd) (g:Nd->B)
def bk (l:B):B:=40 :: (l++[41])
def part (k least:Int):B:=if decide ((Sh.formOf (nd ms k.toNat).op).level<least)=true then bk (g (nd ms k.toNat)) else g (nd ms k.toNat)
def semi (e:Nd->Bool)(k:Int):B:=if (decide ((Sh.formOf (nd ms k.toNat).op).level<1) || e (nd ms k.toNat))=true then bk (g (nd ms k.toNat)) else g (nd ms k.toNat)
def listGo:Bool->List Int->B
 | _,[]=>[]
 | first,k :: l=>(if first=true then [] else [44,32])++(part ms g k 0++listGo false l)
def list (kids:List Int):B:=bk (listGo ms g true kids)
def nodeP (e:Nd->Bool)(op name:ByteArray)(num:Int)(kids:List Int):B :=
 if op=⟨#[115,101,113]⟩ then semi ms g e (kid kids 0)++([59]++([32]++(part ms g (kid kids 1) 0))) else
 if op=⟨#[105,102]⟩ then [105,102]++([32]++(part ms g (kid kids 0) 0++([32]++([116,104,101,110]++([32]++(part ms g (kid kids 1) 1++([32]++([101,108,115,101]++([32]++(part ms g (kid kids 2) 1)))))))))) else
 if op=⟨#[108,101,116]⟩ then [108,101,116]++([32]++(name.data.toList++([32]++([61]++([32]++(part ms g (kid kids 0) 0++([32]++([105,110]++([32]++(part ms g (kid kids 1) 0)))))))))) else
 if op=⟨#[116,114,121]⟩ then [116,114,121]++([32]++(part ms g (kid kids 0) 0++([32]++([119,105,116,104]++([32]++(name.data.toList++([32]++([45,62]++([32]++(part ms g (kid kids 1) 1)))))))))) else
 if op=⟨#[111,117,116]⟩ then [111,117,116]++([32]++(name.data.toList++([32]++(part ms g (kid kids 0) 2)))) else
 if op=⟨#[115,101,116]⟩ then name.data.toList++([32]++([58,61]++([32]++(part ms g (kid kids 0) 2)))) else
 if op=⟨#[114,97,105,115,101]⟩ then [114,97,105,115,101]++([32]++(name.data.toList)) else
 if op=⟨#[111,114]⟩ then part ms g (kid kids 0) 2++([32]++([111,114]++([32]++(part ms g (kid kids 1) 3)))) else
 if op=⟨#[97,110,100]⟩ then part ms g (kid kids 0) 3++([32]++([97,110,100]++([32]++(part ms g (kid kids 1) 4)))) else
 if op=⟨#[61]⟩ then part ms g (kid kids 0) 5++([32]++([61]++([32]++(part ms g (kid kids 1) 5)))) else
 if op=⟨#[60]⟩ then part ms g (kid kids 0) 5++([32]++([60]++([32]++(part ms g (kid kids 1) 5)))) else
 if op=⟨#[43]⟩ then part ms g (kid kids 0) 5++([32]++([43]++([32]++(part ms g (kid kids 1) 6)))) else
 if op=⟨#[45]⟩ then part ms g (kid kids 0) 5++([32]++([45]++([32]++(part ms g (kid kids 1) 6)))) else
 if op=⟨#[42]⟩ then part ms g (kid kids 0) 6++([32]++([42]++([32]++(part ms g (kid kids 1) 7)))) else
 if op=⟨#[112,97,105,114]⟩ then list ms g kids else
 if op=⟨#[110,101,103]⟩ then [45]++([32]++(part ms g (kid kids 0) 7)) else
 if op=⟨#[110,111,116]⟩ then [110,111,116]++([32]++(part ms g (kid kids 0) 7)) else
 if op=⟨#[102,115,116]⟩ then [102,115,116]++([32]++(part ms g (kid kids 0) 7)) else
 if op=⟨#[115,110,100]⟩ then [115,110,100]++([32]++(part ms g (kid kids 0) 7)) else
 if op=⟨#[114,101,108,101,97,115,101]⟩ then [114,101,108,101,97,115,101]++([32]++(name.data.toList++([32]++(list ms g kids)))) else
 if op=⟨#[103,101,116]⟩ then [33]++(name.data.toList) else
 if op=⟨#[116,114,117,101]⟩ then [116,114,117,101] else
 if op=⟨#[102,97,108,115,101]⟩ then [102,97,108,115,101] else
 if op=⟨#[104,111,108,101]⟩ then [104,111,108,101]++([32]++(name.data.toList)) else
 if op=⟨#[117,110,105,116]⟩ then list ms g kids else
 if op=⟨#[105,110,116]⟩ then Lib.itoa num else
 if op=⟨#[118,97,114]⟩ then name.data.toList else
 if op=⟨#[99,97,108,108]⟩ then name.data.toList++(list ms g kids) else
 []
def nodeF (e:Nd->Bool)(n:Nd):B:=nodeP ms g e n.op n.name n.num n.kids
end
def node (ms:List Nd):Nat->Nd->B
 | 0,_=>[]
 | u+1,n=>nodeF ms (node ms u) (Sh.ends ms (u+1)) n
section
variable (ms:List Nd) (g:Nd->B) (e:Nd->Bool) (num:Int) (name:ByteArray) (kids:List Int)
theorem r0:nodeP ms g e ⟨#[115,101,113]⟩ name num kids=semi ms g e (kid kids 0)++([59]++([32]++(part ms g (kid kids 1) 0))):=by kernel_rfl
theorem r1:nodeP ms g e ⟨#[105,102]⟩ name num kids=[105,102]++([32]++(part ms g (kid kids 0) 0++([32]++([116,104,101,110]++([32]++(part ms g (kid kids 1) 1++([32]++([101,108,115,101]++([32]++(part ms g (kid kids 2) 1)))))))))):=by kernel_rfl
theorem r2:nodeP ms g e ⟨#[108,101,116]⟩ name num kids=[108,101,116]++([32]++(name.data.toList++([32]++([61]++([32]++(part ms g (kid kids 0) 0++([32]++([105,110]++([32]++(part ms g (kid kids 1) 0)))))))))):=by kernel_rfl
theorem r3:nodeP ms g e ⟨#[116,114,121]⟩ name num kids=[116,114,121]++([32]++(part ms g (kid kids 0) 0++([32]++([119,105,116,104]++([32]++(name.data.toList++([32]++([45,62]++([32]++(part ms g (kid kids 1) 1)))))))))):=by kernel_rfl
theorem r4:nodeP ms g e ⟨#[111,117,116]⟩ name num kids=[111,117,116]++([32]++(name.data.toList++([32]++(part ms g (kid kids 0) 2)))):=by kernel_rfl
theorem r5:nodeP ms g e ⟨#[115,101,116]⟩ name num kids=name.data.toList++([32]++([58,61]++([32]++(part ms g (kid kids 0) 2)))):=by kernel_rfl
theorem r6:nodeP ms g e ⟨#[114,97,105,115,101]⟩ name num kids=[114,97,105,115,101]++([32]++(name.data.toList)):=by kernel_rfl
theorem r7:nodeP ms g e ⟨#[111,114]⟩ name num kids=part ms g (kid kids 0) 2++([32]++([111,114]++([32]++(part ms g (kid kids 1) 3)))):=by kernel_rfl
theorem r8:nodeP ms g e ⟨#[97,110,100]⟩ name num kids=part ms g (kid kids 0) 3++([32]++([97,110,100]++([32]++(part ms g (kid kids 1) 4)))):=by kernel_rfl
theorem r9:nodeP ms g e ⟨#[61]⟩ name num kids=part ms g (kid kids 0) 5++([32]++([61]++([32]++(part ms g (kid kids 1) 5)))):=by kernel_rfl
theorem r10:nodeP ms g e ⟨#[60]⟩ name num kids=part ms g (kid kids 0) 5++([32]++([60]++([32]++(part ms g (kid kids 1) 5)))):=by kernel_rfl
theorem r11:nodeP ms g e ⟨#[43]⟩ name num kids=part ms g (kid kids 0) 5++([32]++([43]++([32]++(part ms g (kid kids 1) 6)))):=by kernel_rfl
theorem r12:nodeP ms g e ⟨#[45]⟩ name num kids=part ms g (kid kids 0) 5++([32]++([45]++([32]++(part ms g (kid kids 1) 6)))):=by kernel_rfl
theorem r13:nodeP ms g e ⟨#[42]⟩ name num kids=part ms g (kid kids 0) 6++([32]++([42]++([32]++(part ms g (kid kids 1) 7)))):=by kernel_rfl
theorem r14:nodeP ms g e ⟨#[112,97,105,114]⟩ name num kids=list ms g kids:=by kernel_rfl
theorem r15:nodeP ms g e ⟨#[110,101,103]⟩ name num kids=[45]++([32]++(part ms g (kid kids 0) 7)):=by kernel_rfl
theorem r16:nodeP ms g e ⟨#[110,111,116]⟩ name num kids=[110,111,116]++([32]++(part ms g (kid kids 0) 7)):=by kernel_rfl
theorem r17:nodeP ms g e ⟨#[102,115,116]⟩ name num kids=[102,115,116]++([32]++(part ms g (kid kids 0) 7)):=by kernel_rfl
theorem r18:nodeP ms g e ⟨#[115,110,100]⟩ name num kids=[115,110,100]++([32]++(part ms g (kid kids 0) 7)):=by kernel_rfl
theorem r19:nodeP ms g e ⟨#[114,101,108,101,97,115,101]⟩ name num kids=[114,101,108,101,97,115,101]++([32]++(name.data.toList++([32]++(list ms g kids)))):=by kernel_rfl
theorem r20:nodeP ms g e ⟨#[103,101,116]⟩ name num kids=[33]++(name.data.toList):=by kernel_rfl
theorem r21:nodeP ms g e ⟨#[116,114,117,101]⟩ name num kids=[116,114,117,101]:=by kernel_rfl
theorem r22:nodeP ms g e ⟨#[102,97,108,115,101]⟩ name num kids=[102,97,108,115,101]:=by kernel_rfl
theorem r23:nodeP ms g e ⟨#[104,111,108,101]⟩ name num kids=[104,111,108,101]++([32]++(name.data.toList)):=by kernel_rfl
theorem r24:nodeP ms g e ⟨#[117,110,105,116]⟩ name num kids=list ms g kids:=by kernel_rfl
theorem r25:nodeP ms g e ⟨#[105,110,116]⟩ name num kids=Lib.itoa num:=by kernel_rfl
theorem r26:nodeP ms g e ⟨#[118,97,114]⟩ name num kids=name.data.toList:=by kernel_rfl
theorem r27:nodeP ms g e ⟨#[99,97,108,108]⟩ name num kids=name.data.toList++(list ms g kids):=by kernel_rfl
end
theorem c0:Sh.closes ⟨#[59]⟩=true:=by kernel_rfl
theorem t0:Sh.tightens ⟨#[59]⟩=false:=by kernel_rfl
theorem c1:Sh.closes ⟨#[105,102]⟩=false:=by kernel_rfl
theorem t1:Sh.tightens ⟨#[105,102]⟩=false:=by kernel_rfl
theorem c2:Sh.closes ⟨#[116,104,101,110]⟩=false:=by kernel_rfl
theorem t2:Sh.tightens ⟨#[116,104,101,110]⟩=false:=by kernel_rfl
theorem c3:Sh.closes ⟨#[101,108,115,101]⟩=false:=by kernel_rfl
theorem t3:Sh.tightens ⟨#[101,108,115,101]⟩=false:=by kernel_rfl
theorem c4:Sh.closes ⟨#[108,101,116]⟩=false:=by kernel_rfl
theorem t4:Sh.tightens ⟨#[108,101,116]⟩=false:=by kernel_rfl
theorem c5:Sh.closes ⟨#[61]⟩=false:=by kernel_rfl
theorem t5:Sh.tightens ⟨#[61]⟩=false:=by kernel_rfl
theorem c6:Sh.closes ⟨#[105,110]⟩=false:=by kernel_rfl
theorem t6:Sh.tightens ⟨#[105,110]⟩=false:=by kernel_rfl
theorem c7:Sh.closes ⟨#[116,114,121]⟩=false:=by kernel_rfl
theorem t7:Sh.tightens ⟨#[116,114,121]⟩=false:=by kernel_rfl
theorem c8:Sh.closes ⟨#[119,105,116,104]⟩=false:=by kernel_rfl
theorem t8:Sh.tightens ⟨#[119,105,116,104]⟩=false:=by kernel_rfl
theorem c9:Sh.closes ⟨#[45,62]⟩=false:=by kernel_rfl
theorem t9:Sh.tightens ⟨#[45,62]⟩=false:=by kernel_rfl
theorem c10:Sh.closes ⟨#[111,117,116]⟩=false:=by kernel_rfl
theorem t10:Sh.tightens ⟨#[111,117,116]⟩=false:=by kernel_rfl
theorem c11:Sh.closes ⟨#[58,61]⟩=false:=by kernel_rfl
theorem t11:Sh.tightens ⟨#[58,61]⟩=false:=by kernel_rfl
theorem c12:Sh.closes ⟨#[114,97,105,115,101]⟩=false:=by kernel_rfl
theorem t12:Sh.tightens ⟨#[114,97,105,115,101]⟩=false:=by kernel_rfl
theorem c13:Sh.closes ⟨#[111,114]⟩=false:=by kernel_rfl
theorem t13:Sh.tightens ⟨#[111,114]⟩=false:=by kernel_rfl
theorem c14:Sh.closes ⟨#[97,110,100]⟩=false:=by kernel_rfl
theorem t14:Sh.tightens ⟨#[97,110,100]⟩=false:=by kernel_rfl
theorem c15:Sh.closes ⟨#[60]⟩=false:=by kernel_rfl
theorem t15:Sh.tightens ⟨#[60]⟩=false:=by kernel_rfl
theorem c16:Sh.closes ⟨#[43]⟩=false:=by kernel_rfl
theorem t16:Sh.tightens ⟨#[43]⟩=false:=by kernel_rfl
theorem c17:Sh.closes ⟨#[45]⟩=false:=by kernel_rfl
theorem t17:Sh.tightens ⟨#[45]⟩=false:=by kernel_rfl
theorem c18:Sh.closes ⟨#[42]⟩=false:=by kernel_rfl
theorem t18:Sh.tightens ⟨#[42]⟩=false:=by kernel_rfl
theorem c19:Sh.closes ⟨#[110,111,116]⟩=false:=by kernel_rfl
theorem t19:Sh.tightens ⟨#[110,111,116]⟩=false:=by kernel_rfl
theorem c20:Sh.closes ⟨#[102,115,116]⟩=false:=by kernel_rfl
theorem t20:Sh.tightens ⟨#[102,115,116]⟩=false:=by kernel_rfl
theorem c21:Sh.closes ⟨#[115,110,100]⟩=false:=by kernel_rfl
theorem t21:Sh.tightens ⟨#[115,110,100]⟩=false:=by kernel_rfl
theorem c22:Sh.closes ⟨#[114,101,108,101,97,115,101]⟩=false:=by kernel_rfl
theorem t22:Sh.tightens ⟨#[114,101,108,101,97,115,101]⟩=false:=by kernel_rfl
theorem c23:Sh.closes ⟨#[33]⟩=false:=by kernel_rfl
theorem t23:Sh.tightens ⟨#[33]⟩=true:=by kernel_rfl
theorem c24:Sh.closes ⟨#[116,114,117,101]⟩=false:=by kernel_rfl
theorem t24:Sh.tightens ⟨#[116,114,117,101]⟩=false:=by kernel_rfl
theorem c25:Sh.closes ⟨#[102,97,108,115,101]⟩=false:=by kernel_rfl
theorem t25:Sh.tightens ⟨#[102,97,108,115,101]⟩=false:=by kernel_rfl
theorem c26:Sh.closes ⟨#[104,111,108,101]⟩=false:=by kernel_rfl
theorem t26:Sh.tightens ⟨#[104,111,108,101]⟩=false:=by kernel_rfl
def sp (s:Sh.St):B:=if s.tg=true then [] else [32]
theorem tok_eq (s:Sh.St)(x:ByteArray):Sh.tok s x=⟨s.bs++(if (!s.tg && !Sh.closes x)=true then [32] else [])++x.data.toList,Sh.tightens x⟩:=rfl
theorem tok_go {s:Sh.St}{x:ByteArray}(h:Sh.closes x=false):Sh.tok s x=⟨s.bs++sp s++x.data.toList,Sh.tightens x⟩:=by
 rw [tok_eq,h];unfold sp;cases s.tg <;> rfl
theorem tok_cls {s:Sh.St}{x:ByteArray}(h:Sh.closes x=true):Sh.tok s x=⟨s.bs++x.data.toList,Sh.tightens x⟩:=by
 rw [tok_eq,h];cases s.tg <;> simp
section
variable {ms:List Nd} {f:Nd->Sh.St->Sh.St} {g:Nd->B}
theorem brk_go {n:Nd}(h:∀ s,f n s=⟨s.bs++sp s++g n,false⟩)(b:Bool)(s:Sh.St):Sh.brk (f n) b s=⟨s.bs++sp s++(if b=true then bk (g n) else g n),false⟩:=by
 cases b with
 | false=>simp only [Sh.brk,Bool.false_eq_true,if_false];exact h s
 | true =>
  simp only [Sh.brk,if_true];rw [h,tok_go (x:=Sh.opn) (by kernel_rfl),tok_cls (x:=Sh.cls) (by kernel_rfl)]
  show (⟨((s.bs++sp s++[40])++sp ⟨_,true⟩++g n)++[41],_⟩:Sh.St)=⟨s.bs++sp s++bk (g n),false⟩
  have e:Sh.tightens Sh.cls=false:=by kernel_rfl
  rw [e];simp [sp,bk]
theorem list_go {kids:List Int}(h:∀ k∈kids,∀ l s,Sh.part ms f k l s=⟨s.bs++sp s++part ms g k l,false⟩):∀ (b:Bool) (s:Sh.St),s.tg=b->∃ t,Sh.listGo ms f b kids s=⟨s.bs++listGo ms g b kids,t⟩:=by
 induction kids with
 | nil=>intro b s hb;exact ⟨s.tg,by simp [Sh.listGo,listGo]⟩
 | cons k l ih =>
  intro b s hb;have hc:Sh.closes ⟨#[44]⟩=true:=by kernel_rfl
  have ht:Sh.tightens ⟨#[44]⟩=false:=by kernel_rfl
  cases b with
  | true =>
   obtain ⟨t,ht⟩:=ih (fun k hk=>h k (List.mem_cons_of_mem _ hk)) false (⟨s.bs++sp s++part ms g k 0,false⟩) rfl;refine ⟨t, ?_⟩;rw [Sh.listGo,if_pos rfl,h k (List.mem_cons_self ..),ht,listGo];simp [sp,hb]
  | false =>
   obtain ⟨t,ht'⟩:=ih (fun k hk=>h k (List.mem_cons_of_mem _ hk)) false (⟨(s.bs++[44])++[32]++part ms g k 0,false⟩) rfl;refine ⟨t, ?_⟩;rw [Sh.listGo,if_neg (by decide),h k (List.mem_cons_self ..),tok_cls hc,ht,listGo];have e:sp (⟨s.bs++(⟨#[44]⟩:ByteArray).data.toList,false⟩:Sh.St)=[32]:=rfl;rw [e];simp only [List.append_assoc,List.cons_append,List.nil_append] at ht' ⊢;exact ht'.trans (by simp)
theorem lst_go {kids:List Int}(h:∀ k∈kids,∀ l s,Sh.part ms f k l s=⟨s.bs++sp s++part ms g k l,false⟩)(s:Sh.St):Sh.list ms f kids s=⟨s.bs++sp s++list ms g kids,false⟩:=by
 unfold Sh.list list;rw [tok_go (s:=s) (x:=Sh.opn) (by kernel_rfl)];obtain ⟨t,e⟩:=list_go h true ⟨s.bs++sp s++Sh.opn.data.toList,Sh.tightens Sh.opn⟩ (by kernel_rfl);rw [e,tok_cls (x:=Sh.cls) (by kernel_rfl)];have e2:Sh.tightens Sh.cls=false:=by kernel_rfl
 rw [e2];simp [bk,Sh.opn,Sh.cls]
end
theorem sp_f (l:B):sp ⟨l,false⟩=[32]:=rfl
theorem sp_t (l:B):sp ⟨l,true⟩=[]:=rfl
theorem node_go {ms:List Nd}{f:Nd->Sh.St->Sh.St}{g:Nd->B}{e:Nd->Bool}{n:Nd}(hw:Sh.well n=true)(hc:Sh.closes n.name=false)(ht:Sh.tightens n.name=false)(hdc:Sh.closes (dig n.num)=false)(hdt:Sh.tightens (dig n.num)=false)
  (h:∀ k∈n.kids,∀ s,f (nd ms k.toNat) s=⟨s.bs++sp s++g (nd ms k.toNat),false⟩) (s:Sh.St):Sh.nodeF ms f e dig n s=⟨s.bs++sp s++nodeF ms g e n,false⟩:=by
 have hP:∀ k∈n.kids,∀ l s,Sh.part ms f k l s=⟨s.bs++sp s++part ms g k l,false⟩:=fun k hk l s=>brk_go (h k hk) _ s;have hS:∀ k∈n.kids,∀ s,Sh.semi ms f e k s=⟨s.bs++sp s++semi ms g e k,false⟩:=fun k hk s=>brk_go (h k hk) _ s;have hL:=lst_go hP;have hPk:∀ j,j<n.kids.length->∀ l s,Sh.part ms f (kid n.kids j) l s=⟨s.bs++sp s++part ms g (kid n.kids j) l,false⟩:=fun j hj=>hP _ (kid_mem hj);have hSk:0<n.kids.length->∀ s,Sh.semi ms f e (kid n.kids 0) s=⟨s.bs++sp s++semi ms g e (kid n.kids 0),false⟩:=fun hj=>hS _ (kid_mem hj);have hdd:(dig n.num).data.toList=Lib.itoa n.num:=by simp [dig]
 by_cases hn:n.op∈opList
 ·obtain ⟨op,line,col,name,num,kids⟩:=n;simp only at hc ht hdc hdt hL hPk hSk hdd hn;unfold nodeF;simp only [opList,List.mem_cons,List.not_mem_nil,or_false] at hn
  rcases hn with rfl | rfl | rfl | rfl | rfl | rfl | rfl | rfl | rfl | rfl | rfl | rfl | rfl | rfl | rfl | rfl | rfl | rfl | rfl | rfl | rfl | rfl | rfl | rfl | rfl | rfl | rfl | rfl
  ·have hk:kids.length=2:=by have:=well_kids (a:=0) (b:=2) hw (by kernel_rfl) (by decide);simp only at this;omega
   rw [x0,r0];simp [sp_f,hSk (by omega),tok_cls c0,t0,hPk 1 (by omega)]
  ·have hk:kids.length=3:=by have:=well_kids (a:=1) (b:=3) hw (by kernel_rfl) (by decide);simp only at this;omega
   rw [x1,r1];simp [sp_f,tok_go c1,t1,hPk 0 (by omega),tok_go c2,t2,hPk 1 (by omega),tok_go c3,t3,hPk 2 (by omega)]
  ·have hk:kids.length=2:=by have:=well_kids (a:=1) (b:=2) hw (by kernel_rfl) (by decide);simp only at this;omega
   rw [x2,r2];simp [Sh.tokens,sp_f,tok_go c4,t4,tok_go hc,ht,tok_go c5,t5,hPk 0 (by omega),tok_go c6,t6,hPk 1 (by omega)]
  ·have hk:kids.length=2:=by have:=well_kids (a:=1) (b:=2) hw (by kernel_rfl) (by decide);simp only at this;omega
   rw [x3,r3];simp [Sh.tokens,sp_f,tok_go c7,t7,hPk 0 (by omega),tok_go c8,t8,tok_go hc,ht,tok_go c9,t9,hPk 1 (by omega)]
  ·have hk:kids.length=1:=by have:=well_kids (a:=1) (b:=1) hw (by kernel_rfl) (by decide);simp only at this;omega
   rw [x4,r4];simp [Sh.tokens,sp_f,tok_go c10,t10,tok_go hc,ht,hPk 0 (by omega)]
  ·have hk:kids.length=1:=by have:=well_kids (a:=1) (b:=1) hw (by kernel_rfl) (by decide);simp only at this;omega
   rw [x5,r5];simp [Sh.tokens,sp_f,tok_go hc,ht,tok_go c11,t11,hPk 0 (by omega)]
  ·rw [x6,r6];simp [Sh.tokens,sp_f,tok_go c12,t12,tok_go hc,ht]
  ·have hk:kids.length=2:=by have:=well_kids (a:=2) (b:=2) hw (by kernel_rfl) (by decide);simp only at this;omega
   rw [x7,r7];simp [sp_f,hPk 0 (by omega),tok_go c13,t13,hPk 1 (by omega)]
  ·have hk:kids.length=2:=by have:=well_kids (a:=3) (b:=2) hw (by kernel_rfl) (by decide);simp only at this;omega
   rw [x8,r8];simp [sp_f,hPk 0 (by omega),tok_go c14,t14,hPk 1 (by omega)]
  ·have hk:kids.length=2:=by have:=well_kids (a:=4) (b:=2) hw (by kernel_rfl) (by decide);simp only at this;omega
   rw [x9,r9];simp [sp_f,hPk 0 (by omega),tok_go c5,t5,hPk 1 (by omega)]
  ·have hk:kids.length=2:=by have:=well_kids (a:=4) (b:=2) hw (by kernel_rfl) (by decide);simp only at this;omega
   rw [x10,r10];simp [sp_f,hPk 0 (by omega),tok_go c15,t15,hPk 1 (by omega)]
  ·have hk:kids.length=2:=by have:=well_kids (a:=5) (b:=2) hw (by kernel_rfl) (by decide);simp only at this;omega
   rw [x11,r11];simp [sp_f,hPk 0 (by omega),tok_go c16,t16,hPk 1 (by omega)]
  ·have hk:kids.length=2:=by have:=well_kids (a:=5) (b:=2) hw (by kernel_rfl) (by decide);simp only at this;omega
   rw [x12,r12];simp [sp_f,hPk 0 (by omega),tok_go c17,t17,hPk 1 (by omega)]
  ·have hk:kids.length=2:=by have:=well_kids (a:=6) (b:=2) hw (by kernel_rfl) (by decide);simp only at this;omega
   rw [x13,r13];simp [sp_f,hPk 0 (by omega),tok_go c18,t18,hPk 1 (by omega)]
  ·rw [x14,r14];simp [hL]
  ·have hk:kids.length=1:=by have:=well_kids (a:=7) (b:=1) hw (by kernel_rfl) (by decide);simp only at this;omega
   rw [x15,r15];simp [sp_f,tok_go c17,t17,hPk 0 (by omega)]
  ·have hk:kids.length=1:=by have:=well_kids (a:=7) (b:=1) hw (by kernel_rfl) (by decide);simp only at this;omega
   rw [x16,r16];simp [sp_f,tok_go c19,t19,hPk 0 (by omega)]
  ·have hk:kids.length=1:=by have:=well_kids (a:=7) (b:=1) hw (by kernel_rfl) (by decide);simp only at this;omega
   rw [x17,r17];simp [sp_f,tok_go c20,t20,hPk 0 (by omega)]
  ·have hk:kids.length=1:=by have:=well_kids (a:=7) (b:=1) hw (by kernel_rfl) (by decide);simp only at this;omega
   rw [x18,r18];simp [sp_f,tok_go c21,t21,hPk 0 (by omega)]
  ·rw [x19,r19];simp [Sh.tokens,sp_f,tok_go c22,t22,tok_go hc,ht,hL]
  ·rw [x20,r20];simp [Sh.tokens,sp_t,tok_go c23,t23,tok_go hc,ht]
  ·rw [x21,r21];simp [tok_go c24,t24]
  ·rw [x22,r22];simp [tok_go c25,t25]
  ·rw [x23,r23];simp [Sh.tokens,sp_f,tok_go c26,t26,tok_go hc,ht]
  ·rw [x24,r24];simp [hL]
  ·rw [x25,r25];simp [tok_go hdc,hdd,hdt]
  ·rw [x26,r26];simp [tok_go hc,ht]
  ·rw [x27,r27];simp [sp_t,tok_go hc,ht,hL]
 ·unfold Sh.well at hw;rw [form_no hn] at hw;simp at hw
end Go.Proofs.YtninlbknklbofaaGreatDoor.Rt
