/- A part of the proof: Each operation's text as tokens and parts; what is the same has the same text; how long it is. -/
import Derived.Test.YtninlbknklbofaaGreatDoorExprS
import Derived.Lib.ItoaLen
set_option linter.unusedSimpArgs false
set_option linter.unusedVariables false
namespace Go.Proofs.YtninlbknklbofaaGreatDoor
open Tn
section
variable (ms:List Nd) (f:Nd->Sh.St->Sh.St) (e:Nd->Bool) (line col num:Int) (name:ByteArray) (kids:List Int) (s:Sh.St)
theorem x0:Sh.nodeF ms f e dig ⟨⟨#[115,101,113]⟩,line,col,name,num,kids⟩ s=(Sh.part ms f (kid kids 1) 0 (Sh.tok (Sh.semi ms f e (kid kids 0) s) ⟨#[59]⟩)):=by kernel_rfl
theorem x1:Sh.nodeF ms f e dig ⟨⟨#[105,102]⟩,line,col,name,num,kids⟩ s=(Sh.part ms f (kid kids 2) 1 (Sh.tok (Sh.part ms f (kid kids 1) 1 (Sh.tok (Sh.part ms f (kid kids 0) 0 (Sh.tok s ⟨#[105,102]⟩)) ⟨#[116,104,101,110]⟩)) ⟨#[101,108,115,101]⟩)):=by kernel_rfl
theorem x2:Sh.nodeF ms f e dig ⟨⟨#[108,101,116]⟩,line,col,name,num,kids⟩ s=(Sh.part ms f (kid kids 1) 0 (Sh.tok (Sh.part ms f (kid kids 0) 0 (Sh.tokens s [⟨#[108,101,116]⟩,name,⟨#[61]⟩])) ⟨#[105,110]⟩)):=by kernel_rfl
theorem x3:Sh.nodeF ms f e dig ⟨⟨#[116,114,121]⟩,line,col,name,num,kids⟩ s=(Sh.part ms f (kid kids 1) 1 (Sh.tokens (Sh.part ms f (kid kids 0) 0 (Sh.tok s ⟨#[116,114,121]⟩)) [⟨#[119,105,116,104]⟩,name,⟨#[45,62]⟩])):=by kernel_rfl
theorem x4:Sh.nodeF ms f e dig ⟨⟨#[111,117,116]⟩,line,col,name,num,kids⟩ s=(Sh.part ms f (kid kids 0) 2 (Sh.tokens s [⟨#[111,117,116]⟩,name])):=by kernel_rfl
theorem x5:Sh.nodeF ms f e dig ⟨⟨#[115,101,116]⟩,line,col,name,num,kids⟩ s=(Sh.part ms f (kid kids 0) 2 (Sh.tokens s [name,⟨#[58,61]⟩])):=by kernel_rfl
theorem x6:Sh.nodeF ms f e dig ⟨⟨#[114,97,105,115,101]⟩,line,col,name,num,kids⟩ s=(Sh.tokens s [⟨#[114,97,105,115,101]⟩,name]):=by kernel_rfl
theorem x7:Sh.nodeF ms f e dig ⟨⟨#[111,114]⟩,line,col,name,num,kids⟩ s=(Sh.part ms f (kid kids 1) 3 (Sh.tok (Sh.part ms f (kid kids 0) 2 s) ⟨#[111,114]⟩)):=by kernel_rfl
theorem x8:Sh.nodeF ms f e dig ⟨⟨#[97,110,100]⟩,line,col,name,num,kids⟩ s=(Sh.part ms f (kid kids 1) 4 (Sh.tok (Sh.part ms f (kid kids 0) 3 s) ⟨#[97,110,100]⟩)):=by kernel_rfl
theorem x9:Sh.nodeF ms f e dig ⟨⟨#[61]⟩,line,col,name,num,kids⟩ s=(Sh.part ms f (kid kids 1) 5 (Sh.tok (Sh.part ms f (kid kids 0) 5 s) ⟨#[61]⟩)):=by kernel_rfl
theorem x10:Sh.nodeF ms f e dig ⟨⟨#[60]⟩,line,col,name,num,kids⟩ s=(Sh.part ms f (kid kids 1) 5 (Sh.tok (Sh.part ms f (kid kids 0) 5 s) ⟨#[60]⟩)):=by kernel_rfl
theorem x11:Sh.nodeF ms f e dig ⟨⟨#[43]⟩,line,col,name,num,kids⟩ s=(Sh.part ms f (kid kids 1) 6 (Sh.tok (Sh.part ms f (kid kids 0) 5 s) ⟨#[43]⟩)):=by kernel_rfl
theorem x12:Sh.nodeF ms f e dig ⟨⟨#[45]⟩,line,col,name,num,kids⟩ s=(Sh.part ms f (kid kids 1) 6 (Sh.tok (Sh.part ms f (kid kids 0) 5 s) ⟨#[45]⟩)):=by kernel_rfl
theorem x13:Sh.nodeF ms f e dig ⟨⟨#[42]⟩,line,col,name,num,kids⟩ s=(Sh.part ms f (kid kids 1) 7 (Sh.tok (Sh.part ms f (kid kids 0) 6 s) ⟨#[42]⟩)):=by kernel_rfl
theorem x14:Sh.nodeF ms f e dig ⟨⟨#[112,97,105,114]⟩,line,col,name,num,kids⟩ s=(Sh.list ms f kids s):=by kernel_rfl
theorem x15:Sh.nodeF ms f e dig ⟨⟨#[110,101,103]⟩,line,col,name,num,kids⟩ s=(Sh.part ms f (kid kids 0) 7 (Sh.tok s ⟨#[45]⟩)):=by kernel_rfl
theorem x16:Sh.nodeF ms f e dig ⟨⟨#[110,111,116]⟩,line,col,name,num,kids⟩ s=(Sh.part ms f (kid kids 0) 7 (Sh.tok s ⟨#[110,111,116]⟩)):=by kernel_rfl
theorem x17:Sh.nodeF ms f e dig ⟨⟨#[102,115,116]⟩,line,col,name,num,kids⟩ s=(Sh.part ms f (kid kids 0) 7 (Sh.tok s ⟨#[102,115,116]⟩)):=by kernel_rfl
theorem x18:Sh.nodeF ms f e dig ⟨⟨#[115,110,100]⟩,line,col,name,num,kids⟩ s=(Sh.part ms f (kid kids 0) 7 (Sh.tok s ⟨#[115,110,100]⟩)):=by kernel_rfl
theorem x19:Sh.nodeF ms f e dig ⟨⟨#[114,101,108,101,97,115,101]⟩,line,col,name,num,kids⟩ s=(Sh.list ms f kids (Sh.tokens s [⟨#[114,101,108,101,97,115,101]⟩,name])):=by kernel_rfl
theorem x20:Sh.nodeF ms f e dig ⟨⟨#[103,101,116]⟩,line,col,name,num,kids⟩ s=(Sh.tokens s [⟨#[33]⟩,name]):=by kernel_rfl
theorem x21:Sh.nodeF ms f e dig ⟨⟨#[116,114,117,101]⟩,line,col,name,num,kids⟩ s=(Sh.tok s ⟨#[116,114,117,101]⟩):=by kernel_rfl
theorem x22:Sh.nodeF ms f e dig ⟨⟨#[102,97,108,115,101]⟩,line,col,name,num,kids⟩ s=(Sh.tok s ⟨#[102,97,108,115,101]⟩):=by kernel_rfl
theorem x23:Sh.nodeF ms f e dig ⟨⟨#[104,111,108,101]⟩,line,col,name,num,kids⟩ s=(Sh.tokens s [⟨#[104,111,108,101]⟩,name]):=by kernel_rfl
theorem x24:Sh.nodeF ms f e dig ⟨⟨#[117,110,105,116]⟩,line,col,name,num,kids⟩ s=(Sh.list ms f kids s):=by kernel_rfl
theorem x25:Sh.nodeF ms f e dig ⟨⟨#[105,110,116]⟩,line,col,name,num,kids⟩ s=(Sh.tok s (dig num)):=by kernel_rfl
theorem x26:Sh.nodeF ms f e dig ⟨⟨#[118,97,114]⟩,line,col,name,num,kids⟩ s=(Sh.tok s name):=by kernel_rfl
theorem x27:Sh.nodeF ms f e dig ⟨⟨#[99,97,108,108]⟩,line,col,name,num,kids⟩ s=(Sh.list ms f kids (Sh.St.mk (Sh.tok s name).bs true)):=by kernel_rfl
end
theorem tok_up (s:Sh.St)(x:ByteArray)(k:Nat)(h:x.size<=k):(Sh.tok s x).bs.length<=s.bs.length+(k+1):=by have:=Sh.tok_ge s x;omega
theorem toks2_up (s:Sh.St)(x y:ByteArray)(a b:Nat)(h:x.size<=a)(h2:y.size<=b):(Sh.tokens s [x,y]).bs.length<=s.bs.length+(a+b+2):=by
 have:=tok_up s x a h;have:=tok_up (Sh.tok s x) y b h2
 show (Sh.tok (Sh.tok s x) y).bs.length<=_;omega
theorem toks3_up (s:Sh.St)(x y z:ByteArray)(a b c:Nat)(h:x.size<=a)(h2:y.size<=b)(h3:z.size<=c):(Sh.tokens s [x,y,z]).bs.length<=s.bs.length+(a+b+c+3):=by
 have:=toks2_up s x y a b h h2;have:=tok_up (Sh.tokens s [x,y]) z c h3
 show (Sh.tok (Sh.tokens s [x,y]) z).bs.length<=_;omega
theorem plist_up {ms:List Nd}{f:Nd->Sh.St->Sh.St}(kids:List Int)(hp:∀ j,j<kids.length->∀ l s,(Sh.part ms f (kid kids j) l s).bs.length+6<=s.bs.length+300*(Pl ms (kid kids j).toNat).length)(s:Sh.St):
  ∀ j,j<=kids.length->(Sh.listGo ms f true (kids.take j) s).bs.length<=s.bs.length+300*(partPl ms kids j).length
 | 0,_=>by simp [Sh.listGo,partPl]
 | j+1,h=>by
  have ih:=plist_up kids hp s j (by omega);rw [Sh.listGo_step (by omega),partPl_succ ms (by omega),List.length_append];have hq:=hp j (by omega) 0 (if j=0 then Sh.listGo ms f true (kids.take j) s else Sh.tok (Sh.listGo ms f true (kids.take j) s) ⟨#[44]⟩);have ht:=tok_up (Sh.listGo ms f true (kids.take j) s) ⟨#[44]⟩ 1 (by decide)
  by_cases h0:j=0
  ·rw [if_pos h0] at hq ⊢;omega
  ·rw [if_neg h0] at hq ⊢;omega
theorem nodeF_up {ms:List Nd}{f:Nd->Sh.St->Sh.St}{e:Nd->Bool}{n:Nd}(hw:Sh.well n=true)(hname:n.name.size<=40)(h0 : -9223372036854775808<=n.num)(h1:n.num<=9223372036854775807)
  (hp:∀ j,j<n.kids.length->∀ l s,(Sh.part ms f (kid n.kids j) l s).bs.length+6<=s.bs.length+300*(Pl ms (kid n.kids j).toNat).length)
  (hs:0<n.kids.length->∀ s,(Sh.semi ms f e (kid n.kids 0) s).bs.length+6<=s.bs.length+300*(Pl ms (kid n.kids 0).toNat).length) (s:Sh.St):
  (Sh.nodeF ms f e dig n s).bs.length+10<=s.bs.length+300*((partPl ms n.kids n.kids.length).length+1):=by
 have hd:(dig n.num).size<=21:=by
  have:=Lib.itoa_length_le n.num h0 h1
  show (Lib.itoa n.num).toArray.size<=21
  simpa using this
 have hL:∀ s,(Sh.list ms f n.kids s).bs.length<=s.bs.length+4+300*(partPl ms n.kids n.kids.length).length:=fun s=>by
  have a:=tok_up s Sh.opn 1 (by decide);have b:=plist_up n.kids hp (Sh.tok s Sh.opn) n.kids.length (Nat.le_refl _);rw [List.take_length] at b;have c:=tok_up (Sh.listGo ms f true n.kids (Sh.tok s Sh.opn)) Sh.cls 1 (by decide)
  show (Sh.tok (Sh.listGo ms f true n.kids (Sh.tok s Sh.opn)) Sh.cls).bs.length<=_
  omega
 by_cases hn:n.op∈opList
 ·obtain ⟨op,line,col,name,num,kids⟩:=n;simp only at hname hd hp hs hL hn ⊢;simp only [opList,List.mem_cons,List.not_mem_nil,or_false] at hn
  rcases hn with rfl | rfl | rfl | rfl | rfl | rfl | rfl | rfl | rfl | rfl | rfl | rfl | rfl | rfl | rfl | rfl | rfl | rfl | rfl | rfl | rfl | rfl | rfl | rfl | rfl | rfl | rfl | rfl
  ·have hk:kids.length=2:=by have:=well_kids (a:=0) (b:=2) hw (by kernel_rfl) (by decide);simp only at this;omega
   have p0:=partPl_succ ms (ks:=kids) (j:=0) (by omega);have p1:=partPl_succ ms (ks:=kids) (j:=1) (by omega);have pz:(partPl ms kids 0).length=0:=rfl;have q:=fun j (h:j<kids.length)=>congrArg List.length (partPl_succ ms (ks:=kids) h);simp only [List.length_append] at q;have q0:=q 0 (by omega);have q1:=q 1 (by omega);simp only [Nat.zero_add,Nat.reduceAdd] at q0 q1;rw [hk];rw [x0];have a1:=hs (by omega) s;generalize Sh.semi ms f e (kid kids 0) s=s1 at *;have a2:=tok_up s1 ⟨#[59]⟩ 1 (by decide);generalize Sh.tok s1 ⟨#[59]⟩=s2 at *;have a3:=hp 1 (by omega) 0 s2;generalize Sh.part ms f (kid kids 1) 0 s2=s3 at *;omega
  ·have hk:kids.length=3:=by have:=well_kids (a:=1) (b:=3) hw (by kernel_rfl) (by decide);simp only at this;omega
   have p0:=partPl_succ ms (ks:=kids) (j:=0) (by omega);have p1:=partPl_succ ms (ks:=kids) (j:=1) (by omega);have p2:=partPl_succ ms (ks:=kids) (j:=2) (by omega);have pz:(partPl ms kids 0).length=0:=rfl;have q:=fun j (h:j<kids.length)=>congrArg List.length (partPl_succ ms (ks:=kids) h);simp only [List.length_append] at q;have q0:=q 0 (by omega);have q1:=q 1 (by omega);have q2:=q 2 (by omega);simp only [Nat.zero_add,Nat.reduceAdd] at q0 q1 q2;rw [hk];rw [x1];have a1:=tok_up s ⟨#[105,102]⟩ 2 (by decide);generalize Sh.tok s ⟨#[105,102]⟩=s1 at *;have a2:=hp 0 (by omega) 0 s1;generalize Sh.part ms f (kid kids 0) 0 s1=s2 at *;have a3:=tok_up s2 ⟨#[116,104,101,110]⟩ 4 (by decide);generalize Sh.tok s2 ⟨#[116,104,101,110]⟩=s3 at *;have a4:=hp 1 (by omega) 1 s3;generalize Sh.part ms f (kid kids 1) 1 s3=s4 at *;have a5:=tok_up s4 ⟨#[101,108,115,101]⟩ 4 (by decide);generalize Sh.tok s4 ⟨#[101,108,115,101]⟩=s5 at *;have a6:=hp 2 (by omega) 1 s5;generalize Sh.part ms f (kid kids 2) 1 s5=s6 at *;omega
  ·have hk:kids.length=2:=by have:=well_kids (a:=1) (b:=2) hw (by kernel_rfl) (by decide);simp only at this;omega
   have p0:=partPl_succ ms (ks:=kids) (j:=0) (by omega);have p1:=partPl_succ ms (ks:=kids) (j:=1) (by omega);have pz:(partPl ms kids 0).length=0:=rfl;have q:=fun j (h:j<kids.length)=>congrArg List.length (partPl_succ ms (ks:=kids) h);simp only [List.length_append] at q;have q0:=q 0 (by omega);have q1:=q 1 (by omega);simp only [Nat.zero_add,Nat.reduceAdd] at q0 q1;rw [hk];rw [x2];have a1:=toks3_up s ⟨#[108,101,116]⟩ name ⟨#[61]⟩ 3 40 1 (by decide) hname (by decide);generalize Sh.tokens s [⟨#[108,101,116]⟩,name,⟨#[61]⟩]=s1 at *;have a2:=hp 0 (by omega) 0 s1;generalize Sh.part ms f (kid kids 0) 0 s1=s2 at *;have a3:=tok_up s2 ⟨#[105,110]⟩ 2 (by decide);generalize Sh.tok s2 ⟨#[105,110]⟩=s3 at *;have a4:=hp 1 (by omega) 0 s3;generalize Sh.part ms f (kid kids 1) 0 s3=s4 at *;omega
  ·have hk:kids.length=2:=by have:=well_kids (a:=1) (b:=2) hw (by kernel_rfl) (by decide);simp only at this;omega
   have p0:=partPl_succ ms (ks:=kids) (j:=0) (by omega);have p1:=partPl_succ ms (ks:=kids) (j:=1) (by omega);have pz:(partPl ms kids 0).length=0:=rfl;have q:=fun j (h:j<kids.length)=>congrArg List.length (partPl_succ ms (ks:=kids) h);simp only [List.length_append] at q;have q0:=q 0 (by omega);have q1:=q 1 (by omega);simp only [Nat.zero_add,Nat.reduceAdd] at q0 q1;rw [hk];rw [x3];have a1:=tok_up s ⟨#[116,114,121]⟩ 3 (by decide);generalize Sh.tok s ⟨#[116,114,121]⟩=s1 at *;have a2:=hp 0 (by omega) 0 s1;generalize Sh.part ms f (kid kids 0) 0 s1=s2 at *;have a3:=toks3_up s2 ⟨#[119,105,116,104]⟩ name ⟨#[45,62]⟩ 4 40 2 (by decide) hname (by decide);generalize Sh.tokens s2 [⟨#[119,105,116,104]⟩,name,⟨#[45,62]⟩]=s3 at *;have a4:=hp 1 (by omega) 1 s3;generalize Sh.part ms f (kid kids 1) 1 s3=s4 at *;omega
  ·have hk:kids.length=1:=by have:=well_kids (a:=1) (b:=1) hw (by kernel_rfl) (by decide);simp only at this;omega
   have p0:=partPl_succ ms (ks:=kids) (j:=0) (by omega);have pz:(partPl ms kids 0).length=0:=rfl;have q:=fun j (h:j<kids.length)=>congrArg List.length (partPl_succ ms (ks:=kids) h);simp only [List.length_append] at q;have q0:=q 0 (by omega);simp only [Nat.zero_add,Nat.reduceAdd] at q0;rw [hk];rw [x4];have a1:=toks2_up s ⟨#[111,117,116]⟩ name 3 40 (by decide) hname;generalize Sh.tokens s [⟨#[111,117,116]⟩,name]=s1 at *;have a2:=hp 0 (by omega) 2 s1;generalize Sh.part ms f (kid kids 0) 2 s1=s2 at *;omega
  ·have hk:kids.length=1:=by have:=well_kids (a:=1) (b:=1) hw (by kernel_rfl) (by decide);simp only at this;omega
   have p0:=partPl_succ ms (ks:=kids) (j:=0) (by omega);have pz:(partPl ms kids 0).length=0:=rfl;have q:=fun j (h:j<kids.length)=>congrArg List.length (partPl_succ ms (ks:=kids) h);simp only [List.length_append] at q;have q0:=q 0 (by omega);simp only [Nat.zero_add,Nat.reduceAdd] at q0;rw [hk];rw [x5];have a1:=toks2_up s name ⟨#[58,61]⟩ 40 2 hname (by decide);generalize Sh.tokens s [name,⟨#[58,61]⟩]=s1 at *;have a2:=hp 0 (by omega) 2 s1;generalize Sh.part ms f (kid kids 0) 2 s1=s2 at *;omega
  ·rw [x6];have a1:=toks2_up s ⟨#[114,97,105,115,101]⟩ name 5 40 (by decide) hname;generalize Sh.tokens s [⟨#[114,97,105,115,101]⟩,name]=s1 at *;omega
  ·have hk:kids.length=2:=by have:=well_kids (a:=2) (b:=2) hw (by kernel_rfl) (by decide);simp only at this;omega
   have p0:=partPl_succ ms (ks:=kids) (j:=0) (by omega);have p1:=partPl_succ ms (ks:=kids) (j:=1) (by omega);have pz:(partPl ms kids 0).length=0:=rfl;have q:=fun j (h:j<kids.length)=>congrArg List.length (partPl_succ ms (ks:=kids) h);simp only [List.length_append] at q;have q0:=q 0 (by omega);have q1:=q 1 (by omega);simp only [Nat.zero_add,Nat.reduceAdd] at q0 q1;rw [hk];rw [x7];have a1:=hp 0 (by omega) 2 s;generalize Sh.part ms f (kid kids 0) 2 s=s1 at *;have a2:=tok_up s1 ⟨#[111,114]⟩ 2 (by decide);generalize Sh.tok s1 ⟨#[111,114]⟩=s2 at *;have a3:=hp 1 (by omega) 3 s2;generalize Sh.part ms f (kid kids 1) 3 s2=s3 at *;omega
  ·have hk:kids.length=2:=by have:=well_kids (a:=3) (b:=2) hw (by kernel_rfl) (by decide);simp only at this;omega
   have p0:=partPl_succ ms (ks:=kids) (j:=0) (by omega);have p1:=partPl_succ ms (ks:=kids) (j:=1) (by omega);have pz:(partPl ms kids 0).length=0:=rfl;have q:=fun j (h:j<kids.length)=>congrArg List.length (partPl_succ ms (ks:=kids) h);simp only [List.length_append] at q;have q0:=q 0 (by omega);have q1:=q 1 (by omega);simp only [Nat.zero_add,Nat.reduceAdd] at q0 q1;rw [hk];rw [x8];have a1:=hp 0 (by omega) 3 s;generalize Sh.part ms f (kid kids 0) 3 s=s1 at *;have a2:=tok_up s1 ⟨#[97,110,100]⟩ 3 (by decide);generalize Sh.tok s1 ⟨#[97,110,100]⟩=s2 at *;have a3:=hp 1 (by omega) 4 s2;generalize Sh.part ms f (kid kids 1) 4 s2=s3 at *;omega
  ·have hk:kids.length=2:=by have:=well_kids (a:=4) (b:=2) hw (by kernel_rfl) (by decide);simp only at this;omega
   have p0:=partPl_succ ms (ks:=kids) (j:=0) (by omega);have p1:=partPl_succ ms (ks:=kids) (j:=1) (by omega);have pz:(partPl ms kids 0).length=0:=rfl;have q:=fun j (h:j<kids.length)=>congrArg List.length (partPl_succ ms (ks:=kids) h);simp only [List.length_append] at q;have q0:=q 0 (by omega);have q1:=q 1 (by omega);simp only [Nat.zero_add,Nat.reduceAdd] at q0 q1;rw [hk];rw [x9];have a1:=hp 0 (by omega) 5 s;generalize Sh.part ms f (kid kids 0) 5 s=s1 at *;have a2:=tok_up s1 ⟨#[61]⟩ 1 (by decide);generalize Sh.tok s1 ⟨#[61]⟩=s2 at *;have a3:=hp 1 (by omega) 5 s2;generalize Sh.part ms f (kid kids 1) 5 s2=s3 at *;omega
  ·have hk:kids.length=2:=by have:=well_kids (a:=4) (b:=2) hw (by kernel_rfl) (by decide);simp only at this;omega
   have p0:=partPl_succ ms (ks:=kids) (j:=0) (by omega);have p1:=partPl_succ ms (ks:=kids) (j:=1) (by omega);have pz:(partPl ms kids 0).length=0:=rfl;have q:=fun j (h:j<kids.length)=>congrArg List.length (partPl_succ ms (ks:=kids) h);simp only [List.length_append] at q;have q0:=q 0 (by omega);have q1:=q 1 (by omega);simp only [Nat.zero_add,Nat.reduceAdd] at q0 q1;rw [hk];rw [x10];have a1:=hp 0 (by omega) 5 s;generalize Sh.part ms f (kid kids 0) 5 s=s1 at *;have a2:=tok_up s1 ⟨#[60]⟩ 1 (by decide);generalize Sh.tok s1 ⟨#[60]⟩=s2 at *;have a3:=hp 1 (by omega) 5 s2;generalize Sh.part ms f (kid kids 1) 5 s2=s3 at *;omega
  ·have hk:kids.length=2:=by have:=well_kids (a:=5) (b:=2) hw (by kernel_rfl) (by decide);simp only at this;omega
   have p0:=partPl_succ ms (ks:=kids) (j:=0) (by omega);have p1:=partPl_succ ms (ks:=kids) (j:=1) (by omega);have pz:(partPl ms kids 0).length=0:=rfl;have q:=fun j (h:j<kids.length)=>congrArg List.length (partPl_succ ms (ks:=kids) h);simp only [List.length_append] at q;have q0:=q 0 (by omega);have q1:=q 1 (by omega);simp only [Nat.zero_add,Nat.reduceAdd] at q0 q1;rw [hk];rw [x11];have a1:=hp 0 (by omega) 5 s;generalize Sh.part ms f (kid kids 0) 5 s=s1 at *;have a2:=tok_up s1 ⟨#[43]⟩ 1 (by decide);generalize Sh.tok s1 ⟨#[43]⟩=s2 at *;have a3:=hp 1 (by omega) 6 s2;generalize Sh.part ms f (kid kids 1) 6 s2=s3 at *;omega
  ·have hk:kids.length=2:=by have:=well_kids (a:=5) (b:=2) hw (by kernel_rfl) (by decide);simp only at this;omega
   have p0:=partPl_succ ms (ks:=kids) (j:=0) (by omega);have p1:=partPl_succ ms (ks:=kids) (j:=1) (by omega);have pz:(partPl ms kids 0).length=0:=rfl;have q:=fun j (h:j<kids.length)=>congrArg List.length (partPl_succ ms (ks:=kids) h);simp only [List.length_append] at q;have q0:=q 0 (by omega);have q1:=q 1 (by omega);simp only [Nat.zero_add,Nat.reduceAdd] at q0 q1;rw [hk];rw [x12];have a1:=hp 0 (by omega) 5 s;generalize Sh.part ms f (kid kids 0) 5 s=s1 at *;have a2:=tok_up s1 ⟨#[45]⟩ 1 (by decide);generalize Sh.tok s1 ⟨#[45]⟩=s2 at *;have a3:=hp 1 (by omega) 6 s2;generalize Sh.part ms f (kid kids 1) 6 s2=s3 at *;omega
  ·have hk:kids.length=2:=by have:=well_kids (a:=6) (b:=2) hw (by kernel_rfl) (by decide);simp only at this;omega
   have p0:=partPl_succ ms (ks:=kids) (j:=0) (by omega);have p1:=partPl_succ ms (ks:=kids) (j:=1) (by omega);have pz:(partPl ms kids 0).length=0:=rfl;have q:=fun j (h:j<kids.length)=>congrArg List.length (partPl_succ ms (ks:=kids) h);simp only [List.length_append] at q;have q0:=q 0 (by omega);have q1:=q 1 (by omega);simp only [Nat.zero_add,Nat.reduceAdd] at q0 q1;rw [hk];rw [x13];have a1:=hp 0 (by omega) 6 s;generalize Sh.part ms f (kid kids 0) 6 s=s1 at *;have a2:=tok_up s1 ⟨#[42]⟩ 1 (by decide);generalize Sh.tok s1 ⟨#[42]⟩=s2 at *;have a3:=hp 1 (by omega) 7 s2;generalize Sh.part ms f (kid kids 1) 7 s2=s3 at *;omega
  ·rw [x14];have a1:=hL s;generalize Sh.list ms f kids s=s1 at *;omega
  ·have hk:kids.length=1:=by have:=well_kids (a:=7) (b:=1) hw (by kernel_rfl) (by decide);simp only at this;omega
   have p0:=partPl_succ ms (ks:=kids) (j:=0) (by omega);have pz:(partPl ms kids 0).length=0:=rfl;have q:=fun j (h:j<kids.length)=>congrArg List.length (partPl_succ ms (ks:=kids) h);simp only [List.length_append] at q;have q0:=q 0 (by omega);simp only [Nat.zero_add,Nat.reduceAdd] at q0;rw [hk];rw [x15];have a1:=tok_up s ⟨#[45]⟩ 1 (by decide);generalize Sh.tok s ⟨#[45]⟩=s1 at *;have a2:=hp 0 (by omega) 7 s1;generalize Sh.part ms f (kid kids 0) 7 s1=s2 at *;omega
  ·have hk:kids.length=1:=by have:=well_kids (a:=7) (b:=1) hw (by kernel_rfl) (by decide);simp only at this;omega
   have p0:=partPl_succ ms (ks:=kids) (j:=0) (by omega);have pz:(partPl ms kids 0).length=0:=rfl;have q:=fun j (h:j<kids.length)=>congrArg List.length (partPl_succ ms (ks:=kids) h);simp only [List.length_append] at q;have q0:=q 0 (by omega);simp only [Nat.zero_add,Nat.reduceAdd] at q0;rw [hk];rw [x16];have a1:=tok_up s ⟨#[110,111,116]⟩ 3 (by decide);generalize Sh.tok s ⟨#[110,111,116]⟩=s1 at *;have a2:=hp 0 (by omega) 7 s1;generalize Sh.part ms f (kid kids 0) 7 s1=s2 at *;omega
  ·have hk:kids.length=1:=by have:=well_kids (a:=7) (b:=1) hw (by kernel_rfl) (by decide);simp only at this;omega
   have p0:=partPl_succ ms (ks:=kids) (j:=0) (by omega);have pz:(partPl ms kids 0).length=0:=rfl;have q:=fun j (h:j<kids.length)=>congrArg List.length (partPl_succ ms (ks:=kids) h);simp only [List.length_append] at q;have q0:=q 0 (by omega);simp only [Nat.zero_add,Nat.reduceAdd] at q0;rw [hk];rw [x17];have a1:=tok_up s ⟨#[102,115,116]⟩ 3 (by decide);generalize Sh.tok s ⟨#[102,115,116]⟩=s1 at *;have a2:=hp 0 (by omega) 7 s1;generalize Sh.part ms f (kid kids 0) 7 s1=s2 at *;omega
  ·have hk:kids.length=1:=by have:=well_kids (a:=7) (b:=1) hw (by kernel_rfl) (by decide);simp only at this;omega
   have p0:=partPl_succ ms (ks:=kids) (j:=0) (by omega);have pz:(partPl ms kids 0).length=0:=rfl;have q:=fun j (h:j<kids.length)=>congrArg List.length (partPl_succ ms (ks:=kids) h);simp only [List.length_append] at q;have q0:=q 0 (by omega);simp only [Nat.zero_add,Nat.reduceAdd] at q0;rw [hk];rw [x18];have a1:=tok_up s ⟨#[115,110,100]⟩ 3 (by decide);generalize Sh.tok s ⟨#[115,110,100]⟩=s1 at *;have a2:=hp 0 (by omega) 7 s1;generalize Sh.part ms f (kid kids 0) 7 s1=s2 at *;omega
  ·rw [x19];have a1:=toks2_up s ⟨#[114,101,108,101,97,115,101]⟩ name 7 40 (by decide) hname;generalize Sh.tokens s [⟨#[114,101,108,101,97,115,101]⟩,name]=s1 at *;have a2:=hL s1;generalize Sh.list ms f kids s1=s2 at *;omega
  ·rw [x20];have a1:=toks2_up s ⟨#[33]⟩ name 1 40 (by decide) hname;generalize Sh.tokens s [⟨#[33]⟩,name]=s1 at *;omega
  ·rw [x21];have a1:=tok_up s ⟨#[116,114,117,101]⟩ 4 (by decide);generalize Sh.tok s ⟨#[116,114,117,101]⟩=s1 at *;omega
  ·rw [x22];have a1:=tok_up s ⟨#[102,97,108,115,101]⟩ 5 (by decide);generalize Sh.tok s ⟨#[102,97,108,115,101]⟩=s1 at *;omega
  ·rw [x23];have a1:=toks2_up s ⟨#[104,111,108,101]⟩ name 4 40 (by decide) hname;generalize Sh.tokens s [⟨#[104,111,108,101]⟩,name]=s1 at *;omega
  ·rw [x24];have a1:=hL s;generalize Sh.list ms f kids s=s1 at *;omega
  ·rw [x25];have a1:=tok_up s (dig num) 21 hd;generalize Sh.tok s (dig num)=s1 at *;omega
  ·rw [x26];have a1:=tok_up s name 40 hname;generalize Sh.tok s name=s1 at *;omega
  ·rw [x27];have a1:=tok_up s name 40 hname;generalize Sh.tok s name=s1 at *;have a2:=(show (Sh.St.mk s1.bs true).bs.length<=s1.bs.length from Nat.le_refl _);generalize Sh.St.mk s1.bs true=s2 at *;have a3:=hL s2;generalize Sh.list ms f kids s2=s3 at *;omega
 ·unfold Sh.well at hw;rw [form_no hn] at hw;simp at hw
end Go.Proofs.YtninlbknklbofaaGreatDoor
