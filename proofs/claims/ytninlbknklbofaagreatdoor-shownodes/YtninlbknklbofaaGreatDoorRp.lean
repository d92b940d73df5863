/- A part of the proof: A part of the proof. -/
import Derived.Test.YtninlbknklbofaaGreatDoorRt
import Derived.Lib.ItoaLen
set_option linter.unusedSimpArgs false
set_option linter.unusedVariables false
set_option maxRecDepth 100000
set_option maxHeartbeats 4000000
namespace Go.Proofs.YtninlbknklbofaaGreatDoor.Rt
open Tn (Nd nd kid WF kid_lt kid_mem Pl partPl partPl_succ Pl_eq)
theorem pre_snoc_up (ms:List Nd)(g:Nd->Lx.B)(k:Int):∀ (l:List Int) (b:Bool),(listGo ms g b (l++[k])).length<=(listGo ms g b l).length+2+(part ms g k 0).length
 | [],b=>by cases b <;> simp [listGo] <;> omega
 | x :: l,b=>by
  rw [List.cons_append,listGo,listGo];have:=pre_snoc_up ms g k l false;simp only [List.length_append] at this ⊢;omega
theorem list_up {ms:List Nd}{g:Nd->Lx.B}(kids:List Int)(hp:∀ j,j<kids.length->∀ l,(part ms g (kid kids j) l).length+6<=4000*(Pl ms (kid kids j).toNat).length):
  ∀ j,j<=kids.length->(listGo ms g true (kids.take j)).length<=4000*(partPl ms kids j).length
 | 0,_=>by simp [listGo,partPl]
 | j+1,h=>by
  have ih:=list_up kids hp j (by omega);have e:kids.take (j+1)=kids.take j++[kid kids j]:=by
   rw [List.take_succ_eq_append_getElem (by omega)];simp [kid,List.getElem?_eq_getElem (show j<kids.length by omega)]
  rw [e,partPl_succ ms (by omega),List.length_append];have:=pre_snoc_up ms g (kid kids j) (kids.take j) true;have:=hp j (by omega) 0;omega
theorem nodeF_up {ms:List Nd}{g:Nd->Lx.B}{e:Nd->Bool}{n:Nd}(hw:Sh.well n=true)(hname:n.name.size<=2000)(h0 : -9223372036854775808<=n.num)(h1:n.num<=9223372036854775807)
  (hp:∀ j,j<n.kids.length->∀ l,(part ms g (kid n.kids j) l).length+6<=4000*(Pl ms (kid n.kids j).toNat).length)
  (hs:0<n.kids.length->(semi ms g e (kid n.kids 0)).length+6<=4000*(Pl ms (kid n.kids 0).toNat).length):
  (nodeF ms g e n).length+10<=4000*((partPl ms n.kids n.kids.length).length+1):=by
 have hd:(Lib.itoa n.num).length<=21:=Lib.itoa_length_le n.num h0 h1;have hL:(list ms g n.kids).length<=2+4000*(partPl ms n.kids n.kids.length).length:=by
  have b:=list_up n.kids hp n.kids.length (Nat.le_refl _);rw [List.take_length] at b;unfold list bk;simp only [List.length_cons,List.length_append,List.length_nil];omega
 have hnl:n.name.data.toList.length<=2000:=hname
 by_cases hn:n.op∈opList
 ·obtain ⟨op,line,col,name,num,kids⟩:=n;simp only at hnl hd hp hs hL hn;clear hname;unfold nodeF;simp only;simp only [opList,List.mem_cons,List.not_mem_nil,or_false] at hn
  rcases hn with rfl | rfl | rfl | rfl | rfl | rfl | rfl | rfl | rfl | rfl | rfl | rfl | rfl | rfl | rfl | rfl | rfl | rfl | rfl | rfl | rfl | rfl | rfl | rfl | rfl | rfl | rfl | rfl
  ·have hk:kids.length=2:=by have:=well_kids (a:=0) (b:=2) hw (by kernel_rfl) (by decide);simp only at this;omega
   have q:=fun j (h:j<kids.length)=>congrArg List.length (partPl_succ ms (ks:=kids) h);simp only [List.length_append] at q;have q0:=q 0 (by omega);have q1:=q 1 (by omega);simp only [Nat.zero_add,Nat.reduceAdd] at q0 q1;rw [hk];have a0:=hs (by omega);have a1:=hp 1 (by omega) 0;rw [r0];simp only [List.length_append,List.length_cons,List.length_nil];omega
  ·have hk:kids.length=3:=by have:=well_kids (a:=1) (b:=3) hw (by kernel_rfl) (by decide);simp only at this;omega
   have q:=fun j (h:j<kids.length)=>congrArg List.length (partPl_succ ms (ks:=kids) h);simp only [List.length_append] at q;have q0:=q 0 (by omega);have q1:=q 1 (by omega);have q2:=q 2 (by omega);simp only [Nat.zero_add,Nat.reduceAdd] at q0 q1 q2;rw [hk];have a0:=hp 0 (by omega) 0;have a1:=hp 1 (by omega) 1;have a2:=hp 2 (by omega) 1;rw [r1];simp only [List.length_append,List.length_cons,List.length_nil];omega
  ·have hk:kids.length=2:=by have:=well_kids (a:=1) (b:=2) hw (by kernel_rfl) (by decide);simp only at this;omega
   have q:=fun j (h:j<kids.length)=>congrArg List.length (partPl_succ ms (ks:=kids) h);simp only [List.length_append] at q;have q0:=q 0 (by omega);have q1:=q 1 (by omega);simp only [Nat.zero_add,Nat.reduceAdd] at q0 q1;rw [hk];have a0:=hp 0 (by omega) 0;have a1:=hp 1 (by omega) 0;rw [r2];simp only [List.length_append,List.length_cons,List.length_nil];omega
  ·have hk:kids.length=2:=by have:=well_kids (a:=1) (b:=2) hw (by kernel_rfl) (by decide);simp only at this;omega
   have q:=fun j (h:j<kids.length)=>congrArg List.length (partPl_succ ms (ks:=kids) h);simp only [List.length_append] at q;have q0:=q 0 (by omega);have q1:=q 1 (by omega);simp only [Nat.zero_add,Nat.reduceAdd] at q0 q1;rw [hk];have a0:=hp 0 (by omega) 0;have a1:=hp 1 (by omega) 1;rw [r3];simp only [List.length_append,List.length_cons,List.length_nil];omega
  ·have hk:kids.length=1:=by have:=well_kids (a:=1) (b:=1) hw (by kernel_rfl) (by decide);simp only at this;omega
   have q:=fun j (h:j<kids.length)=>congrArg List.length (partPl_succ ms (ks:=kids) h);simp only [List.length_append] at q;have q0:=q 0 (by omega);simp only [Nat.zero_add,Nat.reduceAdd] at q0;rw [hk];have a0:=hp 0 (by omega) 2;rw [r4];simp only [List.length_append,List.length_cons,List.length_nil];omega
  ·have hk:kids.length=1:=by have:=well_kids (a:=1) (b:=1) hw (by kernel_rfl) (by decide);simp only at this;omega
   have q:=fun j (h:j<kids.length)=>congrArg List.length (partPl_succ ms (ks:=kids) h);simp only [List.length_append] at q;have q0:=q 0 (by omega);simp only [Nat.zero_add,Nat.reduceAdd] at q0;rw [hk];have a0:=hp 0 (by omega) 2;rw [r5];simp only [List.length_append,List.length_cons,List.length_nil];omega
  ·rw [r6];simp only [List.length_append,List.length_cons,List.length_nil];omega
  ·have hk:kids.length=2:=by have:=well_kids (a:=2) (b:=2) hw (by kernel_rfl) (by decide);simp only at this;omega
   have q:=fun j (h:j<kids.length)=>congrArg List.length (partPl_succ ms (ks:=kids) h);simp only [List.length_append] at q;have q0:=q 0 (by omega);have q1:=q 1 (by omega);simp only [Nat.zero_add,Nat.reduceAdd] at q0 q1;rw [hk];have a0:=hp 0 (by omega) 2;have a1:=hp 1 (by omega) 3;rw [r7];simp only [List.length_append,List.length_cons,List.length_nil];omega
  ·have hk:kids.length=2:=by have:=well_kids (a:=3) (b:=2) hw (by kernel_rfl) (by decide);simp only at this;omega
   have q:=fun j (h:j<kids.length)=>congrArg List.length (partPl_succ ms (ks:=kids) h);simp only [List.length_append] at q;have q0:=q 0 (by omega);have q1:=q 1 (by omega);simp only [Nat.zero_add,Nat.reduceAdd] at q0 q1;rw [hk];have a0:=hp 0 (by omega) 3;have a1:=hp 1 (by omega) 4;rw [r8];simp only [List.length_append,List.length_cons,List.length_nil];omega
  ·have hk:kids.length=2:=by have:=well_kids (a:=4) (b:=2) hw (by kernel_rfl) (by decide);simp only at this;omega
   have q:=fun j (h:j<kids.length)=>congrArg List.length (partPl_succ ms (ks:=kids) h);simp only [List.length_append] at q;have q0:=q 0 (by omega);have q1:=q 1 (by omega);simp only [Nat.zero_add,Nat.reduceAdd] at q0 q1;rw [hk];have a0:=hp 0 (by omega) 5;have a1:=hp 1 (by omega) 5;rw [r9];simp only [List.length_append,List.length_cons,List.length_nil];omega
  ·have hk:kids.length=2:=by have:=well_kids (a:=4) (b:=2) hw (by kernel_rfl) (by decide);simp only at this;omega
   have q:=fun j (h:j<kids.length)=>congrArg List.length (partPl_succ ms (ks:=kids) h);simp only [List.length_append] at q;have q0:=q 0 (by omega);have q1:=q 1 (by omega);simp only [Nat.zero_add,Nat.reduceAdd] at q0 q1;rw [hk];have a0:=hp 0 (by omega) 5;have a1:=hp 1 (by omega) 5;rw [r10];simp only [List.length_append,List.length_cons,List.length_nil];omega
  ·have hk:kids.length=2:=by have:=well_kids (a:=5) (b:=2) hw (by kernel_rfl) (by decide);simp only at this;omega
   have q:=fun j (h:j<kids.length)=>congrArg List.length (partPl_succ ms (ks:=kids) h);simp only [List.length_append] at q;have q0:=q 0 (by omega);have q1:=q 1 (by omega);simp only [Nat.zero_add,Nat.reduceAdd] at q0 q1;rw [hk];have a0:=hp 0 (by omega) 5;have a1:=hp 1 (by omega) 6;rw [r11];simp only [List.length_append,List.length_cons,List.length_nil];omega
  ·have hk:kids.length=2:=by have:=well_kids (a:=5) (b:=2) hw (by kernel_rfl) (by decide);simp only at this;omega
   have q:=fun j (h:j<kids.length)=>congrArg List.length (partPl_succ ms (ks:=kids) h);simp only [List.length_append] at q;have q0:=q 0 (by omega);have q1:=q 1 (by omega);simp only [Nat.zero_add,Nat.reduceAdd] at q0 q1;rw [hk];have a0:=hp 0 (by omega) 5;have a1:=hp 1 (by omega) 6;rw [r12];simp only [List.length_append,List.length_cons,List.length_nil];omega
  ·have hk:kids.length=2:=by have:=well_kids (a:=6) (b:=2) hw (by kernel_rfl) (by decide);simp only at this;omega
   have q:=fun j (h:j<kids.length)=>congrArg List.length (partPl_succ ms (ks:=kids) h);simp only [List.length_append] at q;have q0:=q 0 (by omega);have q1:=q 1 (by omega);simp only [Nat.zero_add,Nat.reduceAdd] at q0 q1;rw [hk];have a0:=hp 0 (by omega) 6;have a1:=hp 1 (by omega) 7;rw [r13];simp only [List.length_append,List.length_cons,List.length_nil];omega
  ·rw [r14];omega
  ·have hk:kids.length=1:=by have:=well_kids (a:=7) (b:=1) hw (by kernel_rfl) (by decide);simp only at this;omega
   have q:=fun j (h:j<kids.length)=>congrArg List.length (partPl_succ ms (ks:=kids) h);simp only [List.length_append] at q;have q0:=q 0 (by omega);simp only [Nat.zero_add,Nat.reduceAdd] at q0;rw [hk];have a0:=hp 0 (by omega) 7;rw [r15];simp only [List.length_append,List.length_cons,List.length_nil];omega
  ·have hk:kids.length=1:=by have:=well_kids (a:=7) (b:=1) hw (by kernel_rfl) (by decide);simp only at this;omega
   have q:=fun j (h:j<kids.length)=>congrArg List.length (partPl_succ ms (ks:=kids) h);simp only [List.length_append] at q;have q0:=q 0 (by omega);simp only [Nat.zero_add,Nat.reduceAdd] at q0;rw [hk];have a0:=hp 0 (by omega) 7;rw [r16];simp only [List.length_append,List.length_cons,List.length_nil];omega
  ·have hk:kids.length=1:=by have:=well_kids (a:=7) (b:=1) hw (by kernel_rfl) (by decide);simp only at this;omega
   have q:=fun j (h:j<kids.length)=>congrArg List.length (partPl_succ ms (ks:=kids) h);simp only [List.length_append] at q;have q0:=q 0 (by omega);simp only [Nat.zero_add,Nat.reduceAdd] at q0;rw [hk];have a0:=hp 0 (by omega) 7;rw [r17];simp only [List.length_append,List.length_cons,List.length_nil];omega
  ·have hk:kids.length=1:=by have:=well_kids (a:=7) (b:=1) hw (by kernel_rfl) (by decide);simp only at this;omega
   have q:=fun j (h:j<kids.length)=>congrArg List.length (partPl_succ ms (ks:=kids) h);simp only [List.length_append] at q;have q0:=q 0 (by omega);simp only [Nat.zero_add,Nat.reduceAdd] at q0;rw [hk];have a0:=hp 0 (by omega) 7;rw [r18];simp only [List.length_append,List.length_cons,List.length_nil];omega
  ·rw [r19];simp only [List.length_append,List.length_cons,List.length_nil];omega
  ·rw [r20];simp only [List.length_append,List.length_cons,List.length_nil];omega
  ·rw [r21];simp only [List.length_append,List.length_cons,List.length_nil];omega
  ·rw [r22];simp only [List.length_append,List.length_cons,List.length_nil];omega
  ·rw [r23];simp only [List.length_append,List.length_cons,List.length_nil];omega
  ·rw [r24];omega
  ·rw [r25];omega
  ·rw [r26];omega
  ·rw [r27];simp only [List.length_append,List.length_cons,List.length_nil];omega
 ·unfold Sh.well at hw;rw [form_no hn] at hw;simp at hw
theorem node_up {ms:List Nd}(hw:WF ms)(hn:∀ i,i<ms.length->(nd ms i).name.size<=2000)(i:Nat):i<ms.length->Fit ms i->∀ u,(node ms u (nd ms i)).length+10<=4000*(Pl ms i).length:=by
 induction i using Nat.strongRecOn with
 | _ i ih =>
  intro hi hf u;have hself:=hf.self hw hi;rw [Pl_eq hw hi,List.length_cons]
  cases u with
  | zero=>simp only [node,List.length_nil];omega
  | succ u =>
   have hb:∀ j,j<(nd ms i).kids.length->∀ b:Bool,(if b=true then bk (node ms u (nd ms (kid (nd ms i).kids j).toNat)) else node ms u (nd ms (kid (nd ms i).kids j).toNat)).length+6<=4000*(Pl ms (kid (nd ms i).kids j).toNat).length:=fun j hj b=>by
    have a:=kid_lt hw hi (kid_mem hj);have:=ih _ a.1 (by omega) (hf.kid hw hi (kid_mem hj)) u
    cases b with
    | false=>simp only [Bool.false_eq_true,if_false];omega
    | true=>simp only [if_true,bk,List.length_cons,List.length_append,List.length_nil];omega
   rw [node];exact nodeF_up hself.well (hn i hi) hself.lo hself.hi (fun j hj l=>hb j hj _) (fun hj=>hb 0 hj _)
end Go.Proofs.YtninlbknklbofaaGreatDoor.Rt
namespace Go.Proofs.YtninlbknklbofaaGreatDoor
section
open Go.RowKit Tn
theorem itoa_lt {n:Nat}(h:n<10):Lib.itoa (n:Int)=[UInt8.ofNat (48+n)]:=by rw [Lib.itoa_nonneg,Lib.decDigits_one h]
theorem itoa_ge {n:Nat}(h:¬ n<10):Lib.itoa (n:Int)=Lib.itoa ((n / 10:Nat):Int)++[UInt8.ofNat (48+n % 10)]:=by rw [Lib.itoa_nonneg,Lib.itoa_nonneg,Lib.decDigits,dif_neg h]
theorem figure_at:∀ d:Fin 10,(⟨#[48,49,50,51,52,53,54,55,56,57]⟩:ByteArray).extract d.val (d.val+1)=⟨#[UInt8.ofNat (48+d.val)]⟩:=by decide +kernel
theorem figure (n:Nat):(⟨#[48,49,50,51,52,53,54,55,56,57]⟩:ByteArray).extract (n % 10) (n % 10+1)=⟨#[UInt8.ofNat (48+n % 10)]⟩:=figure_at ⟨n % 10,Nat.mod_lt _ (by decide)⟩
theorem snoc_fig (l:List UInt8)(d:Nat):((⟨l.toArray⟩:ByteArray)++⟨#[48+UInt8.ofNat d]⟩)=⟨(l++[UInt8.ofNat (48+d)]).toArray⟩:=by
 apply ByteArray.ext;simp
theorem cons_dash (l:List UInt8):((⟨#[45]⟩:ByteArray)++⟨l.toArray⟩)=⟨(45 :: l).toArray⟩:=by
 apply ByteArray.ext;simp
theorem digits_nat (n:Nat):n<=9223372036854775807->∀ w,Calls Tryz.prog 40 #[.int .i64 (n:Int)] w fun e w'=>e = .returned (.string ⟨(Lib.itoa n).toArray⟩)/\Below w.heap.size w w':=by
 induction n using Nat.strongRecOn with
 | _ n ih =>
  intro hn w
  by_cases h:n<10
  ·go_enter Tryz.func40,Tryz.ntmps40
   go_wp2
   rw [figure,Nat.mod_eq_of_lt h]
   go_ret
   rw [itoa_lt h];exact ⟨rfl,Below.refl _ w⟩
  ·have hI:=ih (n / 10) (by omega) (by omega);have e10:((n / 10:Nat):Int)=(n:Int) / 10:=by omega
   have hG:=itoa_ge h;rw [e10] at hI hG;have HI:=Lib.hid hI;have HN:=Lib.hid hG;clear hI ih e10 hG;have hN:(n:Int)<=9223372036854775807:=by omega
   go_enter Tryz.func40,Tryz.ntmps40
   have hl:¬ 9223372036854775807<(Lib.itoa ((n:Int) / 10)).length+1:=by
    have:=Lib.itoa_length_le ((n:Int) / 10) (by omega) (by omega);omega
   go_wp2_with fail
   refine (HI.out w).mono ?_;rintro e w1 ⟨rfl,hb⟩;rw [figure];have HB:=Lib.hid hb;clear hb
   go_wp2
   go_ret
   refine ⟨?_,HB.out⟩;rw [HN.out];exact congrArg (fun t=>Ending.returned (.string t)) (snoc_fig _ _)
theorem digits_any (n:Int)(h0 : -9223372036854775807<=n)(h1:n<=9223372036854775807)(w:World):Calls Tryz.prog 40 #[.int .i64 n] w fun e w'=>e = .returned (.string ⟨(Lib.itoa n).toArray⟩)/\Below w.heap.size w w':=by
 by_cases hn:0<=n
 ·obtain ⟨m,rfl⟩:∃ m:Nat,n=m:=⟨n.toNat,by omega⟩;exact digits_nat m (by omega) w
 ·obtain ⟨m,rfl⟩:∃ m:Nat,n = -(m:Int):=⟨n.natAbs,by omega⟩;have hI:=digits_nat m (by omega) w;have hl:¬ 9223372036854775807<1+(Lib.itoa (m:Int)).length:=by
   have:=Lib.itoa_length_le (m:Int) (by omega) (by omega);omega
  have hm:1<=m:=by omega
  have HI:=Lib.hid hI;clear hI
  go_enter Tryz.func40,Tryz.ntmps40
  go_wp2_with fail
  refine HI.out.mono ?_;rintro e w1 ⟨rfl,hb⟩;have HB:=Lib.hid hb;clear hb
  go_wp2
  go_ret
  refine ⟨?_,HB.out⟩;rw [Lib.itoa_neg m hm];rw [Lib.itoa_nonneg];exact congrArg (fun t=>Ending.returned (.string t)) (cons_dash _)
end
section
open Go.RowKit Tn
def kidsOf (op:ByteArray):Int:=if (Sh.formOf op).known=true then (Sh.formOf op).kids else -2
def LvP (k:Int)(w:World)(e:Ending)(w':World):Prop:=e = .returned (.int .i64 k)/\Below w.heap.size w w'
theorem level_any (op:ByteArray)(hn:op∈opList)(w:World):Calls Tryz.prog 36 #[.string op] w (LvP (Sh.formOf op).level w):=by
 ·simp only [opList,List.mem_cons,List.not_mem_nil,or_false] at hn
  rcases hn with rfl | rfl | rfl | rfl | rfl | rfl | rfl | rfl | rfl | rfl | rfl | rfl | rfl | rfl | rfl | rfl | rfl | rfl | rfl | rfl | rfl | rfl | rfl | rfl | rfl | rfl | rfl | rfl
  ·go_enter Tryz.func36,Tryz.ntmps36
   go_wp2
   go_ret
   exact ⟨by kernel_rfl,Below.refl _ w⟩
  ·go_enter Tryz.func36,Tryz.ntmps36
   go_wp2
   go_ret
   exact ⟨by kernel_rfl,Below.refl _ w⟩
  ·go_enter Tryz.func36,Tryz.ntmps36
   go_wp2
   go_ret
   exact ⟨by kernel_rfl,Below.refl _ w⟩
  ·go_enter Tryz.func36,Tryz.ntmps36
   go_wp2
   go_ret
   exact ⟨by kernel_rfl,Below.refl _ w⟩
  ·go_enter Tryz.func36,Tryz.ntmps36
   go_wp2
   go_ret
   exact ⟨by kernel_rfl,Below.refl _ w⟩
  ·go_enter Tryz.func36,Tryz.ntmps36
   go_wp2
   go_ret
   exact ⟨by kernel_rfl,Below.refl _ w⟩
  ·go_enter Tryz.func36,Tryz.ntmps36
   go_wp2
   go_ret
   exact ⟨by kernel_rfl,Below.refl _ w⟩
  ·go_enter Tryz.func36,Tryz.ntmps36
   go_wp2
   go_ret
   exact ⟨by kernel_rfl,Below.refl _ w⟩
  ·go_enter Tryz.func36,Tryz.ntmps36
   go_wp2
   go_ret
   exact ⟨by kernel_rfl,Below.refl _ w⟩
  ·go_enter Tryz.func36,Tryz.ntmps36
   go_wp2
   go_ret
   exact ⟨by kernel_rfl,Below.refl _ w⟩
  ·go_enter Tryz.func36,Tryz.ntmps36
   go_wp2
   go_ret
   exact ⟨by kernel_rfl,Below.refl _ w⟩
  ·go_enter Tryz.func36,Tryz.ntmps36
   go_wp2
   go_ret
   exact ⟨by kernel_rfl,Below.refl _ w⟩
  ·go_enter Tryz.func36,Tryz.ntmps36
   go_wp2
   go_ret
   exact ⟨by kernel_rfl,Below.refl _ w⟩
  ·go_enter Tryz.func36,Tryz.ntmps36
   go_wp2
   go_ret
   exact ⟨by kernel_rfl,Below.refl _ w⟩
  ·go_enter Tryz.func36,Tryz.ntmps36
   go_wp2
   go_ret
   exact ⟨by kernel_rfl,Below.refl _ w⟩
  ·go_enter Tryz.func36,Tryz.ntmps36
   go_wp2
   go_ret
   exact ⟨by kernel_rfl,Below.refl _ w⟩
  ·go_enter Tryz.func36,Tryz.ntmps36
   go_wp2
   go_ret
   exact ⟨by kernel_rfl,Below.refl _ w⟩
  ·go_enter Tryz.func36,Tryz.ntmps36
   go_wp2
   go_ret
   exact ⟨by kernel_rfl,Below.refl _ w⟩
  ·go_enter Tryz.func36,Tryz.ntmps36
   go_wp2
   go_ret
   exact ⟨by kernel_rfl,Below.refl _ w⟩
  ·go_enter Tryz.func36,Tryz.ntmps36
   go_wp2
   go_ret
   exact ⟨by kernel_rfl,Below.refl _ w⟩
  ·go_enter Tryz.func36,Tryz.ntmps36
   go_wp2
   go_ret
   exact ⟨by kernel_rfl,Below.refl _ w⟩
  ·go_enter Tryz.func36,Tryz.ntmps36
   go_wp2
   go_ret
   exact ⟨by kernel_rfl,Below.refl _ w⟩
  ·go_enter Tryz.func36,Tryz.ntmps36
   go_wp2
   go_ret
   exact ⟨by kernel_rfl,Below.refl _ w⟩
  ·go_enter Tryz.func36,Tryz.ntmps36
   go_wp2
   go_ret
   exact ⟨by kernel_rfl,Below.refl _ w⟩
  ·go_enter Tryz.func36,Tryz.ntmps36
   go_wp2
   go_ret
   exact ⟨by kernel_rfl,Below.refl _ w⟩
  ·go_enter Tryz.func36,Tryz.ntmps36
   go_wp2
   go_ret
   exact ⟨by kernel_rfl,Below.refl _ w⟩
  ·go_enter Tryz.func36,Tryz.ntmps36
   go_wp2
   go_ret
   exact ⟨by kernel_rfl,Below.refl _ w⟩
  ·go_enter Tryz.func36,Tryz.ntmps36
   go_wp2
   go_ret
   exact ⟨by kernel_rfl,Below.refl _ w⟩
theorem kids_any (op:ByteArray)(w:World):Calls Tryz.prog 19 #[.string op] w (LvP (kidsOf op) w):=by
 by_cases hn:op∈opList
 ·simp only [opList,List.mem_cons,List.not_mem_nil,or_false] at hn
  rcases hn with rfl | rfl | rfl | rfl | rfl | rfl | rfl | rfl | rfl | rfl | rfl | rfl | rfl | rfl | rfl | rfl | rfl | rfl | rfl | rfl | rfl | rfl | rfl | rfl | rfl | rfl | rfl | rfl
  ·go_enter Tryz.func19,Tryz.ntmps19
   go_wp2
   go_ret
   exact ⟨by kernel_rfl,Below.refl _ w⟩
  ·go_enter Tryz.func19,Tryz.ntmps19
   go_wp2
   go_ret
   exact ⟨by kernel_rfl,Below.refl _ w⟩
  ·go_enter Tryz.func19,Tryz.ntmps19
   go_wp2
   go_ret
   exact ⟨by kernel_rfl,Below.refl _ w⟩
  ·go_enter Tryz.func19,Tryz.ntmps19
   go_wp2
   go_ret
   exact ⟨by kernel_rfl,Below.refl _ w⟩
  ·go_enter Tryz.func19,Tryz.ntmps19
   go_wp2
   go_ret
   exact ⟨by kernel_rfl,Below.refl _ w⟩
  ·go_enter Tryz.func19,Tryz.ntmps19
   go_wp2
   go_ret
   exact ⟨by kernel_rfl,Below.refl _ w⟩
  ·go_enter Tryz.func19,Tryz.ntmps19
   go_wp2
   go_ret
   exact ⟨by kernel_rfl,Below.refl _ w⟩
  ·go_enter Tryz.func19,Tryz.ntmps19
   go_wp2
   go_ret
   exact ⟨by kernel_rfl,Below.refl _ w⟩
  ·go_enter Tryz.func19,Tryz.ntmps19
   go_wp2
   go_ret
   exact ⟨by kernel_rfl,Below.refl _ w⟩
  ·go_enter Tryz.func19,Tryz.ntmps19
   go_wp2
   go_ret
   exact ⟨by kernel_rfl,Below.refl _ w⟩
  ·go_enter Tryz.func19,Tryz.ntmps19
   go_wp2
   go_ret
   exact ⟨by kernel_rfl,Below.refl _ w⟩
  ·go_enter Tryz.func19,Tryz.ntmps19
   go_wp2
   go_ret
   exact ⟨by kernel_rfl,Below.refl _ w⟩
  ·go_enter Tryz.func19,Tryz.ntmps19
   go_wp2
   go_ret
   exact ⟨by kernel_rfl,Below.refl _ w⟩
  ·go_enter Tryz.func19,Tryz.ntmps19
   go_wp2
   go_ret
   exact ⟨by kernel_rfl,Below.refl _ w⟩
  ·go_enter Tryz.func19,Tryz.ntmps19
   go_wp2
   go_ret
   exact ⟨by kernel_rfl,Below.refl _ w⟩
  ·go_enter Tryz.func19,Tryz.ntmps19
   go_wp2
   go_ret
   exact ⟨by kernel_rfl,Below.refl _ w⟩
  ·go_enter Tryz.func19,Tryz.ntmps19
   go_wp2
   go_ret
   exact ⟨by kernel_rfl,Below.refl _ w⟩
  ·go_enter Tryz.func19,Tryz.ntmps19
   go_wp2
   go_ret
   exact ⟨by kernel_rfl,Below.refl _ w⟩
  ·go_enter Tryz.func19,Tryz.ntmps19
   go_wp2
   go_ret
   exact ⟨by kernel_rfl,Below.refl _ w⟩
  ·go_enter Tryz.func19,Tryz.ntmps19
   go_wp2
   go_ret
   exact ⟨by kernel_rfl,Below.refl _ w⟩
  ·go_enter Tryz.func19,Tryz.ntmps19
   go_wp2
   go_ret
   exact ⟨by kernel_rfl,Below.refl _ w⟩
  ·go_enter Tryz.func19,Tryz.ntmps19
   go_wp2
   go_ret
   exact ⟨by kernel_rfl,Below.refl _ w⟩
  ·go_enter Tryz.func19,Tryz.ntmps19
   go_wp2
   go_ret
   exact ⟨by kernel_rfl,Below.refl _ w⟩
  ·go_enter Tryz.func19,Tryz.ntmps19
   go_wp2
   go_ret
   exact ⟨by kernel_rfl,Below.refl _ w⟩
  ·go_enter Tryz.func19,Tryz.ntmps19
   go_wp2
   go_ret
   exact ⟨by kernel_rfl,Below.refl _ w⟩
  ·go_enter Tryz.func19,Tryz.ntmps19
   go_wp2
   go_ret
   exact ⟨by kernel_rfl,Below.refl _ w⟩
  ·go_enter Tryz.func19,Tryz.ntmps19
   go_wp2
   go_ret
   exact ⟨by kernel_rfl,Below.refl _ w⟩
  ·go_enter Tryz.func19,Tryz.ntmps19
   go_wp2
   go_ret
   exact ⟨by kernel_rfl,Below.refl _ w⟩
 ·have hF:kidsOf op = -2:=by unfold kidsOf;rw [form_no hn];rfl
  have HF:=Lib.hid hF;have n0:(op.toList==[115,101,113])=false:=by rw [tl_beq];exact decide_eq_false (fun e=>hn (by rw [e];simp only [opList,List.mem_cons,true_or]))
  have n1:(op.toList==[105,102])=false:=by rw [tl_beq];exact decide_eq_false (fun e=>hn (by rw [e];simp only [opList,List.mem_cons,true_or,or_true]))
  have n2:(op.toList==[108,101,116])=false:=by rw [tl_beq];exact decide_eq_false (fun e=>hn (by rw [e];simp only [opList,List.mem_cons,true_or,or_true]))
  have n3:(op.toList==[116,114,121])=false:=by rw [tl_beq];exact decide_eq_false (fun e=>hn (by rw [e];simp only [opList,List.mem_cons,true_or,or_true]))
  have n4:(op.toList==[111,117,116])=false:=by rw [tl_beq];exact decide_eq_false (fun e=>hn (by rw [e];simp only [opList,List.mem_cons,true_or,or_true]))
  have n5:(op.toList==[115,101,116])=false:=by rw [tl_beq];exact decide_eq_false (fun e=>hn (by rw [e];simp only [opList,List.mem_cons,true_or,or_true]))
  have n6:(op.toList==[114,97,105,115,101])=false:=by rw [tl_beq];exact decide_eq_false (fun e=>hn (by rw [e];simp only [opList,List.mem_cons,true_or,or_true]))
  have n7:(op.toList==[111,114])=false:=by rw [tl_beq];exact decide_eq_false (fun e=>hn (by rw [e];simp only [opList,List.mem_cons,true_or,or_true]))
  have n8:(op.toList==[97,110,100])=false:=by rw [tl_beq];exact decide_eq_false (fun e=>hn (by rw [e];simp only [opList,List.mem_cons,true_or,or_true]))
  have n9:(op.toList==[61])=false:=by rw [tl_beq];exact decide_eq_false (fun e=>hn (by rw [e];simp only [opList,List.mem_cons,true_or,or_true]))
  have n10:(op.toList==[60])=false:=by rw [tl_beq];exact decide_eq_false (fun e=>hn (by rw [e];simp only [opList,List.mem_cons,true_or,or_true]))
  have n11:(op.toList==[43])=false:=by rw [tl_beq];exact decide_eq_false (fun e=>hn (by rw [e];simp only [opList,List.mem_cons,true_or,or_true]))
  have n12:(op.toList==[45])=false:=by rw [tl_beq];exact decide_eq_false (fun e=>hn (by rw [e];simp only [opList,List.mem_cons,true_or,or_true]))
  have n13:(op.toList==[42])=false:=by rw [tl_beq];exact decide_eq_false (fun e=>hn (by rw [e];simp only [opList,List.mem_cons,true_or,or_true]))
  have n14:(op.toList==[112,97,105,114])=false:=by rw [tl_beq];exact decide_eq_false (fun e=>hn (by rw [e];simp only [opList,List.mem_cons,true_or,or_true]))
  have n15:(op.toList==[110,101,103])=false:=by rw [tl_beq];exact decide_eq_false (fun e=>hn (by rw [e];simp only [opList,List.mem_cons,true_or,or_true]))
  have n16:(op.toList==[110,111,116])=false:=by rw [tl_beq];exact decide_eq_false (fun e=>hn (by rw [e];simp only [opList,List.mem_cons,true_or,or_true]))
  have n17:(op.toList==[102,115,116])=false:=by rw [tl_beq];exact decide_eq_false (fun e=>hn (by rw [e];simp only [opList,List.mem_cons,true_or,or_true]))
  have n18:(op.toList==[115,110,100])=false:=by rw [tl_beq];exact decide_eq_false (fun e=>hn (by rw [e];simp only [opList,List.mem_cons,true_or,or_true]))
  have n19:(op.toList==[114,101,108,101,97,115,101])=false:=by rw [tl_beq];exact decide_eq_false (fun e=>hn (by rw [e];simp only [opList,List.mem_cons,true_or,or_true]))
  have n20:(op.toList==[103,101,116])=false:=by rw [tl_beq];exact decide_eq_false (fun e=>hn (by rw [e];simp only [opList,List.mem_cons,true_or,or_true]))
  have n21:(op.toList==[116,114,117,101])=false:=by rw [tl_beq];exact decide_eq_false (fun e=>hn (by rw [e];simp only [opList,List.mem_cons,true_or,or_true]))
  have n22:(op.toList==[102,97,108,115,101])=false:=by rw [tl_beq];exact decide_eq_false (fun e=>hn (by rw [e];simp only [opList,List.mem_cons,true_or,or_true]))
  have n23:(op.toList==[104,111,108,101])=false:=by rw [tl_beq];exact decide_eq_false (fun e=>hn (by rw [e];simp only [opList,List.mem_cons,true_or,or_true]))
  have n24:(op.toList==[117,110,105,116])=false:=by rw [tl_beq];exact decide_eq_false (fun e=>hn (by rw [e];simp only [opList,List.mem_cons,true_or,or_true]))
  have n25:(op.toList==[105,110,116])=false:=by rw [tl_beq];exact decide_eq_false (fun e=>hn (by rw [e];simp only [opList,List.mem_cons,true_or,or_true]))
  have n26:(op.toList==[118,97,114])=false:=by rw [tl_beq];exact decide_eq_false (fun e=>hn (by rw [e];simp only [opList,List.mem_cons,true_or,or_true]))
  have n27:(op.toList==[99,97,108,108])=false:=by rw [tl_beq];exact decide_eq_false (fun e=>hn (by rw [e];simp only [opList,List.mem_cons,true_or,or_true]))
  clear hn hF
  go_enter Tryz.func19,Tryz.ntmps19
  go_wp2
  go_ret
  exact ⟨by rw [HF.out];rfl,Below.refl _ w⟩
end
section
open Go.RowKit Tn
def TxP (l:Lx.B)(w:World)(e:Ending)(w':World):Prop:=e = .returned (.string ⟨l.toArray⟩)/\Below w.heap.size w w'
def TextC (N:Nat)(mo:Option Addr)(mc:Nat)(ms:List Nd)(l:Lx.B)(q:Nat):Prop :=
 ∀ w,NodesAt N w mo ms->N<=w.heap.size->Calls Tryz.prog 20 #[.slice mo ms.length mc,.int .i64 (q:Int)] w (TxP l w)
theorem bracketed (l:Lx.B):((⟨#[40]⟩:ByteArray)++⟨l.toArray⟩++⟨#[41]⟩)=⟨(Rt.bk l).toArray⟩:=by
 apply ByteArray.ext;simp [Rt.bk]
theorem rpart_any (N:Nat)(mo:Option Addr)(mc:Nat)(ms:List Nd)(n:Nd)(ka:Option Addr)(kc j q:Nat)(g:Nd->Lx.B)(hj:j<n.kids.length)(hq:kid n.kids j=(q:Int))(hql:q<ms.length)(hop:(nd ms q).op∈opList)
  (hT:TextC N mo mc ms (g (nd ms q)) q) (hlen:(g (nd ms q)).length<=1000000000) (least:Int) (w:World) (hm:NodesAt N w mo ms) (hN:N<=w.heap.size) (hk:IntsAt N w ka n.kids):
  Calls Tryz.prog 37 #[.slice mo ms.length mc,nval n ka kc,.int .i64 (j:Int),.int .i64 least] w (TxP (Rt.part ms g (kid n.kids j) least) w):=by
 obtain ⟨W,hW⟩:∃ W,w.alloc (.cells #[.string n.op,.int .i64 n.line,.int .i64 n.col,.string n.name,.int .i64 n.num,.slice ka n.kids.length kc] 30)=W:=⟨_,rfl⟩;have hbW:Below w.heap.size w W:=by rw [<- hW];exact (Below.refl _ w).alloc (Nat.le_refl _) _
 have s1:Six W w.heap.size 30 (.string n.op) (.int .i64 n.line) (.int .i64 n.col) (.string n.name) (.int .i64 n.num) (.slice ka n.kids.length kc):=⟨by rw [<- hW];exact blk_new w _⟩;have hmW:=hm.below (hbW.mono hN);have hkW:=hk.below (hbW.mono hN);have hNW:N<=W.heap.size:=Nat.le_trans hN hbW.size;have hzW:w.heap.size<W.heap.size:=by rw [<- hW];simp
 obtain ⟨b2,o2,rfl,hb2,hc2⟩:=hkW j hj;rw [hq] at hc2;have hL:=fun w=>level_any (nd ms q).op hop w;have hpart:Rt.part ms g (kid n.kids j) least=if (Sh.formOf (nd ms q).op).level<least then Rt.bk (g (nd ms q)) else g (nd ms q):=by rw [hq];unfold Rt.part;simp only [Int.toNat_natCast,decide_eq_true_eq]
 obtain ⟨R,hR⟩:∃ R,Rt.part ms g (kid n.kids j) least=R:=⟨_,rfl⟩;rw [hR];rw [hR] at hpart;have HR:=Lib.hid hpart;have HT:=Lib.hid hT;have HL:=Lib.hid hL;have HM:=Lib.hid hmW;have HN:=Lib.hid hNW;have HB:=Lib.hid hbW;have HK:=Lib.hid hkW;have HS:=Lib.hid s1;have HW:=Lib.hid hW;have HZ:=Lib.hid hzW;have HLEN:=Lib.hid hlen;have HQ:=Lib.hid hq;have c5:=s1.c5;clear hT hL hk hpart hR hm hbW hmW hkW hNW s1 hW hzW hq hN hlen;unfold nval
 go_enter Tryz.func37,Tryz.ntmps37
 go_upto_region 1 with fail
 rw [HW.out]
 go_wp2_with fail
 refine (HT.out W HM.out HN.out).mono ?_;rintro e w1 ⟨rfl,hb1⟩;have hm1:=HM.out.below (hb1.mono HN.out);obtain ⟨b,o,ka2,kc2,rfl,hn1⟩:=hm1 q hql;have c5:=(HS.out.below hb1 HZ.out).c5;obtain ⟨_,_,he,_,hc2⟩:=(HK.out.below (hb1.mono HN.out)) j hj
 injection he with he;injection he with e1 e2
 subst e1 e2;rw [HQ.out] at hc2;have c0:=hn1.c0;have HB1:=Lib.hid (HB.out.trans (hb1.mono HB.out.size));clear hb1 hm1 hn1
 by_cases hlv:(Sh.formOf (nd ms q).op).level<least
 ·have hl:¬ 9223372036854775807<1+(g (nd ms q)).length:=by have:=HLEN.out;omega
  have hl2:¬ 9223372036854775807<1+(g (nd ms q)).length+1:=by have:=HLEN.out;omega
  go_wp2_with fail
  refine (HL.out w1).mono ?_;rintro e w2 ⟨rfl,hb2⟩;have HB2:=Lib.hid (HB1.out.trans (hb2.mono HB1.out.size));clear hb2
  go_wp2
  go_ret
  refine ⟨?_,HB2.out⟩;rw [HR.out,if_pos hlv];exact congrArg (fun t=>Ending.returned (.string t)) (bracketed _)
 ·go_wp2_with fail
  refine (HL.out w1).mono ?_;rintro e w2 ⟨rfl,hb2⟩;have HB2:=Lib.hid (HB1.out.trans (hb2.mono HB1.out.size));clear hb2
  go_wp2
  go_ret
  refine ⟨?_,HB2.out⟩;rw [HR.out,if_neg (by omega)]
  rfl
end
end Go.Proofs.YtninlbknklbofaaGreatDoor
