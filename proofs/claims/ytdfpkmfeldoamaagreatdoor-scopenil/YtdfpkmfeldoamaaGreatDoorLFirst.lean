/- A part of the proof: A part of the proof. -/
import Derived.Test.YtdfpkmfeldoamaaGreatDoorLBehind
import Derived.Test.YtdfpkmfeldoamaaGreatDoorShelf
set_option linter.unusedSimpArgs false
set_option linter.unusedVariables false
set_option maxRecDepth 100000
set_option maxHeartbeats 4000000
namespace Go.Proofs.YtdfpkmfeldoamaaGreatDoor
section
open Go.RowKit
theorem tail_list (s:ByteArray)(k:Nat):(s.extract k s.size).data.toList=s.data.toList.drop k:=by
 rw [<- toList_eq,Lib.extract_toList,List.take_of_length_le];rw [List.length_drop,<- size_len];omega
theorem head_list (s:ByteArray)(k:Nat):(s.extract 0 k).data.toList=s.data.toList.take k:=by
 rw [<- toList_eq,Lib.extract_toList];simp
theorem tail_sz (s:ByteArray)(k:Nat):(s.extract k s.size).size=s.size-k:=by
 rw [size_len,tail_list,List.length_drop,<- size_len]
theorem head_sz (s:ByteArray)(k:Nat)(h:k<=s.size):(s.extract 0 k).size=k:=by
 rw [size_len,head_list,List.length_take,<- size_len];omega
theorem decodeGo_dec (s:ByteArray)(h:s.size≠0):Lib.decodeGo s=Lx.dec s.data.toList:=by
 rw [Lib.decodeGo,if_neg h,decode_dec];rfl
theorem dec_le (l:Lx.B):(Lx.dec l).2<=4:=by
 unfold Lx.dec Lib.decodeN
 repeat' split
 all_goals simp
theorem textlen_any (s:ByteArray)(w:World)(hs:s.size<=1000000000000)(hT:Lib.Utf8Tabs 2 3 w):
  Calls Tryz.prog 72 #[.string s] w fun e w'=>e = .returned (.int .i64 (Lx.vlen (s.data.toList.length+1) s.data.toList:Int))/\Below w.heap.size w w':=by
 generalize hA:Lx.vlen (s.data.toList.length+1) s.data.toList=A;have HA:=Lib.hid hA;clear hA;have HU:=Lib.hid hT;clear hT
 go_enter Tryz.func72,Tryz.ntmps72
 go_wp2
 go_loopw [3] (fun i wr=>∃ (k f:Nat),k<=s.size/\i = .int .i64 (k:Int)/\A=k+Lx.vlen f (s.data.toList.drop k)/\s.size-k<f/\Below w.heap.size w wr) (fun i _=>s.size-(intOf i).toNat)
 case atStart=>exact ⟨0,s.data.toList.length+1,Nat.zero_le _,rfl,by simpa using HA.out.symm,by rw [<- size_len];omega,Below.refl _ _⟩
 case round =>
  obtain ⟨k,f,hk,rfl,hA,hf,hb⟩:=hrel;clear HA;obtain ⟨f,rfl⟩:∃ g,f=g+1:=⟨f-1,by omega⟩;rw [Lx.vlen] at hA
  by_cases hlt:k<s.size
  ·have hne:s.data.toList.drop k≠[]:=by
    intro h;have:=congrArg List.length h;rw [List.length_drop,<- size_len] at this;simp at this;omega
   have hd:=decodeGo_dec (s.extract k s.size) (by rw [tail_sz];omega);rw [tail_list] at hd;have hpt:Lx.point (s.data.toList.drop k)=if Lx.dec (s.data.toList.drop k)=(65533,1) then 0 else (Lx.dec (s.data.toList.drop k)).2:=rfl
   have hle:=dec_le (s.data.toList.drop k)
   by_cases hbad:Lx.point (s.data.toList.drop k)=0
   ·rw [if_pos (.inr hbad)] at hA;have hE:A=k:=by omega
    have hdd:Lx.dec (s.data.toList.drop k)=(65533,1):=by
     rcases Decidable.em (Lx.dec (s.data.toList.drop k)=(65533,1)) with h | h
     ·exact h
     ·have h2:(Lx.dec (s.data.toList.drop k)).2=0:=by rw [if_neg h] at hpt;omega
      exfalso
      have:=Lx.decN_facts _ _ _ _ _ (by have:=hne;cases h':s.data.toList.drop k;exact absurd h' this;simp) (Lx.getD_lt _ 0) (Lx.getD_lt _ 1) (Lx.getD_lt _ 2) (Lx.getD_lt _ 3) h;have h1:1<=(Lx.dec (s.data.toList.drop k)).2:=this.1;omega
    subst hE;have cD:=Tryz.utf8_DecodeRuneInString (s.extract A s.size) wr (Utf8Tabs_below HU.out hb);rw [hd,hdd] at cD;have CD:=Lib.hid cD;have HB:=Lib.hid hb;clear cD hA hd hdd hpt hle hbad hb hf
    go_wp2_with fail
    refine CD.out.mono ?_;rintro e w' ⟨rfl,hb2⟩
    go_wp2
    go_ret;exact ⟨rfl,HB.out.trans (hb2.mono HB.out.size)⟩
   ·rw [if_neg (by rintro (h | h);exact hne h;exact hbad h),List.drop_drop] at hA;have F:=Lx.point_facts _ hne (by omega);have hlen:=F.le;rw [List.length_drop,<- size_len] at hlen;have htwo:=F.two;have hnd:¬ Lx.dec (s.data.toList.drop k)=(65533,1):=by intro h;rw [if_pos h] at hpt;exact hbad hpt
    have cD:=Tryz.utf8_DecodeRuneInString (s.extract k s.size) wr (Utf8Tabs_below HU.out hb);rw [hd,<- htwo] at cD;have hnd2:¬ ((Lx.dec (s.data.toList.drop k)).1=65533/\Lx.point (s.data.toList.drop k)=1):=by
     rintro ⟨h1,h2⟩;exact hnd (Prod.ext h1 (by rw [<- htwo];exact h2))
    generalize Lx.point (s.data.toList.drop k)=K at *;generalize (Lx.dec (s.data.toList.drop k)).1=R at *;have CD:=Lib.hid cD;have HB:=Lib.hid hb;have HE:=Lib.hid hA;clear cD hA hd hpt hnd hb F htwo hle;have hm:s.size-(intOf (Value.int IntKind.i64 ((k:Int)+K))).toNat<s.size-(intOf (Value.int IntKind.i64 (k:Int))).toNat:=by simp [intOf];omega
    have HM:=Lib.hid hm;clear hm
    go_wp2_with fail
    refine CD.out.mono ?_;rintro e w' ⟨rfl,hb2⟩
    cases hR:((R:Int)==65533)
    ·go_wp2
     exact ⟨⟨k+K,f,by omega,by push_cast;rfl,by rw [HE.out];omega,by omega,HB.out.trans (hb2.mono HB.out.size)⟩,HM.out⟩
    ·have hK:((K:Int)==1)=false:=by
      have:(R:Int)=65533:=by simpa using hR
      have:K≠1:=fun h=>hnd2 ⟨by omega,h⟩
      simp;omega
     clear hnd2
     go_wp2
     exact ⟨⟨k+K,f,by omega,by push_cast;rfl,by rw [HE.out];omega,by omega,HB.out.trans (hb2.mono HB.out.size)⟩,HM.out⟩
  ·rw [if_pos (.inl (drop_end s k hlt))] at hA;have hE:A=k:=by omega
   subst hE;clear hA;have HB:=Lib.hid hb;clear hb hf
   go_wp2
   go_ret;exact ⟨rfl,HB.out⟩
end
section
open Go.RowKit
theorem own_any (s:ByteArray)(w:World):Calls Tryz.prog 164 #[.string s] w fun e w'=>e = .returned (.bool (Lx.own s.data.toList))/\w=w':=by
 rw [<- toList_eq]
 go_enter Tryz.func164,Tryz.ntmps164
 go_wp2
 all_goals (go_ret;refine ⟨?_,rfl⟩)
 all_goals first
  | (exfalso;simp_all only [Bool.false_eq_true];done)
  | (show Ending.returned (.bool true)=_;refine ret_bool ?_;simp only [Lx.own,Lx.keys,List.contains_cons,Bool.or_true,Bool.true_or, *];done)
  | (show Ending.returned (.bool false)=_;refine ret_bool ?_;simp only [Lx.own,Lx.keys,List.contains_cons,List.contains_nil,Bool.or_false, *];done)
end
section
open Go.RowKit
namespace Lx
theorem span_le (name:Bool)(l:B):span name l<=l.length:=by
 induction l with
 | nil=>simp [span]
 | cons c l ih=>unfold span;rw [List.length_cons];split <;> omega
theorem span_all (name:Bool)(l:B):∀ c∈l.take (span name l),(digit c || (name && letter c))=true:=by
 induction l with
 | nil=>simp [span]
 | cons c l ih =>
  unfold span
  split
  ·rename_i h;rw [Nat.add_comm,List.take_succ_cons];intro d hd
   rcases List.mem_cons.1 hd with rfl | hd
   ·exact h
   ·exact ih d hd
  ·simp
theorem number_from (l:B):∀ a:Nat,(∀ c∈l,digit c=true)->l.foldl (fun (a:Int) c=>10*a+((c.toNat:Int)-48)) (a:Int)=((l.foldl (fun (a:Nat) c=>a*10+(c.toNat-48)) a:Nat):Int):=by
 induction l with
 | nil=>intro a _;rfl
 | cons c l ih =>
  intro a h;have hc:=h c (by simp);have h48:48<=c.toNat:=by simp [digit,digitZ] at hc;omega
  rw [List.foldl_cons,List.foldl_cons,<- ih _ (fun d hd=>h d (by simp [hd]))]
  congr 1
  omega
theorem parse_from (l:B):∀ (a j:Nat),(∀ c∈l,digit c=true)->a<10 ^ j->j+l.length<=18->Lib.parseUintM (2 ^ 64-1) a l = .ok (l.foldl (fun (a:Nat) c=>a*10+(c.toNat-48)) a)/\l.foldl (fun (a:Nat) c=>a*10+(c.toNat-48)) a<10 ^ (j+l.length):=by
 induction l with
 | nil=>intro a j _ ha _;exact ⟨rfl,by simpa using ha⟩
 | cons c l ih =>
  intro a j h ha hj;have hc:=h c (by simp);have h48:48<=c.toNat/\c.toNat<=57:=by simp [digit,digitZ] at hc;omega
  rw [List.length_cons] at hj;have hp:10 ^ (j+1)<=10 ^ 18:=Nat.pow_le_pow_right (by omega) (by omega);have hp1:10 ^ (j+1)=10 ^ j*10:=Nat.pow_succ 10 j;have h18:(10:Nat) ^ 18=1000000000000000000:=by decide
  have hn:a*10+(c.toNat-48)<10 ^ (j+1):=by omega
  have:=ih _ (j+1) (fun d hd=>h d (by simp [hd])) hn (by omega);have h64:(2:Nat) ^ 64-1=18446744073709551615:=by decide
  rw [Lib.parseUintM,if_pos h48,if_neg (by omega),if_neg (by omega)];rw [List.foldl_cons,List.length_cons];refine ⟨this.1, ?_⟩;have e:j+(l.length+1)=j+1+l.length:=by omega
  rw [e];exact this.2
theorem parse_digits (l:B)(hne:l≠[])(h:∀ c∈l,digit c=true)(hl:l.length<=18):Lib.parseIntB 64 l = .ok (number l):=by
 cases l with
 | nil=>exact absurd rfl hne
 | cons c r =>
  have hc:=h c (by simp);have h48:48<=c.toNat/\c.toNat<=57:=by simp [digit,digitZ] at hc;omega
  have P:=parse_from (c :: r) 0 0 h (by decide) (by omega);have hp:10 ^ (0+(c :: r).length)<=10 ^ 18:=Nat.pow_le_pow_right (by omega) (by omega);have h18:(10:Nat) ^ 18=1000000000000000000:=by decide
  have h63:(2:Nat) ^ (64-1)=9223372036854775808:=by decide
  have e:number (c :: r)=(((c :: r).foldl (fun (a:Nat) c=>a*10+(c.toNat-48)) 0:Nat):Int):=by
   rw [number];exact number_from (c :: r) 0 h
  have hu:Lib.parseUintB 64 (if c.toNat=43\/c.toNat=45 then r else c :: r) = .ok ((c :: r).foldl (fun (a:Nat) c=>a*10+(c.toNat-48)) 0):=by
   rw [if_neg (by omega),Lib.parseUintB,if_neg (by simp)];exact P.1
  rw [e];have hlt:=P.2;generalize (c :: r).foldl (fun (a:Nat) c=>a*10+(c.toNat-48)) 0=u at *;unfold Lib.parseIntB;simp only [hu];rw [if_neg (by omega),if_neg (by omega),if_neg (by omega)]
theorem hasPre2 (l p:B)(hp:p.length=2):Lib.hasPrefix l p=(l.take 2==p):=by
 rw [<- Lib.hasPrefix_of_take,hp,Bool.eq_iff_iff];simp only [Bool.and_eq_true,decide_eq_true_eq,beq_iff_eq]
 constructor
 ·exact fun h=>h.2
 ·intro h;refine ⟨?_,h⟩;have:=congrArg List.length h;rw [List.length_take,hp] at this;omega
theorem index_has (l:B)(c:UInt8):decide (0<=Lib.indexByte l c)=l.contains c:=by
 induction l with
 | nil=>rfl
 | cons b l ih =>
  rw [List.contains_cons,<- ih];have hge:=Lib.indexByte_ge l c;rw [Lib.indexByte]
  by_cases h:b=c
  ·subst h;simp
  ·have h':(b==c)=false:=by simpa using h
   have h'':(c==b)=false:=by simpa using fun e=>h e.symm
   simp only [h',h'']
   by_cases h1:Lib.indexByte l c = -1
   ·simp [h1]
   ·have h1':(Lib.indexByte l c == -1)=false:=by simpa using h1
    simp only [h1',Bool.false_eq_true,if_false,Bool.false_or];rw [Bool.eq_iff_iff];simp only [decide_eq_true_eq];omega
end Lx
def gotV (s:ByteArray):Lx.Got->Value
 | .bad e => .tuple #[.agg #[.int .i64 0,.string ⟨#[]⟩,.int .i64 0,.int .i64 0,.int .i64 0],.int .i64 e]
 | .tok k n v => .tuple #[.agg #[.int .i64 k,.string (s.extract 0 n),.int .i64 v,.int .i64 0,.int .i64 0],.int .i64 0]
theorem hp_any (s p:ByteArray)(b:Bool)(w:World)(h:Lib.hasPrefix s.data.toList p.data.toList=b):Calls Tryz.prog 165 #[.string s,.string p] w fun e w'=>e = .returned (.bool b)/\w=w' :=
 (Tryz.strings_HasPrefix s p w).mono fun e w' h'=>⟨by rw [h'.1,h],h'.2.symm⟩
theorem ix_any (c:UInt8)(i:Int)(w:World)(h:Lib.indexByte Lx.shorts c=i):Calls Tryz.prog 166 #[.string ⟨#[40,41,123,125,44,59,58,33,43,45,42,61,60]⟩,.int .u8 (c.toNat:Int)] w fun e w'=>e = .returned (.int .i64 i)/\w=w' :=
 (Tryz.strings_IndexByte _ _ w).mono fun e w' h'=>⟨by
  rw [h'.1,<- h];have hcc:(Int.toNat (c.toNat:Int)).toUInt8=c:=by simp
  rw [hcc];rfl,h'.2.symm⟩
theorem firstMark_any (s:ByteArray)(w:World)(hs:s.size<=1000000000000)(hne:0<s.size):
  Calls Tryz.prog 131 #[.string s] w fun e w'=>e = .returned (gotV s (if Lx.mark s.data.toList=0 then .bad 4 else .tok 4 (Lx.mark s.data.toList) 0))/\Below w.heap.size w w':=by
 obtain ⟨c,hc,hd⟩:=byte_at s 0 hne;simp only [List.drop_zero] at hd;have hm:Lx.mark s.data.toList=if s.data.toList.take 2==[58,61] || s.data.toList.take 2==[45,62] then 2 else if Lx.shorts.contains c then 1 else 0:=by rw [hd];rfl
 have e1:=Lx.hasPre2 s.data.toList [58,61] rfl;have e2:=Lx.hasPre2 s.data.toList [45,62] rfl;have ei:=Lx.index_has Lx.shorts c;have hbl:∀ v,Below w.heap.size w (w.alloc (.cells v 118)):=fun v=>(Below.refl w.heap.size w).alloc (Nat.le_refl _) _;have HBL:=Lib.hid hbl;clear hbl;have htwo:(s.data.toList.take 2==[58,61])=true\/(s.data.toList.take 2==[45,62])=true->2<=s.size:=by
  intro h;have:(s.data.toList.take 2).length=2:=by rcases h with h | h <;> (rw [eq_of_beq h];rfl)
  rw [List.length_take,<- size_len] at this;omega
 generalize (s.data.toList.take 2==[58,61])=b1 at *;generalize (s.data.toList.take 2==[45,62])=b2 at *;have C1:=Lib.hid (fun w=>hp_any s ⟨#[58,61]⟩ b1 w e1);have C2:=Lib.hid (fun w=>hp_any s ⟨#[45,62]⟩ b2 w e2);clear e1 e2;generalize hI:Lib.indexByte Lx.shorts c=i at *;have C3:=Lib.hid (fun w=>ix_any c i w hI);clear hI hd
 cases b1
 ·cases b2
  ·cases h3:Lx.shorts.contains c
   ·have hi:i<0:=by rw [h3] at ei;simpa using ei
    have e:(if Lx.mark s.data.toList=0 then Lx.Got.bad 4 else .tok 4 (Lx.mark s.data.toList) 0) = .bad 4:=by simp only [hm,h3];rfl
    rw [e];clear e hm h3 htwo ei
    show Calls _ _ _ _ fun e w'=>e = .returned (.tuple #[.agg #[.int .i64 0,.string ⟨#[]⟩,.int .i64 0,.int .i64 0,.int .i64 0],.int .i64 4])/\_
    go_enter Tryz.func131,Tryz.ntmps131
    go_wp2_with fail
    refine (C1.out _).mono ?_;rintro e w' ⟨rfl,rfl⟩
    go_wp2_with fail
    refine (C2.out _).mono ?_;rintro e w' ⟨rfl,rfl⟩
    go_wp2_with fail
    refine (C3.out _).mono ?_;rintro e w' ⟨rfl,rfl⟩
    go_wp2
    exact bodyPost_ret (v := .tuple #[.agg #[.int .i64 0,.string ⟨#[]⟩,.int .i64 0,.int .i64 0,.int .i64 0],.int .i64 4]) (by simp [results,Tryz.results131,go_sem]) rfl ⟨rfl,HBL.out _⟩
   ·have hi:0<=i:=by rw [h3] at ei;simpa using ei
    have e:(if Lx.mark s.data.toList=0 then Lx.Got.bad 4 else .tok 4 (Lx.mark s.data.toList) 0) = .tok 4 1 0:=by simp only [hm,h3];rfl
    rw [e];clear e hm h3 htwo ei
    show Calls _ _ _ _ fun e w'=>e = .returned (.tuple #[.agg #[.int .i64 4,.string (s.extract 0 1),.int .i64 0,.int .i64 0,.int .i64 0],.int .i64 0])/\_
    go_enter Tryz.func131,Tryz.ntmps131
    go_wp2_with fail
    refine (C1.out _).mono ?_;rintro e w' ⟨rfl,rfl⟩
    go_wp2_with fail
    refine (C2.out _).mono ?_;rintro e w' ⟨rfl,rfl⟩
    go_wp2_with fail
    refine (C3.out _).mono ?_;rintro e w' ⟨rfl,rfl⟩
    go_wp2
    exact bodyPost_ret (v := .tuple #[.agg #[.int .i64 4,.string (s.extract 0 1),.int .i64 0,.int .i64 0,.int .i64 0],.int .i64 0]) (by simp [results,Tryz.results131,go_sem]) rfl ⟨rfl,HBL.out _⟩
  ·have h2:=htwo (.inr rfl);have e:(if Lx.mark s.data.toList=0 then Lx.Got.bad 4 else .tok 4 (Lx.mark s.data.toList) 0) = .tok 4 2 0:=by simp only [hm];rfl
   rw [e];clear e hm htwo ei
   show Calls _ _ _ _ fun e w'=>e = .returned (.tuple #[.agg #[.int .i64 4,.string (s.extract 0 2),.int .i64 0,.int .i64 0,.int .i64 0],.int .i64 0])/\_
   go_enter Tryz.func131,Tryz.ntmps131
   go_wp2_with fail
   refine (C1.out _).mono ?_;rintro e w' ⟨rfl,rfl⟩
   go_wp2_with fail
   refine (C2.out _).mono ?_;rintro e w' ⟨rfl,rfl⟩
   go_wp2
   exact bodyPost_ret (v := .tuple #[.agg #[.int .i64 4,.string (s.extract 0 2),.int .i64 0,.int .i64 0,.int .i64 0],.int .i64 0]) (by simp [results,Tryz.results131,go_sem]) rfl ⟨rfl,HBL.out _⟩
 ·have h2:=htwo (.inl rfl);have e:(if Lx.mark s.data.toList=0 then Lx.Got.bad 4 else .tok 4 (Lx.mark s.data.toList) 0) = .tok 4 2 0:=by simp only [hm];rfl
  rw [e];clear e hm htwo ei
  show Calls _ _ _ _ fun e w'=>e = .returned (.tuple #[.agg #[.int .i64 4,.string (s.extract 0 2),.int .i64 0,.int .i64 0,.int .i64 0],.int .i64 0])/\_
  go_enter Tryz.func131,Tryz.ntmps131
  go_wp2_with fail
  refine (C1.out _).mono ?_;rintro e w' ⟨rfl,rfl⟩
  go_wp2
  exact bodyPost_ret (v := .tuple #[.agg #[.int .i64 4,.string (s.extract 0 2),.int .i64 0,.int .i64 0,.int .i64 0],.int .i64 0]) (by simp [results,Tryz.results131,go_sem]) rfl ⟨rfl,HBL.out _⟩
theorem firstNumber_any (s:ByteArray)(w:World)(hs:s.size<=1000000000000)(hn:0<Lx.span false s.data.toList):
  Calls Tryz.prog 128 #[.string s] w fun e w'=>e = .returned (gotV s (if Lx.span false s.data.toList>18 then .bad 6 else .tok 3 (Lx.span false s.data.toList) (Lx.number (s.data.toList.take (Lx.span false s.data.toList)))))/\Below w.heap.size w w':=by
 have hle:=Lx.span_le false s.data.toList;rw [<- size_len] at hle;have hall:=Lx.span_all false s.data.toList;have cL:=fun w=>lengthOf_digit s w hs;have hbl:∀ v,Below w.heap.size w (w.alloc (.cells v 118)):=fun v=>(Below.refl w.heap.size w).alloc (Nat.le_refl _) _;have HBL:=Lib.hid hbl;clear hbl;have hsz:=head_sz s (Lx.span false s.data.toList) hle;have hli:=head_list s (Lx.span false s.data.toList);generalize Lx.span false s.data.toList=n at *;have CL:=Lib.hid cL;clear cL
 by_cases h18:n>18
 ·rw [if_pos h18]
  show Calls _ _ _ _ fun e w'=>e = .returned (.tuple #[.agg #[.int .i64 0,.string ⟨#[]⟩,.int .i64 0,.int .i64 0,.int .i64 0],.int .i64 6])/\_
  clear hall hli
  go_enter Tryz.func128,Tryz.ntmps128
  go_wp2_with fail
  refine (CL.out _).mono ?_;rintro e w' ⟨rfl,rfl⟩
  go_wp2
  exact bodyPost_ret (v := .tuple #[.agg #[.int .i64 0,.string ⟨#[]⟩,.int .i64 0,.int .i64 0,.int .i64 0],.int .i64 6]) (by simp [results,Tryz.results128,go_sem]) rfl ⟨rfl,HBL.out _⟩
 ·rw [if_neg h18];have hp:Lib.parseIntB 64 (s.extract 0 n).data.toList = .ok (Lx.number (s.data.toList.take n)):=by
   rw [hli];refine Lx.parse_digits _ ?_ (fun c hc=>by simpa using hall c hc) (by rw [List.length_take,<- size_len];omega);intro h;have:=congrArg List.length h;rw [List.length_take,<- size_len,List.length_nil] at this;omega
  have cP:=fun w=>Tryz.strconv_ParseInt_10_at64_ok (s.extract 0 n) (by omega) _ hp w;have hpB:∀ (w0 w':World),(w'=w0\/∃ t,w'=Lib.bytesWorld w0 5 t)->Below w0.heap.size w0 w':=by
   rintro w0 w' (rfl | ⟨t,rfl⟩)
   ·exact Below.refl _ _
   ·exact Lib.bytesWorld_below _ _ _
  generalize Lx.number (s.data.toList.take n)=V at *;have CP:=Lib.hid cP;have HPB:=Lib.hid hpB;clear cP hp hall hli hpB
  show Calls _ _ _ _ fun e w'=>e = .returned (.tuple #[.agg #[.int .i64 3,.string (s.extract 0 n),.int .i64 V,.int .i64 0,.int .i64 0],.int .i64 0])/\_
  have hZ:=HBL.out #[.int .i64 0,.string ⟨#[]⟩,.int .i64 0,.int .i64 0,.int .i64 0];have z0:(w.alloc (.cells #[.int .i64 0,.string ⟨#[]⟩,.int .i64 0,.int .i64 0,.int .i64 0] 118)).cell? ⟨w.heap.size,0,none⟩=some (.int .i64 0):=by simp [go_sem]
  have z1:(w.alloc (.cells #[.int .i64 0,.string ⟨#[]⟩,.int .i64 0,.int .i64 0,.int .i64 0] 118)).cell? ⟨w.heap.size,1,none⟩=some (.string ⟨#[]⟩):=by simp [go_sem]
  have z2:(w.alloc (.cells #[.int .i64 0,.string ⟨#[]⟩,.int .i64 0,.int .i64 0,.int .i64 0] 118)).cell? ⟨w.heap.size,2,none⟩=some (.int .i64 0):=by simp [go_sem]
  have z3:(w.alloc (.cells #[.int .i64 0,.string ⟨#[]⟩,.int .i64 0,.int .i64 0,.int .i64 0] 118)).cell? ⟨w.heap.size,3,none⟩=some (.int .i64 0):=by simp [go_sem]
  have z4:(w.alloc (.cells #[.int .i64 0,.string ⟨#[]⟩,.int .i64 0,.int .i64 0,.int .i64 0] 118)).cell? ⟨w.heap.size,4,none⟩=some (.int .i64 0):=by simp [go_sem]
  have zf:∀ i,(w.alloc (.cells #[.int .i64 0,.string ⟨#[]⟩,.int .i64 0,.int .i64 0,.int .i64 0] 118)).frozen? ⟨w.heap.size,i,none⟩=false:=fun i=>World.frozen?_alloc_new _ _ _ _
  go_enter Tryz.func128,Tryz.ntmps128
  go_wp2_with fail
  refine (CL.out _).mono ?_;rintro e w' ⟨rfl,rfl⟩;generalize w.alloc (.cells #[.int .i64 0,.string ⟨#[]⟩,.int .i64 0,.int .i64 0,.int .i64 0] 118)=w1 at *
  go_wp2_with fail
  refine (CP.out _).mono ?_;rintro e w2 ⟨rfl,hw2⟩;have hb2:=HPB.out _ _ hw2;clear hw2;have hlt:w.heap.size<w1.heap.size:=World.block_lt_of_cell? _ _ z0;have y0:=(hb2.cell (p:=⟨w.heap.size,0,none⟩) hlt).trans z0;have y1:=(hb2.cell (p:=⟨w.heap.size,1,none⟩) hlt).trans z1;have y2:=(hb2.cell (p:=⟨w.heap.size,2,none⟩) hlt).trans z2;have y3:=(hb2.cell (p:=⟨w.heap.size,3,none⟩) hlt).trans z3;have y4:=(hb2.cell (p:=⟨w.heap.size,4,none⟩) hlt).trans z4;have yf0:=(hb2.frozen (p:=⟨w.heap.size,0,none⟩) hlt).trans (zf 0);have yf1:=(hb2.frozen (p:=⟨w.heap.size,1,none⟩) hlt).trans (zf 1);have yf2:=(hb2.frozen (p:=⟨w.heap.size,2,none⟩) hlt).trans (zf 2);have yf3:=(hb2.frozen (p:=⟨w.heap.size,3,none⟩) hlt).trans (zf 3);have yf4:=(hb2.frozen (p:=⟨w.heap.size,4,none⟩) hlt).trans (zf 4);have hb3:Below w.heap.size w w2:=hZ.trans (hb2.mono hZ.size);clear z0 z1 z2 z3 z4 zf hb2 hZ
  go_wp2
  refine bodyPost_ret (v := .tuple #[.agg #[.int .i64 3,.string (s.extract 0 n),.int .i64 V,.int .i64 0,.int .i64 0],.int .i64 0]) ?_ rfl ⟨rfl, ?_⟩
  ·simp [results,Tryz.results128,go_sem,y0,y1,y2,y3,y4]
  ·exact ((((hb3.setCell (by simp) _).setCell (by simp) _).setCell (by simp) _).setCell (by simp) _).setCell (by simp) _
theorem firstName_any (s:ByteArray)(w:World)(hs:s.size<=1000000000000):
  Calls Tryz.prog 130 #[.string s] w fun e w'=>e = .returned (gotV s (if Lx.span true s.data.toList>40 then .bad 6 else if Lx.own (s.data.toList.take (Lx.span true s.data.toList)) then .tok 2 (Lx.span true s.data.toList) 0 else .tok 1 (Lx.span true s.data.toList) 0))/\Below w.heap.size w w':=by
 have hle:=Lx.span_le true s.data.toList;rw [<- size_len] at hle;have cL:=fun w=>lengthOf_word s w hs;have hbl:∀ v,Below w.heap.size w (w.alloc (.cells v 118)):=fun v=>(Below.refl w.heap.size w).alloc (Nat.le_refl _) _;have HBL:=Lib.hid hbl;clear hbl;have hsz:=head_sz s (Lx.span true s.data.toList) hle;have cO:=fun w=>own_any (s.extract 0 (Lx.span true s.data.toList)) w;rw [head_list] at cO;generalize Lx.span true s.data.toList=n at *;have CL:=Lib.hid cL;clear cL
 by_cases h40:n>40
 ·rw [if_pos h40]
  show Calls _ _ _ _ fun e w'=>e = .returned (.tuple #[.agg #[.int .i64 0,.string ⟨#[]⟩,.int .i64 0,.int .i64 0,.int .i64 0],.int .i64 6])/\_
  clear cO
  go_enter Tryz.func130,Tryz.ntmps130
  go_wp2_with fail
  refine (CL.out _).mono ?_;rintro e w' ⟨rfl,rfl⟩
  go_wp2
  exact bodyPost_ret (v := .tuple #[.agg #[.int .i64 0,.string ⟨#[]⟩,.int .i64 0,.int .i64 0,.int .i64 0],.int .i64 6]) (by simp [results,Tryz.results130,go_sem]) rfl ⟨rfl,HBL.out _⟩
 ·rw [if_neg h40];generalize Lx.own (s.data.toList.take n)=b at *;have CO:=Lib.hid cO;clear cO
  cases b
  ·show Calls _ _ _ _ fun e w'=>e = .returned (.tuple #[.agg #[.int .i64 1,.string (s.extract 0 n),.int .i64 0,.int .i64 0,.int .i64 0],.int .i64 0])/\_
   go_enter Tryz.func130,Tryz.ntmps130
   go_wp2_with fail
   refine (CL.out _).mono ?_;rintro e w' ⟨rfl,rfl⟩
   go_wp2_with fail
   refine (CO.out _).mono ?_;rintro e w' ⟨rfl,rfl⟩
   go_wp2
   exact bodyPost_ret (v := .tuple #[.agg #[.int .i64 1,.string (s.extract 0 n),.int .i64 0,.int .i64 0,.int .i64 0],.int .i64 0]) (by simp [results,Tryz.results130,go_sem]) rfl ⟨rfl,HBL.out _⟩
  ·show Calls _ _ _ _ fun e w'=>e = .returned (.tuple #[.agg #[.int .i64 2,.string (s.extract 0 n),.int .i64 0,.int .i64 0,.int .i64 0],.int .i64 0])/\_
   go_enter Tryz.func130,Tryz.ntmps130
   go_wp2_with fail
   refine (CL.out _).mono ?_;rintro e w' ⟨rfl,rfl⟩
   go_wp2_with fail
   refine (CO.out _).mono ?_;rintro e w' ⟨rfl,rfl⟩
   go_wp2
   exact bodyPost_ret (v := .tuple #[.agg #[.int .i64 2,.string (s.extract 0 n),.int .i64 0,.int .i64 0,.int .i64 0],.int .i64 0]) (by simp [results,Tryz.results130,go_sem]) rfl ⟨rfl,HBL.out _⟩
end
end Go.Proofs.YtdfpkmfeldoamaaGreatDoor
