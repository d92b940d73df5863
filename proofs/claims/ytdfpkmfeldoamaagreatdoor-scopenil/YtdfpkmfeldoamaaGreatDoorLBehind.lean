/- A part of the proof: A part of the proof. -/
import Derived.Test.YtdfpkmfeldoamaaGreatDoorPf
import Derived.Test.YtdfpkmfeldoamaaGreatDoorProg
import Derived.WalkKit
import Derived.Lib.Strings
import Derived.Lib.Hide
import Derived.WalkSpells
import Derived.WalkLawsBesides
import Derived.Laws.RangeAny
import Derived.Lib.OthersKept
set_option linter.unusedSimpArgs false
set_option linter.unusedVariables false
set_option maxRecDepth 100000
set_option maxHeartbeats 4000000
namespace Go.Proofs.YtdfpkmfeldoamaaGreatDoor.Lx
open Go.Lib
theorem decN_facts (n b0 b1 b2 b3:Nat)(hn:1<=n)(h0:b0<256)(h1:b1<256)(h2:b2<256)(h3:b3<256)(hne:¬ decodeN n b0 b1 b2 b3=(65533,1)):
  1<=(decodeN n b0 b1 b2 b3).2/\(decodeN n b0 b1 b2 b3).2<=4/\(decodeN n b0 b1 b2 b3).2<=n/\¬ (128<=b0/\b0<=191)/\(2<=(decodeN n b0 b1 b2 b3).2->128<=b0/\128<=b1/\b1<=191)
   /\ (3<=(decodeN n b0 b1 b2 b3).2->128<=b2/\b2<=191)/\(4<=(decodeN n b0 b1 b2 b3).2->128<=b3/\b3<=191)/\((decodeN n b0 b1 b2 b3).1=10↔b0=10):=by
 revert hne
 unfold decodeN
 repeat' split
 all_goals (intro hne;first | (exact absurd rfl hne) | (refine ⟨?_, ?_, ?_, ?_, ?_, ?_, ?_, ?_⟩ <;> (try simp only) <;> omega))
theorem decN_part (n m b0 b1 b2 b3 c1 c2 c3:Nat)(hne:¬ decodeN n b0 b1 b2 b3=(65533,1))(hm:(decodeN n b0 b1 b2 b3).2<=m)
  (e1:2<=(decodeN n b0 b1 b2 b3).2->c1=b1) (e2:3<=(decodeN n b0 b1 b2 b3).2->c2=b2) (e3:4<=(decodeN n b0 b1 b2 b3).2->c3=b3):
  decodeN m b0 c1 c2 c3=decodeN n b0 b1 b2 b3:=by
 revert hne hm e1 e2 e3
 unfold decodeN
 by_cases a0:b0<128
 ·simp only [a0,if_true];intros;trivial
 simp only [a0,if_false]
 by_cases a1:b0 / 32=6
 ·have a2:¬ b0 / 16=14:=by omega
  have a3:¬ b0 / 8=30:=by omega
  simp only [a1,a2,a3,true_and,false_and,if_false]
  split
  ·split
   ·intro _ hm e1 _ _;have g1:=e1 (by simp);clear e1;subst g1;have:1<m:=by simp at hm;omega
    rw [if_pos (by omega),if_pos (by omega)]
   ·intro h;exact absurd rfl h
  ·intro h;exact absurd rfl h
 by_cases a2:b0 / 16=14
 ·have a3:¬ b0 / 8=30:=by omega
  simp only [a1,a2,a3,true_and,false_and,if_false]
  split
  ·split
   ·intro _ hm e1 e2 _;have g1:=e1 (by simp);clear e1;have g2:=e2 (by simp);clear e2;subst g1;subst g2;have:2<m:=by simp at hm;omega
    rw [if_pos (by omega),if_pos (by assumption)]
   ·intro h;exact absurd rfl h
  ·intro h;exact absurd rfl h
 by_cases a3:b0 / 8=30
 ·simp only [a1,a2,a3,true_and,false_and,if_false]
  split
  ·split
   ·intro _ hm e1 e2 e3;have g1:=e1 (by simp);clear e1;have g2:=e2 (by simp);clear e2;have g3:=e3 (by simp);clear e3;subst g1;subst g2;subst g3;have:3<m:=by simp at hm;omega
    rw [if_pos (by omega),if_pos (by assumption)]
   ·intro h;exact absurd rfl h
  ·intro h;exact absurd rfl h
 simp only [a1,a2,a3,false_and,if_false];intro h;exact absurd trivial h
theorem getD_lt (l:B)(i:Nat):(l.getD i 0).toNat<256:=(l.getD i 0).toNat_lt
theorem cont_iff (c:UInt8):cont c=true↔128<=c.toNat/\c.toNat<=191:=by
 simp only [cont,contZ,Bool.and_eq_true,decide_eq_true_eq];omega
theorem cont_false {c:UInt8}(h:¬ (128<=c.toNat/\c.toNat<=191)):cont c=false:=by
 cases hc:cont c
 ·rfl
 ·exact absurd ((cont_iff c).1 hc) h
theorem getD_take (l:B)(m i:Nat)(h:i<m):(l.take m).getD i 0=l.getD i 0:=by
 simp only [List.getD_eq_getElem?_getD,List.getElem?_take,h,if_true]
structure PointFacts (l:B):Prop where
 le4:point l<=4
 le:point l<=l.length
 head:cont (l.getD 0 0)=false
 tail:∀ i,1<=i->i<point l->cont (l.getD i 0)=true
 big:2<=point l->128<=(l.getD 0 0).toNat
 ten:(dec l).1=10↔(l.getD 0 0).toNat=10
 two:point l=(dec l).2
 part:∀ m,point l<=m->point (l.take m)=point l
theorem point_facts (l:B)(hl:l≠[])(hp:0<point l):PointFacts l:=by
 have hne:¬ dec l=(65533,1):=by intro h;simp [point,h] at hp
 have hn:1<=l.length:=by cases l;exact absurd rfl hl;simp
 have h2:point l=(dec l).2:=by simp [point,hne]
 have F:=decN_facts l.length _ _ _ _ hn (getD_lt l 0) (getD_lt l 1) (getD_lt l 2) (getD_lt l 3) hne;obtain ⟨f1,f2,f3,f4,f5,f6,f7,f8⟩:=F;have hd:(dec l).2=(decodeN l.length (l.getD 0 0).toNat (l.getD 1 0).toNat (l.getD 2 0).toNat (l.getD 3 0).toNat).2:=rfl;rw [<- hd] at f1 f2 f3 f5 f6 f7;refine ⟨by omega,by omega,cont_false f4, ?_,fun h=>(f5 (by omega)).1,f8,h2, ?_⟩
 ·intro i i1 i2;rw [h2] at i2;refine (cont_iff _).2 ?_;have:i=1\/i=2\/i=3:=by omega
  rcases this with rfl | rfl | rfl
  ·exact (f5 (by omega)).2
  ·exact f6 (by omega)
  ·exact f7 (by omega)
 ·intro m hm
  by_cases hml:l.length<=m
  ·rw [List.take_of_length_le hml]
  have hlen:(l.take m).length=m:=by rw [List.length_take];omega
  have hE:dec (l.take m)=dec l:=by
   show decodeN (l.take m).length _ _ _ _=decodeN _ _ _ _ _
   rw [hlen,getD_take l m 0 (by omega)];refine decN_part _ _ _ _ _ _ _ _ _ hne (by rw [<- hd];omega) (fun h=>?_) (fun h=>?_) (fun h=>?_)
   ·rw [<- hd] at h;rw [getD_take l m 1 (by omega)]
   ·rw [<- hd] at h;rw [getD_take l m 2 (by omega)]
   ·rw [<- hd] at h;rw [getD_take l m 3 (by omega)]
  simp [point,hE]
theorem point_ascii (c:UInt8)(l:B)(h:c.toNat<128):point (c :: l)=1:=by
 have:dec (c :: l)=(c.toNat,1):=by simp [dec,decodeN,h]
 simp only [point,this];rw [if_neg (by simp;omega)]
inductive Valid:B->Prop
 | nil:Valid []
 | step (l:B) (h:l≠[]) (hp:0<point l) (hv:Valid (l.drop (point l))):Valid l
theorem Valid.pos {l:B}(h:Valid l)(hl:l≠[]):0<point l:=by
 cases h with
 | nil=>exact absurd rfl hl
 | step _ _ hp _=>exact hp
theorem Valid.rest {l:B}(h:Valid l)(hl:l≠[]):Valid (l.drop (point l)):=by
 cases h with
 | nil=>exact absurd rfl hl
 | step _ _ _ hv=>exact hv
theorem Valid.tail {c:UInt8}{l:B}(h:Valid (c :: l))(hc:c.toNat<128):Valid l:=by
 have:=h.rest (by simp);rw [point_ascii c l hc] at this
 simpa using this
theorem Valid.ascii {c:UInt8}{l:B}(h:Valid l)(hc:c.toNat<128):Valid (c :: l):=by
 refine .step _ (by simp) (by rw [point_ascii c l hc];omega) ?_;rw [point_ascii c l hc];simpa using h
theorem Valid.head {c:UInt8}{l:B}(h:Valid (c :: l)):cont c=false:=by
 simpa using (point_facts _ (by simp) (h.pos (by simp))).head
theorem vlen_le (f:Nat)(l:B):vlen f l<=l.length:=by
 induction f generalizing l with
 | zero=>exact Nat.zero_le _
 | succ f ih =>
  unfold vlen
  split
  ·exact Nat.zero_le _
  ·rename_i h;simp only [not_or] at h;have F:=point_facts l h.1 (by omega);have:=ih (l.drop (point l));rw [List.length_drop] at this;have:=F.le;omega
theorem vlen_valid (f:Nat)(l:B):Valid (l.take (vlen f l)):=by
 induction f generalizing l with
 | zero=>exact .nil
 | succ f ih =>
  unfold vlen
  split
  ·exact .nil
  ·rename_i h;simp only [not_or] at h;have F:=point_facts l h.1 (by omega);have hp:=F.part (point l+vlen f (l.drop (point l))) (by omega);refine .step _ ?_ (by rw [hp];omega) ?_
   ·intro e;have hh:=congrArg List.length e;have hle:=F.le;rw [List.length_take,List.length_nil] at hh;omega
   ·rw [hp,List.drop_take]
    simpa using ih (l.drop (point l))
theorem vlen_all {f:Nat}{l:B}(h:¬ vlen f l<l.length):Valid l:=by
 have:=vlen_valid f l
 rwa [List.take_of_length_le (by omega)] at this
theorem blanks_le (note:Bool)(l:B):blanks note l<=l.length:=by
 induction l generalizing note with
 | nil=>simp [blanks]
 | cons c l ih =>
  unfold blanks;have h1:=ih false;have h2:=ih true;have h3:=ih note;rw [List.length_cons]
  repeat' split
  all_goals omega
theorem blanks_cont (l:B)(k:Nat)(hk:k<=l.length)(h:∀ i,i<k->128<=(l.getD i 0).toNat):blanks true l=k+blanks true (l.drop k):=by
 induction k generalizing l with
 | zero=>simp
 | succ k ih =>
  cases l with
  | nil=>simp at hk
  | cons c l =>
   have h0:128<=c.toNat:=by simpa using h 0 (by omega)
   have e:=ih l (by simpa using hk) (fun i hi=>by simpa using h (i+1) (by omega));rw [blanks];rw [if_neg (by simp;omega),if_neg (by simp;omega),if_pos (by simp),e]
   simp;omega
theorem Valid.blanks:∀ (n:Nat)(l:B),l.length<=n->Valid l->∀ note,Valid (l.take (Lx.blanks note l))/\Valid (l.drop (Lx.blanks note l))
 | 0,l,hn,h,note=>by
  have:l=[]:=List.eq_nil_of_length_eq_zero (by omega);subst this;simpa [Lx.blanks] using And.intro Valid.nil Valid.nil
 | n+1,[],_,_,note=>by simpa [Lx.blanks] using And.intro Valid.nil Valid.nil
 | n+1,c :: l,hn,h,note=>by
  have hn':l.length<=n:=by simpa using hn
  by_cases hc:c.toNat<128
  ·have ht:=h.tail hc;have go:∀ b,Valid ((c :: l).take (1+Lx.blanks b l))/\Valid ((c :: l).drop (1+Lx.blanks b l)):=fun b=>by
    have:=Valid.blanks n l hn' ht b;rw [Nat.add_comm 1,List.take_succ_cons,List.drop_succ_cons];exact ⟨this.1.ascii hc,this.2⟩
   unfold Lx.blanks
   split
   ·exact go false
   ·split
    ·exact go true
    ·split
     ·exact go note
     ·simpa using And.intro Valid.nil h
  ·have e1:((c.toNat:Int)==10)=false:=by simp;omega
   have e2:((c.toNat:Int)==35)=false:=by simp;omega
   have e3:blank c=false:=by simp [blank,blankZ];omega
   cases note with
   | false =>
    have:Lx.blanks false (c :: l)=0:=by rw [Lx.blanks];simp [e1,e2,e3]
    rw [this];exact ⟨.nil,h⟩
   | true =>
    have F:=point_facts (c :: l) (by simp) (h.pos (by simp));have hk:=h.pos (by simp);have hb:=blanks_cont (c :: l) (point (c :: l)) F.le (fun i hi=>by
     rcases Nat.eq_zero_or_pos i with rfl | hi0
     ·simp;omega
     ·exact ((cont_iff _).1 (F.tail i hi0 hi)).1)
    rw [hb];have hr:=Valid.blanks n ((c :: l).drop (point (c :: l))) (by rw [List.length_drop];simp;omega) (h.rest (by simp)) true;have hp:=F.part (point (c :: l)+Lx.blanks true ((c :: l).drop (point (c :: l)))) (by omega);refine ⟨.step _ ?_ (by rw [hp];exact hk) ?_,by rw [<- List.drop_drop];exact hr.2⟩
    ·obtain ⟨k,hk'⟩:∃ k,point (c :: l)=k+1:=⟨point (c :: l)-1,by omega⟩;rw [hk',Nat.add_right_comm,List.take_succ_cons];simp
    ·rw [hp,List.drop_take];simpa using hr.1
theorem adv_conts (p:Pos)(l:B)(k:Nat)(h:∀ i,i<k->i<l.length->cont (l.getD i 0)=true):adv p (l.take k)=p:=by
 induction k generalizing l with
 | zero=>rfl
 | succ k ih =>
  cases l with
  | nil=>rfl
  | cons c l =>
   have h0:cont c=true:=by simpa using h 0 (by omega) (by simp)
   rw [List.take_succ_cons,adv_cons];have hs:step p c=p:=by
    have:=(cont_iff c).1 h0;rw [step,if_neg (by simp;omega),if_pos h0]
   rw [hs];exact ih l (fun i hi hl=>by simpa using h (i+1) (by omega) (by simpa using hl))
theorem adv_point (p:Pos)(l:B)(hl:l≠[])(hp:0<point l):adv p (l.take (point l))=(if ((dec l).1:Int)==10 then ⟨p.line+1,1⟩ else ⟨p.line,p.col+1⟩):=by
 have F:=point_facts l hl hp
 cases l with
 | nil=>exact absurd rfl hl
 | cons c l =>
  obtain ⟨k,hk⟩:∃ k,point (c :: l)=k+1:=⟨point (c :: l)-1,by omega⟩;rw [hk,List.take_succ_cons,adv_cons,adv_conts _ l k (fun i hi _=>by simpa using F.tail (i+1) (by omega) (by omega))];have hh:cont c=false:=by simpa using F.head
  have ht:=F.ten;simp only [List.getD_cons_zero] at ht;unfold step
  by_cases e:c.toNat=10
  ·rw [if_pos (by simp;omega),if_pos (by have:=ht.2 e;simp;omega)]
  ·rw [if_neg (by simp;omega),if_neg (by simp [hh]),if_neg (by have:¬ (dec (c :: l)).1=10:=fun h=>e (ht.1 h);simp;omega)]
theorem Valid.behind:∀ (n:Nat)(l:B),l.length<=n->Valid l->∀ i,i<l.length->(l.getD i 0).toNat<128->Valid (l.drop (i+1))
 | 0,l,hn,_,i,hi,_=>by omega
 | n+1,[],_,_,i,hi,_=>by simp at hi
 | n+1,c :: l,hn,h,i,hi,ha=>by
  have hp:=h.pos (by simp);have F:=point_facts _ (by simp) hp
  by_cases hik:i<point (c :: l)
  ·rcases Nat.eq_zero_or_pos i with rfl | hi0
   ·simp only [List.getD_cons_zero] at ha
    simpa using h.tail ha
   ·have:=(cont_iff _).1 (F.tail i hi0 hik);omega
  ·have hv:=Valid.behind n ((c :: l).drop (point (c :: l))) (by rw [List.length_drop];omega) (h.rest (by simp)) (i-point (c :: l)) (by rw [List.length_drop];omega)
    (by simpa [List.getD_eq_getElem?_getD,List.getElem?_drop,Nat.add_sub_of_le (Nat.le_of_not_lt hik)] using ha)
   rw [List.drop_drop] at hv;have:point (c :: l)+(i-point (c :: l)+1)=i+1:=by omega
   rwa [this] at hv
end Go.Proofs.YtdfpkmfeldoamaaGreatDoor.Lx
namespace Go.Proofs.YtdfpkmfeldoamaaGreatDoor
section
open Go.RowKit
theorem ret_bool {a b:Bool}(h:a=b):Ending.returned (.bool a) = .returned (.bool b):=by rw [h]
theorem isBlank_any (c:Int)(w:World):Calls Tryz.prog 126 #[.int .u8 c] w fun e w'=>e = .returned (.bool (Lx.blankZ c))/\w=w':=by
 go_enter Tryz.func126,Tryz.ntmps126
 go_wp2
 all_goals (go_ret;refine ⟨?_,rfl⟩;simp_all [Lx.blankZ])
theorem isDigit_any (c:Int)(w:World):Calls Tryz.prog 127 #[.int .u8 c] w fun e w'=>e = .returned (.bool (Lx.digitZ c))/\w=w':=by
 go_enter Tryz.func127,Tryz.ntmps127
 go_wp2
 all_goals (go_ret;refine ⟨ret_bool (Bool.eq_iff_iff.2 ?_),rfl⟩;first | (simp [Lx.digitZ];done) | (simp [Lx.digitZ];omega))
theorem isLetter_any (c:Int)(w:World):Calls Tryz.prog 129 #[.int .u8 c] w fun e w'=>e = .returned (.bool (Lx.letterZ c))/\w=w':=by
 go_enter Tryz.func129,Tryz.ntmps129
 go_wp2
 all_goals (go_ret;refine ⟨ret_bool (Bool.eq_iff_iff.2 ?_),rfl⟩;first | (simp [Lx.letterZ];done) | (simp [Lx.letterZ];omega))
theorem isWord_any (c:Int)(w:World):Calls Tryz.prog 163 #[.int .u8 c] w fun e w'=>e = .returned (.bool (Lx.letterZ c || Lx.digitZ c))/\w=w':=by
 go_enter Tryz.func163,Tryz.ntmps163
 go_wp2_with (first | (go_at_call 129;refine (isLetter_any _ _).mono ?_;rintro e w' ⟨rfl,rfl⟩) | (go_at_call 127;refine (isDigit_any _ _).mono ?_;rintro e w' ⟨rfl,rfl⟩))
 all_goals (go_ret;refine ⟨?_,rfl⟩;simp_all)
theorem toList_eq (s:ByteArray):s.toList=s.data.toList:=Lib.toList_data s
theorem ext_list {s t:ByteArray}(h:s.data.toList=t.data.toList):s=t:=by
 cases s;cases t;simp only at h;congr;exact Array.toList_inj.1 h
end
section
open Go.RowKit
theorem byte_at (s:ByteArray)(k:Nat)(h:k<s.size):∃ c:UInt8,s[k]'h=c/\s.data.toList.drop k=c :: s.data.toList.drop (k+1):=by
 refine ⟨_,rfl, ?_⟩;have h':k<s.data.toList.length:=by rw [Array.length_toList];exact h
 rw [List.drop_eq_getElem_cons h']
 rfl
theorem size_len (s:ByteArray):s.size=s.data.toList.length:=by rw [Array.length_toList];rfl
theorem drop_end (s:ByteArray)(k:Nat)(h:¬ k<s.size):s.data.toList.drop k=[]:=by
 rw [size_len] at h;exact List.drop_eq_nil_of_le (by omega)
theorem cast_succ (k:Nat):Value.int .i64 ((k:Int)+1) = .int .i64 ((k+1:Nat):Int):=by push_cast;rfl
theorem ret_int {k:IntKind}{a b:Int}(h:a=b):Ending.returned (.int k a) = .returned (.int k b):=by rw [h]
theorem blanks_any (s:ByteArray)(w:World)(hs:s.size<=1000000000000):Calls Tryz.prog 74 #[.string s] w fun e w'=>e = .returned (.int .i64 (Lx.blanks false s.data.toList:Int))/\w=w':=by
 generalize hA:Lx.blanks false s.data.toList=A;have HA:=Lib.hid hA;clear hA
 go_enter Tryz.func74,Tryz.ntmps74
 go_wp2
 go_loopw [3,4] (fun i b wr=>∃ (k:Nat) (note:Bool),k<=s.size/\i = .int .i64 (k:Int)/\b = .bool note/\A=k+Lx.blanks note (s.data.toList.drop k)/\w=wr) (fun i _ _=>s.size-(intOf i).toNat)
 case atStart=>exact ⟨0,false,Nat.zero_le _,rfl,rfl,by simpa using HA.out.symm,rfl⟩
 case round =>
  obtain ⟨k,note,hk,rfl,rfl,hA,rfl⟩:=hrel;clear HA
  by_cases hlt:k<s.size
  ·obtain ⟨c,hc,hd⟩:=byte_at s k hlt;rw [hd,Lx.blanks] at hA;have hm:s.size-(intOf (Value.int IntKind.i64 ((k:Int)+1))).toNat<s.size-(intOf (Value.int IntKind.i64 (k:Int))).toNat:=by simp [intOf];omega
   have HM:=Lib.hid hm;clear hm hd
   cases h1:(c.toNat:Int)==10
   ·cases h2:(c.toNat:Int)==35
    ·cases h3:Lx.blankZ (c.toNat:Int)
     ·cases note
      ·have hE:A=k:=by rw [hA];simp [h1,h2,h3,Lx.blank]
       subst hE;clear hA
       go_wp2_with (go_at_call 126;refine (isBlank_any _ _).mono ?_;rintro e w' ⟨rfl,rfl⟩)
       go_ret;exact ⟨rfl,rfl⟩
      ·have hE:A=(k+1)+Lx.blanks true (s.data.toList.drop (k+1)):=by rw [hA];simp [h1,h2,h3,Lx.blank];omega
       have HE:=Lib.hid hE;clear hA hE
       go_wp2_with (go_at_call 126;refine (isBlank_any _ _).mono ?_;rintro e w' ⟨rfl,rfl⟩)
       exact ⟨⟨k+1,true,by omega,cast_succ k,rfl,HE.out,trivial⟩,HM.out⟩
     ·cases note
      ·have hE:A=(k+1)+Lx.blanks false (s.data.toList.drop (k+1)):=by rw [hA];simp [h1,h2,h3,Lx.blank];omega
       have HE:=Lib.hid hE;clear hA hE
       go_wp2_with (go_at_call 126;refine (isBlank_any _ _).mono ?_;rintro e w' ⟨rfl,rfl⟩)
       exact ⟨⟨k+1,false,by omega,cast_succ k,rfl,HE.out,trivial⟩,HM.out⟩
      ·have hE:A=(k+1)+Lx.blanks true (s.data.toList.drop (k+1)):=by rw [hA];simp [h1,h2,h3,Lx.blank];omega
       have HE:=Lib.hid hE;clear hA hE
       go_wp2_with (go_at_call 126;refine (isBlank_any _ _).mono ?_;rintro e w' ⟨rfl,rfl⟩)
       exact ⟨⟨k+1,true,by omega,cast_succ k,rfl,HE.out,trivial⟩,HM.out⟩
    ·have hE:A=(k+1)+Lx.blanks true (s.data.toList.drop (k+1)):=by rw [hA];simp [h1,h2];omega
     have HE:=Lib.hid hE;clear hA hE
     go_wp2
     exact ⟨⟨k+1,true,by omega,cast_succ k,rfl,HE.out,trivial⟩,HM.out⟩
   ·have hE:A=(k+1)+Lx.blanks false (s.data.toList.drop (k+1)):=by rw [hA];simp [h1];omega
    have HE:=Lib.hid hE;clear hA hE
    go_wp2
    exact ⟨⟨k+1,false,by omega,cast_succ k,rfl,HE.out,trivial⟩,HM.out⟩
  ·have hE:A=k:=by rw [hA,drop_end s k hlt];rfl
   subst hE;clear hA
   go_wp2
   go_ret;exact ⟨rfl,rfl⟩
theorem lengthOf_digit (s:ByteArray)(w:World)(hs:s.size<=1000000000000):Calls Tryz.prog 161 #[.string s,.func (.func 127) #[] #[]] w fun e w'=>e = .returned (.int .i64 (Lx.span false s.data.toList:Int))/\w=w':=by
 generalize hA:Lx.span false s.data.toList=A;have HA:=Lib.hid hA;clear hA
 go_enter Tryz.func161,Tryz.ntmps161
 go_wp2
 go_loopw [5] (fun i wr=>∃ (k:Nat),k<=s.size/\i = .int .i64 (k:Int)/\A=k+Lx.span false (s.data.toList.drop k)/\w=wr) (fun i _=>s.size-(intOf i).toNat)
 case atStart=>exact ⟨0,Nat.zero_le _,rfl,by simpa using HA.out.symm,rfl⟩
 case round =>
  obtain ⟨k,hk,rfl,hA,rfl⟩:=hrel;clear HA
  by_cases hlt:k<s.size
  ·obtain ⟨c,hc,hd⟩:=byte_at s k hlt;rw [hd,Lx.span] at hA;have hm:s.size-(intOf (Value.int IntKind.i64 ((k:Int)+1))).toNat<s.size-(intOf (Value.int IntKind.i64 (k:Int))).toNat:=by simp [intOf];omega
   have HM:=Lib.hid hm;clear hm hd
   cases h1:Lx.digitZ (c.toNat:Int)
   ·have hE:A=k:=by rw [hA];simp [h1,Lx.digit]
    subst hE;clear hA
    go_wp2_with (go_at_call 127;refine (isDigit_any _ _).mono ?_;rintro e w' ⟨rfl,rfl⟩)
    go_ret;exact ⟨rfl,rfl⟩
   ·have hE:A=(k+1)+Lx.span false (s.data.toList.drop (k+1)):=by rw [hA];simp [h1,Lx.digit];omega
    have HE:=Lib.hid hE;clear hA hE
    go_wp2_with (go_at_call 127;refine (isDigit_any _ _).mono ?_;rintro e w' ⟨rfl,rfl⟩)
    exact ⟨⟨k+1,by omega,cast_succ k,HE.out,trivial⟩,HM.out⟩
  ·have hE:A=k:=by rw [hA,drop_end s k hlt];rfl
   subst hE;clear hA
   go_wp2
   go_ret;exact ⟨rfl,rfl⟩
theorem lengthOf_word (s:ByteArray)(w:World)(hs:s.size<=1000000000000):Calls Tryz.prog 161 #[.string s,.func (.func 163) #[] #[]] w fun e w'=>e = .returned (.int .i64 (Lx.span true s.data.toList:Int))/\w=w':=by
 generalize hA:Lx.span true s.data.toList=A;have HA:=Lib.hid hA;clear hA
 go_enter Tryz.func161,Tryz.ntmps161
 go_wp2
 go_loopw [5] (fun i wr=>∃ (k:Nat),k<=s.size/\i = .int .i64 (k:Int)/\A=k+Lx.span true (s.data.toList.drop k)/\w=wr) (fun i _=>s.size-(intOf i).toNat)
 case atStart=>exact ⟨0,Nat.zero_le _,rfl,by simpa using HA.out.symm,rfl⟩
 case round =>
  obtain ⟨k,hk,rfl,hA,rfl⟩:=hrel;clear HA
  by_cases hlt:k<s.size
  ·obtain ⟨c,hc,hd⟩:=byte_at s k hlt;rw [hd,Lx.span] at hA;have hm:s.size-(intOf (Value.int IntKind.i64 ((k:Int)+1))).toNat<s.size-(intOf (Value.int IntKind.i64 (k:Int))).toNat:=by simp [intOf];omega
   have HM:=Lib.hid hm;clear hm hd
   cases h1:(Lx.letterZ (c.toNat:Int) || Lx.digitZ (c.toNat:Int))
   ·have hE:A=k:=by rw [hA];simp only [Bool.or_eq_false_iff] at h1;simp [h1,Lx.digit,Lx.letter]
    subst hE;clear hA
    go_wp2_with (go_at_call 163;refine (isWord_any _ _).mono ?_;rintro e w' ⟨rfl,rfl⟩)
    go_ret;exact ⟨rfl,rfl⟩
   ·have hE:A=(k+1)+Lx.span true (s.data.toList.drop (k+1)):=by rw [hA,if_pos (by rw [Bool.or_comm] at h1;simpa [Lx.digit,Lx.letter] using h1)];omega
    have HE:=Lib.hid hE;clear hA hE
    go_wp2_with (go_at_call 163;refine (isWord_any _ _).mono ?_;rintro e w' ⟨rfl,rfl⟩)
    exact ⟨⟨k+1,by omega,cast_succ k,HE.out,trivial⟩,HM.out⟩
  ·have hE:A=k:=by rw [hA,drop_end s k hlt];rfl
   subst hE;clear hA
   go_wp2
   go_ret;exact ⟨rfl,rfl⟩
end
section
open Go.RowKit
theorem getD_drop (s:ByteArray)(pos i:Nat):s.get! (pos+i)=(s.data.toList.drop pos).getD i 0:=by
 rw [List.getD_eq_getElem?_getD,List.getElem?_drop]
 show s.data[pos+i]! = _
 rw [getElem!_def,<- Array.getElem?_toList]
 cases s.data.toList[pos+i]? <;> rfl
theorem decode_dec (s:ByteArray)(pos:Nat):Utf8.decode s pos=Lx.dec (s.data.toList.drop pos):=by
 rw [Lib.decode_at,Lx.dec,<- getD_drop,<- getD_drop,<- getD_drop,<- getD_drop,List.length_drop,<- size_len]
 rfl
structure PAt (w0:World)(s:ByteArray)(pos:Nat)(p:Lx.Pos)(wr:World):Prop where
 c0:wr.cell? ⟨w0.heap.size,0,none⟩=some (.int .i64 p.line)
 c1:wr.cell? ⟨w0.heap.size,1,none⟩=some (.int .i64 p.col)
 r0:wr.cell? ⟨w0.heap.size+1,0,none⟩=some (.int .i64 0)
 r1:wr.cell? ⟨w0.heap.size+1,1,none⟩=some (.int .i64 0)
 fz:∀ i,wr.frozen? ⟨w0.heap.size,i,none⟩=false
 gz:∀ i,wr.frozen? ⟨w0.heap.size+1,i,none⟩=false
 it:wr.heap[w0.heap.size+1+1]? = some (.stringIter s pos)
 bl:Below w0.heap.size w0 wr
theorem iter_cell (w:World)(k:Nat)(s:ByteArray)(pos:Nat)(b i:Nat)(h:b≠k):(w.iterAt k s pos).cell? ⟨b,i,none⟩=w.cell? ⟨b,i,none⟩ :=
 World.cell?_of_block (Lib.iterAt_other w k b s pos h)
theorem iter_frozen (w:World)(k:Nat)(s:ByteArray)(pos:Nat)(b i:Nat)(h:b≠k):(w.iterAt k s pos).frozen? ⟨b,i,none⟩=w.frozen? ⟨b,i,none⟩ :=
 World.frozen?_of_block (Lib.iterAt_other w k b s pos h)
theorem PAt.next {w0:World}{s:ByteArray}{pos:Nat}{p:Lx.Pos}{wr:World}(h:PAt w0 s pos p wr)(pos':Nat):PAt w0 s pos' p (wr.iterAt (w0.heap.size+1+1) s pos') :=
 ⟨by rw [iter_cell _ _ _ _ _ _ (by omega)];exact h.c0,by rw [iter_cell _ _ _ _ _ _ (by omega)];exact h.c1,by rw [iter_cell _ _ _ _ _ _ (by omega)];exact h.r0,by rw [iter_cell _ _ _ _ _ _ (by omega)];exact h.r1,
  fun i=>by rw [iter_frozen _ _ _ _ _ _ (by omega)];exact h.fz i,fun i=>by rw [iter_frozen _ _ _ _ _ _ (by omega)];exact h.gz i,Lib.iterAt_heap _ _ _ _ _ h.it,Lib.below_iterAt h.bl (by omega) _ _⟩
theorem PAt.col {w0:World}{s:ByteArray}{pos:Nat}{p:Lx.Pos}{wr:World}(h:PAt w0 s pos p wr)(c:Int):PAt w0 s pos ⟨p.line,c⟩ (wr.setCell ⟨w0.heap.size,1,none⟩ (.int .i64 c)) :=
 ⟨by rw [World.cell?_setCell_other _ _ _ _ (by simp)];exact h.c0,World.cell?_setCell_same _ _ _ h.c1,by rw [World.cell?_setCell_other _ _ _ _ (by simp)];exact h.r0,by rw [World.cell?_setCell_other _ _ _ _ (by simp)];exact h.r1,
  fun i=>by simpa using h.fz i,fun i=>by simpa using h.gz i,by rw [Below.heap_setCell _ _ _ _ (by simp;omega)];exact h.it,h.bl.setCell (by simp) _⟩
theorem PAt.line {w0:World}{s:ByteArray}{pos:Nat}{p:Lx.Pos}{wr:World}(h:PAt w0 s pos p wr)(c:Int):PAt w0 s pos ⟨c,p.col⟩ (wr.setCell ⟨w0.heap.size,0,none⟩ (.int .i64 c)) :=
 ⟨World.cell?_setCell_same _ _ _ h.c0,by rw [World.cell?_setCell_other _ _ _ _ (by simp)];exact h.c1,by rw [World.cell?_setCell_other _ _ _ _ (by simp)];exact h.r0,by rw [World.cell?_setCell_other _ _ _ _ (by simp)];exact h.r1,
  fun i=>by simpa using h.fz i,fun i=>by simpa using h.gz i,by rw [Below.heap_setCell _ _ _ _ (by simp;omega)];exact h.it,h.bl.setCell (by simp) _⟩
def pv (p:Lx.Pos):Value := .agg #[.int .i64 p.line,.int .i64 p.col]
theorem behind_any (s:ByteArray)(p0:Lx.Pos)(w:World)(hs:s.size<=1000000000000)(hv:Lx.Valid s.data.toList)(hl0:0<=p0.line)(hl1:p0.line<=1000000000000)(hc0:0<=p0.col)(hc1:p0.col<=1000000000000):
  Calls Tryz.prog 73 #[.agg #[.int .i64 p0.line,.int .i64 p0.col],.string s] w fun e w'=>e = .returned (.agg #[.int .i64 (Lx.adv p0 s.data.toList).line,.int .i64 (Lx.adv p0 s.data.toList).col])/\Below w.heap.size w w':=by
 generalize hT:Lx.adv p0 s.data.toList=T;have HT:=Lib.hid hT;clear hT;have HV:=Lib.hid hv;clear hv
 go_enter Tryz.func73,Tryz.ntmps73
 have hP0:PAt w s 0 p0 (((w.alloc (.cells #[.int .i64 p0.line,.int .i64 p0.col] 41)).alloc (.cells #[.int .i64 0,.int .i64 0] 41)).iter s 0):=by
  refine ⟨by simp [World.iter,go_sem],by simp [World.iter,go_sem],by simp [World.iter,go_sem],by simp [World.iter,go_sem],fun i=>by simp [World.iter,go_sem],fun i=>by simp [World.iter,go_sem], ?_, ?_⟩
  ·simpa using World.iter_heap ((w.alloc (.cells #[.int .i64 p0.line,.int .i64 p0.col] 41)).alloc (.cells #[.int .i64 0,.int .i64 0] 41)) s 0
  ·exact (((Below.refl _ w).alloc (Nat.le_refl _) _).alloc (by simp) _).alloc (by simp;omega) _
 go_wp2
 generalize ((w.alloc (.cells #[.int .i64 p0.line,.int .i64 p0.col] 41)).alloc (.cells #[.int .i64 0,.int .i64 0] 41)).iter s 0=w1 at *
 go_loopw [6] (fun _ wr=>∃ (pos:Nat) (p:Lx.Pos),PAt w s pos p wr/\pos<=s.size/\Lx.Valid (s.data.toList.drop pos)/\T=Lx.adv p (s.data.toList.drop pos)/\0<=p.line/\p.line<=1000000000000+pos/\0<=p.col/\p.col<=1000000000000+pos) (fun _ wr=>s.size-wr.iterPos (w.heap.size+1+1))
 case atStart =>
  exact ⟨0,p0,hP0,Nat.zero_le _,HV.out,by simpa using HT.out.symm,hl0,by omega,hc0,by omega⟩
 case round =>
  obtain ⟨pos,p,hP,hpos,hv,hT,b1,b2,b3,b4⟩:=hrel;have HV2:=Lib.hid hv;clear hv;have HT2:=Lib.hid hT;clear hT HT HV hP0
  by_cases hp:pos<s.size
  ·have hnx:∀ ty,(Instr.next (.pointer (some ⟨w.heap.size+1+1,0,none⟩)) true ty).run Tryz.prog wr=_:=fun ty=>Lib.run_next_any_at wr (w.heap.size+1+1) s pos ty hP.it hp;have hne:s.data.toList.drop pos≠[]:=by
    intro h;have:=congrArg List.length h;rw [List.length_drop,<- size_len] at this;simp at this;omega
   have hpp:=HV2.out.pos hne;have F:=Lx.point_facts _ hne hpp;have hA:=Lx.adv_point p _ hne hpp;have hlen:=F.le;rw [List.length_drop,<- size_len] at hlen;have hd2:(Utf8.decode s pos).2=Lx.point (s.data.toList.drop pos):=by rw [decode_dec,F.two]
   have hd1:=decode_le s pos;rw [decode_dec] at hd1 hd2;have hrest:=HV2.out.rest hne;rw [List.drop_drop] at hrest;have hTn:T=Lx.adv (Lx.adv p ((s.data.toList.drop pos).take (Lx.point (s.data.toList.drop pos)))) (s.data.toList.drop (pos+Lx.point (s.data.toList.drop pos))):=by
    rw [<- List.drop_drop,<- Lx.adv_append,List.take_append_drop];exact HT2.out
   rw [hA] at hTn;have hit:=hP.it;rw [decode_dec s pos] at hnx;generalize Lx.point (s.data.toList.drop pos)=K at *;rw [hd2] at hnx;generalize (Lx.dec (s.data.toList.drop pos)).1=R at *;clear F hA hne HT2;have hP2:=hP.next (pos+K);have hms:s.size-(pos+K)<s.size-wr.iterPos (w.heap.size+1+1):=by
    simp only [World.iterPos,hit];omega
   have HMS:=Lib.hid hms;clear hms;have HTN:=Lib.hid hTn;clear hTn;have HR:=Lib.hid hrest;clear hrest;clear hd2 hit;generalize wr.iterAt (w.heap.size+1+1) s (pos+K)=w2 at *;have c0:=hP2.c0;have c1:=hP2.c1;have f0:=hP2.fz 0;have f1:=hP2.fz 1
   cases hR:((R:Int)==10)
   ·go_wp2
    go_roundw
    case rel =>
     refine ⟨pos+K,⟨p.line,p.col+1⟩,hP2.col _,by omega,HR.out, ?_,b1,by show p.line<=_;omega,by show 0<=p.col+1;omega,by show p.col+1<=_;omega⟩;rw [HTN.out,hR];rfl
    case measure =>
     have h:=HMS.out;have:=(hP2.col (p.col+1)).it;simp only [World.iterPos,this] at h ⊢;exact h
   ·go_wp2
    go_roundw
    case rel =>
     refine ⟨pos+K,⟨p.line+1,1⟩,(hP2.line _).col _,by omega,HR.out, ?_,by show 0<=p.line+1;omega,by show p.line+1<=_;omega,by show (0:Int)<=1;omega,by show (1:Int)<=_;omega⟩;rw [HTN.out,hR];rfl
    case measure =>
     have h:=HMS.out;have:=((hP2.line (p.line+1)).col 1).it;simp only [World.iterPos,this] at h ⊢;exact h
  ·have hnx:∀ ty,(Instr.next (.pointer (some ⟨w.heap.size+1+1,0,none⟩)) true ty).run Tryz.prog wr=_:=fun ty=>Lib.run_next_end_at wr (w.heap.size+1+1) s pos ty hP.it hp;have hT:=HT2.out;rw [drop_end s pos hp,Lx.adv_nil] at hT;subst hT;have c0:=hP.c0;have c1:=hP.c1;have r0:=hP.r0;have r1:=hP.r1;have g0:=hP.gz 0;have g1:=hP.gz 1;have bl:=hP.bl;clear HT2 HV2 hP
   go_wp2
   refine bodyPost_ret (v := .agg #[.int .i64 T.line,.int .i64 T.col]) ?_ rfl ⟨rfl,(bl.setCell (by simp) _).setCell (by simp) _⟩;simp [results,Tryz.results73,go_sem,r0,r1]
end
end Go.Proofs.YtdfpkmfeldoamaaGreatDoor
