/- A part of the proof: A part of the proof. -/
import Derived.Lib.DecodeN
import Derived.Test.YtninlbknklbofaaGreatDoorProg
import Derived.WalkKit
import Derived.Lib.Strings
import Derived.Lib.Hide
import Derived.WalkSpells
import Derived.WalkLawsBesides
set_option linter.unusedSimpArgs false
set_option linter.unusedVariables false
set_option maxRecDepth 100000
set_option maxHeartbeats 4000000
namespace Go.Proofs.YtninlbknklbofaaGreatDoor.Lx
abbrev B:=List UInt8
def blankZ (c:Int):Bool:=c==32 || c==9 || c==13 || c==10
def digitZ (c:Int):Bool:=decide (48<=c) && decide (c<=57)
def letterZ (c:Int):Bool:=(decide (97<=c) && decide (c<=122)) || (decide (65<=c) && decide (c<=90)) || c==95
def contZ (c:Int):Bool:=decide (128<=c) && decide (c<=191)
def blank (c:UInt8):Bool:=blankZ c.toNat
def digit (c:UInt8):Bool:=digitZ c.toNat
def letter (c:UInt8):Bool:=letterZ c.toNat
def cont (c:UInt8):Bool:=contZ c.toNat
def blanks:Bool->B->Nat
 | _,[]=>0
 | note,c :: l=>if (c.toNat:Int)==10 then 1+blanks false l else if (c.toNat:Int)==35 then 1+blanks true l
   else if note || blank c then 1+blanks note l else 0
def span (name:Bool):B->Nat
 | []=>0
 | c :: l=>if digit c || (name && letter c) then 1+span name l else 0
def keys:List B:=[[108,101,116],[105,110],[105,102],[116,104,101,110],[101,108,115,101],[116,114,121],[119,105,116,104],[111,117,116],[114,97,105,115,101],[116,114,117,101],[102,97,108,115,101],[110,111,116],[97,110,100],[111,114],[102,115,116],[115,110,100],[114,101,108,101,97,115,101],[104,111,108,101],[105,110,112,117,116],[103,108,111,98,97,108],[99,104,97,110,110,101,108],[101,120,99,101,112,116,105,111,110],[102,117,110],[109,97,105,110],[99,111,110,102],[105,110,116,101,103],[111,114,100,101,114],[97,116,116,97,99,107,101,114],[104,97,116,99,104],[116,111]]
def own (l:B):Bool:=keys.contains l
def shorts:B:=[40,41,123,125,44,59,58,33,43,45,42,61,60]
def mark:B->Nat
 | []=>0
 | c :: l=>if (c :: l).take 2==[58,61] || (c :: l).take 2==[45,62] then 2 else if shorts.contains c then 1 else 0
def number (l:B):Int:=l.foldl (fun a c=>10*a+((c.toNat:Int)-48)) 0
inductive Got where
 | bad (e:Int)
 | tok (kind:Int) (n:Nat) (v:Int)
def one (l:B):Got:=match l with
 | [] => .tok 0 0 0
 | c :: _ =>
  if digit c then (if span false l>18 then .bad 6 else .tok 3 (span false l) (number (l.take (span false l))))
  else if letter c then (if span true l>40 then .bad 6 else if own (l.take (span true l)) then .tok 2 (span true l) 0 else .tok 1 (span true l) 0)
  else if mark l=0 then .bad 4 else .tok 4 (mark l) 0
structure Pos where
 line:Int
 col:Int
def step (p:Pos)(c:UInt8):Pos:=if (c.toNat:Int)==10 then ⟨p.line+1,1⟩ else if cont c then p else ⟨p.line,p.col+1⟩
def adv (p:Pos)(l:B):Pos:=l.foldl step p
theorem adv_append (p:Pos)(a b:B):adv p (a++b)=adv (adv p a) b:=List.foldl_append
theorem adv_nil (p:Pos):adv p []=p:=rfl
theorem adv_cons (p:Pos)(c:UInt8)(l:B):adv p (c :: l)=adv (step p c) l:=rfl
structure Tok where
 kind:Int
 text:B
 int:Int
 at_:Pos
inductive Res where
 | bad (e:Int) (p:Pos)
 | ok (l:List Tok)
def Res.after (out:List Tok):Res->Res
 | .bad e p => .bad e p
 | .ok l => .ok (out++l)
theorem Res.after_nil (r:Res):r.after []=r:=by cases r <;> rfl
theorem Res.after_after (a b:List Tok)(r:Res):(r.after b).after a=r.after (a++b):=by cases r <;> simp [Res.after]
def toks:Nat->Bool->Pos->B->Res
 | 0,_,_,_ => .ok []
 | f+1,note,p,l =>
  match one (l.drop (blanks note l)) with
  | .bad e => .bad e (adv p (l.take (blanks note l)))
  | .tok k n v =>
   if k=0 then .ok [⟨0,[],0,adv p (l.take (blanks note l))⟩]
   else (toks f false (adv p (l.take (blanks note l+n))) (l.drop (blanks note l+n))).after [⟨k,(l.drop (blanks note l)).take n,v,adv p (l.take (blanks note l))⟩]
def dec (l:B):Nat × Nat:=Go.Lib.decodeN l.length (l.getD 0 0).toNat (l.getD 1 0).toNat (l.getD 2 0).toNat (l.getD 3 0).toNat
def point (l:B):Nat:=if dec l=(65533,1) then 0 else (dec l).2
def vlen:Nat->B->Nat
 | 0,_=>0
 | f+1,l=>if l=[]\/point l=0 then 0 else point l+vlen f (l.drop (point l))
def whole (l:B):Res :=
 if l.length>65536 then .bad 6 ⟨1,1⟩
 else if vlen (l.length+1) l<l.length then .bad 3 (adv ⟨1,1⟩ (l.take (vlen (l.length+1) l)))
 else toks (l.length+1) false ⟨1,1⟩ l
end Go.Proofs.YtninlbknklbofaaGreatDoor.Lx
namespace Go.Proofs.YtninlbknklbofaaGreatDoor.Lx
open Go.Lib
theorem decN_facts (n b0 b1 b2 b3:Nat)(hn:1<=n)(h0:b0<256)(h1:b1<256)(h2:b2<256)(h3:b3<256)(hne:¬ decodeN n b0 b1 b2 b3=(65533,1)):
  1<=(decodeN n b0 b1 b2 b3).2/\(decodeN n b0 b1 b2 b3).2<=4/\(decodeN n b0 b1 b2 b3).2<=n/\¬ (128<=b0/\b0<=191)/\(2<=(decodeN n b0 b1 b2 b3).2->128<=b0/\128<=b1/\b1<=191)
   /\ (3<=(decodeN n b0 b1 b2 b3).2->128<=b2/\b2<=191)/\(4<=(decodeN n b0 b1 b2 b3).2->128<=b3/\b3<=191)/\((decodeN n b0 b1 b2 b3).1=10↔b0=10):=by
 revert hne
 unfold decodeN
 repeat' split
 all_goals (intro hne;first | (exact absurd rfl hne) | (refine ⟨?_, ?_, ?_, ?_, ?_, ?_, ?_, ?_⟩ <;> (try simp only) <;> omega))
theorem decN_part (n m b0 b1 b2 b3 c1 c2 c3:Nat)(hne:¬ decodeN n b0 b1 b2 b3=(65533,1))(hm:(decodeN n b0 b1 b2 b3).2<=m)
  (e1:2<=(decodeN n b0 b1 b2 b3).2->c1=b1) (e2:3<=(decodeN n b0 b1 b2 b3).2->c2=b2) (e3:4<=(decodeN n b0 b1 b2 b3).2->c3=b3):
  decodeN m b0 c1 c2 c3=decodeN n b0 b1 b2 b3:=by
 revert hne hm e1 e2 e3
 unfold decodeN
 by_cases a0:b0<128
 ·simp only [a0,if_true];intros;trivial
 simp only [a0,if_false]
 by_cases a1:b0 / 32=6
 ·have a2:¬ b0 / 16=14:=by omega
  have a3:¬ b0 / 8=30:=by omega
  simp only [a1,a2,a3,true_and,false_and,if_false]
  split
  ·split
   ·intro _ hm e1 _ _;have g1:=e1 (by simp);clear e1;subst g1;have:1<m:=by simp at hm;omega
    rw [if_pos (by omega),if_pos (by omega)]
   ·intro h;exact absurd rfl h
  ·intro h;exact absurd rfl h
 by_cases a2:b0 / 16=14
 ·have a3:¬ b0 / 8=30:=by omega
  simp only [a1,a2,a3,true_and,false_and,if_false]
  split
  ·split
   ·intro _ hm e1 e2 _;have g1:=e1 (by simp);clear e1;have g2:=e2 (by simp);clear e2;subst g1;subst g2;have:2<m:=by simp at hm;omega
    rw [if_pos (by omega),if_pos (by assumption)]
   ·intro h;exact absurd rfl h
  ·intro h;exact absurd rfl h
 by_cases a3:b0 / 8=30
 ·simp only [a1,a2,a3,true_and,false_and,if_false]
  split
  ·split
   ·intro _ hm e1 e2 e3;have g1:=e1 (by simp);clear e1;have g2:=e2 (by simp);clear e2;have g3:=e3 (by simp);clear e3;subst g1;subst g2;subst g3;have:3<m:=by simp at hm;omega
    rw [if_pos (by omega),if_pos (by assumption)]
   ·intro h;exact absurd rfl h
  ·intro h;exact absurd rfl h
 simp only [a1,a2,a3,false_and,if_false];intro h;exact absurd trivial h
theorem getD_lt (l:B)(i:Nat):(l.getD i 0).toNat<256:=(l.getD i 0).toNat_lt
theorem cont_iff (c:UInt8):cont c=true↔128<=c.toNat/\c.toNat<=191:=by
 simp only [cont,contZ,Bool.and_eq_true,decide_eq_true_eq];omega
theorem cont_false {c:UInt8}(h:¬ (128<=c.toNat/\c.toNat<=191)):cont c=false:=by
 cases hc:cont c
 ·rfl
 ·exact absurd ((cont_iff c).1 hc) h
theorem getD_take (l:B)(m i:Nat)(h:i<m):(l.take m).getD i 0=l.getD i 0:=by
 simp only [List.getD_eq_getElem?_getD,List.getElem?_take,h,if_true]
structure PointFacts (l:B):Prop where
 le4:point l<=4
 le:point l<=l.length
 head:cont (l.getD 0 0)=false
 tail:∀ i,1<=i->i<point l->cont (l.getD i 0)=true
 big:2<=point l->128<=(l.getD 0 0).toNat
 ten:(dec l).1=10↔(l.getD 0 0).toNat=10
 two:point l=(dec l).2
 part:∀ m,point l<=m->point (l.take m)=point l
theorem point_facts (l:B)(hl:l≠[])(hp:0<point l):PointFacts l:=by
 have hne:¬ dec l=(65533,1):=by intro h;simp [point,h] at hp
 have hn:1<=l.length:=by cases l;exact absurd rfl hl;simp
 have h2:point l=(dec l).2:=by simp [point,hne]
 have F:=decN_facts l.length _ _ _ _ hn (getD_lt l 0) (getD_lt l 1) (getD_lt l 2) (getD_lt l 3) hne;obtain ⟨f1,f2,f3,f4,f5,f6,f7,f8⟩:=F;have hd:(dec l).2=(decodeN l.length (l.getD 0 0).toNat (l.getD 1 0).toNat (l.getD 2 0).toNat (l.getD 3 0).toNat).2:=rfl;rw [<- hd] at f1 f2 f3 f5 f6 f7;refine ⟨by omega,by omega,cont_false f4, ?_,fun h=>(f5 (by omega)).1,f8,h2, ?_⟩
 ·intro i i1 i2;rw [h2] at i2;refine (cont_iff _).2 ?_;have:i=1\/i=2\/i=3:=by omega
  rcases this with rfl | rfl | rfl
  ·exact (f5 (by omega)).2
  ·exact f6 (by omega)
  ·exact f7 (by omega)
 ·intro m hm
  by_cases hml:l.length<=m
  ·rw [List.take_of_length_le hml]
  have hlen:(l.take m).length=m:=by rw [List.length_take];omega
  have hE:dec (l.take m)=dec l:=by
   show decodeN (l.take m).length _ _ _ _=decodeN _ _ _ _ _
   rw [hlen,getD_take l m 0 (by omega)];refine decN_part _ _ _ _ _ _ _ _ _ hne (by rw [<- hd];omega) (fun h=>?_) (fun h=>?_) (fun h=>?_)
   ·rw [<- hd] at h;rw [getD_take l m 1 (by omega)]
   ·rw [<- hd] at h;rw [getD_take l m 2 (by omega)]
   ·rw [<- hd] at h;rw [getD_take l m 3 (by omega)]
  simp [point,hE]
theorem point_ascii (c:UInt8)(l:B)(h:c.toNat<128):point (c :: l)=1:=by
 have:dec (c :: l)=(c.toNat,1):=by simp [dec,decodeN,h]
 simp only [point,this];rw [if_neg (by simp;omega)]
inductive Valid:B->Prop
 | nil:Valid []
 | step (l:B) (h:l≠[]) (hp:0<point l) (hv:Valid (l.drop (point l))):Valid l
theorem Valid.pos {l:B}(h:Valid l)(hl:l≠[]):0<point l:=by
 cases h with
 | nil=>exact absurd rfl hl
 | step _ _ hp _=>exact hp
theorem Valid.rest {l:B}(h:Valid l)(hl:l≠[]):Valid (l.drop (point l)):=by
 cases h with
 | nil=>exact absurd rfl hl
 | step _ _ _ hv=>exact hv
theorem Valid.tail {c:UInt8}{l:B}(h:Valid (c :: l))(hc:c.toNat<128):Valid l:=by
 have:=h.rest (by simp);rw [point_ascii c l hc] at this
 simpa using this
theorem Valid.ascii {c:UInt8}{l:B}(h:Valid l)(hc:c.toNat<128):Valid (c :: l):=by
 refine .step _ (by simp) (by rw [point_ascii c l hc];omega) ?_;rw [point_ascii c l hc];simpa using h
theorem Valid.head {c:UInt8}{l:B}(h:Valid (c :: l)):cont c=false:=by
 simpa using (point_facts _ (by simp) (h.pos (by simp))).head
theorem vlen_le (f:Nat)(l:B):vlen f l<=l.length:=by
 induction f generalizing l with
 | zero=>exact Nat.zero_le _
 | succ f ih =>
  unfold vlen
  split
  ·exact Nat.zero_le _
  ·rename_i h;simp only [not_or] at h;have F:=point_facts l h.1 (by omega);have:=ih (l.drop (point l));rw [List.length_drop] at this;have:=F.le;omega
theorem vlen_valid (f:Nat)(l:B):Valid (l.take (vlen f l)):=by
 induction f generalizing l with
 | zero=>exact .nil
 | succ f ih =>
  unfold vlen
  split
  ·exact .nil
  ·rename_i h;simp only [not_or] at h;have F:=point_facts l h.1 (by omega);have hp:=F.part (point l+vlen f (l.drop (point l))) (by omega);refine .step _ ?_ (by rw [hp];omega) ?_
   ·intro e;have hh:=congrArg List.length e;have hle:=F.le;rw [List.length_take,List.length_nil] at hh;omega
   ·rw [hp,List.drop_take]
    simpa using ih (l.drop (point l))
theorem vlen_all {f:Nat}{l:B}(h:¬ vlen f l<l.length):Valid l:=by
 have:=vlen_valid f l
 rwa [List.take_of_length_le (by omega)] at this
theorem blanks_le (note:Bool)(l:B):blanks note l<=l.length:=by
 induction l generalizing note with
 | nil=>simp [blanks]
 | cons c l ih =>
  unfold blanks;have h1:=ih false;have h2:=ih true;have h3:=ih note;rw [List.length_cons]
  repeat' split
  all_goals omega
theorem blanks_cont (l:B)(k:Nat)(hk:k<=l.length)(h:∀ i,i<k->128<=(l.getD i 0).toNat):blanks true l=k+blanks true (l.drop k):=by
 induction k generalizing l with
 | zero=>simp
 | succ k ih =>
  cases l with
  | nil=>simp at hk
  | cons c l =>
   have h0:128<=c.toNat:=by simpa using h 0 (by omega)
   have e:=ih l (by simpa using hk) (fun i hi=>by simpa using h (i+1) (by omega));rw [blanks];rw [if_neg (by simp;omega),if_neg (by simp;omega),if_pos (by simp),e]
   simp;omega
theorem Valid.blanks:∀ (n:Nat)(l:B),l.length<=n->Valid l->∀ note,Valid (l.take (Lx.blanks note l))/\Valid (l.drop (Lx.blanks note l))
 | 0,l,hn,h,note=>by
  have:l=[]:=List.eq_nil_of_length_eq_zero (by omega);subst this;simpa [Lx.blanks] using And.intro Valid.nil Valid.nil
 | n+1,[],_,_,note=>by simpa [Lx.blanks] using And.intro Valid.nil Valid.nil
 | n+1,c :: l,hn,h,note=>by
  have hn':l.length<=n:=by simpa using hn
  by_cases hc:c.toNat<128
  ·have ht:=h.tail hc;have go:∀ b,Valid ((c :: l).take (1+Lx.blanks b l))/\Valid ((c :: l).drop (1+Lx.blanks b l)):=fun b=>by
    have:=Valid.blanks n l hn' ht b;rw [Nat.add_comm 1,List.take_succ_cons,List.drop_succ_cons];exact ⟨this.1.ascii hc,this.2⟩
   unfold Lx.blanks
   split
   ·exact go false
   ·split
    ·exact go true
    ·split
     ·exact go note
     ·simpa using And.intro Valid.nil h
  ·have e1:((c.toNat:Int)==10)=false:=by simp;omega
   have e2:((c.toNat:Int)==35)=false:=by simp;omega
   have e3:blank c=false:=by simp [blank,blankZ];omega
   cases note with
   | false =>
    have:Lx.blanks false (c :: l)=0:=by rw [Lx.blanks];simp [e1,e2,e3]
    rw [this];exact ⟨.nil,h⟩
   | true =>
    have F:=point_facts (c :: l) (by simp) (h.pos (by simp));have hk:=h.pos (by simp);have hb:=blanks_cont (c :: l) (point (c :: l)) F.le (fun i hi=>by
     rcases Nat.eq_zero_or_pos i with rfl | hi0
     ·simp;omega
     ·exact ((cont_iff _).1 (F.tail i hi0 hi)).1)
    rw [hb];have hr:=Valid.blanks n ((c :: l).drop (point (c :: l))) (by rw [List.length_drop];simp;omega) (h.rest (by simp)) true;have hp:=F.part (point (c :: l)+Lx.blanks true ((c :: l).drop (point (c :: l)))) (by omega);refine ⟨.step _ ?_ (by rw [hp];exact hk) ?_,by rw [<- List.drop_drop];exact hr.2⟩
    ·obtain ⟨k,hk'⟩:∃ k,point (c :: l)=k+1:=⟨point (c :: l)-1,by omega⟩;rw [hk',Nat.add_right_comm,List.take_succ_cons];simp
    ·rw [hp,List.drop_take];simpa using hr.1
theorem adv_conts (p:Pos)(l:B)(k:Nat)(h:∀ i,i<k->i<l.length->cont (l.getD i 0)=true):adv p (l.take k)=p:=by
 induction k generalizing l with
 | zero=>rfl
 | succ k ih =>
  cases l with
  | nil=>rfl
  | cons c l =>
   have h0:cont c=true:=by simpa using h 0 (by omega) (by simp)
   rw [List.take_succ_cons,adv_cons];have hs:step p c=p:=by
    have:=(cont_iff c).1 h0;rw [step,if_neg (by simp;omega),if_pos h0]
   rw [hs];exact ih l (fun i hi hl=>by simpa using h (i+1) (by omega) (by simpa using hl))
theorem adv_point (p:Pos)(l:B)(hl:l≠[])(hp:0<point l):adv p (l.take (point l))=(if ((dec l).1:Int)==10 then ⟨p.line+1,1⟩ else ⟨p.line,p.col+1⟩):=by
 have F:=point_facts l hl hp
 cases l with
 | nil=>exact absurd rfl hl
 | cons c l =>
  obtain ⟨k,hk⟩:∃ k,point (c :: l)=k+1:=⟨point (c :: l)-1,by omega⟩;rw [hk,List.take_succ_cons,adv_cons,adv_conts _ l k (fun i hi _=>by simpa using F.tail (i+1) (by omega) (by omega))];have hh:cont c=false:=by simpa using F.head
  have ht:=F.ten;simp only [List.getD_cons_zero] at ht;unfold step
  by_cases e:c.toNat=10
  ·rw [if_pos (by simp;omega),if_pos (by have:=ht.2 e;simp;omega)]
  ·rw [if_neg (by simp;omega),if_neg (by simp [hh]),if_neg (by have:¬ (dec (c :: l)).1=10:=fun h=>e (ht.1 h);simp;omega)]
theorem Valid.behind:∀ (n:Nat)(l:B),l.length<=n->Valid l->∀ i,i<l.length->(l.getD i 0).toNat<128->Valid (l.drop (i+1))
 | 0,l,hn,_,i,hi,_=>by omega
 | n+1,[],_,_,i,hi,_=>by simp at hi
 | n+1,c :: l,hn,h,i,hi,ha=>by
  have hp:=h.pos (by simp);have F:=point_facts _ (by simp) hp
  by_cases hik:i<point (c :: l)
  ·rcases Nat.eq_zero_or_pos i with rfl | hi0
   ·simp only [List.getD_cons_zero] at ha
    simpa using h.tail ha
   ·have:=(cont_iff _).1 (F.tail i hi0 hik);omega
  ·have hv:=Valid.behind n ((c :: l).drop (point (c :: l))) (by rw [List.length_drop];omega) (h.rest (by simp)) (i-point (c :: l)) (by rw [List.length_drop];omega)
    (by simpa [List.getD_eq_getElem?_getD,List.getElem?_drop,Nat.add_sub_of_le (Nat.le_of_not_lt hik)] using ha)
   rw [List.drop_drop] at hv;have:point (c :: l)+(i-point (c :: l)+1)=i+1:=by omega
   rwa [this] at hv
end Go.Proofs.YtninlbknklbofaaGreatDoor.Lx
namespace Go.Proofs.YtninlbknklbofaaGreatDoor
section
open Go.RowKit
theorem ret_bool {a b:Bool}(h:a=b):Ending.returned (.bool a) = .returned (.bool b):=by rw [h]
theorem isBlank_any (c:Int)(w:World):Calls Tryz.prog 86 #[.int .u8 c] w fun e w'=>e = .returned (.bool (Lx.blankZ c))/\w=w':=by
 go_enter Tryz.func86,Tryz.ntmps86
 go_wp2
 all_goals (go_ret;refine ⟨?_,rfl⟩;simp_all [Lx.blankZ])
theorem isDigit_any (c:Int)(w:World):Calls Tryz.prog 87 #[.int .u8 c] w fun e w'=>e = .returned (.bool (Lx.digitZ c))/\w=w':=by
 go_enter Tryz.func87,Tryz.ntmps87
 go_wp2
 all_goals (go_ret;refine ⟨ret_bool (Bool.eq_iff_iff.2 ?_),rfl⟩;first | (simp [Lx.digitZ];done) | (simp [Lx.digitZ];omega))
theorem isLetter_any (c:Int)(w:World):Calls Tryz.prog 89 #[.int .u8 c] w fun e w'=>e = .returned (.bool (Lx.letterZ c))/\w=w':=by
 go_enter Tryz.func89,Tryz.ntmps89
 go_wp2
 all_goals (go_ret;refine ⟨ret_bool (Bool.eq_iff_iff.2 ?_),rfl⟩;first | (simp [Lx.letterZ];done) | (simp [Lx.letterZ];omega))
theorem rletter_any (c:Int)(w:World):Calls Tryz.prog 112 #[.int .u8 c] w fun e w'=>e = .returned (.bool (Lx.letterZ c))/\w=w':=by
 go_enter Tryz.func112,Tryz.ntmps112
 go_wp2
 all_goals (go_ret;refine ⟨ret_bool (Bool.eq_iff_iff.2 ?_),rfl⟩;first | (simp [Lx.letterZ];done) | (simp [Lx.letterZ];omega))
theorem rdigit_any (c:Int)(w:World):Calls Tryz.prog 113 #[.int .u8 c] w fun e w'=>e = .returned (.bool (Lx.digitZ c))/\w=w':=by
 go_enter Tryz.func113,Tryz.ntmps113
 go_wp2
 all_goals (go_ret;refine ⟨ret_bool (Bool.eq_iff_iff.2 ?_),rfl⟩;first | (simp [Lx.digitZ];done) | (simp [Lx.digitZ];omega))
theorem isWord_any (c:Int)(w:World):Calls Tryz.prog 122 #[.int .u8 c] w fun e w'=>e = .returned (.bool (Lx.letterZ c || Lx.digitZ c))/\w=w':=by
 go_enter Tryz.func122,Tryz.ntmps122
 go_wp2_with (first | (go_at_call 89;refine (isLetter_any _ _).mono ?_;rintro e w' ⟨rfl,rfl⟩) | (go_at_call 87;refine (isDigit_any _ _).mono ?_;rintro e w' ⟨rfl,rfl⟩))
 all_goals (go_ret;refine ⟨?_,rfl⟩;simp_all)
theorem toList_eq (s:ByteArray):s.toList=s.data.toList:=Lib.toList_data s
theorem ext_list {s t:ByteArray}(h:s.data.toList=t.data.toList):s=t:=by
 cases s;cases t;simp only at h;congr;exact Array.toList_inj.1 h
end
section
open Go.RowKit
theorem byte_at (s:ByteArray)(k:Nat)(h:k<s.size):∃ c:UInt8,s[k]'h=c/\s.data.toList.drop k=c :: s.data.toList.drop (k+1):=by
 refine ⟨_,rfl, ?_⟩;have h':k<s.data.toList.length:=by rw [Array.length_toList];exact h
 rw [List.drop_eq_getElem_cons h']
 rfl
theorem size_len (s:ByteArray):s.size=s.data.toList.length:=by rw [Array.length_toList];rfl
theorem drop_end (s:ByteArray)(k:Nat)(h:¬ k<s.size):s.data.toList.drop k=[]:=by
 rw [size_len] at h;exact List.drop_eq_nil_of_le (by omega)
theorem cast_succ (k:Nat):Value.int .i64 ((k:Int)+1) = .int .i64 ((k+1:Nat):Int):=by push_cast;rfl
theorem ret_int {k:IntKind}{a b:Int}(h:a=b):Ending.returned (.int k a) = .returned (.int k b):=by rw [h]
theorem blanks_any (s:ByteArray)(w:World)(hs:s.size<=1000000000000):Calls Tryz.prog 60 #[.string s] w fun e w'=>e = .returned (.int .i64 (Lx.blanks false s.data.toList:Int))/\w=w':=by
 generalize hA:Lx.blanks false s.data.toList=A;have HA:=Lib.hid hA;clear hA
 go_enter Tryz.func60,Tryz.ntmps60
 go_wp2
 go_loopw [3,4] (fun i b wr=>∃ (k:Nat) (note:Bool),k<=s.size/\i = .int .i64 (k:Int)/\b = .bool note/\A=k+Lx.blanks note (s.data.toList.drop k)/\w=wr) (fun i _ _=>s.size-(intOf i).toNat)
 case atStart=>exact ⟨0,false,Nat.zero_le _,rfl,rfl,by simpa using HA.out.symm,rfl⟩
 case round =>
  obtain ⟨k,note,hk,rfl,rfl,hA,rfl⟩:=hrel;clear HA
  by_cases hlt:k<s.size
  ·obtain ⟨c,hc,hd⟩:=byte_at s k hlt;rw [hd,Lx.blanks] at hA;have hm:s.size-(intOf (Value.int IntKind.i64 ((k:Int)+1))).toNat<s.size-(intOf (Value.int IntKind.i64 (k:Int))).toNat:=by simp [intOf];omega
   have HM:=Lib.hid hm;clear hm hd
   cases h1:(c.toNat:Int)==10
   ·cases h2:(c.toNat:Int)==35
    ·cases h3:Lx.blankZ (c.toNat:Int)
     ·cases note
      ·have hE:A=k:=by rw [hA];simp [h1,h2,h3,Lx.blank]
       subst hE;clear hA
       go_wp2_with (go_at_call 86;refine (isBlank_any _ _).mono ?_;rintro e w' ⟨rfl,rfl⟩)
       go_ret;exact ⟨rfl,rfl⟩
      ·have hE:A=(k+1)+Lx.blanks true (s.data.toList.drop (k+1)):=by rw [hA];simp [h1,h2,h3,Lx.blank];omega
       have HE:=Lib.hid hE;clear hA hE
       go_wp2_with (go_at_call 86;refine (isBlank_any _ _).mono ?_;rintro e w' ⟨rfl,rfl⟩)
       exact ⟨⟨k+1,true,by omega,cast_succ k,rfl,HE.out,trivial⟩,HM.out⟩
     ·cases note
      ·have hE:A=(k+1)+Lx.blanks false (s.data.toList.drop (k+1)):=by rw [hA];simp [h1,h2,h3,Lx.blank];omega
       have HE:=Lib.hid hE;clear hA hE
       go_wp2_with (go_at_call 86;refine (isBlank_any _ _).mono ?_;rintro e w' ⟨rfl,rfl⟩)
       exact ⟨⟨k+1,false,by omega,cast_succ k,rfl,HE.out,trivial⟩,HM.out⟩
      ·have hE:A=(k+1)+Lx.blanks true (s.data.toList.drop (k+1)):=by rw [hA];simp [h1,h2,h3,Lx.blank];omega
       have HE:=Lib.hid hE;clear hA hE
       go_wp2_with (go_at_call 86;refine (isBlank_any _ _).mono ?_;rintro e w' ⟨rfl,rfl⟩)
       exact ⟨⟨k+1,true,by omega,cast_succ k,rfl,HE.out,trivial⟩,HM.out⟩
    ·have hE:A=(k+1)+Lx.blanks true (s.data.toList.drop (k+1)):=by rw [hA];simp [h1,h2];omega
     have HE:=Lib.hid hE;clear hA hE
     go_wp2
     exact ⟨⟨k+1,true,by omega,cast_succ k,rfl,HE.out,trivial⟩,HM.out⟩
   ·have hE:A=(k+1)+Lx.blanks false (s.data.toList.drop (k+1)):=by rw [hA];simp [h1];omega
    have HE:=Lib.hid hE;clear hA hE
    go_wp2
    exact ⟨⟨k+1,false,by omega,cast_succ k,rfl,HE.out,trivial⟩,HM.out⟩
  ·have hE:A=k:=by rw [hA,drop_end s k hlt];rfl
   subst hE;clear hA
   go_wp2
   go_ret;exact ⟨rfl,rfl⟩
theorem lengthOf_digit (s:ByteArray)(w:World)(hs:s.size<=1000000000000):Calls Tryz.prog 120 #[.string s,.func (.func 87) #[] #[]] w fun e w'=>e = .returned (.int .i64 (Lx.span false s.data.toList:Int))/\w=w':=by
 generalize hA:Lx.span false s.data.toList=A;have HA:=Lib.hid hA;clear hA
 go_enter Tryz.func120,Tryz.ntmps120
 go_wp2
 go_loopw [5] (fun i wr=>∃ (k:Nat),k<=s.size/\i = .int .i64 (k:Int)/\A=k+Lx.span false (s.data.toList.drop k)/\w=wr) (fun i _=>s.size-(intOf i).toNat)
 case atStart=>exact ⟨0,Nat.zero_le _,rfl,by simpa using HA.out.symm,rfl⟩
 case round =>
  obtain ⟨k,hk,rfl,hA,rfl⟩:=hrel;clear HA
  by_cases hlt:k<s.size
  ·obtain ⟨c,hc,hd⟩:=byte_at s k hlt;rw [hd,Lx.span] at hA;have hm:s.size-(intOf (Value.int IntKind.i64 ((k:Int)+1))).toNat<s.size-(intOf (Value.int IntKind.i64 (k:Int))).toNat:=by simp [intOf];omega
   have HM:=Lib.hid hm;clear hm hd
   cases h1:Lx.digitZ (c.toNat:Int)
   ·have hE:A=k:=by rw [hA];simp [h1,Lx.digit]
    subst hE;clear hA
    go_wp2_with (go_at_call 87;refine (isDigit_any _ _).mono ?_;rintro e w' ⟨rfl,rfl⟩)
    go_ret;exact ⟨rfl,rfl⟩
   ·have hE:A=(k+1)+Lx.span false (s.data.toList.drop (k+1)):=by rw [hA];simp [h1,Lx.digit];omega
    have HE:=Lib.hid hE;clear hA hE
    go_wp2_with (go_at_call 87;refine (isDigit_any _ _).mono ?_;rintro e w' ⟨rfl,rfl⟩)
    exact ⟨⟨k+1,by omega,cast_succ k,HE.out,trivial⟩,HM.out⟩
  ·have hE:A=k:=by rw [hA,drop_end s k hlt];rfl
   subst hE;clear hA
   go_wp2
   go_ret;exact ⟨rfl,rfl⟩
theorem lengthOf_word (s:ByteArray)(w:World)(hs:s.size<=1000000000000):Calls Tryz.prog 120 #[.string s,.func (.func 122) #[] #[]] w fun e w'=>e = .returned (.int .i64 (Lx.span true s.data.toList:Int))/\w=w':=by
 generalize hA:Lx.span true s.data.toList=A;have HA:=Lib.hid hA;clear hA
 go_enter Tryz.func120,Tryz.ntmps120
 go_wp2
 go_loopw [5] (fun i wr=>∃ (k:Nat),k<=s.size/\i = .int .i64 (k:Int)/\A=k+Lx.span true (s.data.toList.drop k)/\w=wr) (fun i _=>s.size-(intOf i).toNat)
 case atStart=>exact ⟨0,Nat.zero_le _,rfl,by simpa using HA.out.symm,rfl⟩
 case round =>
  obtain ⟨k,hk,rfl,hA,rfl⟩:=hrel;clear HA
  by_cases hlt:k<s.size
  ·obtain ⟨c,hc,hd⟩:=byte_at s k hlt;rw [hd,Lx.span] at hA;have hm:s.size-(intOf (Value.int IntKind.i64 ((k:Int)+1))).toNat<s.size-(intOf (Value.int IntKind.i64 (k:Int))).toNat:=by simp [intOf];omega
   have HM:=Lib.hid hm;clear hm hd
   cases h1:(Lx.letterZ (c.toNat:Int) || Lx.digitZ (c.toNat:Int))
   ·have hE:A=k:=by rw [hA];simp only [Bool.or_eq_false_iff] at h1;simp [h1,Lx.digit,Lx.letter]
    subst hE;clear hA
    go_wp2_with (go_at_call 122;refine (isWord_any _ _).mono ?_;rintro e w' ⟨rfl,rfl⟩)
    go_ret;exact ⟨rfl,rfl⟩
   ·have hE:A=(k+1)+Lx.span true (s.data.toList.drop (k+1)):=by rw [hA,if_pos (by rw [Bool.or_comm] at h1;simpa [Lx.digit,Lx.letter] using h1)];omega
    have HE:=Lib.hid hE;clear hA hE
    go_wp2_with (go_at_call 122;refine (isWord_any _ _).mono ?_;rintro e w' ⟨rfl,rfl⟩)
    exact ⟨⟨k+1,by omega,cast_succ k,HE.out,trivial⟩,HM.out⟩
  ·have hE:A=k:=by rw [hA,drop_end s k hlt];rfl
   subst hE;clear hA
   go_wp2
   go_ret;exact ⟨rfl,rfl⟩
theorem rlong_any (s:ByteArray)(name:Bool)(w:World)(hs:s.size<=1000000000000):Calls Tryz.prog 114 #[.string s,.bool name] w fun e w'=>e = .returned (.int .i64 (Lx.span name s.data.toList:Int))/\w=w':=by
 generalize hA:Lx.span name s.data.toList=A;have HA:=Lib.hid hA;clear hA
 go_enter Tryz.func114,Tryz.ntmps114
 go_wp2
 go_loopw [5] (fun i wr=>∃ (k:Nat),k<=s.size/\i = .int .i64 (k:Int)/\A=k+Lx.span name (s.data.toList.drop k)/\w=wr) (fun i _=>s.size-(intOf i).toNat)
 case atStart=>exact ⟨0,Nat.zero_le _,rfl,by simpa using HA.out.symm,rfl⟩
 case round =>
  obtain ⟨k,hk,rfl,hA,rfl⟩:=hrel;clear HA
  by_cases hlt:k<s.size
  ·obtain ⟨c,hc,hd⟩:=byte_at s k hlt;rw [hd,Lx.span] at hA;have hm:s.size-(intOf (Value.int IntKind.i64 ((k:Int)+1))).toNat<s.size-(intOf (Value.int IntKind.i64 (k:Int))).toNat:=by simp [intOf];omega
   have HM:=Lib.hid hm;clear hm hd
   cases h1:Lx.letterZ (c.toNat:Int)
   ·cases h2:Lx.digitZ (c.toNat:Int)
    ·have hE:A=k:=by rw [hA];simp [h1,h2,Lx.digit,Lx.letter]
     subst hE;clear hA
     cases name
     all_goals
      go_wp2_with (first | (go_at_call 112;refine (rletter_any _ _).mono ?_;rintro e w' ⟨rfl,rfl⟩) | (go_at_call 113;refine (rdigit_any _ _).mono ?_;rintro e w' ⟨rfl,rfl⟩))
      go_ret;exact ⟨rfl,rfl⟩
    ·have hE:A=(k+1)+Lx.span name (s.data.toList.drop (k+1)):=by rw [hA];simp [h1,h2,Lx.digit,Lx.letter];omega
     have HE:=Lib.hid hE;clear hA hE
     cases name
     all_goals
      go_wp2_with (first | (go_at_call 112;refine (rletter_any _ _).mono ?_;rintro e w' ⟨rfl,rfl⟩) | (go_at_call 113;refine (rdigit_any _ _).mono ?_;rintro e w' ⟨rfl,rfl⟩))
      exact ⟨⟨k+1,by omega,cast_succ k,HE.out,trivial⟩,HM.out⟩
   ·cases h2:Lx.digitZ (c.toNat:Int)
    ·cases name
     ·have hE:A=k:=by rw [hA];simp [h1,h2,Lx.digit,Lx.letter]
      subst hE;clear hA
      go_wp2_with (first | (go_at_call 112;refine (rletter_any _ _).mono ?_;rintro e w' ⟨rfl,rfl⟩) | (go_at_call 113;refine (rdigit_any _ _).mono ?_;rintro e w' ⟨rfl,rfl⟩))
      go_ret;exact ⟨rfl,rfl⟩
     ·have hE:A=(k+1)+Lx.span true (s.data.toList.drop (k+1)):=by rw [hA];simp [h1,h2,Lx.digit,Lx.letter];omega
      have HE:=Lib.hid hE;clear hA hE
      go_wp2_with (first | (go_at_call 112;refine (rletter_any _ _).mono ?_;rintro e w' ⟨rfl,rfl⟩) | (go_at_call 113;refine (rdigit_any _ _).mono ?_;rintro e w' ⟨rfl,rfl⟩))
      exact ⟨⟨k+1,by omega,cast_succ k,HE.out,trivial⟩,HM.out⟩
    ·have hE:A=(k+1)+Lx.span name (s.data.toList.drop (k+1)):=by rw [hA];simp [h1,h2,Lx.digit,Lx.letter];omega
     have HE:=Lib.hid hE;clear hA hE
     cases name
     all_goals
      go_wp2_with (first | (go_at_call 112;refine (rletter_any _ _).mono ?_;rintro e w' ⟨rfl,rfl⟩) | (go_at_call 113;refine (rdigit_any _ _).mono ?_;rintro e w' ⟨rfl,rfl⟩))
      exact ⟨⟨k+1,by omega,cast_succ k,HE.out,trivial⟩,HM.out⟩
  ·have hE:A=k:=by rw [hA,drop_end s k hlt];rfl
   subst hE;clear hA
   go_wp2
   go_ret;exact ⟨rfl,rfl⟩
end
end Go.Proofs.YtninlbknklbofaaGreatDoor
