/- A part of the proof: A part of the proof. -/
import Derived.Test.YtninlbknklbofaaGreatDoorQc
import Derived.Test.YtninlbknklbofaaGreatDoorQu
import Derived.Test.YtninlbknklbofaaGreatDoorQj
import Derived.Test.YtninlbknklbofaaGreatDoorQr
set_option linter.unusedSimpArgs false
set_option linter.unusedVariables false
set_option maxRecDepth 100000
set_option maxHeartbeats 4000000
namespace Go.Proofs.YtninlbknklbofaaGreatDoor
section
open Go.RowKit Tn Lx
theorem qinunary_any (c:Cx)(n:Nat)(f:Ex.Rec)(hF:QSpec c n f)(hn9:n<=900000)(X:Nat->Prop)(w:World)(d:Nat)(q:Qs)(s:Ex.S)(h:Pre c X w d n 0 s.p [] (Ex.Res.ok () s:Ex.Res Unit) q):
  Calls Tryz.prog 149 #[.pointer (some ⟨c.r,0,none⟩)] w (QP c X w d (Ex.unaryF c.ts n f d s)):=by
 obtain ⟨t,htk⟩:∃ t,Ex.tk c.ts s.p=t:=⟨_,rfl⟩;have hn:10*(c.ts.length-s.p)<n:=h.fuel
 by_cases h3:t.kind=3
 ·have b3:(t.kind==3)=true:=by simpa using h3
  have e:Ex.unaryF c.ts n f d s=Ex.addN c.ts ⟨⟨#[105,110,116]⟩,t.at_.line,t.at_.col,⟨#[]⟩,t.int,[].map fun (k:Nat)=>(k:Int)⟩ s.skip:=by
   simp only [Ex.unaryF,Ex.at_,htk,b3,↓reduceIte,Bool.false_eq_true,Bool.or_false,Bool.or_true,Bool.true_or,Bool.false_or,Bool.and_true,Bool.and_false,Bool.true_and,Bool.false_and];rfl
  rw [e];exact qint_any c X w d n f q s t hF h hn htk h3
 have b3:(t.kind==3)=false:=by simpa using h3
 by_cases h1:t.kind=1
 ·have b1:(t.kind==1)=true:=by simpa using h1
  cases ho:Ex.is c.ts s.skip [40] with
  | true =>
   have e:Ex.unaryF c.ts n f d s=Ex.varF c.ts n f d s:=by simp only [Ex.unaryF,htk,b3,b1,↓reduceIte,Bool.false_eq_true,Bool.or_false,Bool.or_true,Bool.true_or,Bool.false_or,Bool.and_true,Bool.and_false,Bool.true_and,Bool.false_and]
   rw [e];exact qcall_any c X w d n f q s t hF h hn htk h1 ho hn9
  | false =>
   have e:Ex.unaryF c.ts n f d s=Ex.add c.ts [118,97,114] (Ex.at_ c.ts s) t.text [] s.skip:=by simp only [Ex.unaryF,Ex.varF,Ex.at_,htk,b3,b1,ho,↓reduceIte,Bool.false_eq_true,Bool.or_false,Bool.or_true,Bool.true_or,Bool.false_or,Bool.and_true,Bool.and_false,Bool.true_and,Bool.false_and]
   rw [e];exact qvar_any c X w d n f q s t hF h hn htk h1 ho
 have b1:(t.kind==1)=false:=by simpa using h1
 cases x0:(t.text==[45]) with
 | true =>
  have hx:t.text=[45]:=eq_of_beq x0;have e:Ex.unaryF c.ts n f d s=Ex.prefixF c.ts f [110,101,103] d s:=by simp only [Ex.unaryF,Ex.at_,htk,b3,b1,x0,↓reduceIte,Bool.false_eq_true,Bool.or_false,Bool.or_true,Bool.true_or,Bool.false_or,Bool.and_true,Bool.and_false,Bool.true_and,Bool.false_and]
  rw [e];exact qneg_any c X w d n f q s t hF h hn htk hx h1 h3
 | false =>
  cases x1:(t.text==[110,111,116]) with
  | true =>
   have hx:t.text=[110,111,116]:=eq_of_beq x1;have e:Ex.unaryF c.ts n f d s=Ex.prefixF c.ts f [110,111,116] d s:=by simp only [Ex.unaryF,Ex.at_,htk,b3,b1,x0,x1,↓reduceIte,Bool.false_eq_true,Bool.or_false,Bool.or_true,Bool.true_or,Bool.false_or,Bool.and_true,Bool.and_false,Bool.true_and,Bool.false_and];rw [hx]
   rw [e];exact qnot_any c X w d n f q s t hF h hn htk hx h1 h3
  | false =>
   cases x2:(t.text==[102,115,116]) with
   | true =>
    have hx:t.text=[102,115,116]:=eq_of_beq x2;have e:Ex.unaryF c.ts n f d s=Ex.prefixF c.ts f [102,115,116] d s:=by simp only [Ex.unaryF,Ex.at_,htk,b3,b1,x0,x1,x2,↓reduceIte,Bool.false_eq_true,Bool.or_false,Bool.or_true,Bool.true_or,Bool.false_or,Bool.and_true,Bool.and_false,Bool.true_and,Bool.false_and];rw [hx]
    rw [e];exact qfst_any c X w d n f q s t hF h hn htk hx h1 h3
   | false =>
    cases x3:(t.text==[115,110,100]) with
    | true =>
     have hx:t.text=[115,110,100]:=eq_of_beq x3;have e:Ex.unaryF c.ts n f d s=Ex.prefixF c.ts f [115,110,100] d s:=by simp only [Ex.unaryF,Ex.at_,htk,b3,b1,x0,x1,x2,x3,↓reduceIte,Bool.false_eq_true,Bool.or_false,Bool.or_true,Bool.true_or,Bool.false_or,Bool.and_true,Bool.and_false,Bool.true_and,Bool.false_and];rw [hx]
     rw [e];exact qsnd_any c X w d n f q s t hF h hn htk hx h1 h3
    | false =>
     cases x4:(t.text==[33]) with
     | true =>
      have hx:t.text=[33]:=eq_of_beq x4;have e:Ex.unaryF c.ts n f d s=Ex.named c.ts [103,101,116] s:=by simp only [Ex.unaryF,Ex.at_,htk,b3,b1,x0,x1,x2,x3,x4,↓reduceIte,Bool.false_eq_true,Bool.or_false,Bool.or_true,Bool.true_or,Bool.false_or,Bool.and_true,Bool.and_false,Bool.true_and,Bool.false_and]
      rw [e];exact qget_any c X w d n f q s t hF h hn htk hx h1 h3
     | false =>
      cases x5:(t.text==[104,111,108,101]) with
      | true =>
       have hx:t.text=[104,111,108,101]:=eq_of_beq x5;have e:Ex.unaryF c.ts n f d s=Ex.named c.ts [104,111,108,101] s:=by simp only [Ex.unaryF,Ex.at_,htk,b3,b1,x0,x1,x2,x3,x4,x5,↓reduceIte,Bool.false_eq_true,Bool.or_false,Bool.or_true,Bool.true_or,Bool.false_or,Bool.and_true,Bool.and_false,Bool.true_and,Bool.false_and]
       rw [e];exact qhole_any c X w d n f q s t hF h hn htk hx h1 h3
      | false =>
       cases x6:(t.text==[116,114,117,101]) with
       | true =>
        have hx:t.text=[116,114,117,101]:=eq_of_beq x6;have e:Ex.unaryF c.ts n f d s=Ex.add c.ts [116,114,117,101] (Ex.at_ c.ts s) [] [] s.skip:=by simp only [Ex.unaryF,Ex.at_,htk,b3,b1,x0,x1,x2,x3,x4,x5,x6,↓reduceIte,Bool.false_eq_true,Bool.or_false,Bool.or_true,Bool.true_or,Bool.false_or,Bool.and_true,Bool.and_false,Bool.true_and,Bool.false_and];rw [hx]
        rw [e];exact qtrue_any c X w d n f q s t hF h hn htk hx h1 h3
       | false =>
        cases x7:(t.text==[102,97,108,115,101]) with
        | true =>
         have hx:t.text=[102,97,108,115,101]:=eq_of_beq x7;have e:Ex.unaryF c.ts n f d s=Ex.add c.ts [102,97,108,115,101] (Ex.at_ c.ts s) [] [] s.skip:=by simp only [Ex.unaryF,Ex.at_,htk,b3,b1,x0,x1,x2,x3,x4,x5,x6,x7,↓reduceIte,Bool.false_eq_true,Bool.or_false,Bool.or_true,Bool.true_or,Bool.false_or,Bool.and_true,Bool.and_false,Bool.true_and,Bool.false_and];rw [hx]
         rw [e];exact qfalse_any c X w d n f q s t hF h hn htk hx h1 h3
        | false =>
         cases x8:(t.text==[114,101,108,101,97,115,101]) with
         | true =>
          have hx:t.text=[114,101,108,101,97,115,101]:=eq_of_beq x8;have e:Ex.unaryF c.ts n f d s=Ex.releaseF c.ts f d s:=by simp only [Ex.unaryF,Ex.at_,htk,b3,b1,x0,x1,x2,x3,x4,x5,x6,x7,x8,↓reduceIte,Bool.false_eq_true,Bool.or_false,Bool.or_true,Bool.true_or,Bool.false_or,Bool.and_true,Bool.and_false,Bool.true_and,Bool.false_and]
          rw [e];exact qrelease_any c X w d n f q s t hF h hn htk hx h1 h3
         | false =>
          cases x9:(t.text==[40]) with
          | true =>
           have hx:t.text=[40]:=eq_of_beq x9;have e:Ex.unaryF c.ts n f d s=Ex.bracketsF c.ts f d s:=by simp only [Ex.unaryF,Ex.at_,htk,b3,b1,x0,x1,x2,x3,x4,x5,x6,x7,x8,x9,↓reduceIte,Bool.false_eq_true,Bool.or_false,Bool.or_true,Bool.true_or,Bool.false_or,Bool.and_true,Bool.and_false,Bool.true_and,Bool.false_and]
           rw [e];exact qparen_any c X w d n f q s t hF h hn htk hx h1 h3
          | false =>
           have e:Ex.unaryF c.ts n f d s=Ex.wrong c.ts 5 s:=by simp only [Ex.unaryF,htk,b3,b1,x0,x1,x2,x3,x4,x5,x6,x7,x8,x9,↓reduceIte,Bool.false_eq_true,Bool.or_false,Bool.or_true,Bool.true_or,Bool.false_or,Bool.and_true,Bool.and_false,Bool.true_and,Bool.false_and]
           rw [e];exact qnone_any c X w d q s t h.qd h.lt h.abs htk h1 h3 x0 x1 x2 x3 x4 x5 x6 x7 x8 x9
theorem is_word {ts:List Tok}(hT:Ex.TsOk ts){s:Ex.S}{t:Tok}(htk:Ex.tk ts s.p=t){m:B}(hm:∀ c r,m=c :: r->Lx.shorts.contains c=false)(hne:m≠[]):Ex.is ts s m=(t.kind==2 && t.text==m):=by
 unfold Ex.is;rw [hT.word hm hne,htk]
theorem qinitem_any (c:Cx)(n:Nat)(f:Ex.Rec)(hF:QSpec c n f)(X:Nat->Prop)(w:World)(d:Nat)(q:Qs)(s:Ex.S)(h:Pre c X w d n 6 s.p [] (Ex.Res.ok () s:Ex.Res Unit) q):
  Calls Tryz.prog 82 #[.pointer (some ⟨c.r,0,none⟩)] w (QP c X w d (Ex.itemF c.ts f d s)):=by
 obtain ⟨t,htk⟩:∃ t,Ex.tk c.ts s.p=t:=⟨_,rfl⟩;have hn6:10*(c.ts.length-s.p)+6<n:=h.fuel;have hn:10*(c.ts.length-s.p)<n:=by omega
 have h0:Pre c X w d n 0 s.p [] (Ex.Res.ok () s:Ex.Res Unit) q:=⟨h.qd,h.lt,h.abs,h.st,by omega,h.deep⟩;have hsl:s.p<c.ts.length:=by have:=h.lt;rw [h.abs.1] at this;exact this
 have htq:Ex.tk c.ts q.p=t:=by rw [h.abs.1];exact htk
 have w0:=is_word hF.ts htk (m:=[108,101,116]) (by intro c r e;injection e with e1 e2;subst e1;decide) (by simp);have w1:=is_word hF.ts htk (m:=[105,102]) (by intro c r e;injection e with e1 e2;subst e1;decide) (by simp);have w2:=is_word hF.ts htk (m:=[116,114,121]) (by intro c r e;injection e with e1 e2;subst e1;decide) (by simp);have w3:=is_word hF.ts htk (m:=[114,97,105,115,101]) (by intro c r e;injection e with e1 e2;subst e1;decide) (by simp);have w4:=is_word hF.ts htk (m:=[111,117,116]) (by intro c r e;injection e with e1 e2;subst e1;decide) (by simp)
 by_cases h2:t.kind=2
 ·have b2:(t.kind==2)=true:=by simpa using h2
  have b1:(t.kind==1)=false:=by simp [h2]
  have hk3:t.kind≠3:=by rw [h2];decide
  have hk1:t.kind≠1:=by rw [h2];decide
  rw [b2,Bool.true_and] at w0 w1 w2 w3 w4
  cases x0:(t.text==[108,101,116]) with
  | true =>
   have hx:t.text=[108,101,116]:=eq_of_beq x0;have e:Ex.itemF c.ts f d s=Ex.letF c.ts f d s:=by simp only [Ex.itemF,htk,w0,w1,w2,w3,w4,x0,↓reduceIte,Bool.false_eq_true,Bool.or_false,Bool.or_true,Bool.true_or,Bool.false_or,Bool.and_true,Bool.and_false,Bool.true_and,Bool.false_and]
   rw [e];exact qword_go c X w d n q s t _ hF.ts h0 htk h2 (by rw [hx];simp) fun w' q' h'=>qlet_any c X w' d n f q' s t hF h' hn hsl htk hx hk3
  | false =>
   cases x1:(t.text==[105,102]) with
   | true =>
    have hx:t.text=[105,102]:=eq_of_beq x1;have e:Ex.itemF c.ts f d s=Ex.choiceF c.ts f d s:=by simp only [Ex.itemF,htk,w0,w1,w2,w3,w4,x0,x1,↓reduceIte,Bool.false_eq_true,Bool.or_false,Bool.or_true,Bool.true_or,Bool.false_or,Bool.and_true,Bool.and_false,Bool.true_and,Bool.false_and]
    rw [e];exact qword_go c X w d n q s t _ hF.ts h0 htk h2 (by rw [hx];simp) fun w' q' h'=>qif_any c X w' d n f q' s t hF h' hn hsl htk hx hk3
   | false =>
    cases x2:(t.text==[116,114,121]) with
    | true =>
     have hx:t.text=[116,114,121]:=eq_of_beq x2;have e:Ex.itemF c.ts f d s=Ex.guardF c.ts f d s:=by simp only [Ex.itemF,htk,w0,w1,w2,w3,w4,x0,x1,x2,↓reduceIte,Bool.false_eq_true,Bool.or_false,Bool.or_true,Bool.true_or,Bool.false_or,Bool.and_true,Bool.and_false,Bool.true_and,Bool.false_and]
     rw [e];exact qword_go c X w d n q s t _ hF.ts h0 htk h2 (by rw [hx];simp) fun w' q' h'=>qtry_any c X w' d n f q' s t hF h' hn hsl htk hx hk3
    | false =>
     cases x3:(t.text==[114,97,105,115,101]) with
     | true =>
      have hx:t.text=[114,97,105,115,101]:=eq_of_beq x3;have e:Ex.itemF c.ts f d s=Ex.named c.ts [114,97,105,115,101] s:=by simp only [Ex.itemF,htk,w0,w1,w2,w3,w4,x0,x1,x2,x3,↓reduceIte,Bool.false_eq_true,Bool.or_false,Bool.or_true,Bool.true_or,Bool.false_or,Bool.and_true,Bool.and_false,Bool.true_and,Bool.false_and]
      rw [e];exact qword_go c X w d n q s t _ hF.ts h0 htk h2 (by rw [hx];simp) fun w' q' h'=>qraise_any c X w' d n f q' s t hF h' hn hsl htk hx hk3
     | false =>
      cases x4:(t.text==[111,117,116]) with
      | true =>
       have hx:t.text=[111,117,116]:=eq_of_beq x4;have e:Ex.itemF c.ts f d s=Ex.outF c.ts f d s:=by simp only [Ex.itemF,htk,w0,w1,w2,w3,w4,x0,x1,x2,x3,x4,↓reduceIte,Bool.false_eq_true,Bool.or_false,Bool.or_true,Bool.true_or,Bool.false_or,Bool.and_true,Bool.and_false,Bool.true_and,Bool.false_and]
       rw [e];exact qword_go c X w d n q s t _ hF.ts h0 htk h2 (by rw [hx];simp) fun w' q' h'=>qout_any c X w' d n f q' s t hF h' hn hsl htk hx hk3
      | false =>
       have e:Ex.itemF c.ts f d s=f .or d s:=by simp only [Ex.itemF,htk,b1,w0,w1,w2,w3,w4,x0,x1,x2,x3,x4,↓reduceIte,Bool.false_eq_true,Bool.or_false,Bool.or_true,Bool.true_or,Bool.false_or,Bool.and_true,Bool.and_false,Bool.true_and,Bool.false_and]
       rw [e];exact qlev_go c X w d q t _ h.qd h.lt htq hk1 (.inr ⟨h2,x0,x1,x2,x3,x4⟩) fun w' h'=>hF.or (Ex.Res.ok () s:Ex.Res Unit) X w' d s.p [] q ⟨h',h.lt,h.abs,h.st,hn6,h.deep⟩
 have b2:(t.kind==2)=false:=by simpa using h2
 rw [b2,Bool.false_and] at w0 w1 w2 w3 w4
 by_cases h1:t.kind=1
 ·have b1:(t.kind==1)=true:=by simpa using h1
  obtain ⟨u,hu⟩:∃ u,Ex.tk c.ts (s.p+1)=u:=⟨_,rfl⟩;have huq:Ex.tk c.ts (q.p+1)=u:=by rw [h.abs.1];exact hu
  have hset:Ex.isT u [58,61]=(u.kind==4 && u.text==[58,61]):=by rw [<- hu];exact hF.ts.set (by decide)
  have hk3:t.kind≠3:=by rw [h1];decide
  have hti:t.int=0:=by rw [<- htk] at hk3 ⊢;exact hF.ts.num hk3
  cases hs4:(u.kind==4 && u.text==[58,61]) with
  | true =>
   have e:Ex.itemF c.ts f d s=Ex.setF c.ts f d s:=by simp only [Ex.itemF,htk,hu,hset,hs4,b1,w0,w1,w2,w3,w4,↓reduceIte,Bool.false_eq_true,Bool.or_false,Bool.or_true,Bool.true_or,Bool.false_or,Bool.and_true,Bool.and_false,Bool.true_and,Bool.false_and]
   rw [e];obtain ⟨hu4,hux⟩:=Bool.and_eq_true _ _ ▸ hs4;have hu4:u.kind=4:=by simpa using hu4
   have hux:u.text=[58,61]:=eq_of_beq hux;have hnx2:s.p+1+1<c.ts.length:=hF.ts.next (by rw [hu,hu4];decide);have hS2:St c.ts (s.p+2) [] (Ex.Res.ok () s.skip.skip:Ex.Res Unit):=⟨((h.st.ready rfl).1.skip hsl).skip (by show s.p+1<c.ts.length;omega),Nat.le_refl _,fun k hk=>by cases hk⟩;have hA2:Abs (Ex.Res.ok () s.skip.skip:Ex.Res Unit) q.skip.skip:=h.abs.skip_ok (ts:=c.ts) |>.skip_ok (ts:=c.ts)
   have hp2:q.skip.skip.p<c.ts.length:=by show q.p+1+1<c.ts.length;rw [h.abs.1];exact hnx2
   refine qset_go c X w d q t u [] _ ((Ex.Res.ok () s.skip.skip:Ex.Res Unit).bind fun _ s=>f .or d s) hF.ts h.qd h.lt htq huq h1 hu4 hux (fun w' h'=>hF.or (Ex.Res.ok () s.skip.skip:Ex.Res Unit) X w' d (s.p+2) [] q.skip.skip ⟨h',hp2,hA2,hS2,by omega,h.deep⟩) fun v hv=>⟨fun a s9 e9=>?_, ?_⟩
   ·exact fits_of ((hS2.rec hF.ends hF.gr .or (by simp only [Ex.rank];omega) hv).ready e9).2.2
   ·have et:Ex.take c.ts [58,61] s.skip = .ok () s.skip.skip:=by
     have:Ex.is c.ts s.skip [58,61]=true:=by
      show Ex.isT (Ex.tk c.ts (s.p+1)) [58,61]=true
      rw [hu,hset,hs4]
     rw [Ex.take,if_pos this]
    rw [hti];unfold Ex.setF;rw [et]
    change ∀ i s',f .or d s.skip.skip = .ok i s'->v=i at hv
    show ((f .or d s.skip.skip).bind _)=((f .or d s.skip.skip).bind _)
    cases e1:f .or d s.skip.skip with
    | bad c' p=>rfl
    | out=>rfl
    | ok a s1 =>
     obtain rfl:=hv a s1 e1;subst htk;rfl
  | false =>
   have e:Ex.itemF c.ts f d s=f .or d s:=by simp only [Ex.itemF,htk,hu,hset,hs4,b1,w0,w1,w2,w3,w4,↓reduceIte,Bool.false_eq_true,Bool.or_false,Bool.or_true,Bool.true_or,Bool.false_or,Bool.and_true,Bool.and_false,Bool.true_and,Bool.false_and]
   rw [e];exact qname_go c X w d q t u _ hF.ts h.qd h.lt htq huq h1 hs4 fun w' h'=>hF.or (Ex.Res.ok () s:Ex.Res Unit) X w' d s.p [] q ⟨h',h.lt,h.abs,h.st,hn6,h.deep⟩
 ·have b1:(t.kind==1)=false:=by simpa using h1
  have e:Ex.itemF c.ts f d s=f .or d s:=by simp only [Ex.itemF,htk,b1,w0,w1,w2,w3,w4,↓reduceIte,Bool.false_eq_true,Bool.or_false,Bool.or_true,Bool.true_or,Bool.false_or,Bool.and_true,Bool.and_false,Bool.true_and,Bool.false_and]
  rw [e];exact qlev_go c X w d q t _ h.qd h.lt htq h1 (.inl h2) fun w' h'=>hF.or (Ex.Res.ok () s:Ex.Res Unit) X w' d s.p [] q ⟨h',h.lt,h.abs,h.st,hn6,h.deep⟩
end
section
open Go.RowKit Tn Lx
attribute [local go_sem] qtok_field0 qtok_field1 qtok_field2 qtok_field3
theorem Abs.goes_ok {ts:List Tok}{R:Ex.Res Nat}{q:Qs}(h:Abs R q)(hg:qgoes ts q=true):∃ a s,R = .ok a s/\Ex.goes ts s=true/\Ex.is ts s [59]=true:=by
 unfold qgoes at hg;obtain ⟨h1,h2⟩:=Bool.and_eq_true _ _ ▸ hg;obtain ⟨a,s,rfl,hi,_⟩:=h.take_ok (ts:=ts) h1;refine ⟨a,s,rfl, ?_,hi⟩;unfold Ex.goes;rw [hi,<- h.1,h2];rfl
theorem Abs.goes_no {ts:List Tok}{R:Ex.Res Nat}{q:Qs}(h:Abs R q)(hg:qgoes ts q=false):∀ a s,R = .ok a s->Ex.goes ts s=false:=by
 rintro a s rfl;unfold qgoes at hg;unfold Ex.goes;rw [<- h.1];have e:qis ts q [59]=Ex.is ts s [59]:=by
  obtain ⟨e1,e2,e3⟩:=h;unfold qis Ex.is;rw [e3,e1];rfl
 rw [<- e];exact hg
theorem tail_no {ts:List Tok}{item:Ex.Part}{R:Ex.Res Nat}{q:Qs}{k v:Nat}(hA:Abs R q)(hv:∀ i s,R = .ok i s->v=i)(hg:qgoes ts q=false)(hk:0<k):Abs (R.bind (Ex.tailR ts item k)) q/\∀ i s,R.bind (Ex.tailR ts item k) = .ok i s->v=i:=by
 obtain ⟨k,rfl⟩:∃ j,k=j+1:=⟨k-1,by omega⟩;have hn:=hA.goes_no hg
 cases R with
 | ok a s =>
  have e:(Ex.Res.ok a s).bind (Ex.tailR ts item (k+1)) = .ok a s:=by
   show Ex.tailR ts item (k+1) a s=_
   rw [Ex.tailR,if_neg (by rw [hn a s rfl];decide)]
  rw [e];exact ⟨hA,hv⟩
 | bad c p=>exact ⟨hA,fun i s e=>by cases e⟩
 | out=>exact hA.elim
theorem qall_any (c:Cx)(n:Nat)(f:Ex.Rec)(hF:QSpec c n f)(X:Nat->Prop)(d:Nat)(k:Nat):∀ {α:Type} (R:Ex.Res α) (w:World) (m:Nat) (ks:List Nat) (q:Qs),Pre c X w d n 7 m ks R q->10*(c.ts.length-m)<k ->
  Calls Tryz.prog 42 #[.pointer (some ⟨c.r,0,none⟩)] w (QP c X w d (R.bind fun _ s=>Ex.allR c.ts k (f .item d) s)):=by
 induction k with
 | zero=>intro α R w m ks q h hk;omega
 | succ k ih =>
  intro α R w m ks q h hk;have hI:=hF.item R X w d m ks q h;have hr1:=h.qd.rlt;have hbt:=h.qd.bt;have hsz:=h.qd.size;have hd:=h.deep;have hfu:=h.fuel;have hfin:(R.bind fun _ s=>Ex.allR c.ts (k+1) (f .item d) s)=(R.bind fun _ s=>f .item d s).bind (Ex.tailR c.ts (f .item d) (k+1)):=by rw [Ex.Res.bind_assoc];rfl
  rw [hfin];obtain ⟨R1,hR1⟩:∃ R1,(R.bind fun _ s=>f .item d s)=R1:=⟨_,rfl⟩;rw [hR1];have HR1:=Lib.hid hR1;clear hR1;have HI:=Lib.hid hI;have HIH:=Lib.hid (fun (R:Ex.Res Unit)=>ih R);have HF:=Lib.hid hF;have HS:=Lib.hid h.st;clear hI ih hF h hfin
  go_enter Tryz.func42,Tryz.ntmps42
  go_wp2_with fail
  refine HI.out.mono ?_;rintro e w1 ⟨v1,q1,rfl,hQ1,hp1,hA1,hv1,hK1⟩;have hS1:=HS.out.rec HF.out.ends HF.out.gr .item (by simp only [Ex.rank];omega) hv1;rw [HR1.out] at hA1 hv1 hS1;have hlk:=hQ1.looks hp1;obtain ⟨t,ht⟩:∃ t,Ex.tk c.ts q1.p=t:=⟨_,rfl⟩;rw [ht] at hlk;obtain ⟨a0,a1,b0,b1,b2,b3,b4,c0,c1,k0,k1,k2,k3,k4,wr,w1',few,room⟩:=hlk;obtain ⟨V,hV⟩:∃ V,(w1.alloc (.cells #[.int .i64 t.kind,.string ⟨t.text.toArray⟩,.int .i64 t.int,.int .i64 t.at_.line,.int .i64 t.at_.col] 109)).drew=V:=⟨_,rfl⟩;have hbV:Below w1.heap.size w1 V:=by rw [<- hV];exact Below.drawn w1 _
  have hT:Fiq V w1.heap.size t:=by rw [<- hV];exact Fiq.drawn w1 t
  have hz1:=hK1.size;have hzV:=hbV.size;have HQ1:=Lib.hid (hQ1.below hbV);have HP1:=Lib.hid hp1;have HA1:=Lib.hid hA1;have Hv1:=Lib.hid hv1;have HS1:=Lib.hid hS1;have HK1:=Lib.hid (hK1.then_below hbV);have HT:=Lib.hid hT;have HV:=Lib.hid hV;have HTK:=Lib.hid ht;clear hQ1 hp1 hA1 hv1 hS1 hK1 hbV hT hV ht HI HS
  go_upto_region 2 with fail
  go_region
  rw [HV.out];clear a0 a1 b0 b1 b2 b3 b4 c0 c1 k0 k1 k2 k3 k4;have hG:=qgoes_any c X V d q1 HF.out.ts HQ1.out HP1.out
  cases hg:qgoes c.ts q1 with
  | false =>
   rw [hg] at hG;have hno:=tail_no (item:=f .item d) HA1.out Hv1.out hg (Nat.succ_pos k);have HG:=Lib.hid hG;have HNO:=Lib.hid hno;clear hG hno hg
   go_wp2_with fail
   refine HG.out.mono ?_;rintro e w2 ⟨rfl,hb2⟩;have HQ2:=Lib.hid (HQ1.out.below hb2);have HK2:=Lib.hid (HK1.out.then_below hb2);clear hb2
   go_wp2
   go_ret
   exact ⟨v1,q1,rfl,HQ2.out,HP1.out,HNO.out.1,HNO.out.2,HK2.out⟩
  | true =>
   rw [hg] at hG;obtain ⟨a,s1,hRa,hgo,his⟩:=HA1.out.goes_ok hg;obtain rfl:v1=a:=Hv1.out a s1 hRa;have hr:=HS1.out.ready hRa;have hpq:q1.p=s1.p:=by have:=HA1.out;rw [hRa] at this;exact this.1
   have htk:Ex.tk c.ts s1.p=t:=by rw [<- hpq];exact HTK.out
   have hlt:=Ex.is_lt his;have hnx:=HF.out.ts.is_next his;have hti:t.int=0:=by
    rw [<- htk];refine HF.out.ts.num fun e3=>?_;simp [Ex.is,Ex.isT,e3] at his
   have hA2:Abs (Ex.Res.ok () s1.skip:Ex.Res Unit) q1.skip:=by have h9:Abs R1 q1:=HA1.out;rw [hRa] at h9;exact Abs.skip_ok (ts:=c.ts) h9
   have hS2:St c.ts (s1.p+1) [v1] (Ex.Res.ok () s1.skip:Ex.Res Unit):=⟨hr.1.skip hlt,Nat.le_refl _,fun k hk=>by rw [List.mem_singleton.1 hk];exact hr.2.2 v1 (List.mem_cons_self ..)⟩;have hmp:=hr.2.1;have hp2:q1.skip.p<c.ts.length:=by show q1.p+1<c.ts.length;rw [hpq];exact hnx
   have hP:=(HF.out.ends.part .item d);have hpost:=Ex.allF_post (m:=k) hP hS2.1 (by show 10*(c.ts.length-(s1.p+1))<n-Ex.rank .item;simp only [Ex.rank];omega) (by show 10*(c.ts.length-(s1.p+1))<k;omega);rw [Ex.allF_eq] at hpost;have hgr:=Ex.allR_gr (ts:=c.ts) (L:=s1.skip.ns.length) (HF.out.gr .item d) k (Nat.le_refl _);have heqn:R1.bind (Ex.tailR c.ts (f .item d) (k+1))=(Ex.allR c.ts k (f .item d) s1.skip).bind fun b s9=>Ex.add c.ts [115,101,113] (Ex.at_ c.ts s1) [] [v1,b] s9:=by
    rw [hRa]
    show Ex.tailR c.ts (f .item d) (k+1) v1 s1=_
    rw [Ex.tailR,if_pos hgo];rfl
   have hv1l:=hr.2.2 v1 (List.mem_cons_self ..);have HG:=Lib.hid hG;have HA2:=Lib.hid hA2;have HS2:=Lib.hid hS2;have HP2:=Lib.hid hp2;have HPO:=Lib.hid hpost;have HGR:=Lib.hid hgr;have HEQ:=Lib.hid heqn;have HTI:=Lib.hid hti;have HTS:=Lib.hid htk;have HVL:=Lib.hid hv1l;have HPQ:=Lib.hid hpq;clear hG hA2 hS2 hp2 hpost hgr heqn hti htk hv1l hP hRa hgo his hr hg hpq
   go_wp2_with fail
   refine HG.out.mono ?_;rintro e w2 ⟨rfl,hb2⟩;have hQ2:=HQ1.out.below hb2;have c1:=hQ2.c1;have cf:=hQ2.fz;obtain ⟨hQ3,hK3⟩:=hQ2.setp (p':=q1.p+1) (by have:=HP1.out;omega);obtain ⟨M,hM⟩:∃ M,w2.setCell ⟨c.r,1,none⟩ (.int .i64 ((q1.p:Int)+1))=M:=⟨_,rfl⟩;rw [show (((q1.p+1:Nat):Int))=(q1.p:Int)+1 by omega,hM] at hQ3 hK3;have hT3:=(HT.out.below hb2).kp hK3 (by omega) (by omega)
   replace hQ3:Qd c X M d q1.skip:=hQ3
   have HQ3:=Lib.hid hQ3;have HK3:=Lib.hid ((HK1.out.then_below hb2).trans hK3);have HT3:=Lib.hid hT3;have HM:=Lib.hid hM;have hzM:=hK3.size;have hz2:=hb2.size;clear hb2 hQ2 hQ3 hK3 hT3 hM;have wrp:IntKind.i64.wrap ((q1.p:Int)+1)=(q1.p:Int)+1:=IntWalk.i64_in _ (by have:=HP1.out;omega)
   go_upto_region 8 with fail
   rw [HM.out];clear c1 cf
   go_wp2_with fail
   refine (HIH.out (Ex.Res.ok () s1.skip:Ex.Res Unit) M (s1.p+1) [v1] q1.skip ⟨HQ3.out,HP2.out,HA2.out,HS2.out,by omega,hd⟩ (by omega)).mono ?_;rintro e w4 ⟨v2,q2,rfl,hQ4,hp4,hA4,hv4,hK4⟩
   change Abs (Ex.allR c.ts k (f .item d) s1.skip) q2 at hA4
   change ∀ i s,Ex.allR c.ts k (f .item d) s1.skip = .ok i s->v2=i at hv4
   have hfit:∀ a s,Ex.allR c.ts k (f .item d) s1.skip = .ok a s->fits s.ns.length ⟨⟨#[115,101,113]⟩,t.at_.line,t.at_.col,⟨#[]⟩,t.int,[v1,v2].map fun (k:Nat)=>(k:Int)⟩=true:=fun a s9 e9=>by
    have h1:=HGR.out a s9 e9;obtain rfl:=hv4 a s9 e9;have h2:=HVL.out;exact fits_of (ks:=[v1,v2]) (fun k hk=>by
     rcases List.mem_cons.1 hk with rfl | hk
     ·have h3:s1.skip.ns.length=s1.ns.length:=rfl;omega
     ·rw [List.mem_singleton.1 hk];exact h1.2)
   have hadd:=hA4.add (ts:=c.ts) _ hfit;have heq:((Ex.allR c.ts k (f .item d) s1.skip).bind fun _ s=>Ex.addN c.ts ⟨⟨#[115,101,113]⟩,t.at_.line,t.at_.col,⟨#[]⟩,t.int,[v1,v2].map fun (k:Nat)=>(k:Int)⟩ s)=R1.bind (Ex.tailR c.ts (f .item d) (k+1)):=by
    rw [HEQ.out,HTI.out];have:=HTS.out;subst this
    cases e9:Ex.allR c.ts k (f .item d) s1.skip with
    | bad c' p=>rfl
    | out=>rfl
    | ok b s9=>obtain rfl:=hv4 b s9 e9;rfl
   rw [heq] at hadd;have hlt9:=qnode_lt hp4 (ts:=c.ts) ⟨⟨#[115,101,113]⟩,t.at_.line,t.at_.col,⟨#[]⟩,t.int,[v1,v2].map fun (k:Nat)=>(k:Int)⟩;have hz4:=hK4.size;have HQ4:=Lib.hid hQ4;have HP4:=Lib.hid hp4;have HADD:=Lib.hid hadd;have HL:=Lib.hid hlt9;have HT4:=Lib.hid (HT3.out.kp hK4 (by omega) (by omega));have HK4:=Lib.hid (HK3.out.trans hK4);clear hQ4 hp4 hA4 hv4 hK4 hfit hadd heq hlt9;have y0:=HT4.out.c0;have y1:=HT4.out.c1;have y2:=HT4.out.c2;have y3:=HT4.out.c3;have y4:=HT4.out.c4
   go_wp2_with fail
   refine (qnode_any c X _ d q2 ⟨#[115,101,113]⟩ t ⟨#[]⟩ [v1,v2] (some ⟨w4.heap.size,0,none⟩) 2 (HQ4.out.below ((Below.refl _ w4).alloc (Nat.le_refl _) _)) HP4.out (qints2 _ (by omega) v1 v2) (HQ4.out.fresh _ _)).mono ?_;rintro e w9 ⟨rfl,hQ,hK⟩;have HQ9:=Lib.hid hQ;have HK9:=Lib.hid (HK4.out.trans (Below.then_kp ((Below.refl _ w4).alloc (Nat.le_refl _) _) hK));clear hQ hK y0 y1 y2 y3 y4
   go_wp2
   go_ret
   exact ⟨_,_,rfl,HQ9.out,HL.out,HADD.out.1,HADD.out.2,HK9.out⟩
end
end Go.Proofs.YtninlbknklbofaaGreatDoor
