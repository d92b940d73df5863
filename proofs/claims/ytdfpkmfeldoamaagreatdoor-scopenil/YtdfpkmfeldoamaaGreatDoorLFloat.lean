/- A part of the proof: A part of the proof. -/
import Derived.Test.YtdfpkmfeldoamaaGreatDoorLFirst
import Derived.Deep.QuietTactic
import Derived.BigQuiet
import Derived.WalkKit
import Derived.Below
import Derived.WalkSmall
import Derived.StillTail
import Derived.Deep.RegionHeld3
set_option linter.unusedSimpArgs false
set_option linter.unusedVariables false
set_option maxHeartbeats 2000000
namespace Go.Proofs.YtdfpkmfeldoamaaGreatDoor.Lx
theorem letter_ascii {c:UInt8}(h:letter c=true):c.toNat<128:=by simp [letter,letterZ] at h;omega
theorem digit_ascii {c:UInt8}(h:digit c=true):c.toNat<128:=by simp [digit,digitZ] at h;omega
theorem span_ascii (name:Bool)(l:B):∀ c∈l.take (span name l),c.toNat<128:=by
 intro c hc;have:=span_all name l c hc;rw [Bool.or_eq_true,Bool.and_eq_true] at this
 rcases this with h | h
 ·exact digit_ascii h
 ·exact letter_ascii h.2
theorem shorts_ascii:∀ c∈shorts,c.toNat<128:=by decide
theorem mark_cons (c:UInt8)(l:B):mark (c :: l)=if (c :: l).take 2==[58,61] || (c :: l).take 2==[45,62] then 2 else if shorts.contains c then 1 else 0:=rfl
theorem one_cons (c:UInt8)(l:B):one (c :: l)=if digit c then (if span false (c :: l)>18 then .bad 6 else .tok 3 (span false (c :: l)) (number ((c :: l).take (span false (c :: l)))))
  else if letter c then (if span true (c :: l)>40 then .bad 6 else if own ((c :: l).take (span true (c :: l))) then .tok 2 (span true (c :: l)) 0 else .tok 1 (span true (c :: l)) 0)
  else if mark (c :: l)=0 then .bad 4 else .tok 4 (mark (c :: l)) 0:=rfl
theorem mark_le (l:B):mark l<=l.length:=by
 cases l with
 | nil=>simp [mark]
 | cons c l =>
  rw [mark_cons]
  split
  ·rename_i h;rw [Bool.or_eq_true] at h;have h2:((c :: l).take 2).length=2:=by rcases h with h | h <;> (rw [eq_of_beq h];rfl)
   rw [List.length_take] at h2;omega
  ·split <;> simp
theorem mark_ascii (l:B):∀ c∈l.take (mark l),c.toNat<128:=by
 cases l with
 | nil=>simp [mark]
 | cons c l =>
  rw [mark_cons]
  split
  ·rename_i h;rw [Bool.or_eq_true] at h
   rcases h with h | h <;> (rw [eq_of_beq h];decide)
  ·split
   ·rename_i h;intro d hd;simp at hd;subst hd;exact shorts_ascii d (by simpa using h)
   ·simp
structure IsTok (l:B)(k:Int)(n:Nat)(v:Int):Prop where
 k0:0<=k
 k4:k<=4
 pos:k≠0->0<n
 le:n<=l.length
 zero:k=0->l=[]/\n=0/\v=0
 ascii:∀ c∈l.take n,c.toNat<128
theorem span_pos (name:Bool)(c:UInt8)(l:B)(h:(digit c || (name && letter c))=true):0<span name (c :: l):=by
 rw [span,if_pos h];omega
theorem one_tok {l:B}{k:Int}{n:Nat}{v:Int}(h:one l = .tok k n v):IsTok l k n v:=by
 cases l with
 | nil =>
  obtain ⟨rfl,rfl,rfl⟩:0=k/\0=n/\0=v:=by simpa [one] using h
  exact ⟨by omega,by omega,by simp,by simp,fun _=>⟨rfl,rfl,rfl⟩,by simp⟩
 | cons c l =>
  rw [one_cons] at h
  split at h
  ·rename_i hc
   split at h
   ·cases h
   ·obtain ⟨rfl,rfl,rfl⟩:3=k/\span false (c :: l)=n/\number ((c :: l).take (span false (c :: l)))=v:=by simpa using h
    exact ⟨by omega,by omega,fun _=>span_pos false c l (by simp [hc]),span_le _ _,by simp,span_ascii _ _⟩
  ·split at h
   ·rename_i hc
    split at h
    ·cases h
    ·split at h
     ·obtain ⟨rfl,rfl,rfl⟩:2=k/\span true (c :: l)=n/\0=v:=by simpa using h
      exact ⟨by omega,by omega,fun _=>span_pos true c l (by simp [hc]),span_le _ _,by simp,span_ascii _ _⟩
     ·obtain ⟨rfl,rfl,rfl⟩:1=k/\span true (c :: l)=n/\0=v:=by simpa using h
      exact ⟨by omega,by omega,fun _=>span_pos true c l (by simp [hc]),span_le _ _,by simp,span_ascii _ _⟩
   ·split at h
    ·cases h
    ·rename_i hm;obtain ⟨rfl,rfl,rfl⟩:4=k/\mark (c :: l)=n/\0=v:=by simpa using h
     exact ⟨by omega,by omega,fun _=>by omega,mark_le _,by simp,mark_ascii _⟩
theorem one_bad {l:B}{e:Int}(h:one l = .bad e):(e=6\/e=4)/\l≠[]:=by
 cases l with
 | nil=>simp [one] at h
 | cons c l =>
  refine ⟨?_,by simp⟩;rw [one_cons] at h
  split at h
  ·split at h
   ·left;simpa using h.symm
   ·cases h
  ·split at h
   ·split at h
    ·left;simpa using h.symm
    ·split at h <;> cases h
   ·split at h
    ·right;simpa using h.symm
    ·cases h
theorem valid_ascii (l:B)(h:∀ c∈l,c.toNat<128):Valid l:=by
 induction l with
 | nil=>exact .nil
 | cons c l ih=>exact (ih fun d hd=>h d (by simp [hd])).ascii (h c (by simp))
theorem valid_drop (n:Nat):∀ (l:B),Valid l->(∀ c∈l.take n,c.toNat<128)->Valid (l.drop n):=by
 induction n with
 | zero=>intro l h _;simpa using h
 | succ n ih =>
  intro l h ha
  cases l with
  | nil=>simpa using h
  | cons c l =>
   rw [List.drop_succ_cons];exact ih l (h.tail (ha c (by simp))) (fun d hd=>ha d (by rw [List.take_succ_cons];simp [hd]))
theorem adv_bound (l:B):∀ (p:Pos) (N:Int),1<=N->0<=p.line->p.line<=N->0<=p.col->p.col<=N->0<=(adv p l).line/\(adv p l).line<=N+l.length/\0<=(adv p l).col/\(adv p l).col<=N+l.length:=by
 induction l with
 | nil=>intro p N h1 h2 h3 h4 h5;simpa [adv] using ⟨h2,h3,h4,h5⟩
 | cons c l ih =>
  intro p N h1 h2 h3 h4 h5;rw [adv_cons];have hs:0<=(step p c).line/\(step p c).line<=N+1/\0<=(step p c).col/\(step p c).col<=N+1:=by
   unfold step
   split
   ·refine ⟨?_, ?_, ?_, ?_⟩ <;> (try simp only) <;> omega
   ·split
    ·refine ⟨?_, ?_, ?_, ?_⟩ <;> omega
    ·refine ⟨?_, ?_, ?_, ?_⟩ <;> (try simp only) <;> omega
  have:=ih (step p c) (N+1) (by omega) hs.1 hs.2.1 hs.2.2.1 hs.2.2.2;rw [List.length_cons]
  push_cast
  refine ⟨this.1, ?_,this.2.2.1, ?_⟩ <;> omega
theorem toks_fuel:∀ (f g:Nat)(note:Bool)(p:Pos)(l:B),l.length<f->l.length<g->toks f note p l=toks g note p l
 | 0,_,_,_,_,h,_=>by omega
 | _+1,0,_,_,_,_,h=>by omega
 | f+1,g+1,note,p,l,hf,hg=>by
  unfold toks
  split
  ·rfl
  ·rename_i k n v h;have T:=one_tok h
   split
   ·rfl
   ·rename_i hk;have hp:=T.pos hk;have hle:=T.le;have hb:=blanks_le note l;rw [List.length_drop] at hle;rw [toks_fuel f g false _ _ (by rw [List.length_drop];omega) (by rw [List.length_drop];omega)]
theorem toks_bad {r:B}{note:Bool}{p:Pos}{out:List Tok}{R:Res}{e:Int}(hR:R=(toks (r.length+1) note p r).after out)(h:one (r.drop (blanks note r)) = .bad e):
  R = .bad e (adv p (r.take (blanks note r))):=by
 rw [hR,toks,h];rfl
theorem toks_end {r:B}{note:Bool}{p:Pos}{out:List Tok}{R:Res}{m:Nat}{v:Int}(hR:R=(toks (r.length+1) note p r).after out)(h:one (r.drop (blanks note r)) = .tok 0 m v):
  R = .ok (out++[⟨0,(r.drop (blanks note r)).take m,v,adv p (r.take (blanks note r))⟩]):=by
 obtain ⟨_,h2,h3⟩:=(one_tok h).zero rfl;rw [hR,toks,h];subst h2;subst h3;simp [Res.after]
theorem toks_more {r:B}{note:Bool}{p:Pos}{out:List Tok}{R:Res}{k:Int}{m:Nat}{v:Int}(hR:R=(toks (r.length+1) note p r).after out)(h:one (r.drop (blanks note r)) = .tok k m v)(hk:k≠0):
  R=(toks (((r.drop (blanks note r)).drop m).length+1) false (adv (adv p (r.take (blanks note r))) ((r.drop (blanks note r)).take m)) ((r.drop (blanks note r)).drop m)).after
   (out++[⟨k,(r.drop (blanks note r)).take m,v,adv p (r.take (blanks note r))⟩]):=by
 have T:=one_tok h;have hp:=T.pos hk;have hle:=T.le;rw [List.length_drop] at hle;rw [hR,toks,h];simp only [hk,if_false];rw [Res.after_after,<- adv_append,List.drop_drop];have e:r.take (blanks note r)++(r.drop (blanks note r)).take m=r.take (blanks note r+m):=by rw [List.take_add]
 rw [e,toks_fuel r.length _ false _ _ (by rw [List.length_drop];omega) (Nat.lt_succ_self _)]
end Go.Proofs.YtdfpkmfeldoamaaGreatDoor.Lx
namespace Go.Proofs.YtdfpkmfeldoamaaGreatDoor
section
open Go.RowKit
theorem gotV_form (s:ByteArray)(g:Lx.Got):∃ a b c d,gotV s g = .tuple #[.agg #[.int .i64 a,.string b,.int .i64 c,.int .i64 0,.int .i64 0],.int .i64 d]:=by
 cases g with
 | bad e=>exact ⟨_,_,_,_,rfl⟩
 | tok k n v=>exact ⟨_,_,_,_,rfl⟩
theorem span_digit_pos (c:UInt8)(l:Lx.B)(h:Lx.digitZ (c.toNat:Int)=true):0<Lx.span false (c :: l):=by
 rw [Lx.span,if_pos (by simp [Lx.digit,h])];omega
theorem firstToken_any (s:ByteArray)(w:World)(hs:s.size<=1000000000000):
  Calls Tryz.prog 75 #[.string s] w fun e w'=>e = .returned (gotV s (Lx.one s.data.toList))/\Below w.heap.size w w':=by
 have hbl:∀ v,Below w.heap.size w (w.alloc (.cells v 118)):=fun v=>(Below.refl w.heap.size w).alloc (Nat.le_refl _) _;have HBL:=Lib.hid hbl;clear hbl
 by_cases hne:0<s.size
 ·obtain ⟨c,hc,hd⟩:=byte_at s 0 hne;simp only [List.drop_zero] at hd;have hone:Lx.one s.data.toList=if Lx.digit c then (if Lx.span false s.data.toList>18 then .bad 6 else .tok 3 (Lx.span false s.data.toList) (Lx.number (s.data.toList.take (Lx.span false s.data.toList))))
   else if Lx.letter c then (if Lx.span true s.data.toList>40 then .bad 6 else if Lx.own (s.data.toList.take (Lx.span true s.data.toList)) then .tok 2 (Lx.span true s.data.toList) 0 else .tok 1 (Lx.span true s.data.toList) 0)
   else if Lx.mark s.data.toList=0 then .bad 4 else .tok 4 (Lx.mark s.data.toList) 0:=by
   rw [hd];rfl
  have hem:s.toList.isEmpty=false:=by rw [toList_eq,hd];rfl
  have hZ:=HBL.out #[.int .i64 0,.string ⟨#[]⟩,.int .i64 0,.int .i64 0,.int .i64 0];have zb:(w.alloc (.cells #[.int .i64 0,.string ⟨#[]⟩,.int .i64 0,.int .i64 0,.int .i64 0] 118)).heap[w.heap.size]? = some (.cells #[.int .i64 0,.string ⟨#[]⟩,.int .i64 0,.int .i64 0,.int .i64 0] 118 (0,0)):=heap_alloc_new w _;have hfin:∀ (a:Int) (b:ByteArray) (v d:Int) (w1 w2:World),w1=w.alloc (.cells #[.int .i64 0,.string ⟨#[]⟩,.int .i64 0,.int .i64 0,.int .i64 0] 118)->Below w1.heap.size w1 w2->((∀ i,i<5->∃ x,w2.cell? ⟨w.heap.size,i,none⟩=some x)/\(∀ i,w2.frozen? ⟨w.heap.size,i,none⟩=false)/\Below w.heap.size w w2):=by
   intro a b v d w1 w2 e hb2;subst e;have hlt:w.heap.size<(w.alloc (.cells #[.int .i64 0,.string ⟨#[]⟩,.int .i64 0,.int .i64 0,.int .i64 0] 118)).heap.size:=by simp
   refine ⟨fun i hi=>?_,fun i=>(hb2.frozen (p:=⟨w.heap.size,i,none⟩) hlt).trans (World.frozen?_alloc_new _ _ _ _),hZ.trans (hb2.mono hZ.size)⟩;rw [hb2.cell (p:=⟨w.heap.size,i,none⟩) hlt,World.cell?_alloc_new];have:i=0\/i=1\/i=2\/i=3\/i=4:=by omega
   rcases this with rfl | rfl | rfl | rfl | rfl <;> exact ⟨_,rfl⟩
  have HF:=Lib.hid hfin;clear hfin zb
  cases h1:Lx.digitZ (c.toNat:Int)
  ·cases h2:Lx.letterZ (c.toNat:Int)
   ·have e:Lx.one s.data.toList=if Lx.mark s.data.toList=0 then .bad 4 else .tok 4 (Lx.mark s.data.toList) 0:=by rw [hone,if_neg (by simp [Lx.digit,h1]),if_neg (by simp [Lx.letter,h2])]
    rw [e];have cM:=fun w=>firstMark_any s w hs hne;obtain ⟨a,b,v,d,hf⟩:=gotV_form s (if Lx.mark s.data.toList=0 then .bad 4 else .tok 4 (Lx.mark s.data.toList) 0);rw [hf] at cM ⊢;have CM:=Lib.hid cM;clear cM hf e hone hd
    go_enter Tryz.func75,Tryz.ntmps75
    go_wp2_with fail
    refine (isDigit_any _ _).mono ?_;rintro e w' ⟨rfl,rfl⟩
    go_wp2_with fail
    refine (isLetter_any _ _).mono ?_;rintro e w' ⟨rfl,rfl⟩
    go_wp2_with fail
    refine (CM.out _).mono ?_;rintro e w2 ⟨rfl,hb2⟩;obtain ⟨hcs,hfz,hb3⟩:=HF.out a b v d _ _ rfl hb2;obtain ⟨x0,y0⟩:=hcs 0 (by omega);obtain ⟨x1,y1⟩:=hcs 1 (by omega);obtain ⟨x2,y2⟩:=hcs 2 (by omega);obtain ⟨x3,y3⟩:=hcs 3 (by omega);obtain ⟨x4,y4⟩:=hcs 4 (by omega);have f0:=hfz 0;have f1:=hfz 1;have f2:=hfz 2;have f3:=hfz 3;have f4:=hfz 4;clear hcs hfz hb2
    go_wp2
    refine bodyPost_ret (v := .tuple #[.agg #[.int .i64 a,.string b,.int .i64 v,.int .i64 0,.int .i64 0],.int .i64 d]) ?_ rfl ⟨rfl, ?_⟩
    ·simp [results,Tryz.results75,go_sem,y0,y1,y2,y3,y4]
    ·exact ((((hb3.setCell (by simp) _).setCell (by simp) _).setCell (by simp) _).setCell (by simp) _).setCell (by simp) _
   ·have e:Lx.one s.data.toList=if Lx.span true s.data.toList>40 then .bad 6 else if Lx.own (s.data.toList.take (Lx.span true s.data.toList)) then .tok 2 (Lx.span true s.data.toList) 0 else .tok 1 (Lx.span true s.data.toList) 0:=by rw [hone,if_neg (by simp [Lx.digit,h1]),if_pos (by simp [Lx.letter,h2])]
    rw [e];have cM:=fun w=>firstName_any s w hs;obtain ⟨a,b,v,d,hf⟩:=gotV_form s (if Lx.span true s.data.toList>40 then .bad 6 else if Lx.own (s.data.toList.take (Lx.span true s.data.toList)) then .tok 2 (Lx.span true s.data.toList) 0 else .tok 1 (Lx.span true s.data.toList) 0);rw [hf] at cM ⊢;have CM:=Lib.hid cM;clear cM hf e hone hd
    go_enter Tryz.func75,Tryz.ntmps75
    go_wp2_with fail
    refine (isDigit_any _ _).mono ?_;rintro e w' ⟨rfl,rfl⟩
    go_wp2_with fail
    refine (isLetter_any _ _).mono ?_;rintro e w' ⟨rfl,rfl⟩
    go_wp2_with fail
    refine (CM.out _).mono ?_;rintro e w2 ⟨rfl,hb2⟩;obtain ⟨hcs,hfz,hb3⟩:=HF.out a b v d _ _ rfl hb2;obtain ⟨x0,y0⟩:=hcs 0 (by omega);obtain ⟨x1,y1⟩:=hcs 1 (by omega);obtain ⟨x2,y2⟩:=hcs 2 (by omega);obtain ⟨x3,y3⟩:=hcs 3 (by omega);obtain ⟨x4,y4⟩:=hcs 4 (by omega);have f0:=hfz 0;have f1:=hfz 1;have f2:=hfz 2;have f3:=hfz 3;have f4:=hfz 4;clear hcs hfz hb2
    go_wp2
    refine bodyPost_ret (v := .tuple #[.agg #[.int .i64 a,.string b,.int .i64 v,.int .i64 0,.int .i64 0],.int .i64 d]) ?_ rfl ⟨rfl, ?_⟩
    ·simp [results,Tryz.results75,go_sem,y0,y1,y2,y3,y4]
    ·exact ((((hb3.setCell (by simp) _).setCell (by simp) _).setCell (by simp) _).setCell (by simp) _).setCell (by simp) _
  ·have e:Lx.one s.data.toList=if Lx.span false s.data.toList>18 then .bad 6 else .tok 3 (Lx.span false s.data.toList) (Lx.number (s.data.toList.take (Lx.span false s.data.toList))):=by rw [hone,if_pos (by simp [Lx.digit,h1])]
   rw [e];have cM:=fun w=>firstNumber_any s w hs (by rw [hd];exact span_digit_pos c _ h1);obtain ⟨a,b,v,d,hf⟩:=gotV_form s (if Lx.span false s.data.toList>18 then .bad 6 else .tok 3 (Lx.span false s.data.toList) (Lx.number (s.data.toList.take (Lx.span false s.data.toList))));rw [hf] at cM ⊢;have CM:=Lib.hid cM;clear cM hf e hone hd
   go_enter Tryz.func75,Tryz.ntmps75
   go_wp2_with fail
   refine (isDigit_any _ _).mono ?_;rintro e w' ⟨rfl,rfl⟩
   go_wp2_with fail
   refine (CM.out _).mono ?_;rintro e w2 ⟨rfl,hb2⟩;obtain ⟨hcs,hfz,hb3⟩:=HF.out a b v d _ _ rfl hb2;obtain ⟨x0,y0⟩:=hcs 0 (by omega);obtain ⟨x1,y1⟩:=hcs 1 (by omega);obtain ⟨x2,y2⟩:=hcs 2 (by omega);obtain ⟨x3,y3⟩:=hcs 3 (by omega);obtain ⟨x4,y4⟩:=hcs 4 (by omega);have f0:=hfz 0;have f1:=hfz 1;have f2:=hfz 2;have f3:=hfz 3;have f4:=hfz 4;clear hcs hfz hb2
   go_wp2
   refine bodyPost_ret (v := .tuple #[.agg #[.int .i64 a,.string b,.int .i64 v,.int .i64 0,.int .i64 0],.int .i64 d]) ?_ rfl ⟨rfl, ?_⟩
   ·simp [results,Tryz.results75,go_sem,y0,y1,y2,y3,y4]
   ·exact ((((hb3.setCell (by simp) _).setCell (by simp) _).setCell (by simp) _).setCell (by simp) _).setCell (by simp) _
 ·have he:s=⟨#[]⟩:=ext_list (by rw [size_len] at hne;exact List.eq_nil_of_length_eq_zero (by omega));subst he
  show Calls _ _ _ _ fun e w'=>e = .returned (.tuple #[.agg #[.int .i64 0,.string ⟨#[]⟩,.int .i64 0,.int .i64 0,.int .i64 0],.int .i64 0])/\_
  have hem:(⟨#[]⟩:ByteArray).toList=[]:=by rw [toList_eq]
  go_enter Tryz.func75,Tryz.ntmps75
  go_wp2
  exact bodyPost_ret (v := .tuple #[.agg #[.int .i64 0,.string ⟨#[]⟩,.int .i64 0,.int .i64 0,.int .i64 0],.int .i64 0]) (by simp [results,Tryz.results75,go_sem]) rfl ⟨rfl,HBL.out _⟩
end
section
open Go.RowKit
structure Later (w:World) where
 wx:World
 le:Below w.heap.size w wx
instance {w:World} : Nonempty (Later w):=⟨⟨w,Below.refl _ _⟩⟩
theorem Later.cell {w:World}{a:Addr}{v:Value}(h:w.cell? a=some v)(x:Later w):x.wx.cell? a=some v:=by
 rw [x.le.cell (World.block_lt_of_cell? _ _ h)];exact h
theorem wp_region_later {P:Program}{id:Nat}{Q:Exit->Act->World->Prop}{a:Act}{w:World}{l:List Oper}(hm:P.follows .mixedOrders=true)(hB:Region.lexB .any l.toArray=true)
  (h:wpQuiet P l.toArray (fun w'=>∃ x:Later w,w'=x.wx) (fun a'=>∀ w',(∃ x:Later w,w'=x.wx)->Q .normal a' w') l a):(Code.region id l.toArray true).wp P Q a w :=
 wp_region_quiet (C:=fun w'=>∃ x:Later w,w'=x.wx) hm hB ⟨⟨w.drew,(Below.refl _ _).drew⟩,rfl⟩ (by simpa using h)
theorem calls_later {P:Program}{f:FuncId}{args:Array Value}{w:World}{x:Later w}{v:Value}
  (h:Calls P f args x.wx fun e w'=>e = .returned v/\Below x.wx.heap.size x.wx w'):Calls P f args x.wx fun e w''=>e = .returned v/\∃ y:Later w,w''=y.wx :=
 h.mono fun _ _ ⟨he,hb⟩=>⟨he,⟨_,x.le.trans (hb.mono x.le.size)⟩,rfl⟩
end
section
open Go.RowKit
section
variable {P:Program} {ops:Array Oper} {md:Region.Mode} {C:World->Prop}
def Ahead (P:Program)(md:Region.Mode)(ops:Array Oper)(C:World->Prop)(n:Nat)(L:Array Bool->Act->Prop):Nat->Array Bool->Act->Prop
 | 0,s,a=>L s a
 | k+1,s,a=>Region.ready md ops s≠[]/\∀ i∈Region.ready md ops s,i<n/\qOp P ops C i (Ahead P md ops C n L k (s.setIfInBounds i true)) a
theorem Ahead.any {n g:Nat}{L:Array Bool->Act->Prop}{Q:Exit->Act->World->Prop}(hL:∀ s a w,C w->L s a->wpAny P md ops Q g s a w)(k:Nat):
  ∀ (s:Array Bool) (a:Act) (w:World),C w->Ahead P md ops C n L k s a->wpAny P md ops Q (k+g) s a w:=by
 induction k with
 | zero=>intro s a w hw h;rw [Nat.zero_add];exact hL s a w hw h
 | succ k ih =>
  intro s a w hw h;rw [show k+1+g=(k+g)+1 by omega];exact ⟨fun e=>absurd e h.1,fun i hi=>wpOp_of_qOp hw (fun a' w' hw' h'=>ih _ a' w' hw' h') (h.2 i hi).2⟩
theorem Ahead.first {n i:Nat}{oi:Oper}{v:Value}{L:Array Bool->Act->Prop}(hi:ops[i]? = some oi)(hsel:∀ (j:Nat) (o:Oper) cs b,ops[j]? = some o->o.op ≠ .select cs b)
  (hs:Region.sinkB md ops n=true) (hc:Region.chainB md ops n=true) (hn:n<ops.size) (hin:i<n) (hdone:∀ s a,L s a->∀ j∈Region.ready md ops s,n<=j) (k:Nat):
  ∀ (s:Array Bool) (a:Act),HeadInv md ops n s ->
   (∀ j oj,ops[j]? = some oj->j≠i->s.getD j true=false->(∀ e∈oj.after,Region.binds md e=true->e.on≠i)->oi.apart ops oj=true) ->
   i∈Region.ready md ops s->YieldsIn P ops C oi v a->Ahead P md ops C n L k (s.setIfInBounds i true) (a.put oi.dst v)->Ahead P md ops C n L (k+1) s a:=by
 induction k with
 | zero =>
  intro s a inv _ hr hy H;refine ⟨List.ne_nil_of_mem hr,fun j hj=>?_⟩;have hjn:j<n:=Nat.lt_of_not_le fun h=>tail_waits hs hc hn inv _ i rfl hin (mem_ready.1 hr).1 j h hj;refine ⟨hjn, ?_⟩
  by_cases e:j=i
  ·subst e;exact hy.qOp hi H
  ·have:=hdone _ _ H j (ready_mono hj e);omega
 | succ k ih =>
  intro s a inv hfree hr hy H;refine ⟨List.ne_nil_of_mem hr,fun j hj=>?_⟩;have hjn:j<n:=Nat.lt_of_not_le fun h=>tail_waits hs hc hn inv _ i rfl hin (mem_ready.1 hr).1 j h hj;refine ⟨hjn, ?_⟩
  by_cases e:j=i
  ·subst e;exact hy.qOp hi H
  ·obtain ⟨hjun,oj,hoj,hall⟩:=mem_ready.1 hj;have hap:=hfree j oj hoj e hjun fun x hx hb he=>by
    have h1:=hall x hx hb;rw [he,getD_both (mem_ready.1 hr).1] at h1
    cases h1
   have h2:=qOp_put hoj hap (fun cs b=>hsel i oi cs b hi) (fun cs b=>hsel j oj cs b hoj) hy (H.2 j (ready_mono hj e)).2;refine qOp_mono (fun a' h3=>ih (s.setIfInBounds j true) a' (inv.set hj hjn) ?_ (ready_mono hr (Ne.symm e)) h3.1 ?_) h2
   ·intro q oq hq hqi hun hno;refine hfree q oq hq hqi ?_ hno
    by_cases h:j=q
    ·subst h;exact hjun
    ·rw [getD_set_ne true h] at hun;exact hun
   ·rw [Array.setIfInBounds_comm _ _ e];exact h3.2
end
end
section
open Go.RowKit
def Keeps (w w':World):Prop:=(∀ p:Addr,(w.cell? p).isSome=true->w'.cell? p=w.cell? p)/\(∀ p:Addr,(w.cell? p).isSome=true->w'.frozen? p=w.frozen? p)
theorem below_keeps {w w':World}(h:Below w.heap.size w w'):Keeps w w':=by
 have lt:∀ p:Addr,(w.cell? p).isSome=true->p.block<w.heap.size:=fun p hp=>by
  obtain ⟨v,hv⟩:=Option.isSome_iff_exists.1 hp;exact World.block_lt_of_cell? _ _ hv
 exact ⟨fun p hp=>h.cell (lt p hp),fun p hp=>h.frozen (lt p hp)⟩
theorem set_two (w:World)(B:Nat)(u v x y:Value)(h0:w.cell? ⟨B,0,none⟩=some x)(h1:w.cell? ⟨B,1,none⟩=some y):
  ((w.setCell ⟨B,0,none⟩ u).setCell ⟨B,1,none⟩ v).cell? ⟨B,0,none⟩=some u/\((w.setCell ⟨B,0,none⟩ u).setCell ⟨B,1,none⟩ v).cell? ⟨B,1,none⟩=some v:=by
 refine ⟨?_,World.cell?_setCell_same _ _ _ (by rw [World.cell?_setCell_other _ _ _ _ (by simp)];exact h1)⟩;rw [World.cell?_setCell_other _ _ _ _ (by simp)];exact World.cell?_setCell_same _ _ _ h0
theorem keep_drew {w w':World}(h:∀ p:Addr,(w.drew.cell? p).isSome=true->w'.cell? p=w.drew.cell? p){a:Addr}{v:Value}(hc:w.cell? a=some v):w'.cell? a=some v:=by
 have e:w.drew.cell? a=w.cell? a:=rfl;rw [h a (by rw [e,hc];rfl),e,hc]
structure Near (B:Nat)(w w':World):Prop where
 os:w'.os=w.os
 tape:w'.tape=w.tape
 output:w'.output=w.output
 size:w.heap.size<=w'.heap.size
 block:∀ k,k<w.heap.size->k≠B->w'.heap[k]? = w.heap[k]?
theorem Near.refl (B:Nat)(w:World):Near B w w:=⟨rfl,rfl,rfl,Nat.le_refl _,fun _ _ _=>rfl⟩
theorem Near.drew {B:Nat}{a w:World}(h:Near B a w):Near B a w.drew:=⟨h.os,h.tape,h.output,h.size,h.block⟩
theorem Near.below {B:Nat}{a w w':World}(h:Near B a w)(k:Below w.heap.size w w'):Near B a w' :=
 ⟨k.os.trans h.os,k.tape.trans h.tape,k.output.trans h.output,Nat.le_trans h.size k.size,fun i hi hne=>(k.block i (Nat.lt_of_lt_of_le hi h.size)).trans (h.block i hi hne)⟩
theorem Near.setCell {B:Nat}{a w:World}(h:Near B a w)(i:Nat)(v:Value):Near B a (w.setCell ⟨B,i,none⟩ v) :=
 ⟨h.os,h.tape,h.output,by have:=h.size;simpa using this,fun k hk hne=>(Below.heap_setCell _ _ _ _ (by simpa using hne)).trans (h.block k hk hne)⟩
theorem Near.to_below {B B':Nat}{w w':World}(h:Near B w w')(hB:B'<=B)(hs:B'<=w.heap.size):Below B' w w' :=
 ⟨h.os,h.tape,h.output,h.size,fun k hk=>h.block k (by omega) (by omega)⟩
theorem Near.cell {B:Nat}{w w':World}(h:Near B w w'){b i:Nat}(hb:b<w.heap.size)(hne:b≠B):w'.cell? ⟨b,i,none⟩=w.cell? ⟨b,i,none⟩:=World.cell?_of_block (h.block b hb hne)
theorem Near.frozen {B:Nat}{w w':World}(h:Near B w w'){b i:Nat}(hb:b<w.heap.size)(hne:b≠B):w'.frozen? ⟨b,i,none⟩=w.frozen? ⟨b,i,none⟩:=World.frozen?_of_block (h.block b hb hne)
theorem Near.own {B:Nat}{w w':World}(h:Near B w w'){base:Nat}{e:TypeId}{size:Nat}{v:Value}{n:Nat}{xs:List Value}(ho:w.ownsRow base e size v n xs)(hb:B<base):w'.ownsRow base e size v n xs:=by
 refine ⟨ho.1, ?_⟩
 rcases ho.2 with hn | ⟨g,cap,cur,rfl,hbg,hgg,rest⟩
 ·exact .inl hn
 ·exact .inr ⟨g,cap,cur,rfl,hbg,by rw [h.block g (Array.getElem?_eq_some_iff.1 hgg).1 (by omega)];exact hgg,rest⟩
end
end Go.Proofs.YtdfpkmfeldoamaaGreatDoor
