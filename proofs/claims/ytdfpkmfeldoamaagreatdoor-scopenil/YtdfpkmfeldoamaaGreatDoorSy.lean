/- A part of the proof: The checker in an expression, and in a hole's part. -/
import Derived.Test.YtdfpkmfeldoamaaGreatDoorSw
import Derived.Test.YtdfpkmfeldoamaaGreatDoorTNode
set_option linter.unusedSimpArgs false
set_option linter.unusedVariables false
set_option maxRecDepth 100000
set_option maxHeartbeats 16000000
namespace Go.Proofs.YtdfpkmfeldoamaaGreatDoor
open Go.RowKit Tn Lx
namespace Sp
theorem node_le (e:En)(n:Nd)(s:St):s.l.length<=(node e n s).l.length:=by
 unfold node
 dsimp only
 repeat' split
 all_goals first | exact Nat.le_refl _ | exact wr_le _ _ _ _ | exact Nat.le_trans (wr_le _ _ _ _) (wr_le _ _ _ _)
theorem kid_le {e:En}{rec:Nat->St->St}(hr:∀ k s,s.l.length<=(rec k s).l.length)(n:Nd)(s:St)(j:Nat)(k:Int):s.l.length<=(kid e rec n s j k).l.length:=by
 unfold kid
 dsimp only
 repeat' split
 ·exact hr k.toNat { s with v:=bump s.v n.name.data.toList 1 }
 ·exact hr k.toNat { s with v:=[] }
 ·exact hr k.toNat s
theorem kids_le {e:En}{rec:Nat->St->St}(hr:∀ k s,s.l.length<=(rec k s).l.length)(n:Nd):∀ (l:List Int) (s:St) (j:Nat),s.l.length<=(kids e rec n s j l).l.length
 | [],_,_=>Nat.le_refl _
 | k :: l,s,j=>Nat.le_trans (kid_le hr n s j k) (kids_le hr n l _ (j+1))
theorem expr_le (e:En)(ns:List Nd):∀ (f i:Nat) (s:St),s.l.length<=(expr e ns f i s).l.length
 | 0,_,_=>Nat.le_refl _
 | f+1,i,s=>Nat.le_trans (node_le e (nd ns i) s) (kids_le (expr_le e ns f) (nd ns i) _ _ 0)
theorem kids_append (e:En)(rec:Nat->St->St)(n:Nd):∀ (a b:List Int) (s:St) (j:Nat),kids e rec n s j (a++b)=kids e rec n (kids e rec n s j a) (j+a.length) b
 | [],b,s,j=>rfl
 | k :: a,b,s,j=>by
  show kids e rec n (kid e rec n s j k) (j+1) (a++b)=_
  rw [kids_append e rec n a b,List.length_cons,show j+1+a.length=j+(a.length+1) by omega];rfl
theorem kids_take_le {e:En}{rec:Nat->St->St}(hr:∀ k s,s.l.length<=(rec k s).l.length)(n:Nd)(s:St)(l:List Int)(j:Nat):(kids e rec n s 0 (l.take j)).l.length<=(kids e rec n s 0 l).l.length:=by
 have h:=kids_append e rec n (l.take j) (l.drop j) s 0;rw [List.take_append_drop] at h;rw [h];exact kids_le hr n _ _ _
end Sp
section
variable {N c q p kh kv:Nat} {r1:Value} {l1:List Sp.Fd} {Km:Nat->Nat} {e:Sp.En} {s:Sp.St} {w0 w w':World}
theorem Xm.fresh (h:Xm N c q p r1 l1 Km kh kv e s w0 w)(hN:N<=w.heap.size):
  Xm N c q p r1 l1 Km kh w.heap.size e { s with v:=[] } w0 ((w.alloc (.map #[] 0)).setCell ⟨c,11,none⟩ (.map (some w.heap.size)))/\But (fun k=>k=c) w ((w.alloc (.map #[] 0)).setCell ⟨c,11,none⟩ (.map (some w.heap.size))):=by
 obtain ⟨W,hW⟩:∃ W,w.alloc (.map #[] 0)=W:=⟨_,rfl⟩;have hbW:Below w.heap.size w W:=by rw [<- hW];exact (Below.refl _ w).alloc (Nat.le_refl _) _
 have hm:MpAt W w.heap.size []:=by rw [<- hW];exact mp_new w
 have hX:=h.below hbW hN;have hS:But (fun k=>k=c) W (W.setCell ⟨c,11,none⟩ (.map (some w.heap.size))):=But.setCell (p:=fun k=>k=c) W rfl 11 _;obtain ⟨r2,hc⟩:=hX.cs;rw [hW];have no:∀ {k:Nat} {m:Sp.Mp},MpAt W k m->¬ k=c:=fun hk e1=>mp_no hk (e1 ▸ hc.blk);have nr:∀ {r:Value} {l:List Sp.Fd},W.ownsRow N 228 5 r l.length (fdsCells l)->∀ k,r.ownBlock=some k->¬ k=c:=fun ho k hk e1=>own_none ho hc.blk (by decide) (e1 ▸ hk);refine ⟨⟨⟨r2, ?_,hS.own hc.o1 (nr hc.o1),hS.own hc.o2 (nr hc.o2),hc.ap,hc.bel.trans (hS.below (Nat.le_trans hN hbW.size) (fun k e1=>by have:=hc.cN;omega)),hc.cN⟩,hX.en.but hS (fun i hi=>?_),hX.h.but hS (no hX.h),hm.but hS (no hm),h.nh,fun i hi e1=>?_,fun e1=>?_,⟨h.kN.1,hN⟩⟩,(But.of_below hbW).trans hS⟩
 ·have:=blk_set hc.blk 11 (.map (some w.heap.size));rw [ckF_up (by decide)] at this;exact this
 ·obtain ⟨m,hk⟩:=hX.en.map hi;exact no hk
 ·obtain ⟨m,hk⟩:=h.en.map hi;have:=hk.lt;omega
 ·have:=h.h.lt;omega
theorem Xm.back {v:Sp.Mp}{k2:Nat}(h:Xm N c q p r1 l1 Km kh k2 e s w0 w)(hN:N<=w.heap.size)(hv:MpAt w kv v)(nv:∀ i,4<=i/\i<=9->Km i≠kv)(hkv:kh≠kv)(kN:N<=kv):
  Xm N c q p r1 l1 Km kh kv e { s with v:=v } w0 (w.setCell ⟨c,11,none⟩ (.map (some kv)))/\But (fun k=>k=c) w (w.setCell ⟨c,11,none⟩ (.map (some kv))):=by
 have hS:But (fun k=>k=c) w (w.setCell ⟨c,11,none⟩ (.map (some kv))):=But.setCell (p:=fun k=>k=c) w rfl 11 _;obtain ⟨r2,hc⟩:=h.cs;have no:∀ {k:Nat} {m:Sp.Mp},MpAt w k m->¬ k=c:=fun hk e1=>mp_no hk (e1 ▸ hc.blk);have nr:∀ {r:Value} {l:List Sp.Fd},w.ownsRow N 228 5 r l.length (fdsCells l)->∀ k,r.ownBlock=some k->¬ k=c:=fun ho k hk e1=>own_none ho hc.blk (by decide) (e1 ▸ hk);refine ⟨⟨⟨r2, ?_,hS.own hc.o1 (nr hc.o1),hS.own hc.o2 (nr hc.o2),hc.ap,hc.bel.trans (hS.below hN (fun k e1=>by have:=hc.cN;omega)),hc.cN⟩,h.en.but hS (fun i hi=>?_),h.h.but hS (no h.h),hv.but hS (no hv),h.nh,nv,hkv,⟨h.kN.1,kN⟩⟩,hS⟩
 ·have:=blk_set hc.blk 11 (.map (some kv));rw [ckF_up (by decide)] at this;exact this
 ·obtain ⟨m,hk⟩:=h.en.map hi;exact no hk
end
theorem foreign_any {N c q p kh kv:Nat}{r1:Value}{l1:List Sp.Fd}{Km:Nat->Nat}{e:Sp.En}{s:Sp.St}{w0 w:World}(h:Xm N c q p r1 l1 Km kh kv e s w0 w)(hN:N<=w.heap.size)(k:Int)(s':Sp.St)
  (hE:∀ (k2:Nat) (W:World),Xm N c q p r1 l1 Km kh k2 e { s with v:=[] } w0 W->N<=W.heap.size->Calls Tryz.prog 109 #[.pointer (some ⟨c,0,none⟩),.int .i64 k] W (XmP N c q p r1 l1 Km kh k2 e s' w0 W)):
  Calls Tryz.prog 149 #[.pointer (some ⟨c,0,none⟩),.int .i64 k] w (XmP N c q p r1 l1 Km kh kv e { s' with v:=s.v } w0 w):=by
 have c11:=h.c11;obtain ⟨r2,hc⟩:=h.cs;have hlc:=lt_of_heap hc.blk;have f11:w.frozen? ⟨c,11,none⟩=false:=blk_frozen hc.blk 11;have c11':∀ o,(w.alloc o).cell? ⟨c,11,none⟩=some (.map (some kv)):=fun o=>(World.cell?_alloc_lt w o _ (World.block_lt_of_cell? _ _ c11)).trans c11;have f11':∀ o,(w.alloc o).frozen? ⟨c,11,none⟩=false:=fun o=>blk_frozen (blk_alloc hc.blk o) 11;have hmk:=va_make w;obtain ⟨hF,hB⟩:=h.fresh hN;obtain ⟨X,hX⟩:∃ X,(w.alloc (.map #[] 0)).setCell ⟨c,11,none⟩ (.map (some w.heap.size))=X:=⟨_,rfl⟩;rw [hX] at hF hB;have HX:=Lib.hid hX;have HF:=Lib.hid hF;have HB:=Lib.hid hB;have HE:=Lib.hid (hE _ X hF (Nat.le_trans hN hB.size));have HH:=Lib.hid h;have HC:=Lib.hid hc;clear hX hF hB hE h hc hlc
 go_enter Tryz.func149,Tryz.ntmps149
 go_upto_region 2 with fail
 rw [HX.out]
 go_wp2_with fail
 refine HE.out.mono ?_;rintro en w1 ⟨rfl,hX1,hB1⟩;have hN1:N<=w1.heap.size:=Nat.le_trans (Nat.le_trans hN HB.out.size) hB1.size;have d1:=hX1.c11;obtain ⟨r2',hc1⟩:=hX1.cs;have g1:w1.frozen? ⟨c,11,none⟩=false:=blk_frozen hc1.blk 11;have hv0:=HH.out.v;have hvX:MpAt X kv s.v:=hv0.but HB.out (fun e1=>mp_no hv0 (by rw [e1];exact HC.out.blk));have hv1:MpAt w1 kv s.v:=hvX.but hB1 (by
  rintro (e1 | e1 | e1 | ⟨_,cs,fr,e1⟩)
  ·exact mp_no hv0 (by rw [e1];exact HC.out.blk)
  ·exact HH.out.hv e1.symm
  ·have:=hv0.lt;omega
  ·exact mp_no hvX e1)
 obtain ⟨hX2,hB2⟩:=hX1.back hN1 hv1 HH.out.nv HH.out.hv HH.out.kN.2;have hB3:But (FrX N c kh kv w) w (w1.setCell ⟨c,11,none⟩ (.map (some kv))):=by
  have a1:But (FrX N c kh kv w) w X:=HB.out.mono fun k _ e1 => .inl e1;have a2:But (FrX N c kh kv w) w w1:=⟨hB1.os.trans a1.os,hB1.tape.trans a1.tape,hB1.output.trans a1.output,Nat.le_trans a1.size hB1.size,fun j hj hn=>by
   have e0:=a1.block j hj hn;refine (hB1.block j (Nat.lt_of_lt_of_le hj a1.size) ?_).trans e0;rintro (e1 | e1 | e1 | ⟨e1,cs,fr,e2⟩)
   ·exact hn (.inl e1)
   ·exact hn (.inr (.inl e1))
   ·omega
   ·exact hn (.inr (.inr (.inr ⟨e1,cs,fr,e0 ▸ e2⟩)))⟩
  exact a2.more hB2 fun j _ e1 => .inl e1
 have HX2:=Lib.hid hX2;have HB3:=Lib.hid hB3;clear hX1 hB1 hN1 hc1 hv0 hvX hv1 hX2 hB2 hB3
 go_wp2
 refine bodyPost_ret (results_none rfl _ _ _) rfl ?_;exact ⟨rfl,HX2.out,HB3.out⟩
structure L6 (N c q p:Nat)(r1:Value)(l1:List Sp.Fd)(Km:Nat->Nat)(kh kv:Nat)(e:Sp.En)(n:Nd)(ka:Option Addr)(kc bx base:Nat)(st:Sp.St)(w0 w wr:World):Prop where
 x:Xm N c q p r1 l1 Km kh kv e st w0 wr
 b:But (FrX N c kh kv w) w wr
 box:wr.heap[bx]? = some (.cells #[.string n.op,.int .i64 n.line,.int .i64 n.col,.string n.name,.int .i64 n.num,.slice ka n.kids.length kc] 165 (0,0))
 kid:wr.ownsRow base 3 1 (.slice ka n.kids.length kc) n.kids.length (ints n.kids)
theorem L6.step {N c q p kh kv kc bx base:Nat}{r1:Value}{l1:List Sp.Fd}{Km:Nat->Nat}{e:Sp.En}{n:Nd}{ka:Option Addr}{st st':Sp.St}{w0 w wr wr':World}(h:L6 N c q p r1 l1 Km kh kv e n ka kc bx base st w0 w wr)(hX:Xm N c q p r1 l1 Km kh kv e st' w0 wr')(hB:But (FrX N c kh kv wr) wr wr'):L6 N c q p r1 l1 Km kh kv e n ka kc bx base st' w0 w wr' :=
 ⟨hX,FrX.trans h.b hB,h.x.keep hB h.box ⟨by decide,by decide⟩,h.x.row hB h.kid ⟨by decide,by decide⟩⟩
theorem cexpr_any {N c q p kh bt cap:Nat}{ao:Option Addr}{ns:List Nd}{r1:Value}{l1:List Sp.Fd}{Km:Nat->Nat}{e:Sp.En}{w0:World}(hF:∀ W,Below N w0 W->FnsAt N p e.few W)(hR:∀ t,Sp.has e.fun_ t=true->∃ (i m:Nat),Sp.val e.fun_ t=(i:Int)/\e.few[i]? = some m)(hT:∀ W,Below N w0 W->TreeAt N W bt ao cap ns/\W.cell? ⟨p,0,none⟩=some (.pointer (some ⟨bt,0,none⟩)))(hw:WF ns)(hf:∀ i,i<ns.length->(nd ns i).kids.length<=4000):
  ∀ (f i:Nat),i<f->i<ns.length->∀ (kv:Nat) (s:Sp.St) (w:World),Xm N c q p r1 l1 Km kh kv e s w0 w->N<=w.heap.size->(Sp.expr e ns f i s).l.length<=1000000000 ->
  Calls Tryz.prog 109 #[.pointer (some ⟨c,0,none⟩),.int .i64 (i:Int)] w (XmP N c q p r1 l1 Km kh kv e (Sp.expr e ns f i s) w0 w):=by
 intro f
 induction f with
 | zero=>intro i hi;omega
 | succ f ih =>
 intro i hif hin kv s w h hN hl;obtain ⟨n,hn⟩:∃ n,nd ns i=n:=⟨_,rfl⟩;have hfk:=hf i hin;have hwk:=hw i hin;obtain ⟨htr,hp0⟩:=hT w h.bel;have hG:=get_yes N bt ao cap ns i w htr hN hin (by omega);have hrl:∀ k s,s.l.length<=(Sp.expr e ns f k s).l.length:=Sp.expr_le e ns f;rw [Sp.expr,hn] at hl;rw [Sp.expr];rw [hn] at hG hfk hwk ⊢;have hl1:=Nat.le_trans (Sp.kids_le (e:=e) hrl n n.kids (Sp.node e n s) 0) hl;have c1:=h.c1;have HN':=Lib.hid (fun (X:World) (ka:Option Addr) (kc:Nat) (hb:Below w.heap.size w X)=>(cnode_any (h.below hb hN) n ka kc (Nat.le_trans hN hb.size) hF hR hl1));generalize Sp.node e n s=s1 at *;have HI:=Lib.hid ih;have HL:=Lib.hid hl;have HG:=Lib.hid hG;have HWK:=Lib.hid hwk;have HRL:=Lib.hid hrl;have HH:=Lib.hid h;clear ih hl hG hwk hrl htr hT hw hf hF hR h hl1 hn;unfold GetP at HG
 go_enter Tryz.func109,Tryz.ntmps109
 go_wp2_with fail
 refine HG.out.mono ?_;rintro en w1 ⟨ka,kc,rfl,hk1,hb1⟩;unfold nval;obtain ⟨X,hX⟩:∃ X,w1.alloc (.cells #[.string n.op,.int .i64 n.line,.int .i64 n.col,.string n.name,.int .i64 n.num,.slice ka n.kids.length kc] 165)=X:=⟨_,rfl⟩;have hbX:Below w1.heap.size w1 X:=by rw [<- hX];exact (Below.refl _ w1).alloc (Nat.le_refl _) _
 have hkX:X.heap[w1.heap.size]? = some (.cells #[.string n.op,.int .i64 n.line,.int .i64 n.col,.string n.name,.int .i64 n.num,.slice ka n.kids.length kc] 165 (0,0)):=by rw [<- hX];exact blk_new w1 _
 have hbw:Below w.heap.size w X:=hb1.trans (hbX.mono hb1.size);have hkk:=own_below hk1 hbX;have hXX:=HH.out.below hbw hN;have hNX:=Nat.le_trans hN hbw.size;have hnd:=HN'.out X ka kc hbw;unfold nodeV at hnd;obtain ⟨z0,z1,z2,z3,z4,z5⟩:=six_S hkX;have HX:=Lib.hid hX;have HKX:=Lib.hid hkX;have HKK:=Lib.hid hkk;have HND:=Lib.hid hnd;have HBW:=Lib.hid (show But (FrX N c kh kv w) w X from But.of_below hbw);have HXX:=Lib.hid hXX;clear hX hkX hkk hnd hbw hbX hk1 hb1 HN' HG HH hXX
 go_upto_region 1 with fail
 rw [HX.out]
 go_wp2_with fail
 refine HND.out.mono ?_;rintro en w2 ⟨rfl,hX2,hB2⟩;have hN2:=Nat.le_trans hNX hB2.size;have hk2:=HXX.out.keep hB2 HKX.out ⟨by decide,by decide⟩;have hr2:=HXX.out.row hB2 HKK.out ⟨by decide,by decide⟩;have hL0:L6 N c q p r1 l1 Km kh kv e n ka kc w1.heap.size w.heap.size (Sp.kids e (Sp.expr e ns f) n s1 0 (n.kids.take 0)) w0 w w2:=⟨hX2,FrX.trans HBW.out hB2,hk2,hr2⟩;obtain ⟨ua,uc,hsl,hua⟩:=own_form5 hr2
 injection hsl with e1 e2 e3
 subst e1 e3;clear e2;obtain ⟨y0,y1,y2,y3,y4,y5⟩:=six_S hk2;have HL0:=Lib.hid hL0;have HUA:=Lib.hid hua;clear hX2 hB2 hk2 hr2 hL0 HXX HKX HKK HND HBW z0 z1 z2 z3 z4 z5 hua HX;obtain ⟨len,hlen⟩:∃ len,n.kids.length=len:=⟨_,rfl⟩;have HLEN:=Lib.hid hlen;rw [hlen] at y5 hfk;clear hlen
 go_wp2_with fail
 go_loopw [26] (fun v wr=>∃ j:Nat,j<=len/\v = .int .i64 (j:Int)/\L6 N c q p r1 l1 Km kh kv e n ka kc w1.heap.size w.heap.size (Sp.kids e (Sp.expr e ns f) n s1 0 (n.kids.take j)) w0 w wr) (fun v _=>len-(intOf v).toNat)
 case atStart=>exact ⟨0,Nat.zero_le _,rfl,HL0.out⟩
 case round =>
  clear y0 y1 y2 y3 y4 y5;obtain ⟨j,hj,rfl,hs⟩:=hrel
  by_cases hlt:j<len
  ·have hjk:j<n.kids.length:=by rw [HLEN.out];exact hlt
   obtain ⟨hk0,hki⟩:=HWK.out _ (Tn.kid_mem hjk);have hkc:=hs.kid;obtain ⟨g,rfl⟩:=HUA.out (by omega);have hcell:=own_cell hkc (ints_get hjk);obtain ⟨k,hk⟩:∃ k:Nat,Tn.kid n.kids j=(k:Int):=⟨(Tn.kid n.kids j).toNat,by omega⟩;have hkm:n.kids[j]? = some (k:Int):=by
    have:=ints_get hjk;rw [List.getElem?_eq_getElem hjk,<- hk];simp [Tn.kid,hjk]
   rw [hk] at hcell hki;have htk:=take_next5 hkm;have hst:=Sp.kids_snoc e (Sp.expr e ns f) n (k:Int) (n.kids.take j) s1 0;rw [<- htk,List.length_take,Nat.min_eq_left (by omega),Nat.zero_add] at hst;have hle:=Nat.le_trans (Sp.kids_take_le (e:=e) HRL.out n s1 n.kids (j+1)) HL.out;obtain ⟨st2,hst2⟩:∃ x,Sp.kids e (Sp.expr e ns f) n s1 0 (n.kids.take (j+1))=x:=⟨_,rfl⟩;rw [hst2] at hst hle;have HS2:=Lib.hid hst2;clear hst2;generalize Sp.kids e (Sp.expr e ns f) n s1 0 (n.kids.take j)=st at *;have hmt:=hs.x;have hNr:N<=wr.heap.size:=Nat.le_trans hN hs.b.size;have hms:len-(intOf (Value.int IntKind.i64 ((j:Int)+1))).toNat<len-(intOf (Value.int IntKind.i64 (j:Int))).toNat:=by simp [intOf];omega
   obtain ⟨y0,y1,y2,y3,y4,y5⟩:=six_S (n:=n) (u := .slice (some ⟨g,0,none⟩) n.kids.length kc) hs.box;have hkf:k<f:=by omega
   have hkn:k<ns.length:=by omega
   have HMS:=Lib.hid hms;have HS:=Lib.hid hs;have HBX:=Lib.hid hs.box;clear hms hs hkc hk0 hki hk hkm htk hmt;rw [Sp.kid] at hst
   by_cases hlet:n.op=Sp.oLet
   ·have b0:(n.op.toList==[108,101,116])=true:=is_op hlet
    by_cases hj1:j=1
    ·subst hj1;rw [if_pos ⟨hlet,rfl⟩] at hst;clear hlet;rw [Int.toNat_natCast] at hst;have hda:Below wr.heap.size wr wr.drew:=(Below.refl _ wr).drew;have hYa:=(HS.out.x).below hda hNr;have lk:(Instr.lookup 142 (.map (some kv)) (.string n.name) false).run Tryz.prog wr.drew = .ok (.int .i64 (Sp.val st.v n.name.data.toList)) wr.drew:=va_look (t:=n.name.data.toList) hYa.v;have up:(Instr.mapUpdate 142 (.map (some kv)) (.string n.name) (.int .i64 (IntKind.i64.wrap (Sp.val st.v n.name.data.toList+1)))).run Tryz.prog wr.drew = .ok () { wr.drew with heap:=wr.drew.heap.setIfInBounds kv (.map (ents 0 (Sp.put st.v n.name.data.toList (IntKind.i64.wrap (Sp.val st.v n.name.data.toList+1)))).toArray (Sp.put st.v n.name.data.toList (IntKind.i64.wrap (Sp.val st.v n.name.data.toList+1))).length) } := va_put (t:=n.name.data.toList) hYa.v _;obtain ⟨hZa,hCa⟩:=hYa.putv (show N<=wr.drew.heap.size from hNr) (Sp.put st.v n.name.data.toList (IntKind.i64.wrap (Sp.val st.v n.name.data.toList+1)));have HSC:=Lib.hid (show (fun W=>W.cell? ⟨c,11,none⟩=some (.map (some kv))/\Six6 n (.slice (some ⟨g,0,none⟩) n.kids.length kc) w1.heap.size W) wr.drew from ⟨hYa.c11,six_S (n:=n) (show wr.drew.heap[w1.heap.size]? = _ from HBX.out)⟩);have hkb:=hYa.keep hCa (show wr.drew.heap[w1.heap.size]? = _ from HBX.out) ⟨by decide,by decide⟩;have HS4:=Lib.hid (show (fun W=>W.cell? ⟨c,11,none⟩=some (.map (some kv))/\Six6 n (.slice (some ⟨g,0,none⟩) n.kids.length kc) w1.heap.size W) _ from ⟨hZa.c11,six_S (n:=n) hkb⟩);have HLK:=Lib.hid lk;have hDa:=FrX.trans (show But (FrX N c kh kv wr) wr wr.drew from But.of_below hda) hCa;obtain ⟨x1,hx1⟩:∃ x,{ wr.drew with heap:=wr.drew.heap.setIfInBounds kv (.map (ents 0 (Sp.put st.v n.name.data.toList (IntKind.i64.wrap (Sp.val st.v n.name.data.toList+1)))).toArray (Sp.put st.v n.name.data.toList (IntKind.i64.wrap (Sp.val st.v n.name.data.toList+1))).length) } = x:=⟨_,rfl⟩;rw [hx1] at up hZa hCa hDa hkb HS4;have HUP:=Lib.hid up;have hN4:N<=x1.heap.size:=Nat.le_trans hNr hDa.size;have hsv:({ st with v:=Sp.put st.v n.name.data.toList (IntKind.i64.wrap (Sp.val st.v n.name.data.toList+1)) } : Sp.St)={ st with v:=Sp.bump st.v n.name.data.toList 1 } := rfl;rw [hsv] at hZa;rw [hst] at hle;have hE:=HI.out k hkf hkn kv _ x1 hZa hN4 hle;have HE:=Lib.hid hE;have HST:=Lib.hid hst;have HL1:=Lib.hid (HS.out.step hZa hDa);clear hE hst hle hda hYa lk up hZa hCa hkb hDa hsv hx1
     go_upto_region 7 with fail
     refine wp_region_held_drew (S:=(fun W=>W.cell? ⟨c,11,none⟩=some (.map (some kv))/\Six6 n (.slice (some ⟨g,0,none⟩) n.kids.length kc) w1.heap.size W)) (by kernel_rfl) HSC.out (fun hHeld=>?_);refine wpAnyH_take (i:=0) (oi:={ dst:=some 42,op:=Op.move (Operand.tmp 0),type:=214,pos := "checker.go:88", after:=#[],guard:=none }) (v := .pointer (some ⟨c,0,none⟩)) rfl (by kernel_rfl) (by kernel_rfl) (by kernel_rfl) (fun _ _ _ h=>h) (Or.inl ⟨by rfl,by intro w hSw;(try dsimp only at hSw);go_simp⟩) hHeld ?_
     try simp only [Act.put,List.setIfInBounds_toArray,List.set_cons_zero,List.set_cons_succ]
     refine wpAnyH_take (i:=1) (oi:={ dst:=some 43,op:=Op.nilCheck (Operand.tmp 42),type:=0,pos := "checker.go:88", after:=#[{ on:=0,ground:=Ground.data }],guard:=none }) (v := .pointer (some ⟨c,0,none⟩)) rfl (by kernel_rfl) (by kernel_rfl) (by kernel_rfl) (fun _ _ _ h=>h) (Or.inl ⟨by rfl,by intro w hSw;(try dsimp only at hSw);go_simp⟩) hHeld ?_
     try simp only [Act.put,List.setIfInBounds_toArray,List.set_cons_zero,List.set_cons_succ]
     refine wpAnyH_take (i:=2) (oi:={ dst:=some 44,op:=Op.fieldAddr 147 (Operand.tmp 43) 11,type:=0,pos := "checker.go:88", after:=#[{ on:=1,ground:=Ground.data }],guard:=none }) (v := .pointer (some ⟨c,11,none⟩)) rfl (by kernel_rfl) (by kernel_rfl) (by kernel_rfl) (fun _ _ _ h=>h) (Or.inl ⟨by rfl,by intro w hSw;(try dsimp only at hSw);go_simp⟩) hHeld ?_
     try simp only [Act.put,List.setIfInBounds_toArray,List.set_cons_zero,List.set_cons_succ]
     refine wpAnyH_take (i:=3) (oi:={ dst:=some 45,op:=Op.load 142 (Operand.tmp 44),type:=142,pos := "checker.go:88", after:=#[{ on:=2,ground:=Ground.data }],guard:=none }) (v := .map (some kv)) rfl (by kernel_rfl) (by kernel_rfl) (by kernel_rfl) (fun _ _ _ h=>h) (Or.inl ⟨by rfl,by intro w hSw;(try dsimp only at hSw);go_simp⟩) hHeld ?_
     try simp only [Act.put,List.setIfInBounds_toArray,List.set_cons_zero,List.set_cons_succ]
     refine wpAnyH_take (i:=4) (oi:={ dst:=some 46,op:=Op.fieldAddr 165 (Operand.tmp 4) 2,type:=0,pos := "checker.go:88", after:=#[],guard:=none }) (v := .pointer (some ⟨w1.heap.size,3,none⟩)) rfl (by kernel_rfl) (by kernel_rfl) (by kernel_rfl) (fun _ _ _ h=>h) (Or.inl ⟨by rfl,by intro w hSw;(try dsimp only at hSw);go_simp⟩) hHeld ?_
     try simp only [Act.put,List.setIfInBounds_toArray,List.set_cons_zero,List.set_cons_succ]
     refine wpAnyH_take (i:=5) (oi:={ dst:=some 47,op:=Op.load 9 (Operand.tmp 46),type:=9,pos := "checker.go:88", after:=#[{ on:=4,ground:=Ground.data }],guard:=none }) (v := .string n.name) rfl (by kernel_rfl) (by kernel_rfl) (by kernel_rfl) (fun _ _ _ h=>h) (Or.inl ⟨by rfl,by intro w hSw;(try dsimp only at hSw);go_simp⟩) hHeld ?_
     try simp only [Act.put,List.setIfInBounds_toArray,List.set_cons_zero,List.set_cons_succ]
     refine wpAnyH_ready (rs:=[6]) (by kernel_rfl) (by simp) ?_;refine AllReadyH.cons (o:={ dst:=some 48,op:=Op.lookup 142 (Operand.tmp 45) (Operand.tmp 47) false,type:=3,pos := "checker.go:88", after:=#[{ on:=3,ground:=Ground.data },{ on:=5,ground:=Ground.data }],guard:=none }) rfl (fun K hK=>?_) AllReadyH.nil;have lk:=HLK.out
     go_simp
     refine hK.out _ _ HSC.out (fun hHeld=>?_);clear hK K
     try simp only [Act.put,List.setIfInBounds_toArray,List.set_cons_zero,List.set_cons_succ]
     refine wpAnyH_take (i:=7) (oi:={ dst:=some 49,op:=Op.binOp BinOp.add 3 (Operand.tmp 48) (Operand.const (Value.int IntKind.i64 1)) 3,type:=3,pos := "checker.go:88", after:=#[{ on:=6,ground:=Ground.data }],guard:=none }) (v := .int .i64 (IntKind.i64.wrap (Sp.val st.v n.name.data.toList+1))) rfl (by kernel_rfl) (by kernel_rfl) (by kernel_rfl) (fun _ _ _ h=>h) (Or.inl ⟨by rfl,by intro w hSw;(try dsimp only at hSw);go_simp⟩) hHeld ?_
     try simp only [Act.put,List.setIfInBounds_toArray,List.set_cons_zero,List.set_cons_succ]
     refine wpAnyH_ready (rs:=[8]) (by kernel_rfl) (by simp) ?_;refine AllReadyH.cons (o:={ dst:=none,op:=Op.mapUpdate 142 (Operand.tmp 45) (Operand.tmp 47) (Operand.tmp 49),type:=0,pos := "checker.go:88", after:=#[{ on:=3,ground:=Ground.data },{ on:=5,ground:=Ground.data },{ on:=7,ground:=Ground.data },{ on:=0,ground:=Ground.phase },{ on:=1,ground:=Ground.phase },{ on:=2,ground:=Ground.phase },{ on:=3,ground:=Ground.phase },{ on:=4,ground:=Ground.phase },{ on:=5,ground:=Ground.phase },{ on:=6,ground:=Ground.phase },{ on:=7,ground:=Ground.phase }],guard:=none }) rfl (fun K hK=>?_) AllReadyH.nil;have up:=HUP.out
     go_simp
     refine hK.out _ _ HS4.out (fun hHeld=>?_);clear hK K
     try simp only [Act.put,List.setIfInBounds_toArray,List.set_cons_zero,List.set_cons_succ]
     refine wpAnyH_done (by kernel_rfl) ?_ _;clear hHeld HSC HS4 HUP HLK
     go_wp2_with fail
     refine HE.out.mono ?_;generalize Sp.expr e ns f k { st with v:=Sp.bump st.v n.name.data.toList 1 } = st3 at *;rintro en w3 ⟨rfl,hX3,hB3⟩;have HL3:=Lib.hid (HL1.out.step hX3 hB3);have hN3:N<=w3.heap.size:=Nat.le_trans hN4 hB3.size;have hdb:Below w3.heap.size w3 w3.drew:=(Below.refl _ w3).drew;have hYb:=(hX3).below hdb hN3;have lk:(Instr.lookup 142 (.map (some kv)) (.string n.name) false).run Tryz.prog w3.drew = .ok (.int .i64 (Sp.val st3.v n.name.data.toList)) w3.drew:=va_look (t:=n.name.data.toList) hYb.v;have up:(Instr.mapUpdate 142 (.map (some kv)) (.string n.name) (.int .i64 (IntKind.i64.wrap (Sp.val st3.v n.name.data.toList-1)))).run Tryz.prog w3.drew = .ok () { w3.drew with heap:=w3.drew.heap.setIfInBounds kv (.map (ents 0 (Sp.put st3.v n.name.data.toList (IntKind.i64.wrap (Sp.val st3.v n.name.data.toList-1)))).toArray (Sp.put st3.v n.name.data.toList (IntKind.i64.wrap (Sp.val st3.v n.name.data.toList-1))).length) } := va_put (t:=n.name.data.toList) hYb.v _;obtain ⟨hZb,hCb⟩:=hYb.putv (show N<=w3.drew.heap.size from hN3) (Sp.put st3.v n.name.data.toList (IntKind.i64.wrap (Sp.val st3.v n.name.data.toList-1)));have HSC:=Lib.hid (show (fun W=>W.cell? ⟨c,11,none⟩=some (.map (some kv))/\Six6 n (.slice (some ⟨g,0,none⟩) n.kids.length kc) w1.heap.size W) w3.drew from ⟨hYb.c11,six_S (n:=n) (show w3.drew.heap[w1.heap.size]? = _ from HL3.out.box)⟩);have hkb:=hYb.keep hCb (show w3.drew.heap[w1.heap.size]? = _ from HL3.out.box) ⟨by decide,by decide⟩;have HS4:=Lib.hid (show (fun W=>W.cell? ⟨c,11,none⟩=some (.map (some kv))/\Six6 n (.slice (some ⟨g,0,none⟩) n.kids.length kc) w1.heap.size W) _ from ⟨hZb.c11,six_S (n:=n) hkb⟩);have HLK:=Lib.hid lk;have hDb:=FrX.trans (show But (FrX N c kh kv w3) w3 w3.drew from But.of_below hdb) hCb;obtain ⟨x2,hx2⟩:∃ x,{ w3.drew with heap:=w3.drew.heap.setIfInBounds kv (.map (ents 0 (Sp.put st3.v n.name.data.toList (IntKind.i64.wrap (Sp.val st3.v n.name.data.toList-1)))).toArray (Sp.put st3.v n.name.data.toList (IntKind.i64.wrap (Sp.val st3.v n.name.data.toList-1))).length) } = x:=⟨_,rfl⟩;rw [hx2] at up hZb hCb hDb hkb HS4;have HUP:=Lib.hid up;have HL4:=Lib.hid (HL3.out.step hZb hDb);clear hB3 hX3 hdb hYb lk up hZb hCb hkb hDb hx2
     go_upto_region 9 with fail
     refine wp_region_held_drew (S:=(fun W=>W.cell? ⟨c,11,none⟩=some (.map (some kv))/\Six6 n (.slice (some ⟨g,0,none⟩) n.kids.length kc) w1.heap.size W)) (by kernel_rfl) HSC.out (fun hHeld=>?_);refine wpAnyH_take (i:=0) (oi:={ dst:=some 53,op:=Op.move (Operand.tmp 0),type:=214,pos := "checker.go:90", after:=#[],guard:=none }) (v := .pointer (some ⟨c,0,none⟩)) rfl (by kernel_rfl) (by kernel_rfl) (by kernel_rfl) (fun _ _ _ h=>h) (Or.inl ⟨by rfl,by intro w hSw;(try dsimp only at hSw);go_simp⟩) hHeld ?_
     try simp only [Act.put,List.setIfInBounds_toArray,List.set_cons_zero,List.set_cons_succ]
     refine wpAnyH_take (i:=1) (oi:={ dst:=some 54,op:=Op.nilCheck (Operand.tmp 53),type:=0,pos := "checker.go:90", after:=#[{ on:=0,ground:=Ground.data }],guard:=none }) (v := .pointer (some ⟨c,0,none⟩)) rfl (by kernel_rfl) (by kernel_rfl) (by kernel_rfl) (fun _ _ _ h=>h) (Or.inl ⟨by rfl,by intro w hSw;(try dsimp only at hSw);go_simp⟩) hHeld ?_
     try simp only [Act.put,List.setIfInBounds_toArray,List.set_cons_zero,List.set_cons_succ]
     refine wpAnyH_take (i:=2) (oi:={ dst:=some 55,op:=Op.fieldAddr 147 (Operand.tmp 54) 11,type:=0,pos := "checker.go:90", after:=#[{ on:=1,ground:=Ground.data }],guard:=none }) (v := .pointer (some ⟨c,11,none⟩)) rfl (by kernel_rfl) (by kernel_rfl) (by kernel_rfl) (fun _ _ _ h=>h) (Or.inl ⟨by rfl,by intro w hSw;(try dsimp only at hSw);go_simp⟩) hHeld ?_
     try simp only [Act.put,List.setIfInBounds_toArray,List.set_cons_zero,List.set_cons_succ]
     refine wpAnyH_take (i:=3) (oi:={ dst:=some 56,op:=Op.load 142 (Operand.tmp 55),type:=142,pos := "checker.go:90", after:=#[{ on:=2,ground:=Ground.data }],guard:=none }) (v := .map (some kv)) rfl (by kernel_rfl) (by kernel_rfl) (by kernel_rfl) (fun _ _ _ h=>h) (Or.inl ⟨by rfl,by intro w hSw;(try dsimp only at hSw);go_simp⟩) hHeld ?_
     try simp only [Act.put,List.setIfInBounds_toArray,List.set_cons_zero,List.set_cons_succ]
     refine wpAnyH_take (i:=4) (oi:={ dst:=some 57,op:=Op.fieldAddr 165 (Operand.tmp 4) 2,type:=0,pos := "checker.go:90", after:=#[],guard:=none }) (v := .pointer (some ⟨w1.heap.size,3,none⟩)) rfl (by kernel_rfl) (by kernel_rfl) (by kernel_rfl) (fun _ _ _ h=>h) (Or.inl ⟨by rfl,by intro w hSw;(try dsimp only at hSw);go_simp⟩) hHeld ?_
     try simp only [Act.put,List.setIfInBounds_toArray,List.set_cons_zero,List.set_cons_succ]
     refine wpAnyH_take (i:=5) (oi:={ dst:=some 58,op:=Op.load 9 (Operand.tmp 57),type:=9,pos := "checker.go:90", after:=#[{ on:=4,ground:=Ground.data }],guard:=none }) (v := .string n.name) rfl (by kernel_rfl) (by kernel_rfl) (by kernel_rfl) (fun _ _ _ h=>h) (Or.inl ⟨by rfl,by intro w hSw;(try dsimp only at hSw);go_simp⟩) hHeld ?_
     try simp only [Act.put,List.setIfInBounds_toArray,List.set_cons_zero,List.set_cons_succ]
     refine wpAnyH_ready (rs:=[6]) (by kernel_rfl) (by simp) ?_;refine AllReadyH.cons (o:={ dst:=some 59,op:=Op.lookup 142 (Operand.tmp 56) (Operand.tmp 58) false,type:=3,pos := "checker.go:90", after:=#[{ on:=3,ground:=Ground.data },{ on:=5,ground:=Ground.data }],guard:=none }) rfl (fun K hK=>?_) AllReadyH.nil;have lk:=HLK.out
     go_simp
     refine hK.out _ _ HSC.out (fun hHeld=>?_);clear hK K
     try simp only [Act.put,List.setIfInBounds_toArray,List.set_cons_zero,List.set_cons_succ]
     refine wpAnyH_take (i:=7) (oi:={ dst:=some 60,op:=Op.binOp BinOp.sub 3 (Operand.tmp 59) (Operand.const (Value.int IntKind.i64 1)) 3,type:=3,pos := "checker.go:90", after:=#[{ on:=6,ground:=Ground.data }],guard:=none }) (v := .int .i64 (IntKind.i64.wrap (Sp.val st3.v n.name.data.toList-1))) rfl (by kernel_rfl) (by kernel_rfl) (by kernel_rfl) (fun _ _ _ h=>h) (Or.inl ⟨by rfl,by intro w hSw;(try dsimp only at hSw);go_simp⟩) hHeld ?_
     try simp only [Act.put,List.setIfInBounds_toArray,List.set_cons_zero,List.set_cons_succ]
     refine wpAnyH_ready (rs:=[8]) (by kernel_rfl) (by simp) ?_;refine AllReadyH.cons (o:={ dst:=none,op:=Op.mapUpdate 142 (Operand.tmp 56) (Operand.tmp 58) (Operand.tmp 60),type:=0,pos := "checker.go:90", after:=#[{ on:=3,ground:=Ground.data },{ on:=5,ground:=Ground.data },{ on:=7,ground:=Ground.data },{ on:=0,ground:=Ground.phase },{ on:=1,ground:=Ground.phase },{ on:=2,ground:=Ground.phase },{ on:=3,ground:=Ground.phase },{ on:=4,ground:=Ground.phase },{ on:=5,ground:=Ground.phase },{ on:=6,ground:=Ground.phase },{ on:=7,ground:=Ground.phase }],guard:=none }) rfl (fun K hK=>?_) AllReadyH.nil;have up:=HUP.out
     go_simp
     refine hK.out _ _ HS4.out (fun hHeld=>?_);clear hK K
     try simp only [Act.put,List.setIfInBounds_toArray,List.set_cons_zero,List.set_cons_succ]
     refine wpAnyH_done (by kernel_rfl) ?_ _;clear hHeld HSC HS4 HUP HLK
     go_wp2
     refine ⟨⟨1+1,by omega,by go_num, ?_⟩,HMS.out⟩;rw [HS2.out,HST.out,show Sp.bump st3.v n.name.data.toList (-1)=Sp.put st3.v n.name.data.toList (IntKind.i64.wrap (Sp.val st3.v n.name.data.toList-1)) from by unfold Sp.bump;rw [<- Int.sub_eq_add_neg]];exact HL4.out
    ·have hj2:¬ (j:Int)=1:=by omega
     rw [if_neg (fun x=>hj1 x.2),if_neg (by rw [hlet];decide)] at hst;have b9:(n.op.toList==[104,111,108,101])=false:=no_op (by rw [hlet];decide);clear hlet;rw [Int.toNat_natCast] at hst;rw [hst] at hle;have hE:=HI.out k hkf hkn kv st wr HS.out.x hNr hle;have HE:=Lib.hid hE;have HST:=Lib.hid hst;clear hE hst hle
     go_wp2_with fail
     refine HE.out.mono ?_;rintro en w3 ⟨rfl,hX3,hB3⟩;have HL3:=Lib.hid (HS.out.step hX3 hB3);clear hX3 hB3
     go_wp2
     exact ⟨⟨j+1,by omega,by go_num,by rw [HS2.out,HST.out];exact HL3.out⟩,HMS.out⟩
   ·have b0:(n.op.toList==[108,101,116])=false:=no_op hlet;rw [if_neg (fun x=>hlet x.1)] at hst
    by_cases hhole:n.op=Sp.oHole
    ·have b9:(n.op.toList==[104,111,108,101])=true:=is_op hhole;rw [if_pos hhole] at hst;clear hlet hhole;rw [Int.toNat_natCast] at hst;rw [hst] at hle;have hE:=foreign_any HS.out.x hNr (k:Int) (Sp.expr e ns f k { st with v:=[] }) (fun k2 W hX hNW=>HI.out k hkf hkn k2 _ W hX hNW hle);have HE:=Lib.hid hE;have HST:=Lib.hid hst;clear hE hst hle
     go_wp2_with fail
     refine HE.out.mono ?_;rintro en w3 ⟨rfl,hX3,hB3⟩;have HL3:=Lib.hid (HS.out.step hX3 hB3);clear hX3 hB3
     go_wp2
     exact ⟨⟨j+1,by omega,by go_num,by rw [HS2.out,HST.out];exact HL3.out⟩,HMS.out⟩
    ·have b9:(n.op.toList==[104,111,108,101])=false:=no_op hhole;rw [if_neg hhole] at hst;clear hlet hhole;rw [Int.toNat_natCast] at hst;rw [hst] at hle;have hE:=HI.out k hkf hkn kv st wr HS.out.x hNr hle;have HE:=Lib.hid hE;have HST:=Lib.hid hst;clear hE hst hle
     go_wp2_with fail
     refine HE.out.mono ?_;rintro en w3 ⟨rfl,hX3,hB3⟩;have HL3:=Lib.hid (HS.out.step hX3 hB3);clear hX3 hB3
     go_wp2
     exact ⟨⟨j+1,by omega,by go_num,by rw [HS2.out,HST.out];exact HL3.out⟩,HMS.out⟩
  ·obtain rfl:j=len:=by omega
   have hfin:n.kids.take j=n.kids:=List.take_of_length_le (by rw [HLEN.out];exact Nat.le_refl _);rw [hfin] at hs;have HS:=Lib.hid hs;clear hs
   go_wp2
   refine bodyPost_ret (results_none rfl _ _ _) rfl ?_;exact ⟨rfl,HS.out.x,HS.out.b⟩
end Go.Proofs.YtdfpkmfeldoamaaGreatDoor
