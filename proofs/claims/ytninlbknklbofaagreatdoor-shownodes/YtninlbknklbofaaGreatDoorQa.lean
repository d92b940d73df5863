/- A part of the proof: A part of the proof. -/
import Derived.Test.YtninlbknklbofaaGreatDoorWe
set_option linter.unusedSimpArgs false
set_option linter.unusedVariables false
namespace Go.Proofs.YtninlbknklbofaaGreatDoor
open Go.RowKit Tn Lx
structure QRow (c:Cx)(X:Nat->Prop)(w:World)(v:Value)(ns:List Nd):Prop where
 ex:∃ l,nds l=ns/\w.ownsRow c.B 30 6 v l.length (cells6 l)/\(∀ s∈l,w.ownsRow c.B 3 1 (.slice s.ka s.n.kids.length s.kc) s.n.kids.length (ints s.n.kids))/\Off X v l
theorem QRow.but {c:Cx}{X:Nat->Prop}{w w':World}{v:Value}{ns:List Nd}(h:QRow c X w v ns){q:Nat->Prop}(hb:But q w w')(h4:∀ k,q k->k<c.B\/X k\/∃ cs t fr,w.heap[k]? = some (.cells cs t fr)/\t≠30/\t≠3):QRow c X w' v ns:=by
 obtain ⟨l,e,ho,hk,hx⟩:=h.ex;have no:∀ {t:TypeId} {z:Nat} {v:Value} {n:Nat} {xs:List Value},w.ownsRow c.B t z v n xs->(∀ g,v.ownBlock=some g->¬ X g)->(t=30\/t=3)->∀ g,v.ownBlock=some g->¬ q g:=fun ho hx hne g hg e=>by
  obtain ⟨hB,cur,e1⟩:=own_tag ho hg
  rcases h4 g e with e2 | e2 | ⟨cs,t',fr,e2,e3,e4⟩
  ·omega
  ·exact hx g hg e2
  ·rw [e1] at e2;injection e2 with e2;injection e2 with _ e2
   rcases hne with e5 | e5
   ·exact e3 (e2.symm.trans e5)
   ·exact e4 (e2.symm.trans e5)
 exact ⟨l,e,hb.own ho (no ho hx.1 (.inl rfl)),fun s hs=>hb.own (hk s hs) (no (hk s hs) (hx.2 s hs) (.inr rfl)),hx⟩
theorem QRow.below {c:Cx}{X:Nat->Prop}{w w':World}{v:Value}{ns:List Nd}(h:QRow c X w v ns)(hb:Below w.heap.size w w'):QRow c X w' v ns:=h.but (q:=fun _=>False) (But.of_below hb) (fun _ e=>e.elim)
theorem QRow.less {c:Cx}{X Y:Nat->Prop}{w:World}{v:Value}{ns:List Nd}(h:QRow c Y w v ns)(hX:∀ k,X k->Y k):QRow c X w v ns:=by
 obtain ⟨l,e,ho,hk,hx⟩:=h.ex;exact ⟨l,e,ho,hk,fun g hg e=>hx.1 g hg (hX g e),fun q hq g hg e=>hx.2 q hq g hg (hX g e)⟩
theorem QRow.grown {c:Cx}{X:Nat->Prop}{w w':World}{v:Value}{ns:List Nd}(h:QRow c X w v ns){q:Nat->Prop}(hb:But q w w')(h4:∀ k,q k->X k)(Y:Nat->Prop)(hY:∀ k,Y k->X k\/(w.heap.size<=k/\k<w'.heap.size)):QRow c Y w' v ns:=by
 have h':=h.but hb (fun k hk => .inr (.inl (h4 k hk)));obtain ⟨l,e,ho,hk,hx⟩:=h.ex;have no:∀ {t:TypeId} {z:Nat} {v:Value} {n:Nat} {xs:List Value},w.ownsRow c.B t z v n xs->(∀ g,v.ownBlock=some g->¬ X g)->∀ g,v.ownBlock=some g->¬ Y g:=fun ho hx g hg e=>by
  obtain ⟨_,cur,e1⟩:=own_tag ho hg;have:=lt_of_heap e1
  rcases hY g e with e2 | e2
  ·exact hx g hg e2
  ·omega
 have own:∀ {t:TypeId} {z:Nat} {v:Value} {n:Nat} {xs:List Value},w.ownsRow c.B t z v n xs->(∀ g,v.ownBlock=some g->¬ X g)->w'.ownsRow c.B t z v n xs:=fun ho hx=>hb.own ho (fun g hg e=>hx g hg (h4 g e));exact ⟨l,e,own ho hx.1,fun s hs=>own (hk s hs) (hx.2 s hs),no ho hx.1,fun q hq=>no (hk q hq) (hx.2 q hq)⟩
structure Qs where
 p:Nat
 ns:List Nd
 cd:Int
 bp:Pos
structure Qd (c:Cx)(X:Nat->Prop)(w:World)(d:Nat)(q:Qs):Prop where
 blk:∃ v,w.heap[c.r]? = some (.cells #[.slice (some ⟨c.g,0,none⟩) c.ts.length c.cap,.int .i64 q.p,.int .i64 d,v,.int .i64 q.cd,.int .i64 q.bp.line,.int .i64 q.bp.col,.string ⟨#[]⟩] 112 (0,0))/\QRow c X w v q.ns
 tok:∀ i u,(tokCells c.ts)[i]? = some u->w.cell? ⟨c.g,i,none⟩=some u
 p:q.p<=c.ts.length
 few:c.ts.length<=900000
 room:c.ts.length<=c.cap
 len:q.ns.length<=4000
 rlt:c.r<c.B
 glt:c.g<c.B
 gr:c.g≠c.r
 bt:c.bt=c.r
 size:c.B<=w.heap.size
 xlt:∀ k,X k->k<w.heap.size
section
variable {c:Cx} {X:Nat->Prop} {w:World} {d:Nat} {q:Qs}
theorem Qd.lt (h:Qd c X w d q):c.r<w.heap.size:=by obtain ⟨v,e,_⟩:=h.blk;exact lt_of_heap e
theorem Qd.c0 (h:Qd c X w d q):w.cell? ⟨c.r,0,none⟩=some (.slice (some ⟨c.g,0,none⟩) c.ts.length c.cap):=by obtain ⟨v,e,_⟩:=h.blk;exact (blk_cell e 0).trans rfl
theorem Qd.c1 (h:Qd c X w d q):w.cell? ⟨c.r,1,none⟩=some (.int .i64 q.p):=by obtain ⟨v,e,_⟩:=h.blk;exact (blk_cell e 1).trans rfl
theorem Qd.c2 (h:Qd c X w d q):w.cell? ⟨c.r,2,none⟩=some (.int .i64 d):=by obtain ⟨v,e,_⟩:=h.blk;exact (blk_cell e 2).trans rfl
theorem Qd.c4 (h:Qd c X w d q):w.cell? ⟨c.r,4,none⟩=some (.int .i64 q.cd):=by obtain ⟨v,e,_⟩:=h.blk;exact (blk_cell e 4).trans rfl
theorem Qd.c5 (h:Qd c X w d q):w.cell? ⟨c.r,5,none⟩=some (.int .i64 q.bp.line):=by obtain ⟨v,e,_⟩:=h.blk;exact (blk_cell e 5).trans rfl
theorem Qd.c6 (h:Qd c X w d q):w.cell? ⟨c.r,6,none⟩=some (.int .i64 q.bp.col):=by obtain ⟨v,e,_⟩:=h.blk;exact (blk_cell e 6).trans rfl
theorem Qd.c7 (h:Qd c X w d q):w.cell? ⟨c.r,7,none⟩=some (.string ⟨#[]⟩):=by obtain ⟨v,e,_⟩:=h.blk;exact (blk_cell e 7).trans rfl
theorem Qd.c3 (h:Qd c X w d q):∃ v,w.cell? ⟨c.r,3,none⟩=some v/\QRow c X w v q.ns:=by obtain ⟨v,e,r⟩:=h.blk;exact ⟨v,(blk_cell e 3).trans rfl,r⟩
theorem Qd.fz (h:Qd c X w d q)(i:Nat):w.frozen? ⟨c.r,i,none⟩=false:=by obtain ⟨v,e,_⟩:=h.blk;exact blk_frozen e i
theorem Qd.tk (h:Qd c X w d q){p:Nat}(hp:p<c.ts.length)(j:Nat)(hj:j<5){u:Value}(hu:(tokCell (Ex.tk c.ts p))[j]? = some u):w.cell? ⟨c.g,p*5+j,none⟩=some u :=
 h.tok _ _ (by rw [tokCells_get (Ex.tk_get hp) j hj];exact hu)
theorem Qd.but {w':World}(h:Qd c X w d q){Q:Nat->Prop}(hb:But Q w w')(h1:¬ Q c.r)(h3:¬ Q c.g)(h4:∀ k,Q k->X k\/∃ cs t fr,w.heap[k]? = some (.cells cs t fr)/\t≠30/\t≠3):Qd c X w' d q:=by
 obtain ⟨v,e,r⟩:=h.blk;exact ⟨⟨v,hb.heap e h1,r.but hb (fun k hk => .inr (h4 k hk))⟩,fun i u hu=>(World.cell?_of_block (hb.block c.g (World.block_lt_of_cell? _ _ (h.tok i u hu)) h3)).trans (h.tok i u hu),
  h.p,h.few,h.room,h.len,h.rlt,h.glt,h.gr,h.bt,Nat.le_trans h.size hb.size,fun k hk=>Nat.lt_of_lt_of_le (h.xlt k hk) hb.size⟩
theorem Qd.below {w':World}(h:Qd c X w d q)(hb:Below w.heap.size w w'):Qd c X w' d q :=
 h.but (Q:=fun _=>False) (But.of_below hb) (fun e=>e) (fun e=>e) (fun _ e=>e.elim)
theorem Qd.drew (h:Qd c X w d q):Qd c X w.drew d q:=h.below (Below.refl _ _).drew
theorem Qd.less {Y:Nat->Prop}(h:Qd c Y w d q)(hX:∀ k,X k->Y k):Qd c X w d q:=by
 obtain ⟨v,e,r⟩:=h.blk;exact ⟨⟨v,e,r.less hX⟩,h.tok,h.p,h.few,h.room,h.len,h.rlt,h.glt,h.gr,h.bt,h.size,fun k hk=>h.xlt k (hX k hk)⟩
theorem Qd.grown {w':World}(h:Qd c X w d q){Q:Nat->Prop}(hb:But Q w w')(h1:¬ Q c.r)(h3:¬ Q c.g)(h4:∀ k,Q k->X k)(Y:Nat->Prop)(hY:∀ k,Y k->X k\/(w.heap.size<=k/\k<w'.heap.size)):Qd c Y w' d q:=by
 have h':=h.but hb h1 h3 (fun k hk => .inl (h4 k hk));obtain ⟨v,e,r⟩:=h.blk;exact ⟨⟨v,hb.heap e h1,r.grown hb h4 Y hY⟩,h'.tok,h.p,h.few,h.room,h.len,h.rlt,h.glt,h.gr,h.bt,h'.size,fun k hk=>by
  rcases hY k hk with e | e
  ·exact h'.xlt k e
  ·exact e.2⟩
theorem Qd.sets (h:Qd c X w d q){w':World}{d':Nat}{p':Nat}{cd':Int}{bp':Pos}(hb:But (fun k=>k=c.r) w w')(hp:p'<=c.ts.length)
  (hset:∀ v,w.heap[c.r]? = some (.cells #[.slice (some ⟨c.g,0,none⟩) c.ts.length c.cap,.int .i64 q.p,.int .i64 d,v,.int .i64 q.cd,.int .i64 q.bp.line,.int .i64 q.bp.col,.string ⟨#[]⟩] 112 (0,0)) ->
   w'.heap[c.r]? = some (.cells #[.slice (some ⟨c.g,0,none⟩) c.ts.length c.cap,.int .i64 p',.int .i64 d',v,.int .i64 cd',.int .i64 bp'.line,.int .i64 bp'.col,.string ⟨#[]⟩] 112 (0,0))):
  Qd c X w' d' ⟨p',q.ns,cd',bp'⟩/\Kp c w w':=by
 obtain ⟨v,e,r⟩:=h.blk;exact ⟨⟨⟨v,hset v e,r.but hb (fun k hk => .inl (by rw [hk];exact h.rlt))⟩,fun i u hu=>(World.cell?_of_block (hb.block c.g (World.block_lt_of_cell? _ _ (h.tok i u hu)) h.gr)).trans (h.tok i u hu),
  hp,h.few,h.room,h.len,h.rlt,h.glt,h.gr,h.bt,Nat.le_trans h.size hb.size,fun k hk=>Nat.lt_of_lt_of_le (h.xlt k hk) hb.size⟩,hb.mono fun k _ e => .inl e⟩
theorem Qd.setp (h:Qd c X w d q){p':Nat}(hp:p'<=c.ts.length):Qd c X (w.setCell ⟨c.r,1,none⟩ (.int .i64 (p':Int))) d ⟨p',q.ns,q.cd,q.bp⟩/\Kp c w (w.setCell ⟨c.r,1,none⟩ (.int .i64 (p':Int))) :=
 h.sets (But.setCell (p:=fun k=>k=c.r) w rfl 1 _) hp (fun v e=>by rw [blk_set e];simp)
theorem Qd.setd (h:Qd c X w d q)(d':Nat):Qd c X (w.setCell ⟨c.r,2,none⟩ (.int .i64 (d':Int))) d' q/\Kp c w (w.setCell ⟨c.r,2,none⟩ (.int .i64 (d':Int))) :=
 h.sets (But.setCell (p:=fun k=>k=c.r) w rfl 2 _) h.p (fun v e=>by rw [blk_set e];simp)
theorem Qd.setbad (h:Qd c X w d q)(cd:Int)(bp:Pos):
  Qd c X ((((w.setCell ⟨c.r,4,none⟩ (.int .i64 cd)).setCell ⟨c.r,5,none⟩ (.int .i64 bp.line)).setCell ⟨c.r,6,none⟩ (.int .i64 bp.col)).setCell ⟨c.r,7,none⟩ (.string ⟨#[]⟩)) d ⟨q.p,q.ns,cd,bp⟩ /\
  Kp c w ((((w.setCell ⟨c.r,4,none⟩ (.int .i64 cd)).setCell ⟨c.r,5,none⟩ (.int .i64 bp.line)).setCell ⟨c.r,6,none⟩ (.int .i64 bp.col)).setCell ⟨c.r,7,none⟩ (.string ⟨#[]⟩)) :=
 h.sets ((((But.setCell (p:=fun k=>k=c.r) w rfl 4 _).trans (But.setCell (p:=fun k=>k=c.r) _ rfl 5 _)).trans (But.setCell (p:=fun k=>k=c.r) _ rfl 6 _)).trans (But.setCell (p:=fun k=>k=c.r) _ rfl 7 _)) h.p
  (fun v e=>by rw [blk_set (blk_set (blk_set (blk_set e _ _) _ _) _ _)];simp)
theorem Qd.added {w':World}{v v':Value}{l:List SN}{s:SN}(h:Qd c X w d q)(e:nds l=q.ns)(ho:w.ownsRow c.B 30 6 v l.length (cells6 l))(hkk:∀ s∈l,w.ownsRow c.B 3 1 (.slice s.ka s.n.kids.length s.kc) s.n.kids.length (ints s.n.kids))(hx:Off X v l)(hl:l.length<4000)
  (hblk:w'.heap[c.r]? = some (.cells #[.slice (some ⟨c.g,0,none⟩) c.ts.length c.cap,.int .i64 q.p,.int .i64 d,v',.int .i64 q.cd,.int .i64 q.bp.line,.int .i64 q.bp.col,.string ⟨#[]⟩] 112 (0,0)))
  (ho':w'.ownsRow c.B 30 6 v' (l.length+1) (cells6 (l++[s]))) (hb:But (fun k=>k=c.r\/some k=v.ownBlock) w w') (hv:v'.ownBlock=v.ownBlock\/∃ g,v'.ownBlock=some g/\w.heap.size<=g)
  (hk:w.ownsRow c.B 3 1 (.slice s.ka s.n.kids.length s.kc) s.n.kids.length (ints s.n.kids)) (hkx:∀ g,(Value.slice s.ka s.n.kids.length s.kc).ownBlock=some g->¬ X g):
  Qd c X w' d ⟨q.p,q.ns++[s.n],q.cd,q.bp⟩/\Kp c w w':=by
 have far:∀ k,k<c.B->k≠c.r->¬ (k=c.r\/some k=v.ownBlock):=fun k hk hne=>by
  rintro (e | e)
  ·exact hne e
  ·have:=(own_tag ho e.symm).1;omega
 have kfar:∀ {n xs} {u:Value},w.ownsRow c.B 3 1 u n xs->w'.ownsRow c.B 3 1 u n xs:=fun hu=>hb.own hu (fun g hg e=>by
  obtain ⟨h1,cur,h2⟩:=own_tag hu hg;have:=h.rlt
  rcases e with e | e
  ·omega
  ·obtain ⟨_,cur',h3⟩:=own_tag ho e.symm;rw [h2] at h3;injection h3 with h3;injection h3 with _ h3;exact absurd h3 (by decide))
 refine ⟨⟨⟨v',hblk,⟨l++[s],by rw [nds_append,e],by simpa using ho',fun s' hs'=>?_, ?_,fun s' hs'=>?_⟩⟩,fun i u hu=>(World.cell?_of_block (hb.block c.g (World.block_lt_of_cell? _ _ (h.tok i u hu)) (far _ h.glt h.gr))).trans (h.tok i u hu),h.p,h.few,h.room, ?_,h.rlt,h.glt,h.gr,h.bt,Nat.le_trans h.size hb.size,fun k hk=>Nat.lt_of_lt_of_le (h.xlt k hk) hb.size⟩,hb.mono fun k hk e=>?_⟩
 ·rcases List.mem_append.1 hs' with hs' | hs'
  ·exact kfar (hkk s' hs')
  ·obtain rfl:s'=s:=by simpa using hs'
   exact kfar hk
 ·intro g hg hx'
  rcases hv with e1 | ⟨g',e1,e2⟩
  ·exact hx.1 g (e1 ▸ hg) hx'
  ·rw [hg] at e1;cases e1;have:=h.xlt g hx';omega
 ·rcases List.mem_append.1 hs' with hs' | hs'
  ·exact hx.2 s' hs'
  ·obtain rfl:s'=s:=by simpa using hs'
   exact hkx
 ·have:(nds l).length=l.length:=nds_len l;rw [e] at this
  simp;omega
 ·rcases e with e | e
  ·exact .inl e
  ·obtain ⟨h1,cur,h2⟩:=own_tag ho e.symm;exact .inr (.inr ⟨h1,cur,_,h2⟩)
end
end Go.Proofs.YtninlbknklbofaaGreatDoor
namespace Go.Proofs.YtninlbknklbofaaGreatDoor.Ex
open Lx (Tok Pos B)
open Tn (Nd fits WF)
def Up {α:Type}(L:Nat)(R:Res α):Prop:=∀ a s,R = .ok a s->L<=s.ns.length
def Gr (L:Nat)(R:Res Nat):Prop:=∀ i s,R = .ok i s->L<=s.ns.length/\i<s.ns.length
theorem Gr.up {L:Nat}{R:Res Nat}(h:Gr L R):Up L R:=fun a s e=>(h a s e).1
theorem Up.bind {α β:Type}{L:Nat}{R:Res α}{f:α->S->Res β}(h:Up L R)(k:∀ a s,L<=s.ns.length->Up L (f a s)):Up L (R.bind f):=by
 cases R with
 | ok a s=>exact k a s (h a s rfl)
 | bad c p=>exact fun a s e=>by cases e
 | out=>exact fun a s e=>by cases e
theorem Gr.bind {α:Type}{L:Nat}{R:Res α}{f:α->S->Res Nat}(h:Up L R)(k:∀ a s,L<=s.ns.length->Gr L (f a s)):Gr L (R.bind f):=by
 cases R with
 | ok a s=>exact k a s (h a s rfl)
 | bad c p=>exact fun a s e=>by cases e
 | out=>exact fun a s e=>by cases e
theorem Gr.bind2 {L:Nat}{R:Res Nat}{f:Nat->S->Res Nat}(h:Gr L R)(k:∀ a s,L<=s.ns.length->a<s.ns.length->Gr L (f a s)):Gr L (R.bind f):=by
 cases R with
 | ok a s=>exact k a s (h a s rfl).1 (h a s rfl).2
 | bad c p=>exact fun a s e=>by cases e
 | out=>exact fun a s e=>by cases e
theorem Gr.ite {L:Nat}{c:Prop}[Decidable c]{a b:Res Nat}(h:Gr L a)(k:Gr L b):Gr L (if c then a else b):=by split <;> assumption
theorem Up.ite {α:Type}{L:Nat}{c:Prop}[Decidable c]{a b:Res α}(h:Up L a)(k:Up L b):Up L (if c then a else b):=by split <;> assumption
theorem Gr.bad {L:Nat}{c:Int}{p:Pos} : Gr L (.bad c p):=fun a s e=>by cases e
theorem Gr.out {L:Nat} : Gr L .out:=fun a s e=>by cases e
theorem Up.bad {α:Type}{L:Nat}{c:Int}{p:Pos} : Up L (.bad c p:Res α):=fun a s e=>by cases e
theorem Up.out {α:Type}{L:Nat} : Up L (.out:Res α):=fun a s e=>by cases e
theorem Gr.ok {L i:Nat}{s:S}(h:L<=s.ns.length)(k:i<s.ns.length):Gr L (.ok i s):=fun a t e=>by cases e;exact ⟨h,k⟩
theorem Up.ok {α:Type}{L:Nat}{a:α}{s:S}(h:L<=s.ns.length):Up L (.ok a s):=fun b t e=>by cases e;exact h
section
variable {ts:List Tok} {L:Nat}
theorem take_up (m:B){s:S}(h:L<=s.ns.length):Up L (take ts m s):=by unfold take;exact Up.ite (Up.ok h) Up.bad
theorem name_up {s:S}(h:L<=s.ns.length):Up L (name ts s):=by unfold name;exact Up.ite (Up.ok h) Up.bad
theorem enter_up (d:Nat){s:S}(h:L<=s.ns.length):Up L (enter ts d s):=by unfold enter;exact Up.ite Up.bad (Up.ok h)
theorem addN_gr (n:Nd){s:S}(h:L<=s.ns.length):Gr L (addN ts n s):=by
 unfold addN;exact Gr.ite (Gr.ite Gr.bad (Gr.ok (by simp;omega) (by simp))) Gr.bad
theorem add_gr (op:B)(a:Pos)(x:B)(ks:List Nat){s:S}(h:L<=s.ns.length):Gr L (add ts op a x ks s):=addN_gr _ h
theorem named_gr (op:B){s:S}(h:L<=s.ns.length):Gr L (named ts op s):=by unfold named;exact Gr.bind (name_up h) fun x s1 h1=>add_gr _ _ _ _ h1
def PartGr (part:Part):Prop:=∀ s,Gr s.ns.length (part s)
theorem PartGr.le {part:Part}(hp:PartGr part){s:S}(h:L<=s.ns.length):Gr L (part s):=fun i s1 e=>⟨Nat.le_trans h (hp s i s1 e).1,(hp s i s1 e).2⟩
theorem between_gr {part:Part}(hp:PartGr part)(l:Nat){s:S}(h:L<=s.ns.length):Gr L (between ts part l s):=by
 unfold between;exact Gr.bind (hp.le (s:=s.skip) h).up fun r s1 h1=>add_gr _ _ _ _ h1
theorem chainLoop_gr {part:Part}(hp:PartGr part)(ms:List B):∀ (k l:Nat) (s:S),L<=s.ns.length->l<s.ns.length->Gr L (chainLoop ts part ms k l s)
 | 0,_,_,_,_=>Gr.out
 | k+1,l,s,h,hl=>by
  rw [chainLoop];exact Gr.ite (Gr.bind2 (between_gr hp l h) fun i s1 h1 h2=>chainLoop_gr hp ms k i s1 h1 h2) (Gr.ok h hl)
theorem chain_gr {part:Part}(hp:PartGr part)(n:Nat)(ms:List B){s:S}(h:L<=s.ns.length):Gr L (chain ts n part ms s):=by
 unfold chain;exact Gr.bind2 (hp.le h) fun i s1 h1 h2=>chainLoop_gr hp ms n i s1 h1 h2
theorem tailR_gr {item:Part}(hp:PartGr item):∀ (k i:Nat) (s:S),L<=s.ns.length->i<s.ns.length->Gr L (tailR ts item k i s)
 | 0,_,_,_,_=>Gr.out
 | k+1,i,s,h,hi=>by
  rw [tailR];exact Gr.ite (Gr.bind (Gr.bind2 (hp.le (s:=s.skip) h) fun j s1 h1 h2=>tailR_gr hp k j s1 h1 h2).up fun b s2 h2=>add_gr _ _ _ _ h2) (Gr.ok h hi)
theorem allR_gr {item:Part}(hp:PartGr item)(n:Nat){s:S}(h:L<=s.ns.length):Gr L (allR ts n item s):=by
 unfold allR;exact Gr.bind2 (hp.le h) fun i s1 h1 h2=>tailR_gr hp n i s1 h1 h2
theorem argsLoop_up {all:Part}(hp:PartGr all):∀ (k:Nat) (l:List Nat) (s:S),L<=s.ns.length->Up L (argsLoop ts all k l s)
 | 0,_,_,_=>Up.out
 | k+1,l,s,h=>by
  rw [argsLoop];exact Up.ite (Up.bind (hp.le (s:=s.skip) h).up fun i s1 h1=>argsLoop_up hp k _ s1 h1) (Up.bind (take_up _ h) fun _ s1 h1=>Up.ok h1)
theorem args_up {all:Part}(hp:PartGr all)(n:Nat){s:S}(h:L<=s.ns.length):Up L (args ts n all s):=by
 unfold args;exact Up.ite (argsLoop_up hp n [] s h) (Up.bind (hp.le h).up fun i s1 h1=>argsLoop_up hp n [i] s1 h1)
def AllGr (f:Rec):Prop:=∀ t d,PartGr (f t d)
theorem itemF_gr {f:Rec}(hf:AllGr f)(d:Nat){s:S}(h:L<=s.ns.length):Gr L (itemF ts f d s):=by
 unfold itemF letF choiceF guardF outF setF;refine Gr.ite ?_ (Gr.ite ?_ (Gr.ite ?_ (Gr.ite (named_gr _ h) (Gr.ite ?_ (Gr.ite ?_ ((hf .or d).le h))))))
 ·exact Gr.bind (name_up (s:=s.skip) h) fun x s1 h1=>Gr.bind (take_up _ h1) fun _ s2 h2=>Gr.bind ((hf .all d).le h2).up fun a s3 h3=>Gr.bind (take_up _ h3) fun _ s4 h4=>Gr.bind ((hf .all d).le h4).up fun b s5 h5=>add_gr _ _ _ _ h5
 ·exact Gr.bind ((hf .all d).le (s:=s.skip) h).up fun c s1 h1=>Gr.bind (take_up _ h1) fun _ s2 h2=>Gr.bind ((hf .item d).le h2).up fun a s3 h3=>Gr.bind (take_up _ h3) fun _ s4 h4=>Gr.bind ((hf .item d).le h4).up fun b s5 h5=>add_gr _ _ _ _ h5
 ·exact Gr.bind ((hf .all d).le (s:=s.skip) h).up fun a s1 h1=>Gr.bind (take_up _ h1) fun _ s2 h2=>Gr.bind (name_up h2) fun x s3 h3=>Gr.bind (take_up _ h3) fun _ s4 h4=>Gr.bind ((hf .item d).le h4).up fun b s5 h5=>add_gr _ _ _ _ h5
 ·exact Gr.bind (name_up (s:=s.skip) h) fun x s1 h1=>Gr.bind ((hf .or d).le h1).up fun a s2 h2=>add_gr _ _ _ _ h2
 ·exact Gr.bind (take_up _ (s:=s.skip) h) fun _ s1 h1=>Gr.bind ((hf .or d).le h1).up fun a s2 h2=>add_gr _ _ _ _ h2
theorem unaryF_gr {f:Rec}(hf:AllGr f)(n d:Nat){s:S}(h:L<=s.ns.length):Gr L (unaryF ts n f d s):=by
 have hpre:∀ op,Gr L (prefixF ts f op d s):=fun op=>by
  unfold prefixF;exact Gr.bind ((hf .unary d).le (s:=s.skip) h).up fun a s1 h1=>add_gr _ _ _ _ h1
 unfold unaryF varF releaseF bracketsF;refine Gr.ite (addN_gr _ (s:=s.skip) h) (Gr.ite (Gr.ite ?_ (add_gr _ _ _ _ (s:=s.skip) h)) (Gr.ite (hpre _) (Gr.ite (hpre _) (Gr.ite (named_gr _ h) (Gr.ite (named_gr _ h) (Gr.ite (add_gr _ _ _ _ (s:=s.skip) h) (Gr.ite ?_ (Gr.ite (Gr.ite (add_gr _ _ _ _ (s:=s.skip.skip) h) ?_) Gr.bad))))))))
 ·exact Gr.bind (args_up (hf .all d) n (s:=s.skip.skip) h) fun l s1 h1=>add_gr _ _ _ _ h1
 ·exact Gr.bind (name_up (s:=s.skip) h) fun x s1 h1=>Gr.bind (take_up _ h1) fun _ s2 h2=>Gr.bind ((hf .all d).le h2).up fun a s3 h3=>Gr.bind (take_up _ h3) fun _ s4 h4=>add_gr _ _ _ _ h4
 ·exact Gr.bind2 ((hf .all d).le (s:=s.skip) h) fun a s1 h1 k1=>Gr.ite (Gr.bind ((hf .all d).le (s:=s1.skip) h1).up fun b s2 h2=>Gr.bind (take_up _ h2) fun _ s3 h3=>add_gr _ _ _ _ h3) (by
   unfold take
   split
   ·exact Gr.ok (s:=s1.skip) h1 k1
   ·exact Gr.bad)
theorem rec_gr:∀ n,AllGr (rec_ ts n)
 | 0=>fun _ _ _=>Gr.out
 | n+1=>by
  have ih:=rec_gr n;intro t d s;rw [rec_];have h:s.ns.length<=s.ns.length:=Nat.le_refl _
  cases t with
  | all=>simp only [stepF];rw [allF_eq];exact allR_gr (ih .item d) n h
  | item=>simp only [stepF];exact Gr.bind (enter_up d h) fun d1 s1 h1=>itemF_gr ih d1 h1
  | or=>simp only [stepF];exact chain_gr (ih .and d) n _ h
  | and=>simp only [stepF];exact chain_gr (ih .test d) n _ h
  | test=>simp only [stepF,testF];exact Gr.bind2 ((ih .sum d).le h) fun l s1 h1 k1=>Gr.ite (between_gr (ih .sum d) l h1) (Gr.ok h1 k1)
  | sum=>simp only [stepF];exact chain_gr (ih .times d) n _ h
  | times=>simp only [stepF];exact chain_gr (ih .unary d) n _ h
  | unary=>simp only [stepF];exact Gr.bind (enter_up d h) fun d1 s1 h1=>unaryF_gr ih n d1 h1
end
end Go.Proofs.YtninlbknklbofaaGreatDoor.Ex
namespace Go.Proofs.YtninlbknklbofaaGreatDoor
open Tn Lx
section
variable (ts:List Tok)
def qis (q:Qs)(m:B):Bool:=decide (q.cd=0) && Ex.isT (Ex.tk ts q.p) m
def Qs.skip (q:Qs):Qs:=⟨q.p+1,q.ns,q.cd,q.bp⟩
def qfail (q:Qs)(e:Int):Qs:=if q.cd=0 then ⟨q.p,q.ns,e,(Ex.tk ts q.p).at_⟩ else q
def qtake (q:Qs)(m:B):Qs:=if qis ts q m=true then q.skip else q
def qmust (q:Qs)(m:B):Qs:=if qis ts q m=true then q.skip else qfail ts q 5
def qkindB (q:Qs)(k:Int):Bool:=decide (q.cd=0) && decide ((Ex.tk ts q.p).kind=k)
def qkind (q:Qs)(k:Int):Qs:=if qkindB ts q k=true then q.skip else qfail ts q 5
def qkindT (q:Qs)(k:Int):Tok:=if qkindB ts q k=true then Ex.tk ts q.p else Ex.zt
def qin (q:Qs)(d:Nat):Qs:=if 64<d then qfail ts q 6 else q
def qroom (q:Qs):Bool:=decide (q.cd=0) && decide (q.ns.length<4000)
def qnode (q:Qs)(n:Nd):Qs:=if qroom q=true then ⟨q.p,q.ns++[n],q.cd,q.bp⟩ else qfail ts q 6
def qnodeV (q:Qs):Nat:=if qroom q=true then q.ns.length else 0
end
def Abs {α:Type}(R:Ex.Res α)(q:Qs):Prop:=match R with
 | .ok _ s=>q.p=s.p/\q.ns=s.ns/\q.cd=0
 | .bad cd p=>cd≠0/\q.cd=cd/\q.bp=p
 | .out=>False
section
variable {ts:List Tok} {α:Type} {R:Ex.Res α} {q:Qs}
theorem qfail_bad (h:q.cd≠0)(e:Int):qfail ts q e=q:=if_neg h
theorem qis_bad (h:q.cd≠0)(m:B):qis ts q m=false:=by unfold qis;rw [decide_eq_false h];rfl
theorem Abs.must (h:Abs R q)(m:B):Abs (R.bind fun _ s=>Ex.take ts m s) (qmust ts q m):=by
 cases R with
 | ok a s =>
  obtain ⟨e1,e2,e3⟩:=h
  show Abs (Ex.take ts m s) _
  unfold qmust Ex.take;have e:qis ts q m=Ex.is ts s m:=by unfold qis Ex.is;rw [e3,e1];rfl
  rw [e]
  by_cases hm:Ex.is ts s m=true
  ·rw [if_pos hm,if_pos hm];exact ⟨by show q.p+1=s.p+1;rw [e1],e2,e3⟩
  ·rw [if_neg hm,if_neg hm];unfold qfail;rw [if_pos e3,e1];exact ⟨by decide,rfl,rfl⟩
 | bad c p =>
  obtain ⟨h1,h2,h3⟩:=h;have hc:q.cd≠0:=by rw [h2];exact h1
  show Abs (Ex.Res.bad c p) _
  unfold qmust;rw [qis_bad hc,if_neg (by decide),qfail_bad hc];exact ⟨h1,h2,h3⟩
 | out=>exact h.elim
theorem Abs.take_ok (h:Abs R q){m:B}(hm:qis ts q m=true):∃ a s,R = .ok a s/\Ex.is ts s m=true/\Abs (R.bind fun _ s=>(.ok () s.skip:Ex.Res Unit)) (qtake ts q m):=by
 cases R with
 | ok a s =>
  obtain ⟨e1,e2,e3⟩:=h;have e:qis ts q m=Ex.is ts s m:=by unfold qis Ex.is;rw [e3,e1];rfl
  refine ⟨a,s,rfl,by rw [<- e];exact hm, ?_⟩;unfold qtake;rw [if_pos hm];exact ⟨by show q.p+1=s.p+1;rw [e1],e2,e3⟩
 | bad c p =>
  obtain ⟨h1,h2,h3⟩:=h;rw [qis_bad (by rw [h2];exact h1)] at hm;cases hm
 | out=>exact h.elim
theorem Abs.take_no (h:Abs R q){m:B}(hm:qis ts q m=false):(∀ a s,R = .ok a s->Ex.is ts s m=false)/\qtake ts q m=q:=by
 refine ⟨fun a s e=>?_,by unfold qtake;rw [hm];rfl⟩;subst e;obtain ⟨e1,e2,e3⟩:=h;rw [<- hm];unfold qis Ex.is;rw [e3,e1];rfl
theorem Abs.name (h:Abs R q):Abs (R.bind fun _ s=>Ex.name ts s) (qkind ts q 1)/\∀ x s,(R.bind fun _ s=>Ex.name ts s) = .ok x s->(qkindT ts q 1).text=x:=by
 cases R with
 | ok a s =>
  obtain ⟨e1,e2,e3⟩:=h
  show Abs (Ex.name ts s) _/\∀ x s',Ex.name ts s = .ok x s'->_
  unfold qkind qkindT Ex.name;have e:qkindB ts q 1=((Ex.tk ts s.p).kind==1):=by
   unfold qkindB;rw [e3,e1]
   by_cases hk:(Ex.tk ts s.p).kind=1 <;> simp [hk]
  rw [e]
  by_cases hm:((Ex.tk ts s.p).kind==1)=true
  ·rw [if_pos hm,if_pos hm,if_pos hm];exact ⟨⟨by show q.p+1=s.p+1;rw [e1],e2,e3⟩,fun x s' e=>by injection e with ea eb;rw [e1];exact ea⟩
  ·rw [if_neg hm,if_neg hm,if_neg hm];unfold qfail;rw [if_pos e3,e1];exact ⟨⟨by decide,rfl,rfl⟩,fun x s' e=>by cases e⟩
 | bad c p =>
  obtain ⟨h1,h2,h3⟩:=h;have hc:q.cd≠0:=by rw [h2];exact h1
  refine ⟨?_,fun x s' e=>by cases e⟩
  show Abs (Ex.Res.bad c p) _
  unfold qkind qkindB;rw [decide_eq_false hc,Bool.false_and,if_neg (by decide),qfail_bad hc];exact ⟨h1,h2,h3⟩
 | out=>exact h.elim
theorem Abs.enter (h:Abs R q)(d:Nat):Abs (R.bind fun _ s=>Ex.enter ts d s) (qin ts q (d+1)):=by
 cases R with
 | ok a s =>
  obtain ⟨e1,e2,e3⟩:=h
  show Abs (Ex.enter ts d s) _
  unfold qin Ex.enter
  by_cases hd:64<=d
  ·rw [if_pos hd,if_pos (by omega)];unfold qfail;rw [if_pos e3,e1];exact ⟨by decide,rfl,rfl⟩
  ·rw [if_neg hd,if_neg (by omega)];exact ⟨e1,e2,e3⟩
 | bad c p =>
  obtain ⟨h1,h2,h3⟩:=h;have hc:q.cd≠0:=by rw [h2];exact h1
  show Abs (Ex.Res.bad c p) _
  unfold qin;rw [qfail_bad hc,ite_self];exact ⟨h1,h2,h3⟩
 | out=>exact h.elim
theorem Abs.add (h:Abs R q)(n:Nd)(hf:∀ a s,R = .ok a s->fits s.ns.length n=true):Abs (R.bind fun _ s=>Ex.addN ts n s) (qnode ts q n)/\∀ i s,(R.bind fun _ s=>Ex.addN ts n s) = .ok i s->qnodeV q=i:=by
 cases R with
 | ok a s =>
  have hfit:=hf a s rfl;obtain ⟨e1,e2,e3⟩:=h
  show Abs (Ex.addN ts n s) _/\∀ i s',Ex.addN ts n s = .ok i s'->_
  unfold qnode qnodeV Ex.addN qroom;rw [if_pos hfit,e2,e3]
  by_cases h4:4000<=s.ns.length
  ·rw [if_pos h4,decide_eq_false (show ¬ s.ns.length<4000 by omega),Bool.and_false,if_neg (by decide)];refine ⟨?_,fun i s' e=>by cases e⟩;unfold qfail;rw [if_pos e3,e1];exact ⟨by decide,rfl,rfl⟩
  ·rw [if_neg h4,decide_eq_true (show s.ns.length<4000 by omega)];exact ⟨⟨e1,rfl,rfl⟩,fun i s' e=>by cases e;rfl⟩
 | bad c p =>
  obtain ⟨h1,h2,h3⟩:=h;have hc:q.cd≠0:=by rw [h2];exact h1
  refine ⟨?_,fun x s' e=>by cases e⟩
  show Abs (Ex.Res.bad c p) _
  unfold qnode qroom;rw [decide_eq_false hc,Bool.false_and,if_neg (by decide),qfail_bad hc];exact ⟨h1,h2,h3⟩
 | out=>exact h.elim
variable (hT:Ex.TsOk ts)
include hT
theorem qis_lt {m:B}(h:qis ts q m=true):q.p+1<ts.length:=hT.next (by
 intro e;simp [qis,Ex.isT,e] at h)
theorem qmust_lt (h:q.p<ts.length)(m:B):(qmust ts q m).p<ts.length:=by
 unfold qmust
 split
 ·exact qis_lt hT ‹_›
 ·unfold qfail;split <;> exact h
theorem qkind_lt (h:q.p<ts.length){k:Int}(hk:k≠0):(qkind ts q k).p<ts.length:=by
 unfold qkind
 split
 ·rename_i e;refine hT.next ?_;simp only [qkindB,Bool.and_eq_true,decide_eq_true_eq] at e;rw [e.2];exact hk
 ·unfold qfail;split <;> exact h
end
theorem qnode_lt {ts:List Tok}{q:Qs}(h:q.p<ts.length)(n:Nd):(qnode ts q n).p<ts.length:=by
 unfold qnode qfail
 split
 ·exact h
 ·split <;> exact h
theorem qin_lt {ts:List Tok}{q:Qs}(h:q.p<ts.length)(d:Nat):(qin ts q d).p<ts.length:=by
 unfold qin qfail
 split
 ·split <;> exact h
 ·exact h
def St (ts:List Tok){α:Type}(m:Nat)(ks:List Nat)(R:Ex.Res α):Prop:=R.Post fun _ s=>Ex.GoodS ts s/\m<=s.p/\∀ k∈ks,k<s.ns.length
section
variable {ts:List Tok} {α:Type} {R:Ex.Res α} {m:Nat} {ks:List Nat}
theorem St.must (h:St ts m ks R)(x:B):St ts (m+1) ks (R.bind fun _ s=>Ex.take ts x s):=by
 refine Ex.Res.Post.bind h fun a s hs=>?_;refine (Ex.take_post x s).mono ?_;rintro _ s1 ⟨rfl,hl⟩;exact ⟨hs.1.skip hl,by simp only [Ex.S.skip];omega,hs.2.2⟩
theorem St.name (h:St ts m ks R):St ts (m+1) ks (R.bind fun _ s=>Ex.name ts s):=by
 refine Ex.Res.Post.bind h fun a s hs=>?_;refine (Ex.name_post s).mono ?_;rintro _ s1 ⟨rfl,hl,_⟩;exact ⟨hs.1.skip hl,by simp only [Ex.S.skip];omega,hs.2.2⟩
theorem St.rec {n d v:Nat}{f:Ex.Rec}(h:St ts m ks R)(hf:Ex.AllEnd ts n f)(hg:Ex.AllGr f)(t:Ex.Tag)(hn:10*(ts.length-m)+Ex.rank t<n)(hv:∀ i s,(R.bind fun _ s=>f t d s) = .ok i s->v=i):St ts (m+1) (v :: ks) (R.bind fun _ s=>f t d s):=by
 cases R with
 | ok a s =>
  have hs:Ex.GoodS ts s/\m<=s.p/\∀ k∈ks,k<s.ns.length:=h;have hp:=hf t d s hs.1 (by omega);have hq:=hg t d s
  change ∀ i s',f t d s = .ok i s'->v=i at hv
  show St ts (m+1) (v :: ks) (f t d s)
  cases hr:f t d s with
  | ok i s1 =>
   rw [hr] at hp hq hv;obtain rfl:=hv i s1 rfl;have h1:=hq v s1 rfl;have hfar:=hp.far;refine ⟨hp.good,by omega,fun k hk=>?_⟩
   rcases List.mem_cons.1 hk with rfl | hk
   ·exact h1.2
   ·have:=hs.2.2 k hk;omega
  | bad c p=>trivial
  | out=>rw [hr] at hp;exact hp.elim
 | bad c p=>trivial
 | out=>exact h.elim
theorem St.ready (h:St ts m ks R){a:α}{s:Ex.S}(e:R = .ok a s):Ex.GoodS ts s/\m<=s.p/\∀ k∈ks,k<s.ns.length:=by subst e;exact h
end
end Go.Proofs.YtninlbknklbofaaGreatDoor
