/- A part of the proof: A part of the proof. -/
import Derived.Test.YtdfpkmfeldoamaaGreatDoorTSep
import Derived.Test.YtdfpkmfeldoamaaGreatDoorPf
import Derived.Test.YtdfpkmfeldoamaaGreatDoorLToks
import Derived.Deep.RegionHeld3
import Derived.BigRegion
import Derived.BigQuiet
import Derived.StillTailTactics
import Derived.IntWalk
set_option linter.unusedSimpArgs false
set_option linter.unusedVariables false
set_option maxRecDepth 100000
set_option maxHeartbeats 2000000
namespace Go.Proofs.YtdfpkmfeldoamaaGreatDoor
section
open Go.RowKit Tn
theorem Tryz.info165:(Tryz.prog.info? 165).map (fun i=>(i.zero,i.size,i.bytes))=some (some (.agg #[.string ⟨#[]⟩,.int .i64 0,.int .i64 0,.string ⟨#[]⟩,.int .i64 0,.slice none 0 0]),6,80):=by kernel_rfl
structure SN where
 n:Nd
 ka:Option Addr
 kc:Nat
def cell6 (s:SN):List Value:=[.string s.n.op,.int .i64 s.n.line,.int .i64 s.n.col,.string s.n.name,.int .i64 s.n.num,.slice s.ka s.n.kids.length s.kc]
def cells6 (l:List SN):List Value:=l.flatMap cell6
def nds (l:List SN):List Nd:=l.map SN.n
theorem cells6_snoc (l:List SN)(s:SN):cells6 (l++[s])=cells6 l++cell6 s:=by simp [cells6]
theorem cells6_get {l:List SN}{i:Nat}{s:SN}(h:l[i]? = some s)(j:Nat)(hj:j<6):(cells6 l)[i*6+j]? = (cell6 s)[j]? := by
 induction l generalizing i with
 | nil=>simp at h
 | cons q l ih =>
  have e:cells6 (q :: l)=cell6 q++cells6 l:=rfl
  cases i with
  | zero =>
   simp at h;subst h;rw [e,List.getElem?_append_left (by simp [cell6];omega)];simp
  | succ i =>
   simp at h;rw [e,List.getElem?_append_right (by simp [cell6];omega)];rw [show (i+1)*6+j-(cell6 q).length=i*6+j by simp [cell6];omega];exact ih h
theorem nds_len (l:List SN):(nds l).length=l.length:=by simp [nds]
theorem nds_at {l:List SN}{i:Nat}{s:SN}(h:l[i]? = some s):nd (nds l) i=s.n:=by simp [nd,nds,h]
theorem own_cell {w:World}{base:Nat}{t:TypeId}{z:Nat}{g:Nat}{n c:Nat}{xs:List Value}(h:w.ownsRow base t z (.slice (some ⟨g,0,none⟩) n c) n xs){i:Nat}{u:Value}(hu:xs[i]? = some u):w.cell? ⟨g,i,none⟩=some u:=by
 rcases h.2 with ⟨e,_⟩ | ⟨g',cap,cur,hv,_,hg,_,_,hs,ht⟩
 ·cases e
 ·cases hv
  rw [blk_cell hg];have hi:=(List.getElem?_eq_some_iff.1 hu).1;rw [<- ht,List.getElem?_take] at hu
  split at hu
  ·simpa using hu
  ·cases hu
theorem own_nodes {w:World}{base N:Nat}{ao:Option Addr}{c:Nat}{l:List SN}(h:w.ownsRow base 165 6 (.slice ao l.length c) l.length (cells6 l))(hk:∀ s∈l,IntsAt N w s.ka s.n.kids)(hz:∀ s∈l,s.ka=none->s.kc=0)(hN:w.heap.size<=N):NodesAt N w ao (nds l):=by
 intro i hi;rw [nds_len] at hi;have hs:l[i]? = some l[i]:=List.getElem?_eq_getElem hi;generalize l[i]=s at hs;have hg:∃ g,ao=some ⟨g,0,none⟩/\g<w.heap.size:=by
  rcases h.2 with ⟨_,e⟩ | ⟨g',cap,cur,hv,_,hg,_⟩
  ·omega
  ·cases hv;exact ⟨g',rfl,lt_of_heap hg⟩
 obtain ⟨g,rfl,hlt⟩:=hg;rw [nds_at hs];have key:∀ j,j<6->∀ u,(cell6 s)[j]? = some u->w.cell? ⟨g,i*6+j,none⟩=some u:=fun j hj u hu=>own_cell h (by rw [cells6_get hs j hj];exact hu);refine ⟨g,0,s.ka,s.kc,rfl, ?_⟩;rw [Nat.zero_add];exact ⟨by omega,key 0 (by omega) _ rfl,key 1 (by omega) _ rfl,key 2 (by omega) _ rfl,key 3 (by omega) _ rfl,key 4 (by omega) _ rfl,key 5 (by omega) _ rfl,hk s (List.mem_of_getElem? hs),hz s (List.mem_of_getElem? hs)⟩
structure But (p:Nat->Prop)(w w':World):Prop where
 os:w'.os=w.os
 tape:w'.tape=w.tape
 output:w'.output=w.output
 size:w.heap.size<=w'.heap.size
 block:∀ k,k<w.heap.size->¬ p k->w'.heap[k]? = w.heap[k]?
theorem But.refl (p:Nat->Prop)(w:World):But p w w:=⟨rfl,rfl,rfl,Nat.le_refl _,fun _ _ _=>rfl⟩
theorem But.trans {p:Nat->Prop}{a b c:World}(h:But p a b)(k:But p b c):But p a c :=
 ⟨k.os.trans h.os,k.tape.trans h.tape,k.output.trans h.output,Nat.le_trans h.size k.size,fun i hi hp=>(k.block i (Nat.lt_of_lt_of_le hi h.size) hp).trans (h.block i hi hp)⟩
theorem But.of_below {p:Nat->Prop}{a b:World}(h:Below a.heap.size a b):But p a b:=⟨h.os,h.tape,h.output,h.size,fun k hk _=>h.block k hk⟩
theorem But.of_grown {p:Nat->Prop}{a b:World}{row:Option Nat}(h:a.grownBy b row)(hp:∀ k,row=some k->p k):But p a b :=
 ⟨h.os,h.tape,h.output,h.size,fun k hk hn=>h.block k hk (fun e=>hn (hp k e.symm))⟩
theorem But.setCell {p:Nat->Prop}(a:World){b:Nat}(hp:p b)(i:Nat)(v:Value):But p a (a.setCell ⟨b,i,none⟩ v) :=
 ⟨rfl,rfl,rfl,by simp,fun k _ hn=>blk_other (fun e=>hn (by rw [e];exact hp)) i v⟩
theorem But.mono {p q:Nat->Prop}{a b:World}(h:But p a b)(hq:∀ k,k<a.heap.size->p k->q k):But q a b :=
 ⟨h.os,h.tape,h.output,h.size,fun k hk hn=>h.block k hk (fun e=>hn (hq k hk e))⟩
theorem But.below {p:Nat->Prop}{a b:World}(h:But p a b){N:Nat}(hN:N<=a.heap.size)(hp:∀ k,p k->N<=k):Below N a b :=
 ⟨h.os,h.tape,h.output,h.size,fun k hk=>h.block k (by omega) (fun e=>by have:=hp k e;omega)⟩
theorem But.own {p:Nat->Prop}{a b:World}(h:But p a b){base:Nat}{t:TypeId}{z:Nat}{v:Value}{n:Nat}{xs:List Value}(ho:a.ownsRow base t z v n xs)(hp:∀ g,v.ownBlock=some g->¬ p g):b.ownsRow base t z v n xs:=by
 refine ⟨ho.1, ?_⟩
 rcases ho.2 with hn | ⟨g,cap,cur,rfl,hbg,hgg,rest⟩
 ·exact .inl hn
 ·exact .inr ⟨g,cap,cur,rfl,hbg,by rw [h.block g (lt_of_heap hgg) (hp g rfl)];exact hgg,rest⟩
theorem But.heap {p:Nat->Prop}{a b:World}(h:But p a b){k:Nat}{o:Obj}(hk:a.heap[k]? = some o)(hp:¬ p k):b.heap[k]? = some o:=(h.block k (lt_of_heap hk) hp).trans hk
theorem own_tag {w:World}{base:Nat}{t:TypeId}{z:Nat}{v:Value}{n:Nat}{xs:List Value}(h:w.ownsRow base t z v n xs){g:Nat}(hg:v.ownBlock=some g):base<=g/\∃ cur,w.heap[g]? = some (.cells cur t (0,0)):=by
 rcases h.2 with ⟨rfl,_⟩ | ⟨g',cap,cur,rfl,hbg,hgg,_⟩
 ·cases hg
 ·cases hg;exact ⟨hbg,cur,hgg⟩
theorem own_room {w:World}{base:Nat}{t:TypeId}{z:Nat}{ka:Option Addr}{n kc:Nat}{xs:List Value}(h:w.ownsRow base t z (.slice ka n kc) n xs):n<=kc:=by
 rcases h.2 with ⟨e,e'⟩ | ⟨g',cap,cur,e,_,_,h1,_⟩
 ·omega
 ·cases e;exact h1
theorem own_nil {w:World}{base:Nat}{t:TypeId}{z:Nat}{ka:Option Addr}{n kc:Nat}{xs:List Value}(h:w.ownsRow base t z (.slice ka n kc) n xs)(e:ka=none):kc=0:=by
 subst e
 rcases h.2 with ⟨e,_⟩ | ⟨g',cap,cur,e,_⟩
 ·injection e
 ·cases e
structure TreeOwn (B:Nat)(w:World)(bt:Nat)(v:Value)(l:List SN):Prop where
 blk:w.heap[bt]? = some (.cells #[v] 64 (0,0))
 own:w.ownsRow B 165 6 v l.length (cells6 l)
 kids:∀ s∈l,w.ownsRow B 3 1 (.slice s.ka s.n.kids.length s.kc) s.n.kids.length (ints s.n.kids)
 lt:bt<B
theorem TreeOwn.size {B:Nat}{w:World}{bt:Nat}{v:Value}{l:List SN}(h:TreeOwn B w bt v l):bt<w.heap.size:=lt_of_heap h.blk
theorem TreeOwn.but {B:Nat}{w w':World}{bt:Nat}{v:Value}{l:List SN}(h:TreeOwn B w bt v l){p:Nat->Prop}(hb:But p w w')(h1:¬ p bt)(h2:∀ k,B<=k->¬ p k):TreeOwn B w' bt v l :=
 ⟨hb.heap h.blk h1,hb.own h.own (fun g hg=>h2 g (own_tag h.own hg).1),fun s hs=>hb.own (h.kids s hs) (fun g hg=>h2 g (own_tag (h.kids s hs) hg).1),h.lt⟩
theorem TreeOwn.below {B:Nat}{w w':World}{bt:Nat}{v:Value}{l:List SN}(h:TreeOwn B w bt v l)(hb:Below w.heap.size w w'):TreeOwn B w' bt v l:=h.but (p:=fun _=>False) (But.of_below hb) (fun e=>e) (fun _ _ e=>e)
theorem TreeOwn.at {B:Nat}{w:World}{bt:Nat}{v:Value}{l:List SN}(h:TreeOwn B w bt v l):∃ ao cap,v = .slice ao l.length cap/\TreeAt w.heap.size w bt ao cap (nds l):=by
 obtain ⟨ao,cap,rfl⟩:=own_form h.own;exact ⟨ao,cap,rfl,h.size,by rw [nds_len];exact (blk_cell h.blk 0).trans rfl,own_nodes h.own (fun s hs=>own_ints (h.kids s hs)) (fun s hs e=>own_nil (h.kids s hs) e) (Nat.le_refl _),by rw [nds_len];exact own_room h.own⟩
end
section
open Go.RowKit Tn Lx
theorem tokCells_get {ts:List Lx.Tok}{k:Nat}{t:Lx.Tok}(h:ts[k]? = some t)(j:Nat)(hj:j<5):(tokCells ts)[k*5+j]? = (tokCell t)[j]? := by
 induction ts generalizing k with
 | nil=>simp at h
 | cons q r ih =>
  have e:tokCells (q :: r)=tokCell q++tokCells r:=rfl;have hl:(tokCell q).length=5:=rfl
  cases k with
  | zero =>
   simp at h;subst h;rw [e,Nat.zero_mul,Nat.zero_add,List.getElem?_append_left (by omega)]
  | succ k =>
   rw [e,List.getElem?_append_right (by rw [hl];omega),hl];have:(k+1)*5+j-5=k*5+j:=by omega
   rw [this];exact ih (by simpa using h)
def tval (t:Tok):Value := .agg #[.int .i64 t.kind,.string ⟨t.text.toArray⟩,.int .i64 t.int,.int .i64 t.at_.line,.int .i64 t.at_.col]
structure Cx where
 B:Nat
 r:Nat
 bt:Nat
 g:Nat
 cap:Nat
 ts:List Tok
def Off (X:Nat->Prop)(v:Value)(l:List SN):Prop:=(∀ g,v.ownBlock=some g->¬ X g)/\∀ q∈l,∀ g,(Value.slice q.ka q.n.kids.length q.kc).ownBlock=some g->¬ X g
structure Rd (c:Cx)(X:Nat->Prop)(w:World)(s:Ex.S):Prop where
 blk:w.heap[c.r]? = some (.cells #[.pointer (some ⟨c.bt,0,none⟩),.slice (some ⟨c.g,0,none⟩) c.ts.length c.cap,.int .i64 s.p] 72 (0,0))
 tok:∀ i u,(tokCells c.ts)[i]? = some u->w.cell? ⟨c.g,i,none⟩=some u
 tree:∃ v l,nds l=s.ns/\TreeOwn c.B w c.bt v l/\Off X v l
 p:s.p<=c.ts.length
 few:c.ts.length<=900000
 room:c.ts.length<=c.cap
 len:s.ns.length<=4000
 rlt:c.r<c.B
 blt:c.bt<c.B
 glt:c.g<c.B
 rb:c.r≠c.bt
 gr:c.g≠c.r
 gb:c.g≠c.bt
 size:c.B<=w.heap.size
 xlt:∀ k,X k->k<w.heap.size
def Free (c:Cx)(w:World)(k:Nat):Prop:=k=c.r\/k=c.bt\/(c.B<=k/\∃ cs fr,w.heap[k]? = some (.cells cs 165 fr))
def Kp (c:Cx)(w w':World):Prop:=But (Free c w) w w'
theorem Kp.refl (c:Cx)(w:World):Kp c w w:=But.refl _ _
theorem Kp.trans {c:Cx}{a b d:World}(h:Kp c a b)(k:Kp c b d):Kp c a d :=
 ⟨k.os.trans h.os,k.tape.trans h.tape,k.output.trans h.output,Nat.le_trans h.size k.size,fun i hi hp=>by
  have e:=h.block i hi hp;refine (k.block i (Nat.lt_of_lt_of_le hi h.size) ?_).trans e;intro hf
  rcases hf with e1 | e1 | ⟨e1,cs,fr,e2⟩
  ·exact hp (.inl e1)
  ·exact hp (.inr (.inl e1))
  ·exact hp (.inr (.inr ⟨e1,cs,fr,e ▸ e2⟩))⟩
theorem Kp.of_below {c:Cx}{a b:World}(h:Below a.heap.size a b):Kp c a b:=But.of_below h
theorem Kp.size {c:Cx}{a b:World}(h:Kp c a b):a.heap.size<=b.heap.size:=But.size h
theorem Kp.drew {c:Cx}{a b:World}(h:Kp c a b):Kp c a b.drew:=⟨h.os,h.tape,h.output,h.size,h.block⟩
theorem Kp.undrew {c:Cx}{a b:World}(h:Kp c a.drew b):Kp c a b:=⟨h.os,h.tape,h.output,h.size,h.block⟩
theorem Kp.then_below {c:Cx}{a b d:World}(h:Kp c a b)(k:Below b.heap.size b d):Kp c a d:=h.trans (Kp.of_below k)
theorem Below.then_kp {c:Cx}{a b d:World}(h:Below a.heap.size a b)(k:Kp c b d):Kp c a d:=(Kp.of_below h).trans k
theorem Kp.heap {c:Cx}{a b:World}(h:Kp c a b){k:Nat}{cs:Array Value}{t:TypeId}{fr:Nat × Nat}(hk:a.heap[k]? = some (.cells cs t fr))(h1:k≠c.r)(h2:k≠c.bt)(ht:t≠165):b.heap[k]? = some (.cells cs t fr) :=
 (h.block k (lt_of_heap hk) (by
  rintro (e | e | ⟨_,cs',fr',e⟩)
  ·exact h1 e
  ·exact h2 e
  ·rw [hk] at e;injection e with e;injection e with _ e;exact ht e)).trans hk
theorem Kp.old {c:Cx}{a b:World}(h:Kp c a b){k:Nat}(hk:k<a.heap.size)(hB:k<c.B)(h1:k≠c.r)(h2:k≠c.bt):b.heap[k]? = a.heap[k]? :=
 h.block k hk (by
  rintro (e | e | ⟨e,_⟩)
  ·exact h1 e
  ·exact h2 e
  ·omega)
theorem Rd.c0 {c:Cx}{X:Nat->Prop}{w:World}{s:Ex.S}(h:Rd c X w s):w.cell? ⟨c.r,0,none⟩=some (.pointer (some ⟨c.bt,0,none⟩)):=(blk_cell h.blk 0).trans rfl
theorem Rd.c1 {c:Cx}{X:Nat->Prop}{w:World}{s:Ex.S}(h:Rd c X w s):w.cell? ⟨c.r,1,none⟩=some (.slice (some ⟨c.g,0,none⟩) c.ts.length c.cap):=(blk_cell h.blk 1).trans rfl
theorem Rd.c2 {c:Cx}{X:Nat->Prop}{w:World}{s:Ex.S}(h:Rd c X w s):w.cell? ⟨c.r,2,none⟩=some (.int .i64 s.p):=(blk_cell h.blk 2).trans rfl
theorem Rd.fz {c:Cx}{X:Nat->Prop}{w:World}{s:Ex.S}(h:Rd c X w s)(i:Nat):w.frozen? ⟨c.r,i,none⟩=false:=blk_frozen h.blk i
theorem Rd.lt {c:Cx}{X:Nat->Prop}{w:World}{s:Ex.S}(h:Rd c X w s):c.r<w.heap.size:=lt_of_heap h.blk
theorem Rd.tk {c:Cx}{X:Nat->Prop}{w:World}{s:Ex.S}(h:Rd c X w s){q:Nat}(hq:q<c.ts.length)(j:Nat)(hj:j<5){u:Value}(hu:(tokCell (Ex.tk c.ts q))[j]? = some u):w.cell? ⟨c.g,q*5+j,none⟩=some u :=
 h.tok _ _ (by rw [tokCells_get (Ex.tk_get hq) j hj];exact hu)
theorem Rd.but {c:Cx}{X:Nat->Prop}{w w':World}{s:Ex.S}(h:Rd c X w s){q:Nat->Prop}(hb:But q w w')(h1:¬ q c.r)(h2:¬ q c.bt)(h3:¬ q c.g)(h4:∀ k,q k->X k\/∃ cs t fr,w.heap[k]? = some (.cells cs t fr)/\t≠165/\t≠3):Rd c X w' s:=by
 obtain ⟨v,l,e,ht,ho⟩:=h.tree;have no:∀ {t:TypeId} {z:Nat} {v:Value} {n:Nat} {xs:List Value},w.ownsRow c.B t z v n xs->(∀ g,v.ownBlock=some g->¬ X g)->(t=165\/t=3)->∀ g,v.ownBlock=some g->¬ q g:=fun ho hx hne g hg e=>by
  obtain ⟨_,cur,e1⟩:=own_tag ho hg
  rcases h4 g e with e2 | ⟨cs,t',fr,e2,e3,e4⟩
  ·exact hx g hg e2
  ·rw [e1] at e2;injection e2 with e2;injection e2 with _ e2
   rcases hne with e5 | e5
   ·exact e3 (e2.symm.trans e5)
   ·exact e4 (e2.symm.trans e5)
 exact ⟨hb.heap h.blk h1,fun i u hu=>(World.cell?_of_block (hb.block c.g (World.block_lt_of_cell? _ _ (h.tok i u hu)) h3)).trans (h.tok i u hu),
  ⟨v,l,e,⟨hb.heap ht.blk h2,hb.own ht.own (no ht.own ho.1 (.inl rfl)),fun q hq=>hb.own (ht.kids q hq) (no (ht.kids q hq) (ho.2 q hq) (.inr rfl)),ht.lt⟩,ho⟩,h.p,h.few,h.room,h.len,h.rlt,h.blt,h.glt,h.rb,h.gr,h.gb,Nat.le_trans h.size hb.size,fun k hk=>Nat.lt_of_lt_of_le (h.xlt k hk) hb.size⟩
theorem Rd.below {c:Cx}{X:Nat->Prop}{w w':World}{s:Ex.S}(h:Rd c X w s)(hb:Below w.heap.size w w'):Rd c X w' s :=
 h.but (q:=fun _=>False) (But.of_below hb) (fun e=>e) (fun e=>e) (fun e=>e) (fun _ e=>e.elim)
theorem Rd.drew {c:Cx}{X:Nat->Prop}{w:World}{s:Ex.S}(h:Rd c X w s):Rd c X w.drew s:=h.below (Below.refl _ _).drew
theorem Rd.less {c:Cx}{X Y:Nat->Prop}{w:World}{s:Ex.S}(h:Rd c Y w s)(hX:∀ k,X k->Y k):Rd c X w s:=by
 obtain ⟨v,l,e,ht,ho⟩:=h.tree;exact ⟨h.blk,h.tok,⟨v,l,e,ht,fun g hg e=>ho.1 g hg (hX g e),fun q hq g hg e=>ho.2 q hq g hg (hX g e)⟩,h.p,h.few,h.room,h.len,h.rlt,h.blt,h.glt,h.rb,h.gr,h.gb,h.size,fun k hk=>h.xlt k (hX k hk)⟩
theorem Rd.more {c:Cx}{X:Nat->Prop}{w w':World}{s:Ex.S}(h:Rd c X w s)(hb:Below w.heap.size w w')(Y:Nat->Prop)(hY:∀ k,Y k->X k\/(w.heap.size<=k/\k<w'.heap.size)):Rd c Y w' s:=by
 obtain ⟨v,l,e,ht,ho⟩:=h.tree;have h':=h.below hb;have no:∀ {t:TypeId} {z:Nat} {v:Value} {n:Nat} {xs:List Value},w.ownsRow c.B t z v n xs->(∀ g,v.ownBlock=some g->¬ X g)->∀ g,v.ownBlock=some g->¬ Y g:=fun ho hx g hg e=>by
  obtain ⟨_,cur,e1⟩:=own_tag ho hg;have:=lt_of_heap e1
  rcases hY g e with e2 | e2
  ·exact hx g hg e2
  ·omega
 exact ⟨h'.blk,h'.tok,⟨v,l,e,ht.below hb,no ht.own ho.1,fun q hq=>no (ht.kids q hq) (ho.2 q hq)⟩,h.p,h.few,h.room,h.len,h.rlt,h.blt,h.glt,h.rb,h.gr,h.gb,h'.size,fun k hk=>by
  rcases hY k hk with e | e
  ·exact h'.xlt k e
  ·exact e.2⟩
theorem Rd.skip {c:Cx}{X:Nat->Prop}{w:World}{s:Ex.S}(h:Rd c X w s)(hp:s.p<c.ts.length):Rd c X (w.setCell ⟨c.r,2,none⟩ (.int .i64 ((s.p:Int)+1))) s.skip/\Kp c w (w.setCell ⟨c.r,2,none⟩ (.int .i64 ((s.p:Int)+1))):=by
 obtain ⟨v,l,e,ht,ho⟩:=h.tree;have hb:But (fun k=>k=c.r) w (w.setCell ⟨c.r,2,none⟩ (.int .i64 ((s.p:Int)+1))):=But.setCell (p:=fun k=>k=c.r) w rfl 2 _;refine ⟨⟨by rw [blk_set h.blk];simp [Ex.S.skip],fun i u hu=>?_,⟨v,l,e,ht.but hb (fun e=>h.rb e.symm) (fun k hk e=>by have:=h.rlt;omega),ho⟩,by simp [Ex.S.skip];omega,h.few,h.room,h.len,h.rlt,h.blt,h.glt,h.rb,h.gr,h.gb,by simpa using h.size,fun k hk=>by simpa using h.xlt k hk⟩,hb.mono fun k _ e => .inl e⟩;have:=h.tok i u hu;rw [<- this];exact World.cell?_of_block (blk_other h.gr _ _)
theorem Kp.new {c:Cx}{a b d:World}(h:Kp c a b){q:Nat->Prop}(k:But q b d)(hq:∀ k,q k->a.heap.size<=k):Kp c a d :=
 ⟨k.os.trans h.os,k.tape.trans h.tape,k.output.trans h.output,Nat.le_trans h.size k.size,fun i hi hp=>(k.block i (Nat.lt_of_lt_of_le hi h.size) (fun e=>by have:=hq i e;omega)).trans (h.block i hi hp)⟩
end
section
open Go.RowKit Tn Lx
def AheadP (w:World)(t:Tok)(e:Ending)(w':World):Prop:=e = .returned (tval t)/\Below w.heap.size w w'
structure Five (w:World)(b:Nat)(v0 v1 v2 v3 v4:Value):Prop where
 blk:w.heap[b]? = some (.cells #[v0,v1,v2,v3,v4] 118 (0,0))
theorem Five.c0 {w:World}{b:Nat}{v0 v1 v2 v3 v4:Value}(h:Five w b v0 v1 v2 v3 v4):w.cell? ⟨b,0,none⟩=some v0:=(blk_cell h.blk 0).trans rfl
theorem Five.c1 {w:World}{b:Nat}{v0 v1 v2 v3 v4:Value}(h:Five w b v0 v1 v2 v3 v4):w.cell? ⟨b,1,none⟩=some v1:=(blk_cell h.blk 1).trans rfl
theorem Five.c2 {w:World}{b:Nat}{v0 v1 v2 v3 v4:Value}(h:Five w b v0 v1 v2 v3 v4):w.cell? ⟨b,2,none⟩=some v2:=(blk_cell h.blk 2).trans rfl
theorem Five.c3 {w:World}{b:Nat}{v0 v1 v2 v3 v4:Value}(h:Five w b v0 v1 v2 v3 v4):w.cell? ⟨b,3,none⟩=some v3:=(blk_cell h.blk 3).trans rfl
theorem Five.c4 {w:World}{b:Nat}{v0 v1 v2 v3 v4:Value}(h:Five w b v0 v1 v2 v3 v4):w.cell? ⟨b,4,none⟩=some v4:=(blk_cell h.blk 4).trans rfl
theorem Five.fz {w:World}{b:Nat}{v0 v1 v2 v3 v4:Value}(h:Five w b v0 v1 v2 v3 v4)(i:Nat):w.frozen? ⟨b,i,none⟩=false:=blk_frozen h.blk i
theorem Five.below {w w':World}{b:Nat}{v0 v1 v2 v3 v4:Value}(h:Five w b v0 v1 v2 v3 v4)(hb:Below w.heap.size w w'):Five w' b v0 v1 v2 v3 v4:=⟨(hb.block b (lt_of_heap h.blk)).trans h.blk⟩
theorem Five.store {w:World}{b:Nat}{v0 v1 v2 v3 v4:Value}(h:Five w b v0 v1 v2 v3 v4)(u0 u1 u2 u3 u4:Value):
  Five (((((w.setCell ⟨b,0,none⟩ u0).setCell ⟨b,1,none⟩ u1).setCell ⟨b,2,none⟩ u2).setCell ⟨b,3,none⟩ u3).setCell ⟨b,4,none⟩ u4) b u0 u1 u2 u3 u4 :=
 ⟨(blk_set (blk_set (blk_set (blk_set (blk_set h.blk 0 u0) 1 u1) 2 u2) 3 u3) 4 u4).trans rfl⟩
theorem below_five {N:Nat}{w w':World}{b:Nat}(h:Below N w w')(hb:N<=b)(u0 u1 u2 u3 u4:Value):
  Below N w (((((w'.setCell ⟨b,0,none⟩ u0).setCell ⟨b,1,none⟩ u1).setCell ⟨b,2,none⟩ u2).setCell ⟨b,3,none⟩ u3).setCell ⟨b,4,none⟩ u4) :=
 ((((h.setCell hb _).setCell hb _).setCell hb _).setCell hb _).setCell hb _
theorem Rd.drewN {c:Cx}{X:Nat->Prop}{w:World}{s:Ex.S}(h:Rd c X w s)(n:Nat):Rd c X (w.drewN n) s:=h.below (below_drewN (Below.refl _ _) n)
theorem ahead0_in (c:Cx)(X:Nat->Prop)(w:World)(s:Ex.S)(h:Rd c X w s)(hp:s.p<c.ts.length):Calls Tryz.prog 85 #[.pointer (some ⟨c.r,0,none⟩),.int .i64 0] w (AheadP w (Ex.tk c.ts s.p)):=by
 obtain ⟨W,hW⟩:∃ W,w.alloc (.cells #[.int .i64 0,.string ⟨#[]⟩,.int .i64 0,.int .i64 0,.int .i64 0] 118)=W:=⟨_,rfl⟩;have hb:Below w.heap.size w W:=by rw [<- hW];exact (Below.refl _ w).alloc (Nat.le_refl _) _
 have hz:Five W w.heap.size (.int .i64 0) (.string ⟨#[]⟩) (.int .i64 0) (.int .i64 0) (.int .i64 0):=⟨by rw [<- hW];exact blk_new w _⟩;have hR:=h.below hb;have few:=h.few;have room:=h.room;have c1:=hR.c1;have c2:=hR.c2;have HW:=Lib.hid hW;have HB:=Lib.hid hb;have HZ:=Lib.hid hz;have HR:=Lib.hid hR;clear hW hb hz h hR
 go_enter Tryz.func85,Tryz.ntmps85
 go_upto_region 1 with fail
 rw [HW.out]
 go_quiet (fail)
 go_wp2
 clear c1 c2;have hbV:Below W.heap.size W (W.drewN nq):=below_drewN (Below.refl _ _) nq;have HV:=Lib.hid hbV;clear hbV;generalize W.drewN nq=V at *;have hR:=HR.out.below HV.out;have hF:=HZ.out.below HV.out;have hB:=HB.out.trans (HV.out.mono HB.out.size);have c1:=hR.c1;have c2:=hR.c2;have k0:=hR.tk hp 0 (by omega) rfl;have k1:=hR.tk hp 1 (by omega) rfl;have k2:=hR.tk hp 2 (by omega) rfl;have k3:=hR.tk hp 3 (by omega) rfl;have k4:=hR.tk hp 4 (by omega) rfl;rw [Nat.add_zero] at k0;have HP:=Lib.hid hp;generalize hk:Ex.tk c.ts s.p=t at *;have HF:=Lib.hid hF;have HB1:=Lib.hid hB;have wr:IntKind.i64.wrap (s.p:Int)=(s.p:Int):=IntWalk.i64_in _ (by omega);clear hk hR hF hB HR HZ HB HV
 go_still_tail 12,(by kernel_rfl)
 change wpList _ _ _ _ _ V.drew
 have hF1:Five V.drew w.heap.size _ _ _ _ _:=⟨HF.out.blk⟩;have hB1:Below w.heap.size w V.drew:=HB1.out.drew;have HF1:=Lib.hid hF1;have HB2:=Lib.hid hB1;clear hF1 hB1;generalize V.drew=V1 at *;have z0:=HF1.out.c0;have z1:=HF1.out.c1;have z2:=HF1.out.c2;have z3:=HF1.out.c3;have z4:=HF1.out.c4;have zf:=HF1.out.fz;clear k0 k1 k2 k3 k4 c1 c2
 go_wp2
 have T:=HF1.out.store (.int .i64 t.kind) (.string ⟨t.text.toArray⟩) (.int .i64 t.int) (.int .i64 t.at_.line) (.int .i64 t.at_.col);exact bodyPost_ret (v:=tval t) (by simp [results,Tryz.results85,go_sem,T.c0,T.c1,T.c2,T.c3,T.c4,tval]) rfl ⟨rfl,below_five HB2.out (Nat.le_refl _) _ _ _ _ _⟩
theorem ahead1_in (c:Cx)(X:Nat->Prop)(w:World)(s:Ex.S)(h:Rd c X w s)(hp:s.p+1<c.ts.length):Calls Tryz.prog 85 #[.pointer (some ⟨c.r,0,none⟩),.int .i64 1] w (AheadP w (Ex.tk c.ts (s.p+1))):=by
 obtain ⟨W,hW⟩:∃ W,w.alloc (.cells #[.int .i64 0,.string ⟨#[]⟩,.int .i64 0,.int .i64 0,.int .i64 0] 118)=W:=⟨_,rfl⟩;have hb:Below w.heap.size w W:=by rw [<- hW];exact (Below.refl _ w).alloc (Nat.le_refl _) _
 have hz:Five W w.heap.size (.int .i64 0) (.string ⟨#[]⟩) (.int .i64 0) (.int .i64 0) (.int .i64 0):=⟨by rw [<- hW];exact blk_new w _⟩;have hR:=h.below hb;have few:=h.few;have room:=h.room;have c1:=hR.c1;have c2:=hR.c2;have HW:=Lib.hid hW;have HB:=Lib.hid hb;have HZ:=Lib.hid hz;have HR:=Lib.hid hR;clear hW hb hz h hR
 go_enter Tryz.func85,Tryz.ntmps85
 go_upto_region 1 with fail
 rw [HW.out]
 go_quiet (fail)
 go_wp2
 clear c1 c2;have hbV:Below W.heap.size W (W.drewN nq):=below_drewN (Below.refl _ _) nq;have HV:=Lib.hid hbV;clear hbV;generalize W.drewN nq=V at *;have hR:=HR.out.below HV.out;have hF:=HZ.out.below HV.out;have hB:=HB.out.trans (HV.out.mono HB.out.size);have c1:=hR.c1;have c2:=hR.c2;have k0:=hR.tk hp 0 (by omega) rfl;have k1:=hR.tk hp 1 (by omega) rfl;have k2:=hR.tk hp 2 (by omega) rfl;have k3:=hR.tk hp 3 (by omega) rfl;have k4:=hR.tk hp 4 (by omega) rfl;rw [Nat.add_zero] at k0;have HP:=Lib.hid hp;generalize hk:Ex.tk c.ts (s.p+1)=t at *;have HF:=Lib.hid hF;have HB1:=Lib.hid hB;have wr:IntKind.i64.wrap ((s.p:Int)+1)=(s.p:Int)+1:=IntWalk.i64_in _ (by omega);have wn:((s.p:Int)+1).toNat=s.p+1:=by omega
 have w0:(0:Int)<=(s.p:Int)+1:=by omega
 have w1:(s.p:Int)+1<(c.ts.length:Int):=by omega
 clear hk hR hF hB HR HZ HB HV
 go_still_tail 12,(by kernel_rfl)
 change wpList _ _ _ _ _ V.drew
 have hF1:Five V.drew w.heap.size _ _ _ _ _:=⟨HF.out.blk⟩;have hB1:Below w.heap.size w V.drew:=HB1.out.drew;have HF1:=Lib.hid hF1;have HB2:=Lib.hid hB1;clear hF1 hB1;generalize V.drew=V1 at *;have z0:=HF1.out.c0;have z1:=HF1.out.c1;have z2:=HF1.out.c2;have z3:=HF1.out.c3;have z4:=HF1.out.c4;have zf:=HF1.out.fz;clear k0 k1 k2 k3 k4 c1 c2
 go_wp2
 have T:=HF1.out.store (.int .i64 t.kind) (.string ⟨t.text.toArray⟩) (.int .i64 t.int) (.int .i64 t.at_.line) (.int .i64 t.at_.col);exact bodyPost_ret (v:=tval t) (by simp [results,Tryz.results85,go_sem,T.c0,T.c1,T.c2,T.c3,T.c4,tval]) rfl ⟨rfl,below_five HB2.out (Nat.le_refl _) _ _ _ _ _⟩
theorem ahead0_out (c:Cx)(X:Nat->Prop)(w:World)(s:Ex.S)(h:Rd c X w s)(hp:c.ts.length<=s.p):Calls Tryz.prog 85 #[.pointer (some ⟨c.r,0,none⟩),.int .i64 0] w (AheadP w (Ex.tk c.ts s.p)):=by
 have ht:Ex.tk c.ts s.p=Ex.zt:=by rw [Ex.tk,List.getD_eq_getElem?_getD,List.getElem?_eq_none hp];rfl
 rw [ht];obtain ⟨W,hW⟩:∃ W,w.alloc (.cells #[.int .i64 0,.string ⟨#[]⟩,.int .i64 0,.int .i64 0,.int .i64 0] 118)=W:=⟨_,rfl⟩;have hb:Below w.heap.size w W:=by rw [<- hW];exact (Below.refl _ w).alloc (Nat.le_refl _) _
 have hz:Five W w.heap.size (.int .i64 0) (.string ⟨#[]⟩) (.int .i64 0) (.int .i64 0) (.int .i64 0):=⟨by rw [<- hW];exact blk_new w _⟩;have hR:=h.below hb;have few:=h.few;have room:=h.room;have hp0:=h.p;have c1:=hR.c1;have c2:=hR.c2;have HW:=Lib.hid hW;have HB:=Lib.hid hb;have HZ:=Lib.hid hz;clear hW hb hz h hR ht
 go_enter Tryz.func85,Tryz.ntmps85
 go_upto_region 1 with fail
 rw [HW.out]
 go_quiet (fail)
 clear c1 c2;have hbV:Below W.heap.size W (W.drewN nq):=below_drewN (Below.refl _ _) nq;have HV:=Lib.hid hbV;clear hbV;generalize W.drewN nq=V at *;have HF1:=Lib.hid (HZ.out.below HV.out);have HB2:=Lib.hid (HB.out.trans (HV.out.mono HB.out.size));have z0:=HF1.out.c0;have z1:=HF1.out.c1;have z2:=HF1.out.c2;have z3:=HF1.out.c3;have z4:=HF1.out.c4;have zf:=HF1.out.fz
 go_wp2
 have T:=HF1.out.store (.int .i64 0) (.string ⟨#[]⟩) (.int .i64 0) (.int .i64 0) (.int .i64 0);exact bodyPost_ret (v:=tval Ex.zt) (by simp [results,Tryz.results85,go_sem,T.c0,T.c1,T.c2,T.c3,T.c4,tval,Ex.zt]) rfl ⟨rfl,below_five HB2.out (Nat.le_refl _) _ _ _ _ _⟩
theorem ahead1_out (c:Cx)(X:Nat->Prop)(w:World)(s:Ex.S)(h:Rd c X w s)(hp:c.ts.length<=(s.p+1)):Calls Tryz.prog 85 #[.pointer (some ⟨c.r,0,none⟩),.int .i64 1] w (AheadP w (Ex.tk c.ts (s.p+1))):=by
 have ht:Ex.tk c.ts (s.p+1)=Ex.zt:=by rw [Ex.tk,List.getD_eq_getElem?_getD,List.getElem?_eq_none hp];rfl
 rw [ht];obtain ⟨W,hW⟩:∃ W,w.alloc (.cells #[.int .i64 0,.string ⟨#[]⟩,.int .i64 0,.int .i64 0,.int .i64 0] 118)=W:=⟨_,rfl⟩;have hb:Below w.heap.size w W:=by rw [<- hW];exact (Below.refl _ w).alloc (Nat.le_refl _) _
 have hz:Five W w.heap.size (.int .i64 0) (.string ⟨#[]⟩) (.int .i64 0) (.int .i64 0) (.int .i64 0):=⟨by rw [<- hW];exact blk_new w _⟩;have hR:=h.below hb;have few:=h.few;have room:=h.room;have hp0:=h.p;have c1:=hR.c1;have c2:=hR.c2;have HW:=Lib.hid hW;have HB:=Lib.hid hb;have HZ:=Lib.hid hz;clear hW hb hz h hR ht
 go_enter Tryz.func85,Tryz.ntmps85
 go_upto_region 1 with fail
 rw [HW.out]
 go_quiet (fail)
 clear c1 c2;have hbV:Below W.heap.size W (W.drewN nq):=below_drewN (Below.refl _ _) nq;have HV:=Lib.hid hbV;clear hbV;generalize W.drewN nq=V at *;have HF1:=Lib.hid (HZ.out.below HV.out);have HB2:=Lib.hid (HB.out.trans (HV.out.mono HB.out.size));have z0:=HF1.out.c0;have z1:=HF1.out.c1;have z2:=HF1.out.c2;have z3:=HF1.out.c3;have z4:=HF1.out.c4;have zf:=HF1.out.fz
 go_wp2
 have T:=HF1.out.store (.int .i64 0) (.string ⟨#[]⟩) (.int .i64 0) (.int .i64 0) (.int .i64 0);exact bodyPost_ret (v:=tval Ex.zt) (by simp [results,Tryz.results85,go_sem,T.c0,T.c1,T.c2,T.c3,T.c4,tval,Ex.zt]) rfl ⟨rfl,below_five HB2.out (Nat.le_refl _) _ _ _ _ _⟩
theorem ahead0_any (c:Cx)(X:Nat->Prop)(w:World)(s:Ex.S)(h:Rd c X w s):Calls Tryz.prog 85 #[.pointer (some ⟨c.r,0,none⟩),.int .i64 0] w (AheadP w (Ex.tk c.ts s.p)):=by
 rcases Nat.lt_or_ge s.p c.ts.length with hp | hp
 ·exact ahead0_in c X w s h hp
 ·exact ahead0_out c X w s h hp
theorem ahead1_any (c:Cx)(X:Nat->Prop)(w:World)(s:Ex.S)(h:Rd c X w s):Calls Tryz.prog 85 #[.pointer (some ⟨c.r,0,none⟩),.int .i64 1] w (AheadP w (Ex.tk c.ts (s.p+1))):=by
 rcases Nat.lt_or_ge (s.p+1) c.ts.length with hp | hp
 ·exact ahead1_in c X w s h hp
 ·exact ahead1_out c X w s h hp
end
end Go.Proofs.YtdfpkmfeldoamaaGreatDoor
