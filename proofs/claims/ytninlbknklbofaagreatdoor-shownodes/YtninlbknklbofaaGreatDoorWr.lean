/- A part of the proof: A part of the proof. -/
import Derived.Test.YtninlbknklbofaaGreatDoorLScan
import Derived.Test.YtninlbknklbofaaGreatDoorTLeaf
import Derived.Test.YtninlbknklbofaaGreatDoorSameT
import Derived.Lib.Builder
import Derived.Lib.AppendStr
import Derived.Lib.UnsafeStr
import Derived.Shelf.RegionOpenPlain
import Derived.Laws.Externs
set_option linter.unusedSimpArgs false
set_option linter.unusedVariables false
set_option maxRecDepth 100000
set_option maxHeartbeats 2000000
namespace Go.Proofs.YtninlbknklbofaaGreatDoor.Sh
open Lx (B)
open Tn (Nd nd)
structure St where
 bs:B
 tg:Bool
def ba (l:B):ByteArray:=⟨l.toArray⟩
def closes (x:ByteArray):Bool:=decide (x=⟨#[41]⟩) || decide (x=⟨#[44]⟩) || decide (x=⟨#[59]⟩)
def tightens (x:ByteArray):Bool:=decide (x=⟨#[40]⟩) || decide (x=⟨#[33]⟩)
def tok (s:St)(x:ByteArray):St:=⟨s.bs++(if (!s.tg && !closes x)=true then [32] else [])++x.data.toList,tightens x⟩
def tokens (s:St)(l:List ByteArray):St:=l.foldl tok s
structure Form where
 level:Int
 kids:Int
 known:Bool
def formOf (op:ByteArray):Form :=
 if op=⟨#[115,101,113]⟩ then ⟨0,2,true⟩
 else if op=⟨#[105,102]⟩ then ⟨1,3,true⟩
 else if op=⟨#[108,101,116]⟩\/op=⟨#[116,114,121]⟩ then ⟨1,2,true⟩
 else if op=⟨#[111,117,116]⟩\/op=⟨#[115,101,116]⟩ then ⟨1,1,true⟩
 else if op=⟨#[114,97,105,115,101]⟩ then ⟨1,0,true⟩
 else if op=⟨#[111,114]⟩ then ⟨2,2,true⟩
 else if op=⟨#[97,110,100]⟩ then ⟨3,2,true⟩
 else if op=⟨#[61]⟩\/op=⟨#[60]⟩ then ⟨4,2,true⟩
 else if op=⟨#[43]⟩\/op=⟨#[45]⟩ then ⟨5,2,true⟩
 else if op=⟨#[42]⟩ then ⟨6,2,true⟩
 else if op=⟨#[112,97,105,114]⟩ then ⟨7,2,true⟩
 else if op=⟨#[110,101,103]⟩\/op=⟨#[110,111,116]⟩\/op=⟨#[102,115,116]⟩\/op=⟨#[115,110,100]⟩\/op=⟨#[114,101,108,101,97,115,101]⟩ then ⟨7,1,true⟩
 else if op=⟨#[103,101,116]⟩\/op=⟨#[116,114,117,101]⟩\/op=⟨#[102,97,108,115,101]⟩\/op=⟨#[104,111,108,101]⟩\/op=⟨#[117,110,105,116]⟩\/op=⟨#[105,110,116]⟩\/op=⟨#[118,97,114]⟩ then ⟨7,0,true⟩
 else if op=⟨#[99,97,108,108]⟩ then ⟨7,-1,true⟩
 else ⟨0,0,false⟩
def well (n:Nd):Bool:=(formOf n.op).known && ((formOf n.op).kids == -1 || (formOf n.op).kids==(n.kids.length:Int))
def opn:ByteArray:=⟨#[40]⟩
def cls:ByteArray:=⟨#[41]⟩
def brk (f:St->St)(b:Bool)(s:St):St:=if b=true then tok (f (tok s opn)) cls else f s
section
variable (ms:List Nd)
def ends:Nat->Nd->Bool
 | 0,_=>false
 | u+1,n=>if n.op=⟨#[108,101,116]⟩ then true else if n.op=⟨#[105,102]⟩\/n.op=⟨#[116,114,121]⟩ then ends u (nd ms (Tn.kid n.kids (n.kids.length-1)).toNat) else false
variable (f:Nd->St->St)
def part (k:Int)(least:Int)(s:St):St:=brk (f (nd ms k.toNat)) (decide ((formOf (nd ms k.toNat).op).level<least)) s
def semi (e:Nd->Bool)(k:Int)(s:St):St:=brk (f (nd ms k.toNat)) (decide ((formOf (nd ms k.toNat).op).level<1) || e (nd ms k.toNat)) s
def between (n:Nd)(l r:Int)(s:St):St:=part ms f (Tn.kid n.kids 1) r (tok (part ms f (Tn.kid n.kids 0) l s) n.op)
def listGo:Bool->List Int->St->St
 | _,[],s=>s
 | first,k :: l,s=>listGo false l (part ms f k 0 (if first=true then s else tok s ⟨#[44]⟩))
def list (kids:List Int)(s:St):St:=tok (listGo ms f true kids (tok s opn)) cls
def item (n:Nd)(s:St):St :=
 if n.op=⟨#[108,101,116]⟩ then part ms f (Tn.kid n.kids 1) 0 (tok (part ms f (Tn.kid n.kids 0) 0 (tokens s [⟨#[108,101,116]⟩,n.name,⟨#[61]⟩])) ⟨#[105,110]⟩)
 else if n.op=⟨#[105,102]⟩ then part ms f (Tn.kid n.kids 2) 1 (tok (part ms f (Tn.kid n.kids 1) 1 (tok (part ms f (Tn.kid n.kids 0) 0 (tok s ⟨#[105,102]⟩)) ⟨#[116,104,101,110]⟩)) ⟨#[101,108,115,101]⟩)
 else if n.op=⟨#[116,114,121]⟩ then part ms f (Tn.kid n.kids 1) 1 (tokens (part ms f (Tn.kid n.kids 0) 0 (tok s ⟨#[116,114,121]⟩)) [⟨#[119,105,116,104]⟩,n.name,⟨#[45,62]⟩])
 else if n.op=⟨#[114,97,105,115,101]⟩ then tokens s [⟨#[114,97,105,115,101]⟩,n.name]
 else if n.op=⟨#[111,117,116]⟩ then part ms f (Tn.kid n.kids 0) 2 (tokens s [⟨#[111,117,116]⟩,n.name])
 else if n.op=⟨#[115,101,116]⟩ then part ms f (Tn.kid n.kids 0) 2 (tokens s [n.name,⟨#[58,61]⟩])
 else s
def unary (digits:Int->ByteArray)(n:Nd)(s:St):St :=
 if n.op=⟨#[110,101,103]⟩ then part ms f (Tn.kid n.kids 0) 7 (tok s ⟨#[45]⟩)
 else if n.op=⟨#[110,111,116]⟩\/n.op=⟨#[102,115,116]⟩\/n.op=⟨#[115,110,100]⟩ then part ms f (Tn.kid n.kids 0) 7 (tok s n.op)
 else if n.op=⟨#[103,101,116]⟩ then tokens s [⟨#[33]⟩,n.name]
 else if n.op=⟨#[116,114,117,101]⟩\/n.op=⟨#[102,97,108,115,101]⟩ then tok s n.op
 else if n.op=⟨#[104,111,108,101]⟩ then tokens s [⟨#[104,111,108,101]⟩,n.name]
 else if n.op=⟨#[114,101,108,101,97,115,101]⟩ then list ms f n.kids (tokens s [⟨#[114,101,108,101,97,115,101]⟩,n.name])
 else if n.op=⟨#[117,110,105,116]⟩\/n.op=⟨#[112,97,105,114]⟩ then list ms f n.kids s
 else if n.op=⟨#[105,110,116]⟩ then tok s (digits n.num)
 else if n.op=⟨#[118,97,114]⟩ then tok s n.name
 else if n.op=⟨#[99,97,108,108]⟩ then list ms f n.kids ⟨(tok s n.name).bs,true⟩
 else s
def nodeF (e:Nd->Bool)(digits:Int->ByteArray)(n:Nd)(s:St):St :=
 let l:=(formOf n.op).level
 if l=0 then part ms f (Tn.kid n.kids 1) 0 (tok (semi ms f e (Tn.kid n.kids 0) s) ⟨#[59]⟩)
 else if l=1 then item ms f n s
 else if l=4 then between ms f n (l+1) (l+1) s
 else if l=7 then unary ms f digits n s
 else between ms f n l (l+1) s
end
def node (ms:List Nd)(digits:Int->ByteArray):Nat->Nd->St->St
 | 0,_,s=>s
 | u+1,n,s=>nodeF ms (node ms digits u) (ends ms (u+1)) digits n s
end Go.Proofs.YtninlbknklbofaaGreatDoor.Sh
namespace Go.Proofs.YtninlbknklbofaaGreatDoor
section
open Go.RowKit Tn
structure Pc where
 N:Nat
 bp:Nat
 tv:Value
structure PrAt (c:Pc)(w:World)(s:Sh.St)(adr v:Value):Prop where
 lo:c.N<=c.bp
 hN:c.N<=w.heap.size
 blk:w.heap[c.bp]? = some (.cells #[c.tv,adr,v,.bool s.tg] 56 (0,0))
 adr:adr = .pointer none\/adr = .pointer (some ⟨c.bp,1,none⟩)
 own:w.ownsRow c.N 5 1 v s.bs.length (Lib.byteCells s.bs)
def Pr (c:Pc)(w:World)(s:Sh.St):Prop:=∃ adr v,PrAt c w s adr v
def FreeP (c:Pc)(w:World)(k:Nat):Prop:=k=c.bp\/(c.N<=k/\∃ cs fr,w.heap[k]? = some (.cells cs 5 fr))
def Pk (c:Pc)(w w':World):Prop:=But (FreeP c w) w w'
theorem Pk.refl (c:Pc)(w:World):Pk c w w:=But.refl _ _
theorem Pk.trans {c:Pc}{a b d:World}(h:Pk c a b)(k:Pk c b d):Pk c a d :=
 ⟨k.os.trans h.os,k.tape.trans h.tape,k.output.trans h.output,Nat.le_trans h.size k.size,fun i hi hp=>by
  have e:=h.block i hi hp;refine (k.block i (Nat.lt_of_lt_of_le hi h.size) ?_).trans e;intro hf
  rcases hf with e1 | ⟨e1,cs,fr,e2⟩
  ·exact hp (.inl e1)
  ·exact hp (.inr ⟨e1,cs,fr,e ▸ e2⟩)⟩
theorem Pk.of_below {c:Pc}{a b:World}(h:Below a.heap.size a b):Pk c a b:=But.of_below h
theorem Pk.size {c:Pc}{a b:World}(h:Pk c a b):a.heap.size<=b.heap.size:=But.size h
theorem Pk.drew {c:Pc}{a b:World}(h:Pk c a b):Pk c a b.drew:=⟨h.os,h.tape,h.output,h.size,h.block⟩
theorem Pk.undrew {c:Pc}{a b:World}(h:Pk c a.drew b):Pk c a b:=⟨h.os,h.tape,h.output,h.size,h.block⟩
theorem Pk.then_below {c:Pc}{a b d:World}(h:Pk c a b)(k:Below b.heap.size b d):Pk c a d:=h.trans (Pk.of_below k)
theorem Below.then_pk {c:Pc}{a b d:World}(h:Below a.heap.size a b)(k:Pk c b d):Pk c a d:=(Pk.of_below h).trans k
theorem Pk.heap {c:Pc}{a b:World}(h:Pk c a b){k:Nat}{cs:Array Value}{t:TypeId}{fr:Nat × Nat}(hk:a.heap[k]? = some (.cells cs t fr))(h1:k≠c.bp)(h2:t≠5):b.heap[k]? = some (.cells cs t fr) :=
 But.heap h hk (fun hf=>by
  rcases hf with e | ⟨_,cs',fr',e⟩
  ·exact h1 e
  ·rw [hk] at e;injection e with e;injection e with _ e;exact h2 e)
theorem Pk.below {c:Pc}{a b:World}(h:Pk c a b)(hN:c.N<=a.heap.size)(hb:c.N<=c.bp):Below c.N a b :=
 But.below h hN (fun k hk=>by
  rcases hk with e | ⟨e,_⟩ <;> omega)
theorem Pr.below {c:Pc}{a b:World}{s:Sh.St}(h:Pr c a s)(k:Below a.heap.size a b):Pr c b s:=by
 obtain ⟨adr,v,h⟩:=h;exact ⟨adr,v,h.lo,Nat.le_trans h.hN k.size,(k.block _ (lt_of_heap h.blk)).trans h.blk,h.adr,own_below h.own k⟩
theorem Pr.drew {c:Pc}{a:World}{s:Sh.St}(h:Pr c a s):Pr c a.drew s:=h.below (Below.drew (Below.refl _ a))
theorem Pr.lt {c:Pc}{a:World}{s:Sh.St}(h:Pr c a s):c.bp<a.heap.size:=by
 obtain ⟨adr,v,h⟩:=h;exact lt_of_heap h.blk
theorem Pr.lo {c:Pc}{a:World}{s:Sh.St}(h:Pr c a s):c.N<=c.bp:=by obtain ⟨_,_,h⟩:=h;exact h.lo
theorem Pr.hN {c:Pc}{a:World}{s:Sh.St}(h:Pr c a s):c.N<=a.heap.size:=by obtain ⟨_,_,h⟩:=h;exact h.hN
theorem PrAt.c0 {c:Pc}{w:World}{s:Sh.St}{adr v:Value}(h:PrAt c w s adr v):w.cell? ⟨c.bp,0,none⟩=some c.tv:=(blk_cell h.blk 0).trans rfl
theorem PrAt.c1 {c:Pc}{w:World}{s:Sh.St}{adr v:Value}(h:PrAt c w s adr v):w.cell? ⟨c.bp,1,none⟩=some adr:=(blk_cell h.blk 1).trans rfl
theorem PrAt.c2 {c:Pc}{w:World}{s:Sh.St}{adr v:Value}(h:PrAt c w s adr v):w.cell? ⟨c.bp,2,none⟩=some v:=(blk_cell h.blk 2).trans rfl
theorem PrAt.c3 {c:Pc}{w:World}{s:Sh.St}{adr v:Value}(h:PrAt c w s adr v):w.cell? ⟨c.bp,3,none⟩=some (.bool s.tg):=(blk_cell h.blk 3).trans rfl
theorem PrAt.fz {c:Pc}{w:World}{s:Sh.St}{adr v:Value}(h:PrAt c w s adr v)(i:Nat):w.frozen? ⟨c.bp,i,none⟩=false:=blk_frozen h.blk i
theorem PrAt.ne {c:Pc}{w:World}{s:Sh.St}{adr v:Value}(h:PrAt c w s adr v):v.ownBlock≠some c.bp:=fun e=>by
 obtain ⟨_,cur,e1⟩:=own_tag h.own e;rw [h.blk] at e1;injection e1 with e1;injection e1 with _ e1;exact absurd e1 (by decide)
theorem Pr.t {c:Pc}{w:World}{s:Sh.St}(h:Pr c w s):w.cell? ⟨c.bp,0,none⟩=some c.tv:=by obtain ⟨_,_,h⟩:=h;exact h.c0
theorem Pr.tg {c:Pc}{w:World}{s:Sh.St}(h:Pr c w s):w.cell? ⟨c.bp,3,none⟩=some (.bool s.tg):=by obtain ⟨_,_,h⟩:=h;exact h.c3
theorem Pr.fz {c:Pc}{w:World}{s:Sh.St}(h:Pr c w s)(i:Nat):w.frozen? ⟨c.bp,i,none⟩=false:=by obtain ⟨_,_,h⟩:=h;exact h.fz i
theorem PrAt.setAdr {c:Pc}{w:World}{s:Sh.St}{adr v:Value}(h:PrAt c w s adr v):PrAt c (w.setCell ⟨c.bp,1,none⟩ (.pointer (some ⟨c.bp,1,none⟩))) s (.pointer (some ⟨c.bp,1,none⟩)) v:=by
 have hS:But (fun q=>q=c.bp) w (w.setCell ⟨c.bp,1,none⟩ (.pointer (some ⟨c.bp,1,none⟩))):=But.setCell (p:=fun q=>q=c.bp) w rfl 1 _;refine ⟨h.lo,Nat.le_trans h.hN hS.size, ?_,.inr rfl,hS.own h.own (fun g hg e=>h.ne (by rw [hg,e]))⟩;simp [World.setCell,Array.getElem?_modify,h.blk]
theorem PrAt.setRow {c:Pc}{w:World}{s:Sh.St}{adr v v':Value}{bs:Lx.B}(hlo:c.N<=c.bp)(hN:c.N<=w.heap.size)(hb:w.heap[c.bp]? = some (.cells #[c.tv,adr,v,.bool s.tg] 56 (0,0)))(ha:adr = .pointer none\/adr = .pointer (some ⟨c.bp,1,none⟩))
  (ho:w.ownsRow c.N 5 1 v' bs.length (Lib.byteCells bs)):PrAt c (w.setCell ⟨c.bp,2,none⟩ v') ⟨bs,s.tg⟩ adr v':=by
 have hS:But (fun q=>q=c.bp) w (w.setCell ⟨c.bp,2,none⟩ v'):=But.setCell (p:=fun q=>q=c.bp) w rfl 2 _;refine ⟨hlo,Nat.le_trans hN hS.size, ?_,ha,hS.own ho (fun g hg e=>?_)⟩
 ·simp [World.setCell,Array.getElem?_modify,hb]
 ·obtain ⟨_,cur,e1⟩:=own_tag ho hg;rw [e,hb] at e1;injection e1 with e1;injection e1 with _ e1;exact absurd e1 (by decide)
theorem PrAt.setTg {c:Pc}{w:World}{s:Sh.St}{adr v:Value}(h:PrAt c w s adr v)(t:Bool):PrAt c (w.setCell ⟨c.bp,3,none⟩ (.bool t)) ⟨s.bs,t⟩ adr v:=by
 have hS:But (fun q=>q=c.bp) w (w.setCell ⟨c.bp,3,none⟩ (.bool t)):=But.setCell (p:=fun q=>q=c.bp) w rfl 3 _;refine ⟨h.lo,Nat.le_trans h.hN hS.size, ?_,h.adr,hS.own h.own (fun g hg e=>h.ne (by rw [hg,e]))⟩;simp [World.setCell,Array.getElem?_modify,h.blk]
theorem pk_set (c:Pc)(w:World)(i:Nat)(v:Value):Pk c w (w.setCell ⟨c.bp,i,none⟩ v):=But.setCell (p:=FreeP c w) w (.inl rfl) i v
end
section
open Go.RowKit Go.Shelf Tn
theorem copy_any (c:Pc)(w:World)(s:Sh.St)(h:Pr c w s):Calls Tryz.prog 110 #[.pointer (some ⟨c.bp,1,none⟩)] w fun e w'=>e = .returned (.tuple #[])/\(∃ v,PrAt c w' s (.pointer (some ⟨c.bp,1,none⟩)) v)/\Pk c w w':=by
 obtain ⟨adr,v,h⟩:=h;obtain ⟨j,hj,hjs⟩:∃ j,Tryz.prog.info? 54=some j/\j.size=2:=by
  have h0:(Tryz.prog.info? 54).map (fun i=>i.size)=some 2:=by kernel_rfl
  cases hq:Tryz.prog.info? 54 with
  | none=>rw [hq] at h0;cases h0
  | some j=>rw [hq] at h0;exact ⟨j,rfl,by simpa using h0⟩
 have c1:=h.c1;have f1:=h.fz 1;have hsh:w.shape? c.bp=some (56,4):=by simp [World.shape?,h.blk]
 have H:=Lib.hid h
 rcases h.adr with rfl | rfl
 ·clear h
  go_enter Tryz.func110,Tryz.ntmps110
  go_wp2
  rw [Lib.run_to_unsafe w ⟨c.bp,1,none⟩ Tryz.underlying51 Tryz.underlying135 hj (by rw [hjs];decide) hsh (by show 1<4;decide)];simp only [Result.andThen];rw [Oper.upon_value]
  go_wp2
  rw [run_callFunc_extern Tryz.func130 (by kernel_rfl) (by kernel_rfl) (by kernel_rfl) (e:=Extern.AbiNoEscape.same) (by kernel_rfl)];rw [Lib.run_noEscape];simp only [Result.andThen];rw [Oper.upon_value]
  go_wp2
  rw [Lib.run_from_unsafe w ⟨c.bp,1,none⟩ Tryz.underlying135 Tryz.underlying51 hj hsh (by kernel_rfl)];simp only [Result.andThen];rw [Oper.upon_value]
  go_wp2
  go_end0
  exact ⟨rfl,⟨v,H.out.setAdr⟩,pk_set c w 1 _⟩
 ·clear h
  go_enter Tryz.func110,Tryz.ntmps110
  go_wp2
  rw [Lib.run_neq_ptr_same w _ Tryz.underlying51 hj]
  go_wp2
  go_end0
  exact ⟨rfl,⟨v,H.out⟩,Pk.refl _ _⟩
end
section
open Go.RowKit Go.Shelf Tn
theorem Tryz.info5:(Tryz.prog.info? 5).map (fun i=>(i.zero,i.size,i.bytes))=some (some (.int .u8 0),1,1):=by kernel_rfl
theorem PrAt.below {c:Pc}{a b:World}{s:Sh.St}{adr v:Value}(h:PrAt c a s adr v)(k:Below a.heap.size a b):PrAt c b s adr v :=
 ⟨h.lo,Nat.le_trans h.hN k.size,(k.block _ (lt_of_heap h.blk)).trans h.blk,h.adr,own_below h.own k⟩
theorem PrAt.grown_blk {c:Pc}{a b:World}{s:Sh.St}{adr v:Value}(h:PrAt c a s adr v)(hg:a.grownBy b v.ownBlock):b.heap[c.bp]? = some (.cells #[c.tv,adr,v,.bool s.tg] 56 (0,0)) :=
 (hg.block c.bp (lt_of_heap h.blk) (fun e=>h.ne e.symm)).trans h.blk
theorem PrAt.grown_pk {c:Pc}{a b:World}{s:Sh.St}{adr v:Value}(h:PrAt c a s adr v)(hg:a.grownBy b v.ownBlock):Pk c a b :=
 But.of_grown hg (fun k e => .inr (by obtain ⟨x,cur,y⟩:=own_tag h.own e;exact ⟨x,_,_,y⟩))
def WrP (c:Pc)(w:World)(s':Sh.St)(r:Value)(e:Ending)(w':World):Prop:=e = .returned r/\Pr c w' s'/\Pk c w w'
theorem wr_done {c:Pc}{w a b:World}{s:Sh.St}{adr v v':Value}{bs:Lx.B}(h:PrAt c a s adr v)(hk:Pk c w a)(hg:a.grownBy b v.ownBlock)(ho:b.ownsRow c.N 5 1 v' bs.length (Lib.byteCells bs)):
  Pr c (b.setCell ⟨c.bp,2,none⟩ v') ⟨bs,s.tg⟩/\Pk c w (b.setCell ⟨c.bp,2,none⟩ v') :=
 ⟨⟨adr,v',PrAt.setRow h.lo (Nat.le_trans h.hN (h.grown_pk hg).size) (h.grown_blk hg) h.adr ho⟩,(hk.trans (h.grown_pk hg)).trans (pk_set c b 2 v')⟩
theorem wbyte_any (c:Pc)(w:World)(s:Sh.St)(x:UInt8)(h:Pr c w s)(hl:s.bs.length+1<=1000000000):Calls Tryz.prog 77 #[.pointer (some ⟨c.bp,1,none⟩),.int .u8 x.toNat] w (WrP c w ⟨s.bs++[x],s.tg⟩ .nilIface):=by
 obtain ⟨i0,hi,hz0,hz1,hz2⟩:=info_parts Tryz.info5;have HI:=Lib.hid hi;have HZ0:=Lib.hid hz0;have HZ1:=Lib.hid hz1;have HZ2:=Lib.hid hz2;have HC:=Lib.hid (copy_any c w s h);clear hi hz0 hz1 hz2 h
 go_enter Tryz.func77,Tryz.ntmps77
 go_wp2_with fail
 refine HC.out.mono ?_;rintro e w1 ⟨rfl,⟨v,h1⟩,hk1⟩;have c2:=h1.c2;have f2:=h1.fz 2;have H1:=Lib.hid h1;have HK1:=Lib.hid hk1;clear h1 hk1 HC
 go_wp2_with (at_builtin;refine wpList_append_own _ rfl _ _ 52 rfl c.N 5 i0 (.int .u8 0) 1 1 Tryz.underlying52 HI.out HZ0.out HZ1.out HZ2.out rfl (by decide) _ _ _ rfl (H1.out.own.alloc _) ⟨w1.heap.size,0,none⟩ 1 1 [.int .u8 x.toNat] rfl rfl ?c1 ?c2 ?c3 ?c4 ?c5 ?_)
 case c1 =>
  intro j u hj
  match j,hj with
  | 0,hj=>simp at hj;subst hj;simp [Addr.add]
 case c2=>intro u hu;simp at hu;subst hu;rfl
 case c3=>unfold maxLen;simp;omega
 case c4=>simp;omega
 case c5=>have:=H1.out.hN;simp;omega
 intro v' w2 hown hgrow _;obtain ⟨ao',cap',rfl⟩:=own_form hown;have ha:=H1.out.below ((Below.refl _ w1).alloc (Nat.le_refl _) (.cells #[.int .u8 x.toNat] 5));have hb2:=ha.grown_blk hgrow;have D:=wr_done (bs:=s.bs++[x]) ha (HK1.out.then_below ((Below.refl _ w1).alloc (Nat.le_refl _) _)) hgrow (by rw [Lib.byteCells_append,List.length_append];exact hown);have g2:w2.cell? ⟨c.bp,2,none⟩=some v:=(blk_cell hb2 2).trans rfl;have gf:w2.frozen? ⟨c.bp,2,none⟩=false:=blk_frozen hb2 2;have HD:=Lib.hid D;clear D hb2 ha hown hgrow
 go_wp2
 go_ret
 exact ⟨rfl,HD.out⟩
theorem wstr_any (c:Pc)(w:World)(s:Sh.St)(x:ByteArray)(h:Pr c w s)(hl:s.bs.length+x.size<=1000000000):Calls Tryz.prog 78 #[.pointer (some ⟨c.bp,1,none⟩),.string x] w (WrP c w ⟨s.bs++x.data.toList,s.tg⟩ (.tuple #[.int .i64 x.size,.nilIface])):=by
 obtain ⟨i0,hi,hz0,hz1,hz2⟩:=info_parts Tryz.info5;have HI:=Lib.hid hi;have HZ0:=Lib.hid hz0;have HZ1:=Lib.hid hz1;have HZ2:=Lib.hid hz2;have HC:=Lib.hid (copy_any c w s h);clear hi hz0 hz1 hz2 h
 go_enter Tryz.func78,Tryz.ntmps78
 go_wp2_with fail
 refine HC.out.mono ?_;rintro e w1 ⟨rfl,⟨v,h1⟩,hk1⟩;have c2:=h1.c2;have f2:=h1.fz 2;have H1:=Lib.hid h1;have HK1:=Lib.hid hk1;clear h1 hk1 HC
 go_wp2_with (at_builtin;refine Lib.wpList_append_own_string _ rfl _ _ 52 9 rfl c.N 5 i0 Tryz.underlying52 Tryz.underlying9 HI.out HZ0.out HZ1.out HZ2.out _ _ _ rfl H1.out.own x rfl ?c3 ?c4 ?c5 ?_)
 case c3=>unfold maxLen;omega
 case c4=>omega
 case c5=>exact H1.out.hN
 intro v' w2 hown hgrow _;obtain ⟨ao',cap',rfl⟩:=own_form hown;have hb2:=H1.out.grown_blk hgrow;have D:=wr_done (bs:=s.bs++x.data.toList) H1.out HK1.out hgrow (by rw [Lib.byteCells_append,List.length_append];exact hown);have g2:w2.cell? ⟨c.bp,2,none⟩=some v:=(blk_cell hb2 2).trans rfl;have gf:w2.frozen? ⟨c.bp,2,none⟩=false:=blk_frozen hb2 2;have HD:=Lib.hid D;clear D hb2 hown hgrow
 go_wp2
 go_ret2
 exact ⟨rfl,HD.out⟩
open Go.RowKit Go.Shelf Tn
theorem wblank_any (c:Pc)(w:World)(s:Sh.St)(h:Pr c w s)(hl:s.bs.length+1<=1000000000):Calls Tryz.prog 77 #[.pointer (some ⟨c.bp,1,none⟩),.int .u8 32] w (WrP c w ⟨s.bs++[32],s.tg⟩ .nilIface):=wbyte_any c w s 32 h hl
theorem tl_eq (x:ByteArray)(l:List UInt8):(x.toList=l)=(x=⟨l.toArray⟩):=propext ⟨fun h=>ByteArray.ext (by rw [<- h,ByteArray.toList_eq]),fun h=>by rw [h,ByteArray.toList_eq]⟩
theorem tl_beq (x:ByteArray)(l:List UInt8):(x.toList==l)=decide (x=⟨l.toArray⟩):=by
 rw [Bool.eq_iff_iff,beq_iff_eq,tl_eq,decide_eq_true_iff]
theorem bstr_any (c:Pc)(w:World)(s:Sh.St)(h:Pr c w s)(h0:s.bs≠[]):Calls Tryz.prog 15 #[.pointer (some ⟨c.bp,1,none⟩)] w fun e w'=>e = .returned (.string ⟨s.bs.toArray⟩)/\Below c.N w w':=by
 obtain ⟨adr,v,h⟩:=h;have hl0:s.bs.length≠0:=by simpa using h0
 obtain ⟨g,cap,cur,rfl,hbg,hg,hnc,hcm,hcs,htake⟩:∃ g cap cur,v = .slice (some ⟨g,0,none⟩) s.bs.length cap/\c.N<=g/\w.heap[g]? = some (.cells cur 5 (0,0))/\s.bs.length<=cap/\cap<=maxLen/\cur.size=cap*1/\cur.toList.take (s.bs.length*1)=Lib.byteCells s.bs:=by
  rcases h.own.2 with ⟨_,hz⟩ | ⟨g,cap,cur,hv,r⟩
  ·exact absurd hz hl0
  ·exact ⟨g,cap,cur,hv,r⟩
 have c1:w.drew.cell? ⟨c.bp,2,none⟩=some (.slice (some ⟨g,0,none⟩) s.bs.length cap):=h.c2;have hSD:(Builtin.unsafeSliceData_ #[52] 97 #[.slice (some ⟨g,0,none⟩) s.bs.length cap]).run Tryz.prog w.drew = .ok (.pointer (some ⟨g,0,none⟩)) w.drew :=
  Lib.run_unsafeSliceData_row _ _ _ _ _ _ (by omega)
 have hUS:(Builtin.unsafeString_ #[97,3] 9 #[.pointer (some ⟨g,0,none⟩),.int .i64 s.bs.length]).run Tryz.prog w.drew = .ok (.string ⟨s.bs.toArray⟩) (w.drew.freeze ⟨g,0,none⟩ s.bs.length):=by
  refine Lib.run_unsafeString_row w.drew 97 3 9 5 Tryz.underlying97 (by kernel_rfl) g cur.size (by have hg':w.drew.heap[g]? = some (.cells cur 5 (0,0)):=hg;simp [World.shape?,hg']) s.bs h0 (by omega) (by unfold maxLen at hcm;omega) ?_;intro j x hx;have:=h.own.cells (g:=g) rfl j (.int .u8 x.toNat) (by simp [Lib.byteCells,hx]);exact this
 have hfr:Below c.N w (w.drew.freeze ⟨g,0,none⟩ s.bs.length):=Lib.below_freeze (Below.drew (Below.refl c.N w)) hbg _;have HFR:=Lib.hid hfr;clear hfr hg hcs htake h
 go_enter Tryz.func15,Tryz.ntmps15
 go_wp2
 go_region
 all_goals (go_wp2;go_ret;exact ⟨rfl,HFR.out⟩)
end
end Go.Proofs.YtninlbknklbofaaGreatDoor
