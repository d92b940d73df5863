/- A part of the proof: What is in memory while the sequences' nodes are added. -/
import Derived.Test.YtdfpkmfeldoamaaGreatDoorAllM
set_option linter.unusedSimpArgs false
set_option linter.unusedVariables false
namespace Go.Proofs.YtdfpkmfeldoamaaGreatDoor
open Go.RowKit Go.Shelf Tn Lx
theorem own_still {N:Nat}{A B:World}(hs:Still N A B){base:Nat}{t:TypeId}{z:Nat}{v:Value}{n:Nat}{xs:List Value}(h:A.ownsRow base t z v n xs):B.ownsRow base t z v n xs:=by
 refine ⟨h.1, ?_⟩
 rcases h.2 with hn | ⟨g,cap,cur,rfl,hbg,hgg,rest⟩
 ·exact .inl hn
 ·exact .inr ⟨g,cap,cur,rfl,hbg,hs.same _ _ _ _ (fun e=>e) hgg,rest⟩
theorem Rd.still {c:Cx}{X:Nat->Prop}{N:Nat}{A B:World}{s:Ex.S}(h:Rd c X A s)(hs:Still N A B):Rd c X B s:=by
 obtain ⟨v,l,e,ht,ho⟩:=h.tree;have hsz:=hs.below.size;exact ⟨hs.same _ _ _ _ (fun e=>e) h.blk,fun i u hu=>hs.cell (h.tok i u hu),⟨v,l,e,⟨hs.same _ _ _ _ (fun e=>e) ht.blk,own_still hs ht.own,fun q hq=>own_still hs (ht.kids q hq),ht.lt⟩,ho⟩,h.p,h.few,h.room,h.len,h.rlt,h.blt,h.glt,h.rb,h.gr,h.gb,Nat.le_trans h.size hsz,fun k hk=>Nat.lt_of_lt_of_le (h.xlt k hk) hsz⟩
theorem Kp.still {c:Cx}{N:Nat}{w A B:World}(h:Kp c w A)(hs:Still N A B)(hN:w.heap.size<=N):Kp c w B :=
 ⟨hs.below.os.trans h.os,hs.below.tape.trans h.tape,hs.below.output.trans h.output,Nat.le_trans h.size hs.below.size,fun k hk hp=>(hs.below.block k (by omega)).trans (h.block k hk hp)⟩
def MSeq (c:Cx)(b7:Nat)(b:Nat)(t:TypeId):Prop:=b=c.r\/b=c.bt\/t=165\/b=b7
theorem Rd.cells {c:Cx}{X:Nat->Prop}{w:World}{s:Ex.S}(h:Rd c X w s){k:Nat}(hf:Free c w k):∃ cs t fr,w.heap[k]? = some (.cells cs t fr)/\(k=c.r\/k=c.bt\/t=165):=by
 rcases hf with e | e | ⟨_,cs,fr,e⟩
 ·subst e;exact ⟨_,_,_,h.blk,.inl rfl⟩
 ·obtain ⟨v,l,_,ht,_⟩:=h.tree;subst e;exact ⟨_,_,_,ht.blk,.inr (.inl rfl)⟩
 ·exact ⟨_,_,_,e,.inr (.inr rfl)⟩
theorem Kp.keptW {c:Cx}{X:Nat->Prop}{N b7:Nat}{A B:World}{s:Ex.S}(h:Kp c A B)(hR:Rd c X A s):KeptW N (MSeq c b7) A B:=by
 have go:∀ k o,A.heap[k]? = some o->(∀ cs t r,o = .cells cs t r->¬ MSeq c b7 k t)->B.heap[k]? = some o:=fun k o ho hm=>by
  refine (h.block k (lt_of_heap ho) (fun hf=>?_)).trans ho;obtain ⟨cs,t,fr,e1,e2⟩:=hR.cells hf;rw [e1] at ho
  injection ho with ho
  refine hm cs t fr ho.symm ?_
  rcases e2 with e2 | e2 | e2
  ·exact .inl e2
  ·exact .inr (.inl e2)
  ·exact .inr (.inr (.inl e2))
 exact ⟨h.os,h.tape,h.output,h.size,fun k o _ ho hm=>go k o ho hm,fun b cs t r hm hb=>go b _ hb (fun cs' t' r' e=>by cases e;exact hm)⟩
theorem Kp.others {c:Cx}{X:Nat->Prop}{A B:World}{s:Ex.S}(h:Kp c A B)(hR:Rd c X A s):KeepsOthers A B :=
 ⟨h.size,fun k o ho hc=>(h.block k (lt_of_heap ho) (fun hf=>by
  obtain ⟨cs,t,fr,e1,_⟩:=hR.cells hf;rw [e1] at ho;injection ho with ho;subst ho;cases hc)).trans ho⟩
structure SeqM (c:Cx)(X:Nat->Prop)(w:World)(b2 b5 b7:Nat)(vi:Value)(is_:List Nat)(s:Ex.S)(rest:Nat)(W:World):Prop where
 rd:Rd c (fun k=>XV X vi k\/k=b7) W s
 kp:Kp c w W
 box:W.heap[b2]? = some (.cells #[.pointer (some ⟨c.r,0,none⟩)] 67 (0,0))
 cell:W.heap[b5]? = some (.cells #[vi] 163 (0,0))
 own:W.ownsRow w.heap.size 3 1 vi is_.length (ints (is_.map fun (i:Nat)=>(i:Int)))
 last:W.heap[b7]? = some (.cells #[.int .i64 (rest:Int)] 3 (0,0))
 apart:vi.ownBlock≠some b7
 hB:c.B<=w.heap.size
 h2:w.heap.size<=b2
 h5:w.heap.size<=b5
 h7:w.heap.size<=b7
section
variable {c:Cx} {X:Nat->Prop} {w:World} {b2 b5 b7:Nat} {vi:Value} {is_:List Nat} {s:Ex.S} {rest:Nat} {W:World}
theorem SeqM.q2 (h:SeqM c X w b2 b5 b7 vi is_ s rest W):W.cell? ⟨b2,0,none⟩=some (.pointer (some ⟨c.r,0,none⟩)):=(blk_cell h.box 0).trans rfl
theorem SeqM.q5 (h:SeqM c X w b2 b5 b7 vi is_ s rest W):W.cell? ⟨b5,0,none⟩=some vi:=(blk_cell h.cell 0).trans rfl
theorem SeqM.q7 (h:SeqM c X w b2 b5 b7 vi is_ s rest W):W.cell? ⟨b7,0,none⟩=some (.int .i64 (rest:Int)):=(blk_cell h.last 0).trans rfl
theorem SeqM.f7 (h:SeqM c X w b2 b5 b7 vi is_ s rest W):W.frozen? ⟨b7,0,none⟩=false:=blk_frozen h.last 0
theorem SeqM.still {N:Nat}{B:World}(h:SeqM c X w b2 b5 b7 vi is_ s rest W)(hs:Still N W B)(hN:w.heap.size<=N):SeqM c X w b2 b5 b7 vi is_ s rest B :=
 ⟨h.rd.still hs,h.kp.still hs hN,hs.same _ _ _ _ (fun e=>e) h.box,hs.same _ _ _ _ (fun e=>e) h.cell,own_still hs h.own,hs.same _ _ _ _ (fun e=>e) h.last,h.apart,h.hB,h.h2,h.h5,h.h7⟩
theorem SeqM.step {W2:World}(h:SeqM c X w b2 b5 b7 vi is_ s rest W){s2:Ex.S}(hR:Rd c (fun k=>XV X vi k\/k=b7) W2 s2)(hK:Kp c W W2):SeqM c X w b2 b5 b7 vi is_ s2 rest W2:=by
 have:=h.hB;have:=h.h2;have:=h.h5;have:=h.h7;have:=hR.rlt;have:=hR.blt;exact ⟨hR,h.kp.trans hK,hK.heap h.box (by omega) (by omega) (fun e=>absurd e (by decide)),hK.heap h.cell (by omega) (by omega) (fun e=>absurd e (by decide)),hK.own h.own (fun e=>absurd e (by decide)) (by omega) (by omega),hK.heap h.last (by omega) (by omega) (fun e=>absurd e (by decide)),h.apart,h.hB,h.h2,h.h5,h.h7⟩
theorem SeqM.put {N:Nat}(h:SeqM c X w b2 b5 b7 vi is_ s rest W)(j:Nat):SeqM c X w b2 b5 b7 vi is_ s j (W.setCell ⟨b7,0,none⟩ (.int .i64 (j:Int)))/\KeepsOthers W (W.setCell ⟨b7,0,none⟩ (.int .i64 (j:Int)))/\KeptW N (MSeq c b7) W (W.setCell ⟨b7,0,none⟩ (.int .i64 (j:Int))):=by
 have hS:But (fun q=>q=b7) W (W.setCell ⟨b7,0,none⟩ (.int .i64 (j:Int))):=But.setCell (p:=fun q=>q=b7) W rfl 0 _;have ne:∀ {k:Nat} {cs:Array Value} {t:TypeId} {fr:Nat × Nat},W.heap[k]? = some (.cells cs t fr)->t≠3->¬ k=b7:=fun hk ht e=>by
  subst e;rw [h.last] at hk;injection hk with e1;injection e1 with _ e1;exact ht e1.symm
 have h7:=h.h7;have hB:=h.hB;refine ⟨⟨h.rd.but hS (fun e=>by have:=h.rd.rlt;omega) (fun e=>by have:=h.rd.blt;omega) (fun e=>by have:=h.rd.glt;omega) (fun q hq => .inl (.inr hq)),h.kp.new hS (fun q e=>by omega),hS.heap h.box (ne h.box (by decide)),hS.heap h.cell (ne h.cell (by decide)),hS.own h.own (fun g hg e=>h.apart (by rw [hg,e])),(blk_set h.last 0 _).trans rfl,h.apart,h.hB,h.h2,h.h5,h.h7⟩,KeepsOthers.setCell _ _ _, ?_⟩;have go:∀ k o,W.heap[k]? = some o->(∀ cs t r,o = .cells cs t r->¬ MSeq c b7 k t)->(W.setCell ⟨b7,0,none⟩ (.int .i64 (j:Int))).heap[k]? = some o:=fun k o ho hm=>by
  by_cases e:k=b7
  ·subst e;rw [h.last] at ho;injection ho with ho
   exact absurd (show MSeq c k k 3 from .inr (.inr (.inr rfl))) (hm _ _ _ ho.symm)
  ·exact (blk_other e _ _).trans ho
 exact ⟨hS.os,hS.tape,hS.output,hS.size,fun k o _ ho hm=>go k o ho hm,fun b cs t r hm hb=>go b _ hb (fun cs' t' r' e=>by cases e;exact hm)⟩
end
end Go.Proofs.YtdfpkmfeldoamaaGreatDoor
