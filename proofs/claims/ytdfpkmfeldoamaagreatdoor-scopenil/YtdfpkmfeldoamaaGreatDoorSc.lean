/- A part of the proof: The checker, its maps and its findings in memory. -/
import Derived.Test.YtdfpkmfeldoamaaGreatDoorSd
set_option linter.unusedSimpArgs false
set_option linter.unusedVariables false
namespace Go.Proofs.YtdfpkmfeldoamaaGreatDoor
open Go.RowKit Tn Lx
theorem ckF_up {q p:Nat}{r1 r2:Value}{M:Nat->Value}{f:Nat}{v:Value}(hf:4<=f/\f<=11):(ckF q p r1 r2 M).setIfInBounds f v=ckF q p r1 r2 (Vup M f v):=by
 obtain ⟨h1,h2⟩:=hf
 rcases (show f=4\/f=5\/f=6\/f=7\/f=8\/f=9\/f=10\/f=11 by omega) with rfl | rfl | rfl | rfl | rfl | rfl | rfl | rfl <;> rfl
theorem ckF_get {q p:Nat}{r1 r2:Value}{M:Nat->Value}{f:Nat}(hf:4<=f/\f<=11):(ckF q p r1 r2 M)[f]? = some (M f):=by
 obtain ⟨h1,h2⟩:=hf
 rcases (show f=4\/f=5\/f=6\/f=7\/f=8\/f=9\/f=10\/f=11 by omega) with rfl | rfl | rfl | rfl | rfl | rfl | rfl | rfl <;> rfl
structure Cs (N c q p:Nat)(r1 r2:Value)(M:Nat->Value)(l1 l2:List Sp.Fd)(w0 w:World):Prop where
 blk:w.heap[c]? = some (.cells (ckF q p r1 r2 M) 147 (0,0))
 o1:w.ownsRow N 228 5 r1 l1.length (fdsCells l1)
 o2:w.ownsRow N 228 5 r2 l2.length (fdsCells l2)
 ap:∀ k,r1.ownBlock=some k->r2.ownBlock≠some k
 bel:Below N w0 w
 cN:N<=c
section
variable {N c q p:Nat} {r1 r2:Value} {M:Nat->Value} {l1 l2:List Sp.Fd} {w0 w w':World}
theorem Cs.below (h:Cs N c q p r1 r2 M l1 l2 w0 w)(hb:Below w.heap.size w w')(hN:N<=w.heap.size):Cs N c q p r1 r2 M l1 l2 w0 w' :=
 ⟨(hb.block _ (lt_of_heap h.blk)).trans h.blk,own_below h.o1 hb,own_below h.o2 hb,h.ap,h.bel.trans (hb.mono hN),h.cN⟩
theorem ap_same {r1 r2 r2':Value}{a:World}{B t z n:Nat}{xs:List Value}(h:∀ k,r1.ownBlock=some k->r2.ownBlock≠some k)(ho:a.ownsRow B t z r1 n xs)(hs:Same a r2 r2'):∀ k,r1.ownBlock=some k->r2'.ownBlock≠some k:=fun k hk e=>by
 rcases hs with hs | ⟨g,hs,hg⟩
 ·exact h k hk (hs ▸ e)
 ·rw [hs] at e;injection e with e
  obtain ⟨_,cur,e1⟩:=own_tag ho hk;have:=lt_of_heap e1;omega
theorem fr_below {r:Value}{l:List Sp.Fd}(hN:N<=w.heap.size)(hc:N<=c)(ho:w.ownsRow N 228 5 r l.length (fdsCells l))(h:But (FrR c r) w w'):Below N w w' :=
 h.below hN fun k e=>by
  rcases e with e | e
  ·omega
  ·exact (own_tag ho e).1
theorem cs_two {r2' v:Value}{l2':List Sp.Fd}{f:Nat}(h:Cs N c q p r1 r2 M l1 l2 w0 w)(hN:N<=w.heap.size)(hf:4<=f/\f<=11)(hc:w'.heap[c]? = some (.cells ((ckF q p r1 r2 M).setIfInBounds 3 r2') 147 (0,0)))(ho:w'.ownsRow N 228 5 r2' l2'.length (fdsCells l2'))(hs:Same w r2 r2')(hb:But (FrR c r2) w w'):
  Cs N c q p r1 r2' M l1 l2' w0 w'/\w'.cell? ⟨c,f,none⟩=some (M f)/\w'.frozen? ⟨c,f,none⟩=false/\Cs N c q p r1 r2' (Vup M f v) l1 l2' w0 (w'.setCell ⟨c,f,none⟩ v)/\(∀ k m,MpAt w k m->MpAt w' k m)/\(∀ k m,MpAt w' k m->MpAt (w'.setCell ⟨c,f,none⟩ v) k m):=by
 have hc':w'.heap[c]? = some (.cells (ckF q p r1 r2' M) 147 (0,0)):=hc;have ho1:w'.ownsRow N 228 5 r1 l1.length (fdsCells l1):=hb.own h.o1 fun g hg e=>by
  rcases e with e | e
  ·rw [e] at hg;exact own_none h.o1 h.blk (by decide) hg
  ·exact h.ap g hg e
 have hap:=ap_same h.ap h.o1 hs;have hbl:=h.bel.trans (fr_below hN h.cN h.o2 hb);have hS:But (fun k=>k=c) w' (w'.setCell ⟨c,f,none⟩ v):=But.setCell (p:=fun k=>k=c) w' rfl f v;have hcne:∀ {r:Value} {l:List Sp.Fd},w'.ownsRow N 228 5 r l.length (fdsCells l)->∀ k,r.ownBlock=some k->¬ k=c:=fun ho k hk e=>own_none ho hc' (by decide) (e ▸ hk);refine ⟨⟨hc',ho1,ho,hap,hbl,h.cN⟩,(blk_cell hc' f).trans (ckF_get hf),blk_frozen hc' f,⟨?_,hS.own ho1 (hcne ho1),hS.own ho (hcne ho),hap,hbl.trans (hS.below (Nat.le_trans hN hb.size) (fun k e=>by have:=h.cN;omega)),h.cN⟩, ?_, ?_⟩
 ·rw [<- ckF_up hf];exact blk_set hc' f v
 ·intro k m hm;refine hm.but hb ?_;unfold MpAt at hm;rintro (e | e)
  ·rw [e,h.blk] at hm;cases hm
  ·obtain ⟨_,cur,e1⟩:=own_tag h.o2 e;rw [hm] at e1;cases e1
 ·intro k m hm;refine hm.but hS ?_;unfold MpAt at hm;intro e;rw [e,hc'] at hm;cases hm
theorem cs_one {r1' v:Value}{l1':List Sp.Fd}{f:Nat}(h:Cs N c q p r1 r2 M l1 l2 w0 w)(hN:N<=w.heap.size)(hf:4<=f/\f<=11)(hc:w'.heap[c]? = some (.cells ((ckF q p r1 r2 M).setIfInBounds 2 r1') 147 (0,0)))(ho:w'.ownsRow N 228 5 r1' l1'.length (fdsCells l1'))(hs:Same w r1 r1')(hb:But (FrR c r1) w w'):
  Cs N c q p r1' r2 M l1' l2 w0 w'/\w'.cell? ⟨c,f,none⟩=some (M f)/\w'.frozen? ⟨c,f,none⟩=false/\Cs N c q p r1' r2 (Vup M f v) l1' l2 w0 (w'.setCell ⟨c,f,none⟩ v)/\(∀ k m,MpAt w k m->MpAt w' k m)/\(∀ k m,MpAt w' k m->MpAt (w'.setCell ⟨c,f,none⟩ v) k m):=by
 have hc':w'.heap[c]? = some (.cells (ckF q p r1' r2 M) 147 (0,0)):=hc;have hap0:∀ k,r2.ownBlock=some k->r1.ownBlock≠some k:=fun k hk e=>h.ap k e hk;have ho2:w'.ownsRow N 228 5 r2 l2.length (fdsCells l2):=hb.own h.o2 fun g hg e=>by
  rcases e with e | e
  ·rw [e] at hg;exact own_none h.o2 h.blk (by decide) hg
  ·exact hap0 g hg e
 have hap1:=ap_same hap0 h.o2 hs;have hap:∀ k,r1'.ownBlock=some k->r2.ownBlock≠some k:=fun k hk e=>hap1 k e hk;have hbl:=h.bel.trans (fr_below hN h.cN h.o1 hb);have hS:But (fun k=>k=c) w' (w'.setCell ⟨c,f,none⟩ v):=But.setCell (p:=fun k=>k=c) w' rfl f v;have hcne:∀ {r:Value} {l:List Sp.Fd},w'.ownsRow N 228 5 r l.length (fdsCells l)->∀ k,r.ownBlock=some k->¬ k=c:=fun ho k hk e=>own_none ho hc' (by decide) (e ▸ hk);refine ⟨⟨hc',ho,ho2,hap,hbl,h.cN⟩,(blk_cell hc' f).trans (ckF_get hf),blk_frozen hc' f,⟨?_,hS.own ho (hcne ho),hS.own ho2 (hcne ho2),hap,hbl.trans (hS.below (Nat.le_trans hN hb.size) (fun k e=>by have:=h.cN;omega)),h.cN⟩, ?_, ?_⟩
 ·rw [<- ckF_up hf];exact blk_set hc' f v
 ·intro k m hm;refine hm.but hb ?_;unfold MpAt at hm;rintro (e | e)
  ·rw [e,h.blk] at hm;cases hm
  ·obtain ⟨_,cur,e1⟩:=own_tag h.o1 e;rw [hm] at e1;cases e1
 ·intro k m hm;refine hm.but hS ?_;unfold MpAt at hm;intro e;rw [e,hc'] at hm;cases hm
end
structure EnM (w:World)(K:Nat->Nat)(e:Sp.En):Prop where
 ins:MpAt w (K 4) e.ins
 glo:MpAt w (K 5) e.glo
 cha:MpAt w (K 6) e.cha
 exn:MpAt w (K 7) e.exn
 fun_:MpAt w (K 8) e.fun_
 hat:MpAt w (K 9) e.hat
def Mk (K:Nat->Nat)(kh:Nat)(v:Value):Nat->Value:=fun i=>if i=10 then .map (some kh) else if i=11 then v else .map (some (K i))
def K6 (a b c d e f:Nat):Nat->Nat:=fun i=>if i=4 then a else if i=5 then b else if i=6 then c else if i=7 then d else if i=8 then e else f
end Go.Proofs.YtdfpkmfeldoamaaGreatDoor
