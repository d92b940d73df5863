/- A part of the proof: A part of the proof. -/
import Derived.Test.YtdfpkmfeldoamaaGreatDoorSl
import Derived.Test.YtdfpkmfeldoamaaGreatDoorProg
import Derived.Test.YtdfpkmfeldoamaaGreatDoorLFloat
import Derived.Lib.Hide
import Derived.WalkKit
import Derived.Test.YtdfpkmfeldoamaaGreatDoorSa
import Derived.Deep.Cut
set_option linter.unusedSimpArgs false
set_option linter.unusedVariables false
set_option maxRecDepth 100000
set_option maxHeartbeats 8000000
namespace Go.Proofs.YtdfpkmfeldoamaaGreatDoor
section
open Go.RowKit Tn Lx
structure Xm (N c q p:Nat)(r1:Value)(l1:List Sp.Fd)(K:Nat->Nat)(kh kv:Nat)(e:Sp.En)(s:Sp.St)(w0 w:World):Prop where
 cs:∃ r2,Cs N c q p r1 r2 (Mk K kh (.map (some kv))) l1 s.l w0 w
 en:EnM w K e
 h:MpAt w kh s.h
 v:MpAt w kv s.v
 nh:∀ i,4<=i/\i<=9->K i≠kh
 nv:∀ i,4<=i/\i<=9->K i≠kv
 hv:kh≠kv
 kN:N<=kh/\N<=kv
def FrX (N c kh kv:Nat)(w:World)(k:Nat):Prop:=k=c\/k=kh\/k=kv\/(N<=k/\∃ cs fr,w.heap[k]? = some (.cells cs 228 fr))
def XmP (N c q p:Nat)(r1:Value)(l1:List Sp.Fd)(K:Nat->Nat)(kh kv:Nat)(e:Sp.En)(s:Sp.St)(w0 w:World)(en:Ending)(w':World):Prop :=
 en = .returned (.tuple #[])/\Xm N c q p r1 l1 K kh kv e s w0 w'/\But (FrX N c kh kv w) w w'
section
variable {N c q p kh kv:Nat} {r1:Value} {l1:List Sp.Fd} {K:Nat->Nat} {e:Sp.En} {s:Sp.St} {w0 w w':World}
theorem EnM.below (h:EnM w K e)(hb:Below w.heap.size w w'):EnM w' K e:=⟨h.ins.below hb,h.glo.below hb,h.cha.below hb,h.exn.below hb,h.fun_.below hb,h.hat.below hb⟩
theorem EnM.but {P:Nat->Prop}(h:EnM w K e)(hb:But P w w')(hp:∀ i,4<=i/\i<=9->¬ P (K i)):EnM w' K e:=⟨h.ins.but hb (hp 4 (by decide)),h.glo.but hb (hp 5 (by decide)),h.cha.but hb (hp 6 (by decide)),h.exn.but hb (hp 7 (by decide)),h.fun_.but hb (hp 8 (by decide)),h.hat.but hb (hp 9 (by decide))⟩
theorem EnM.map (h:EnM w K e){i:Nat}(hi:4<=i/\i<=9):∃ m,MpAt w (K i) m:=by
 obtain ⟨h1,h2⟩:=hi
 rcases (show i=4\/i=5\/i=6\/i=7\/i=8\/i=9 by omega) with rfl | rfl | rfl | rfl | rfl | rfl
 ·exact ⟨_,h.ins⟩
 ·exact ⟨_,h.glo⟩
 ·exact ⟨_,h.cha⟩
 ·exact ⟨_,h.exn⟩
 ·exact ⟨_,h.fun_⟩
 ·exact ⟨_,h.hat⟩
theorem Xm.below (h:Xm N c q p r1 l1 K kh kv e s w0 w)(hb:Below w.heap.size w w')(hN:N<=w.heap.size):Xm N c q p r1 l1 K kh kv e s w0 w':=by
 obtain ⟨r2,hc⟩:=h.cs;exact ⟨⟨r2,hc.below hb hN⟩,h.en.below hb,h.h.below hb,h.v.below hb,h.nh,h.nv,h.hv,h.kN⟩
theorem FrX.trans {a b d:World}(h:But (FrX N c kh kv a) a b)(k:But (FrX N c kh kv b) b d):But (FrX N c kh kv a) a d :=
 ⟨k.os.trans h.os,k.tape.trans h.tape,k.output.trans h.output,Nat.le_trans h.size k.size,fun i hi hp=>by
  have e:=h.block i hi hp;refine (k.block i (Nat.lt_of_lt_of_le hi h.size) ?_).trans e;rintro (e1 | e1 | e1 | ⟨e1,cs,fr,e2⟩)
  ·exact hp (.inl e1)
  ·exact hp (.inr (.inl e1))
  ·exact hp (.inr (.inr (.inl e1)))
  ·exact hp (.inr (.inr (.inr ⟨e1,cs,fr,e ▸ e2⟩)))⟩
theorem mp_no {k:Nat}{m:Sp.Mp}{cs:Array Value}{t:TypeId}{fr:Nat × Nat}(h:MpAt w k m)(e:w.heap[k]? = some (.cells cs t fr)):False:=by
 unfold MpAt at h;rw [h] at e;cases e
theorem Xm.keep (h:Xm N c q p r1 l1 K kh kv e s w0 w)(hB:But (FrX N c kh kv w) w w'){k:Nat}{cs:Array Value}{t:TypeId}{fr:Nat × Nat}(hk:w.heap[k]? = some (.cells cs t fr))(ht:t≠147/\t≠228):w'.heap[k]? = some (.cells cs t fr):=by
 obtain ⟨r2,hc⟩:=h.cs;refine hB.heap hk ?_;rintro (e1 | e1 | e1 | ⟨_,cs',fr',e1⟩)
 ·rw [e1,hc.blk] at hk;injection hk with hk;injection hk with _ hk;exact ht.1 hk.symm
 ·exact mp_no h.h (e1 ▸ hk)
 ·exact mp_no h.v (e1 ▸ hk)
 ·rw [hk] at e1;injection e1 with e1;injection e1 with _ e1;exact ht.2 e1
theorem Xm.row (h:Xm N c q p r1 l1 K kh kv e s w0 w)(hB:But (FrX N c kh kv w) w w'){base z n:Nat}{t:TypeId}{v:Value}{xs:List Value}(hv:w.ownsRow base t z v n xs)(ht:t≠147/\t≠228):w'.ownsRow base t z v n xs :=
 hB.own hv fun g hg=>by
  obtain ⟨_,cur,e0⟩:=own_tag hv hg;obtain ⟨r2,hc⟩:=h.cs;rintro (e1 | e1 | e1 | ⟨_,cs',fr',e1⟩)
  ·rw [e1,hc.blk] at e0;injection e0 with e0;injection e0 with _ e0;exact ht.1 e0.symm
  ·exact mp_no h.h (e1 ▸ e0)
  ·exact mp_no h.v (e1 ▸ e0)
  ·rw [e0] at e1;injection e1 with e1;injection e1 with _ e1;exact ht.2 e1
theorem Xm.cell (h:Xm N c q p r1 l1 K kh kv e s w0 w){i:Nat}(hi:4<=i/\i<=9):w.cell? ⟨c,i,none⟩=some (.map (some (K i))):=by
 obtain ⟨r2,hc⟩:=h.cs;have e1:=(blk_cell hc.blk i).trans (ckF_get (by omega));rw [e1,Mk,if_neg (by omega),if_neg (by omega)]
theorem Xm.c10 (h:Xm N c q p r1 l1 K kh kv e s w0 w):w.cell? ⟨c,10,none⟩=some (.map (some kh)):=by
 obtain ⟨r2,hc⟩:=h.cs;exact (blk_cell hc.blk 10).trans rfl
theorem Xm.c11 (h:Xm N c q p r1 l1 K kh kv e s w0 w):w.cell? ⟨c,11,none⟩=some (.map (some kv)):=by
 obtain ⟨r2,hc⟩:=h.cs;exact (blk_cell hc.blk 11).trans rfl
theorem Xm.c1 (h:Xm N c q p r1 l1 K kh kv e s w0 w):w.cell? ⟨c,1,none⟩=some (.pointer (some ⟨p,0,none⟩)):=by
 obtain ⟨r2,hc⟩:=h.cs;exact (blk_cell hc.blk 1).trans rfl
theorem Xm.bel (h:Xm N c q p r1 l1 K kh kv e s w0 w):Below N w0 w:=by obtain ⟨r2,hc⟩:=h.cs;exact hc.bel
theorem Xm.add {l':List Sp.Fd}{en:Ending}{r2:Value}(h:Xm N c q p r1 l1 K kh kv e s w0 w)(hc:Cs N c q p r1 r2 (Mk K kh (.map (some kv))) l1 s.l w0 w)(hN:N<=w.heap.size)(hA:AddFP N c 3 (ckF q p r1 r2 (Mk K kh (.map (some kv)))) r2 l' w en w'):XmP N c q p r1 l1 K kh kv e { s with l:=l' } w0 w en w':=by
 obtain ⟨r2',rfl,h1,h2,h3,h4⟩:=hA;obtain ⟨hC1,_,_,_,hk,_⟩:=cs_two (v := .nilIface) hc hN (f:=4) (by decide) h1 h2 h4 h3;refine ⟨rfl,⟨⟨r2',hC1⟩, ?_,hk _ _ h.h,hk _ _ h.v,h.nh,h.nv,h.hv,h.kN⟩,h3.mono fun k _ e1=>?_⟩
 ·exact ⟨hk _ _ h.en.ins,hk _ _ h.en.glo,hk _ _ h.en.cha,hk _ _ h.en.exn,hk _ _ h.en.fun_,hk _ _ h.en.hat⟩
 ·rcases e1 with e1 | e1
  ·exact .inl e1
  ·obtain ⟨e2,cur,e3⟩:=own_tag hc.o2 e1;exact .inr (.inr (.inr ⟨e2,cur,_,e3⟩))
theorem Xm.puth (h:Xm N c q p r1 l1 K kh kv e s w0 w)(hN:N<=w.heap.size)(m:Sp.Mp):Xm N c q p r1 l1 K kh kv e { s with h:=m } w0 { w with heap:=w.heap.setIfInBounds kh (.map (ents 0 m).toArray m.length) } /\ But (FrX N c kh kv w) w { w with heap:=w.heap.setIfInBounds kh (.map (ents 0 m).toArray m.length) } := by
 obtain ⟨m1,m2⟩:=mp_set (m':=m) h.h;obtain ⟨r2,hc⟩:=h.cs;have no:∀ {r:Value} {l:List Sp.Fd},w.ownsRow N 228 5 r l.length (fdsCells l)->∀ g,r.ownBlock=some g->¬ g=kh:=fun ho g hg e1=>by
  obtain ⟨_,cur,e2⟩:=own_tag ho hg;exact mp_no h.h (e1 ▸ e2)
 refine ⟨⟨⟨r2,m2.heap hc.blk (fun e1=>mp_no h.h (e1 ▸ hc.blk)),m2.own hc.o1 (no hc.o1),m2.own hc.o2 (no hc.o2),hc.ap,hc.bel.trans (m2.below hN (fun k e1=>by have:=h.kN;omega)),hc.cN⟩,h.en.but m2 (fun i hi=>h.nh i hi),m1,h.v.but m2 (fun e1=>h.hv e1.symm),h.nh,h.nv,h.hv,h.kN⟩,m2.mono fun k _ e1 => .inr (.inl e1)⟩
theorem Xm.putv (h:Xm N c q p r1 l1 K kh kv e s w0 w)(hN:N<=w.heap.size)(m:Sp.Mp):Xm N c q p r1 l1 K kh kv e { s with v:=m } w0 { w with heap:=w.heap.setIfInBounds kv (.map (ents 0 m).toArray m.length) } /\ But (FrX N c kh kv w) w { w with heap:=w.heap.setIfInBounds kv (.map (ents 0 m).toArray m.length) } := by
 obtain ⟨m1,m2⟩:=mp_set (m':=m) h.v;obtain ⟨r2,hc⟩:=h.cs;have no:∀ {r:Value} {l:List Sp.Fd},w.ownsRow N 228 5 r l.length (fdsCells l)->∀ g,r.ownBlock=some g->¬ g=kv:=fun ho g hg e1=>by
  obtain ⟨_,cur,e2⟩:=own_tag ho hg;exact mp_no h.v (e1 ▸ e2)
 refine ⟨⟨⟨r2,m2.heap hc.blk (fun e1=>mp_no h.v (e1 ▸ hc.blk)),m2.own hc.o1 (no hc.o1),m2.own hc.o2 (no hc.o2),hc.ap,hc.bel.trans (m2.below hN (fun k e1=>by have:=h.kN;omega)),hc.cN⟩,h.en.but m2 (fun i hi=>h.nv i hi),h.h.but m2 (fun e1=>h.hv e1),m1,h.nh,h.nv,h.hv,h.kN⟩,m2.mono fun k _ e1 => .inr (.inr (.inl e1))⟩
end
def nodeV (n:Nd)(u:Value):Value := .agg #[.string n.op,.int .i64 n.line,.int .i64 n.col,.string n.name,.int .i64 n.num,u]
abbrev Six6 (n:Nd)(u:Value)(b:Nat):World->Prop:=fun W=>W.cell? ⟨b,0,none⟩=some (.string n.op)/\W.cell? ⟨b,1,none⟩=some (.int .i64 n.line)/\W.cell? ⟨b,2,none⟩=some (.int .i64 n.col)/\W.cell? ⟨b,3,none⟩=some (.string n.name)/\W.cell? ⟨b,4,none⟩=some (.int .i64 n.num)/\W.cell? ⟨b,5,none⟩=some u
theorem six_S {W:World}{b:Nat}{n:Nd}{u:Value}(h:W.heap[b]? = some (.cells #[.string n.op,.int .i64 n.line,.int .i64 n.col,.string n.name,.int .i64 n.num,u] 165 (0,0))):Six6 n u b W :=
 ⟨(blk_cell h 0).trans rfl,(blk_cell h 1).trans rfl,(blk_cell h 2).trans rfl,(blk_cell h 3).trans rfl,(blk_cell h 4).trans rfl,(blk_cell h 5).trans rfl⟩
theorem wrongIf_any {N c q p kh kv:Nat}{r1:Value}{l1:List Sp.Fd}{K:Nat->Nat}{e:Sp.En}{s:Sp.St}{w0 w:World}(h:Xm N c q p r1 l1 K kh kv e s w0 w)(b:Bool)(k:Nat)(hk:k<22)(n:Nd)(u:Value)(hN:N<=w.heap.size)(hl:s.l.length<=1000000000):
  Calls Tryz.prog 174 #[.pointer (some ⟨c,0,none⟩),.bool b,.int .i64 k,nodeV n u] w (XmP N c q p r1 l1 K kh kv e (Sp.wr s b k n) w0 w):=by
 unfold nodeV;obtain ⟨W,hW⟩:∃ W,w.alloc (.cells #[.string n.op,.int .i64 n.line,.int .i64 n.col,.string n.name,.int .i64 n.num,u] 165)=W:=⟨_,rfl⟩;have hbW:Below w.heap.size w W:=by rw [<- hW];exact (Below.refl _ w).alloc (Nat.le_refl _) _
 have kW:W.heap[w.heap.size]? = some (.cells #[.string n.op,.int .i64 n.line,.int .i64 n.col,.string n.name,.int .i64 n.num,u] 165 (0,0)):=by rw [<- hW];exact blk_new w _
 have HSA:=Lib.hid (show Six6 n u w.heap.size W.drew from six_S kW);have HK:=Lib.hid kW;have HH:=Lib.hid h;have hnn:=nodeName_any n u W.drew;rw [nmV_node] at hnn;have HN:=Lib.hid hnn;clear hnn;have HA:=Lib.hid (fun (X:World) (hb:Below w.heap.size w X)=>by
  have hX:=h.below hb hN;obtain ⟨r2,hc⟩:=hX.cs;exact (addIf_any N c 3 k hk b _ r2 s.l ⟨n.name.data.toList,⟨n.line,n.col⟩⟩ X hc.blk rfl hc.o2 (Nat.le_trans hN hb.size) hl).mono fun en w' hA=>(hX.add hc (Nat.le_trans hN hb.size) hA))
 rw [nmV_node] at HA;have HW:=Lib.hid hW;have HB:=Lib.hid hbW;have hwr:Sp.wr s b k n={ s with l:=if b=true then s.l++[⟨k,⟨n.name.data.toList,⟨n.line,n.col⟩⟩⟩] else s.l } := by
  unfold Sp.wr;cases b <;> rfl
 rw [hwr];generalize (if b=true then s.l++[⟨k,⟨n.name.data.toList,⟨n.line,n.col⟩⟩⟩] else s.l)=l' at HA ⊢;clear hW hbW kW hwr h
 go_enter Tryz.func174,Tryz.ntmps174
 go_upto_region 1 with fail
 rw [HW.out];refine wp_region_held_drew (S:=(Six6 n u w.heap.size)) (by kernel_rfl) HSA.out (fun hHeld=>?_);refine wpAnyH_take (i:=0) (oi:={ dst:=some 8,op:=Op.move (Operand.tmp 0),type:=214,pos := "checker.go:132", after:=#[],guard:=none }) (v := .pointer (some ⟨c,0,none⟩)) rfl (by kernel_rfl) (by kernel_rfl) (by kernel_rfl) (fun _ _ _ h=>h) (Or.inl ⟨by rfl,by intro w hSw;(try dsimp only at hSw);go_simp⟩) hHeld ?_
 try simp only [Act.put,List.setIfInBounds_toArray,List.set_cons_zero,List.set_cons_succ]
 refine wpAnyH_take (i:=1) (oi:={ dst:=some 9,op:=Op.nilCheck (Operand.tmp 8),type:=0,pos := "checker.go:132", after:=#[{ on:=0,ground:=Ground.data }],guard:=none }) (v := .pointer (some ⟨c,0,none⟩)) rfl (by kernel_rfl) (by kernel_rfl) (by kernel_rfl) (fun _ _ _ h=>h) (Or.inl ⟨by rfl,by intro w hSw;(try dsimp only at hSw);go_simp⟩) hHeld ?_
 try simp only [Act.put,List.setIfInBounds_toArray,List.set_cons_zero,List.set_cons_succ]
 refine wpAnyH_take (i:=2) (oi:={ dst:=some 10,op:=Op.fieldAddr 147 (Operand.tmp 9) 3,type:=0,pos := "checker.go:132", after:=#[{ on:=1,ground:=Ground.data }],guard:=none }) (v := .pointer (some ⟨c,3,none⟩)) rfl (by kernel_rfl) (by kernel_rfl) (by kernel_rfl) (fun _ _ _ h=>h) (Or.inl ⟨by rfl,by intro w hSw;(try dsimp only at hSw);go_simp⟩) hHeld ?_
 try simp only [Act.put,List.setIfInBounds_toArray,List.set_cons_zero,List.set_cons_succ]
 refine wpAnyH_take (i:=3) (oi:={ dst:=some 11,op:=Op.move (Operand.tmp 1),type:=4,pos := "checker.go:132", after:=#[],guard:=none }) (v := .bool b) rfl (by kernel_rfl) (by kernel_rfl) (by kernel_rfl) (fun _ _ _ h=>h) (Or.inl ⟨by rfl,by intro w hSw;(try dsimp only at hSw);go_simp⟩) hHeld ?_
 try simp only [Act.put,List.setIfInBounds_toArray,List.set_cons_zero,List.set_cons_succ]
 refine wpAnyH_take (i:=4) (oi:={ dst:=some 12,op:=Op.move (Operand.tmp 2),type:=217,pos := "checker.go:132", after:=#[],guard:=none }) (v := .int .i64 (k:Int)) rfl (by kernel_rfl) (by kernel_rfl) (by kernel_rfl) (fun _ _ _ h=>h) (Or.inl ⟨by rfl,by intro w hSw;(try dsimp only at hSw);go_simp⟩) hHeld ?_
 try simp only [Act.put,List.setIfInBounds_toArray,List.set_cons_zero,List.set_cons_succ]
 refine wpAnyH_take (i:=5) (oi:={ dst:=some 13,op:=Op.load 165 (Operand.tmp 7),type:=165,pos := "checker.go:132", after:=#[],guard:=none }) (v := .agg #[.string n.op,.int .i64 n.line,.int .i64 n.col,.string n.name,.int .i64 n.num,u]) rfl (by kernel_rfl) (by kernel_rfl) (by kernel_rfl) (fun _ _ _ h=>h) (Or.inl ⟨by rfl,by intro w hSw;(try dsimp only at hSw);go_simp⟩) hHeld ?_
 try simp only [Act.put,List.setIfInBounds_toArray,List.set_cons_zero,List.set_cons_succ]
 refine wpAnyH_ready (rs:=[6]) (by kernel_rfl) (by simp) ?_;refine AllReadyH.cons (o:={ dst:=some 14,op:=Op.call { callee:=Callee.value (Operand.func 106),args:=#[Operand.tmp 13],argTypes:=#[165] },type:=49,pos := "checker.go:132", after:=#[{ on:=5,ground:=Ground.data }],guard:=none }) rfl (fun K hK=>?_) AllReadyH.nil
 go_simp
 go_at_call 106
 refine HN.out.mono ?_;rintro en w1 ⟨rfl,hb1⟩;have HB1:=Lib.hid ((Below.refl _ W).drew.trans hb1);have hS1:=six_S (HB1.out.block _ (lt_of_heap HK.out) |>.trans HK.out);clear hb1
 go_wp2
 refine hK.out _ _ hS1 (fun hHeld=>?_);clear hK K
 try simp only [Act.put,List.setIfInBounds_toArray,List.set_cons_zero,List.set_cons_succ]
 refine wpAnyH_ready (rs:=[7]) (by kernel_rfl) (by simp) ?_;refine AllReadyH.cons (o:={ dst:=some 15,op:=Op.call { callee:=Callee.value (Operand.func 103),args:=#[Operand.tmp 10,Operand.tmp 11,Operand.tmp 12,Operand.tmp 14],argTypes:=#[144,4,217,49] },type:=0,pos := "checker.go:132", after:=#[{ on:=2,ground:=Ground.data },{ on:=3,ground:=Ground.data },{ on:=4,ground:=Ground.data },{ on:=6,ground:=Ground.data },{ on:=6,ground:=Ground.chain }],guard:=none }) rfl (fun K hK=>?_) AllReadyH.nil
 go_simp
 go_at_call 103
 refine (HA.out _ (HB.out.trans (HB1.out.mono HB.out.size))).mono ?_;rintro en w2 ⟨rfl,hX2,hB2⟩;have hk1:=HB1.out.block _ (lt_of_heap HK.out) |>.trans HK.out
 have hB3:=FrX.trans (But.of_below (HB.out.trans (HB1.out.mono HB.out.size))) hB2;have hS2:=six_S (((HH.out.below (HB.out.trans (HB1.out.mono HB.out.size)) hN).keep hB2 hk1 ⟨by decide,by decide⟩));have HX2:=Lib.hid hX2;have HB3:=Lib.hid hB3;clear hX2 hB2 hB3 hk1
 go_wp2
 refine hK.out _ _ hS2 (fun hHeld=>?_);clear hK K
 try simp only [Act.put,List.setIfInBounds_toArray,List.set_cons_zero,List.set_cons_succ]
 refine wpAnyH_done (by kernel_rfl) ?_ _;clear hS1 hS2 hHeld
 go_wp2
 refine bodyPost_ret (results_none rfl _ _ _) rfl ?_;exact ⟨rfl,HX2.out,HB3.out⟩
end
section
open Go.RowKit Tn Lx
section
variable {N c q p kh:Nat} {r1 r2 v:Value} {l1:List Sp.Fd} {Km:Nat->Nat} {e:Sp.En} {s:Sp.St} {w0 w:World}
theorem cs_fresh (h:Cs N c q p r1 r2 (Mk Km kh v) l1 s.l w0 w)(hE:EnM w Km e)(hH:MpAt w kh s.h)(nh:∀ i,4<=i/\i<=9->Km i≠kh)(kN:N<=kh)(hN:N<=w.heap.size):
  Cs N c q p r1 r2 (Mk Km kh (.map (some w.heap.size))) l1 s.l w0 ((w.alloc (.map #[] 0)).setCell ⟨c,11,none⟩ (.map (some w.heap.size))) /\
  Xm N c q p r1 l1 Km kh w.heap.size e { s with v:=[] } w0 ((w.alloc (.map #[] 0)).setCell ⟨c,11,none⟩ (.map (some w.heap.size)))/\But (fun k=>k=c) w ((w.alloc (.map #[] 0)).setCell ⟨c,11,none⟩ (.map (some w.heap.size))):=by
 obtain ⟨W,hW⟩:∃ W,w.alloc (.map #[] 0)=W:=⟨_,rfl⟩;have hbW:Below w.heap.size w W:=by rw [<- hW];exact (Below.refl _ w).alloc (Nat.le_refl _) _
 have hm:MpAt W w.heap.size []:=by rw [<- hW];exact mp_new w
 have hc:=h.below hbW hN;have hEW:=hE.below hbW;have hHW:=hH.below hbW;have hS:But (fun k=>k=c) W (W.setCell ⟨c,11,none⟩ (.map (some w.heap.size))):=But.setCell (p:=fun k=>k=c) W rfl 11 _;rw [hW];have no:∀ {k:Nat} {m:Sp.Mp},MpAt W k m->¬ k=c:=fun hk e1=>mp_no hk (e1 ▸ hc.blk);have nr:∀ {r:Value} {l:List Sp.Fd},W.ownsRow N 228 5 r l.length (fdsCells l)->∀ k,r.ownBlock=some k->¬ k=c:=fun ho k hk e1=>own_none ho hc.blk (by decide) (e1 ▸ hk);have hC2:Cs N c q p r1 r2 (Mk Km kh (.map (some w.heap.size))) l1 s.l w0 (W.setCell ⟨c,11,none⟩ (.map (some w.heap.size))):=by
  refine ⟨?_,hS.own hc.o1 (nr hc.o1),hS.own hc.o2 (nr hc.o2),hc.ap,hc.bel.trans (hS.below (Nat.le_trans hN hbW.size) (fun k e1=>by have:=hc.cN;omega)),hc.cN⟩;have:=blk_set hc.blk 11 (.map (some w.heap.size));rw [ckF_up (by decide)] at this;exact this
 refine ⟨hC2,⟨⟨r2,hC2⟩,hEW.but hS (fun i hi=>?_),hHW.but hS (no hHW),hm.but hS (no hm),nh,fun i hi e1=>?_,fun e1=>?_,⟨kN,hN⟩⟩,(But.of_below hbW).trans hS⟩
 ·obtain ⟨m,hk⟩:=hEW.map hi;exact no hk
 ·obtain ⟨m,hk⟩:=hE.map hi;have:=hk.lt;omega
 ·have:=hH.lt;omega
end
def FnP (N c q p:Nat)(r1:Value)(l1:List Sp.Fd)(K:Nat->Nat)(kh:Nat)(e:Sp.En)(s:Sp.St)(w0:World)(en:Ending)(w':World):Prop :=
 en = .returned (.tuple #[])/\∃ kv,Xm N c q p r1 l1 K kh kv e s w0 w'
theorem cfun0_any {N c q p kh:Nat}{r1 r2 v:Value}{l1:List Sp.Fd}{Km:Nat->Nat}{e:Sp.En}{s:Sp.St}{w0 w:World}(h:Cs N c q p r1 r2 (Mk Km kh v) l1 s.l w0 w)(hE:EnM w Km e)(hH:MpAt w kh s.h)(nh:∀ i,4<=i/\i<=9->Km i≠kh)(kN:N<=kh)(hN:N<=w.heap.size)(hl:s.l.length<=1000000000)
  (nm:ByteArray) (ln col:Int) (body:Nat) (s':Sp.St)
  (hX:∀ (kv:Nat) (W:World),Xm N c q p r1 l1 Km kh kv e { s with v:=[] } w0 W->N<=W.heap.size->Calls Tryz.prog 109 #[.pointer (some ⟨c,0,none⟩),.int .i64 (body:Int)] W (XmP N c q p r1 l1 Km kh kv e s' w0 W)):
  Calls Tryz.prog 54 #[.pointer (some ⟨c,0,none⟩),.agg #[.string nm,.int .i64 ln,.int .i64 col,.slice none 0 0,.int .i64 (body:Int)]] w (FnP N c q p r1 l1 Km kh e s' w0):=by
 obtain ⟨V,hV⟩:∃ V,w.alloc (.cells #[.string nm,.int .i64 ln,.int .i64 col,.slice none 0 0,.int .i64 (body:Int)] 52)=V:=⟨_,rfl⟩;have hbV:Below w.heap.size w V:=by rw [<- hV];exact (Below.refl _ w).alloc (Nat.le_refl _) _
 have kV:V.heap[w.heap.size]? = some (.cells #[.string nm,.int .i64 ln,.int .i64 col,.slice none 0 0,.int .i64 (body:Int)] 52 (0,0)):=by rw [<- hV];exact blk_new w _
 have hcV:=h.below hbV hN;have hNV:=Nat.le_trans hN hbV.size;obtain ⟨hC1,hX1,hB1⟩:=cs_fresh hcV (hE.below hbV) (hH.below hbV) nh kN hNV;have c11:V.cell? ⟨c,11,none⟩=some v:=(blk_cell hcV.blk 11).trans rfl;have f11:V.frozen? ⟨c,11,none⟩=false:=blk_frozen hcV.blk 11;have c11':∀ o,(V.alloc o).cell? ⟨c,11,none⟩=some v:=fun o=>(World.cell?_alloc_lt V o _ (World.block_lt_of_cell? _ _ c11)).trans c11;have f11':∀ o,(V.alloc o).frozen? ⟨c,11,none⟩=false:=fun o=>blk_frozen (blk_alloc hcV.blk o) 11;have hmk:=va_make V;obtain ⟨X,hXX⟩:∃ X,(V.alloc (.map #[] 0)).setCell ⟨c,11,none⟩ (.map (some V.heap.size))=X:=⟨_,rfl⟩;rw [hXX] at hC1 hX1 hB1;have kX:X.heap[w.heap.size]? = some (.cells #[.string nm,.int .i64 ln,.int .i64 col,.slice none 0 0,.int .i64 (body:Int)] 52 (0,0)):=hB1.heap kV (fun e1=>by rw [e1] at kV;rw [hcV.blk] at kV;injection kV with kV;injection kV with _ kV;exact absurd kV (by decide));have hNX:N<=X.heap.size:=Nat.le_trans hNV hB1.size;have hCd:=hC1.below (Below.refl _ X).drew hNX;have hXd:=hX1.below (Below.refl _ X).drew hNX;have hD:=decName_any N c 3 10 0 (by decide) _ r2 (.slice none 0 0) s.l [] X.drew hCd.blk rfl hCd.o2 hNX (World.ownsRow_nil _ _ _ _) (by decide) hl;have HSA:=Lib.hid (show (fun W:World=>W.cell? ⟨w.heap.size,3,none⟩=some (.slice none 0 0)/\W.cell? ⟨w.heap.size,4,none⟩=some (.int .i64 (body:Int))) X.drew from ⟨(blk_cell kX 3).trans rfl,(blk_cell kX 4).trans rfl⟩);have HV:=Lib.hid hV;have HX:=Lib.hid hXX;have HD:=Lib.hid hD;have HC:=Lib.hid hCd;have HXD:=Lib.hid hXd;have HKX:=Lib.hid (show X.drew.heap[w.heap.size]? = _ from kX);have HN:=Lib.hid (show N<=X.drew.heap.size from hNX);have HE:=Lib.hid hX;clear hV hXX hD hCd hXd kX hC1 hX1 hB1 hbV kV hcV h hE hH nh kN hN hl hX hNV hNX
 go_enter Tryz.func54,Tryz.ntmps54
 go_upto_region 1 with fail
 rw [HV.out]
 go_upto_region 2 with fail
 rw [HX.out];refine wp_region_held_drew (S:=(fun W=>W.cell? ⟨w.heap.size,3,none⟩=some (.slice none 0 0)/\W.cell? ⟨w.heap.size,4,none⟩=some (.int .i64 (body:Int)))) (by kernel_rfl) HSA.out (fun hHeld=>?_);refine wpAnyH_take (i:=0) (oi:={ dst:=some 10,op:=Op.move (Operand.tmp 0),type:=214,pos := "checker.go:74", after:=#[],guard:=none }) (v := .pointer (some ⟨c,0,none⟩)) rfl (by kernel_rfl) (by kernel_rfl) (by kernel_rfl) (fun _ _ _ h=>h) (Or.inl ⟨by rfl,by intro w hSw;(try dsimp only at hSw);go_simp⟩) hHeld ?_
 try simp only [Act.put,List.setIfInBounds_toArray,List.set_cons_zero,List.set_cons_succ]
 refine wpAnyH_take (i:=1) (oi:={ dst:=some 11,op:=Op.nilCheck (Operand.tmp 10),type:=0,pos := "checker.go:74", after:=#[{ on:=0,ground:=Ground.data }],guard:=none }) (v := .pointer (some ⟨c,0,none⟩)) rfl (by kernel_rfl) (by kernel_rfl) (by kernel_rfl) (fun _ _ _ h=>h) (Or.inl ⟨by rfl,by intro w hSw;(try dsimp only at hSw);go_simp⟩) hHeld ?_
 try simp only [Act.put,List.setIfInBounds_toArray,List.set_cons_zero,List.set_cons_succ]
 refine wpAnyH_take (i:=2) (oi:={ dst:=some 12,op:=Op.fieldAddr 147 (Operand.tmp 11) 3,type:=0,pos := "checker.go:74", after:=#[{ on:=1,ground:=Ground.data }],guard:=none }) (v := .pointer (some ⟨c,3,none⟩)) rfl (by kernel_rfl) (by kernel_rfl) (by kernel_rfl) (fun _ _ _ h=>h) (Or.inl ⟨by rfl,by intro w hSw;(try dsimp only at hSw);go_simp⟩) hHeld ?_
 try simp only [Act.put,List.setIfInBounds_toArray,List.set_cons_zero,List.set_cons_succ]
 refine wpAnyH_take (i:=3) (oi:={ dst:=some 13,op:=Op.fieldAddr 52 (Operand.tmp 3) 1,type:=0,pos := "checker.go:74", after:=#[],guard:=none }) (v := .pointer (some ⟨w.heap.size,3,none⟩)) rfl (by kernel_rfl) (by kernel_rfl) (by kernel_rfl) (fun _ _ _ h=>h) (Or.inl ⟨by rfl,by intro w hSw;(try dsimp only at hSw);go_simp⟩) hHeld ?_
 try simp only [Act.put,List.setIfInBounds_toArray,List.set_cons_zero,List.set_cons_succ]
 refine wpAnyH_take (i:=4) (oi:={ dst:=some 14,op:=Op.load 50 (Operand.tmp 13),type:=50,pos := "checker.go:74", after:=#[{ on:=3,ground:=Ground.data }],guard:=none }) (v := .slice none 0 0) rfl (by kernel_rfl) (by kernel_rfl) (by kernel_rfl) (fun _ _ _ h=>h) (Or.inl ⟨by rfl,by intro w hSw;(try dsimp only at hSw);go_simp⟩) hHeld ?_
 try simp only [Act.put,List.setIfInBounds_toArray,List.set_cons_zero,List.set_cons_succ]
 refine wpAnyH_ready (rs:=[5]) (by kernel_rfl) (by simp) ?_;refine AllReadyH.cons (o:={ dst:=some 15,op:=Op.call { callee:=Callee.value (Operand.func 107),args:=#[Operand.tmp 12,Operand.const (Value.int IntKind.i64 10),Operand.tmp 14,Operand.func 108],argTypes:=#[215,217,50,224] },type:=145,pos := "checker.go:74", after:=#[{ on:=2,ground:=Ground.data },{ on:=4,ground:=Ground.data }],guard:=none }) rfl (fun K hK=>?_) AllReadyH.nil
 go_simp
 go_at_call 107
 refine HD.out.mono ?_;rintro en w1 ⟨mb,rfl,hst⟩;obtain ⟨r2',hb1,ho1,hs1⟩:=hst.st;obtain ⟨hC1,_,_,_,hk1,_⟩:=cs_two (v := .nilIface) HC.out HN.out (f:=4) (by decide) hb1 ho1 hs1 hst.fr;have hk:=hst.fr.heap HKX.out (by
  rintro (e1 | e1)
  ·have h:=HKX.out;rw [e1,HC.out.blk] at h;injection h with h;injection h with _ h;exact absurd h (by decide)
  ·exact own_none HC.out.o2 HKX.out (by decide) e1)
 have hX1:Xm N c q p r1 l1 Km kh V.heap.size e { s with v:=[] } w0 w1:=⟨⟨r2',hC1⟩,⟨hk1 _ _ HXD.out.en.ins,hk1 _ _ HXD.out.en.glo,hk1 _ _ HXD.out.en.cha,hk1 _ _ HXD.out.en.exn,hk1 _ _ HXD.out.en.fun_,hk1 _ _ HXD.out.en.hat⟩,hk1 _ _ HXD.out.h,hk1 _ _ HXD.out.v,HXD.out.nh,HXD.out.nv,HXD.out.hv,HXD.out.kN⟩;have HX1:=Lib.hid hX1;have HN1:=Lib.hid (Nat.le_trans HN.out hst.fr.size);have HS1:=Lib.hid (show (fun W=>W.cell? ⟨w.heap.size,3,none⟩=some (.slice none 0 0)/\W.cell? ⟨w.heap.size,4,none⟩=some (.int .i64 (body:Int))) w1 from ⟨(blk_cell hk 3).trans rfl,(blk_cell hk 4).trans rfl⟩);clear hst hb1 ho1 hs1 hC1 hk1 hk hX1
 go_wp2
 refine hK.out _ _ HS1.out (fun hHeld=>?_);clear hK K
 try simp only [Act.put,List.setIfInBounds_toArray,List.set_cons_zero,List.set_cons_succ]
 refine wpAnyH_done (by kernel_rfl) ?_ _;clear hHeld;obtain ⟨d3,d4⟩:=HS1.out;have HE1:=Lib.hid (HE.out _ w1 HX1.out HN1.out);clear HE HX1 HSA HS1
 go_wp2_with fail
 refine wp_loop_rounds 1 ?_;rw [rounds_succ]
 go_wp2_with fail
 refine HE1.out.mono ?_;rintro en w2 ⟨rfl,hX2,hB2⟩;have HX2:=Lib.hid hX2;clear hX2 hB2
 go_wp2
 refine bodyPost_ret (results_none rfl _ _ _) rfl ?_;exact ⟨rfl,_,HX2.out⟩
end
section
open Go.RowKit
theorem insS_any (w:World)(r v:Value)(n:Int)(hn:n<=1):Calls Tryz.prog 175 #[r,.int .i64 0,.int .i64 n,v] w fun e w'=>e = .returned (.tuple #[])/\w'=w:=by
 have h1:¬ ((1:Int)<n):=by omega
 go_enter Tryz.func175,Tryz.ntmps175
 go_wp2
 refine wp_loop_rounds 2 ?_;rw [rounds_succ]
 go_wp2
 refine ⟨rfl,_,results_none rfl _ _ _, ?_⟩;exact ⟨rfl,rfl⟩
theorem stabS_any (w:World)(r v:Value)(n:Int)(hn:n<=1):Calls Tryz.prog 150 #[r,.int .i64 n,v] w fun e w'=>e = .returned (.tuple #[])/\w'=w:=by
 have h1:¬ ((20:Int)<=n):=by omega
 have h2:¬ ((20:Int)<n):=by omega
 have H:=Lib.hid (insS_any w r v n hn)
 go_enter Tryz.func150,Tryz.ntmps150
 go_wp2
 refine wp_loop_rounds 2 ?_;rw [rounds_succ]
 go_wp2_with fail
 refine H.out.mono ?_;rintro e w1 ⟨rfl,rfl⟩
 go_wp2
 refine wp_loop_rounds 2 ?_;rw [rounds_succ]
 go_wp2
 refine ⟨rfl,_,results_none rfl _ _ _, ?_⟩;exact ⟨rfl,rfl⟩
theorem sortS_any (w:World)(ua:Option Addr)(uc:Nat)(v:Value)(n:Nat)(hn:n<=1):Calls Tryz.prog 110 #[.slice ua n uc,v] w fun e w'=>e = .returned (.tuple #[])/\w'=w:=by
 have H:=Lib.hid (stabS_any w (.slice ua n uc) v (n:Int) (by omega))
 go_enter Tryz.func110,Tryz.ntmps110
 go_wp2_with fail
 refine H.out.mono ?_;rintro e w1 ⟨rfl,rfl⟩
 go_wp2
 refine ⟨rfl,_,results_none rfl _ _ _, ?_⟩;exact ⟨rfl,rfl⟩
end
section
open Go.RowKit Tn Lx
theorem Tryz.info43:(Tryz.prog.info? 43).map (fun i=>(i.zero,i.size,i.bytes))=some (some (.agg #[.int .i64 0,.int .i64 0,.int .i64 0,.string ⟨#[]⟩]),4,40):=by kernel_rfl
theorem diags_none (w:World)(ua:Option Addr)(uc:Nat):Calls Tryz.prog 55 #[.slice ua 0 uc] w fun e w'=>e = .returned (.slice none 0 0)/\w'=w:=by
 go_enter Tryz.func55,Tryz.ntmps55
 go_wp2_with fail
 refine (sortS_any _ _ _ _ 0 (by decide)).mono ?_;rintro e w1 ⟨rfl,rfl⟩
 go_wp2_with fail
 refine wp_loop_rounds 1 ?_;rw [rounds_succ]
 go_wp2_with fail
 go_ret
 exact ⟨rfl,rfl⟩
def OneD (w:World)(base:Nat)(v:Value)(cd ln col:Int)(nm:ByteArray):Prop:=w.ownsRow base 43 4 v 1 [.int .i64 cd,.int .i64 ln,.int .i64 col,.string nm]
theorem diags_one (w:World)(g uc:Nat)(k cd ln col:Int)(nm:ByteArray)(h0:w.cell? ⟨g,0,none⟩=some (.int .i64 k))(h1:w.cell? ⟨g,1,none⟩=some (.int .i64 cd))(h2:w.cell? ⟨g,2,none⟩=some (.int .i64 ln))(h3:w.cell? ⟨g,3,none⟩=some (.int .i64 col))(h4:w.cell? ⟨g,4,none⟩=some (.string nm)):
  Calls Tryz.prog 55 #[.slice (some ⟨g,0,none⟩) 1 uc] w fun e w'=>∃ v,e = .returned v/\OneD w' w.heap.size v cd ln col nm/\Below w.heap.size w w':=by
 obtain ⟨W,hW⟩:∃ W,w.alloc (.cells #[.int .i64 k,.int .i64 cd,.int .i64 ln,.int .i64 col,.string nm] 228)=W:=⟨_,rfl⟩;have hbW:Below w.heap.size w W:=by rw [<- hW];exact (Below.refl _ w).alloc (Nat.le_refl _) _
 have kW:W.heap[w.heap.size]? = some (.cells #[.int .i64 k,.int .i64 cd,.int .i64 ln,.int .i64 col,.string nm] 228 (0,0)):=by rw [<- hW];exact blk_new w _
 have s1:W.cell? ⟨w.heap.size,1,none⟩=some (.int .i64 cd):=(blk_cell kW 1).trans rfl;have s2:W.cell? ⟨w.heap.size,2,none⟩=some (.int .i64 ln):=(blk_cell kW 2).trans rfl;have s3:W.cell? ⟨w.heap.size,3,none⟩=some (.int .i64 col):=(blk_cell kW 3).trans rfl;have s4:W.cell? ⟨w.heap.size,4,none⟩=some (.string nm):=(blk_cell kW 4).trans rfl;obtain ⟨i0,hi,hz0,hz1,hz2⟩:=info_parts Tryz.info43;have HI:=Lib.hid hi;have HZ:=Lib.hid hz0;have HZ1:=Lib.hid hz1;have HZ2:=Lib.hid hz2;have HW:=Lib.hid hW;have HB:=Lib.hid hbW;have HK:=Lib.hid kW;clear hi hz0 hz1 hz2 hW hbW kW
 go_enter Tryz.func55,Tryz.ntmps55
 go_wp2_with fail
 refine (sortS_any _ _ _ _ 1 (by decide)).mono ?_;rintro e w1 ⟨rfl,rfl⟩
 go_wp2_with fail
 refine wp_loop_rounds 2 ?_;rw [rounds_succ]
 go_upto_region 6 with fail
 rw [HW.out]
 go_wp2_with (at_builtin;refine wpList_append_own _ rfl _ _ 34 rfl w1.heap.size 43 i0 _ 4 40 Tryz.underlying34 HI.out HZ.out HZ1.out HZ2.out rfl (by decide) _ 0 [] rfl (World.ownsRow_nil _ _ _ _) ⟨W.heap.size,0,none⟩ 1 1 [.int .i64 cd,.int .i64 ln,.int .i64 col,.string nm] rfl rfl ?c1 ?c2 ?c3 ?c4 ?c5 ?_)
 case c1=>exact World.news_of_block (heap_alloc_new W _)
 case c2=>intro u hu;simp at hu;rcases hu with rfl | rfl | rfl | rfl <;> rfl
 case c3=>unfold maxLen;omega
 case c4=>omega
 case c5=>have:=HB.out.size;simp;omega
 intro v' w2 hown hgrow _;obtain ⟨va,vc,rfl⟩:=own_form hown;have hb2:Below w1.heap.size w1 w2:=HB.out.trans (((Below.refl _ W).alloc (Nat.le_refl _) _).mono HB.out.size |>.trans ((But.of_grown (p:=fun _=>False) hgrow (fun j hj=>by cases hj)).below (by have:=HB.out.size;simp;omega) (fun _ h=>h.elim)));have HO:=Lib.hid hown;have HB2:=Lib.hid hb2;clear hown hgrow hb2
 go_wp2_with fail
 rw [rounds_succ]
 go_wp2_with fail
 go_ret
 exact ⟨_,rfl,HO.out,HB2.out⟩
end
end Go.Proofs.YtdfpkmfeldoamaaGreatDoor
