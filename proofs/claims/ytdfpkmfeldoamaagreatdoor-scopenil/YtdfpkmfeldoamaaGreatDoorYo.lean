/- A part of the proof: How a pair of a policy's points is read. -/
import Derived.Test.YtdfpkmfeldoamaaGreatDoorYat
import Derived.Deep.RegionHeld2
set_option linter.unusedSimpArgs false
set_option linter.unusedVariables false
set_option maxRecDepth 100000
set_option maxHeartbeats 8000000
namespace Go.Proofs.YtdfpkmfeldoamaaGreatDoor
open Go.RowKit Tn Lx
theorem Tryz.info195:(Tryz.prog.info? 195).map (fun i=>(i.zero,i.size,i.bytes))=some (some (.agg #[.string ⟨#[]⟩,.int .i64 0,.int .i64 0,.string ⟨#[]⟩,.int .i64 0,.int .i64 0]),6,64):=by kernel_rfl
theorem prsCells_one (d:Pg.Nm × Pg.Nm):∀ u∈prCell d,u.oneCell'=true:=by
 intro u hu;simp only [prCell,List.mem_cons,List.not_mem_nil,or_false] at hu
 rcases hu with rfl | rfl | rfl | rfl | rfl | rfl <;> rfl
def HeldO (pp q x y:Nat)(a b:Pg.Nm)(W:World):Prop:=W.cell? ⟨pp,1,none⟩=some (.pointer (some ⟨q,0,none⟩))/\W.cell? ⟨x,0,none⟩=some (.string ⟨a.text.toArray⟩)/\W.cell? ⟨x,1,none⟩=some (.int .i64 a.at_.line)/\W.cell? ⟨x,2,none⟩=some (.int .i64 a.at_.col)/\W.cell? ⟨y,0,none⟩=some (.string ⟨b.text.toArray⟩)/\W.cell? ⟨y,1,none⟩=some (.int .i64 b.at_.line)/\W.cell? ⟨y,2,none⟩=some (.int .i64 b.at_.col)
structure LiesO (pp q x y r:Nat)(a b:Pg.Nm)(W:World):Prop where
 par:W.heap[pp]? = some (.cells (yparF r q) 87 (0,0))
 low:W.heap[x]? = some (.cells #[.string ⟨a.text.toArray⟩,.int .i64 a.at_.line,.int .i64 a.at_.col] 49 (0,0))
 high:W.heap[y]? = some (.cells #[.string ⟨b.text.toArray⟩,.int .i64 b.at_.line,.int .i64 b.at_.col] 49 (0,0))
theorem LiesO.held {pp q x y r:Nat}{a b:Pg.Nm}{W:World}(h:LiesO pp q x y r a b W):HeldO pp q x y a b W :=
 ⟨(blk_cell h.par 1).trans rfl,(blk_cell h.low 0).trans rfl,(blk_cell h.low 1).trans rfl,(blk_cell h.low 2).trans rfl,(blk_cell h.high 0).trans rfl,(blk_cell h.high 1).trans rfl,(blk_cell h.high 2).trans rfl⟩
theorem LiesO.but {pp q x y r:Nat}{a b:Pg.Nm}{W W':World}{p:Nat->Prop}(h:LiesO pp q x y r a b W)(hB:But p W W')(h1:¬ p pp)(h2:¬ p x)(h3:¬ p y):LiesO pp q x y r a b W':=⟨hB.heap h.par h1,hB.heap h.low h2,hB.heap h.high h3⟩
theorem LiesO.below {pp q x y r:Nat}{a b:Pg.Nm}{W W':World}(h:LiesO pp q x y r a b W)(hb:Below W.heap.size W W'):LiesO pp q x y r a b W':=h.but (p:=fun _=>False) (But.of_below hb) (fun e=>e) (fun e=>e) (fun e=>e)
theorem LiesO.grown {c:Cx}{pp q x y:Nat}{U:Nat->Value}{fs:List HtV}{a b:Pg.Nm}{W w5:World}{g:Yf.St}{o:Obj}(h:LiesO pp q x y c.r a b W)(hP:Qm c q pp U fs W g)(hgrow:((W.alloc o).drew).grownBy w5 (U 3).ownBlock):LiesO pp q x y c.r a b w5:=by
 have h1:But (fun k=>(U 3).ownBlock=some k) W (W.alloc o).drew:=But.of_below ((Below.refl _ W).alloc (Nat.le_refl _) _).drew;exact h.but (h1.trans (But.of_grown hgrow (fun k e=>e))) (own_none hP.ord h.par (by decide)) (own_none hP.ord h.low (by decide)) (own_none hP.ord h.high (by decide))
theorem LiesO.set {pp q x y r:Nat}{a b:Pg.Nm}{W:World}{cs:Array Value}(h:LiesO pp q x y r a b W)(hq:W.heap[q]? = some (.cells cs 84 (0,0)))(i:Nat)(v:Value):LiesO pp q x y r a b (W.setCell ⟨q,i,none⟩ v) :=
 have no:∀ {k:Nat} {ds:Array Value} {t:TypeId},W.heap[k]? = some (.cells ds t (0,0))->t≠84->¬ k=q:=fun hk ht e=>by
  rw [e,hq] at hk;injection hk with hk;injection hk with _ hk;exact ht hk.symm
 h.but (But.setCell (p:=fun k=>k=q) W rfl i v) (no h.par (by decide)) (no h.low (by decide)) (no h.high (by decide))
def ordF (ts:List Tok)(g:Yf.St)(s:Ex.S):Pg.R Yf.St:=(Pg.lift (Yf.order ts s)).bind fun p s1 => .ok { g with ord:=g.ord++[p] } s1
theorem order5_any (c:Cx)(X:Nat->Prop)(w:World)(s:Ex.S)(q pp:Nat)(Z:Nat->Value)(fs:List HtV)(g:Yf.St)(h:Rd c X w s)(hP:Qm c q pp Z fs w g)(hf:g.ord.length<=2000):
  Calls Tryz.prog 92 #[.pointer (some ⟨pp,0,none⟩)] w (ReadQ c X w q pp (ordF c.ts g s)):=by
 have hr1:=h.rlt;have hb1:=h.blt;have hg1:=h.glt;have hsz:=h.size;have hA:=yname5_any c X w s pp q h hP.par hP.ppB;have hE:ordF c.ts g s=(Pg.lift ((Pg.nameAt c.ts [] s).bind fun a s1=>(Pg.nameAt c.ts [[60]] s1).bind fun b s2 => .ok (a,b) s2)).bind fun p s1 => .ok { g with ord:=g.ord++[p] } s1:=rfl;generalize ordF c.ts g s=RR at *;generalize Pg.nameAt c.ts [] s=RA at *;have HA:=Lib.hid hA;have HP:=Lib.hid hP;have HE:=Lib.hid hE;obtain ⟨i0,hi,hz0,hz1,hz2⟩:=info_parts Tryz.info195;have HI:=Lib.hid hi;have HZ:=Lib.hid hz0;have HZ1:=Lib.hid hz1;have HZ2:=Lib.hid hz2;clear hA hP h hE hi hz0 hz1 hz2
 go_enter Tryz.func92,Tryz.ntmps92
 go_wp2_with fail
 refine HA.out.mono ?_;rintro e w1 (⟨a',s2,hF1,rfl,hR1,hK1⟩ | ⟨cd,p1,a',hF1,rfl,hK1⟩)
 rotate_left
 ·have hF:RR = .bad cd p1 []:=by rw [HE.out,hF1];rfl
  have HF:=Lib.hid hF;have HK:=Lib.hid (fun o=>Ky.of_kp (q:=q) (hK1.then_below ((Below.refl _ w1).alloc (Nat.le_refl _) o)));clear hF hF1 hK1;unfold nmV dval
  go_wp2
  go_ret
  exact .inr ⟨cd,p1,[],HF.out,rfl,HK.out _⟩
 have hF1':RR=(Pg.lift ((Pg.nameAt c.ts [[60]] s2).bind fun b s2 => .ok (a',b) s2)).bind fun p s1 => .ok { g with ord:=g.ord++[p] } s1:=by rw [HE.out,hF1];rfl
 have HF1:=Lib.hid hF1';clear hF1 hF1' HE;unfold nmV;obtain ⟨V,hV⟩:∃ V,w1.alloc (.cells #[.string ⟨a'.text.toArray⟩,.int .i64 a'.at_.line,.int .i64 a'.at_.col] 49)=V:=⟨_,rfl⟩;have hbV:Below w1.heap.size w1 V:=by rw [<- hV];exact (Below.refl _ w1).alloc (Nat.le_refl _) _
 have kV:V.heap[w1.heap.size]? = some (.cells #[.string ⟨a'.text.toArray⟩,.int .i64 a'.at_.line,.int .i64 a'.at_.col] 49 (0,0)):=by rw [<- hV];exact blk_new w1 _
 have hKV:=hK1.then_below hbV;have hRV:=hR1.below hbV;have hPV:=HP.out.kp hr1 hb1 hKV;have hw1B:c.B<=w1.heap.size:=hR1.size;have hA2:=behind5_any c X V s2 pp q [60] hRV hPV.par hPV.ppB;have hF1:=HF1.out;generalize Pg.nameAt c.ts [[60]] s2=RB at *;have HF2:=Lib.hid hF1;clear hF1 HF1;have HA2:=Lib.hid hA2;have HV:=Lib.hid hV;have HKV:=Lib.hid hKV;have HPV:=Lib.hid hPV;have HNV:=Lib.hid kV;clear hA2 hV hKV hRV hPV kV hbV hR1 hK1 HA
 go_wp2_with fail
 rw [HV.out];refine HA2.out.mono ?_;rintro e w2 (⟨b',s4,hF2,rfl,hR2,hK2⟩ | ⟨cd,p2,b',hF2,rfl,hK2⟩)
 rotate_left
 ·have hF:RR = .bad cd p2 []:=by rw [HF2.out,hF2];rfl
  have HF:=Lib.hid hF;have HK:=Lib.hid (fun o=>Ky.of_kp (q:=q) ((HKV.out.trans hK2).then_below ((Below.refl _ w2).alloc (Nat.le_refl _) o)));clear hF hF2 hK2;unfold nmV dval
  go_wp2
  go_ret
  exact .inr ⟨cd,p2,[],HF.out,rfl,HK.out _⟩
 have hFR:RR = .ok { g with ord:=g.ord++[(a',b')] } s4:=by rw [HF2.out,hF2];rfl
 have HFR:=Lib.hid hFR;clear hFR hF2 HF2;unfold nmV;obtain ⟨U,hU⟩:∃ U,w2.alloc (.cells #[.string ⟨b'.text.toArray⟩,.int .i64 b'.at_.line,.int .i64 b'.at_.col] 49)=U:=⟨_,rfl⟩;have hbU:Below w2.heap.size w2 U:=by rw [<- hU];exact (Below.refl _ w2).alloc (Nat.le_refl _) _
 have kU:U.heap[w2.heap.size]? = some (.cells #[.string ⟨b'.text.toArray⟩,.int .i64 b'.at_.line,.int .i64 b'.at_.col] 49 (0,0)):=by rw [<- hU];exact blk_new w2 _
 have hKU:=hK2.then_below hbU;have hk1:=hKU.heap HNV.out (by omega) (by omega) (by decide);have hRU:=hR2.below hbU;have hPU:=HPV.out.kp hr1 hb1 hKU;have hUB:c.B<=U.heap.size:=hRU.size;have hLU:LiesO pp q w1.heap.size w2.heap.size c.r a' b' U:=⟨hPU.par,hk1,kU⟩;have hS0:=(hLU.below (Below.refl _ U).drew).held;have hSA:=fun o=>(hLU.below (((Below.refl _ U).alloc (Nat.le_refl _) o).drew)).held;have HLU:=Lib.hid hLU;have HS0:=Lib.hid hS0;have HSA:=Lib.hid hSA;have g3:=(hPU.below (Below.refl _ U).drew).gv (i:=3) (by decide);have g3':=fun o=>(hPU.below (((Below.refl _ U).alloc (Nat.le_refl _) o).drew)).gv (i:=3) (by decide);have hnb:((U.alloc (.cells (prCell (a',b')).toArray 195)).drew).heap[U.heap.size]? = some (.cells (prCell (a',b')).toArray 195 (0,0)):=heap_alloc_new U _;have HNB2:=Lib.hid hnb;have HU:=Lib.hid hU;have HKU:=Lib.hid (HKV.out.trans hKU);have HRU:=Lib.hid hRU;have HPU:=Lib.hid hPU;clear hLU hS0 hSA hnb hU hKU hRU hPU hk1 kU hbU hR2 hK2 HA2 HV HKV HPV HNV
 go_upto_region 5 with fail
 rw [HU.out]
 go_upto_region 7 with fail
 unfold HeldO at HS0 HSA;refine wp_region_held_drew (S:=(fun W=>W.cell? ⟨pp,1,none⟩=some (.pointer (some ⟨q,0,none⟩))/\W.cell? ⟨w1.heap.size,0,none⟩=some (.string ⟨a'.text.toArray⟩)/\W.cell? ⟨w1.heap.size,1,none⟩=some (.int .i64 a'.at_.line)/\W.cell? ⟨w1.heap.size,2,none⟩=some (.int .i64 a'.at_.col)/\W.cell? ⟨w2.heap.size,0,none⟩=some (.string ⟨b'.text.toArray⟩)/\W.cell? ⟨w2.heap.size,1,none⟩=some (.int .i64 b'.at_.line)/\W.cell? ⟨w2.heap.size,2,none⟩=some (.int .i64 b'.at_.col))) (by kernel_rfl) HS0.out (fun hHeld=>?_);refine wpAnyH_take (i:=0) (oi:={ dst:=some 22,op:=Op.move (Operand.tmp 0),type:=85,pos := "items.go:84", after:=#[],guard:=none }) (v := .pointer (some ⟨pp,0,none⟩)) rfl (by kernel_rfl) (by kernel_rfl) (by kernel_rfl) (fun _ _ _ h=>h) (Or.inl ⟨by rfl,by intro w hSw;(try dsimp only at hSw);go_simp⟩) hHeld ?_
 try simp only [Act.put,List.setIfInBounds_toArray,List.set_cons_zero,List.set_cons_succ]
 refine wpAnyH_take (i:=1) (oi:={ dst:=some 23,op:=Op.nilCheck (Operand.tmp 22),type:=0,pos := "items.go:84", after:=#[{ on:=0,ground:=Ground.data }],guard:=none }) (v := .pointer (some ⟨pp,0,none⟩)) rfl (by kernel_rfl) (by kernel_rfl) (by kernel_rfl) (fun _ _ _ h=>h) (Or.inl ⟨by rfl,by intro w hSw;(try dsimp only at hSw);go_simp⟩) hHeld ?_
 try simp only [Act.put,List.setIfInBounds_toArray,List.set_cons_zero,List.set_cons_succ]
 refine wpAnyH_take (i:=2) (oi:={ dst:=some 24,op:=Op.fieldAddr 87 (Operand.tmp 23) 1,type:=0,pos := "items.go:84", after:=#[{ on:=1,ground:=Ground.data }],guard:=none }) (v := .pointer (some ⟨pp,1,none⟩)) rfl (by kernel_rfl) (by kernel_rfl) (by kernel_rfl) (fun _ _ _ h=>h) (Or.inl ⟨by rfl,by intro w hSw;(try dsimp only at hSw);go_simp⟩) hHeld ?_
 try simp only [Act.put,List.setIfInBounds_toArray,List.set_cons_zero,List.set_cons_succ]
 refine wpAnyH_take (i:=3) (oi:={ dst:=some 25,op:=Op.load 30 (Operand.tmp 24),type:=30,pos := "items.go:84", after:=#[{ on:=2,ground:=Ground.data }],guard:=none }) (v := .pointer (some ⟨q,0,none⟩)) rfl (by kernel_rfl) (by kernel_rfl) (by kernel_rfl) (fun _ _ _ h=>h) (Or.inl ⟨by rfl,by intro w hSw;(try dsimp only at hSw);go_simp⟩) hHeld ?_
 try simp only [Act.put,List.setIfInBounds_toArray,List.set_cons_zero,List.set_cons_succ]
 refine wpAnyH_take (i:=4) (oi:={ dst:=some 26,op:=Op.move (Operand.tmp 0),type:=85,pos := "items.go:84", after:=#[],guard:=none }) (v := .pointer (some ⟨pp,0,none⟩)) rfl (by kernel_rfl) (by kernel_rfl) (by kernel_rfl) (fun _ _ _ h=>h) (Or.inl ⟨by rfl,by intro w hSw;(try dsimp only at hSw);go_simp⟩) hHeld ?_
 try simp only [Act.put,List.setIfInBounds_toArray,List.set_cons_zero,List.set_cons_succ]
 refine wpAnyH_take (i:=5) (oi:={ dst:=some 27,op:=Op.nilCheck (Operand.tmp 26),type:=0,pos := "items.go:84", after:=#[{ on:=4,ground:=Ground.data }],guard:=none }) (v := .pointer (some ⟨pp,0,none⟩)) rfl (by kernel_rfl) (by kernel_rfl) (by kernel_rfl) (fun _ _ _ h=>h) (Or.inl ⟨by rfl,by intro w hSw;(try dsimp only at hSw);go_simp⟩) hHeld ?_
 try simp only [Act.put,List.setIfInBounds_toArray,List.set_cons_zero,List.set_cons_succ]
 refine wpAnyH_take (i:=6) (oi:={ dst:=some 28,op:=Op.fieldAddr 87 (Operand.tmp 27) 1,type:=0,pos := "items.go:84", after:=#[{ on:=5,ground:=Ground.data }],guard:=none }) (v := .pointer (some ⟨pp,1,none⟩)) rfl (by kernel_rfl) (by kernel_rfl) (by kernel_rfl) (fun _ _ _ h=>h) (Or.inl ⟨by rfl,by intro w hSw;(try dsimp only at hSw);go_simp⟩) hHeld ?_
 try simp only [Act.put,List.setIfInBounds_toArray,List.set_cons_zero,List.set_cons_succ]
 refine wpAnyH_take (i:=7) (oi:={ dst:=some 29,op:=Op.load 30 (Operand.tmp 28),type:=30,pos := "items.go:84", after:=#[{ on:=6,ground:=Ground.data }],guard:=none }) (v := .pointer (some ⟨q,0,none⟩)) rfl (by kernel_rfl) (by kernel_rfl) (by kernel_rfl) (fun _ _ _ h=>h) (Or.inl ⟨by rfl,by intro w hSw;(try dsimp only at hSw);go_simp⟩) hHeld ?_
 try simp only [Act.put,List.setIfInBounds_toArray,List.set_cons_zero,List.set_cons_succ]
 refine wpAnyH_take (i:=8) (oi:={ dst:=some 30,op:=Op.nilCheck (Operand.tmp 29),type:=0,pos := "items.go:84", after:=#[{ on:=7,ground:=Ground.data }],guard:=none }) (v := .pointer (some ⟨q,0,none⟩)) rfl (by kernel_rfl) (by kernel_rfl) (by kernel_rfl) (fun _ _ _ h=>h) (Or.inl ⟨by rfl,by intro w hSw;(try dsimp only at hSw);go_simp⟩) hHeld ?_
 try simp only [Act.put,List.setIfInBounds_toArray,List.set_cons_zero,List.set_cons_succ]
 refine wpAnyH_take (i:=9) (oi:={ dst:=some 31,op:=Op.fieldAddr 84 (Operand.tmp 30) 3,type:=0,pos := "items.go:84", after:=#[{ on:=8,ground:=Ground.data }],guard:=none }) (v := .pointer (some ⟨q,3,none⟩)) rfl (by kernel_rfl) (by kernel_rfl) (by kernel_rfl) (fun _ _ _ h=>h) (Or.inl ⟨by rfl,by intro w hSw;(try dsimp only at hSw);go_simp⟩) hHeld ?_
 try simp only [Act.put,List.setIfInBounds_toArray,List.set_cons_zero,List.set_cons_succ]
 refine wpAnyH_take (i:=11) (oi:={ dst:=some 33,op:=Op.load 49 (Operand.tmp 3),type:=49,pos := "items.go:84", after:=#[],guard:=none }) (v := .agg #[.string ⟨a'.text.toArray⟩,.int .i64 a'.at_.line,.int .i64 a'.at_.col]) rfl (by kernel_rfl) (by kernel_rfl) (by kernel_rfl) (fun _ _ _ h=>h) (Or.inl ⟨by rfl,by intro w hSw;(try dsimp only at hSw);go_simp⟩) hHeld ?_
 try simp only [Act.put,List.setIfInBounds_toArray,List.set_cons_zero,List.set_cons_succ]
 refine wpAnyH_take (i:=12) (oi:={ dst:=some 34,op:=Op.load 49 (Operand.tmp 5),type:=49,pos := "items.go:84", after:=#[],guard:=none }) (v := .agg #[.string ⟨b'.text.toArray⟩,.int .i64 b'.at_.line,.int .i64 b'.at_.col]) rfl (by kernel_rfl) (by kernel_rfl) (by kernel_rfl) (fun _ _ _ h=>h) (Or.inl ⟨by rfl,by intro w hSw;(try dsimp only at hSw);go_simp⟩) hHeld ?_
 try simp only [Act.put,List.setIfInBounds_toArray,List.set_cons_zero,List.set_cons_succ]
 refine wpAnyH_take (i:=13) (oi:={ dst:=some 35,op:=Op.build 195 #[(0,Operand.tmp 33),(1,Operand.tmp 34)],type:=195,pos := "items.go:84", after:=#[{ on:=11,ground:=Ground.data },{ on:=12,ground:=Ground.data }],guard:=none }) (v := .agg #[.string ⟨a'.text.toArray⟩,.int .i64 a'.at_.line,.int .i64 a'.at_.col,.string ⟨b'.text.toArray⟩,.int .i64 b'.at_.line,.int .i64 b'.at_.col]) rfl (by kernel_rfl) (by kernel_rfl) (by kernel_rfl) (fun _ _ _ h=>h) (Or.inl ⟨by rfl,by intro w hSw;(try dsimp only at hSw);go_simp⟩) hHeld ?_
 try simp only [Act.put,List.setIfInBounds_toArray,List.set_cons_zero,List.set_cons_succ]
 refine wpAnyH_ready (rs:=[10,14]) (by kernel_rfl) (by simp) ?_;refine AllReadyH.cons (o:={ dst:=some 32,op:=Op.load 81 (Operand.tmp 31),type:=81,pos := "items.go:84", after:=#[{ on:=9,ground:=Ground.data }],guard:=none }) rfl (fun K hK=>?_) ?_
 ·go_simp
  refine hK.out _ _ HS0.out (fun hHeld=>?_);clear hK K
  try simp only [Act.put,List.setIfInBounds_toArray,List.set_cons_zero,List.set_cons_succ]
  refine wpAnyH_ready (rs:=[14]) (by kernel_rfl) (by simp) ?_;refine AllReadyH.cons (o:={ dst:=some 36,op:=Op.buildSlice 81 1 #[(0,Operand.tmp 35)],type:=81,pos := "items.go:84", after:=#[{ on:=13,ground:=Ground.data }],guard:=none }) rfl (fun K hK=>?_) AllReadyH.nil
  go_simp
  refine hK.out _ _ (HSA.out _) (fun hHeld=>?_);clear hK K
  try simp only [Act.put,List.setIfInBounds_toArray,List.set_cons_zero,List.set_cons_succ]
  refine wpAnyH_ready (rs:=[15]) (by kernel_rfl) (by simp) ?_;refine AllReadyH.cons (o:={ dst:=some 37,op:=Op.call { callee:=Callee.builtin Builtin.append,args:=#[Operand.tmp 32,Operand.tmp 36],argTypes:=#[81,81] },type:=81,pos := "items.go:84", after:=#[{ on:=10,ground:=Ground.data },{ on:=14,ground:=Ground.data }],guard:=none }) rfl (fun K hK=>?_) AllReadyH.nil;refine step_append_lies _ (by rfl) (.tmp 32) (.tmp 36) 81 (by rfl) c.B 195 i0 _ 6 64 Tryz.underlying81 HI.out HZ.out HZ1.out HZ2.out rfl (by omega) (Z 3) g.ord.length (prsCells g.ord) (by rfl) ((HPU.out.ord.alloc _).drew) ⟨U.heap.size,0,none⟩ 1 1 (prCell (a',b')) (by rfl) (by rfl) (World.news_of_block (cs:=(prCell (a',b')).toArray) (t:=195) (fr:=(0,0)) HNB2.out) (prsCells_one (a',b')) (by omega) (by unfold maxLen;omega) (by omega) (by simp;omega) (U.heap.size+1) (by simp) ?_;intro gg cap w5 hown5 hgrow5 hat5 hlt5;have G:=row_tail_g (l:=3) ⟨by decide,by decide,by decide,by decide⟩ ⟨by decide,by decide,by decide⟩ HRU.out HPU.out.ord HPU.out.pol HPU.out.qB HPU.out.par hown5 hgrow5;have c5:w5.cell? ⟨q,3,none⟩=some (Z 3):=(blk_cell G.1 3).trans rfl;have f5:w5.frozen? ⟨q,3,none⟩=false:=blk_frozen G.1 3;have hL5:=HLU.out.grown HPU.out hgrow5;have hS5:=hL5.held;have hS6:=(hL5.set G.1 3 (.slice (some ⟨gg,0,none⟩) (g.ord.length+1) cap)).held;unfold HeldO at hS5 hS6;refine hK.out _ _ hS5 (fun hHeld=>?_);clear hK K
  try simp only [Act.put,List.setIfInBounds_toArray,List.set_cons_zero,List.set_cons_succ]
  refine wpAnyH_take (i:=16) (oi:={ dst:=some 38,op:=Op.nilCheck (Operand.tmp 25),type:=0,pos := "items.go:84", after:=#[{ on:=3,ground:=Ground.data },{ on:=0,ground:=Ground.phase },{ on:=1,ground:=Ground.phase },{ on:=2,ground:=Ground.phase },{ on:=3,ground:=Ground.phase },{ on:=4,ground:=Ground.phase },{ on:=5,ground:=Ground.phase },{ on:=6,ground:=Ground.phase },{ on:=7,ground:=Ground.phase },{ on:=8,ground:=Ground.phase },{ on:=9,ground:=Ground.phase },{ on:=10,ground:=Ground.phase },{ on:=11,ground:=Ground.phase },{ on:=12,ground:=Ground.phase },{ on:=13,ground:=Ground.phase },{ on:=14,ground:=Ground.phase },{ on:=15,ground:=Ground.phase }],guard:=none }) (v := .pointer (some ⟨q,0,none⟩)) rfl (by kernel_rfl) (by kernel_rfl) (by kernel_rfl) (fun _ _ _ h=>h) (Or.inl ⟨by rfl,by intro w hSw;(try dsimp only at hSw);go_simp⟩) hHeld ?_
  try simp only [Act.put,List.setIfInBounds_toArray,List.set_cons_zero,List.set_cons_succ]
  refine wpAnyH_take (i:=17) (oi:={ dst:=some 39,op:=Op.fieldAddr 84 (Operand.tmp 38) 3,type:=0,pos := "items.go:84", after:=#[{ on:=16,ground:=Ground.data },{ on:=0,ground:=Ground.phase },{ on:=1,ground:=Ground.phase },{ on:=2,ground:=Ground.phase },{ on:=3,ground:=Ground.phase },{ on:=4,ground:=Ground.phase },{ on:=5,ground:=Ground.phase },{ on:=6,ground:=Ground.phase },{ on:=7,ground:=Ground.phase },{ on:=8,ground:=Ground.phase },{ on:=9,ground:=Ground.phase },{ on:=10,ground:=Ground.phase },{ on:=11,ground:=Ground.phase },{ on:=12,ground:=Ground.phase },{ on:=13,ground:=Ground.phase },{ on:=14,ground:=Ground.phase },{ on:=15,ground:=Ground.phase }],guard:=none }) (v := .pointer (some ⟨q,3,none⟩)) rfl (by kernel_rfl) (by kernel_rfl) (by kernel_rfl) (fun _ _ _ h=>h) (Or.inl ⟨by rfl,by intro w hSw;(try dsimp only at hSw);go_simp⟩) hHeld ?_
  try simp only [Act.put,List.setIfInBounds_toArray,List.set_cons_zero,List.set_cons_succ]
  refine wpAnyH_ready (rs:=[18]) (by kernel_rfl) (by simp) ?_;refine AllReadyH.cons (o:={ dst:=none,op:=Op.store 81 (Operand.tmp 39) (Operand.tmp 37),type:=0,pos := "items.go:84", after:=#[{ on:=17,ground:=Ground.data },{ on:=15,ground:=Ground.data },{ on:=15,ground:=Ground.chain },{ on:=0,ground:=Ground.phase },{ on:=1,ground:=Ground.phase },{ on:=2,ground:=Ground.phase },{ on:=3,ground:=Ground.phase },{ on:=4,ground:=Ground.phase },{ on:=5,ground:=Ground.phase },{ on:=6,ground:=Ground.phase },{ on:=7,ground:=Ground.phase },{ on:=8,ground:=Ground.phase },{ on:=9,ground:=Ground.phase },{ on:=10,ground:=Ground.phase },{ on:=11,ground:=Ground.phase },{ on:=12,ground:=Ground.phase },{ on:=13,ground:=Ground.phase },{ on:=14,ground:=Ground.phase },{ on:=15,ground:=Ground.phase }],guard:=none }) rfl (fun K hK=>?_) AllReadyH.nil
  go_simp
  refine hK.out _ _ hS6 (fun hHeld=>?_);clear hK K
  try simp only [Act.put,List.setIfInBounds_toArray,List.set_cons_zero,List.set_cons_succ]
  refine wpAnyH_done (by kernel_rfl) ?_ _;have hv5:(Value.slice (some ⟨gg,0,none⟩) (g.ord.length+1) cap).ownBlock=(Z 3).ownBlock\/∃ g',(Value.slice (some ⟨gg,0,none⟩) (g.ord.length+1) cap).ownBlock=some g'/\U.heap.size<=g':=by
   rcases hat5 with e | e
   ·exact .inl e.symm
   ·exact .inr ⟨gg,rfl,by omega⟩
  have HG:=Lib.hid G.2;have HV5:=Lib.hid hv5;clear G hown5 hgrow5 hat5 hlt5 c5 f5 hL5 hS5 hS6 hv5 hHeld
  go_wp2
  go_ret
  obtain ⟨hR6,hown6,hq6,hp6,hB6⟩:=HG.out;refine .inl ⟨_,_,Vup Z 3 (.slice (some ⟨gg,0,none⟩) (g.ord.length+1) cap),fs,HFR.out,rfl,hR6,⟨hp6,by rw [hq6,polF_put (by decide)],row_other5 hr1 hb1 HPU.out.pol HPU.out.conf ⟨by decide,by decide⟩ hB6 (own_apart5 HPU.out.ord HPU.out.conf (by decide)),row_other5 hr1 hb1 HPU.out.pol HPU.out.integ ⟨by decide,by decide⟩ hB6 (own_apart5 HPU.out.ord HPU.out.integ (by decide)), ?_,row_other5 hr1 hb1 HPU.out.pol HPU.out.hat ⟨by decide,by decide⟩ hB6 (own_apart5 HPU.out.ord HPU.out.hat (by decide)),HPU.out.ish,fun x hx=>row_other5 hr1 hb1 HPU.out.pol (HPU.out.ins x hx) ⟨by decide,by decide⟩ hB6 (own_apart5 HPU.out.ord (HPU.out.ins x hx) (by decide)),HPU.out.apart,HPU.out.apart1,HPU.out.ppB,HPU.out.qB⟩,(Ky.of_kp HKU.out).trans (freeL_ky hB6 HPU.out.ord (.inr (.inl rfl)))⟩
  show World.ownsRow _ _ _ _ _ (g.ord++[(a',b')]).length (prsCells (g.ord++[(a',b')]))
  rw [List.length_append,prsCells_snoc];exact hown6
 ·refine AllReadyH.cons (o:={ dst:=some 36,op:=Op.buildSlice 81 1 #[(0,Operand.tmp 35)],type:=81,pos := "items.go:84", after:=#[{ on:=13,ground:=Ground.data }],guard:=none }) rfl (fun K hK=>?_) AllReadyH.nil
  go_simp
  refine hK.out _ _ (HSA.out _) (fun hHeld=>?_);clear hK K
  try simp only [Act.put,List.setIfInBounds_toArray,List.set_cons_zero,List.set_cons_succ]
  refine wpAnyH_ready (rs:=[10]) (by kernel_rfl) (by simp) ?_;refine AllReadyH.cons (o:={ dst:=some 32,op:=Op.load 81 (Operand.tmp 31),type:=81,pos := "items.go:84", after:=#[{ on:=9,ground:=Ground.data }],guard:=none }) rfl (fun K hK=>?_) AllReadyH.nil
  go_simp
  refine hK.out _ _ (HSA.out _) (fun hHeld=>?_);clear hK K
  try simp only [Act.put,List.setIfInBounds_toArray,List.set_cons_zero,List.set_cons_succ]
  refine wpAnyH_ready (rs:=[15]) (by kernel_rfl) (by simp) ?_;refine AllReadyH.cons (o:={ dst:=some 37,op:=Op.call { callee:=Callee.builtin Builtin.append,args:=#[Operand.tmp 32,Operand.tmp 36],argTypes:=#[81,81] },type:=81,pos := "items.go:84", after:=#[{ on:=10,ground:=Ground.data },{ on:=14,ground:=Ground.data }],guard:=none }) rfl (fun K hK=>?_) AllReadyH.nil;refine step_append_lies _ (by rfl) (.tmp 32) (.tmp 36) 81 (by rfl) c.B 195 i0 _ 6 64 Tryz.underlying81 HI.out HZ.out HZ1.out HZ2.out rfl (by omega) (Z 3) g.ord.length (prsCells g.ord) (by rfl) ((HPU.out.ord.alloc _).drew) ⟨U.heap.size,0,none⟩ 1 1 (prCell (a',b')) (by rfl) (by rfl) (World.news_of_block (cs:=(prCell (a',b')).toArray) (t:=195) (fr:=(0,0)) HNB2.out) (prsCells_one (a',b')) (by omega) (by unfold maxLen;omega) (by omega) (by simp;omega) (U.heap.size+1) (by simp) ?_;intro gg cap w5 hown5 hgrow5 hat5 hlt5;have G:=row_tail_g (l:=3) ⟨by decide,by decide,by decide,by decide⟩ ⟨by decide,by decide,by decide⟩ HRU.out HPU.out.ord HPU.out.pol HPU.out.qB HPU.out.par hown5 hgrow5;have c5:w5.cell? ⟨q,3,none⟩=some (Z 3):=(blk_cell G.1 3).trans rfl;have f5:w5.frozen? ⟨q,3,none⟩=false:=blk_frozen G.1 3;have hL5:=HLU.out.grown HPU.out hgrow5;have hS5:=hL5.held;have hS6:=(hL5.set G.1 3 (.slice (some ⟨gg,0,none⟩) (g.ord.length+1) cap)).held;unfold HeldO at hS5 hS6;refine hK.out _ _ hS5 (fun hHeld=>?_);clear hK K
  try simp only [Act.put,List.setIfInBounds_toArray,List.set_cons_zero,List.set_cons_succ]
  refine wpAnyH_take (i:=16) (oi:={ dst:=some 38,op:=Op.nilCheck (Operand.tmp 25),type:=0,pos := "items.go:84", after:=#[{ on:=3,ground:=Ground.data },{ on:=0,ground:=Ground.phase },{ on:=1,ground:=Ground.phase },{ on:=2,ground:=Ground.phase },{ on:=3,ground:=Ground.phase },{ on:=4,ground:=Ground.phase },{ on:=5,ground:=Ground.phase },{ on:=6,ground:=Ground.phase },{ on:=7,ground:=Ground.phase },{ on:=8,ground:=Ground.phase },{ on:=9,ground:=Ground.phase },{ on:=10,ground:=Ground.phase },{ on:=11,ground:=Ground.phase },{ on:=12,ground:=Ground.phase },{ on:=13,ground:=Ground.phase },{ on:=14,ground:=Ground.phase },{ on:=15,ground:=Ground.phase }],guard:=none }) (v := .pointer (some ⟨q,0,none⟩)) rfl (by kernel_rfl) (by kernel_rfl) (by kernel_rfl) (fun _ _ _ h=>h) (Or.inl ⟨by rfl,by intro w hSw;(try dsimp only at hSw);go_simp⟩) hHeld ?_
  try simp only [Act.put,List.setIfInBounds_toArray,List.set_cons_zero,List.set_cons_succ]
  refine wpAnyH_take (i:=17) (oi:={ dst:=some 39,op:=Op.fieldAddr 84 (Operand.tmp 38) 3,type:=0,pos := "items.go:84", after:=#[{ on:=16,ground:=Ground.data },{ on:=0,ground:=Ground.phase },{ on:=1,ground:=Ground.phase },{ on:=2,ground:=Ground.phase },{ on:=3,ground:=Ground.phase },{ on:=4,ground:=Ground.phase },{ on:=5,ground:=Ground.phase },{ on:=6,ground:=Ground.phase },{ on:=7,ground:=Ground.phase },{ on:=8,ground:=Ground.phase },{ on:=9,ground:=Ground.phase },{ on:=10,ground:=Ground.phase },{ on:=11,ground:=Ground.phase },{ on:=12,ground:=Ground.phase },{ on:=13,ground:=Ground.phase },{ on:=14,ground:=Ground.phase },{ on:=15,ground:=Ground.phase }],guard:=none }) (v := .pointer (some ⟨q,3,none⟩)) rfl (by kernel_rfl) (by kernel_rfl) (by kernel_rfl) (fun _ _ _ h=>h) (Or.inl ⟨by rfl,by intro w hSw;(try dsimp only at hSw);go_simp⟩) hHeld ?_
  try simp only [Act.put,List.setIfInBounds_toArray,List.set_cons_zero,List.set_cons_succ]
  refine wpAnyH_ready (rs:=[18]) (by kernel_rfl) (by simp) ?_;refine AllReadyH.cons (o:={ dst:=none,op:=Op.store 81 (Operand.tmp 39) (Operand.tmp 37),type:=0,pos := "items.go:84", after:=#[{ on:=17,ground:=Ground.data },{ on:=15,ground:=Ground.data },{ on:=15,ground:=Ground.chain },{ on:=0,ground:=Ground.phase },{ on:=1,ground:=Ground.phase },{ on:=2,ground:=Ground.phase },{ on:=3,ground:=Ground.phase },{ on:=4,ground:=Ground.phase },{ on:=5,ground:=Ground.phase },{ on:=6,ground:=Ground.phase },{ on:=7,ground:=Ground.phase },{ on:=8,ground:=Ground.phase },{ on:=9,ground:=Ground.phase },{ on:=10,ground:=Ground.phase },{ on:=11,ground:=Ground.phase },{ on:=12,ground:=Ground.phase },{ on:=13,ground:=Ground.phase },{ on:=14,ground:=Ground.phase },{ on:=15,ground:=Ground.phase }],guard:=none }) rfl (fun K hK=>?_) AllReadyH.nil
  go_simp
  refine hK.out _ _ hS6 (fun hHeld=>?_);clear hK K
  try simp only [Act.put,List.setIfInBounds_toArray,List.set_cons_zero,List.set_cons_succ]
  refine wpAnyH_done (by kernel_rfl) ?_ _;have hv5:(Value.slice (some ⟨gg,0,none⟩) (g.ord.length+1) cap).ownBlock=(Z 3).ownBlock\/∃ g',(Value.slice (some ⟨gg,0,none⟩) (g.ord.length+1) cap).ownBlock=some g'/\U.heap.size<=g':=by
   rcases hat5 with e | e
   ·exact .inl e.symm
   ·exact .inr ⟨gg,rfl,by omega⟩
  have HG:=Lib.hid G.2;have HV5:=Lib.hid hv5;clear G hown5 hgrow5 hat5 hlt5 c5 f5 hL5 hS5 hS6 hv5 hHeld
  go_wp2
  go_ret
  obtain ⟨hR6,hown6,hq6,hp6,hB6⟩:=HG.out;refine .inl ⟨_,_,Vup Z 3 (.slice (some ⟨gg,0,none⟩) (g.ord.length+1) cap),fs,HFR.out,rfl,hR6,⟨hp6,by rw [hq6,polF_put (by decide)],row_other5 hr1 hb1 HPU.out.pol HPU.out.conf ⟨by decide,by decide⟩ hB6 (own_apart5 HPU.out.ord HPU.out.conf (by decide)),row_other5 hr1 hb1 HPU.out.pol HPU.out.integ ⟨by decide,by decide⟩ hB6 (own_apart5 HPU.out.ord HPU.out.integ (by decide)), ?_,row_other5 hr1 hb1 HPU.out.pol HPU.out.hat ⟨by decide,by decide⟩ hB6 (own_apart5 HPU.out.ord HPU.out.hat (by decide)),HPU.out.ish,fun x hx=>row_other5 hr1 hb1 HPU.out.pol (HPU.out.ins x hx) ⟨by decide,by decide⟩ hB6 (own_apart5 HPU.out.ord (HPU.out.ins x hx) (by decide)),HPU.out.apart,HPU.out.apart1,HPU.out.ppB,HPU.out.qB⟩,(Ky.of_kp HKU.out).trans (freeL_ky hB6 HPU.out.ord (.inr (.inl rfl)))⟩
  show World.ownsRow _ _ _ _ _ (g.ord++[(a',b')]).length (prsCells (g.ord++[(a',b')]))
  rw [List.length_append,prsCells_snoc];exact hown6
end Go.Proofs.YtdfpkmfeldoamaaGreatDoor
