/- A part of the proof: A finding more. -/
import Derived.Test.YtdfpkmfeldoamaaGreatDoorYf
import Derived.Test.YtdfpkmfeldoamaaGreatDoorYm
import Derived.Laws.AppendOwn
import Derived.OwnWalk
import Derived.Deep.AppendLies
import Derived.Deep.RegionLaw
import Derived.Deep.RegionWith
import Derived.Deep.RegionHeld2
set_option linter.unusedSimpArgs false
set_option linter.unusedVariables false
set_option maxRecDepth 100000
set_option maxHeartbeats 8000000
namespace Go.Proofs.YtdfpkmfeldoamaaGreatDoor
open Go.RowKit Tn Lx
theorem kcode_any (k:Nat)(hk:k<22)(w:World):Calls Tryz.prog 173 #[.int .i64 k] w fun e w'=>e = .returned (.int .i64 (Sp.code k))/\w=w':=by
 rcases (show k=0\/k=1\/k=2\/k=3\/k=4\/k=5\/k=6\/k=7\/k=8\/k=9\/k=10\/k=11\/k=12\/k=13\/k=14\/k=15\/k=16\/k=17\/k=18\/k=19\/k=20\/k=21 by omega) with rfl | rfl | rfl | rfl | rfl | rfl | rfl | rfl | rfl | rfl | rfl | rfl | rfl | rfl | rfl | rfl | rfl | rfl | rfl | rfl | rfl | rfl <;>
 ·go_enter Tryz.func173,Tryz.ntmps173
  go_wp2
  go_ret
  exact ⟨rfl,rfl⟩
def AddFP (B c i:Nat)(cs:Array Value)(r:Value)(l':List Sp.Fd)(w:World)(e:Ending)(w':World):Prop :=
 ∃ r',e = .returned (.tuple #[])/\w'.heap[c]? = some (.cells (cs.setIfInBounds i r') 147 (0,0))/\w'.ownsRow B 228 5 r' l'.length (fdsCells l')/\But (fun j=>j=c\/r.ownBlock=some j) w w'/\(r'.ownBlock=r.ownBlock\/∃ g,r'.ownBlock=some g/\w.heap.size<=g)
theorem add_tail {B c i:Nat}{cs:Array Value}{r:Value}{l l':List Sp.Fd}{w W w5:World}{o:Obj}{g cap m:Nat}(hc:w.heap[c]? = some (.cells cs 147 (0,0)))(hi:cs[i]? = some r)(ho:w.ownsRow B 228 5 r l.length (fdsCells l))(hW:Below w.heap.size w W)(hown:w5.ownsRow B 228 5 (.slice (some ⟨g,0,none⟩) m cap) m (fdsCells l'))(hm:m=l'.length)(hgrow:(W.alloc o).grownBy w5 r.ownBlock)
  (hat:r.ownBlock=some g\/g=W.heap.size+1):
  w5.cell? ⟨c,i,none⟩=some r/\w5.frozen? ⟨c,i,none⟩=false/\AddFP B c i cs r l' w (.returned (.tuple #[])) (w5.setCell ⟨c,i,none⟩ (.slice (some ⟨g,0,none⟩) m cap)):=by
 subst hm;have hB:But (fun k=>r.ownBlock=some k) w w5:=(But.of_below hW).trans ((But.of_below ((Below.refl _ W).alloc (Nat.le_refl _) o)).trans (But.of_grown hgrow (fun k e=>e)));have hrc:r.ownBlock≠some c:=own_none ho hc (by decide);have hc5:=hB.heap hc hrc;have hgc:g≠c:=fun e=>by
  obtain ⟨_,cur,e1⟩:=own_tag hown (g:=g) rfl;rw [e,hc5] at e1;injection e1 with e1;injection e1 with _ e1;exact absurd e1 (by decide)
 have hS:But (fun k=>k=c) w5 (w5.setCell ⟨c,i,none⟩ (.slice (some ⟨g,0,none⟩) l'.length cap)):=But.setCell (p:=fun k=>k=c) w5 rfl i _;refine ⟨(blk_cell hc5 i).trans hi,blk_frozen hc5 i,_,rfl,blk_set hc5 i _,hS.own hown (fun k hk=>fun e=>hgc ((Option.some.inj (show some g=some k from hk)).trans e)), ?_, ?_⟩
 ·refine ⟨hS.os.trans hB.os,hS.tape.trans hB.tape,hS.output.trans hB.output,Nat.le_trans hB.size hS.size,fun k hk hn=>?_⟩;exact (hS.block k (Nat.lt_of_lt_of_le hk hB.size) (fun e=>hn (.inl e))).trans (hB.block k hk (fun e=>hn (.inr e)))
 ·have:=hW.size
  rcases hat with e | e
  ·exact .inl e.symm
  ·exact .inr ⟨g,rfl,by omega⟩
theorem add_nm {B c i b:Nat}{cs cn:Array Value}{r v:Value}{l:List Sp.Fd}{w W w5:World}{o:Obj}(hc:w.heap[c]? = some (.cells cs 147 (0,0)))(ho:w.ownsRow B 228 5 r l.length (fdsCells l))(hb:w.heap.size<=b)(hn:W.heap[b]? = some (.cells cn 49 (0,0)))(hgrow:(W.alloc o).grownBy w5 r.ownBlock):
  w5.heap[b]? = some (.cells cn 49 (0,0))/\(w5.setCell ⟨c,i,none⟩ v).heap[b]? = some (.cells cn 49 (0,0)):=by
 have hb5:w5.heap[b]? = some (.cells cn 49 (0,0)):=(But.of_grown (p:=fun k=>r.ownBlock=some k) hgrow (fun k e=>e)).heap (blk_alloc hn o) (fun e=>by obtain ⟨_,cur,e1⟩:=own_tag ho e;have:=lt_of_heap e1;omega);refine ⟨hb5,(blk_other (fun e=>?_) i v).trans hb5⟩;have:=lt_of_heap hc;omega
theorem nm_S {W:World}{b:Nat}{n:Pg.Nm}(h:W.heap[b]? = some (.cells #[.string ⟨n.text.toArray⟩,.int .i64 n.at_.line,.int .i64 n.at_.col] 49 (0,0))):W.cell? ⟨b,0,none⟩=some (.string ⟨n.text.toArray⟩)/\W.cell? ⟨b,1,none⟩=some (.int .i64 n.at_.line)/\W.cell? ⟨b,2,none⟩=some (.int .i64 n.at_.col) :=
 ⟨(blk_cell h 0).trans rfl,(blk_cell h 1).trans rfl,(blk_cell h 2).trans rfl⟩
theorem addF_any (B c i k:Nat)(hk:k<22)(cs:Array Value)(r:Value)(l:List Sp.Fd)(n:Pg.Nm)(w:World)(hc:w.heap[c]? = some (.cells cs 147 (0,0)))(hi:cs[i]? = some r)(ho:w.ownsRow B 228 5 r l.length (fdsCells l))(hB:B<=w.heap.size)(hl:l.length<=1000000000):
  Calls Tryz.prog 146 #[.pointer (some ⟨c,i,none⟩),.int .i64 k,nmV n] w (AddFP B c i cs r (l++[⟨k,n⟩]) w):=by
 unfold nmV;obtain ⟨W,hW⟩:∃ W,w.alloc (.cells #[.string ⟨n.text.toArray⟩,.int .i64 n.at_.line,.int .i64 n.at_.col] 49)=W:=⟨_,rfl⟩;have hbW:Below w.heap.size w W:=by rw [<- hW];exact (Below.refl _ w).alloc (Nat.le_refl _) _
 have hsz:=hbW.size;have kW:W.heap[w.heap.size]? = some (.cells #[.string ⟨n.text.toArray⟩,.int .i64 n.at_.line,.int .i64 n.at_.col] 49 (0,0)):=by rw [<- hW];exact blk_new w _
 have hcW:=(hbW.block _ (lt_of_heap hc)).trans hc;have hoW:=own_below ho hbW;have y0:W.cell? ⟨w.heap.size,0,none⟩=some (.string ⟨n.text.toArray⟩):=(blk_cell kW 0).trans rfl;have y1:W.cell? ⟨w.heap.size,1,none⟩=some (.int .i64 n.at_.line):=(blk_cell kW 1).trans rfl;have y2:W.cell? ⟨w.heap.size,2,none⟩=some (.int .i64 n.at_.col):=(blk_cell kW 2).trans rfl;have q1:W.cell? ⟨c,i,none⟩=some r:=(blk_cell hcW i).trans hi;have y0':=fun o=>(World.cell?_alloc_lt W o _ (World.block_lt_of_cell? _ _ y0)).trans y0;have y1':=fun o=>(World.cell?_alloc_lt W o _ (World.block_lt_of_cell? _ _ y1)).trans y1;have y2':=fun o=>(World.cell?_alloc_lt W o _ (World.block_lt_of_cell? _ _ y2)).trans y2;have q1':=fun o=>(World.cell?_alloc_lt W o _ (World.block_lt_of_cell? _ _ q1)).trans q1;obtain ⟨i0,hi0,hz0,hz1,hz2⟩:=info_parts Tryz.info228;have HI:=Lib.hid hi0;have HZ:=Lib.hid hz0;have HZ1:=Lib.hid hz1;have HZ2:=Lib.hid hz2;have HW:=Lib.hid hW;have HO:=Lib.hid hoW.drew;have HC:=Lib.hid hc;have HCI:=Lib.hid hi;have HO0:=Lib.hid ho;have HBW:=Lib.hid hbW;have HK:=Lib.hid (kcode_any k hk);have HKW:=Lib.hid (show W.drew.heap[w.heap.size]? = some (.cells #[.string ⟨n.text.toArray⟩,.int .i64 n.at_.line,.int .i64 n.at_.col] 49 (0,0)) from kW);have HSA:=Lib.hid (nm_S HKW.out);have HSB:=Lib.hid (fun o=>nm_S (blk_alloc HKW.out o));clear hi0 hz0 hz1 hz2 hW hoW hc hi ho hbW kW hcW
 go_enter Tryz.func146,Tryz.ntmps146
 go_upto_region 1 with fail
 rw [HW.out];refine wp_region_held_drew (S:=(fun W=>W.cell? ⟨w.heap.size,0,none⟩=some (.string ⟨n.text.toArray⟩)/\W.cell? ⟨w.heap.size,1,none⟩=some (.int .i64 n.at_.line)/\W.cell? ⟨w.heap.size,2,none⟩=some (.int .i64 n.at_.col))) (by kernel_rfl) HSA.out (fun hHeld=>?_);refine wpAnyH_take (i:=0) (oi:={ dst:=some 6,op:=Op.move (Operand.tmp 0),type:=215,pos := "report.go:60", after:=#[],guard:=none }) (v := .pointer (some ⟨c,i,none⟩)) rfl (by kernel_rfl) (by kernel_rfl) (by kernel_rfl) (fun _ _ _ h=>h) (Or.inl ⟨by rfl,by intro w hSw;(try dsimp only at hSw);go_simp⟩) hHeld ?_
 try simp only [Act.put,List.setIfInBounds_toArray,List.set_cons_zero,List.set_cons_succ]
 refine wpAnyH_take (i:=1) (oi:={ dst:=some 7,op:=Op.move (Operand.tmp 0),type:=215,pos := "report.go:60", after:=#[],guard:=none }) (v := .pointer (some ⟨c,i,none⟩)) rfl (by kernel_rfl) (by kernel_rfl) (by kernel_rfl) (fun _ _ _ h=>h) (Or.inl ⟨by rfl,by intro w hSw;(try dsimp only at hSw);go_simp⟩) hHeld ?_
 try simp only [Act.put,List.setIfInBounds_toArray,List.set_cons_zero,List.set_cons_succ]
 refine wpAnyH_take (i:=2) (oi:={ dst:=some 8,op:=Op.nilCheck (Operand.tmp 7),type:=0,pos := "report.go:60", after:=#[{ on:=1,ground:=Ground.data }],guard:=none }) (v := .pointer (some ⟨c,i,none⟩)) rfl (by kernel_rfl) (by kernel_rfl) (by kernel_rfl) (fun _ _ _ h=>h) (Or.inl ⟨by rfl,by intro w hSw;(try dsimp only at hSw);go_simp⟩) hHeld ?_
 try simp only [Act.put,List.setIfInBounds_toArray,List.set_cons_zero,List.set_cons_succ]
 refine wpAnyH_take (i:=4) (oi:={ dst:=some 10,op:=Op.move (Operand.tmp 1),type:=217,pos := "report.go:60", after:=#[],guard:=none }) (v := .int .i64 (k:Int)) rfl (by kernel_rfl) (by kernel_rfl) (by kernel_rfl) (fun _ _ _ h=>h) (Or.inl ⟨by rfl,by intro w hSw;(try dsimp only at hSw);go_simp⟩) hHeld ?_
 try simp only [Act.put,List.setIfInBounds_toArray,List.set_cons_zero,List.set_cons_succ]
 refine wpAnyH_take (i:=5) (oi:={ dst:=some 11,op:=Op.move (Operand.tmp 1),type:=217,pos := "report.go:60", after:=#[],guard:=none }) (v := .int .i64 (k:Int)) rfl (by kernel_rfl) (by kernel_rfl) (by kernel_rfl) (fun _ _ _ h=>h) (Or.inl ⟨by rfl,by intro w hSw;(try dsimp only at hSw);go_simp⟩) hHeld ?_
 try simp only [Act.put,List.setIfInBounds_toArray,List.set_cons_zero,List.set_cons_succ]
 refine wpAnyH_take (i:=7) (oi:={ dst:=some 13,op:=Op.fieldAddr 49 (Operand.tmp 5) 1,type:=0,pos := "report.go:60", after:=#[],guard:=none }) (v := .pointer (some ⟨w.heap.size,1,none⟩)) rfl (by kernel_rfl) (by kernel_rfl) (by kernel_rfl) (fun _ _ _ h=>h) (Or.inl ⟨by rfl,by intro w hSw;(try dsimp only at hSw);go_simp⟩) hHeld ?_
 try simp only [Act.put,List.setIfInBounds_toArray,List.set_cons_zero,List.set_cons_succ]
 refine wpAnyH_take (i:=8) (oi:={ dst:=some 14,op:=Op.load 41 (Operand.tmp 13),type:=41,pos := "report.go:60", after:=#[{ on:=7,ground:=Ground.data }],guard:=none }) (v := .agg #[.int .i64 n.at_.line,.int .i64 n.at_.col]) rfl (by kernel_rfl) (by kernel_rfl) (by kernel_rfl) (fun _ _ _ h=>h) (Or.inl ⟨by rfl,by intro w hSw;(try dsimp only at hSw);go_simp⟩) hHeld ?_
 try simp only [Act.put,List.setIfInBounds_toArray,List.set_cons_zero,List.set_cons_succ]
 refine wpAnyH_take (i:=9) (oi:={ dst:=some 15,op:=Op.fieldAddr 49 (Operand.tmp 5) 0,type:=0,pos := "report.go:60", after:=#[],guard:=none }) (v := .pointer (some ⟨w.heap.size,0,none⟩)) rfl (by kernel_rfl) (by kernel_rfl) (by kernel_rfl) (fun _ _ _ h=>h) (Or.inl ⟨by rfl,by intro w hSw;(try dsimp only at hSw);go_simp⟩) hHeld ?_
 try simp only [Act.put,List.setIfInBounds_toArray,List.set_cons_zero,List.set_cons_succ]
 refine wpAnyH_take (i:=10) (oi:={ dst:=some 16,op:=Op.load 9 (Operand.tmp 15),type:=9,pos := "report.go:60", after:=#[{ on:=9,ground:=Ground.data }],guard:=none }) (v := .string ⟨n.text.toArray⟩) rfl (by kernel_rfl) (by kernel_rfl) (by kernel_rfl) (fun _ _ _ h=>h) (Or.inl ⟨by rfl,by intro w hSw;(try dsimp only at hSw);go_simp⟩) hHeld ?_
 try simp only [Act.put,List.setIfInBounds_toArray,List.set_cons_zero,List.set_cons_succ]
 refine wpAnyH_ready (rs:=[3,6]) (by kernel_rfl) (by simp) ?_;refine AllReadyH.cons (o:={ dst:=some 9,op:=Op.load 144 (Operand.tmp 8),type:=144,pos := "report.go:60", after:=#[{ on:=2,ground:=Ground.data }],guard:=none }) rfl (fun K hK=>?_) ?_
 ·go_simp
  refine hK.out _ _ HSA.out (fun hHeld=>?_);clear hK K
  try simp only [Act.put,List.setIfInBounds_toArray,List.set_cons_zero,List.set_cons_succ]
  refine wpAnyH_ready (rs:=[6]) (by kernel_rfl) (by simp) ?_;refine AllReadyH.cons (o:={ dst:=some 12,op:=Op.call { callee:=Callee.value (Operand.func 173),args:=#[Operand.tmp 11],argTypes:=#[217] },type:=39,pos := "report.go:60", after:=#[{ on:=5,ground:=Ground.data }],guard:=none }) rfl (fun K hK=>?_) AllReadyH.nil
  go_simp
  go_at_call 173
  refine (HK.out _).mono ?_;rintro e w1 ⟨rfl,rfl⟩
  go_wp2
  refine hK.out _ _ HSA.out (fun hHeld=>?_);clear hK K
  try simp only [Act.put,List.setIfInBounds_toArray,List.set_cons_zero,List.set_cons_succ]
  refine wpAnyH_take (i:=11) (oi:={ dst:=some 17,op:=Op.build 43 #[(0,Operand.tmp 12),(1,Operand.tmp 14),(2,Operand.tmp 16)],type:=43,pos := "report.go:60", after:=#[{ on:=6,ground:=Ground.data },{ on:=8,ground:=Ground.data },{ on:=10,ground:=Ground.data }],guard:=none }) (v := .agg #[.int .i64 (Sp.code k),.int .i64 n.at_.line,.int .i64 n.at_.col,.string ⟨n.text.toArray⟩]) rfl (by kernel_rfl) (by kernel_rfl) (by kernel_rfl) (fun _ _ _ h=>h) (Or.inl ⟨by rfl,by intro w hSw;(try dsimp only at hSw);go_simp⟩) hHeld ?_
  try simp only [Act.put,List.setIfInBounds_toArray,List.set_cons_zero,List.set_cons_succ]
  refine wpAnyH_take (i:=12) (oi:={ dst:=some 18,op:=Op.build 228 #[(0,Operand.tmp 10),(1,Operand.tmp 17)],type:=228,pos := "report.go:60", after:=#[{ on:=4,ground:=Ground.data },{ on:=11,ground:=Ground.data }],guard:=none }) (v := .agg #[.int .i64 (k:Int),.int .i64 (Sp.code k),.int .i64 n.at_.line,.int .i64 n.at_.col,.string ⟨n.text.toArray⟩]) rfl (by kernel_rfl) (by kernel_rfl) (by kernel_rfl) (fun _ _ _ h=>h) (Or.inl ⟨by rfl,by intro w hSw;(try dsimp only at hSw);go_simp⟩) hHeld ?_
  try simp only [Act.put,List.setIfInBounds_toArray,List.set_cons_zero,List.set_cons_succ]
  refine wpAnyH_ready (rs:=[13]) (by kernel_rfl) (by simp) ?_;refine AllReadyH.cons (o:={ dst:=some 19,op:=Op.buildSlice 144 1 #[(0,Operand.tmp 18)],type:=144,pos := "report.go:60", after:=#[{ on:=12,ground:=Ground.data }],guard:=none }) rfl (fun K hK=>?_) AllReadyH.nil
  go_simp
  refine hK.out _ _ (HSB.out _) (fun hHeld=>?_);clear hK K
  try simp only [Act.put,List.setIfInBounds_toArray,List.set_cons_zero,List.set_cons_succ]
  refine wpAnyH_ready (rs:=[14]) (by kernel_rfl) (by simp) ?_;refine AllReadyH.cons (o:={ dst:=some 20,op:=Op.call { callee:=Callee.builtin Builtin.append,args:=#[Operand.tmp 9,Operand.tmp 19],argTypes:=#[144,144] },type:=144,pos := "report.go:60", after:=#[{ on:=3,ground:=Ground.data },{ on:=13,ground:=Ground.data },{ on:=6,ground:=Ground.chain }],guard:=none }) rfl (fun K hK=>?_) AllReadyH.nil;refine step_append_lies _ (by rfl) (.tmp 9) (.tmp 19) 144 (by rfl) B 228 i0 _ 5 48 Tryz.underlying144 HI.out HZ.out HZ1.out HZ2.out rfl (by omega) r l.length (fdsCells l) (by rfl) (HO.out.alloc _) ⟨W.heap.size,0,none⟩ 1 1 (fdCell ⟨k,n⟩) (by rfl) (by rfl) (World.news_of_block (cs:=#[.int .i64 k,.int .i64 (Sp.code k),.int .i64 n.at_.line,.int .i64 n.at_.col,.string ⟨n.text.toArray⟩]) (t:=228) (fr:=(0,0)) (heap_alloc_new W.drew _)) (fdCell_one _) (by omega) (by unfold maxLen;omega) (by omega) (by simp;omega) (W.heap.size+1) (by simp) ?_;intro g cap w5 hown5 hgrow5 hat5 hlt5;have G:=add_tail (l':=l++[⟨k,n⟩]) (i:=i) HC.out HCI.out HO0.out (W:=W.drew) HBW.out.drew (by rw [fdsCells_snoc];exact hown5) (by simp) hgrow5 hat5;have c5:=G.1;have f5:=G.2.1;obtain ⟨n5,n6⟩:=add_nm (i:=i) (v := .slice (some ⟨g,0,none⟩) (l.length+1) cap) HC.out HO0.out (Nat.le_refl _) HKW.out hgrow5;have hS5:=nm_S n5;have hS6:=nm_S n6;refine hK.out _ _ hS5 (fun hHeld=>?_);clear hK K
  try simp only [Act.put,List.setIfInBounds_toArray,List.set_cons_zero,List.set_cons_succ]
  refine wpAnyH_take (i:=15) (oi:={ dst:=some 21,op:=Op.nilCheck (Operand.tmp 6),type:=0,pos := "report.go:60", after:=#[{ on:=0,ground:=Ground.data },{ on:=0,ground:=Ground.phase },{ on:=1,ground:=Ground.phase },{ on:=2,ground:=Ground.phase },{ on:=3,ground:=Ground.phase },{ on:=4,ground:=Ground.phase },{ on:=5,ground:=Ground.phase },{ on:=6,ground:=Ground.phase },{ on:=7,ground:=Ground.phase },{ on:=8,ground:=Ground.phase },{ on:=9,ground:=Ground.phase },{ on:=10,ground:=Ground.phase },{ on:=11,ground:=Ground.phase },{ on:=12,ground:=Ground.phase },{ on:=13,ground:=Ground.phase },{ on:=14,ground:=Ground.phase }],guard:=none }) (v := .pointer (some ⟨c,i,none⟩)) rfl (by kernel_rfl) (by kernel_rfl) (by kernel_rfl) (fun _ _ _ h=>h) (Or.inl ⟨by rfl,by intro w hSw;(try dsimp only at hSw);go_simp⟩) hHeld ?_
  try simp only [Act.put,List.setIfInBounds_toArray,List.set_cons_zero,List.set_cons_succ]
  refine wpAnyH_ready (rs:=[16]) (by kernel_rfl) (by simp) ?_;refine AllReadyH.cons (o:={ dst:=none,op:=Op.store 144 (Operand.tmp 21) (Operand.tmp 20),type:=0,pos := "report.go:60", after:=#[{ on:=15,ground:=Ground.data },{ on:=14,ground:=Ground.data },{ on:=14,ground:=Ground.chain },{ on:=0,ground:=Ground.phase },{ on:=1,ground:=Ground.phase },{ on:=2,ground:=Ground.phase },{ on:=3,ground:=Ground.phase },{ on:=4,ground:=Ground.phase },{ on:=5,ground:=Ground.phase },{ on:=6,ground:=Ground.phase },{ on:=7,ground:=Ground.phase },{ on:=8,ground:=Ground.phase },{ on:=9,ground:=Ground.phase },{ on:=10,ground:=Ground.phase },{ on:=11,ground:=Ground.phase },{ on:=12,ground:=Ground.phase },{ on:=13,ground:=Ground.phase },{ on:=14,ground:=Ground.phase }],guard:=none }) rfl (fun K hK=>?_) AllReadyH.nil
  go_simp
  refine hK.out _ _ hS6 (fun hHeld=>?_);clear hK K
  try simp only [Act.put,List.setIfInBounds_toArray,List.set_cons_zero,List.set_cons_succ]
  refine wpAnyH_done (by kernel_rfl) ?_ _;have HG:=Lib.hid G.2.2;clear G c5 f5 hown5 hgrow5 hat5 hlt5 n5 n6 hS5 hS6 hHeld
  go_wp2
  refine bodyPost_ret (results_none rfl _ _ _) rfl ?_;exact HG.out
 refine AllReadyH.cons (o:={ dst:=some 12,op:=Op.call { callee:=Callee.value (Operand.func 173),args:=#[Operand.tmp 11],argTypes:=#[217] },type:=39,pos := "report.go:60", after:=#[{ on:=5,ground:=Ground.data }],guard:=none }) rfl (fun K hK=>?_) AllReadyH.nil
 ·go_simp
  go_at_call 173
  refine (HK.out _).mono ?_;rintro e w1 ⟨rfl,rfl⟩
  go_wp2
  refine hK.out _ _ HSA.out (fun hHeld=>?_);clear hK K
  try simp only [Act.put,List.setIfInBounds_toArray,List.set_cons_zero,List.set_cons_succ]
  refine wpAnyH_take (i:=11) (oi:={ dst:=some 17,op:=Op.build 43 #[(0,Operand.tmp 12),(1,Operand.tmp 14),(2,Operand.tmp 16)],type:=43,pos := "report.go:60", after:=#[{ on:=6,ground:=Ground.data },{ on:=8,ground:=Ground.data },{ on:=10,ground:=Ground.data }],guard:=none }) (v := .agg #[.int .i64 (Sp.code k),.int .i64 n.at_.line,.int .i64 n.at_.col,.string ⟨n.text.toArray⟩]) rfl (by kernel_rfl) (by kernel_rfl) (by kernel_rfl) (fun _ _ _ h=>h) (Or.inl ⟨by rfl,by intro w hSw;(try dsimp only at hSw);go_simp⟩) hHeld ?_
  try simp only [Act.put,List.setIfInBounds_toArray,List.set_cons_zero,List.set_cons_succ]
  refine wpAnyH_take (i:=12) (oi:={ dst:=some 18,op:=Op.build 228 #[(0,Operand.tmp 10),(1,Operand.tmp 17)],type:=228,pos := "report.go:60", after:=#[{ on:=4,ground:=Ground.data },{ on:=11,ground:=Ground.data }],guard:=none }) (v := .agg #[.int .i64 (k:Int),.int .i64 (Sp.code k),.int .i64 n.at_.line,.int .i64 n.at_.col,.string ⟨n.text.toArray⟩]) rfl (by kernel_rfl) (by kernel_rfl) (by kernel_rfl) (fun _ _ _ h=>h) (Or.inl ⟨by rfl,by intro w hSw;(try dsimp only at hSw);go_simp⟩) hHeld ?_
  try simp only [Act.put,List.setIfInBounds_toArray,List.set_cons_zero,List.set_cons_succ]
  refine wpAnyH_ready (rs:=[3,13]) (by kernel_rfl) (by simp) ?_;refine AllReadyH.cons (o:={ dst:=some 9,op:=Op.load 144 (Operand.tmp 8),type:=144,pos := "report.go:60", after:=#[{ on:=2,ground:=Ground.data }],guard:=none }) rfl (fun K hK=>?_) ?_
  ·go_simp
   refine hK.out _ _ HSA.out (fun hHeld=>?_);clear hK K
   try simp only [Act.put,List.setIfInBounds_toArray,List.set_cons_zero,List.set_cons_succ]
   refine wpAnyH_ready (rs:=[13]) (by kernel_rfl) (by simp) ?_;refine AllReadyH.cons (o:={ dst:=some 19,op:=Op.buildSlice 144 1 #[(0,Operand.tmp 18)],type:=144,pos := "report.go:60", after:=#[{ on:=12,ground:=Ground.data }],guard:=none }) rfl (fun K hK=>?_) AllReadyH.nil
   go_simp
   refine hK.out _ _ (HSB.out _) (fun hHeld=>?_);clear hK K
   try simp only [Act.put,List.setIfInBounds_toArray,List.set_cons_zero,List.set_cons_succ]
   refine wpAnyH_ready (rs:=[14]) (by kernel_rfl) (by simp) ?_;refine AllReadyH.cons (o:={ dst:=some 20,op:=Op.call { callee:=Callee.builtin Builtin.append,args:=#[Operand.tmp 9,Operand.tmp 19],argTypes:=#[144,144] },type:=144,pos := "report.go:60", after:=#[{ on:=3,ground:=Ground.data },{ on:=13,ground:=Ground.data },{ on:=6,ground:=Ground.chain }],guard:=none }) rfl (fun K hK=>?_) AllReadyH.nil;refine step_append_lies _ (by rfl) (.tmp 9) (.tmp 19) 144 (by rfl) B 228 i0 _ 5 48 Tryz.underlying144 HI.out HZ.out HZ1.out HZ2.out rfl (by omega) r l.length (fdsCells l) (by rfl) (HO.out.alloc _) ⟨W.heap.size,0,none⟩ 1 1 (fdCell ⟨k,n⟩) (by rfl) (by rfl) (World.news_of_block (cs:=#[.int .i64 k,.int .i64 (Sp.code k),.int .i64 n.at_.line,.int .i64 n.at_.col,.string ⟨n.text.toArray⟩]) (t:=228) (fr:=(0,0)) (heap_alloc_new W.drew _)) (fdCell_one _) (by omega) (by unfold maxLen;omega) (by omega) (by simp;omega) (W.heap.size+1) (by simp) ?_;intro g cap w5 hown5 hgrow5 hat5 hlt5;have G:=add_tail (l':=l++[⟨k,n⟩]) (i:=i) HC.out HCI.out HO0.out (W:=W.drew) HBW.out.drew (by rw [fdsCells_snoc];exact hown5) (by simp) hgrow5 hat5;have c5:=G.1;have f5:=G.2.1;obtain ⟨n5,n6⟩:=add_nm (i:=i) (v := .slice (some ⟨g,0,none⟩) (l.length+1) cap) HC.out HO0.out (Nat.le_refl _) HKW.out hgrow5;have hS5:=nm_S n5;have hS6:=nm_S n6;refine hK.out _ _ hS5 (fun hHeld=>?_);clear hK K
   try simp only [Act.put,List.setIfInBounds_toArray,List.set_cons_zero,List.set_cons_succ]
   refine wpAnyH_take (i:=15) (oi:={ dst:=some 21,op:=Op.nilCheck (Operand.tmp 6),type:=0,pos := "report.go:60", after:=#[{ on:=0,ground:=Ground.data },{ on:=0,ground:=Ground.phase },{ on:=1,ground:=Ground.phase },{ on:=2,ground:=Ground.phase },{ on:=3,ground:=Ground.phase },{ on:=4,ground:=Ground.phase },{ on:=5,ground:=Ground.phase },{ on:=6,ground:=Ground.phase },{ on:=7,ground:=Ground.phase },{ on:=8,ground:=Ground.phase },{ on:=9,ground:=Ground.phase },{ on:=10,ground:=Ground.phase },{ on:=11,ground:=Ground.phase },{ on:=12,ground:=Ground.phase },{ on:=13,ground:=Ground.phase },{ on:=14,ground:=Ground.phase }],guard:=none }) (v := .pointer (some ⟨c,i,none⟩)) rfl (by kernel_rfl) (by kernel_rfl) (by kernel_rfl) (fun _ _ _ h=>h) (Or.inl ⟨by rfl,by intro w hSw;(try dsimp only at hSw);go_simp⟩) hHeld ?_
   try simp only [Act.put,List.setIfInBounds_toArray,List.set_cons_zero,List.set_cons_succ]
   refine wpAnyH_ready (rs:=[16]) (by kernel_rfl) (by simp) ?_;refine AllReadyH.cons (o:={ dst:=none,op:=Op.store 144 (Operand.tmp 21) (Operand.tmp 20),type:=0,pos := "report.go:60", after:=#[{ on:=15,ground:=Ground.data },{ on:=14,ground:=Ground.data },{ on:=14,ground:=Ground.chain },{ on:=0,ground:=Ground.phase },{ on:=1,ground:=Ground.phase },{ on:=2,ground:=Ground.phase },{ on:=3,ground:=Ground.phase },{ on:=4,ground:=Ground.phase },{ on:=5,ground:=Ground.phase },{ on:=6,ground:=Ground.phase },{ on:=7,ground:=Ground.phase },{ on:=8,ground:=Ground.phase },{ on:=9,ground:=Ground.phase },{ on:=10,ground:=Ground.phase },{ on:=11,ground:=Ground.phase },{ on:=12,ground:=Ground.phase },{ on:=13,ground:=Ground.phase },{ on:=14,ground:=Ground.phase }],guard:=none }) rfl (fun K hK=>?_) AllReadyH.nil
   go_simp
   refine hK.out _ _ hS6 (fun hHeld=>?_);clear hK K
   try simp only [Act.put,List.setIfInBounds_toArray,List.set_cons_zero,List.set_cons_succ]
   refine wpAnyH_done (by kernel_rfl) ?_ _;have HG:=Lib.hid G.2.2;clear G c5 f5 hown5 hgrow5 hat5 hlt5 n5 n6 hS5 hS6 hHeld
   go_wp2
   refine bodyPost_ret (results_none rfl _ _ _) rfl ?_;exact HG.out
  refine AllReadyH.cons (o:={ dst:=some 19,op:=Op.buildSlice 144 1 #[(0,Operand.tmp 18)],type:=144,pos := "report.go:60", after:=#[{ on:=12,ground:=Ground.data }],guard:=none }) rfl (fun K hK=>?_) AllReadyH.nil
  ·go_simp
   refine hK.out _ _ (HSB.out _) (fun hHeld=>?_);clear hK K
   try simp only [Act.put,List.setIfInBounds_toArray,List.set_cons_zero,List.set_cons_succ]
   refine wpAnyH_ready (rs:=[3]) (by kernel_rfl) (by simp) ?_;refine AllReadyH.cons (o:={ dst:=some 9,op:=Op.load 144 (Operand.tmp 8),type:=144,pos := "report.go:60", after:=#[{ on:=2,ground:=Ground.data }],guard:=none }) rfl (fun K hK=>?_) AllReadyH.nil
   go_simp
   refine hK.out _ _ (HSB.out _) (fun hHeld=>?_);clear hK K
   try simp only [Act.put,List.setIfInBounds_toArray,List.set_cons_zero,List.set_cons_succ]
   refine wpAnyH_ready (rs:=[14]) (by kernel_rfl) (by simp) ?_;refine AllReadyH.cons (o:={ dst:=some 20,op:=Op.call { callee:=Callee.builtin Builtin.append,args:=#[Operand.tmp 9,Operand.tmp 19],argTypes:=#[144,144] },type:=144,pos := "report.go:60", after:=#[{ on:=3,ground:=Ground.data },{ on:=13,ground:=Ground.data },{ on:=6,ground:=Ground.chain }],guard:=none }) rfl (fun K hK=>?_) AllReadyH.nil;refine step_append_lies _ (by rfl) (.tmp 9) (.tmp 19) 144 (by rfl) B 228 i0 _ 5 48 Tryz.underlying144 HI.out HZ.out HZ1.out HZ2.out rfl (by omega) r l.length (fdsCells l) (by rfl) (HO.out.alloc _) ⟨W.heap.size,0,none⟩ 1 1 (fdCell ⟨k,n⟩) (by rfl) (by rfl) (World.news_of_block (cs:=#[.int .i64 k,.int .i64 (Sp.code k),.int .i64 n.at_.line,.int .i64 n.at_.col,.string ⟨n.text.toArray⟩]) (t:=228) (fr:=(0,0)) (heap_alloc_new W.drew _)) (fdCell_one _) (by omega) (by unfold maxLen;omega) (by omega) (by simp;omega) (W.heap.size+1) (by simp) ?_;intro g cap w5 hown5 hgrow5 hat5 hlt5;have G:=add_tail (l':=l++[⟨k,n⟩]) (i:=i) HC.out HCI.out HO0.out (W:=W.drew) HBW.out.drew (by rw [fdsCells_snoc];exact hown5) (by simp) hgrow5 hat5;have c5:=G.1;have f5:=G.2.1;obtain ⟨n5,n6⟩:=add_nm (i:=i) (v := .slice (some ⟨g,0,none⟩) (l.length+1) cap) HC.out HO0.out (Nat.le_refl _) HKW.out hgrow5;have hS5:=nm_S n5;have hS6:=nm_S n6;refine hK.out _ _ hS5 (fun hHeld=>?_);clear hK K
   try simp only [Act.put,List.setIfInBounds_toArray,List.set_cons_zero,List.set_cons_succ]
   refine wpAnyH_take (i:=15) (oi:={ dst:=some 21,op:=Op.nilCheck (Operand.tmp 6),type:=0,pos := "report.go:60", after:=#[{ on:=0,ground:=Ground.data },{ on:=0,ground:=Ground.phase },{ on:=1,ground:=Ground.phase },{ on:=2,ground:=Ground.phase },{ on:=3,ground:=Ground.phase },{ on:=4,ground:=Ground.phase },{ on:=5,ground:=Ground.phase },{ on:=6,ground:=Ground.phase },{ on:=7,ground:=Ground.phase },{ on:=8,ground:=Ground.phase },{ on:=9,ground:=Ground.phase },{ on:=10,ground:=Ground.phase },{ on:=11,ground:=Ground.phase },{ on:=12,ground:=Ground.phase },{ on:=13,ground:=Ground.phase },{ on:=14,ground:=Ground.phase }],guard:=none }) (v := .pointer (some ⟨c,i,none⟩)) rfl (by kernel_rfl) (by kernel_rfl) (by kernel_rfl) (fun _ _ _ h=>h) (Or.inl ⟨by rfl,by intro w hSw;(try dsimp only at hSw);go_simp⟩) hHeld ?_
   try simp only [Act.put,List.setIfInBounds_toArray,List.set_cons_zero,List.set_cons_succ]
   refine wpAnyH_ready (rs:=[16]) (by kernel_rfl) (by simp) ?_;refine AllReadyH.cons (o:={ dst:=none,op:=Op.store 144 (Operand.tmp 21) (Operand.tmp 20),type:=0,pos := "report.go:60", after:=#[{ on:=15,ground:=Ground.data },{ on:=14,ground:=Ground.data },{ on:=14,ground:=Ground.chain },{ on:=0,ground:=Ground.phase },{ on:=1,ground:=Ground.phase },{ on:=2,ground:=Ground.phase },{ on:=3,ground:=Ground.phase },{ on:=4,ground:=Ground.phase },{ on:=5,ground:=Ground.phase },{ on:=6,ground:=Ground.phase },{ on:=7,ground:=Ground.phase },{ on:=8,ground:=Ground.phase },{ on:=9,ground:=Ground.phase },{ on:=10,ground:=Ground.phase },{ on:=11,ground:=Ground.phase },{ on:=12,ground:=Ground.phase },{ on:=13,ground:=Ground.phase },{ on:=14,ground:=Ground.phase }],guard:=none }) rfl (fun K hK=>?_) AllReadyH.nil
   go_simp
   refine hK.out _ _ hS6 (fun hHeld=>?_);clear hK K
   try simp only [Act.put,List.setIfInBounds_toArray,List.set_cons_zero,List.set_cons_succ]
   refine wpAnyH_done (by kernel_rfl) ?_ _;have HG:=Lib.hid G.2.2;clear G c5 f5 hown5 hgrow5 hat5 hlt5 n5 n6 hS5 hS6 hHeld
   go_wp2
   refine bodyPost_ret (results_none rfl _ _ _) rfl ?_;exact HG.out
theorem addIf_any (B c i k:Nat)(hk:k<22)(b:Bool)(cs:Array Value)(r:Value)(l:List Sp.Fd)(n:Pg.Nm)(w:World)(hc:w.heap[c]? = some (.cells cs 147 (0,0)))(hi:cs[i]? = some r)(ho:w.ownsRow B 228 5 r l.length (fdsCells l))(hB:B<=w.heap.size)(hl:l.length<=1000000000):
  Calls Tryz.prog 103 #[.pointer (some ⟨c,i,none⟩),.bool b,.int .i64 k,nmV n] w (AddFP B c i cs r (if b=true then l++[⟨k,n⟩] else l) w):=by
 unfold nmV;obtain ⟨W,hW⟩:∃ W,w.alloc (.cells #[.string ⟨n.text.toArray⟩,.int .i64 n.at_.line,.int .i64 n.at_.col] 49)=W:=⟨_,rfl⟩;have hbW:Below w.heap.size w W:=by rw [<- hW];exact (Below.refl _ w).alloc (Nat.le_refl _) _
 have kW:W.heap[w.heap.size]? = some (.cells #[.string ⟨n.text.toArray⟩,.int .i64 n.at_.line,.int .i64 n.at_.col] 49 (0,0)):=by rw [<- hW];exact blk_new w _
 have hcW:=(hbW.block _ (lt_of_heap hc)).trans hc;have hoW:=own_below ho hbW;have y0:W.cell? ⟨w.heap.size,0,none⟩=some (.string ⟨n.text.toArray⟩):=(blk_cell kW 0).trans rfl;have y1:W.cell? ⟨w.heap.size,1,none⟩=some (.int .i64 n.at_.line):=(blk_cell kW 1).trans rfl;have y2:W.cell? ⟨w.heap.size,2,none⟩=some (.int .i64 n.at_.col):=(blk_cell kW 2).trans rfl;have hA:=addF_any B c i k hk cs r l n W hcW hi hoW (Nat.le_trans hB hbW.size) hl;unfold nmV at hA;have HA:=Lib.hid hA;have HW:=Lib.hid hW;have HBW:=Lib.hid hbW;have HC:=Lib.hid hcW;have HCI:=Lib.hid hi;have HO:=Lib.hid hoW;clear hA hW hbW hcW hi hoW ho hc kW
 cases b with
 | false =>
  go_enter Tryz.func103,Tryz.ntmps103
  go_wp2_with fail
  rw [HW.out];refine bodyPost_ret (results_none rfl _ _ _) rfl ?_;exact ⟨r,rfl,by rw [setp_same HCI.out];exact HC.out,HO.out,But.of_below HBW.out,.inl rfl⟩
 | true =>
  go_enter Tryz.func103,Tryz.ntmps103
  go_wp2_with fail
  rw [HW.out]
  go_wp2_with fail
  refine HA.out.mono ?_;rintro e w1 ⟨r',rfl,h1,h2,h3,h4⟩;have H1:=Lib.hid h1;have H2:=Lib.hid h2;have H3:=Lib.hid h3;have H4:=Lib.hid h4;clear h1 h2 h3 h4
  go_wp2
  refine bodyPost_ret (results_none rfl _ _ _) rfl ?_;refine ⟨r',rfl,H1.out,H2.out,(But.of_below HBW.out).trans H3.out, ?_⟩
  rcases H4.out with e | ⟨g,e,hg⟩
  ·exact .inl e
  ·exact .inr ⟨g,e,Nat.le_trans HBW.out.size hg⟩
theorem has5_any (k:Nat)(m:Sp.Mp)(t:B)(w:World)(h:MpAt w k m):Calls Tryz.prog 104 #[.map (some k),.string ⟨t.toArray⟩] w fun e w'=>e = .returned (.bool (Sp.has m t))/\w=w':=by
 have hL:=pl_look (t:=t) h
 go_enter Tryz.func104,Tryz.ntmps104
 go_wp2
 go_ret
 exact ⟨rfl,rfl⟩
theorem nmV_node (n:Nd):nmV ⟨n.name.data.toList,⟨n.line,n.col⟩⟩ = .agg #[.string n.name,.int .i64 n.line,.int .i64 n.col]:=rfl
theorem nodeName_any (n:Nd)(v:Value)(w:World):Calls Tryz.prog 106 #[.agg #[.string n.op,.int .i64 n.line,.int .i64 n.col,.string n.name,.int .i64 n.num,v]] w fun e w'=>e = .returned (nmV ⟨n.name.data.toList,⟨n.line,n.col⟩⟩)/\Below w.heap.size w w':=by
 have kR:((w.alloc (.cells #[.string n.op,.int .i64 n.line,.int .i64 n.col,.string n.name,.int .i64 n.num,v] 165)).alloc (.cells #[.string n.name,.int .i64 n.line,.int .i64 n.col] 49)).heap[w.heap.size+1]? = some (.cells #[.string n.name,.int .i64 n.line,.int .i64 n.col] 49 (0,0)):=by
  have:=blk_new (w.alloc (.cells #[.string n.op,.int .i64 n.line,.int .i64 n.col,.string n.name,.int .i64 n.num,v] 165)) (.cells #[.string n.name,.int .i64 n.line,.int .i64 n.col] 49);rwa [World.size_alloc] at this
 have r0:=(blk_cell kR 0).trans rfl;have r1:=(blk_cell kR 1).trans rfl;have r2:=(blk_cell kR 2).trans rfl
 go_enter Tryz.func106,Tryz.ntmps106
 go_wp2
 refine bodyPost_ret (v := .agg #[.string n.name,.int .i64 n.line,.int .i64 n.col]) (by simp [results,Tryz.results106,go_sem,r0,r1,r2]) rfl ⟨(by rw [nmV_node]),((Below.refl _ w).alloc (Nat.le_refl _) _).alloc (by simp) _⟩
end Go.Proofs.YtdfpkmfeldoamaaGreatDoor
