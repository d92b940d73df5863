/- A part of the proof: A part of the proof. -/
import Derived.Test.YtninlbknklbofaaGreatDoorFitS
import Derived.Test.YtninlbknklbofaaGreatDoorLFloat
import Derived.Test.YtninlbknklbofaaGreatDoorSemiS
import Derived.Test.YtninlbknklbofaaGreatDoorTAdd
import Derived.Test.YtninlbknklbofaaGreatDoorTLeaf
import Derived.Shelf.Abstract
import Derived.Shelf.RegionOpen
import Derived.OwnWalkIn
import Derived.TacticsInMore
import Derived.LoopNIn
import Derived.LoopIn
set_option linter.unusedSimpArgs false
set_option linter.unusedVariables false
set_option maxRecDepth 100000
set_option maxHeartbeats 4000000
namespace Go.Proofs.YtninlbknklbofaaGreatDoor
open Go.RowKit Go.Shelf Tn
theorem Sh_ends_no (ms:List Nd)(u:Nat)(n:Nd)(h1:n.op≠⟨#[108,101,116]⟩)(h2:n.op≠⟨#[105,102]⟩)(h3:n.op≠⟨#[116,114,121]⟩):Sh.ends ms (u+1) n=false:=by
 simp [Sh.ends,h1,h2,h3]
theorem Sh_ends_let (ms:List Nd)(u:Nat)(n:Nd)(h1:n.op=⟨#[108,101,116]⟩):Sh.ends ms (u+1) n=true:=by simp [Sh.ends,h1]
theorem Sh_ends_if (ms:List Nd)(u:Nat)(n:Nd)(h1:n.op=⟨#[105,102]⟩\/n.op=⟨#[116,114,121]⟩):Sh.ends ms (u+1) n=Sh.ends ms u (nd ms (kid n.kids (n.kids.length-1)).toNat):=by
 have h0:n.op≠⟨#[108,101,116]⟩:=by rcases h1 with h | h <;> (rw [h];exact fun e=>by injection e with e;injection e with e;simp at e)
 rw [Sh.ends,if_neg h0,if_pos h1]
theorem ends_any (c:Pc)(bt:Nat)(ao:Option Addr)(cap:Nat)(ms:List Nd)(hw:WF ms)(i:Nat):i<ms.length->Fit ms i->∀ (u:Nat),i<u->∀ (w:World) (ka:Option Addr) (kc:Nat),En c bt ao cap ms w->w.cell? ⟨c.bp,0,none⟩=some c.tv->c.N<=w.heap.size ->
  w.ownsRow 0 3 1 (.slice ka (nd ms i).kids.length kc) (nd ms i).kids.length (ints (nd ms i).kids) ->
  Calls Tryz.prog 107 #[.pointer (some ⟨c.bp,0,none⟩),nval (nd ms i) ka kc] w fun e w'=>e = .returned (.bool (Sh.ends ms u (nd ms i)))/\Below w.heap.size w w':=by
 induction i using Nat.strongRecOn with
 | _ i ih =>
  intro hi hfit u hu w ka kc he hct hN ho;obtain ⟨u,rfl⟩:∃ v,u=v+1:=⟨u-1,by omega⟩;have hself:=hfit.self hw hi;have IH:∀ q,q<i->(q:Int)∈(nd ms i).kids->∀ (w:World) (ka:Option Addr) (kc:Nat),En c bt ao cap ms w->w.cell? ⟨c.bp,0,none⟩=some c.tv->c.N<=w.heap.size ->
    w.ownsRow 0 3 1 (.slice ka (nd ms q).kids.length kc) (nd ms q).kids.length (ints (nd ms q).kids) ->
    Calls Tryz.prog 107 #[.pointer (some ⟨c.bp,0,none⟩),nval (nd ms q) ka kc] w fun e w'=>e = .returned (.bool (Sh.ends ms u (nd ms q)))/\Below w.heap.size w w':=fun q hq hm=>ih q hq (by omega) (by have:=hfit.kid hw hi hm;rwa [Int.toNat_natCast] at this) u (by omega)
  have hkid:=fun k hk=>kid_lt hw hi (k:=k) hk;have hgood:∀ q,q<i->q<ms.length:=fun q hq=>by omega
  have hfew:∀ q,q<i->(q:Int)∈(nd ms i).kids->(nd ms q).kids.length<=999000:=fun q hq hm=>by
   have:=(hfit.kid hw hi hm).self hw (by rw [Int.toNat_natCast];omega);rw [Int.toNat_natCast] at this;exact this.few
  clear ih hfit;generalize hn:nd ms i=n at *;obtain ⟨W,hW⟩:∃ W,w.alloc (.cells #[.string n.op,.int .i64 n.line,.int .i64 n.col,.string n.name,.int .i64 n.num,.slice ka n.kids.length kc] 30)=W:=⟨_,rfl⟩;have hbW:Below w.heap.size w W:=by rw [<- hW];exact (Below.refl _ w).alloc (Nat.le_refl _) _
  have hbox:W.heap[w.heap.size]? = some (.cells #[.string n.op,.int .i64 n.line,.int .i64 n.col,.string n.name,.int .i64 n.num,.slice ka n.kids.length kc] 30 (0,0)):=by rw [<- hW];exact blk_new w _
  have heW:=he.below (hbW.mono hN);have hctW:W.cell? ⟨c.bp,0,none⟩=some (.pointer (some ⟨bt,0,none⟩)):=by rw [hbW.cell (p:=⟨c.bp,0,none⟩) (World.block_lt_of_cell? _ _ hct),hct,he.tv]
  have hoW:=own_below ho hbW;have hsz:=hbW.size;have HW:=Lib.hid hW;have HB:=Lib.hid hbW;have HBX:=Lib.hid hbox;have HE:=Lib.hid heW;have HC:=Lib.hid hctW;have HO:=Lib.hid hoW;have HI:=Lib.hid IH;have HKD:=Lib.hid hkid;have HGD:=Lib.hid hgood;have HFW:=Lib.hid hfew;have HS:=Lib.hid hself;clear hW hbW hbox heW hctW hoW IH hkid hgood hfew hself he hct ho hn hw
  by_cases hlet:n.op=⟨#[108,101,116]⟩
  ·rw [Sh_ends_let ms u n hlet];unfold nval;rw [hlet] at HW ⊢
   go_enter Tryz.func107,Tryz.ntmps107
   go_wp2
   go_ret
   rw [HW.out];exact ⟨rfl,HB.out⟩
  ·by_cases hif:n.op=⟨#[105,102]⟩\/n.op=⟨#[116,114,121]⟩
   ·rw [Sh_ends_if ms u n hif];have tt:(n.op.toList==[108,101,116])=false:=by rw [tl_beq];exact decide_eq_false hlet
    rcases hif with hop | hop
    ·have hkl:n.kids.length=3:=by have:=well_kids (a:=1) (b:=3) HS.out.well (by rw [hop];kernel_rfl) (by decide);omega
     have t2:(n.op.toList==[105,102])=true:=by rw [tl_beq];exact decide_eq_true hop
     clear hop hlet;obtain ⟨g,rfl⟩:∃ g,ka=some ⟨g,0,none⟩:=by
      rcases HO.out.2 with ⟨_,e⟩ | ⟨g,cp,cur,e,_⟩
      ·omega
      ·injection e with e1 _ _;exact ⟨g,e1⟩
     have hm:n.kids.length=3:=hkl;have hmem:=kid_mem (ks:=n.kids) (i:=2) (by omega);obtain ⟨q,hq⟩:∃ q:Nat,kid n.kids 2=(q:Int):=⟨(kid n.kids 2).toNat,(HKD.out _ hmem).2.symm⟩;have hqi:q<i:=by have:=(HKD.out _ hmem).1;rw [hq,Int.toNat_natCast] at this;exact this
     rw [hq] at hmem;have hql:=HGD.out q hqi;have hqf:=HFW.out q hqi hmem;have hR:=HI.out q hqi hmem;rw [show n.kids.length-1=2 by omega,hq,Int.toNat_natCast];have q1:=HC.out;have q2:W.cell? ⟨w.heap.size,5,none⟩=some (.slice (some ⟨g,0,none⟩) 3 kc):=by rw [<- hm];exact (blk_cell HBX.out 5).trans rfl
     have q3:W.cell? ⟨g,2,none⟩=some (.int .i64 (q:Int)):=by have:=own_cell HO.out (ints_kid (l:=n.kids) (j:=2) (by omega));rwa [hq] at this
     have q0:W.cell? ⟨w.heap.size,0,none⟩=some (.string n.op):=(blk_cell HBX.out 0).trans rfl;have KB:∀ X,Below W.heap.size W X->(X.cell? ⟨c.bp,0,none⟩=some (.pointer (some ⟨bt,0,none⟩))/\X.cell? ⟨w.heap.size,5,none⟩=some (.slice (some ⟨g,0,none⟩) 3 kc)/\X.cell? ⟨g,2,none⟩=some (.int .i64 (q:Int))/\Below W.heap.size W X):=fun X h =>
      ⟨(h.cell (p:=⟨c.bp,0,none⟩) (World.block_lt_of_cell? _ _ q1)).trans q1,(h.cell (p:=⟨w.heap.size,5,none⟩) (World.block_lt_of_cell? _ _ q2)).trans q2,(h.cell (p:=⟨g,2,none⟩) (World.block_lt_of_cell? _ _ q3)).trans q3,h⟩
     have KA:∀ X o,(X.cell? ⟨c.bp,0,none⟩=some (.pointer (some ⟨bt,0,none⟩))/\X.cell? ⟨w.heap.size,5,none⟩=some (.slice (some ⟨g,0,none⟩) 3 kc)/\X.cell? ⟨g,2,none⟩=some (.int .i64 (q:Int))/\Below W.heap.size W X)->((X.alloc o).cell? ⟨c.bp,0,none⟩=some (.pointer (some ⟨bt,0,none⟩))/\(X.alloc o).cell? ⟨w.heap.size,5,none⟩=some (.slice (some ⟨g,0,none⟩) 3 kc)/\(X.alloc o).cell? ⟨g,2,none⟩=some (.int .i64 (q:Int))/\Below W.heap.size W (X.alloc o)):=fun X o h=>KB _ (below_grow h.2.2.2 o);have KS:∀ X X0 off v,(X0.cell? ⟨c.bp,0,none⟩=some (.pointer (some ⟨bt,0,none⟩))/\X0.cell? ⟨w.heap.size,5,none⟩=some (.slice (some ⟨g,0,none⟩) 3 kc)/\X0.cell? ⟨g,2,none⟩=some (.int .i64 (q:Int))/\Below W.heap.size W X0)->(X.cell? ⟨c.bp,0,none⟩=some (.pointer (some ⟨bt,0,none⟩))/\X.cell? ⟨w.heap.size,5,none⟩=some (.slice (some ⟨g,0,none⟩) 3 kc)/\X.cell? ⟨g,2,none⟩=some (.int .i64 (q:Int))/\Below W.heap.size W X)->((X.setCell ⟨X0.heap.size,off,none⟩ v).cell? ⟨c.bp,0,none⟩=some (.pointer (some ⟨bt,0,none⟩))/\(X.setCell ⟨X0.heap.size,off,none⟩ v).cell? ⟨w.heap.size,5,none⟩=some (.slice (some ⟨g,0,none⟩) 3 kc)/\(X.setCell ⟨X0.heap.size,off,none⟩ v).cell? ⟨g,2,none⟩=some (.int .i64 (q:Int))/\Below W.heap.size W (X.setCell ⟨X0.heap.size,off,none⟩ v)):=fun X X0 off v h0 h=>KB _ (h.2.2.2.setCell (p:=⟨X0.heap.size,off,none⟩) h0.2.2.2.size v);have HKS:=Lib.hid KS;clear KS;have KD:=KB _ (Below.refl _ W).drew;have hNW:c.N<=W.heap.size:=by omega
     have gt:∀ X,(X.cell? ⟨c.bp,0,none⟩=some (.pointer (some ⟨bt,0,none⟩))/\X.cell? ⟨w.heap.size,5,none⟩=some (.slice (some ⟨g,0,none⟩) 3 kc)/\X.cell? ⟨g,2,none⟩=some (.int .i64 (q:Int))/\Below W.heap.size W X)->Calls Tryz.prog 31 #[.pointer (some ⟨bt,0,none⟩),.int .i64 (q:Int)] X fun e X'=>∃ ka1 kc1,e = .returned (.tuple #[nval (nd ms q) ka1 kc1,.bool true])/\(X'.cell? ⟨c.bp,0,none⟩=some (.pointer (some ⟨bt,0,none⟩))/\X'.cell? ⟨w.heap.size,5,none⟩=some (.slice (some ⟨g,0,none⟩) 3 kc)/\X'.cell? ⟨g,2,none⟩=some (.int .i64 (q:Int))/\Below W.heap.size W X')/\X'.ownsRow X.heap.size 3 1 (.slice ka1 (nd ms q).kids.length kc1) (nd ms q).kids.length (ints (nd ms q).kids)/\Keeps X X'/\Hid (Below X.heap.size X X'):=fun X h =>
      (get_yes c.N bt ao cap ms q X (HE.out.tree.below (h.2.2.2.mono hNW)) (Nat.le_trans hNW h.2.2.2.size) hql hqf).mono fun e X' ⟨ka1,kc1,he,hown,hb⟩=>⟨ka1,kc1,he,KB _ (h.2.2.2.trans (hb.mono h.2.2.2.size)),hown,below_keeps hb,Lib.hid hb⟩
     have GT:=Lib.hid gt;have HKA:=Lib.hid KA;have HK0:=Lib.hid KD;have HK1:=Lib.hid (KB _ (Below.refl _ W));have HK2:=Lib.hid (fun o=>KB _ (below_grow (Below.refl _ W) o).drew);have HR:=Lib.hid hR;generalize hnq:nd ms q=nq at *;clear gt KA KD KB hR hmem q0 hnq HI HKD HGD HFW HS HO hql hqf;have HM:=Lib.hid hm;clear hm hkl hq;have hw1:IntKind.i64.wrap 2=2:=IntWalk.i64_in _ (by omega);have hw2:IntKind.i64.wrap (3-1)=2:=IntWalk.i64_in _ (by omega);unfold nval at GT;unfold nval
     go_enter Tryz.func107,Tryz.ntmps107
     go_upto_region 6 with fail
     rw [HW.out]
     go_cut [5] (fun v wz=>∃ (b:Nat) (ka1:Option Addr) (kc1:Nat),v = .pointer (some ⟨b,0,none⟩)/\Six wz b 30 (.string nq.op) (.int .i64 nq.line) (.int .i64 nq.col) (.string nq.name) (.int .i64 nq.num) (.slice ka1 nq.kids.length kc1)/\wz.ownsRow 0 3 1 (.slice ka1 nq.kids.length kc1) nq.kids.length (ints nq.kids)/\Below W.heap.size W wz)
     case first =>
      go_region_held3 (fun X=>(X.cell? ⟨c.bp,0,none⟩=some (.pointer (some ⟨bt,0,none⟩))/\X.cell? ⟨w.heap.size,5,none⟩=some (.slice (some ⟨g,0,none⟩) 3 kc)/\X.cell? ⟨g,2,none⟩=some (.int .i64 (q:Int))/\Below W.heap.size W X)) (first | (with_reducible assumption) | (with_reducible exact HK0.out) | (with_reducible exact HK2.out _) | (with_reducible exact HKA.out _ _ (by first | with_reducible assumption | with_reducible exact HK0.out)) | ((repeat (with_reducible refine HKS.out _ _ _ _ (by first | with_reducible assumption | with_reducible exact HK0.out | with_reducible exact HK1.out) ?_));with_reducible assumption)) (first | (go_at_call 31;(with_reducible refine (GT.out _ (by assumption)).mono ?_);rintro e w'' ⟨ka1,kc1,rfl,hS',hown,⟨hcell,hfroz⟩,hbel⟩))
      all_goals
       have HSS:=Lib.hid hS';have HOW:=Lib.hid hown;clear hS' hown hcell hfroz
       go_wp2_with fail
       go_meet
       first
        | (refine ⟨W.heap.size,ka1,kc1,by with_reducible rfl, ?_⟩;exact ⟨((show Six (W.alloc (.cells #[.string ⟨#[]⟩,.int .i64 0,.int .i64 0,.string ⟨#[]⟩,.int .i64 0,.slice none 0 0] 30)).drew W.heap.size 30 (.string ⟨#[]⟩) (.int .i64 0) (.int .i64 0) (.string ⟨#[]⟩) (.int .i64 0) (.slice none 0 0) from ⟨blk_new W _⟩).below hbel.out (by show W.heap.size<(W.alloc _).heap.size;simp)).set _ _ _ _ _ _,
          own_mono (own_setSix HOW.out (by show W.heap.size<(W.alloc _).heap.size;simp) _ _ _ _ _ _) (Nat.zero_le _),below_setSix HSS.out.2.2.2 (Nat.le_refl _) _ _ _ _ _ _⟩)
        | exact ⟨_,ka1,kc1,rfl,⟨blk_new _ _⟩,(own_mono HOW.out (Nat.zero_le _)).alloc _,below_grow HSS.out.2.2.2 _⟩
     case rest =>
      obtain ⟨b,ka1,kc1,rfl,s6,own6,hb6⟩:=hcut;have d0:=s6.c0;have d1:=s6.c1;have d2:=s6.c2;have d3:=s6.c3;have d4:=s6.c4;have d5:=s6.c5;have he6:=HE.out.below (hb6.mono hNW);have ht6:wc.cell? ⟨c.bp,0,none⟩=some c.tv:=by rw [he6.tv,hb6.cell (p:=⟨c.bp,0,none⟩) (World.block_lt_of_cell? _ _ HC.out)];exact HC.out
      have HB6:=Lib.hid hb6;have H9:=Lib.hid (HR.out wc ka1 kc1 he6 ht6 (Nat.le_trans hNW hb6.size) own6);clear s6 own6 hb6 he6 ht6 HR;unfold nval at H9
      go_wp2_with fail
      refine H9.out.mono ?_;rintro e w9 ⟨rfl,hb9⟩;have HB9:=Lib.hid (HB.out.trans ((HB6.out.trans (hb9.mono HB6.out.size)).mono hsz));clear hb9 d0 d1 d2 d3 d4 d5
      go_wp2
      go_ret
      exact ⟨rfl,HB9.out⟩
    ·have hkl:n.kids.length=2:=by have:=well_kids (a:=1) (b:=2) HS.out.well (by rw [hop];kernel_rfl) (by decide);omega
     have t2:(n.op.toList==[105,102])=false:=by rw [tl_beq];refine decide_eq_false ?_;rw [hop];exact fun e=>by injection e with e;injection e with e;simp at e
     have t3:(n.op.toList==[116,114,121])=true:=by rw [tl_beq];exact decide_eq_true hop
     clear hop hlet;obtain ⟨g,rfl⟩:∃ g,ka=some ⟨g,0,none⟩:=by
      rcases HO.out.2 with ⟨_,e⟩ | ⟨g,cp,cur,e,_⟩
      ·omega
      ·injection e with e1 _ _;exact ⟨g,e1⟩
     have hm:n.kids.length=2:=hkl;have hmem:=kid_mem (ks:=n.kids) (i:=1) (by omega);obtain ⟨q,hq⟩:∃ q:Nat,kid n.kids 1=(q:Int):=⟨(kid n.kids 1).toNat,(HKD.out _ hmem).2.symm⟩;have hqi:q<i:=by have:=(HKD.out _ hmem).1;rw [hq,Int.toNat_natCast] at this;exact this
     rw [hq] at hmem;have hql:=HGD.out q hqi;have hqf:=HFW.out q hqi hmem;have hR:=HI.out q hqi hmem;rw [show n.kids.length-1=1 by omega,hq,Int.toNat_natCast];have q1:=HC.out;have q2:W.cell? ⟨w.heap.size,5,none⟩=some (.slice (some ⟨g,0,none⟩) 2 kc):=by rw [<- hm];exact (blk_cell HBX.out 5).trans rfl
     have q3:W.cell? ⟨g,1,none⟩=some (.int .i64 (q:Int)):=by have:=own_cell HO.out (ints_kid (l:=n.kids) (j:=1) (by omega));rwa [hq] at this
     have q0:W.cell? ⟨w.heap.size,0,none⟩=some (.string n.op):=(blk_cell HBX.out 0).trans rfl;have KB:∀ X,Below W.heap.size W X->(X.cell? ⟨c.bp,0,none⟩=some (.pointer (some ⟨bt,0,none⟩))/\X.cell? ⟨w.heap.size,5,none⟩=some (.slice (some ⟨g,0,none⟩) 2 kc)/\X.cell? ⟨g,1,none⟩=some (.int .i64 (q:Int))/\Below W.heap.size W X):=fun X h =>
      ⟨(h.cell (p:=⟨c.bp,0,none⟩) (World.block_lt_of_cell? _ _ q1)).trans q1,(h.cell (p:=⟨w.heap.size,5,none⟩) (World.block_lt_of_cell? _ _ q2)).trans q2,(h.cell (p:=⟨g,1,none⟩) (World.block_lt_of_cell? _ _ q3)).trans q3,h⟩
     have KA:∀ X o,(X.cell? ⟨c.bp,0,none⟩=some (.pointer (some ⟨bt,0,none⟩))/\X.cell? ⟨w.heap.size,5,none⟩=some (.slice (some ⟨g,0,none⟩) 2 kc)/\X.cell? ⟨g,1,none⟩=some (.int .i64 (q:Int))/\Below W.heap.size W X)->((X.alloc o).cell? ⟨c.bp,0,none⟩=some (.pointer (some ⟨bt,0,none⟩))/\(X.alloc o).cell? ⟨w.heap.size,5,none⟩=some (.slice (some ⟨g,0,none⟩) 2 kc)/\(X.alloc o).cell? ⟨g,1,none⟩=some (.int .i64 (q:Int))/\Below W.heap.size W (X.alloc o)):=fun X o h=>KB _ (below_grow h.2.2.2 o);have KS:∀ X X0 off v,(X0.cell? ⟨c.bp,0,none⟩=some (.pointer (some ⟨bt,0,none⟩))/\X0.cell? ⟨w.heap.size,5,none⟩=some (.slice (some ⟨g,0,none⟩) 2 kc)/\X0.cell? ⟨g,1,none⟩=some (.int .i64 (q:Int))/\Below W.heap.size W X0)->(X.cell? ⟨c.bp,0,none⟩=some (.pointer (some ⟨bt,0,none⟩))/\X.cell? ⟨w.heap.size,5,none⟩=some (.slice (some ⟨g,0,none⟩) 2 kc)/\X.cell? ⟨g,1,none⟩=some (.int .i64 (q:Int))/\Below W.heap.size W X)->((X.setCell ⟨X0.heap.size,off,none⟩ v).cell? ⟨c.bp,0,none⟩=some (.pointer (some ⟨bt,0,none⟩))/\(X.setCell ⟨X0.heap.size,off,none⟩ v).cell? ⟨w.heap.size,5,none⟩=some (.slice (some ⟨g,0,none⟩) 2 kc)/\(X.setCell ⟨X0.heap.size,off,none⟩ v).cell? ⟨g,1,none⟩=some (.int .i64 (q:Int))/\Below W.heap.size W (X.setCell ⟨X0.heap.size,off,none⟩ v)):=fun X X0 off v h0 h=>KB _ (h.2.2.2.setCell (p:=⟨X0.heap.size,off,none⟩) h0.2.2.2.size v);have HKS:=Lib.hid KS;clear KS;have KD:=KB _ (Below.refl _ W).drew;have hNW:c.N<=W.heap.size:=by omega
     have gt:∀ X,(X.cell? ⟨c.bp,0,none⟩=some (.pointer (some ⟨bt,0,none⟩))/\X.cell? ⟨w.heap.size,5,none⟩=some (.slice (some ⟨g,0,none⟩) 2 kc)/\X.cell? ⟨g,1,none⟩=some (.int .i64 (q:Int))/\Below W.heap.size W X)->Calls Tryz.prog 31 #[.pointer (some ⟨bt,0,none⟩),.int .i64 (q:Int)] X fun e X'=>∃ ka1 kc1,e = .returned (.tuple #[nval (nd ms q) ka1 kc1,.bool true])/\(X'.cell? ⟨c.bp,0,none⟩=some (.pointer (some ⟨bt,0,none⟩))/\X'.cell? ⟨w.heap.size,5,none⟩=some (.slice (some ⟨g,0,none⟩) 2 kc)/\X'.cell? ⟨g,1,none⟩=some (.int .i64 (q:Int))/\Below W.heap.size W X')/\X'.ownsRow X.heap.size 3 1 (.slice ka1 (nd ms q).kids.length kc1) (nd ms q).kids.length (ints (nd ms q).kids)/\Keeps X X'/\Hid (Below X.heap.size X X'):=fun X h =>
      (get_yes c.N bt ao cap ms q X (HE.out.tree.below (h.2.2.2.mono hNW)) (Nat.le_trans hNW h.2.2.2.size) hql hqf).mono fun e X' ⟨ka1,kc1,he,hown,hb⟩=>⟨ka1,kc1,he,KB _ (h.2.2.2.trans (hb.mono h.2.2.2.size)),hown,below_keeps hb,Lib.hid hb⟩
     have GT:=Lib.hid gt;have HKA:=Lib.hid KA;have HK0:=Lib.hid KD;have HK1:=Lib.hid (KB _ (Below.refl _ W));have HK2:=Lib.hid (fun o=>KB _ (below_grow (Below.refl _ W) o).drew);have HR:=Lib.hid hR;generalize hnq:nd ms q=nq at *;clear gt KA KD KB hR hmem q0 hnq HI HKD HGD HFW HS HO hql hqf;have HM:=Lib.hid hm;clear hm hkl hq;have hw1:IntKind.i64.wrap 1=1:=IntWalk.i64_in _ (by omega);have hw2:IntKind.i64.wrap (2-1)=1:=IntWalk.i64_in _ (by omega);unfold nval at GT;unfold nval
     go_enter Tryz.func107,Tryz.ntmps107
     go_upto_region 6 with fail
     rw [HW.out]
     go_cut [5] (fun v wz=>∃ (b:Nat) (ka1:Option Addr) (kc1:Nat),v = .pointer (some ⟨b,0,none⟩)/\Six wz b 30 (.string nq.op) (.int .i64 nq.line) (.int .i64 nq.col) (.string nq.name) (.int .i64 nq.num) (.slice ka1 nq.kids.length kc1)/\wz.ownsRow 0 3 1 (.slice ka1 nq.kids.length kc1) nq.kids.length (ints nq.kids)/\Below W.heap.size W wz)
     case first =>
      go_region_held3 (fun X=>(X.cell? ⟨c.bp,0,none⟩=some (.pointer (some ⟨bt,0,none⟩))/\X.cell? ⟨w.heap.size,5,none⟩=some (.slice (some ⟨g,0,none⟩) 2 kc)/\X.cell? ⟨g,1,none⟩=some (.int .i64 (q:Int))/\Below W.heap.size W X)) (first | (with_reducible assumption) | (with_reducible exact HK0.out) | (with_reducible exact HK2.out _) | (with_reducible exact HKA.out _ _ (by first | with_reducible assumption | with_reducible exact HK0.out)) | ((repeat (with_reducible refine HKS.out _ _ _ _ (by first | with_reducible assumption | with_reducible exact HK0.out | with_reducible exact HK1.out) ?_));with_reducible assumption)) (first | (go_at_call 31;(with_reducible refine (GT.out _ (by assumption)).mono ?_);rintro e w'' ⟨ka1,kc1,rfl,hS',hown,⟨hcell,hfroz⟩,hbel⟩))
      all_goals
       have HSS:=Lib.hid hS';have HOW:=Lib.hid hown;clear hS' hown hcell hfroz
       go_wp2_with fail
       go_meet
       first
        | (refine ⟨W.heap.size,ka1,kc1,by with_reducible rfl, ?_⟩;exact ⟨((show Six (W.alloc (.cells #[.string ⟨#[]⟩,.int .i64 0,.int .i64 0,.string ⟨#[]⟩,.int .i64 0,.slice none 0 0] 30)).drew W.heap.size 30 (.string ⟨#[]⟩) (.int .i64 0) (.int .i64 0) (.string ⟨#[]⟩) (.int .i64 0) (.slice none 0 0) from ⟨blk_new W _⟩).below hbel.out (by show W.heap.size<(W.alloc _).heap.size;simp)).set _ _ _ _ _ _,
          own_mono (own_setSix HOW.out (by show W.heap.size<(W.alloc _).heap.size;simp) _ _ _ _ _ _) (Nat.zero_le _),below_setSix HSS.out.2.2.2 (Nat.le_refl _) _ _ _ _ _ _⟩)
        | exact ⟨_,ka1,kc1,rfl,⟨blk_new _ _⟩,(own_mono HOW.out (Nat.zero_le _)).alloc _,below_grow HSS.out.2.2.2 _⟩
     case rest =>
      obtain ⟨b,ka1,kc1,rfl,s6,own6,hb6⟩:=hcut;have d0:=s6.c0;have d1:=s6.c1;have d2:=s6.c2;have d3:=s6.c3;have d4:=s6.c4;have d5:=s6.c5;have he6:=HE.out.below (hb6.mono hNW);have ht6:wc.cell? ⟨c.bp,0,none⟩=some c.tv:=by rw [he6.tv,hb6.cell (p:=⟨c.bp,0,none⟩) (World.block_lt_of_cell? _ _ HC.out)];exact HC.out
      have HB6:=Lib.hid hb6;have H9:=Lib.hid (HR.out wc ka1 kc1 he6 ht6 (Nat.le_trans hNW hb6.size) own6);clear s6 own6 hb6 he6 ht6 HR;unfold nval at H9
      go_wp2_with fail
      refine H9.out.mono ?_;rintro e w9 ⟨rfl,hb9⟩;have HB9:=Lib.hid (HB.out.trans ((HB6.out.trans (hb9.mono HB6.out.size)).mono hsz));clear hb9 d0 d1 d2 d3 d4 d5
      go_wp2
      go_ret
      exact ⟨rfl,HB9.out⟩
   ·rw [Sh_ends_no ms u n hlet (fun e=>hif (.inl e)) (fun e=>hif (.inr e))];have t1:(n.op.toList==[108,101,116])=false:=by rw [tl_beq];exact decide_eq_false hlet
    have t2:(n.op.toList==[105,102])=false:=by rw [tl_beq];exact decide_eq_false (fun e=>hif (.inl e))
    have t3:(n.op.toList==[116,114,121])=false:=by rw [tl_beq];exact decide_eq_false (fun e=>hif (.inr e))
    clear hlet hif;unfold nval
    go_enter Tryz.func107,Tryz.ntmps107
    go_wp2
    go_ret
    rw [HW.out];exact ⟨rfl,HB.out⟩
end Go.Proofs.YtninlbknklbofaaGreatDoor
namespace Go.Proofs.YtninlbknklbofaaGreatDoor.Sh
open Tn (Nd nd kid WF kid_lt kid_mem)
section
variable {ms:List Nd}
end
end Go.Proofs.YtninlbknklbofaaGreatDoor.Sh
namespace Go.Proofs.YtninlbknklbofaaGreatDoor
section
open Go.RowKit Go.Shelf Tn
theorem spec_node (c:Pc)(bt:Nat)(ao:Option Addr)(cap:Nat)(ms:List Nd)(hw:WF ms)(i:Nat):i<ms.length->Fit ms i->∀ u,i<u->NodeC c bt ao cap ms (nd ms i) (Sh.node ms dig u (nd ms i)):=by
 induction i using Nat.strongRecOn with
 | _ i ih =>
  intro hi hfit u hu;obtain ⟨u,rfl⟩:∃ v,u=v+1:=⟨u-1,by omega⟩;have hself:=hfit.self hw hi;refine ⟨fun s=>Sh.node_mono ms dig (u+1) _ s,hself.few,fun s w ka kc he hp ho hl=>?_⟩;have hkid:∀ j,j<(nd ms i).kids.length->∃ q:Nat,kid (nd ms i).kids j=(q:Int)/\q<i/\Fit ms q:=fun j hj=>by
   have hm:=kid_mem hj;have h1:=kid_lt hw hi hm;exact ⟨(kid (nd ms i).kids j).toNat,h1.2.symm,h1.1,hfit.kid hw hi hm⟩
  rw [Sh.node] at hl ⊢;refine node_any c bt ao cap ms (Sh.node ms dig u) (Sh.ends ms (u+1)) (nd ms i) s w ka kc hself ⟨Sh.node_mono ms dig u,hself.few, ?_⟩ ?_ he hp ho hl
  ·intro j hj least s w he hp hl;obtain ⟨q,hq,hqi,hfq⟩:=hkid j hj;rw [hq] at hl ⊢;unfold Sh.part at hl ⊢;rw [Int.toNat_natCast] at hl ⊢;exact part_any c bt ao cap ms q (Sh.node ms dig u (nd ms q)) least s w (by omega) (ih q hqi (by omega) hfq u (by omega)) he hp hl
  ·intro hj s w he hp hl;obtain ⟨q,hq,hqi,hfq⟩:=hkid 0 hj;rw [hq] at hl ⊢;unfold Sh.semi at hl ⊢;rw [Int.toNat_natCast] at hl ⊢;exact semi_any c bt ao cap ms q (Sh.node ms dig u (nd ms q)) (Sh.ends ms (u+1) (nd ms q)) s w (by omega) (ih q hqi (by omega) hfq u (by omega)) he hp
    (fun w ka kc he ht hN ho=>ends_any c bt ao cap ms hw q (by omega) hfq (u+1) (by omega) w ka kc he ht hN ho) hl
def Sh.full (ms:List Nd)(i:Nat)(s:Sh.St):Sh.St:=Sh.brk (Sh.node ms dig (i+1) (nd ms i)) (decide ((Sh.formOf (nd ms i).op).level<0)) s
theorem full_any (c:Pc)(bt:Nat)(ao:Option Addr)(cap:Nat)(ms:List Nd)(hw:WF ms)(i:Nat)(hi:i<ms.length)(hf:Fit ms i)(s:Sh.St)(w:World)(he:En c bt ao cap ms w)(hp:Pr c w s)(hl:(Sh.full ms i s).bs.length<=1000000000):
  Calls Tryz.prog 14 #[.pointer (some ⟨c.bp,0,none⟩),.int .i64 (i:Int),.int .i64 0] w (TksP c w (Sh.full ms i s)) :=
 part_any c bt ao cap ms i _ 0 s w hi (spec_node c bt ao cap ms hw i hi hf (i+1) (by omega)) he hp hl
end
section
open Go.RowKit Go.Shelf Tn
attribute [local go_sem] Oper.semAt_some
def enc2 (x:Nat × Value):Array Value:=#[.int .i64 (x.1:Int),x.2]
structure Comes (ms:List Nd)(full:List Nat)(W0:World)(pre:List (Nat × Value))(x:Nat × Value)(W:World):Prop where
 lt:x.1<ms.length
 val:∃ ka kc,x.2=nval (nd ms x.1) ka kc/\IntsAt W.heap.size W ka (nd ms x.1).kids/\∀ a,ka=some a->W0.heap.size<=a.block
 order:(pre.map (·.1)++[x.1]) <+: full
abbrev NoNode:Nat->TypeId->Prop:=fun _ t=>t≠30
def VisitP (N:Nat)(l:List Nat)(J Jx:List (Nat × Value)->World->Prop)(pre:List (Nat × Value))(W:World)(e:Ending)(W':World):Prop :=
 (e = .returned (.bool true)/\∃ xs:List (Nat × Value),xs.map (·.1)=l/\J (pre++xs) W'/\Kept N NoNode W W') \/
 (e = .returned (.bool false)/\∃ xs:List (Nat × Value),xs.map (·.1) <+: l/\Jx (pre++xs) W')
theorem partPl_pre (ms:List Nd)(ks:List Int)(j:Nat):partPl ms ks j <+: partPl ms ks ks.length:=by
 refine ⟨(ks.drop j).flatMap fun k=>Pl ms k.toNat, ?_⟩;simp only [partPl,List.take_length];rw [<- List.flatMap_append,List.take_append_drop]
theorem Six.kept {N:Nat}{W W':World}{b:Nat}{v0 v1 v2 v3 v4 v5:Value}(h:Six W b 30 v0 v1 v2 v3 v4 v5)(k:Kept N NoNode W W'):Six W' b 30 v0 v1 v2 v3 v4 v5:=⟨k.same b _ 30 _ (fun e=>e rfl) h.blk⟩
theorem own_from {w:World}{base:Nat}{t:TypeId}{z:Nat}{a:Addr}{n c:Nat}{xs:List Value}(h:w.ownsRow base t z (.slice (some a) n c) n xs):base<=a.block:=by
 rcases h.2 with ⟨e,_⟩ | ⟨g,cap,cur,e,hb,_⟩
 ·cases e
 ·cases e;exact hb
theorem visit_in (l N bt:Nat)(ao:Option Addr)(cap:Nat)(ms:List Nd)(full:List Nat)(J Jx:List (Nat × Value)->World->Prop)
  (hw:WF ms) (hf:∀ i,i<ms.length->(nd ms i).kids.length<=999000)
  (hY:∀ pre x W0 W1,J pre W0->Below W0.heap.size W0 W1->Comes ms full W0 pre x W1->YieldAt Fence.wide 0 Tryz.prog l (enc2 x) W1 fun e W'=>(e = .returned (.bool true)/\J (pre++[x]) W'/\Kept N NoNode W1 W')\/(e = .returned (.bool false)/\Jx (pre++[x]) W'))
  (i:Nat):i<ms.length->∀ (pre:List (Nat × Value)) (W:World),TreeAt N W bt ao cap ms->N<=W.heap.size->J pre W->(pre.map (·.1)++Pl ms i) <+: full ->
   CallsIn Fence.wide 0 Tryz.prog 51 #[.pointer (some ⟨bt,0,none⟩),.int .i64 (i:Int),.func (.yield l) #[] #[]] W (VisitP N (Pl ms i) J Jx pre W):=by
 have HW:=Lib.hid hw;have HF:=Lib.hid hf;have HY:=Lib.hid hY;have hdd:∀ k:Nat,(Fence.wide.depth.isSome=true->1<=k):=fun k h=>by cases h
 clear hw hf hY
 induction i using Nat.strongRecOn with
 | _ i ih =>
  intro hi pre W ht hN hj hord;have IH:=Lib.hid ih;obtain ⟨b,o,ka,kc,rfl,hn⟩:=ht.nodes i hi;have hcell:=ht.cell;have hkl:=HF.out i hi;have c0:=hn.c0;have c1:=hn.c1;have c2:=hn.c2;have c3:=hn.c3;have c4:=hn.c4;have c5:=hn.c5;have HT:=Lib.hid ht;have HN:=Lib.hid hn;have HJJ:=Lib.hid hj;have HO:=Lib.hid hord;have hi':(i:Int)<(ms.length:Int):=by omega
  clear ih ht hn hj hord;refine callsIn_of_wp Tryz.func51 rfl trivial ?_ rfl;simp only [Tryz.ntmps51,List.size_toArray,List.length_cons,List.length_nil,Nat.reduceAdd,Nat.reduceSub,Array.replicate_succ,Array.replicate_zero,List.push_toArray,List.append_toArray,List.nil_append,List.cons_append]
  gi_wp2_with fail
  obtain ⟨W1,hW1⟩:∃ W1,W.alloc (.cells #[.string (nd ms i).op,.int .i64 (nd ms i).line,.int .i64 (nd ms i).col,.string (nd ms i).name,.int .i64 (nd ms i).num,.slice ka (nd ms i).kids.length kc] 30)=W1:=⟨_,rfl⟩;have hb1:Below W.heap.size W W1:=by rw [<- hW1];exact (Below.refl _ _).alloc (Nat.le_refl _) _
  have s1:Six W1 W.heap.size 30 (.string (nd ms i).op) (.int .i64 (nd ms i).line) (.int .i64 (nd ms i).col) (.string (nd ms i).name) (.int .i64 (nd ms i).num) (.slice ka (nd ms i).kids.length kc):=⟨by rw [<- hW1];exact blk_new _ _⟩;rw [hW1];clear hW1 c0 c1 c2 c3 c4 c5 hcell;refine ⟨trivial,rfl,(callsIn_wide.2 (sep_any N (nd ms i) ka kc W1 (HN.out.kids.below (hb1.mono hN)) HN.out.nil hkl)).mono ?_⟩;rintro e W2 ⟨ka1,kc1,rfl,hown,hb2⟩;have hsz1:=hb1.size;have hB2:Below W.heap.size W W2:=hb1.trans (hb2.mono hsz1);have s2:=s1.below hb2 (lt_of_heap s1.blk);have hcm:Comes ms full W pre (i,nval (nd ms i) ka1 kc1) W2:=⟨hi,⟨ka1,kc1,rfl,own_ints hown,fun a e=>by subst e;have:=own_from hown;omega⟩,by
   refine List.IsPrefix.trans ?_ HO.out;rw [Pl_eq HW.out hi];exact ⟨partPl ms (nd ms i).kids (nd ms i).kids.length,by simp⟩⟩
  obtain ⟨fn,tmps,assign,body,hy,hR⟩:=HY.out pre (i,nval (nd ms i) ka1 kc1) W W2 HJJ.out hB2 hcm;have HR:=Lib.hid hR;have HB2:=Lib.hid hB2;simp only [enc2,nval] at hy ⊢;clear hR hown hb2 hb1 s1 hcm hB2
  gi_wp2_with fail
  refine ⟨rfl,HR.out.mono ?_⟩;clear hy;rintro e W3 (⟨rfl,hj3,hk3⟩ | ⟨rfl,hx3⟩)
  ·have s3:=s2.kept hk3;have hK3:Kept N NoNode W W3:=((Still.of_below HB2.out hN).kept NoNode).trans hk3;have d5:=s3.c5;have HJ3:=Lib.hid hj3;have HK3:=Lib.hid hK3;clear hj3 hK3 hk3 s2
   gi_wp2_with fail
   gi_loopw [26] (fun k wr=>∃ (j:Nat) (xs:List (Nat × Value)),j<=(nd ms i).kids.length/\k = .int .i64 j/\xs.map (·.1)=i :: partPl ms (nd ms i).kids j/\J (pre++xs) wr/\Kept N NoNode W wr) (fun k _=>(nd ms i).kids.length-(intOf k).toNat)
   case atStart=>exact ⟨0,[(i,nval (nd ms i) ka1 kc1)],Nat.zero_le _,rfl,rfl,HJ3.out,HK3.out⟩
   case round =>
    obtain ⟨j,xs,hj,rfl,hxs,hjw,hkw⟩:=hrel;have HXS:=Lib.hid hxs;have HJW:=Lib.hid hjw;have HKW:=Lib.hid hkw;have hsz:=hkw.size
    by_cases hjl:j<(nd ms i).kids.length
    ·obtain ⟨b2,o2,rfl,_,hc2⟩:=(HN.out.kids.below hkw.below) j hjl;have hkm:=kid_lt HW.out hi (kid_mem hjl);obtain ⟨q,hq⟩:∃ q:Nat,kid (nd ms i).kids j=(q:Int):=⟨(kid (nd ms i).kids j).toNat,hkm.2.symm⟩;have hqi:q<i:=by omega
     have hs:=partPl_succ ms hjl;rw [hq] at hc2 hs;rw [Int.toNat_natCast] at hs;have hpre:i :: partPl ms (nd ms i).kids (j+1) <+: Pl ms i:=by
      rw [Pl_eq HW.out hi];exact List.cons_prefix_cons.2 ⟨rfl,partPl_pre _ _ _⟩
     have hord2:((pre++xs).map (·.1)++Pl ms q) <+: full:=by
      refine List.IsPrefix.trans ?_ HO.out;rw [List.map_append,HXS.out,List.append_assoc,List.cons_append,<- hs];exact (List.prefix_append_right_inj _).2 hpre
     have HS:=Lib.hid hs;have HP:=Lib.hid hpre;have HO2:=Lib.hid hord2;clear hs hq hkm hpre hord2 hxs hjw hkw
     gi_wp2_with fail
     refine ⟨trivial,rfl,(IH.out q hqi (by omega) (pre++xs) wr (HT.out.below HKW.out.below) (by omega) HJW.out HO2.out).mono ?_⟩;rintro e W4 (⟨rfl,ys,hys,hj4,hk4⟩ | ⟨rfl,ys,hys,hx4⟩)
     ·have HYS:=Lib.hid hys;have HJ4:=Lib.hid hj4;have HK4:=Lib.hid hk4;clear hys hj4 hk4
      gi_wp2
      go_roundw
      case rel=>exact ⟨j+1,xs++ys,by omega,by go_num,by rw [List.map_append,HXS.out,HYS.out,HS.out,List.cons_append],by rw [<- List.append_assoc];exact HJ4.out,HKW.out.trans HK4.out⟩
      case measure=>simp [intOf];omega
     ·have HYS:=Lib.hid hys;have HX4:=Lib.hid hx4;clear hys hx4
      gi_wp2
      go_ret
      refine .inr ⟨rfl,xs++ys, ?_,by rw [<- List.append_assoc];exact HX4.out⟩;refine List.IsPrefix.trans ?_ HP.out;rw [List.map_append,HXS.out,HS.out,List.cons_append];exact List.cons_prefix_cons.2 ⟨rfl,(List.prefix_append_right_inj _).2 HYS.out⟩
    ·obtain rfl:j=(nd ms i).kids.length:=by omega
     clear hxs hjw hkw
     gi_wp2
     go_ret
     exact .inl ⟨rfl,xs,by rw [HXS.out,Pl_eq HW.out hi],HJW.out,HKW.out⟩
  ·have HX3:=Lib.hid hx3;clear hx3
   gi_wp2
   go_ret
   refine .inr ⟨rfl,[(i,nval (nd ms i) ka1 kc1)], ?_,HX3.out⟩;rw [Pl_eq HW.out hi];exact ⟨partPl ms (nd ms i).kids (nd ms i).kids.length,rfl⟩
end
end Go.Proofs.YtninlbknklbofaaGreatDoor
