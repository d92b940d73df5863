/- A part of the proof: A part of the proof. -/
import Derived.Test.YtdfpkmfeldoamaaGreatDoorOComp
import Derived.Deep.RegionWith
import Derived.Deep.OwnRows
import Derived.Deep.DeepCutAuto
import Derived.StillTailTactics
set_option linter.unusedSimpArgs false
set_option linter.unusedVariables false
set_option maxRecDepth 100000
set_option maxHeartbeats 2000000
namespace Go.Proofs.YtdfpkmfeldoamaaGreatDoor.Od
open Go.RowKit
namespace M
structure RInv (n:Nat)(f:Nat->Nat)(a j:Nat)(u:Nat->Nat):Prop where
 lim:∀ b,b<n->u b<2 ^ n
 bits:∀ x b,x<n->b<n->(u b).testBit x=(decide (x<a\/x=a/\b<j) && (f x).testBit b)
theorem RInv.start (n:Nat)(f:Nat->Nat):RInv n f 0 0 (fun _=>0):=⟨fun _ _=>Nat.two_pow_pos n,fun x b _ _=>by simp⟩
theorem RInv.yes {n a j:Nat}{f u:Nat->Nat}(h:RInv n f a j u)(ha:a<n)(hj:j<n)(hb:(f a).testBit j=true):RInv n f a (j+1) (fun i=>if i=j then u j ||| bit a else u i) where
 lim b hb:=by
  split
  ·exact Nat.or_lt_two_pow (h.lim j hj) (Nat.pow_lt_pow_right (by omega) ha)
  ·exact h.lim b hb
 bits x b hx hbn:=by
  split
  ·rename_i e;subst e;rw [Nat.testBit_or,h.bits x b hx hj,testBit_bit]
   by_cases e:a=x
   ·subst e;simp [hb]
   ·have e':¬ x=a:=fun h=>e h.symm;simp [e,e']
  ·rw [h.bits x b hx hbn];have:(x<a\/x=a/\b<j+1)↔(x<a\/x=a/\b<j):=by omega
   simp only [this]
theorem RInv.no {n a j:Nat}{f u:Nat->Nat}(h:RInv n f a j u)(hb:(f a).testBit j=false):RInv n f a (j+1) u where
 lim:=h.lim
 bits x b hx hbn:=by
  rw [h.bits x b hx hbn]
  by_cases e:x=a/\b=j
  ·obtain ⟨rfl,rfl⟩:=e;simp [hb]
  ·have:(x<a\/x=a/\b<j+1)↔(x<a\/x=a/\b<j):=by omega
   simp only [this]
theorem RInv.next {n a:Nat}{f u:Nat->Nat}(h:RInv n f a n u):RInv n f (a+1) 0 u where
 lim:=h.lim
 bits x b hx hbn:=by
  rw [h.bits x b hx hbn];have:(x<a+1\/x=a+1/\b<0)↔(x<a\/x=a/\b<n):=by omega
  simp only [this]
theorem RInv.done {n:Nat}{f u:Nat->Nat}(h:RInv n f n 0 u)(a b:Nat)(ha:a<n)(hb:b<n):(u b).testBit a=(f a).testBit b:=by
 rw [h.bits a b ha hb];simp [ha]
end M
theorem reverse_any (w:World)(o n ba bu:Nat)(f:Nat->Nat)(hn:n<=32)(hc0:w.cell? ⟨o,0,none⟩=some (.slice (some ⟨ba,0,none⟩) n n))(hc1:w.cell? ⟨o,1,none⟩=some (.slice (some ⟨bu,0,none⟩) n n))
  (hra:RowAt w ba n f) (hru:RowAt w bu n (fun _=>0)) (hob:o≠bu) (hab:ba≠bu)
  (hfl:∀ a,a<n->f a<2 ^ n) (hfz:∀ i,i<n->w.frozen? ⟨bu,i,none⟩=false):
  Calls Tryz.prog 144 #[.pointer (some ⟨o,0,none⟩)] w fun e w'=>e = .returned (.tuple #[])/\∃ u,M.RInv n f n 0 u/\RowAt w' bu n u/\Only bu w w':=by
 have HRA:=Lib.hid hra;clear hra;have HRU:=Lib.hid hru;clear hru;have HFL:=Lib.hid hfl;clear hfl;have HFZ:=Lib.hid hfz;clear hfz
 go_enter Tryz.func144,Tryz.ntmps144
 go_wp2
 go_loopw [9] (fun i wr=>∃ (k:Nat) (u:Nat->Nat),k<=n/\i = .int .i64 k/\M.RInv n f k 0 u/\RowAt wr bu n u/\Only bu w wr) (fun i _=>n-(intOf i).toNat)
 case atStart=>exact ⟨0,fun _=>0,Nat.zero_le _,rfl,M.RInv.start n f,HRU.out,Only.refl _ _⟩
 case round =>
  obtain ⟨k,u,hk,rfl,hci,hrow,hon⟩:=hrel;have hcr:wr.cell? ⟨o,0,none⟩=some (.slice (some ⟨ba,0,none⟩) n n):=by rw [hon.cell hob];exact hc0
  have hcr1:wr.cell? ⟨o,1,none⟩=some (.slice (some ⟨bu,0,none⟩) n n):=by rw [hon.cell hob];exact hc1
  by_cases hlt:k<n
  ·go_wp2
   go_loopw [17] (fun i ws=>∃ (j:Nat) (u:Nat->Nat),j<=n/\i = .int .i64 j/\M.RInv n f k j u/\RowAt ws bu n u/\Only bu w ws) (fun i _=>n-(intOf i).toNat)
   case atStart=>exact ⟨0,u,Nat.zero_le _,rfl,hci,hrow,hon⟩
   case round =>
    clear hrow hon hcr hcr1 hci;obtain ⟨j,u,hj,rfl,hci,hrow',hon'⟩:=hrel;have hcr:wr.cell? ⟨o,0,none⟩=some (.slice (some ⟨ba,0,none⟩) n n):=by rw [hon'.cell hob];exact hc0
    have hcr1:wr.cell? ⟨o,1,none⟩=some (.slice (some ⟨bu,0,none⟩) n n):=by rw [hon'.cell hob];exact hc1
    by_cases hlj:j<n
    ·have hfj:wr.frozen? ⟨bu,j,none⟩=false:=by rw [hon'.frozen];exact HFZ.out j hlj
     have hcj:wr.cell? ⟨bu,j,none⟩=some (.int .u32 (u j:Int)):=hrow' j hlj;have hck:wr.cell? ⟨ba,k,none⟩=some (.int .u32 (f k:Int)):=by rw [hon'.cell hab];exact HRA.out k hlt
     have gk:=lt32 hn (HFL.out k hlt);have gj:=lt32 hn (hci.lim j hlj);have bk:=M.bit_lt32 (a:=k) (by omega);have hor:=u32_or_nat (u j) (M.bit k) gj bk
     go_wp2_with fail
     refine (contains_any (f k) j _ gk (by omega) (by omega)).mono ?_;rintro e w' ⟨rfl,rfl⟩;simp only [Int.toNat_natCast]
     cases hb:(f k).testBit j with
     | true =>
      have HB:=Lib.hid hb;clear hb
      go_wp2_with fail
      go_region_with (go_at_call 141;refine (only_any _ _ (by omega) (by omega)).mono ?_;rintro e w' ⟨rfl,rfl⟩;simp only [Int.toNat_natCast])
      all_goals
       go_wp2
       go_roundw
       case rel=>exact ⟨j+1,_,by omega,by go_num,hci.yes hlt hlj HB.out,(hrow'.set (j:=j) (x:=u j ||| M.bit k)).drew,(hon'.setCell j _).drew⟩
       case measure=>simp [intOf];omega
     | false =>
      have HB:=Lib.hid hb;clear hb
      go_wp2
      go_roundw
      case rel=>exact ⟨j+1,u,by omega,by go_num,hci.no HB.out,hrow',hon'⟩
      case measure=>simp [intOf];omega
    ·have hjn:j=n:=by omega
     subst hjn
     go_wp2
     go_roundw
     case rel=>exact ⟨k+1,u,by omega,by go_num,hci.next,hrow',hon'⟩
     case measure=>simp [intOf];omega
  ·have hkn:k=n:=by omega
   subst hkn
   go_wp2
   go_end0
   exact ⟨rfl,u,hci,hrow,hon⟩
end Go.Proofs.YtdfpkmfeldoamaaGreatDoor.Od
namespace Go.Proofs.YtdfpkmfeldoamaaGreatDoor.Od
open Go.RowKit
namespace M
def good (n:Nat)(f u:Nat->Nat)(a b:Nat):Prop:=f a≠f b/\findN f (f a &&& f b) n ≠ -1/\findN u (u a &&& u b) n ≠ -1
def LatOK (n:Nat)(f u:Nat->Nat):Prop:=∀ b,b<n->∀ a,a<b->good n f u a b
end M
def LatRes (n:Nat)(f u:Nat->Nat)(w:World)(e:Ending)(w':World):Prop :=
 ((e = .returned (.bool true)/\M.LatOK n f u)\/(e = .returned (.bool false)/\¬ M.LatOK n f u))/\∃ k,w'=w.drewN k
theorem isLattice_any (w:World)(o n ba bu:Nat)(f u:Nat->Nat)(h:OrdAt w o n ba bu f u):
  Calls Tryz.prog 145 #[.pointer (some ⟨o,0,none⟩)] w (LatRes n f u w):=by
 have hn:=h.n32;have hc0:=h.c0
 go_enter Tryz.func145,Tryz.ntmps145
 go_wp2
 go_loopw [10] (fun i wr=>∃ (k m:Nat),k<=n/\i = .int .i64 k/\(∀ b,b<k->∀ a,a<b->M.good n f u a b)/\wr=w.drewN m) (fun i _=>n-(intOf i).toNat)
 case atStart=>exact ⟨0,0,Nat.zero_le _,rfl,fun b hb=>by omega,rfl⟩
 case round =>
  obtain ⟨k,m,hk,rfl,hg,hw⟩:=hrel;have ho:OrdAt wr o n ba bu f u:=by rw [hw];exact h.drewN _
  have HW:=Lib.hid hw;clear hw;have HG:=Lib.hid hg;clear hg
  by_cases hlt:k<n
  ·go_wp2
   go_loopw [14] (fun i ws=>∃ (j m:Nat),j<=k/\i = .int .i64 j/\(∀ a,a<j->M.good n f u a k)/\ws=w.drewN m) (fun i _=>k-(intOf i).toNat)
   case atStart=>exact ⟨0,m,Nat.zero_le _,rfl,fun b hb=>by omega,HW.out⟩
   case round =>
    clear ho HW;obtain ⟨j,m',hj,rfl,hgj,hw⟩:=hrel;have ho:OrdAt wr o n ba bu f u:=by rw [hw];exact h.drewN _
    have HW:=Lib.hid hw;clear hw;have HGJ:=Lib.hid hgj;clear hgj;have hc0':=ho.c0
    by_cases hlj:j<k
    ·have hcj:=ho.ra j (by omega);have hck:=ho.ra k (by omega);have i1:(j:Int)<(n:Int):=by omega
     have i2:(k:Int)<(n:Int):=by omega
     cases t1:((f j:Int)==(f k:Int)) with
     | true =>
      go_wp2_with fail
      go_quiet (fail)
      go_wp2
      go_ret
      refine ⟨Or.inr ⟨rfl,fun hh=>(hh k hlt j hlj).1 (by have:=beq_iff_eq.1 t1;omega)⟩,m'+nq,by rw [HW.out,World.drewN_drewN]⟩
     | false =>
      cases t2:(M.findN f (f j &&& f k) n == -1) with
      | true =>
       go_wp2_with fail
       go_quiet ((go_at_call 122;exact Calls.quiet_of (join_in _ o n ba bu f u (j:Int) (k:Int) (ho.drewN _) (by omega) (by omega) (by omega) (by omega))))
       simp only [Int.toNat_natCast]
       go_wp2
       go_ret
       refine ⟨Or.inr ⟨rfl,fun hh=>(hh k hlt j hlj).2.1 (by simpa using t2)⟩,m'+nq,by rw [HW.out,World.drewN_drewN]⟩
      | false =>
       cases t3:(M.findN u (u j &&& u k) n == -1) with
       | true =>
        go_wp2_with fail
        go_quiet (first | (go_at_call 122;exact Calls.quiet_of (join_in _ o n ba bu f u (j:Int) (k:Int) (ho.drewN _) (by omega) (by omega) (by omega) (by omega))) | (go_at_call 172;exact Calls.quiet_of (meet_in _ o n ba bu f u (j:Int) (k:Int) (ho.drewN _) (by omega) (by omega) (by omega) (by omega))))
        simp only [Int.toNat_natCast]
        go_wp2
        go_ret
        refine ⟨Or.inr ⟨rfl,fun hh=>(hh k hlt j hlj).2.2 (by simpa using t3)⟩,m'+nq,by rw [HW.out,World.drewN_drewN]⟩
       | false =>
        go_wp2_with fail
        go_quiet (first | (go_at_call 122;exact Calls.quiet_of (join_in _ o n ba bu f u (j:Int) (k:Int) (ho.drewN _) (by omega) (by omega) (by omega) (by omega))) | (go_at_call 172;exact Calls.quiet_of (meet_in _ o n ba bu f u (j:Int) (k:Int) (ho.drewN _) (by omega) (by omega) (by omega) (by omega))))
        simp only [Int.toNat_natCast]
        go_wp2
        go_roundw
        case rel =>
         refine ⟨j+1,m'+nq,by omega,by go_num, ?_,by rw [HW.out,World.drewN_drewN]⟩;intro a ha
         by_cases e:a=j
         ·subst e;exact ⟨fun hh=>by rw [hh] at t1;simp at t1,by simpa using t2,by simpa using t3⟩
         ·exact HGJ.out a (by omega)
        case measure=>simp [intOf];omega
    ·have hjk:j=k:=by omega
     subst hjk
     go_wp2
     go_roundw
     case rel =>
      refine ⟨j+1,m',by omega,by go_num, ?_,HW.out⟩;intro b hb
      by_cases e:b=j
      ·subst e;exact HGJ.out
      ·exact HG.out b (by omega)
     case measure=>simp [intOf];omega
  ·have hkn:k=n:=by omega
   subst hkn
   go_wp2
   go_ret
   exact ⟨Or.inl ⟨rfl,HG.out⟩,_,HW.out⟩
end Go.Proofs.YtdfpkmfeldoamaaGreatDoor.Od
namespace Go.Proofs.YtdfpkmfeldoamaaGreatDoor.Od
open Go.RowKit
theorem Tryz.info260:(Tryz.prog.info? 260).map (fun i=>(i.zero,i.size,i.bytes))=some (some (.int .u32 0),1,4):=by kernel_rfl
structure Mk (w0:World)(N o ba bu:Nat)(f:Nat->Nat)(wx:World):Prop where
 c0:wx.cell? ⟨o,0,none⟩=some (.slice (some ⟨ba,0,none⟩) N N)
 c1:wx.cell? ⟨o,1,none⟩=some (.slice (some ⟨bu,0,none⟩) N N)
 ra:RowAt wx ba N f
 ru:RowAt wx bu N (fun _=>0)
 fa:∀ i,i<N->wx.frozen? ⟨ba,i,none⟩=false
 fu:∀ i,i<N->wx.frozen? ⟨bu,i,none⟩=false
 oa:o≠ba
 ou:o≠bu
 ab:ba≠bu
 lo:w0.heap.size<=o/\w0.heap.size<=ba/\w0.heap.size<=bu
 hi:o<wx.heap.size/\ba<wx.heap.size/\bu<wx.heap.size
 below:Below w0.heap.size w0 wx
theorem Mk.drew {w0:World}{N o ba bu:Nat}{f:Nat->Nat}{wx:World}(h:Mk w0 N o ba bu f wx):Mk w0 N o ba bu f wx.drew :=
 ⟨by simpa using h.c0,by simpa using h.c1,h.ra.drew,h.ru.drew,by simpa using h.fa,by simpa using h.fu,h.oa,h.ou,h.ab,h.lo,by simpa using h.hi,h.below.drew⟩
theorem Mk.congr {w0:World}{N o ba bu:Nat}{f g:Nat->Nat}{wx:World}(h:Mk w0 N o ba bu f wx)(e:∀ i,i<N->f i=g i):Mk w0 N o ba bu g wx :=
 ⟨h.c0,h.c1,h.ra.congr e,h.ru,h.fa,h.fu,h.oa,h.ou,h.ab,h.lo,h.hi,h.below⟩
theorem Mk.set {w0:World}{N o ba bu:Nat}{f:Nat->Nat}{wx:World}(h:Mk w0 N o ba bu f wx)(j x:Nat):
  Mk w0 N o ba bu (fun i=>if i=j then x else f i) (wx.setCell ⟨ba,j,none⟩ (.int .u32 (x:Int))):=by
 have on:Only ba wx (wx.setCell ⟨ba,j,none⟩ (.int .u32 (x:Int))):=(Only.refl ba wx).setCell j _;exact ⟨by rw [on.cell h.oa];exact h.c0,by rw [on.cell h.oa];exact h.c1,h.ra.set,on.row (Ne.symm h.ab) h.ru,fun i hi=>by rw [on.frozen];exact h.fa i hi,fun i hi=>by rw [on.frozen];exact h.fu i hi,
  h.oa,h.ou,h.ab,h.lo,by rw [on.size];exact h.hi,h.below.trans (on.below h.lo.2.1)⟩
theorem Mk.alloc {w0:World}{N o ba bu:Nat}{f:Nat->Nat}{wx:World}(h:Mk w0 N o ba bu f wx)(x:Obj):Mk w0 N o ba bu f (wx.alloc x):=by
 have cell:∀ b i,b<wx.heap.size->(wx.alloc x).cell? ⟨b,i,none⟩=wx.cell? ⟨b,i,none⟩:=fun b i hb=>World.cell?_alloc_lt _ _ _ hb;have froz:∀ b i,b<wx.heap.size->(wx.alloc x).frozen? ⟨b,i,none⟩=wx.frozen? ⟨b,i,none⟩:=fun b i hb=>World.frozen?_alloc_old _ _ _ (by simp;omega);obtain ⟨h1,h2,h3⟩:=h.hi;exact ⟨by rw [cell _ _ h1];exact h.c0,by rw [cell _ _ h1];exact h.c1,fun i hi=>by rw [cell _ _ h2];exact h.ra i hi,fun i hi=>by rw [cell _ _ h3];exact h.ru i hi,
  fun i hi=>by rw [froz _ _ h2];exact h.fa i hi,fun i hi=>by rw [froz _ _ h3];exact h.fu i hi,h.oa,h.ou,h.ab,h.lo,by simp;omega,h.below.alloc (by have:=h.below.size;omega) _⟩
theorem made_cell (w:World)(N i:Nat)(hi:i<N):(w.alloc (.cells (madeCells #[Value.int .u32 0] N) 260)).cell? ⟨w.heap.size,i,none⟩=some (.int .u32 0):=by
 rw [World.cell?_alloc_new];simp [madeCells,hi,Nat.mod_one]
theorem mk_made (w:World)(N:Nat)(s:Bool):
  Mk w N (w.heap.size+2) (if s then w.heap.size else w.heap.size+1) (if s then w.heap.size+1 else w.heap.size) (fun _=>0)
   (((w.alloc (.cells (madeCells #[Value.int .u32 0] N) 260)).alloc (.cells (madeCells #[Value.int .u32 0] N) 260)).alloc
    (.cells #[.slice (some ⟨if s then w.heap.size else w.heap.size+1,0,none⟩) N N,.slice (some ⟨if s then w.heap.size+1 else w.heap.size,0,none⟩) N N] 258)):=by
 generalize hA:(Obj.cells (madeCells #[Value.int .u32 0] N) 260)=A;generalize hC:(Obj.cells #[.slice (some ⟨if s then w.heap.size else w.heap.size+1,0,none⟩) N N,.slice (some ⟨if s then w.heap.size+1 else w.heap.size,0,none⟩) N N] 258)=C;have c1:∀ i,i<N->(((w.alloc A).alloc A).alloc C).cell? ⟨w.heap.size,i,none⟩=some (.int .u32 0):=by
  intro i hi;rw [World.cell?_alloc_lt _ _ _ (by simp;omega),World.cell?_alloc_lt _ _ _ (by simp),<- hA];exact made_cell w N i hi
 have c2:∀ i,i<N->(((w.alloc A).alloc A).alloc C).cell? ⟨w.heap.size+1,i,none⟩=some (.int .u32 0):=by
  intro i hi;rw [World.cell?_alloc_lt _ _ _ (by simp)];have:=made_cell (w.alloc A) N i hi;rw [hA] at this;simpa using this
 have f1:∀ i,(((w.alloc A).alloc A).alloc C).frozen? ⟨w.heap.size,i,none⟩=false:=by
  intro i;rw [World.frozen?_alloc_old _ _ _ (by simp;omega),World.frozen?_alloc_old _ _ _ (by simp),<- hA];exact World.frozen?_alloc_new _ _ _ _
 have f2:∀ i,(((w.alloc A).alloc A).alloc C).frozen? ⟨w.heap.size+1,i,none⟩=false:=by
  intro i;rw [World.frozen?_alloc_old _ _ _ (by simp)];have:=World.frozen?_alloc_new (w.alloc A) (madeCells #[Value.int .u32 0] N) 260 i;rw [hA] at this;simpa using this
 have o0:(((w.alloc A).alloc A).alloc C).cell? ⟨w.heap.size+2,0,none⟩=some (.slice (some ⟨if s then w.heap.size else w.heap.size+1,0,none⟩) N N):=by
  rw [<- hC];have:=World.cell?_alloc_new ((w.alloc A).alloc A) #[.slice (some ⟨if s then w.heap.size else w.heap.size+1,0,none⟩) N N,.slice (some ⟨if s then w.heap.size+1 else w.heap.size,0,none⟩) N N] 258 0
  simpa using this
 have o1:(((w.alloc A).alloc A).alloc C).cell? ⟨w.heap.size+2,1,none⟩=some (.slice (some ⟨if s then w.heap.size+1 else w.heap.size,0,none⟩) N N):=by
  rw [<- hC];have:=World.cell?_alloc_new ((w.alloc A).alloc A) #[.slice (some ⟨if s then w.heap.size else w.heap.size+1,0,none⟩) N N,.slice (some ⟨if s then w.heap.size+1 else w.heap.size,0,none⟩) N N] 258 1
  simpa using this
 have bl:Below w.heap.size w (((w.alloc A).alloc A).alloc C):=(((Below.refl _ w).alloc (by simp) A).alloc (by simp) A).alloc (by simp;omega) C;clear hA hC
 cases s
 ·exact ⟨o0,o1,c2,c1,fun i _=>f2 i,fun i _=>f1 i,by simp,by simp,by simp,by simp <;> omega,by simp <;> omega,bl⟩
 ·exact ⟨o0,o1,c1,c2,fun i _=>f1 i,fun i _=>f2 i,by simp,by simp,by simp,by simp <;> omega,by simp <;> omega,bl⟩
namespace M
def initTo (k a:Nat):Nat:=if a<k then bit a else 0
theorem initTo_succ (k a:Nat):initTo (k+1) a=if a=k then bit k else initTo k a:=by
 unfold initTo
 by_cases e:a=k
 ·subst e;simp
 ·have:a<k+1↔a<k:=by omega
  simp [e,this]
structure PInv (n:Nat)(p q:Nat->Int)(k:Nat)(f:Nat->Nat):Prop where
 lim:∀ a,a<n->f a<2 ^ n
 bits:∀ a b,a<n->b<n->((f a).testBit b=true↔(a=b\/∃ i,i<k/\p i=a/\q i=b))
theorem PInv.start (n:Nat)(p q:Nat->Int):PInv n p q 0 (initTo n) where
 lim a ha:=by unfold initTo;rw [if_pos ha];exact Nat.pow_lt_pow_right (by omega) ha
 bits a b ha hb:=by
  unfold initTo;rw [if_pos ha,testBit_bit]
  constructor
  ·intro h;exact Or.inl (by simpa using h)
  ·rintro (h | ⟨i,hi,_⟩)
   ·simpa using h
   ·omega
theorem PInv.step {n k:Nat}{p q:Nat->Int}{f:Nat->Nat}(h:PInv n p q k f){a b:Nat}(ha:a<n)(hb:b<n)(ea:p k=a)(eb:q k=b):PInv n p q (k+1) (fun i=>if i=a then f a ||| bit b else f i) where
 lim x hx:=by
  split
  ·exact Nat.or_lt_two_pow (h.lim a ha) (Nat.pow_lt_pow_right (by omega) hb)
  ·exact h.lim x hx
 bits x y hx hy:=by
  have hold:=h.bits x y hx hy
  by_cases e:x=a
  ·subst e;rw [if_pos rfl,Nat.testBit_or,Bool.or_eq_true,hold,testBit_bit]
   constructor
   ·rintro ((h1 | ⟨i,hi,h2,h3⟩) | h1)
    ·exact Or.inl h1
    ·exact Or.inr ⟨i,by omega,h2,h3⟩
    ·have hy':b=y:=by simpa using h1
     subst hy';exact Or.inr ⟨k,by omega,ea,eb⟩
   ·rintro (h1 | ⟨i,hi,h2,h3⟩)
    ·exact Or.inl (Or.inl h1)
    ·by_cases hik:i=k
     ·subst hik
      right
      rw [eb] at h3
      simp;omega
     ·exact Or.inl (Or.inr ⟨i,by omega,h2,h3⟩)
  ·rw [if_neg e,hold]
   constructor
   ·rintro (h1 | ⟨i,hi,h2,h3⟩)
    ·exact Or.inl h1
    ·exact Or.inr ⟨i,by omega,h2,h3⟩
   ·rintro (h1 | ⟨i,hi,h2,h3⟩)
    ·exact Or.inl h1
    ·by_cases hik:i=k
     ·subst hik;rw [ea] at h2;exact absurd (Int.ofNat.inj h2).symm e
     ·exact Or.inr ⟨i,by omega,h2,h3⟩
end M
def PairsAt (w:World)(ao:Option Addr)(len:Nat)(p q:Nat->Int):Prop :=
 ∀ i,i<len->∃ b off,ao=some ⟨b,off,none⟩/\b<w.heap.size/\w.cell? ⟨b,off+i*2,none⟩=some (.int .i64 (p i))/\w.cell? ⟨b,off+i*2+1,none⟩=some (.int .i64 (q i))
end Go.Proofs.YtdfpkmfeldoamaaGreatDoor.Od
namespace Go.Proofs.YtdfpkmfeldoamaaGreatDoor.Od
open Go.RowKit
def PairIn (N:Nat)(x y:Int):Prop:=0<=x/\x<(N:Int)/\0<=y/\y<(N:Int)
def Built (N:Nat)(p q:Nat->Int)(len:Nat)(f u:Nat->Nat):Prop:=∃ f0,M.PInv N p q len f0/\M.CInv N f0 N f/\M.RInv N f N 0 u
def NewPost (w:World)(N:Nat)(p q:Nat->Int)(len:Nat)(e:Ending)(w':World):Prop :=
 Below w.heap.size w w' /\
 ((e = .returned (.tuple #[.pointer none,.int .i64 1])/\∃ i,i<len/\¬ PairIn N (p i) (q i)) \/
  ((∀ i,i<len->PairIn N (p i) (q i))/\∃ f u,Built N p q len f u /\
  ((e = .returned (.tuple #[.pointer none,.int .i64 2])/\¬ M.LatOK N f u) \/
   (M.LatOK N f u/\∃ o ba bu,e = .returned (.tuple #[.pointer (some ⟨o,0,none⟩),.int .i64 0])/\w.heap.size<=o/\o<w'.heap.size/\OrdAt w' o N ba bu f u))))
theorem new_any (w:World)(N:Nat)(ao:Option Addr)(len cap:Nat)(p q:Nat->Int)(h1:1<=N)(h32:N<=32)(hlen:len<=140737488351232)(hps:PairsAt w ao len p q):
  Calls Tryz.prog 95 #[.int .i64 (N:Int),.slice ao len cap] w (NewPost w N p q len):=by
 have HPS:=Lib.hid hps;clear hps;have hmk:=run_make_row' (P:=Tryz.prog) 256 260 (.int .u32 0) 4 Tryz.underlying256 Tryz.info260 rfl .i64 .i64 N (by omega) (by omega);have t1:decide ((N:Int)<1)=false:=by simp;omega
 have t2:decide ((32:Int)<(N:Int))=false:=by simp;omega
 go_enter Tryz.func95,Tryz.ntmps95
 go_upto_region 3 with fail
 go_cut [6] (fun s wx=>∃ o ba bu,s = .pointer (some ⟨o,0,none⟩)/\Mk w N o ba bu (fun _=>0) wx)
 case first =>
  go_region
  ·go_wp2_with fail
   go_meet
   exact ⟨w.heap.size+2,w.heap.size,w.heap.size+1,rfl,(mk_made w N true).drew⟩
  ·go_wp2_with fail
   go_meet
   exact ⟨w.heap.size+2,w.heap.size+1,w.heap.size,rfl,(mk_made w N false).drew⟩
 case rest =>
  obtain ⟨o,ba,bu,rfl,hmk0⟩:=hcut;clear hmk
  go_wp2
  go_loopw [23] (fun i wr=>∃ k:Nat,k<=N/\i = .int .i64 k/\Mk w N o ba bu (M.initTo k) wr) (fun i _=>N-(intOf i).toNat)
  case atStart=>exact ⟨0,Nat.zero_le _,rfl,hmk0.congr (fun i _=>by simp [M.initTo])⟩
  case round =>
   clear hmk0;obtain ⟨k,hk,rfl,hm⟩:=hrel;have hc0:=hm.c0
   by_cases hlt:k<N
   ·have hck:=hm.ra k hlt;have hfk:=hm.fa k hlt
    go_wp2_with fail
    go_region_with (go_at_call 141;refine (only_any _ _ (by omega) (by omega)).mono ?_;rintro e w' ⟨rfl,rfl⟩;simp only [Int.toNat_natCast])
    all_goals
     go_wp2
     go_roundw
     case rel=>exact ⟨k+1,by omega,by go_num,((hm.set k (M.bit k)).drew).congr (fun i _=>(M.initTo_succ k i).symm)⟩
     case measure=>simp [intOf];omega
   ·have hkn:N=k:=by omega
    subst hkn;have hmN:=hm;clear hm hc0 hlt hk
    go_wp2
    go_loopw [37] (fun i wr=>∃ (k:Nat) (f:Nat->Nat),k<=len/\i = .int .i64 k/\(∀ j,j<k->PairIn N (p j) (q j))/\M.PInv N p q k f/\Mk w N o ba bu f wr) (fun i _=>len-(intOf i).toNat)
    case atStart=>exact ⟨0,_,Nat.zero_le _,rfl,fun j hj=>by omega,M.PInv.start N p q,hmN⟩
    case round =>
     clear hmN;obtain ⟨k,f,hk,rfl,hin,hpi,hm⟩:=hrel;have HIN:=Lib.hid hin;clear hin;have hc0:=hm.c0;have hsz:=hm.hi
     by_cases hlt:k<len
     ·obtain ⟨b,off,rfl,hb,hcp,hcq⟩:=HPS.out k hlt;have hcp':wr.cell? ⟨b,off+k*2,none⟩=some (.int .i64 (p k)):=by rw [hm.below.cell hb];exact hcp
      have hcq':wr.cell? ⟨b,off+k*2+1,none⟩=some (.int .i64 (q k)):=by rw [hm.below.cell hb];exact hcq
      clear hcp hcq
      by_cases hP:PairIn N (p k) (q k)
      ·obtain ⟨x,ex⟩:=Int.eq_ofNat_of_zero_le hP.1;obtain ⟨y,ey⟩:=Int.eq_ofNat_of_zero_le hP.2.2.1;rw [ex] at hcp';rw [ey] at hcq';have hx:x<N:=by have:=hP.2.1;omega
       have hy:y<N:=by have:=hP.2.2.2;omega
       have HX:=Lib.hid ex;clear ex;have HY:=Lib.hid ey;clear ey;have HP:=Lib.hid hP;clear hP;have hcx:=hm.ra x hx;have hfx:=hm.fa x hx;have hbx:ba<wr.heap.size:=hsz.2.1;have hox:o<wr.heap.size:=hsz.1;have ix:(x:Int)<(N:Int):=by omega
       have iy:(y:Int)<(N:Int):=by omega
       have e1:=hasB_true (n:=N) (a:=(x:Int)) (by omega) (by omega);have e2:=hasB_true (n:=N) (a:=(y:Int)) (by omega) (by omega);have hor:=u32_or_nat (f x) (M.bit y) (lt32 h32 (hpi.lim x hx)) (M.bit_lt32 (by omega))
       go_wp2_with fail
       refine (has_any _ o N ba _ (hm.alloc _).c0).mono ?_;rintro e w' ⟨rfl,rfl⟩;rw [e1]
       go_wp2_with fail
       refine (has_any _ o N ba _ (hm.alloc _).c0).mono ?_;rintro e w' ⟨rfl,rfl⟩;rw [e2]
       go_wp2_with fail
       have hmA:=hm.alloc (.cells #[.int .i64 (x:Int),.int .i64 (y:Int)] 197);have a0:(wr.alloc (.cells #[.int .i64 (x:Int),.int .i64 (y:Int)] 197)).cell? ⟨wr.heap.size,0,none⟩=some (.int .i64 (x:Int)):=by rw [World.cell?_alloc_new];rfl
       have a1:(wr.alloc (.cells #[.int .i64 (x:Int),.int .i64 (y:Int)] 197)).cell? ⟨wr.heap.size,1,none⟩=some (.int .i64 (y:Int)):=by rw [World.cell?_alloc_new];rfl
       generalize wr.alloc (.cells #[.int .i64 (x:Int),.int .i64 (y:Int)] 197)=wa at *;clear hcx hfx hbx hox hcp' hcq' hc0;have hc0:=hmA.c0;have hcx:=hmA.ra x hx;have hfx:=hmA.fa x hx;clear hm;generalize wr.heap.size=s9 at *
       go_still_tail 13,(by kernel_rfl)
       still_call ((only_any _ _ (by omega) (by omega)).mono fun e w' ⟨he,hw⟩=>⟨he,hw.symm⟩)
       simp only [Int.toNat_natCast]
       repeat still_step
       refine wpStill_nil ?_
       go_wp2
       go_roundw
       case rel =>
        refine ⟨k+1,_,by omega,by go_num, ?_,hpi.step hx hy HX.out HY.out,(hmA.set x (f x ||| M.bit y)).drew⟩;intro j hj
        by_cases e:j=k
        ·subst e;exact HP.out
        ·exact HIN.out j (by omega)
       case measure=>simp [intOf];omega
      ·have fin:∃ i,i<len/\¬ PairIn N (p i) (q i):=⟨k,hlt,hP⟩;have FIN:=Lib.hid fin;clear fin;have HP:=Lib.hid hP;clear hP
       go_wp2_with fail
       refine (has_any _ o N ba _ (hm.alloc _).c0).mono ?_;rintro e w' ⟨rfl,rfl⟩
       cases e1:hasB N (p k) with
       | false =>
        clear e1
        go_wp2
        go_ret2
        exact ⟨(hm.alloc _).below,Or.inl ⟨rfl,FIN.out⟩⟩
       | true =>
        have e2:hasB N (q k)=false:=by
         cases e2:hasB N (q k) with
         | false=>rfl
         | true=>exact absurd ⟨(of_hasB e1).1,(of_hasB e1).2,(of_hasB e2).1,(of_hasB e2).2⟩ HP.out
        have E2:=Lib.hid e2;clear e1 e2
        go_wp2_with fail
        refine (has_any _ o N ba _ (hm.alloc _).c0).mono ?_;rintro e w' ⟨rfl,rfl⟩;rw [E2.out]
        go_wp2
        go_ret2
        exact ⟨(hm.alloc _).below,Or.inl ⟨rfl,FIN.out⟩⟩
     ·have hkl:len=k:=by omega
      subst hkl;have hfl:=hpi.lim
      go_wp2_with fail
      refine (complete_any _ o N ba f h32 hc0 hm.ra hm.oa hpi.lim hm.fa).mono ?_;rintro e w1 ⟨rfl,g,hg,hrg,ho1⟩;have hc0':w1.cell? ⟨o,0,none⟩=some (.slice (some ⟨ba,0,none⟩) N N):=by rw [ho1.cell hm.oa];exact hm.c0
      have hc1':w1.cell? ⟨o,1,none⟩=some (.slice (some ⟨bu,0,none⟩) N N):=by rw [ho1.cell hm.oa];exact hm.c1
      have hru':=ho1.row (Ne.symm hm.ab) hm.ru;have hfu':∀ i,i<N->w1.frozen? ⟨bu,i,none⟩=false:=fun i hi=>by rw [ho1.frozen];exact hm.fu i hi
      have HFU:=Lib.hid hfu';clear hfu' hfl hc0
      go_wp2_with fail
      refine (reverse_any _ o N ba bu g h32 hc0' hc1' hrg hru' hm.ou hm.ab hg.lim HFU.out).mono ?_;rintro e w2 ⟨rfl,u,hu,hrv,ho2⟩;have hord:OrdAt w2 o N ba bu g u:=⟨h32,by rw [ho2.cell hm.ou];exact hc0',by rw [ho2.cell hm.ou];exact hc1',ho2.row hm.ab hrg,hrv,fun i hi=>lt32 h32 (hg.lim i hi),fun i hi=>lt32 h32 (hu.lim i hi)⟩;have hbel:Below w.heap.size w w2:=(hm.below.trans (ho1.below hm.lo.2.1)).trans (ho2.below hm.lo.2.2);have hbuilt:Built N p q len g u:=⟨f,hpi,hg,hu⟩;have hsz2:o<w2.heap.size:=by rw [ho2.size,ho1.size];exact hsz.1
      clear hc0' hc1'
      go_wp2_with fail
      refine (isLattice_any _ o N ba bu g u hord).mono ?_;rintro e w3 ⟨hres,nd,rfl⟩
      rcases hres with ⟨rfl,hok⟩ | ⟨rfl,hno⟩
      ·go_wp2
       go_ret2
       exact ⟨below_drewN hbel _,Or.inr ⟨HIN.out,g,u,hbuilt,Or.inr ⟨hok,o,ba,bu,rfl,hm.lo.1,by simpa using hsz2,hord.drewN _⟩⟩⟩
      ·go_wp2
       go_ret2
       exact ⟨below_drewN hbel _,Or.inr ⟨HIN.out,g,u,hbuilt,Or.inl ⟨rfl,hno⟩⟩⟩
end Go.Proofs.YtdfpkmfeldoamaaGreatDoor.Od
namespace Go.Proofs.YtdfpkmfeldoamaaGreatDoor.Od
open Go.RowKit
end Go.Proofs.YtdfpkmfeldoamaaGreatDoor.Od
namespace Go.Proofs.YtdfpkmfeldoamaaGreatDoor.Od
open Go.RowKit
theorem PairsAt.below {w w':World}{ao:Option Addr}{len:Nat}{p q:Nat->Int}(h:PairsAt w ao len p q)(hb:Below w.heap.size w w'):PairsAt w' ao len p q:=by
 intro i hi;obtain ⟨b,off,e,hlt,h1,h2⟩:=h i hi;exact ⟨b,off,e,by have:=hb.size;omega,by rw [hb.cell hlt];exact h1,by rw [hb.cell hlt];exact h2⟩
end Go.Proofs.YtdfpkmfeldoamaaGreatDoor.Od
