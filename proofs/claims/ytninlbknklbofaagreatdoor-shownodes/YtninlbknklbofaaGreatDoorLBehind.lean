/- A part of the proof: Where a piece of text ends that begins at a place: behind, at every piece that is UTF-8. -/
import Derived.Test.YtninlbknklbofaaGreatDoorLScan
import Derived.Laws.RangeAny
import Derived.Lib.OthersKept
set_option linter.unusedSimpArgs false
set_option linter.unusedVariables false
set_option maxHeartbeats 2000000
namespace Go.Proofs.YtninlbknklbofaaGreatDoor
open Go.RowKit
theorem getD_drop (s:ByteArray)(pos i:Nat):s.get! (pos+i)=(s.data.toList.drop pos).getD i 0:=by
 rw [List.getD_eq_getElem?_getD,List.getElem?_drop]
 show s.data[pos+i]! = _
 rw [getElem!_def,<- Array.getElem?_toList]
 cases s.data.toList[pos+i]? <;> rfl
theorem decode_dec (s:ByteArray)(pos:Nat):Utf8.decode s pos=Lx.dec (s.data.toList.drop pos):=by
 rw [Lib.decode_at,Lx.dec,<- getD_drop,<- getD_drop,<- getD_drop,<- getD_drop,List.length_drop,<- size_len]
 rfl
structure PAt (w0:World)(s:ByteArray)(pos:Nat)(p:Lx.Pos)(wr:World):Prop where
 c0:wr.cell? ⟨w0.heap.size,0,none⟩=some (.int .i64 p.line)
 c1:wr.cell? ⟨w0.heap.size,1,none⟩=some (.int .i64 p.col)
 r0:wr.cell? ⟨w0.heap.size+1,0,none⟩=some (.int .i64 0)
 r1:wr.cell? ⟨w0.heap.size+1,1,none⟩=some (.int .i64 0)
 fz:∀ i,wr.frozen? ⟨w0.heap.size,i,none⟩=false
 gz:∀ i,wr.frozen? ⟨w0.heap.size+1,i,none⟩=false
 it:wr.heap[w0.heap.size+1+1]? = some (.stringIter s pos)
 bl:Below w0.heap.size w0 wr
theorem iter_cell (w:World)(k:Nat)(s:ByteArray)(pos:Nat)(b i:Nat)(h:b≠k):(w.iterAt k s pos).cell? ⟨b,i,none⟩=w.cell? ⟨b,i,none⟩ :=
 World.cell?_of_block (Lib.iterAt_other w k b s pos h)
theorem iter_frozen (w:World)(k:Nat)(s:ByteArray)(pos:Nat)(b i:Nat)(h:b≠k):(w.iterAt k s pos).frozen? ⟨b,i,none⟩=w.frozen? ⟨b,i,none⟩ :=
 World.frozen?_of_block (Lib.iterAt_other w k b s pos h)
theorem PAt.next {w0:World}{s:ByteArray}{pos:Nat}{p:Lx.Pos}{wr:World}(h:PAt w0 s pos p wr)(pos':Nat):PAt w0 s pos' p (wr.iterAt (w0.heap.size+1+1) s pos') :=
 ⟨by rw [iter_cell _ _ _ _ _ _ (by omega)];exact h.c0,by rw [iter_cell _ _ _ _ _ _ (by omega)];exact h.c1,by rw [iter_cell _ _ _ _ _ _ (by omega)];exact h.r0,by rw [iter_cell _ _ _ _ _ _ (by omega)];exact h.r1,
  fun i=>by rw [iter_frozen _ _ _ _ _ _ (by omega)];exact h.fz i,fun i=>by rw [iter_frozen _ _ _ _ _ _ (by omega)];exact h.gz i,Lib.iterAt_heap _ _ _ _ _ h.it,Lib.below_iterAt h.bl (by omega) _ _⟩
theorem PAt.col {w0:World}{s:ByteArray}{pos:Nat}{p:Lx.Pos}{wr:World}(h:PAt w0 s pos p wr)(c:Int):PAt w0 s pos ⟨p.line,c⟩ (wr.setCell ⟨w0.heap.size,1,none⟩ (.int .i64 c)) :=
 ⟨by rw [World.cell?_setCell_other _ _ _ _ (by simp)];exact h.c0,World.cell?_setCell_same _ _ _ h.c1,by rw [World.cell?_setCell_other _ _ _ _ (by simp)];exact h.r0,by rw [World.cell?_setCell_other _ _ _ _ (by simp)];exact h.r1,
  fun i=>by simpa using h.fz i,fun i=>by simpa using h.gz i,by rw [Below.heap_setCell _ _ _ _ (by simp;omega)];exact h.it,h.bl.setCell (by simp) _⟩
theorem PAt.line {w0:World}{s:ByteArray}{pos:Nat}{p:Lx.Pos}{wr:World}(h:PAt w0 s pos p wr)(c:Int):PAt w0 s pos ⟨c,p.col⟩ (wr.setCell ⟨w0.heap.size,0,none⟩ (.int .i64 c)) :=
 ⟨World.cell?_setCell_same _ _ _ h.c0,by rw [World.cell?_setCell_other _ _ _ _ (by simp)];exact h.c1,by rw [World.cell?_setCell_other _ _ _ _ (by simp)];exact h.r0,by rw [World.cell?_setCell_other _ _ _ _ (by simp)];exact h.r1,
  fun i=>by simpa using h.fz i,fun i=>by simpa using h.gz i,by rw [Below.heap_setCell _ _ _ _ (by simp;omega)];exact h.it,h.bl.setCell (by simp) _⟩
theorem behind_any (s:ByteArray)(p0:Lx.Pos)(w:World)(hs:s.size<=1000000000000)(hv:Lx.Valid s.data.toList)(hl0:0<=p0.line)(hl1:p0.line<=1000000000000)(hc0:0<=p0.col)(hc1:p0.col<=1000000000000):
  Calls Tryz.prog 59 #[.agg #[.int .i64 p0.line,.int .i64 p0.col],.string s] w fun e w'=>e = .returned (.agg #[.int .i64 (Lx.adv p0 s.data.toList).line,.int .i64 (Lx.adv p0 s.data.toList).col])/\Below w.heap.size w w':=by
 generalize hT:Lx.adv p0 s.data.toList=T;have HT:=Lib.hid hT;clear hT;have HV:=Lib.hid hv;clear hv
 go_enter Tryz.func59,Tryz.ntmps59
 have hP0:PAt w s 0 p0 (((w.alloc (.cells #[.int .i64 p0.line,.int .i64 p0.col] 27)).alloc (.cells #[.int .i64 0,.int .i64 0] 27)).iter s 0):=by
  refine ⟨by simp [World.iter,go_sem],by simp [World.iter,go_sem],by simp [World.iter,go_sem],by simp [World.iter,go_sem],fun i=>by simp [World.iter,go_sem],fun i=>by simp [World.iter,go_sem], ?_, ?_⟩
  ·simpa using World.iter_heap ((w.alloc (.cells #[.int .i64 p0.line,.int .i64 p0.col] 27)).alloc (.cells #[.int .i64 0,.int .i64 0] 27)) s 0
  ·exact (((Below.refl _ w).alloc (Nat.le_refl _) _).alloc (by simp) _).alloc (by simp;omega) _
 go_wp2
 generalize ((w.alloc (.cells #[.int .i64 p0.line,.int .i64 p0.col] 27)).alloc (.cells #[.int .i64 0,.int .i64 0] 27)).iter s 0=w1 at *
 go_loopw [6] (fun _ wr=>∃ (pos:Nat) (p:Lx.Pos),PAt w s pos p wr/\pos<=s.size/\Lx.Valid (s.data.toList.drop pos)/\T=Lx.adv p (s.data.toList.drop pos)/\0<=p.line/\p.line<=1000000000000+pos/\0<=p.col/\p.col<=1000000000000+pos) (fun _ wr=>s.size-wr.iterPos (w.heap.size+1+1))
 case atStart =>
  exact ⟨0,p0,hP0,Nat.zero_le _,HV.out,by simpa using HT.out.symm,hl0,by omega,hc0,by omega⟩
 case round =>
  obtain ⟨pos,p,hP,hpos,hv,hT,b1,b2,b3,b4⟩:=hrel;have HV2:=Lib.hid hv;clear hv;have HT2:=Lib.hid hT;clear hT HT HV hP0
  by_cases hp:pos<s.size
  ·have hnx:∀ ty,(Instr.next (.pointer (some ⟨w.heap.size+1+1,0,none⟩)) true ty).run Tryz.prog wr=_:=fun ty=>Lib.run_next_any_at wr (w.heap.size+1+1) s pos ty hP.it hp;have hne:s.data.toList.drop pos≠[]:=by
    intro h;have:=congrArg List.length h;rw [List.length_drop,<- size_len] at this;simp at this;omega
   have hpp:=HV2.out.pos hne;have F:=Lx.point_facts _ hne hpp;have hA:=Lx.adv_point p _ hne hpp;have hlen:=F.le;rw [List.length_drop,<- size_len] at hlen;have hd2:(Utf8.decode s pos).2=Lx.point (s.data.toList.drop pos):=by rw [decode_dec,F.two]
   have hd1:=decode_le s pos;rw [decode_dec] at hd1 hd2;have hrest:=HV2.out.rest hne;rw [List.drop_drop] at hrest;have hTn:T=Lx.adv (Lx.adv p ((s.data.toList.drop pos).take (Lx.point (s.data.toList.drop pos)))) (s.data.toList.drop (pos+Lx.point (s.data.toList.drop pos))):=by
    rw [<- List.drop_drop,<- Lx.adv_append,List.take_append_drop];exact HT2.out
   rw [hA] at hTn;have hit:=hP.it;rw [decode_dec s pos] at hnx;generalize Lx.point (s.data.toList.drop pos)=K at *;rw [hd2] at hnx;generalize (Lx.dec (s.data.toList.drop pos)).1=R at *;clear F hA hne HT2;have hP2:=hP.next (pos+K);have hms:s.size-(pos+K)<s.size-wr.iterPos (w.heap.size+1+1):=by
    simp only [World.iterPos,hit];omega
   have HMS:=Lib.hid hms;clear hms;have HTN:=Lib.hid hTn;clear hTn;have HR:=Lib.hid hrest;clear hrest;clear hd2 hit;generalize wr.iterAt (w.heap.size+1+1) s (pos+K)=w2 at *;have c0:=hP2.c0;have c1:=hP2.c1;have f0:=hP2.fz 0;have f1:=hP2.fz 1
   cases hR:((R:Int)==10)
   ·go_wp2
    go_roundw
    case rel =>
     refine ⟨pos+K,⟨p.line,p.col+1⟩,hP2.col _,by omega,HR.out, ?_,b1,by show p.line<=_;omega,by show 0<=p.col+1;omega,by show p.col+1<=_;omega⟩;rw [HTN.out,hR];rfl
    case measure =>
     have h:=HMS.out;have:=(hP2.col (p.col+1)).it;simp only [World.iterPos,this] at h ⊢;exact h
   ·go_wp2
    go_roundw
    case rel =>
     refine ⟨pos+K,⟨p.line+1,1⟩,(hP2.line _).col _,by omega,HR.out, ?_,by show 0<=p.line+1;omega,by show p.line+1<=_;omega,by show (0:Int)<=1;omega,by show (1:Int)<=_;omega⟩;rw [HTN.out,hR];rfl
    case measure =>
     have h:=HMS.out;have:=((hP2.line (p.line+1)).col 1).it;simp only [World.iterPos,this] at h ⊢;exact h
  ·have hnx:∀ ty,(Instr.next (.pointer (some ⟨w.heap.size+1+1,0,none⟩)) true ty).run Tryz.prog wr=_:=fun ty=>Lib.run_next_end_at wr (w.heap.size+1+1) s pos ty hP.it hp;have hT:=HT2.out;rw [drop_end s pos hp,Lx.adv_nil] at hT;subst hT;have c0:=hP.c0;have c1:=hP.c1;have r0:=hP.r0;have r1:=hP.r1;have g0:=hP.gz 0;have g1:=hP.gz 1;have bl:=hP.bl;clear HT2 HV2 hP
   go_wp2
   refine bodyPost_ret (v := .agg #[.int .i64 T.line,.int .i64 T.col]) ?_ rfl ⟨rfl,(bl.setCell (by simp) _).setCell (by simp) _⟩;simp [results,Tryz.results59,go_sem,r0,r1]
end Go.Proofs.YtninlbknklbofaaGreatDoor
