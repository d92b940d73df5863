/- A part of the proof: A part of the proof. -/
import Derived.Test.YtninlbknklbofaaGreatDoorSameT
import Derived.Test.YtninlbknklbofaaGreatDoorWr
import Derived.BigRegion
import Derived.StillTailTactics
import Derived.Deep.DeepCutAuto
import Derived.Deep.RegionWith
import Derived.Deep.RegionLaw
set_option linter.unusedSimpArgs false
set_option linter.unusedVariables false
set_option maxRecDepth 100000
set_option maxHeartbeats 4000000
namespace Go.Proofs.YtninlbknklbofaaGreatDoor
section
open Go.RowKit Go.Shelf Tn
theorem KnownAt.but {r:Nat}{l:List (Nat × Nat)}{w w':World}{p:Nat->Prop}(h:KnownAt w r l)(hb:But p w w')(hp:¬ p r):KnownAt w' r l:=hb.heap h hp
theorem KnownAt.below {r:Nat}{l:List (Nat × Nat)}{w w':World}(h:KnownAt w r l)(hb:Below w.heap.size w w'):KnownAt w' r l:=(hb.block _ (lt_of_heap h)).trans h
theorem KnownAt.lt {r:Nat}{l:List (Nat × Nat)}{w:World}(h:KnownAt w r l):r<w.heap.size:=lt_of_heap h
theorem KnownAt.put (W:World)(r:Nat)(o:Obj)(h:r<W.heap.size):But (fun q=>q=r) W { W with heap:=W.heap.setIfInBounds r o } /\ ({ W with heap:=W.heap.setIfInBounds r o } : World).heap[r]? = some o :=
 ⟨⟨rfl,rfl,rfl,by simp,fun k hk hp=>by show (W.heap.setIfInBounds r o)[k]? = _;rw [Array.getElem?_setIfInBounds_ne (fun e=>hp e.symm)]⟩,by show (W.heap.setIfInBounds r o)[r]? = _;simp [h]⟩
theorem two_new (W:World)(o1 o2:Obj):((W.alloc o1).alloc o2).drew.heap[W.heap.size]? = some o1/\((W.alloc o1).alloc o2).drew.heap[W.heap.size+1]? = some o2/\Below W.heap.size W ((W.alloc o1).alloc o2).drew:=by
 refine ⟨?_, ?_,(((Below.refl _ W).alloc (Nat.le_refl _) o1).alloc (by simp) o2).drew⟩
 ·show ((W.alloc o1).alloc o2).heap[W.heap.size]? = _
  rw [Below.heap_alloc _ _ _ (by simp)];exact World.alloc_heap_new W o1
 ·show ((W.alloc o1).alloc o2).heap[W.heap.size+1]? = _
  have:=World.alloc_heap_new (W.alloc o1) o2
  rwa [World.size_alloc] at this
theorem tl_ne {x y:ByteArray}(h:x≠y):¬ x.toList=y.toList:=fun e=>h (ByteArray.ext (by
 rw [ByteArray.toList_eq,ByteArray.toList_eq] at e;exact Array.toList_inj.1 e))
structure SmP (N mb:Nat)(ns ms:List Nd)(i k:Nat)(K:List (Nat × Nat))(w w':World)(K':List (Nat × Nat)):Prop where
 known:KnownAt w' mb K'
 good:∀ x∈K',sameB ns ms x.1 x.2=true
 only:∀ x∈K',x∈K\/x.1<=i
 but:But (fun q=>q=mb) w w'
def SmQ (N mb:Nat)(ns ms:List Nd)(i k:Nat)(K:List (Nat × Nat))(w:World)(e:Ending)(w':World):Prop:=e = .returned (.bool (sameB ns ms i k))/\∃ K',SmP N mb ns ms i k K w w' K'
structure SmL (mb:Nat)(ns ms:List Nd)(i:Nat)(x y:Nd)(K:List (Nat × Nat))(V:World)(j:Nat)(wr:World)(Kj:List (Nat × Nat)):Prop where
 known:KnownAt wr mb Kj
 good:∀ x∈Kj,sameB ns ms x.1 x.2=true
 only:∀ x∈Kj,x∈K\/x.1<i
 but:But (fun q=>q=mb) V wr
 kids:∀ t,t<j->sameB ns ms (kid x.kids t).toNat (kid y.kids t).toNat=true
theorem psame_any (N mb ba bb:Nat)(aoa aob:Option Addr)(capa capb:Nat)(ns ms:List Nd)(hwn:WF ns)(hwm:WF ms)(hfn:∀ i,i<ns.length->(nd ns i).kids.length<=999000)(hln:ns.length<=4000)(hlm:ms.length<=4000)(hNm:N<=mb)(i:Nat):
  i<ns.length->∀ (k:Nat),k<ms.length->∀ (w:World) (K:List (Nat × Nat)),TreeAt N w ba aoa capa ns->TreeAt N w bb aob capb ms->KnownAt w mb K->(∀ x∈K,sameB ns ms x.1 x.2=true) ->
  Calls Tryz.prog 35 #[.agg #[.pointer (some ⟨ba,0,none⟩),.pointer (some ⟨bb,0,none⟩),.map (some mb)],.int .i64 (i:Int),.int .i64 (k:Int)] w (SmQ N mb ns ms i k K w):=by
 induction i using Nat.strongRecOn with
 | _ i ih =>
  intro hi k hk w K hta htb hkn hgood;have hmw:mb<w.heap.size:=hkn.lt;have hNw:N<=w.heap.size:=by omega
  obtain ⟨xb,xo,xka,xkc,rfl,hx⟩:=hta.nodes i hi;obtain ⟨yb,yo,yka,ykc,rfl,hy⟩:=htb.nodes k hk;obtain ⟨W,hW⟩:∃ W,w.alloc (.cells #[.pointer (some ⟨ba,0,none⟩),.pointer (some ⟨bb,0,none⟩),.map (some mb)] 100)=W:=⟨_,rfl⟩;have hbW:Below w.heap.size w W:=by rw [<- hW];exact (Below.refl _ w).alloc (Nat.le_refl _) _
  have hbox:W.heap[w.heap.size]? = some (.cells #[.pointer (some ⟨ba,0,none⟩),.pointer (some ⟨bb,0,none⟩),.map (some mb)] 100 (0,0)):=by rw [<- hW];exact blk_new w _
  have hsW:W.heap.size=w.heap.size+1:=by rw [<- hW];simp
  have hxW:=hx.below (hbW.mono hNw);have hyW:=hy.below (hbW.mono hNw);have HW:=Lib.hid hW;have HB:=Lib.hid hbW;have HBX:=Lib.hid hbox;have HS:=Lib.hid hsW;have HXW:=Lib.hid hxW;have HYW:=Lib.hid hyW;have HTA:=Lib.hid (hta.below (hbW.mono hNw));have HTB:=Lib.hid (htb.below (hbW.mono hNw));have HKN:=Lib.hid (hkn.below hbW);have HG:=Lib.hid hgood;have HI:=Lib.hid ih;have ca:=(hta.below (hbW.mono hNw)).cell;have cb:=(htb.below (hbW.mono hNw)).cell;have b0:W.cell? ⟨w.heap.size,0,none⟩=some (.pointer (some ⟨ba,0,none⟩)):=(blk_cell hbox 0).trans rfl;have b1:W.cell? ⟨w.heap.size,1,none⟩=some (.pointer (some ⟨bb,0,none⟩)):=(blk_cell hbox 1).trans rfl;have x0:=hxW.c0;have x1:=hxW.c1;have x2:=hxW.c2;have x3:=hxW.c3;have x4:=hxW.c4;have x5:=hxW.c5;have y0:=hyW.c0;have y1:=hyW.c1;have y2:=hyW.c2;have y3:=hyW.c3;have y4:=hyW.c4;have y5:=hyW.c5;have hi2:(i:Int)<(ns.length:Int):=by omega
  have hk2:(k:Int)<(ms.length:Int):=by omega
  have l0:w.heap.size<W.heap.size:=by omega
  have l1:ba<W.heap.size:=by have:=hta.lt;omega
  have l2:bb<W.heap.size:=by have:=htb.lt;omega
  have l3:xb<W.heap.size:=by have:=hx.lt;omega
  have l4:yb<W.heap.size:=by have:=hy.lt;omega
  clear ih hW hbW hbox hsW hx hy hxW hyW hta htb hkn hgood
  go_enter Tryz.func35,Tryz.ntmps35
  go_upto_region 1 with fail
  rw [HW.out]
  go_cut [7,8] (fun v7 v8 wz=>∃ b7 b8,v7 = .pointer (some ⟨b7,0,none⟩)/\v8 = .pointer (some ⟨b8,0,none⟩)/\W.heap.size<=b7/\W.heap.size<=b8/\Six wz b7 30 (.string (nd ns i).op) (.int .i64 (nd ns i).line) (.int .i64 (nd ns i).col) (.string (nd ns i).name) (.int .i64 (nd ns i).num) (.slice xka (nd ns i).kids.length xkc) /\
   Six wz b8 30 (.string (nd ms k).op) (.int .i64 (nd ms k).line) (.int .i64 (nd ms k).col) (.string (nd ms k).name) (.int .i64 (nd ms k).num) (.slice yka (nd ms k).kids.length ykc)/\Below W.heap.size W wz)
  case first =>
   go_region
   all_goals
    go_wp2_with fail
    go_meet
    first
     | exact ⟨W.heap.size,W.heap.size+1,rfl,rfl,Nat.le_refl _,Nat.le_succ _,⟨(two_new W _ _).1⟩,⟨(two_new W _ _).2.1⟩,(two_new W _ _).2.2⟩
     | exact ⟨W.heap.size+1,W.heap.size,rfl,rfl,Nat.le_succ _,Nat.le_refl _,⟨(two_new W _ _).2.1⟩,⟨(two_new W _ _).1⟩,(two_new W _ _).2.2⟩
  case rest =>
   obtain ⟨b7,b8,rfl,rfl,l7,l8,h7,h8,hbz⟩:=hcut;have hno:=fun h=>sameB_no (ms:=ms) (k:=k) hwn hi h;have hkd:=fun j hj h=>sameB_kid (ms:=ms) (k:=k) (j:=j) hwn hi hj h;have hyes:=fun h hk=>sameB_yes (ms:=ms) (k:=k) hwn hi h hk;have hxk:=fun j hj=>kid_lt hwn hi (kid_mem (i:=j) hj);have hyk:=fun j hj=>kid_lt hwm hk (kid_mem (i:=j) hj);have hfx:=hfn i hi;have HNO:=Lib.hid hno;have HKD:=Lib.hid hkd;have HYES:=Lib.hid hyes;have HXK:=Lib.hid hxk;have HYK:=Lib.hid hyk;have hkc:KnownAt wc mb K:=(hbz.block _ (by have:=HKN.out.lt;omega)).trans HKN.out;have HKC:=Lib.hid hkc;have HBZ:=Lib.hid (HB.out.trans (hbz.mono (by omega)));have H7:=Lib.hid h7;have H8:=Lib.hid h8;have hbxc:=(hbz.block _ l0).trans HBX.out;have HBC:=Lib.hid hbxc;have hNz:Below N W wc:=hbz.mono (by omega);have HXC:=Lib.hid (HXW.out.kids.below hNz);have HYC:=Lib.hid (HYW.out.kids.below hNz);have HTAC:=Lib.hid (HTA.out.below hNz);have HTBC:=Lib.hid (HTB.out.below hNz);have hmbw:mb<W.heap.size:=by have:=HKN.out.lt;omega
   have hzw:=hbz.size;have x0:=h7.c0;have x1:=h7.c2;have x3:=h7.c3;have x4:=h7.c4;have x5:=h7.c5;have y0:=h8.c0;have y3:=h8.c3;have y4:=h8.c4;have y5:=h8.c5;clear hno hkd hyes hxk hyk hkc h7 h8 hbz hbxc hNz HKN HXW HYW HTA HTB HBX x1;generalize hnx:nd ns i=x at *;generalize hny:nd ms k=y at *;have HNX:=Lib.hid hnx;have HNY:=Lib.hid hny;clear hnx hny;have hk0:KnownAt w mb K:=by have:=HKC.out;unfold KnownAt at *;rw [<- HBZ.out.block mb hmw];exact this
   have stay:∀ w',Below w.heap.size w w'->∃ K',SmP N mb ns ms i k K w w' K':=fun w' hb=>⟨K,(hb.block _ hmw).trans hk0,HG.out,fun x hx => .inl hx,But.of_below hb⟩;have STAY:=Lib.hid stay;clear stay hk0
   by_cases e0:x.op=y.op
   rotate_left
   ·have hh:headB x y=false:=by simp [headB,e0]
    have HH:=Lib.hid (HNO.out hh);clear hh;have g1:=tl_ne e0;have g2:(x.op.toList==y.op.toList)=false:=by simpa using g1
    clear e0
    go_wp2
    go_ret
    exact ⟨ret_bool HH.out.symm,STAY.out _ HBZ.out⟩
   rw [<- e0] at y0
   by_cases e1:x.name=y.name
   rotate_left
   ·have hh:headB x y=false:=by simp [headB,e1]
    have HH:=Lib.hid (HNO.out hh);clear hh;have g1:=tl_ne e1;have g2:(x.name.toList==y.name.toList)=false:=by simpa using g1
    clear e0 e1
    go_wp2
    go_ret
    exact ⟨ret_bool HH.out.symm,STAY.out _ HBZ.out⟩
   rw [<- e1] at y3
   by_cases e2:x.num=y.num
   rotate_left
   ·have hh:headB x y=false:=by simp [headB,e2]
    have HH:=Lib.hid (HNO.out hh);clear hh;have g2:(x.num==y.num)=false:=by simpa using e2
    clear e0 e1 e2
    go_wp2
    go_ret
    exact ⟨ret_bool HH.out.symm,STAY.out _ HBZ.out⟩
   rw [<- e2] at y4
   by_cases e3:x.kids.length=y.kids.length
   rotate_left
   ·have hh:headB x y=false:=by simp [headB,e3]
    have HH:=Lib.hid (HNO.out hh);clear hh;have g2:((x.kids.length:Int)==(y.kids.length:Int))=false:=by simp;omega
    clear e0 e1 e2 e3
    go_wp2
    go_ret
    exact ⟨ret_bool HH.out.symm,STAY.out _ HBZ.out⟩
   rw [<- e3] at y5;have hhead:headB x y=true:=headB_iff.2 ⟨e0,e1,e2,e3⟩;have HHD:=Lib.hid hhead;have HE3:=Lib.hid e3;clear hhead e0 e1 e2 e3;have hlook:=pknown_look (a:=i) (b:=k) HKC.out;unfold pk at hlook;have b2:wc.cell? ⟨w.heap.size,2,none⟩=some (.map (some mb)):=(blk_cell HBC.out 2).trans rfl
   by_cases hin:(i,k)∈K
   ·rw [decide_eq_true hin] at hlook;have hs:=HG.out _ hin;have HSM:=Lib.hid hs;clear hin hs
    go_wp2
    go_ret
    exact ⟨ret_bool HSM.out.symm,STAY.out _ (HBZ.out.alloc HBZ.out.size _)⟩
   rw [decide_eq_false hin] at hlook;have HIN:=Lib.hid hin;clear hin
   go_upto_region 7 with fail
   obtain ⟨V,hV⟩:∃ V,wc.alloc (.cells #[] 126)=V:=⟨_,rfl⟩;have hbV:Below wc.heap.size wc V:=by rw [<- hV];exact (Below.refl _ wc).alloc (Nat.le_refl _) _
   rw [hV];have hzV:=hbV.size;have hNV:Below N wc V:=hbV.mono (by omega);have l70:=lt_of_heap H7.out.blk;have l80:=lt_of_heap H8.out.blk;have G7:=Lib.hid (H7.out.below hbV l70);have G8:=Lib.hid (H8.out.below hbV l80);have GBC:=Lib.hid ((hbV.block _ (lt_of_heap HBC.out)).trans HBC.out);have GXC:=Lib.hid (HXC.out.below hNV);have GYC:=Lib.hid (HYC.out.below hNV);have GTA:=Lib.hid (HTAC.out.below hNV);have GTB:=Lib.hid (HTBC.out.below hNV);have GKC:Hid (SmL mb ns ms i x y K V 0 V K):=Lib.hid ⟨(hbV.block _ (by omega)).trans HKC.out,HG.out,fun x hx => .inl hx,But.refl _ _,fun t ht=>absurd ht (Nat.not_lt_zero _)⟩;have GB:=Lib.hid (HBZ.out.trans (hbV.mono (by omega)));have c5:=G7.out.c5;clear hV hbV hNV hlook b2 x0 x3 x4 x5 y0 y3 y4 y5 HBZ HKC H7 H8 HBC HXC HYC HTAC HTBC ca cb b0 b1
   go_wp2_with fail
   go_loopw [70] (fun v wr=>∃ (j:Nat) (Kj:List (Nat × Nat)),j<=x.kids.length/\v = .int .i64 j/\SmL mb ns ms i x y K V j wr Kj) (fun v _=>x.kids.length-(intOf v).toNat)
   case atStart=>exact ⟨0,K,Nat.zero_le _,rfl,GKC.out⟩
   case round =>
    obtain ⟨j,Kj,hj,rfl,hst⟩:=hrel;have hbt:=hst.but;have hNr:Below N V wr:=hbt.below (by omega) (fun q e=>by subst e;exact hNm);have g8:wr.heap[b8]? = _:=hbt.heap G8.out.blk (by omega);have gb:wr.heap[w.heap.size]? = _:=hbt.heap GBC.out (by omega);have HST:=Lib.hid hst;clear hst hbt
    by_cases hlt:j<x.kids.length
    ·obtain ⟨gx,ox,rfl,_,kx⟩:=(GXC.out.below hNr) j hlt;obtain ⟨gy,oy,rfl,_,ky⟩:=(GYC.out.below hNr) j (by rw [<- HE3.out];exact hlt);have hqx:=HXK.out j hlt;have hqy:=HYK.out j (by rw [<- HE3.out];exact hlt);obtain ⟨q,hq⟩:∃ q:Nat,kid x.kids j=(q:Int):=⟨(kid x.kids j).toNat,hqx.2.symm⟩;obtain ⟨r,hr⟩:∃ r:Nat,kid y.kids j=(r:Int):=⟨(kid y.kids j).toNat,hqy.2.symm⟩;rw [hq] at kx hqx;rw [hr] at ky hqy;rw [Int.toNat_natCast] at hqx hqy;have hIH:=HI.out q hqx.1 (by omega) r (by omega);have HKJ:=Lib.hid (HKD.out j hlt);have HQ:=Lib.hid hq;have HR:=Lib.hid hr;have y5:wr.cell? ⟨b8,5,none⟩=some (.slice (some ⟨gy,oy,none⟩) x.kids.length ykc):=by rw [(blk_cell g8 5),HE3.out];rfl
     have p0:wr.cell? ⟨w.heap.size,0,none⟩=some (.pointer (some ⟨ba,0,none⟩)):=(blk_cell gb 0).trans rfl;have p1:wr.cell? ⟨w.heap.size,1,none⟩=some (.pointer (some ⟨bb,0,none⟩)):=(blk_cell gb 1).trans rfl;have p2:wr.cell? ⟨w.heap.size,2,none⟩=some (.map (some mb)):=(blk_cell gb 2).trans rfl;have GTA2:=Lib.hid (GTA.out.below hNr);have GTB2:=Lib.hid (GTB.out.below hNr);have HIH:=Lib.hid hIH;have hj2:(j:Int)<(x.kids.length:Int):=by omega
     clear hq hr hIH g8 gb hNr hqx hqy
     go_upto_region 10 with fail
     go_still_tail 7,(by kernel_rfl)
     change wpList _ _ _ _ _ wr.drew
     have GTA3:=Lib.hid (GTA2.out.below (Below.refl N wr).drew);have GTB3:=Lib.hid (GTB2.out.below (Below.refl N wr).drew);have hkd:KnownAt wr.drew mb Kj:=HST.out.known;have HKD2:=Lib.hid hkd;clear hkd p0 p1 p2 y5 kx ky
     go_wp2_with fail
     refine (HIH.out wr.drew Kj GTA3.out GTB3.out HKD2.out HST.out.good).mono ?_;rintro e w2 ⟨rfl,K2,hS2⟩;have hb2:But (fun q=>q=mb) V w2:=HST.out.but.trans ((show But (fun q=>q=mb) wr wr.drew from ⟨rfl,rfl,rfl,Nat.le_refl _,fun _ _ _=>rfl⟩).trans hS2.but);have hon:∀ z∈K2,z∈K\/z.1<i:=fun z hz=>by
      rcases hS2.only z hz with h | h
      ·exact HST.out.only z h
      ·right;have:=HXK.out j hlt;rw [HQ.out,Int.toNat_natCast] at this;omega
     have HB2:=Lib.hid hb2;have HON:=Lib.hid hon;have HS2:=Lib.hid hS2
     cases hsm:sameB ns ms q r with
     | false =>
      have hno:sameB ns ms i k=false:=HKJ.out (by rw [HQ.out,HR.out,Int.toNat_natCast,Int.toNat_natCast];exact hsm);have HNN:=Lib.hid hno;clear hno hsm hb2 hon hS2
      go_wp2
      go_ret
      exact ⟨ret_bool HNN.out.symm,K2,HS2.out.known,HS2.out.good,fun z hz=>(HON.out z hz).imp id Nat.le_of_lt,(But.of_below GB.out).trans HB2.out⟩
     | true =>
      have HSM:=Lib.hid hsm;clear hsm hb2 hon hS2
      go_wp2
      go_roundw
      case rel=>exact ⟨j+1,K2,by omega,by go_num,HS2.out.known,HS2.out.good,HON.out,HB2.out,fun t ht=>by
       by_cases e:t=j
       ·subst e;rw [HQ.out,HR.out,Int.toNat_natCast,Int.toNat_natCast];exact HSM.out
       ·exact HST.out.kids t (by omega)⟩
      case measure=>simp [intOf];omega
    ·obtain rfl:j=x.kids.length:=by omega
     have p2:wr.cell? ⟨w.heap.size,2,none⟩=some (.map (some mb)):=(blk_cell gb 2).trans rfl;have hnin:(i,k) ∉ Kj:=fun h=>by
      rcases HST.out.only _ h with h | h
      ·exact HIN.out h
      ·exact absurd h (Nat.lt_irrefl _)
     have hput:=pknown_put (a:=i) (b:=k) HST.out.known hnin;unfold pk at hput;have hfin:=KnownAt.put wr mb (.map (pents 0 (Kj++[(i,k)])).toArray (Kj.length+1)) HST.out.known.lt;have hyy:=HYES.out HHD.out HST.out.kids;have HFIN:=Lib.hid hfin;have HYY:=Lib.hid hyy;clear hnin hfin hyy g8 gb hNr
     go_wp2
     go_ret
     refine ⟨ret_bool HYY.out.symm,Kj++[(i,k)],(by unfold KnownAt;rw [List.length_append];exact HFIN.out.2),fun z hz=>?_,fun z hz=>?_,(But.of_below GB.out).trans (HST.out.but.trans HFIN.out.1)⟩
     ·rcases List.mem_append.1 hz with hz | hz
      ·exact HST.out.good z hz
      ·rw [List.mem_singleton.1 hz];exact HYY.out
     ·rcases List.mem_append.1 hz with hz | hz
      ·exact (HST.out.only z hz).imp id Nat.le_of_lt
      ·right;rw [List.mem_singleton.1 hz];exact Nat.le_refl _
theorem same_any (ba bb:Nat)(aoa aob:Option Addr)(capa capb:Nat)(ns ms:List Nd)(hwn:WF ns)(hwm:WF ms)(hfn:∀ i,i<ns.length->(nd ns i).kids.length<=999000)(hln:ns.length<=4000)(hlm:ms.length<=4000)(i k:Nat)
  (hi:i<ns.length) (hk:k<ms.length) (w:World) (hta:TreeAt w.heap.size w ba aoa capa ns) (htb:TreeAt w.heap.size w bb aob capb ms):
  Calls Tryz.prog 16 #[.pointer (some ⟨ba,0,none⟩),.int .i64 (i:Int),.pointer (some ⟨bb,0,none⟩),.int .i64 (k:Int)] w fun e w'=>e = .returned (.bool (sameB ns ms i k))/\Below w.heap.size w w':=by
 have hA:=fun W (h:W.cell? ⟨ba,0,none⟩=some (.slice aoa ns.length capa))=>has_yes ba aoa ns.length capa i W h (by omega) (by omega);have hB:=fun W (h:W.cell? ⟨bb,0,none⟩=some (.slice aob ms.length capb))=>has_yes bb aob ms.length capb k W h (by omega) (by omega);have HA:=Lib.hid (hA w hta.cell);have HB:=Lib.hid (hB w htb.cell);obtain ⟨W,hW⟩:∃ W,(w.alloc (.map #[] 0)).alloc (.cells #[.pointer (some ⟨ba,0,none⟩),.pointer (some ⟨bb,0,none⟩),.map (some w.heap.size)] 100)=W:=⟨_,rfl⟩;have hb:Below w.heap.size w W:=by rw [<- hW];exact ((Below.refl _ w).alloc (Nat.le_refl _) _).alloc (by simp) _
 have hbx:W.heap[w.heap.size+1]? = some (.cells #[.pointer (some ⟨ba,0,none⟩),.pointer (some ⟨bb,0,none⟩),.map (some w.heap.size)] 100 (0,0)):=by
  rw [<- hW];have:=blk_new (w.alloc (.map #[] 0)) (.cells #[.pointer (some ⟨ba,0,none⟩),.pointer (some ⟨bb,0,none⟩),.map (some w.heap.size)] 100);rwa [World.size_alloc] at this
 have hmp:KnownAt W w.heap.size []:=by
  unfold KnownAt;rw [<- hW];rw [Below.heap_alloc _ _ _ (by simp)];exact World.alloc_heap_new w _
 have HS:=Lib.hid (psame_any w.heap.size w.heap.size ba bb aoa aob capa capb ns ms hwn hwm hfn hln hlm (Nat.le_refl _) i hi k hk W [] (hta.below hb) (htb.below hb) hmp (fun x hx=>by simp at hx));have hmk:=pknown_make w;have HW:=Lib.hid hW;have HBB:=Lib.hid hb;have HX:=Lib.hid hbx;clear hA hB hW hb hbx hmp hta htb
 go_enter Tryz.func16,Tryz.ntmps16
 go_wp2_with fail
 refine HA.out.mono ?_;rintro e w1 ⟨rfl,rfl⟩
 go_wp2_with fail
 refine HB.out.mono ?_;rintro e w1 ⟨rfl,rfl⟩
 go_upto_region 4 with fail
 rw [HW.out];have p0:W.cell? ⟨w.heap.size+1,0,none⟩=some (.pointer (some ⟨ba,0,none⟩)):=(blk_cell HX.out 0).trans rfl;have p1:W.cell? ⟨w.heap.size+1,1,none⟩=some (.pointer (some ⟨bb,0,none⟩)):=(blk_cell HX.out 1).trans rfl;have p2:W.cell? ⟨w.heap.size+1,2,none⟩=some (.map (some w.heap.size)):=(blk_cell HX.out 2).trans rfl
 go_wp2_with fail
 refine HS.out.mono ?_;rintro e w2 ⟨rfl,K2,hS2⟩;have HS2:=Lib.hid hS2;clear hS2
 go_wp2
 go_ret
 exact ⟨rfl,HBB.out.trans (HS2.out.but.below HBB.out.size (fun q e=>by subst e;exact Nat.le_refl _))⟩
end
section
open Go.RowKit Tn
theorem below_undrew {w w':World}(h:Below w.drew.heap.size w.drew w'):Below w.heap.size w w':=⟨h.os,h.tape,h.output,h.size,h.block⟩
theorem add_no (bt:Nat)(ao:Option Addr)(len cap N:Nat)(n:Nd)(ka:Option Addr)(kc:Nat)(w:World)(hc:w.cell? ⟨bt,0,none⟩=some (.slice ao len cap))(hk:IntsAt N w ka n.kids)(hl:n.kids.length<=999000)(hf:fits len n=false):
  Calls Tryz.prog 10 #[.pointer (some ⟨bt,0,none⟩),.agg #[.string n.op,.int .i64 n.line,.int .i64 n.col,.string n.name,.int .i64 n.num,.slice ka n.kids.length kc]] w fun e w'=>e = .returned (.tuple #[.int .i64 0,.int .i64 1])/\Below w.heap.size w w':=by
 have hb:∀ o,Below w.heap.size w (w.alloc o):=fun o=>(Below.refl _ w).alloc (Nat.le_refl _) o;have hc':∀ o,(w.alloc o).cell? ⟨bt,0,none⟩=some (.slice ao len cap):=fun o=>(World.cell?_alloc_lt _ _ _ (World.block_lt_of_cell? _ _ hc)).trans hc;have hk':∀ o,IntsAt w.heap.size (w.alloc o) ka n.kids:=fun o=>IntsAt.below (N:=w.heap.size) (fun i hi=>by
  obtain ⟨b,o,e,_,hc⟩:=hk i hi;exact ⟨b,o,e,by have:=World.block_lt_of_cell? _ _ hc;exact this,hc⟩) (hb o)
 have HB:=Lib.hid hb;have HC:=Lib.hid hc';have HK:=Lib.hid hk';have HF:=Lib.hid hf;clear hb hc' hk' hk hf hc
 go_enter Tryz.func10,Tryz.ntmps10
 go_wp2_with (go_at_call 27;refine (hasAll_any bt ao len cap _ ka n kc _ (HC.out _) (HK.out _) hl).mono ?_;rintro e w' ⟨rfl,rfl⟩;rw [HF.out])
 go_ret2
 exact ⟨rfl,HB.out _⟩
theorem add_full (bt:Nat)(ao:Option Addr)(len cap N:Nat)(n:Nd)(ka:Option Addr)(kc:Nat)(w:World)(hc:w.cell? ⟨bt,0,none⟩=some (.slice ao len cap))(hk:IntsAt N w ka n.kids)(hl:n.kids.length<=999000)(hf:fits len n=true)(h4:4000<=len)(h5:len<=1000000):
  Calls Tryz.prog 10 #[.pointer (some ⟨bt,0,none⟩),.agg #[.string n.op,.int .i64 n.line,.int .i64 n.col,.string n.name,.int .i64 n.num,.slice ka n.kids.length kc]] w fun e w'=>e = .returned (.tuple #[.int .i64 0,.int .i64 6])/\Below w.heap.size w w':=by
 have hb:∀ o,Below w.heap.size w (w.alloc o):=fun o=>(Below.refl _ w).alloc (Nat.le_refl _) o;have hc':∀ o,(w.alloc o).cell? ⟨bt,0,none⟩=some (.slice ao len cap):=fun o=>(World.cell?_alloc_lt _ _ _ (World.block_lt_of_cell? _ _ hc)).trans hc;have hk':∀ o,IntsAt w.heap.size (w.alloc o) ka n.kids:=fun o=>IntsAt.below (N:=w.heap.size) (fun i hi=>by
  obtain ⟨b,o,e,_,hc⟩:=hk i hi;exact ⟨b,o,e,by have:=World.block_lt_of_cell? _ _ hc;exact this,hc⟩) (hb o)
 have HB:=Lib.hid hb;have HC:=Lib.hid hc';have HK:=Lib.hid hk';have HF:=Lib.hid hf;clear hb hc' hk' hk hf hc
 go_enter Tryz.func10,Tryz.ntmps10
 go_wp2_with fail
 refine (hasAll_any bt ao len cap _ ka n kc _ (HC.out _) (HK.out _) hl).mono ?_;rintro e w' ⟨rfl,rfl⟩;rw [HF.out];have hc:=HC.out (.cells #[.string n.op,.int .i64 n.line,.int .i64 n.col,.string n.name,.int .i64 n.num,.slice ka n.kids.length kc] 30)
 go_wp2
 go_ret2
 exact ⟨rfl,HB.out _⟩
theorem TreeOwn.grow {B:Nat}{w1:World}{bt:Nat}{v:Value}{l:List SN}(h:TreeOwn B w1 bt v l){s:SN}(hk:w1.ownsRow B 3 1 (.slice s.ka s.n.kids.length s.kc) s.n.kids.length (ints s.n.kids)){o:Obj}{w2:World}{v':Value}
  (hown:w2.ownsRow B 30 6 v' (l.length+1) (cells6 l++cell6 s)) (hg:(w1.alloc o).grownBy w2 v.ownBlock):TreeOwn B (w2.setCell ⟨bt,0,none⟩ v') bt v' (l++[s])/\w2.heap[bt]? = some (.cells #[v] 45 (0,0)):=by
 have far:∀ k q,w1.heap[k]? = some q->some k≠v.ownBlock->w2.heap[k]? = some q:=fun k q hq hn =>
  (hg.block k (by have:=lt_of_heap hq;simp;omega) hn).trans (blk_alloc hq o)
 have hb:w2.heap[bt]? = some (.cells #[v] 45 (0,0)):=far bt _ h.blk fun e=>by have:=(own_tag h.own e.symm).1;have:=h.lt;omega
 have kid:∀ {q:SN},w1.ownsRow B 3 1 (.slice q.ka q.n.kids.length q.kc) q.n.kids.length (ints q.n.kids)->w2.ownsRow B 3 1 (.slice q.ka q.n.kids.length q.kc) q.n.kids.length (ints q.n.kids):=fun {q} hq=>by
  refine ⟨hq.1, ?_⟩
  rcases hq.2 with hn | ⟨g,cap,cur,e,hbg,hgg,rest⟩
  ·exact .inl hn
  ·refine .inr ⟨g,cap,cur,e,hbg,far g _ hgg fun e'=>?_,rest⟩;obtain ⟨_,cur',h'⟩:=own_tag h.own e'.symm;rw [hgg] at h'
   injection h' with h'
   injection h' with _ h'
   cases h'
 refine ⟨⟨(blk_set hb 0 v').trans rfl, ?_, ?_,h.lt⟩,hb⟩
 ·rw [List.length_append,cells6_snoc];exact own_setCell hown h.lt 0 v'
 ·intro q hq
  rcases List.mem_append.1 hq with hq | hq
  ·exact own_setCell (kid (h.kids q hq)) h.lt 0 v'
  ·obtain rfl:q=s:=by simpa using hq
   exact own_setCell (kid hk) h.lt 0 v'
def AddP (B:Nat)(w:World)(bt:Nat)(v:Value)(l:List SN)(n:Nd)(e:Ending)(w':World):Prop :=
 ∃ v' ka kc,e = .returned (.tuple #[.int .i64 l.length,.int .i64 0])/\TreeOwn B w' bt v' (l++[⟨n,ka,kc⟩])/\But (fun k=>k=bt\/some k=v.ownBlock) w w'/\(v'.ownBlock=v.ownBlock\/∃ g,v'.ownBlock=some g/\w.heap.size<=g)/\∀ g,(Value.slice ka n.kids.length kc).ownBlock=some g->w.heap.size<=g
theorem add_yes (B:Nat)(bt:Nat)(v:Value)(l:List SN)(N:Nat)(n:Nd)(ka:Option Addr)(kc:Nat)(w:World)(ht:TreeOwn B w bt v l)(hk:IntsAt N w ka n.kids)(hnil:ka=none->kc=0)(hl:n.kids.length<=999000)(hs:l.length<4000)(hf:fits l.length n=true)(hB:B<=w.heap.size):
  Calls Tryz.prog 10 #[.pointer (some ⟨bt,0,none⟩),.agg #[.string n.op,.int .i64 n.line,.int .i64 n.col,.string n.name,.int .i64 n.num,.slice ka n.kids.length kc]] w (AddP B w bt v l n):=by
 obtain ⟨ao,cap,rfl⟩:=own_form ht.own;generalize hW:w.alloc (.cells #[.string n.op,.int .i64 n.line,.int .i64 n.col,.string n.name,.int .i64 n.num,.slice ka n.kids.length kc] 30)=W;have hbW:Below w.heap.size w W:=by rw [<- hW];exact (Below.refl _ w).alloc (Nat.le_refl _) _
 have hsW:W.heap.size=w.heap.size+1:=by rw [<- hW];simp
 have s1:Six W w.heap.size 30 (.string n.op) (.int .i64 n.line) (.int .i64 n.col) (.string n.name) (.int .i64 n.num) (.slice ka n.kids.length kc):=⟨by rw [<- hW];exact blk_new w _⟩;have hkW:IntsAt w.heap.size W ka n.kids:=(IntsAt.below (N:=w.heap.size) (fun i hi=>by
  obtain ⟨b,o,e,_,hc⟩:=hk i hi;exact ⟨b,o,e,by have:=World.block_lt_of_cell? _ _ hc;exact this,hc⟩) hbW)
 have hT:TreeOwn B W bt (.slice ao l.length cap) l:=ht.below hbW;have HK:=Lib.hid hkW;have HN:=Lib.hid hnil;have HW:=Lib.hid hW;have HS:=Lib.hid hsW;have HF:=Lib.hid hf;have hc:W.cell? ⟨bt,0,none⟩=some (.slice ao l.length cap):=(blk_cell hT.blk 0).trans rfl;have HC:=Lib.hid hc;obtain ⟨i0,hi,hz0,hz1,hz2⟩:=info_parts Tryz.info30;have HI:=Lib.hid hi;have HZ:=Lib.hid hz0;have HZ1:=Lib.hid hz1;have HZ2:=Lib.hid hz2;clear hk hnil hkW hsW hW hf hi hz0 hz1 hz2 hc
 go_enter Tryz.func10,Tryz.ntmps10
 go_wp2_with fail
 rw [HW.out];refine (hasAll_any bt ao l.length cap _ ka n kc _ HC.out HK.out hl).mono ?_;rintro e w' ⟨rfl,rfl⟩;rw [HF.out];have hc:=HC.out;have c0:=s1.c0;have c1:=s1.c1;have c2:=s1.c2;have c3:=s1.c3;have c4:=s1.c4;have c5:=s1.c5
 go_wp2_with fail
 have hkd:IntsAt w.heap.size W.drew ka n.kids:=HK.out;have HKD:=Lib.hid hkd;clear hkd
 go_region_law (first
  | (refine step_append_lies _ (by rfl) (.tmp 25) (.tmp 28) 22 (by rfl) B 30 i0 _ 6 80 Tryz.underlying22 HI.out HZ.out HZ1.out HZ2.out rfl (by omega) (.slice ao l.length cap) l.length (cells6 l) (by rfl) (hT1.own.alloc _) ⟨w1.heap.size,0,none⟩ 1 1 (cell6 ⟨n,ka1,kc1⟩) (by rfl) (by rfl) (World.news_of_block (cs:=#[.string n.op,.int .i64 n.line,.int .i64 n.col,.string n.name,.int .i64 n.num,.slice ka1 n.kids.length kc1]) (t:=30) (fr:=(0,0)) (heap_alloc_new w1 _)) (by intro x hx;simp only [cell6,List.mem_cons,List.not_mem_nil,or_false] at hx;rcases hx with rfl | rfl | rfl | rfl | rfl | rfl <;> rfl) (by omega) (by unfold maxLen;omega) (by omega) (by have:=hb1.size;have:=HS.out;simp at *;omega) (w1.heap.size+1) (by simp) ?_;intro g cap' w2 hown2 hgrow2 hat2 hlt2;have hG:=hT1.grow (s:=⟨n,ka1,kc1⟩) (own_mono hown1 (by have:=HS.out;simp at *;omega)) hown2 hgrow2;have hc3:w2.cell? ⟨bt,0,none⟩=some (.slice ao l.length cap):=(blk_cell hG.2 0).trans rfl;have hf3:w2.frozen? ⟨bt,0,none⟩=false:=blk_frozen hG.2 0)
  | (go_simp;go_at_call 28;refine (sep_any w.heap.size n ka kc W.drew HKD.out HN.out hl).mono ?_;rintro e w1 ⟨ka1,kc1,rfl,hown1,hb1⟩;have hT1:TreeOwn B w1 bt (.slice ao l.length cap) l:=hT.below (below_undrew hb1);have hc1:w1.cell? ⟨bt,0,none⟩=some (.slice ao l.length cap):=(blk_cell hT1.blk 0).trans rfl;have hc2:∀ X,(w1.alloc X).cell? ⟨bt,0,none⟩=some (.slice ao l.length cap):=fun X=>(World.cell?_alloc_lt _ _ _ (World.block_lt_of_cell? _ _ hc1)).trans hc1;simp only [nval]))
 all_goals
  have hB1:But (fun k=>k=bt\/some k=(Value.slice ao l.length cap).ownBlock) w w1:=But.of_below (hbW.trans ((below_undrew hb1).mono hbW.size));have hB2:But (fun k=>k=bt\/some k=(Value.slice ao l.length cap).ownBlock) w (w2.setCell ⟨bt,0,none⟩ (.slice (some ⟨g,0,none⟩) (l.length+1) cap')) :=
   (hB1.trans (But.of_below ((Below.refl _ w1).alloc (Nat.le_refl _) _))).trans ((But.of_grown hgrow2 (fun k e => .inr e.symm)).trans (But.setCell w2 (.inl rfl) 0 _))
  have hat:(Value.slice (some ⟨g,0,none⟩) (l.length+1) cap').ownBlock=(Value.slice ao l.length cap).ownBlock\/∃ g',(Value.slice (some ⟨g,0,none⟩) (l.length+1) cap').ownBlock=some g'/\w.heap.size<=g':=by
   rcases hat2 with e | e
   ·exact .inl e.symm
   ·refine .inr ⟨g,rfl, ?_⟩;have:=hB1.size;omega
  have hnew:∀ g,(Value.slice ka1 n.kids.length kc1).ownBlock=some g->w.heap.size<=g:=fun g hg=>by
   have:=(own_tag hown1 hg).1;have:=HS.out;simp at *;omega
  have HB:=Lib.hid hB2;have HA:=Lib.hid hat;have HG:=Lib.hid hG.1;have HN1:=Lib.hid hnew;have hc4:(w2.setCell ⟨bt,0,none⟩ (.slice (some ⟨g,0,none⟩) (l.length+1) cap')).cell? ⟨bt,0,none⟩=some (.slice (some ⟨g,0,none⟩) (l.length+1) cap'):=(blk_cell hG.1.blk 0).trans rfl;clear hnew hB1 hB2 hat hG hT1 hc1 hc2 hown2 hgrow2 hat2 hown1 hb1 hT s1 c0 c1 c2 c3 c4 c5 hc ht
  go_wp2
  go_ret2
  exact ⟨_,ka1,kc1,by first | rfl | (congr 3;omega),HG.out,HB.out,HA.out,HN1.out⟩
end
end Go.Proofs.YtninlbknklbofaaGreatDoor
