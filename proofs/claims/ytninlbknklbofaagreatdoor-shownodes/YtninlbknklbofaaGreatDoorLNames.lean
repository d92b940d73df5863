/- A part of the proof: A part of the proof. -/
import Derived.Test.YtninlbknklbofaaGreatDoorLPointW
import Derived.Test.YtninlbknklbofaaGreatDoorLFloat
import Derived.Test.YtninlbknklbofaaGreatDoorLLxO
import Derived.Deep.AppendLies
import Derived.BigRegion
import Derived.Deep.DeepCutAuto
import Derived.Deep.RegionWith
import Derived.Deep.RegionLaw
import Derived.IntWalk
import Derived.Test.YtninlbknklbofaaGreatDoorLToks
import Derived.KernelRfl
set_option linter.unusedSimpArgs false
set_option linter.unusedVariables false
set_option maxRecDepth 100000
set_option maxHeartbeats 4000000
namespace Go.Proofs.YtninlbknklbofaaGreatDoor
section
open Go.RowKit
theorem Tryz.qinfo27:(Tryz.prog.info? 27).map (fun i=>(i.zero,i.size,i.bytes))=some (some (.agg #[.int .i64 0,.int .i64 0]),2,16):=by kernel_rfl
def qposCells (ps:List Lx.Pos):List Value:=ps.flatMap fun p=>[.int .i64 p.line,.int .i64 p.col]
theorem qposCells_snoc (ps:List Lx.Pos)(p:Lx.Pos):qposCells (ps++[p])=qposCells ps++[.int .i64 p.line,.int .i64 p.col]:=by simp [qposCells]
structure PlMem (w:World)(p:Lx.Pos)(pl:List Lx.Pos)(v:Value)(wr:World):Prop where
 own:wr.ownsRow (w.heap.size+2) 27 2 v pl.length (qposCells pl)
 a0:wr.cell? ⟨w.heap.size,0,none⟩=some (.int .i64 0)
 a1:wr.cell? ⟨w.heap.size,1,none⟩=some (.int .i64 0)
 b0:wr.cell? ⟨w.heap.size+1,0,none⟩=some (.int .i64 p.line)
 b1:wr.cell? ⟨w.heap.size+1,1,none⟩=some (.int .i64 p.col)
 fa:∀ i,wr.frozen? ⟨w.heap.size,i,none⟩=false
 fb:∀ i,wr.frozen? ⟨w.heap.size+1,i,none⟩=false
 bl:Below w.heap.size w wr
theorem PlMem.lt {w:World}{p:Lx.Pos}{pl:List Lx.Pos}{v:Value}{wr:World}(h:PlMem w p pl v wr):w.heap.size+1<wr.heap.size:=World.block_lt_of_cell? _ _ h.b0
theorem PlMem.grow {w:World}{p:Lx.Pos}{pl:List Lx.Pos}{v:Value}{wr:World}(h:PlMem w p pl v wr){o:Obj}{v5:Value}{w5:World}
  (hown:w5.ownsRow (w.heap.size+2) 27 2 v5 (pl.length+1) (qposCells pl++[.int .i64 p.line,.int .i64 p.col])) (hg:(wr.alloc o).grownBy w5 v.ownBlock):PlMem w p (pl++[p]) v5 w5:=by
 have hl:=h.lt;have hlo:=h.own.lt;have c:∀ b i,b<=w.heap.size+1->w5.cell? ⟨b,i,none⟩=wr.cell? ⟨b,i,none⟩:=fun b i hb=>by
  rw [hg.cell_far ⟨b,i,none⟩ (by simp;omega) (fun e=>by have h9:=(hlo _ e.symm).1;have h8:w.heap.size+2<=b:=h9;omega),World.cell?_alloc_lt _ _ ⟨b,i,none⟩ (by simp;omega)]
 have f:∀ b i,b<=w.heap.size+1->w5.frozen? ⟨b,i,none⟩=wr.frozen? ⟨b,i,none⟩:=fun b i hb=>by
  rw [hg.frozen_far ⟨b,i,none⟩ (by simp;omega) (fun e=>by have h9:=(hlo _ e.symm).1;have h8:w.heap.size+2<=b:=h9;omega),World.frozen?_alloc_old _ _ ⟨b,i,none⟩ (by simp;omega)]
 refine ⟨by rw [qposCells_snoc,List.length_append];exact hown,(c _ _ (by omega)).trans h.a0,(c _ _ (by omega)).trans h.a1,(c _ _ (by omega)).trans h.b0,(c _ _ (by omega)).trans h.b1,
  fun i=>(f _ _ (by omega)).trans (h.fa i),fun i=>(f _ _ (by omega)).trans (h.fb i),(h.bl.alloc h.bl.size _).grown hg (by simp;omega) (fun q hq=>by have:=(hlo q hq).1;omega)⟩
theorem PlMem.set {w:World}{p:Lx.Pos}{pl:List Lx.Pos}{v:Value}{wr:World}(h:PlMem w p pl v wr)(x y:Int):
  PlMem w ⟨x,y⟩ pl v ((wr.setCell ⟨w.heap.size+1,0,none⟩ (.int .i64 x)).setCell ⟨w.heap.size+1,1,none⟩ (.int .i64 y)):=by
 have s2:=set_two wr (w.heap.size+1) (.int .i64 x) (.int .i64 y) _ _ h.b0 h.b1;exact ⟨ownsRow_setCell_below (ownsRow_setCell_below h.own (by simp) _) (by simp) _,by rw [World.cell?_setCell_other _ _ _ _ (by simp),World.cell?_setCell_other _ _ _ _ (by simp)];exact h.a0,
  by rw [World.cell?_setCell_other _ _ _ _ (by simp),World.cell?_setCell_other _ _ _ _ (by simp)];exact h.a1,s2.1,s2.2,fun i=>by simpa using h.fa i,fun i=>by simpa using h.fb i,(h.bl.setCell (by simp) _).setCell (by simp) _⟩
theorem PlMem.col {w:World}{p:Lx.Pos}{pl:List Lx.Pos}{v:Value}{wr:World}(h:PlMem w p pl v wr)(y:Int):
  PlMem w ⟨p.line,y⟩ pl v (wr.setCell ⟨w.heap.size+1,1,none⟩ (.int .i64 y)):=by
 exact ⟨ownsRow_setCell_below h.own (by simp) _,by rw [World.cell?_setCell_other _ _ _ _ (by simp)];exact h.a0,
  by rw [World.cell?_setCell_other _ _ _ _ (by simp)];exact h.a1,by rw [World.cell?_setCell_other _ _ _ _ (by simp)];exact h.b0,World.cell?_setCell_same _ _ _ h.b1,fun i=>by simpa using h.fa i,fun i=>by simpa using h.fb i,h.bl.setCell (by simp) _⟩
theorem vlen_fuel:∀ (f g:Nat)(l:Lx.B),l.length<=f->l.length<=g->Lx.vlen f l=Lx.vlen g l
 | 0,0,_,_,_=>rfl
 | 0,g+1,l,h,_=>by
  have:l=[]:=List.eq_nil_of_length_eq_zero (by omega);subst this;rfl
 | f+1,0,l,_,h=>by
  have:l=[]:=List.eq_nil_of_length_eq_zero (by omega);subst this;rfl
 | f+1,g+1,l,hf,hg=>by
  unfold Lx.vlen
  split
  ·rfl
  ·rename_i h;simp only [not_or] at h;have F:=Lx.point_facts l h.1 (by omega);rw [vlen_fuel f g _ (by rw [List.length_drop];omega) (by rw [List.length_drop];omega)]
theorem row_mono {w:World}{base base':Nat}{e:TypeId}{size:Nat}{v:Value}{n:Nat}{xs:List Value}(h:w.ownsRow base e size v n xs)(hb:base'<=base):w.ownsRow base' e size v n xs:=by
 refine ⟨h.1, ?_⟩
 rcases h.2 with hn | ⟨g,cap,cur,rfl,hbg,rest⟩
 ·exact .inl hn
 ·exact .inr ⟨g,cap,cur,rfl,by omega,rest⟩
structure PlOk (l:Lx.B)(V i:Nat)(pl:List Lx.Pos):Prop where
 le:i<=l.length
 len:pl.length=i
 at_:∀ j,j<i->Lx.cont (l.getD j 0)=false->pl[j]? = some (Lx.adv ⟨1,1⟩ (l.take j))
 v:V=i+Lx.vlen (l.length-i+1) (l.drop i)
def PlPost (l:Lx.B)(w:World)(e:Ending)(w':World):Prop :=
 Below w.heap.size w w' /\
 ((Lx.vlen (l.length+1) l<l.length/\e = .returned (.tuple #[.slice none 0 0,.agg #[.int .i64 (Lx.adv ⟨1,1⟩ (l.take (Lx.vlen (l.length+1) l))).line,.int .i64 (Lx.adv ⟨1,1⟩ (l.take (Lx.vlen (l.length+1) l))).col],.bool true])) \/
  (¬ Lx.vlen (l.length+1) l<l.length/\∃ v x y pl,e = .returned (.tuple #[v,.agg #[.int .i64 x,.int .i64 y],.bool false])/\w'.ownsRow w.heap.size 27 2 v (l.length+1) (qposCells pl)/\pl.length=l.length+1 /\
   ∀ j,j<=l.length->(j<l.length->Lx.cont (l.getD j 0)=false)->pl[j]? = some (Lx.adv ⟨1,1⟩ (l.take j))))
theorem lplaces_any (s:ByteArray)(w:World)(hs:s.size<=1000000):Calls Tryz.prog 79 #[.string s] w (PlPost s.data.toList w):=by
 obtain ⟨i0,hi0,hz0,hz1,hz2⟩:=info_parts Tryz.qinfo27;have HI:=Lib.hid hi0;have HZ:=Lib.hid hz0;have HZ1:=Lib.hid hz1;have HZ2:=Lib.hid hz2;clear hi0 hz0 hz1 hz2;have hM:PlMem w ⟨1,1⟩ [] (.slice none 0 0) ((w.alloc (.cells #[.int .i64 0,.int .i64 0] 27)).alloc (.cells #[.int .i64 1,.int .i64 1] 27)) :=
  ⟨World.ownsRow_nil _ _ _ _,by simp [go_sem],by simp [go_sem],by simp [go_sem],by simp [go_sem],fun i=>by simp [go_sem],fun i=>by simp [go_sem],((Below.refl _ _).alloc (Nat.le_refl _) _).alloc (by simp) _⟩
 have hO:PlOk s.data.toList (Lx.vlen (s.data.toList.length+1) s.data.toList) 0 []:=⟨Nat.zero_le _,rfl,fun j hj=>by omega,by simp⟩;generalize hV:Lx.vlen (s.data.toList.length+1) s.data.toList=V at *;have HV:=Lib.hid hV;clear hV
 go_enter Tryz.func79,Tryz.ntmps79
 go_wp2
 generalize (w.alloc (.cells #[.int .i64 0,.int .i64 0] 27)).alloc (.cells #[.int .i64 1,.int .i64 1] 27)=w1 at *
 go_loopw [5,7] (fun v i wr=>∃ (k:Nat) (pl:List Lx.Pos),i = .int .i64 (k:Int)/\PlOk s.data.toList V k pl/\PlMem w (Lx.adv ⟨1,1⟩ (s.data.toList.take k)) pl v wr) (fun _ i _=>s.size-(intOf i).toNat)
 case atStart=>exact ⟨0,[],rfl,hO,hM⟩
 case round =>
  obtain ⟨k,pl,rfl,hK,hP⟩:=hrel;clear hO hM
  by_cases hlt:k<s.size
  ·have hne:s.data.toList.drop k≠[]:=by
    intro h;have:=congrArg List.length h;rw [List.length_drop,<- size_len,List.length_nil] at this;omega
   have cP:=fun w=>rpoint_any (s.extract k s.size) w (by rw [tail_sz];omega);rw [tail_list] at cP;have CP:=Lib.hid cP;clear cP;have hbd:=Lx.adv_bound (s.data.toList.take k) ⟨1,1⟩ 1 (by decide) (by decide) (by decide) (by decide) (by decide);rw [List.length_take,<- size_len] at hbd;have hb1:(Lx.adv ⟨1,1⟩ (s.data.toList.take k)).line<=2000000:=by omega
   have hb2:(Lx.adv ⟨1,1⟩ (s.data.toList.take k)).col<=2000000:=by omega
   have hb3:=hbd.1;have hb4:=hbd.2.2.1;clear hbd
   by_cases hbad:Lx.point (s.data.toList.drop k)=0
   ·have hVk:V=k:=by
     have:=hK.v;rw [Lx.vlen,if_pos (.inr hbad)] at this;omega
    have cP:=CP.out;rw [hbad] at cP;have CP2:=Lib.hid cP;clear cP CP;have c0:=hP.b0;have c1:=hP.b1;have a0:=hP.a0;have a1:=hP.a1;have f0:=hP.fa 0;have f1:=hP.fa 1;have bl:=hP.bl;generalize hp:Lx.adv ⟨1,1⟩ (s.data.toList.take k)=p at *;have HP:=Lib.hid hp;clear hp hP hK HI HZ HZ1 HZ2 hs hb1 hb2 hb3 hb4
    go_wp2_with fail
    refine (CP2.out _).mono ?_;rintro e w' ⟨rfl,rfl⟩
    go_upto_region 7 with fail
    go_region
    go_wp2_with fail
    have s2:=set_two wr w.heap.size (.int .i64 p.line) (.int .i64 p.col) _ _ a0 a1;refine bodyPost_ret (v := .tuple #[.slice none 0 0,.agg #[.int .i64 p.line,.int .i64 p.col],.bool true]) ?_ rfl ?_
    ·simp [results,Tryz.results79,go_sem,s2.1,s2.2]
    ·refine ⟨((bl.setCell (by simp) _).setCell (by simp) _).drew,.inl ?_⟩;rw [HV.out,hVk,HP.out,<- size_len];exact ⟨hlt,rfl⟩
   ·have F:=Lx.point_facts _ hne (by omega);have hpos:0<Lx.point (s.data.toList.drop k):=by omega
    have hle:=F.le;rw [List.length_drop,<- size_len] at hle;obtain ⟨c,hc,hd⟩:=byte_at s k hlt;have hten:(((Lx.dec (s.data.toList.drop k)).1:Int)==10)=((c.toNat:Int)==10):=by
     have:=F.ten;rw [hd] at this ⊢;simp only [List.getD_cons_zero] at this;rw [Bool.eq_iff_iff];simp only [beq_iff_eq];omega
    have hadv:Lx.adv ⟨1,1⟩ (s.data.toList.take (k+Lx.point (s.data.toList.drop k)))=if (c.toNat:Int)==10 then ⟨(Lx.adv ⟨1,1⟩ (s.data.toList.take k)).line+1,1⟩ else ⟨(Lx.adv ⟨1,1⟩ (s.data.toList.take k)).line,(Lx.adv ⟨1,1⟩ (s.data.toList.take k)).col+1⟩:=by
     rw [List.take_add,Lx.adv_append,Lx.adv_point _ _ hne hpos,hten]
    have hOn:∀ pl',pl'=pl++List.replicate (Lx.point (s.data.toList.drop k)) (Lx.adv ⟨1,1⟩ (s.data.toList.take k))->PlOk s.data.toList V (k+Lx.point (s.data.toList.drop k)) pl':=by
     intro pl' e;subst e;have hl:=hK.len;refine ⟨by rw [<- size_len];omega,by rw [List.length_append,List.length_replicate,hl],fun j hj hcj=>?_, ?_⟩
     ·by_cases hjk:j<k
      ·rw [List.getElem?_append_left (by omega)];exact hK.at_ j hjk hcj
      ·rw [List.getElem?_append_right (by omega),List.getElem?_replicate,if_pos (by omega)];have:j=k:=by
        rcases Nat.lt_or_ge k j with h | h
        ·exfalso
         have ht:=F.tail (j-k) (by omega) (by omega);rw [List.getD_eq_getElem?_getD,List.getElem?_drop] at ht;have e2:k+(j-k)=j:=by omega
         rw [e2,<- List.getD_eq_getElem?_getD,hcj] at ht
         cases ht
        ·omega
       rw [this]
     ·have hv:=hK.v;rw [Lx.vlen,if_neg (by rintro (h | h);exact hne h;exact hbad h),List.drop_drop] at hv;have hfu:Lx.vlen (s.data.toList.length-k) (s.data.toList.drop (k+Lx.point (s.data.toList.drop k)))=Lx.vlen (s.data.toList.length-(k+Lx.point (s.data.toList.drop k))+1) (s.data.toList.drop (k+Lx.point (s.data.toList.drop k))) :=
       vlen_fuel _ _ _ (by rw [List.length_drop,<- size_len];omega) (by rw [List.length_drop,<- size_len];omega)
      rw [hfu] at hv;omega
    have hkl:=hK.len;generalize Lx.point (s.data.toList.drop k)=n at *;generalize hp:Lx.adv ⟨1,1⟩ (s.data.toList.take k)=p at *;have HADV:=Lib.hid hadv;have HON:=Lib.hid hOn;clear hadv hOn hten hd hp F hbad hne hK
    go_wp2_with fail
    refine (CP.out _).mono ?_;rintro e w' ⟨rfl,rfl⟩;clear CP;have hn0:((n:Int)==0)=false:=by simp;omega
    go_wp2
    go_loopw [5,9] (fun v j wq=>∃ (m:Nat),j = .int .i64 (m:Int)/\m<=n/\PlMem w p (pl++List.replicate m p) v wq) (fun _ j _=>n-(intOf j).toNat)
    case atStart=>exact ⟨0,rfl,Nat.zero_le _,by simpa using hP⟩
    case round =>
     obtain ⟨m,rfl,hm,hQ⟩:=hrel;clear hP
     by_cases hmn:m<n
     ·have c0:=hQ.b0;have c1:=hQ.b1;have hlq:=hQ.lt;have hown:=hQ.own;have hlen2:(pl++List.replicate m p).length=k+m:=by rw [List.length_append,List.length_replicate,hkl]
      rw [hlen2] at hown;have HLEN:=Lib.hid hlen2;clear hlen2 hkl
      go_wp2_with (at_builtin;refine wpList_append_own _ rfl (.tmp 27) (.tmp 29) 147 rfl (w.heap.size+2) 27 i0 _ 2 16 Tryz.underlying147 HI.out HZ.out HZ1.out HZ2.out rfl (by decide) _ (k+m) (qposCells (pl++List.replicate m p)) rfl (hown.alloc _) ⟨wr.heap.size,0,none⟩ 1 1 [.int .i64 p.line,.int .i64 p.col] rfl rfl (World.news_of_block (cs:=#[.int .i64 p.line,.int .i64 p.col]) (t:=27) (fr:=(0,0)) (heap_alloc_new wr _)) (fun x hx=>by simp at hx;rcases hx with rfl | rfl <;> rfl) (by unfold maxLen;omega) (by omega) (by simp;omega) ?_;intro v5 w5 hown5 hgrow5 hnil5)
      go_roundw
      case rel =>
       refine ⟨m+1,cast_succ m,by omega, ?_⟩;rw [List.replicate_succ',<- List.append_assoc];exact hQ.grow (by rw [HLEN.out];exact hown5) hgrow5
      case measure=>simp [intOf];omega
     ·have hmn':m=n:=by omega
      subst hmn';have hOn:=HON.out _ rfl;have c0:=hQ.b0;have c1:=hQ.b1;have f0:=hQ.fb 0;have f1:=hQ.fb 1;have HON2:=Lib.hid hOn;clear hOn HON hkl;have hms:s.size-(intOf (Value.int IntKind.i64 ((k:Int)+m))).toNat<s.size-(intOf (Value.int IntKind.i64 (k:Int))).toNat:=by simp [intOf];omega
      have HMS:=Lib.hid hms;clear hms;have hcast:Value.int IntKind.i64 ((k:Int)+m) = .int .i64 ((k+m:Nat):Int):=by push_cast;rfl
      have HC:=Lib.hid hcast;clear hcast
      cases hten:((c.toNat:Int)==10)
      ·have hq2:=hQ.col (p.col+1);have hadv:=HADV.out;rw [hten] at hadv;have HA2:=Lib.hid hadv;clear hadv HADV
       go_wp2
       go_roundw
       case rel=>exact ⟨k+m,_,HC.out,HON2.out,by rw [HA2.out];exact hq2⟩
       case measure=>exact HMS.out
      ·have hq1:=hQ.col (p.col+1);have hq2:=hq1.set (p.line+1) 1;have g0:=hq1.b0;have g1:=hq1.b1;have e0:=hq1.fb 0;have e1:=hq1.fb 1;have hadv:=HADV.out;rw [hten] at hadv;have HA2:=Lib.hid hadv;clear hadv HADV;have HQ2:=Lib.hid hq2;clear hq2 hq1
       go_wp2
       go_roundw
       case rel=>exact ⟨k+m,_,HC.out,HON2.out,by rw [HA2.out];exact HQ2.out⟩
       case measure=>exact HMS.out
  ·have hkl:=hK.len;have hkk:k=s.data.toList.length:=by have:=hK.le;rw [<- size_len] at this ⊢;omega
   have hVk:V=k:=by
    have:=hK.v;rw [drop_end s k hlt,Lx.vlen,if_pos (.inl rfl)] at this;omega
   have hfin:∀ j,j<=s.data.toList.length->(j<s.data.toList.length->Lx.cont (s.data.toList.getD j 0)=false)->(pl++[Lx.adv ⟨1,1⟩ (s.data.toList.take k)])[j]? = some (Lx.adv ⟨1,1⟩ (s.data.toList.take j)):=by
    intro j hj hcj
    by_cases hjl:j<s.data.toList.length
    ·rw [List.getElem?_append_left (by omega)];exact hK.at_ j (by omega) (hcj hjl)
    ·have:j=k:=by omega
     subst this;rw [List.getElem?_append_right (by omega),hkl];simp
   have HF:=Lib.hid hfin;have HVK:=Lib.hid hVk;generalize hp:Lx.adv ⟨1,1⟩ (s.data.toList.take k)=p at *;have HKK:=Lib.hid hkk;have HKL:=Lib.hid hkl;have hown:=hP.own;rw [hkl] at hown;have HO:=Lib.hid hown;have c0:=hP.b0;have c1:=hP.b1;have hlq:=hP.lt;have hk6:k<=1000000:=by rw [hkk,<- size_len];omega
   clear hfin hVk hp hkk hK hown hkl;have hnb:((wr.alloc (.cells #[.int .i64 p.line,.int .i64 p.col] 27)).drew).heap[wr.heap.size]? = some (.cells #[.int .i64 p.line,.int .i64 p.col] 27 (0,0)):=heap_alloc_new wr _;have HNB:=Lib.hid hnb;clear hnb
   go_upto_region 16 with fail
   go_region_law (refine step_append_lies _ (by rfl) (.tmp 46) (.tmp 48) 147 (by rfl) (w.heap.size+2) 27 i0 _ 2 16 Tryz.underlying147 HI.out HZ.out HZ1.out HZ2.out rfl (by omega) u5 k (qposCells pl) (by rfl) ((HO.out.alloc _).drew) ⟨wr.heap.size,0,none⟩ 1 1 [.int .i64 p.line,.int .i64 p.col] (by rfl) (by rfl) (World.news_of_block (cs:=#[.int .i64 p.line,.int .i64 p.col]) (t:=27) (fr:=(0,0)) HNB.out) (fun x hx=>by simp at hx;rcases hx with rfl | rfl <;> rfl) (by omega) (by unfold maxLen;omega) (by omega) (by simp;omega) (wr.heap.size+1) (by simp) ?_;intro g cap w5 hown5 hgrow5 hat5 hlt5;have G:=hP.grow (o := .cells #[.int .i64 p.line,.int .i64 p.col] 27) (by rw [HKL.out];exact hown5) ⟨hgrow5.os,hgrow5.tape,hgrow5.output,hgrow5.size,hgrow5.block⟩;have d0:=G.b0;have d1:=G.b1;have e0:=G.a0;have e1:=G.a1;have f0:=G.fa 0;have f1:=G.fa 1;clear hown5 hgrow5 hat5 hlt5)
   all_goals go_wp2_with fail
   all_goals (have s2:=set_two w5 w.heap.size (.int .i64 p.line) (.int .i64 p.col) _ _ e0 e1)
   all_goals refine bodyPost_ret (v := .tuple #[.slice (some ⟨g,0,none⟩) (k+1) cap,.agg #[.int .i64 p.line,.int .i64 p.col],.bool false]) (by simp [results,Tryz.results79,go_sem,Act.put,s2.1,s2.2]) rfl ?_
   all_goals
    have hl:(pl++[p]).length=s.data.toList.length+1:=by rw [List.length_append,HKL.out,HKK.out];rfl
    have ho:=row_mono (base':=w.heap.size) (ownsRow_setCell_below (ownsRow_setCell_below G.own (a:=⟨w.heap.size,0,none⟩) (by simp) (.int .i64 p.line)) (a:=⟨w.heap.size,1,none⟩) (by simp) (.int .i64 p.col)) (by omega);rw [hl] at ho;refine ⟨(G.bl.setCell (by simp) _).setCell (by simp) _,.inr ⟨?_,_,_,_,pl++[p],rfl,ho,hl,HF.out⟩⟩;rw [HV.out,HVK.out,HKK.out];omega
end
section
open Go.RowKit
namespace Lx
theorem num_lt (l:B)(h:∀ c∈l,digit c=true)(hl:l.length<=18):0<=number l/\number l<10 ^ l.length:=by
 have P:=parse_from l 0 0 h (by decide) (by omega);have e:number l=((l.foldl (fun (a:Nat) c=>a*10+(c.toNat-48)) 0:Nat):Int):=number_from l 0 h;rw [e];have:=P.2;rw [Nat.zero_add] at this;refine ⟨by omega, ?_⟩;have h2:((10 ^ l.length:Nat):Int)=(10:Int) ^ l.length:=by push_cast;rfl
 rw [<- h2];omega
theorem num_lt18 (l:B)(h:∀ c∈l,digit c=true)(hl:l.length<=17):0<=number l/\number l<100000000000000000:=by
 have:=num_lt l h (by omega);refine ⟨this.1, ?_⟩;have h2:(10:Int) ^ l.length<=10 ^ 17:=by
  have:(10:Nat) ^ l.length<=10 ^ 17:=Nat.pow_le_pow_right (by omega) hl;have h3:((10 ^ l.length:Nat):Int)=(10:Int) ^ l.length:=by push_cast;rfl
  have h4:((10 ^ 17:Nat):Int)=(10:Int) ^ 17:=by decide
  rw [<- h3,<- h4];exact Int.ofNat_le.2 this
 have h5:(10:Int) ^ 17=100000000000000000:=by decide
 omega
theorem num_step (l:B)(j:Nat)(c:UInt8)(r:B)(h:l.drop j=c :: r):number (l.take (j+1))=10*number (l.take j)+((c.toNat:Int)-48):=by
 have e:l.take (j+1)=l.take j++[c]:=by
  rw [List.take_add,h];rfl
 rw [e,number,List.foldl_append];rfl
end Lx
def rgotV (s:ByteArray):Lx.Got->Value
 | .bad e => .tuple #[.agg #[.int .i64 0,.string ⟨#[]⟩,.int .i64 0,.int .i64 0,.int .i64 0],.int .i64 0,.int .i64 e]
 | .tok k n v => .tuple #[.agg #[.int .i64 k,.string (s.extract 0 n),.int .i64 v,.int .i64 0,.int .i64 0],.int .i64 (n:Int),.int .i64 0]
structure NumSt (w:World)(TX:ByteArray)(acc:Int)(wr:World):Prop where
 r:∀ i,i<5->∃ x,wr.cell? ⟨w.heap.size,i,none⟩=some x
 rf:∀ i,wr.frozen? ⟨w.heap.size,i,none⟩=false
 t0:wr.cell? ⟨w.heap.size+1,0,none⟩=some (.int .i64 3)
 t1:wr.cell? ⟨w.heap.size+1,1,none⟩=some (.string TX)
 t2:wr.cell? ⟨w.heap.size+1,2,none⟩=some (.int .i64 acc)
 t3:wr.cell? ⟨w.heap.size+1,3,none⟩=some (.int .i64 0)
 t4:wr.cell? ⟨w.heap.size+1,4,none⟩=some (.int .i64 0)
 tf:∀ i,wr.frozen? ⟨w.heap.size+1,i,none⟩=false
 bl:Below w.heap.size w wr
theorem NumSt.set {w:World}{TX:ByteArray}{acc:Int}{wr:World}(h:NumSt w TX acc wr)(x:Int):NumSt w TX x ((wr.setCell ⟨w.heap.size+1,2,none⟩ (.int .i64 x)).drew) :=
 ⟨fun i hi=>by obtain ⟨y,hy⟩:=h.r i hi;exact ⟨y,by show (wr.setCell _ _).cell? _=_;rw [World.cell?_setCell_other _ _ _ _ (by simp)];exact hy⟩,fun i=>by simpa using h.rf i,
  by show (wr.setCell _ _).cell? _=_;rw [World.cell?_setCell_other _ _ _ _ (by simp)];exact h.t0,by show (wr.setCell _ _).cell? _=_;rw [World.cell?_setCell_other _ _ _ _ (by simp)];exact h.t1,
  by show (wr.setCell _ _).cell? _=_;exact World.cell?_setCell_same _ _ _ h.t2,by show (wr.setCell _ _).cell? _=_;rw [World.cell?_setCell_other _ _ _ _ (by simp)];exact h.t3,by show (wr.setCell _ _).cell? _=_;rw [World.cell?_setCell_other _ _ _ _ (by simp)];exact h.t4,
  fun i=>by simpa using h.tf i,(h.bl.setCell (by simp) _).drew⟩
theorem rone_any (s:ByteArray)(w:World)(hs:s.size<=1000000)(hne:0<s.size):
  Calls Tryz.prog 80 #[.string s] w fun e w'=>e = .returned (rgotV s (Lx.one s.data.toList))/\Below w.heap.size w w':=by
 obtain ⟨c,hc,hd⟩:=byte_at s 0 hne;simp only [List.drop_zero] at hd;have hone:Lx.one s.data.toList=if Lx.digit c then (if Lx.span false s.data.toList>18 then .bad 6 else .tok 3 (Lx.span false s.data.toList) (Lx.number (s.data.toList.take (Lx.span false s.data.toList))))
   else if Lx.letter c then (if Lx.span true s.data.toList>40 then .bad 6 else if Lx.own (s.data.toList.take (Lx.span true s.data.toList)) then .tok 2 (Lx.span true s.data.toList) 0 else .tok 1 (Lx.span true s.data.toList) 0)
   else if Lx.mark s.data.toList=0 then .bad 4 else .tok 4 (Lx.mark s.data.toList) 0:=by
  rw [hd];rfl
 have hbl:∀ v,Below w.heap.size w (w.alloc (.cells v 109)):=fun v=>(Below.refl w.heap.size w).alloc (Nat.le_refl _) _;have HBL:=Lib.hid hbl;clear hbl
 cases hL:Lx.letterZ (c.toNat:Int)
 ·cases hD:Lx.digitZ (c.toNat:Int)
  ·
   have e:Lx.one s.data.toList=if Lx.mark s.data.toList=0 then .bad 4 else .tok 4 (Lx.mark s.data.toList) 0:=by rw [hone,if_neg (by simp [Lx.digit,hD]),if_neg (by simp [Lx.letter,hL])]
   rw [e];have cM:=fun w=>rmark_any s w hne;have hmle:Lx.mark s.data.toList<=s.size:=by rw [size_len];exact Lx.mark_le _
   generalize Lx.mark s.data.toList=n at *;have CM:=Lib.hid cM;clear cM e hone hd
   by_cases h0:n=0
   ·subst h0;rw [if_pos rfl]
    show Calls _ _ _ _ fun e w'=>e = .returned (.tuple #[.agg #[.int .i64 0,.string ⟨#[]⟩,.int .i64 0,.int .i64 0,.int .i64 0],.int .i64 0,.int .i64 4])/\_
    go_enter Tryz.func80,Tryz.ntmps80
    go_wp2_with (first | (go_at_call 112;refine (rletter_any _ _).mono ?_;rintro e w' ⟨rfl,rfl⟩) | (go_at_call 113;refine (rdigit_any _ _).mono ?_;rintro e w' ⟨rfl,rfl⟩) | (go_at_call 116;refine (CM.out _).mono ?_;rintro e w' ⟨rfl,rfl⟩))
    exact bodyPost_ret (v := .tuple #[.agg #[.int .i64 0,.string ⟨#[]⟩,.int .i64 0,.int .i64 0,.int .i64 0],.int .i64 0,.int .i64 4]) (by simp [results,Tryz.results80,go_sem]) rfl ⟨rfl,HBL.out _⟩
   ·rw [if_neg h0];have hn0:((n:Int)==0)=false:=by simp;omega
    show Calls _ _ _ _ fun e w'=>e = .returned (.tuple #[.agg #[.int .i64 4,.string (s.extract 0 n),.int .i64 0,.int .i64 0,.int .i64 0],.int .i64 (n:Int),.int .i64 0])/\_
    go_enter Tryz.func80,Tryz.ntmps80
    go_wp2_with (first | (go_at_call 112;refine (rletter_any _ _).mono ?_;rintro e w' ⟨rfl,rfl⟩) | (go_at_call 113;refine (rdigit_any _ _).mono ?_;rintro e w' ⟨rfl,rfl⟩) | (go_at_call 116;refine (CM.out _).mono ?_;rintro e w' ⟨rfl,rfl⟩))
    exact bodyPost_ret (v := .tuple #[.agg #[.int .i64 4,.string (s.extract 0 n),.int .i64 0,.int .i64 0,.int .i64 0],.int .i64 (n:Int),.int .i64 0]) (by simp [results,Tryz.results80,go_sem]) rfl ⟨rfl,HBL.out _⟩
  ·
   have e:Lx.one s.data.toList=if Lx.span false s.data.toList>18 then .bad 6 else .tok 3 (Lx.span false s.data.toList) (Lx.number (s.data.toList.take (Lx.span false s.data.toList))):=by rw [hone,if_pos (by simp [Lx.digit,hD])]
   rw [e];have cL:=fun w=>rlong_any s false w (by omega);have hle:=Lx.span_le false s.data.toList;rw [<- size_len] at hle;have hall:=Lx.span_all false s.data.toList;simp only [Bool.false_and,Bool.or_false] at hall;generalize Lx.span false s.data.toList=n at *;have CL:=Lib.hid cL;have HALL:=Lib.hid hall;clear cL e hone hd hall
   by_cases h18:n>18
   ·rw [if_pos h18]
    show Calls _ _ _ _ fun e w'=>e = .returned (.tuple #[.agg #[.int .i64 0,.string ⟨#[]⟩,.int .i64 0,.int .i64 0,.int .i64 0],.int .i64 0,.int .i64 6])/\_
    go_enter Tryz.func80,Tryz.ntmps80
    go_wp2_with (first | (go_at_call 112;refine (rletter_any _ _).mono ?_;rintro e w' ⟨rfl,rfl⟩) | (go_at_call 113;refine (rdigit_any _ _).mono ?_;rintro e w' ⟨rfl,rfl⟩) | (go_at_call 114;refine (CL.out _).mono ?_;rintro e w' ⟨rfl,rfl⟩))
    exact bodyPost_ret (v := .tuple #[.agg #[.int .i64 0,.string ⟨#[]⟩,.int .i64 0,.int .i64 0,.int .i64 0],.int .i64 0,.int .i64 6]) (by simp [results,Tryz.results80,go_sem]) rfl ⟨rfl,HBL.out _⟩
   ·rw [if_neg h18];generalize hV:Lx.number (s.data.toList.take n)=V at *;have HV:=Lib.hid hV;clear hV
    show Calls _ _ _ _ fun e w'=>e = .returned (.tuple #[.agg #[.int .i64 3,.string (s.extract 0 n),.int .i64 V,.int .i64 0,.int .i64 0],.int .i64 (n:Int),.int .i64 0])/\_
    have hS:NumSt w (s.extract 0 n) 0 ((w.alloc (.cells #[.int .i64 0,.string ⟨#[]⟩,.int .i64 0,.int .i64 0,.int .i64 0] 109)).alloc (.cells #[.int .i64 3,.string (s.extract 0 n),.int .i64 0,.int .i64 0,.int .i64 0] 109)):=by
     refine ⟨fun i hi=>?_,fun i=>by simp [go_sem],by simp [go_sem],by simp [go_sem],by simp [go_sem],by simp [go_sem],by simp [go_sem],fun i=>by simp [go_sem],((Below.refl _ _).alloc (Nat.le_refl _) _).alloc (by simp) _⟩;rw [World.cell?_alloc_lt _ _ ⟨w.heap.size,i,none⟩ (by simp),World.cell?_alloc_new];have:i=0\/i=1\/i=2\/i=3\/i=4:=by omega
     rcases this with rfl | rfl | rfl | rfl | rfl <;> exact ⟨_,rfl⟩
    go_enter Tryz.func80,Tryz.ntmps80
    go_wp2_with (first | (go_at_call 112;refine (rletter_any _ _).mono ?_;rintro e w' ⟨rfl,rfl⟩) | (go_at_call 113;refine (rdigit_any _ _).mono ?_;rintro e w' ⟨rfl,rfl⟩) | (go_at_call 114;refine (CL.out _).mono ?_;rintro e w' ⟨rfl,rfl⟩))
    generalize (w.alloc (.cells #[.int .i64 0,.string ⟨#[]⟩,.int .i64 0,.int .i64 0,.int .i64 0] 109)).alloc (.cells #[.int .i64 3,.string (s.extract 0 n),.int .i64 0,.int .i64 0,.int .i64 0] 109)=w1 at *
    go_loopw [11] (fun j wr=>∃ (m:Nat),j = .int .i64 (m:Int)/\m<=n/\NumSt w (s.extract 0 n) (Lx.number (s.data.toList.take m)) wr) (fun j _=>n-(intOf j).toNat)
    case atStart=>exact ⟨0,rfl,Nat.zero_le _,hS⟩
    case round =>
     obtain ⟨m,rfl,hm,hN⟩:=hrel;clear hS
     by_cases hmn:m<n
     ·obtain ⟨d,hd,hdr⟩:=byte_at s m (by omega);have hstep:=Lx.num_step _ m d _ hdr;have hdig:Lx.digit d=true:=by
       refine HALL.out d ?_;have:s.data.toList.take n=s.data.toList.take m++(s.data.toList.drop m).take (n-m):=by rw [<- List.take_add];congr 1;omega
       rw [this,hdr];obtain ⟨q,hq⟩:∃ q,n-m=q+1:=⟨n-m-1,by omega⟩;rw [hq,List.take_succ_cons];simp
      have hdz:48<=(d.toNat:Int)/\(d.toNat:Int)<=57:=by simpa [Lx.digit,Lx.digitZ] using hdig
      have hac:=Lx.num_lt18 (s.data.toList.take m) (fun x hx=>HALL.out x (by
       have:s.data.toList.take n=s.data.toList.take m++(s.data.toList.drop m).take (n-m):=by rw [<- List.take_add];congr 1;omega
       rw [this];exact List.mem_append_left _ hx)) (by rw [List.length_take];omega)
      generalize Lx.number (s.data.toList.take m)=acc at *;have hN2:=hN.set (10*acc+((d.toNat:Int)-48));have t2:=hN.t2;have f2:=hN.tf 2;have HN2:=Lib.hid hN2;have HST:=Lib.hid hstep;clear hN2 hstep hdr hdig hN;have hz:((d.toNat:Int)-48) % 256=(d.toNat:Int)-48:=by omega
      have HZ:=Lib.hid hz;clear hz;have e2:IntKind.i64.wrap (10*acc)=10*acc:=IntWalk.i64_in _ (by omega);have e3:IntKind.i64.wrap (10*acc+((d.toNat:Int)-48) % 256)=10*acc+((d.toNat:Int)-48) % 256:=IntWalk.i64_in _ (by omega);have e4:IntKind.i64.wrap (((d.toNat:Int)-48) % 256)=((d.toNat:Int)-48) % 256:=IntWalk.i64_in _ (by omega);have hms:n-(intOf (Value.int IntKind.i64 ((m:Int)+1))).toNat<n-(intOf (Value.int IntKind.i64 (m:Int))).toNat:=by simp [intOf];omega
      have HMS:=Lib.hid hms;clear hms;clear HV CL HALL h18
      go_upto_region 19 with fail
      go_region
      go_wp2_with fail
      refine ⟨⟨m+1,cast_succ m,by omega, ?_⟩,HMS.out⟩;rw [HST.out];exact HN2.out
     ·have hmn':m=n:=by omega
      subst hmn';obtain ⟨x0,r0⟩:=hN.r 0 (by omega);obtain ⟨x1,r1⟩:=hN.r 1 (by omega);obtain ⟨x2,r2⟩:=hN.r 2 (by omega);obtain ⟨x3,r3⟩:=hN.r 3 (by omega);obtain ⟨x4,r4⟩:=hN.r 4 (by omega);have f0:=hN.rf 0;have f1:=hN.rf 1;have f2:=hN.rf 2;have f3:=hN.rf 3;have f4:=hN.rf 4;have t0:=hN.t0;have t1:=hN.t1;have t2:=hN.t2;have t3:=hN.t3;have t4:=hN.t4;have bl:=hN.bl;rw [HV.out] at t2;clear hN HV CL HALL
      go_wp2
      refine bodyPost_ret (v := .tuple #[.agg #[.int .i64 3,.string (s.extract 0 m),.int .i64 V,.int .i64 0,.int .i64 0],.int .i64 (m:Int),.int .i64 0]) ?_ rfl ⟨rfl, ?_⟩
      ·simp [results,Tryz.results80,go_sem,r0,r1,r2,r3,r4]
      ·exact ((((bl.setCell (by simp) _).setCell (by simp) _).setCell (by simp) _).setCell (by simp) _).setCell (by simp) _
 ·have hD:Lx.digitZ (c.toNat:Int)=false:=by
   simp only [Lx.letterZ,Bool.or_eq_true,Bool.and_eq_true,decide_eq_true_eq,beq_iff_eq] at hL
   cases h:Lx.digitZ (c.toNat:Int)
   ·rfl
   ·simp only [Lx.digitZ,Bool.and_eq_true,decide_eq_true_eq] at h;omega
  have e:Lx.one s.data.toList=if Lx.span true s.data.toList>40 then .bad 6 else if Lx.own (s.data.toList.take (Lx.span true s.data.toList)) then .tok 2 (Lx.span true s.data.toList) 0 else .tok 1 (Lx.span true s.data.toList) 0:=by rw [hone,if_neg (by simp [Lx.digit,hD]),if_pos (by simp [Lx.letter,hL])]
  rw [e];have cL:=fun w=>rlong_any s true w (by omega);have hle:=Lx.span_le true s.data.toList;rw [<- size_len] at hle;have cO:=fun w=>rown_any (s.extract 0 (Lx.span true s.data.toList)) w;rw [head_list] at cO;generalize Lx.span true s.data.toList=n at *;generalize Lx.own (s.data.toList.take n)=b at *;have CL:=Lib.hid cL;have CO:=Lib.hid cO;clear cL cO e hone hd
  by_cases h40:n>40
  ·rw [if_pos h40]
   show Calls _ _ _ _ fun e w'=>e = .returned (.tuple #[.agg #[.int .i64 0,.string ⟨#[]⟩,.int .i64 0,.int .i64 0,.int .i64 0],.int .i64 0,.int .i64 6])/\_
   go_enter Tryz.func80,Tryz.ntmps80
   go_wp2_with (first | (go_at_call 112;refine (rletter_any _ _).mono ?_;rintro e w' ⟨rfl,rfl⟩) | (go_at_call 113;refine (rdigit_any _ _).mono ?_;rintro e w' ⟨rfl,rfl⟩) | (go_at_call 114;refine (CL.out _).mono ?_;rintro e w' ⟨rfl,rfl⟩))
   exact bodyPost_ret (v := .tuple #[.agg #[.int .i64 0,.string ⟨#[]⟩,.int .i64 0,.int .i64 0,.int .i64 0],.int .i64 0,.int .i64 6]) (by simp [results,Tryz.results80,go_sem]) rfl ⟨rfl,HBL.out _⟩
  ·rw [if_neg h40]
   cases b
   ·show Calls _ _ _ _ fun e w'=>e = .returned (.tuple #[.agg #[.int .i64 1,.string (s.extract 0 n),.int .i64 0,.int .i64 0,.int .i64 0],.int .i64 (n:Int),.int .i64 0])/\_
    go_enter Tryz.func80,Tryz.ntmps80
    go_wp2_with (first | (go_at_call 112;refine (rletter_any _ _).mono ?_;rintro e w' ⟨rfl,rfl⟩) | (go_at_call 113;refine (rdigit_any _ _).mono ?_;rintro e w' ⟨rfl,rfl⟩) | (go_at_call 114;refine (CL.out _).mono ?_;rintro e w' ⟨rfl,rfl⟩) | (go_at_call 115;refine (CO.out _).mono ?_;rintro e w' ⟨rfl,rfl⟩))
    exact bodyPost_ret (v := .tuple #[.agg #[.int .i64 1,.string (s.extract 0 n),.int .i64 0,.int .i64 0,.int .i64 0],.int .i64 (n:Int),.int .i64 0]) (by simp [results,Tryz.results80,go_sem]) rfl ⟨rfl,HBL.out _⟩
   ·show Calls _ _ _ _ fun e w'=>e = .returned (.tuple #[.agg #[.int .i64 2,.string (s.extract 0 n),.int .i64 0,.int .i64 0,.int .i64 0],.int .i64 (n:Int),.int .i64 0])/\_
    go_enter Tryz.func80,Tryz.ntmps80
    go_wp2_with (first | (go_at_call 112;refine (rletter_any _ _).mono ?_;rintro e w' ⟨rfl,rfl⟩) | (go_at_call 113;refine (rdigit_any _ _).mono ?_;rintro e w' ⟨rfl,rfl⟩) | (go_at_call 114;refine (CL.out _).mono ?_;rintro e w' ⟨rfl,rfl⟩) | (go_at_call 115;refine (CO.out _).mono ?_;rintro e w' ⟨rfl,rfl⟩))
    exact bodyPost_ret (v := .tuple #[.agg #[.int .i64 2,.string (s.extract 0 n),.int .i64 0,.int .i64 0,.int .i64 0],.int .i64 (n:Int),.int .i64 0]) (by simp [results,Tryz.results80,go_sem]) rfl ⟨rfl,HBL.out _⟩
end
section
open Go.RowKit
theorem own_slice {w:World}{base:Nat}{e:TypeId}{size:Nat}{v:Value}{n:Nat}{xs:List Value}(h:w.ownsRow base e size v n xs)(hn:0<n):
  ∃ g cap,v = .slice (some ⟨g,0,none⟩) n cap/\n<=cap/\base<=g/\∀ j u,xs[j]? = some u->w.cell? ⟨g,j,none⟩=some u:=by
 rcases h.2 with ⟨rfl,h0⟩ | ⟨g,cap,cur,rfl,hb,hg,hc,_⟩
 ·omega
 ·refine ⟨g,cap,rfl,hc,hb,fun j u hu=>?_⟩;have:=h.cells (g:=g) rfl j u hu;have hadd:(⟨g,0,none⟩:Addr).add j=⟨g,j,none⟩:=by unfold Addr.add;split <;> simp_all
  rwa [hadd] at this
end
end Go.Proofs.YtninlbknklbofaaGreatDoor
