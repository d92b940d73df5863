/- A part of the proof: A part of the proof. -/
import Derived.Test.YtdfpkmfeldoamaaGreatDoorParts
import Derived.Deep.LoopGhost
import Derived.Deep.AppendLies
import Derived.Test.YtdfpkmfeldoamaaGreatDoorSpec
import Derived.Test.YtdfpkmfeldoamaaGreatDoorTSep
import Derived.Shelf.Abstract
import Derived.Shelf.RegionOpen
import Derived.OwnWalkIn
import Derived.TacticsInMore
import Derived.LoopNIn
import Derived.LoopIn
import Derived.Test.YtdfpkmfeldoamaaGreatDoorLFloat
import Derived.OrdersIn
import Derived.TacticsIn
import Derived.Deep.OwnRows
import Derived.Sort.CutIn
import Derived.Test.YtdfpkmfeldoamaaGreatDoorRangeP
set_option linter.unusedSimpArgs false
set_option linter.unusedVariables false
set_option maxRecDepth 100000
set_option maxHeartbeats 8000000
namespace Go.Proofs.YtdfpkmfeldoamaaGreatDoor
section
open Go.RowKit Tn Lx
attribute [local go_sem] tok_field0 tok_field1 tok_field3
theorem Rd.grown {c:Cx}{X:Nat->Prop}{w w':World}{s:Ex.S}(h:Rd c X w s){q:Nat->Prop}(hb:But q w w')(h1:¬ q c.r)(h2:¬ q c.bt)(h3:¬ q c.g)(h4:∀ k,q k->X k)(Y:Nat->Prop)(hY:∀ k,Y k->X k\/(w.heap.size<=k/\k<w'.heap.size)):Rd c Y w' s:=by
 obtain ⟨v,l,e,ht,ho⟩:=h.tree;have h':=h.but hb h1 h2 h3 (fun k hk => .inl (h4 k hk));have no:∀ {t:TypeId} {z:Nat} {v:Value} {n:Nat} {xs:List Value},w.ownsRow c.B t z v n xs->(∀ g,v.ownBlock=some g->¬ X g)->∀ g,v.ownBlock=some g->¬ Y g:=fun ho hx g hg e=>by
  obtain ⟨_,cur,e1⟩:=own_tag ho hg;have:=lt_of_heap e1
  rcases hY g e with e2 | e2
  ·exact hx g hg e2
  ·omega
 have own:∀ {t:TypeId} {z:Nat} {v:Value} {n:Nat} {xs:List Value},w.ownsRow c.B t z v n xs->(∀ g,v.ownBlock=some g->¬ X g)->w'.ownsRow c.B t z v n xs:=fun ho hx=>hb.own ho (fun g hg e=>hx g hg (h4 g e));exact ⟨h'.blk,h'.tok,⟨v,l,e,⟨hb.heap ht.blk h2,own ht.own ho.1,fun q hq=>own (ht.kids q hq) (ho.2 q hq),ht.lt⟩,no ht.own ho.1,fun q hq=>no (ht.kids q hq) (ho.2 q hq)⟩,h.p,h.few,h.room,h.len,h.rlt,h.blt,h.glt,h.rb,h.gr,h.gb,h'.size,fun k hk=>by
  rcases hY k hk with e | e
  ·exact h'.xlt k e
  ·exact e.2⟩
theorem Kp.own {c:Cx}{a b:World}(h:Kp c a b){base:Nat}{t:TypeId}{z:Nat}{v:Value}{n:Nat}{xs:List Value}(ho:a.ownsRow base t z v n xs)(ht:t≠165)(hr:c.r<base)(hb:c.bt<base):b.ownsRow base t z v n xs:=by
 refine ⟨ho.1, ?_⟩
 rcases ho.2 with hn | ⟨g,cap,cur,rfl,hbg,hgg,rest⟩
 ·exact .inl hn
 ·exact .inr ⟨g,cap,cur,rfl,hbg,h.heap hgg (by omega) (by omega) ht,rest⟩
def XV (X:Nat->Prop)(v:Value):Nat->Prop:=fun k=>X k\/some k=v.ownBlock
structure ArgSt (c:Cx)(X:Nat->Prop)(w:World)(all:Ex.Part)(R:Ex.Res (List Nat))(m k:Nat)(v:Value)(l:List Nat)(s:Ex.S)(wr:World):Prop where
 rd:Rd c (XV X v) wr s
 kp:Kp c w wr
 own:wr.ownsRow w.heap.size 3 1 v l.length (ints (l.map fun (i:Nat)=>(i:Int)))
 fin:Ex.argsLoop c.ts all k l s=R
 few:l.length+k<=m+1
theorem ArgSt.more {c:Cx}{X:Nat->Prop}{w:World}{all:Ex.Part}{R:Ex.Res (List Nat)}{m k':Nat}{v:Value}{l:List Nat}{s2:Ex.S}{wr w2 w3:World}{i g cap:Nat}(hkp:Kp c w wr)(ho:wr.ownsRow w.heap.size 3 1 v l.length (ints (l.map fun (i:Nat)=>(i:Int))))(hB:c.B<=w.heap.size)(hR:Rd c (XV X v) w2 s2)(hK:Kp c wr w2)
  (hown:w3.ownsRow w.heap.size 3 1 (.slice (some ⟨g,0,none⟩) (l.length+1) cap) (l.length+1) (ints (l.map fun (i:Nat)=>(i:Int))++[.int .i64 (i:Int)])) (hgrow:(w2.alloc (.cells #[.int .i64 (i:Int)] 3)).grownBy w3 v.ownBlock) (hat:v.ownBlock=some g\/g=w2.heap.size+1) (hlt:g<w3.heap.size)
  (hfin:Ex.argsLoop c.ts all k' (l++[i]) s2=R) (hfew:l.length+1+k'<=m+1):ArgSt c X w all R m k' (.slice (some ⟨g,0,none⟩) (l.length+1) cap) (l++[i]) s2 w3:=by
 have hw2:w.heap.size<=w2.heap.size:=Nat.le_trans hkp.size hK.size;have ho2:=hK.own ho (by decide) (by have:=hR.rlt;omega) (by have:=hR.blt;omega);have tag:∀ q,v.ownBlock=some q->w.heap.size<=q/\q<w2.heap.size:=fun q hq=>by
  obtain ⟨h1,cur,h2⟩:=own_tag ho2 hq;exact ⟨h1,lt_of_heap h2⟩
 have hB2:But (fun q=>some q=v.ownBlock) w2 w3:=(But.of_below ((Below.refl _ w2).alloc (Nat.le_refl _) _)).trans (But.of_grown hgrow (fun q e=>e.symm));have far:∀ b,b<c.B->¬ (some b=v.ownBlock):=fun b hb e=>by have:=(tag b e.symm).1;omega
 refine ⟨?_, ?_, ?_,hfin,by simp;omega⟩
 ·refine hR.grown hB2 (far _ hR.rlt) (far _ hR.blt) (far _ hR.glt) (fun q hq => .inr hq) _ (fun q hq=>?_)
  rcases hq with hq | hq
  ·exact .inl (.inl hq)
  ·have hq':q=g:=by injection hq
   subst hq'
   rcases hat with e | e
   ·exact .inl (.inr e.symm)
   ·exact .inr ⟨by omega,hlt⟩
 ·exact (hkp.trans hK).new hB2 (fun q e=>(tag q e.symm).1)
 ·have:ints ((l++[i]).map fun (i:Nat)=>(i:Int))=ints (l.map fun (i:Nat)=>(i:Int))++[.int .i64 (i:Int)]:=by simp [ints]
  rw [this,List.length_append];exact hown
def ArgsP (c:Cx)(X:Nat->Prop)(w:World)(R:Ex.Res (List Nat))(e:Ending)(w':World):Prop :=
 (∃ l s ka kc,R = .ok l s/\e = .returned (.slice ka l.length kc)/\IntsAt w'.heap.size w' ka (l.map fun (i:Nat)=>(i:Int))/\(ka=none->kc=0)/\l.length<=999000/\Rd c X w' s/\Kp c w w')\/(∃ cd p,R = .bad cd p/\e = .panicked [{ v:=dval cd p,recovered:=false }]/\Kp c w w')
theorem args_any (c:Cx)(X:Nat->Prop)(w:World)(s:Ex.S)(f:Ex.Rec)(d m:Nat)(hf:Spec c f)(hd:d<=64)(hm:m<=900000)(h:Rd c X w s)(hne:Ex.args c.ts m (f .all d) s ≠ .out):
  Calls Tryz.prog 237 #[.pointer (some ⟨c.r,0,none⟩),.int .i64 (d:Int)] w (ArgsP c X w (Ex.args c.ts m (f .all d) s)):=by
 obtain ⟨i0,hi0,hz0,hz1,hz2⟩:=info_parts Tryz.info3;have HI0:=Lib.hid hi0;have HZ0:=Lib.hid hz0;have HZ1:=Lib.hid hz1;have HZ2:=Lib.hid hz2;have hr1:=h.rlt;have hb1:=h.blt;have hsz:=h.size;have hi:=is_any c X w s [41] h;have HF:=Lib.hid hf;have HR:=Lib.hid h;have HNE:=Lib.hid hne;have HI:=Lib.hid hi;clear hf h hne hi0 hz0 hz1 hz2 hi;have hnil:∀ W:World,W.ownsRow w.heap.size 3 1 (.slice none 0 0) 0 (ints (([]:List Nat).map fun (i:Nat)=>(i:Int))):=fun W=>⟨rfl,.inl ⟨rfl,rfl⟩⟩;have HNIL:=Lib.hid hnil;clear hnil
 go_enter Tryz.func237,Tryz.ntmps237
 cases hv:Ex.is c.ts s [41] with
 | true =>
  rw [hv] at HI;have HE1:=Lib.hid hv;clear hv
  go_wp2_with fail
  refine HI.out.mono ?_;rintro e w1 ⟨rfl,hb1⟩;have hst:ArgSt c X w (f .all d) (Ex.args c.ts m (f .all d) s) m m (.slice none 0 0) [] s w1:=⟨(HR.out.below hb1).less (fun k hk=>by rcases hk with hk | hk;exact hk;cases hk),Kp.of_below hb1,HNIL.out _,by simp only [Ex.args,HE1.out,↓reduceIte],by simp⟩;have HST:=Lib.hid hst;clear hb1 HR HI hst HNIL
  go_wp2_with fail
  go_loopg [5] m (fun k v wr=>∃ (l:List Nat) (s':Ex.S),ArgSt c X w (f .all d) (Ex.args c.ts m (f .all d) s) m k v l s' wr)
  case atStart=>exact ⟨_,_,HST.out⟩
  case round =>
   obtain ⟨l,s',hst⟩:=hrel;obtain ⟨ao,cap0,rfl⟩:=own_form hst.own;obtain ⟨k,rfl⟩:∃ k,gk=k+1:=by
    cases gk with
    | zero=>exact absurd hst.fin.symm (by rw [Ex.argsLoop];exact HNE.out)
    | succ k=>exact ⟨k,rfl⟩
   have hfin:=hst.fin;rw [Ex.argsLoop] at hfin;have hi2:=is_any c _ wr s' [44] hst.rd;have hfew:=hst.few;have hsr:=hst.kp.size;have HS:=Lib.hid hst;clear hst HST
   cases hv2:Ex.is c.ts s' [44] with
   | true =>
    rw [hv2] at hfin hi2;rw [if_pos rfl] at hfin;have hp:=Ex.is_lt hv2;have HFIN:=Lib.hid hfin;have HI2:=Lib.hid hi2;clear hfin hi2 hv2
    go_wp2_with fail
    refine HI2.out.mono ?_;rintro e w2 ⟨rfl,hb2⟩;have HR2:=Lib.hid (HS.out.rd.below hb2);have HK2:=Lib.hid (Kp.of_below (c:=c) hb2);clear hb2
    go_wp2_with fail
    refine (skip_any c _ _ s' HR2.out hp).mono ?_;rintro e w3 ⟨rfl,hR3,hK3⟩;have HR3:=Lib.hid hR3;have HK3:=Lib.hid (HK2.out.trans hK3);clear hR3 hK3 HR2 HK2
    go_wp2_with fail
    refine (HF.out.all d s'.skip _ _ hd HR3.out (fun e=>HNE.out (by rw [<- HFIN.out,e];rfl))).mono ?_;rintro e w5 (⟨a5,s5,hE5,rfl,hR5,hK5⟩ | ⟨cd,p5,hE5,rfl,hK5⟩)
    rotate_left
    ·exact ⟨rfl,.inr ⟨cd,p5,by rw [<- HFIN.out,hE5];rfl,rfl,HS.out.kp.trans (HK3.out.trans hK5)⟩⟩
    have hfin5:Ex.argsLoop c.ts (f .all d) k (l++[a5]) s5=Ex.args c.ts m (f .all d) s:=by rw [<- HFIN.out,hE5];rfl
    have HR5:=Lib.hid hR5;have HK5:=Lib.hid (HK3.out.trans hK5);have HF5:=Lib.hid hfin5;have ho5:=HK5.out.own HS.out.own (by decide) (by omega) (by omega);have hs5:=HK5.out.size;have HO5:=Lib.hid ho5;clear hE5 hR5 hK5 hfin5 HR3 HK3 ho5
    go_wp2_with (at_builtin;refine wpList_append_lies _ rfl (.tmp 19) (.tmp 23) 163 rfl w.heap.size 3 i0 _ 1 8 Tryz.underlying163 HI0.out HZ0.out HZ1.out HZ2.out rfl (by decide) (.slice ao l.length cap0) l.length (ints (l.map fun (i:Nat)=>(i:Int))) rfl (HO5.out.alloc _) ⟨w5.heap.size,0,none⟩ 1 1 [.int .i64 (a5:Int)] rfl rfl (World.news_of_block (cs:=#[.int .i64 (a5:Int)]) (t:=3) (fr:=(0,0)) (heap_alloc_new w5 _)) (by intro x hx;simp at hx;subst hx;rfl) (by decide) (by unfold maxLen;omega) (by omega) (by simp;omega) (w5.heap.size+1) (by simp) ?_;intro g cap w4 hown hgrow hat hlt)
    have HST:=Lib.hid (ArgSt.more (k':=k) (m:=m) HS.out.kp HS.out.own (by omega) HR5.out HK5.out hown hgrow hat hlt HF5.out (by omega));clear hown hgrow hat hlt
    go_roundg k
    case measure=>omega
    case rel=>exact ⟨_,_,HST.out⟩
   | false =>
    rw [hv2] at hfin hi2;rw [if_neg (by simp)] at hfin;have HFIN:=Lib.hid hfin;have HI2:=Lib.hid hi2;clear hfin hi2 hv2
    go_wp2_with fail
    refine HI2.out.mono ?_;rintro e w2 ⟨rfl,hb2⟩;have HR2:=Lib.hid (HS.out.rd.below hb2);have HK2:=Lib.hid (HS.out.kp.then_below hb2);have HO2:=Lib.hid (own_below HS.out.own hb2);clear hb2
    go_wp2_with fail
    refine (take_any c _ _ s' [41] _ (HR2.out.below ((Below.refl _ w2).alloc (Nat.le_refl _) _)) (by rw [World.cell?_alloc_new];rfl)).mono ?_;rintro e w3 (⟨s3,hE3,rfl,hR3,hK3⟩ | ⟨cd,p3,hE3,rfl,hK3⟩)
    rotate_left
    ·go_wp2_with fail
     refine (need_bad cd p3 _).mono ?_;rintro e w3b ⟨rfl,rfl⟩;exact ⟨rfl,.inr ⟨cd,p3,by rw [<- HFIN.out,hE3];rfl,rfl,HK2.out.trans (Below.then_kp ((Below.refl _ w2).alloc (Nat.le_refl _) _) hK3)⟩⟩
    have hfin3:Ex.args c.ts m (f .all d) s = .ok l s3:=by rw [<- HFIN.out,hE3];rfl
    have ho3:=hK3.own (HO2.out.alloc _) (by decide) (by omega) (by omega);have hR':Rd c X w3 s3:=hR3.less (fun k hk => .inl hk);have HF3:=Lib.hid hfin3;have HO3:=Lib.hid ho3;have HR3:=Lib.hid hR';have HK3:=Lib.hid (HK2.out.trans (Below.then_kp ((Below.refl _ w2).alloc (Nat.le_refl _) _) hK3));clear hE3 hR3 hK3 hfin3 ho3 hR' HR2 HK2 HO2
    go_wp2_with fail
    refine (need_ok _).mono ?_;rintro e w3b ⟨rfl,rfl⟩
    go_wp2
    go_ret
    exact .inl ⟨l,s3,ao,cap0,HF3.out,rfl,own_ints (by rw [ints_map_len];exact HO3.out),fun e=>own_nil HO3.out e,by omega,HR3.out,HK3.out⟩
 | false =>
  rw [hv] at HI;have HE1:=Lib.hid hv;clear hv
  go_wp2_with fail
  refine HI.out.mono ?_;rintro e w1 ⟨rfl,hb1⟩;have HR1:=Lib.hid (HR.out.below hb1);have HK1:=Lib.hid (Kp.of_below (c:=c) hb1);clear hb1 HR HI
  go_wp2_with fail
  refine (HF.out.all d s X _ hd HR1.out (fun e=>HNE.out (by simp only [Ex.args,HE1.out,e,Ex.Res.bind,↓reduceIte,Bool.false_eq_true]))).mono ?_;rintro e w2 (⟨a2,s2,hE2,rfl,hR2,hK2⟩ | ⟨cd,p2,hE2,rfl,hK2⟩)
  rotate_left
  ·exact ⟨rfl,.inr ⟨cd,p2,by simp only [Ex.args,HE1.out,hE2,Ex.Res.bind,↓reduceIte,Bool.false_eq_true],rfl,HK1.out.trans hK2⟩⟩
  have hfin2:Ex.argsLoop c.ts (f .all d) m ([]++[a2]) s2=Ex.args c.ts m (f .all d) s:=by simp only [Ex.args,HE1.out,hE2,Ex.Res.bind,↓reduceIte,Bool.false_eq_true,List.nil_append]
  have hR2':Rd c (XV X (.slice none 0 0)) w2 s2:=hR2.less (fun k hk=>by rcases hk with hk | hk;exact hk;cases hk);have HR2:=Lib.hid hR2';have HK2:=Lib.hid hK2;have HF2:=Lib.hid hfin2;have hs2:=hK2.size;have hs1:=HK1.out.size;clear hE2 hR2 hK2 hfin2 hR2' HR1
  go_wp2_with (at_builtin;refine wpList_append_lies _ rfl (.tmp 9) (.tmp 13) 163 rfl w.heap.size 3 i0 _ 1 8 Tryz.underlying163 HI0.out HZ0.out HZ1.out HZ2.out rfl (by decide) (.slice none 0 0) 0 (ints (([]:List Nat).map fun (i:Nat)=>(i:Int))) rfl ((HNIL.out w2).alloc _) ⟨w2.heap.size,0,none⟩ 1 1 [.int .i64 (a2:Int)] rfl rfl (World.news_of_block (cs:=#[.int .i64 (a2:Int)]) (t:=3) (fr:=(0,0)) (heap_alloc_new w2 _)) (by intro x hx;simp at hx;subst hx;rfl) (by decide) (by unfold maxLen;omega) (by omega) (by simp;omega) (w2.heap.size+1) (by simp) ?_;intro g cap w4 hown hgrow hat hlt)
  have HST:=Lib.hid (ArgSt.more (k':=m) (m:=m) HK1.out (HNIL.out _) (by omega) HR2.out HK2.out hown hgrow hat hlt HF2.out (by simp;omega));clear hown hgrow hat hlt HR2 HK2 HF2 HNIL
  go_wp2_with fail
  go_loopg [5] m (fun k v wr=>∃ (l:List Nat) (s':Ex.S),ArgSt c X w (f .all d) (Ex.args c.ts m (f .all d) s) m k v l s' wr)
  case atStart=>exact ⟨_,_,HST.out⟩
  case round =>
   obtain ⟨l,s',hst⟩:=hrel;obtain ⟨ao,cap0,rfl⟩:=own_form hst.own;obtain ⟨k,rfl⟩:∃ k,gk=k+1:=by
    cases gk with
    | zero=>exact absurd hst.fin.symm (by rw [Ex.argsLoop];exact HNE.out)
    | succ k=>exact ⟨k,rfl⟩
   have hfin:=hst.fin;rw [Ex.argsLoop] at hfin;have hi2:=is_any c _ wr s' [44] hst.rd;have hfew:=hst.few;have hsr:=hst.kp.size;have HS:=Lib.hid hst;clear hst HST
   cases hv2:Ex.is c.ts s' [44] with
   | true =>
    rw [hv2] at hfin hi2;rw [if_pos rfl] at hfin;have hp:=Ex.is_lt hv2;have HFIN:=Lib.hid hfin;have HI2:=Lib.hid hi2;clear hfin hi2 hv2
    go_wp2_with fail
    refine HI2.out.mono ?_;rintro e w2 ⟨rfl,hb2⟩;have HR2:=Lib.hid (HS.out.rd.below hb2);have HK2:=Lib.hid (Kp.of_below (c:=c) hb2);clear hb2
    go_wp2_with fail
    refine (skip_any c _ _ s' HR2.out hp).mono ?_;rintro e w3 ⟨rfl,hR3,hK3⟩;have HR3:=Lib.hid hR3;have HK3:=Lib.hid (HK2.out.trans hK3);clear hR3 hK3 HR2 HK2
    go_wp2_with fail
    refine (HF.out.all d s'.skip _ _ hd HR3.out (fun e=>HNE.out (by rw [<- HFIN.out,e];rfl))).mono ?_;rintro e w5 (⟨a5,s5,hE5,rfl,hR5,hK5⟩ | ⟨cd,p5,hE5,rfl,hK5⟩)
    rotate_left
    ·exact ⟨rfl,.inr ⟨cd,p5,by rw [<- HFIN.out,hE5];rfl,rfl,HS.out.kp.trans (HK3.out.trans hK5)⟩⟩
    have hfin5:Ex.argsLoop c.ts (f .all d) k (l++[a5]) s5=Ex.args c.ts m (f .all d) s:=by rw [<- HFIN.out,hE5];rfl
    have HR5:=Lib.hid hR5;have HK5:=Lib.hid (HK3.out.trans hK5);have HF5:=Lib.hid hfin5;have ho5:=HK5.out.own HS.out.own (by decide) (by omega) (by omega);have hs5:=HK5.out.size;have HO5:=Lib.hid ho5;clear hE5 hR5 hK5 hfin5 HR3 HK3 ho5
    go_wp2_with (at_builtin;refine wpList_append_lies _ rfl (.tmp 19) (.tmp 23) 163 rfl w.heap.size 3 i0 _ 1 8 Tryz.underlying163 HI0.out HZ0.out HZ1.out HZ2.out rfl (by decide) (.slice ao l.length cap0) l.length (ints (l.map fun (i:Nat)=>(i:Int))) rfl (HO5.out.alloc _) ⟨w5.heap.size,0,none⟩ 1 1 [.int .i64 (a5:Int)] rfl rfl (World.news_of_block (cs:=#[.int .i64 (a5:Int)]) (t:=3) (fr:=(0,0)) (heap_alloc_new w5 _)) (by intro x hx;simp at hx;subst hx;rfl) (by decide) (by unfold maxLen;omega) (by omega) (by simp;omega) (w5.heap.size+1) (by simp) ?_;intro g cap w4 hown hgrow hat hlt)
    have HST:=Lib.hid (ArgSt.more (k':=k) (m:=m) HS.out.kp HS.out.own (by omega) HR5.out HK5.out hown hgrow hat hlt HF5.out (by omega));clear hown hgrow hat hlt
    go_roundg k
    case measure=>omega
    case rel=>exact ⟨_,_,HST.out⟩
   | false =>
    rw [hv2] at hfin hi2;rw [if_neg (by simp)] at hfin;have HFIN:=Lib.hid hfin;have HI2:=Lib.hid hi2;clear hfin hi2 hv2
    go_wp2_with fail
    refine HI2.out.mono ?_;rintro e w2 ⟨rfl,hb2⟩;have HR2:=Lib.hid (HS.out.rd.below hb2);have HK2:=Lib.hid (HS.out.kp.then_below hb2);have HO2:=Lib.hid (own_below HS.out.own hb2);clear hb2
    go_wp2_with fail
    refine (take_any c _ _ s' [41] _ (HR2.out.below ((Below.refl _ w2).alloc (Nat.le_refl _) _)) (by rw [World.cell?_alloc_new];rfl)).mono ?_;rintro e w3 (⟨s3,hE3,rfl,hR3,hK3⟩ | ⟨cd,p3,hE3,rfl,hK3⟩)
    rotate_left
    ·go_wp2_with fail
     refine (need_bad cd p3 _).mono ?_;rintro e w3b ⟨rfl,rfl⟩;exact ⟨rfl,.inr ⟨cd,p3,by rw [<- HFIN.out,hE3];rfl,rfl,HK2.out.trans (Below.then_kp ((Below.refl _ w2).alloc (Nat.le_refl _) _) hK3)⟩⟩
    have hfin3:Ex.args c.ts m (f .all d) s = .ok l s3:=by rw [<- HFIN.out,hE3];rfl
    have ho3:=hK3.own (HO2.out.alloc _) (by decide) (by omega) (by omega);have hR':Rd c X w3 s3:=hR3.less (fun k hk => .inl hk);have HF3:=Lib.hid hfin3;have HO3:=Lib.hid ho3;have HR3:=Lib.hid hR';have HK3:=Lib.hid (HK2.out.trans (Below.then_kp ((Below.refl _ w2).alloc (Nat.le_refl _) _) hK3));clear hE3 hR3 hK3 hfin3 ho3 hR' HR2 HK2 HO2
    go_wp2_with fail
    refine (need_ok _).mono ?_;rintro e w3b ⟨rfl,rfl⟩
    go_wp2
    go_ret
    exact .inl ⟨l,s3,ao,cap0,HF3.out,rfl,own_ints (by rw [ints_map_len];exact HO3.out),fun e=>own_nil HO3.out e,by omega,HR3.out,HK3.out⟩
end
section
open Go.RowKit Go.Shelf Tn
attribute [local go_sem] Oper.semAt_some
abbrev NoNode:Nat->TypeId->Prop:=fun _ t=>t≠165
theorem Six.kept {N:Nat}{W W':World}{b:Nat}{v0 v1 v2 v3 v4 v5:Value}(h:Six W b 165 v0 v1 v2 v3 v4 v5)(k:Kept N NoNode W W'):Six W' b 165 v0 v1 v2 v3 v4 v5:=⟨k.same b _ 165 _ (fun e=>e rfl) h.blk⟩
end
section
open Go.RowKit Go.Shelf Tn
attribute [local go_sem] Oper.semAt_some
end
section
open Go.RowKit
section
variable {P:Program} {n l:Nat} {Q:Exit->Act->World->Prop}
theorem oper_in {o:Oper}{a:Act}{w:World}{K:Act->World->Prop}(hd:∀ c,o.op ≠ .defer c)(h:o.wp P a w K Q):o.wpIn (Fence.wide.inRound l) n P a w K Q:=by
 refine ⟨fun _ _=>trivial, ?_⟩;rw [Fence.inRound_round,Oper.semAt_some _ _ _ hd];unfold Oper.wp at h;generalize (execOp a.eval o).run P w=r at *
 cases r with
 | ok x w' =>
  cases x <;> simp only [Oper.upon,Oper.uponIn] at h ⊢ <;>
   first
    | exact h
    | exact ⟨fun h=>(by cases h),CallsIn.inRound l (callsIn_wide.2 (h.mono fun e w'' he=>by cases e <;> exact he))⟩
    | exact ⟨fun h=>(by cases h),fun c cs _=>let ⟨v,w'',hr,hs⟩:=h c cs;⟨v,w'',hr,stepsIn_wide.2 hs⟩⟩
    | exact h.elim
 | halt x w'=>cases x <;> simp only [Oper.upon,Oper.uponIn] at h ⊢ <;> exact h
def noDefer (ops:Array Oper):Bool:=ops.all fun o=>match o.op with | .defer _=>false | _=>true
theorem noDefer_at {ops:Array Oper}(h:noDefer ops=true){i:Nat}{o:Oper}(hi:ops[i]? = some o):∀ c,o.op ≠ .defer c:=by
 intro c e;have hm:o∈ops:=Array.mem_of_getElem? hi;have:=(Array.all_eq_true_iff_forall_mem.1 h) o hm;rw [e] at this;cases this
theorem any_in {ops:Array Oper}{md:Region.Mode}(hd:noDefer ops=true)(hq:¬ LetsOut Q)(k:Nat):∀ (s:Array Bool) (a:Act) (w:World),wpAny P md ops Q k s a w->wpAnyIn (Fence.wide.inRound l) n P md ops Q k s a w:=by
 induction k with
 | zero=>intro s a w h;exact h
 | succ k ih =>
  intro s a w h;refine ⟨h.1,fun i hi=>?_⟩;have h1:=h.2 i hi;unfold wpOp at h1;unfold wpOpIn
  cases ho:ops[i]? with
  | none=>rw [ho] at h1;exact ih _ _ _ h1
  | some o =>
   rw [ho] at h1;simp only at h1 ⊢
   split
   ·rename_i hw;rw [if_pos hw] at h1;exact Oper.wpIn_mono (fun a w h=>ih _ a w h) (oper_in (noDefer_at hd ho) (h1.resolve_right fun h=>hq h.2))
   ·rename_i hw;rw [if_neg hw] at h1;exact ⟨fun _ _=>trivial,ih _ _ _ h1⟩
end
end
section
end
section
open Go.RowKit Go.Shelf Tn Lx
attribute [local go_sem] Oper.semAt_some
def posCells (ps:List Pos):List Value:=ps.flatMap fun p=>[.int .i64 p.line,.int .i64 p.col]
theorem posCells_snoc (ps:List Pos)(p:Pos):posCells (ps++[p])=posCells ps++[.int .i64 p.line,.int .i64 p.col]:=by simp [posCells]
theorem posCells_get {ps:List Pos}{k:Nat}{p:Pos}(h:ps[k]? = some p):(posCells ps)[k*2]? = some (.int .i64 p.line)/\(posCells ps)[k*2+1]? = some (.int .i64 p.col):=by
 induction ps generalizing k with
 | nil=>simp at h
 | cons q r ih =>
  have e:posCells (q :: r)=[.int .i64 q.line,.int .i64 q.col]++posCells r:=rfl
  cases k with
  | zero=>simp at h;subst h;exact ⟨rfl,rfl⟩
  | succ k =>
   rw [e,List.getElem?_append_right (by simp;omega),List.getElem?_append_right (by simp;omega)];have e1:(k+1)*2-[Value.int .i64 q.line,Value.int .i64 q.col].length=k*2:=by simp;omega
   have e2:(k+1)*2+1-[Value.int .i64 q.line,Value.int .i64 q.col].length=k*2+1:=by simp;omega
   rw [e1,e2];exact ih (by simpa using h)
def MarksAt (W:World)(ao:Option Addr)(ps:List Pos):Prop:=∀ k p,ps[k]? = some p->∃ g cur,ao=some ⟨g,0,none⟩/\W.heap[g]? = some (.cells cur 41 (0,0))/\cur[k*2]? = some (.int .i64 p.line)/\cur[k*2+1]? = some (.int .i64 p.col)
theorem own_marks {w:World}{base:Nat}{ao:Option Addr}{n c:Nat}{ps:List Pos}(h:w.ownsRow base 41 2 (.slice ao n c) n (posCells ps)):MarksAt w ao ps:=by
 intro k p hk;obtain ⟨h1,h2⟩:=posCells_get hk
 rcases h.2 with ⟨e,h0⟩ | ⟨g',cap,cur,hv,_,hg,_,_,hs,ht⟩
 ·have hl:=h.1;simp only [h0,Nat.zero_mul] at hl;rw [List.eq_nil_of_length_eq_zero hl] at h1;simp at h1
 ·cases hv
  refine ⟨g',cur,rfl,hg, ?_, ?_⟩
  ·rw [<- ht,List.getElem?_take] at h1
   split at h1
   ·simpa using h1
   ·cases h1
  ·rw [<- ht,List.getElem?_take] at h2
   split at h2
   ·simpa using h2
   ·cases h2
theorem backward_pos (ao:Option Addr)(n c:Nat)(w:World):Calls Tryz.prog 185 #[.slice ao n c] w fun e w'=>e = .returned (.func (.func 201) #[] #[.pointer (some ⟨w.heap.size,0,none⟩)])/\w'=w.alloc (.cells #[.slice ao n c] 291):=by
 go_enter Tryz.func185,Tryz.ntmps185
 go_wp2
 go_ret
 exact ⟨rfl,rfl⟩
def encP (x:Nat × Pos):Array Value:=#[.int .i64 (x.1:Int),.agg #[.int .i64 x.2.line,.int .i64 x.2.col]]
structure ComesP (ps:List Pos)(pre:List (Nat × Pos))(x:Nat × Pos):Prop where
 at_:pre.length+x.1+1=ps.length
 val:ps[x.1]? = some x.2
theorem back1P (ps:List Pos)(n l N B:Nat)(M:Nat->TypeId->Prop)(ao:Option Addr)(cap:Nat)(W:World)(hn:ps.length=n)(hn2:n<=1000000)(hm:MarksAt W ao ps)(hM:∀ g cur,W.heap[g]? = some (.cells cur 41 (0,0))->¬ M g 41)(hc:W.heap[B]? = some (.cells #[.slice ao n cap] 291 (0,0)))(hB:¬ M B 291):
  IteratesP Tryz.prog 201 #[.pointer (some ⟨B,0,none⟩)] l encP (fun _ pre x _=>ComesP ps pre x) N M (fun xs=>xs.length=n) (fun _=>True) W:=by
 intro J Jx Jp hJ hJx hY h0;have HY:=Lib.hid hY;have H0:=Lib.hid h0;have HM:=Lib.hid hm;have HC:=Lib.hid hc;have HN:=Lib.hid hn;have HMM:=Lib.hid hM;have c0:W.cell? ⟨B,0,none⟩=some (.slice ao n cap):=(blk_cell hc 0).trans rfl;clear hJ hJx hY h0 hm hc hn hM;refine callsIn_of_wp Tryz.func201 rfl trivial ?_ rfl;simp only [Tryz.ntmps201,List.size_toArray,List.length_cons,List.length_nil,Nat.reduceAdd,Nat.reduceSub,Array.replicate_succ,Array.replicate_zero,List.push_toArray,List.append_toArray,List.nil_append,List.cons_append]
 gi_wp2
 gi_loopw [3] (fun i wr=>∃ (pre:List (Nat × Pos)) (k:Nat),pre.length+k=n/\i = .int .i64 ((k:Int)-1)/\J pre wr/\KeptW N M W wr) (fun i _=>(intOf i+1).toNat)
 case atStart=>exact ⟨[],n,by simp,rfl,H0.out,KeptW.refl _ _ _⟩
 case round =>
  obtain ⟨pre,k,hk,rfl,hj,hkp⟩:=hrel;have HJ:=Lib.hid hj;have HKP:=Lib.hid hkp;have HK:=Lib.hid hk;have hb:=hkp.same B _ _ _ hB HC.out;have d0:wr.cell? ⟨B,0,none⟩=some (.slice ao n cap):=(blk_cell hb 0).trans rfl
  cases k with
  | zero =>
   clear hj hkp hk hb
   gi_wp2
   go_end0
   exact .inl ⟨⟨_,rfl⟩,.inl ⟨pre,by have:=HK.out;omega,HJ.out⟩⟩
  | succ k =>
   have hkn:k<n:=by omega
   obtain ⟨p,hp⟩:∃ p,ps[k]? = some p:=⟨_,List.getElem?_eq_getElem (by rw [HN.out];exact hkn)⟩;obtain ⟨g,cur,rfl,hg,h1,h2⟩:=HM.out k p hp;have hg':=hkp.same g _ _ _ (HMM.out g cur hg) hg;have c1:wr.cell? ⟨g,k*2,none⟩=some (.int .i64 p.line):=(blk_cell hg' _).trans h1;have c2:wr.cell? ⟨g,k*2+1,none⟩=some (.int .i64 p.col):=(blk_cell hg' _).trans h2;obtain ⟨fn,tmps,assign,body,hy,hR⟩:=HY.out pre (k,p) wr wr hj (Below.refl _ _) ⟨by simp only;rw [HN.out];omega,hp⟩;have HR:=Lib.hid hR;have ek:((k+1:Nat):Int)-1=(k:Int):=by omega
   rw [ek];have hk':(k:Int)<(n:Int):=by omega
   have hk2:k<=1000000:=by omega
   simp only [encP] at hy;clear hj hkp hk hb hR ek hg hg' h1 h2 hp
   gi_wp2_with fail
   refine ⟨rfl,HR.out.mono ?_⟩;clear hy;rintro e W3 (⟨rfl,hj3,hk3,_⟩ | ⟨rfl,hx3,_⟩ | ⟨ch,rfl,hp3⟩)
   ·have HJ3:=Lib.hid hj3;have HK3:=Lib.hid hk3;clear hj3 hk3 c0 c1 c2 d0
    gi_wp2
    go_roundw
    case rel=>exact ⟨pre++[(k,p)],k,by have:=HK.out;simp;omega,by first | rfl | (congr 1),HJ3.out,HKP.out.trans HK3.out⟩
    case measure=>simp [intOf]
   ·have HX3:=Lib.hid hx3;clear hx3 c0 c1 c2 d0
    gi_wp2
    refine bodyPost_ret (results_none rfl _ _ _) rfl ?_;exact .inl ⟨⟨_,rfl⟩,.inr ⟨_,trivial,HX3.out⟩⟩
   ·exact ⟨rfl,.inr ⟨ch,rfl,hp3⟩⟩
end
end Go.Proofs.YtdfpkmfeldoamaaGreatDoor
