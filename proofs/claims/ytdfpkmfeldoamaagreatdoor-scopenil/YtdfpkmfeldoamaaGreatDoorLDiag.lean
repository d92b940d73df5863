/- A part of the proof: A part of the proof. -/
import Derived.Test.YtdfpkmfeldoamaaGreatDoorSpec
import Derived.Test.YtdfpkmfeldoamaaGreatDoorParts
import Derived.Deep.LoopGhost
import Derived.Test.YtdfpkmfeldoamaaGreatDoorTSep
import Derived.Test.YtdfpkmfeldoamaaGreatDoorAll
import Derived.Test.YtdfpkmfeldoamaaGreatDoorLToks
set_option linter.unusedSimpArgs false
set_option linter.unusedVariables false
set_option maxRecDepth 100000
set_option maxHeartbeats 4000000
namespace Go.Proofs.YtdfpkmfeldoamaaGreatDoor
section
open Go.RowKit Tn Lx
attribute [local go_sem] tok_field0 tok_field1 tok_field3
def StrsAt (w:World)(b:Nat)(ms:List B):Prop:=∀ i m,ms[i]? = some m->w.cell? ⟨b,i,none⟩=some (.string ⟨m.toArray⟩)
theorem StrsAt.below {w w':World}{b:Nat}{ms:List B}(h:StrsAt w b ms)(hb:Below w.heap.size w w'):StrsAt w' b ms:=fun i m hm=>(hb.cell (p:=⟨b,i,none⟩) (World.block_lt_of_cell? _ _ (h i m hm))).trans (h i m hm)
def IndexP (c:Cx)(w:World)(s:Ex.S)(ms:List B)(e:Ending)(w':World):Prop :=
 ((∃ k:Nat,e = .returned (.int .i64 (k:Int))/\(ms.any fun m=>Ex.is c.ts s m)=true)\/(e = .returned (.int .i64 (-1))/\(ms.any fun m=>Ex.is c.ts s m)=false))/\Below w.heap.size w w'
theorem indexF_any (c:Cx)(X:Nat->Prop)(w:World)(s:Ex.S)(ms:List B)(n:Nat)(b:Nat)(h:Rd c X w s)(hc:StrsAt w b ms)(hn:ms.length=n)(hl:n<=1000):
  Calls Tryz.prog 218 #[.slice (some ⟨b,0,none⟩) n n,.func (.func 86) #[.pointer (some ⟨c.r,0,none⟩)] #[]] w (IndexP c w s ms):=by
 have hI:=fun w1 m (hR:Rd c X w1 s)=>is_any c X w1 s m hR;have HI:=Lib.hid hI;have HR:=Lib.hid h;have HC:=Lib.hid hc;have HN:=Lib.hid hn;clear hI h hc hn
 go_enter Tryz.func218,Tryz.ntmps218
 go_wp2
 go_loopw [8] (fun i wr=>∃ k:Nat,k<=n/\i = .int .i64 (k:Int)/\(∀ j m,j<k->ms[j]? = some m->Ex.is c.ts s m=false)/\Below w.heap.size w wr) (fun i _=>n-(intOf i).toNat)
 case atStart=>exact ⟨0,Nat.zero_le _,rfl,fun j m hj=>by omega,Below.refl _ _⟩
 case round =>
  obtain ⟨k,hk,rfl,hno,hb⟩:=hrel
  by_cases hlt:k<n
  ·obtain ⟨m,hm⟩:∃ m,ms[k]? = some m:=⟨_,List.getElem?_eq_getElem (by rw [HN.out];exact hlt)⟩;have hcell:=(HC.out.below hb) k m hm;have hR:=HR.out.below hb;have hi:=HI.out _ m hR;have HM:=Lib.hid hm;have HNO:=Lib.hid hno;have HB:=Lib.hid hb;have hms:n-(intOf (Value.int IntKind.i64 ((k:Int)+1))).toNat<n-(intOf (Value.int IntKind.i64 (k:Int))).toNat:=by simp [intOf];omega
   have HMS:=Lib.hid hms;clear hm hno hb hR HC HR HI hms
   cases hv:Ex.is c.ts s m with
   | true =>
    rw [hv] at hi;have HV:=Lib.hid hv;have HI:=Lib.hid hi;clear hv hi
    go_wp2_with fail
    refine HI.out.mono ?_;rintro e w1 ⟨rfl,hb1⟩
    go_wp2
    go_ret
    exact ⟨.inl ⟨k,rfl,List.any_eq_true.2 ⟨m,List.mem_of_getElem? HM.out,HV.out⟩⟩,HB.out.trans (hb1.mono HB.out.size)⟩
   | false =>
    rw [hv] at hi;have HV:=Lib.hid hv;have HI:=Lib.hid hi;clear hv hi
    go_wp2_with fail
    refine HI.out.mono ?_;rintro e w1 ⟨rfl,hb1⟩
    go_wp2
    refine ⟨⟨k+1,by omega,by go_num,fun j m' hj hm'=>?_,HB.out.trans (hb1.mono HB.out.size)⟩,HMS.out⟩
    by_cases e:j=k
    ·subst e;rw [HM.out] at hm';cases hm';exact HV.out
    ·exact HNO.out j m' (by omega) hm'
  ·have HNO:=Lib.hid hno;have HB:=Lib.hid hb;clear hno hb
   go_wp2
   go_ret
   refine ⟨.inr ⟨rfl, ?_⟩,HB.out⟩;rw [List.any_eq_false];intro m hm;obtain ⟨j,hj,e⟩:=List.mem_iff_getElem.1 hm;have:=HNO.out j m (by rw [HN.out] at hj;omega) (by rw [List.getElem?_eq_getElem hj,e]);simp [this]
theorem contains_any (c:Cx)(X:Nat->Prop)(w:World)(s:Ex.S)(ms:List B)(n:Nat)(b:Nat)(h:Rd c X w s)(hc:StrsAt w b ms)(hn:ms.length=n)(hl:n<=1000):
  Calls Tryz.prog 213 #[.slice (some ⟨b,0,none⟩) n n,.func (.func 86) #[.pointer (some ⟨c.r,0,none⟩)] #[]] w fun e w'=>e = .returned (.bool (ms.any fun m=>Ex.is c.ts s m))/\Below w.heap.size w w':=by
 have HI:=Lib.hid (indexF_any c X w s ms n b h hc hn hl);clear h hc hn
 go_enter Tryz.func213,Tryz.ntmps213
 go_wp2_with fail
 refine HI.out.mono ?_;rintro e w1 ⟨(⟨k,rfl,hv⟩ | ⟨rfl,hv⟩),hb1⟩
 ·have HV:=Lib.hid hv;clear hv
  go_wp2
  go_ret
  exact ⟨ret_bool HV.out.symm,hb1⟩
 ·have HV:=Lib.hid hv;clear hv
  go_wp2
  go_ret
  exact ⟨ret_bool HV.out.symm,hb1⟩
end
section
open Go.RowKit Tn Lx
attribute [local go_sem] tok_field0 tok_field1 tok_field3
structure Does (c:Cx)(g:FuncId)(part:Ex.Part)(d:Nat):Prop where
 enters:∀ args w,(callFunc g args).run Tryz.prog w = .ok (.enter g args) w
 does:∀ (s:Ex.S) (X:Nat->Prop) (w:World),Rd c X w s->part s ≠ .out->Calls Tryz.prog g #[.pointer (some ⟨c.r,0,none⟩),.int .i64 (d:Int)] w (Post c X w (part s))
theorem between_any (c:Cx)(X:Nat->Prop)(w:World)(s:Ex.S)(g:FuncId)(part:Ex.Part)(l d:Nat)(hg:Does c g part d)(h:Rd c X w s)(hp:s.p<c.ts.length)(hne:Ex.between c.ts part l s ≠ .out):
  Calls Tryz.prog 214 #[.pointer (some ⟨c.r,0,none⟩),.int .i64 (l:Int),.int .i64 (d:Int),.func (.func g) #[] #[]] w (Post c X w (Ex.between c.ts part l s)):=by
 have hA:=skip_any c X w s h hp;obtain ⟨t,htk⟩:∃ t,Ex.tk c.ts s.p=t:=⟨_,rfl⟩;rw [htk] at hA;have hr1:=h.rlt;have hb1:=h.blt;have hsz:=h.size;have hen:=hg.enters;have HA:=Lib.hid hA;have HF:=Lib.hid hg.does;have HNE:=Lib.hid hne;have HTK:=Lib.hid htk;clear hA hg hne h htk
 go_enter Tryz.func214,Tryz.ntmps214
 go_wp2_with fail
 refine HA.out.mono ?_;rintro e w1 ⟨rfl,hR1,hK1⟩;obtain ⟨V,hV⟩:∃ V,w1.alloc (.cells #[.int .i64 t.kind,.string ⟨t.text.toArray⟩,.int .i64 t.int,.int .i64 t.at_.line,.int .i64 t.at_.col] 118)=V:=⟨_,rfl⟩;have hbV:Below w1.heap.size w1 V:=by rw [<- hV];exact (Below.refl _ w1).alloc (Nat.le_refl _) _
 have hQ:Five V w1.heap.size (.int .i64 t.kind) (.string ⟨t.text.toArray⟩) (.int .i64 t.int) (.int .i64 t.at_.line) (.int .i64 t.at_.col):=⟨by rw [<- hV];exact blk_new w1 _⟩;have hs1:=hK1.size;have HV:=Lib.hid hV;have HR1:=Lib.hid (hR1.below hbV);have HK1:=Lib.hid (hK1.then_below hbV);have HQ1:=Lib.hid hQ;clear hV hR1 hbV hK1 hQ HA;unfold tval
 go_upto_region 2 with fail
 rw [HV.out];have q0:=HQ1.out.c1;have q1:=HQ1.out.c3;have q2:=HQ1.out.c4
 go_region_held2 (fun w'=>w'.cell? ⟨w1.heap.size,1,none⟩=some (.string ⟨t.text.toArray⟩)/\w'.cell? ⟨w1.heap.size,3,none⟩=some (.int .i64 t.at_.line)/\w'.cell? ⟨w1.heap.size,4,none⟩=some (.int .i64 t.at_.col))
  (first | exact ⟨q0,q1,q2⟩ | exact ⟨hQ3.c1,hQ3.c3,hQ3.c4⟩ | exact ⟨(hQ3.below ((Below.refl _ _).alloc (Nat.le_refl _) _)).c1,(hQ3.below ((Below.refl _ _).alloc (Nat.le_refl _) _)).c3,(hQ3.below ((Below.refl _ _).alloc (Nat.le_refl _) _)).c4⟩ | exact ⟨hQ4.c1,hQ4.c3,hQ4.c4⟩)
  (first
   | (go_at_call 186;refine (add_any c X _ s2 t.text t.at_ [] [l,a2] (some ⟨w2.heap.size,0,none⟩) 2 _ (hR2.below ((Below.refl _ w2).alloc (Nat.le_refl _) _)) (ints_at2 w2 l a2 _) (fun e=>by cases e) (by simp)).mono ?_;rintro e w3 (⟨a3,s3,hE3,rfl,hR3,hK3⟩ | ⟨cd,p3,hE3,rfl,hK3⟩);rotate_left;exact ⟨rfl,.inr ⟨cd,p3,by simp only [Ex.between,Ex.at_,HTK.out,HE2.out,hE3,Ex.Res.bind],rfl,(HK1.out.trans hK2.undrew).trans (Below.then_kp ((Below.refl _ w2).alloc (Nat.le_refl _) _) hK3)⟩⟩;have hQ4:=(hQ3.below ((Below.refl _ w2).alloc (Nat.le_refl _) (.cells #[.int .i64 (l:Int),.int .i64 (a2:Int)] 3))).kp hK3 (by omega) (by omega);have HE3:=Lib.hid hE3;clear hE3)
   | (refine (HF.out s.skip X V.drew HR1.out.drew (fun e=>HNE.out (by simp only [Ex.between,Ex.at_,HTK.out,e,Ex.Res.bind]))).mono ?_;rintro e w2 (⟨a2,s2,hE2,rfl,hR2,hK2⟩ | ⟨cd,p2,hE2,rfl,hK2⟩);rotate_left;exact ⟨rfl,.inr ⟨cd,p2,by simp only [Ex.between,Ex.at_,HTK.out,hE2,Ex.Res.bind],rfl,HK1.out.trans hK2.undrew⟩⟩;have hQ3:=HQ1.out.kp hK2.undrew (by omega) (by omega);have HE2:=Lib.hid hE2;clear hE2))
 have HK3:=Lib.hid ((HK1.out.trans hK2.undrew).trans (Below.then_kp ((Below.refl _ w2).alloc (Nat.le_refl _) _) hK3));have HR3:=Lib.hid hR3;clear hQ3 hQ4 hR2 hR3 hK2 hK3 q0 q1 q2
 go_wp2
 go_ret
 exact .inl ⟨_,_,by simp only [Ex.between,Ex.at_,HTK.out,HE2.out,HE3.out,Ex.Res.bind],rfl,HR3.out,HK3.out⟩
structure StrBlk (w:World)(b:Nat)(ms:List B):Prop where
 blk:w.heap[b]? = some (.cells (ms.map fun m=>Value.string ⟨m.toArray⟩).toArray 9 (0,0))
theorem StrBlk.strs {w:World}{b:Nat}{ms:List B}(h:StrBlk w b ms):StrsAt w b ms:=fun i m hm=>(blk_cell h.blk i).trans (by simp [hm])
theorem StrBlk.below {w w':World}{b:Nat}{ms:List B}(h:StrBlk w b ms)(hb:Below w.heap.size w w'):StrBlk w' b ms:=⟨(hb.block b (lt_of_heap h.blk)).trans h.blk⟩
theorem StrBlk.kp {c:Cx}{w w':World}{b:Nat}{ms:List B}(h:StrBlk w b ms)(hk:Kp c w w')(hr:c.r<b)(hb:c.bt<b):StrBlk w' b ms:=⟨hk.heap h.blk (by omega) (by omega) (fun e=>absurd e (by decide))⟩
structure ChainSt (c:Cx)(X:Nat->Prop)(w:World)(b:Nat)(part:Ex.Part)(ms:List B)(R:Ex.Res Nat)(k l:Nat)(s:Ex.S)(wr:World):Prop where
 rd:Rd c X wr s
 kp:Kp c w wr
 strs:StrBlk wr b ms
 fin:Ex.chainLoop c.ts part ms k l s=R
theorem chain_any (c:Cx)(X:Nat->Prop)(w:World)(s:Ex.S)(g:FuncId)(part:Ex.Part)(d:Nat)(ms:List B)(n m b:Nat)(hg:Does c g part d)(h:Rd c X w s)(hs:StrBlk w b ms)(hB:c.B<=b)(hn:ms.length=n)(hl:n<=1000)(hne:Ex.chain c.ts m part ms s ≠ .out):
  Calls Tryz.prog 209 #[.pointer (some ⟨c.r,0,none⟩),.int .i64 (d:Int),.func (.func g) #[] #[],.slice (some ⟨b,0,none⟩) n n] w (Post c X w (Ex.chain c.ts m part ms s)):=by
 have hr1:=h.rlt;have hb1:=h.blt;have hen:=hg.enters;have HG:=Lib.hid hg;have HNE:=Lib.hid hne;have HR:=Lib.hid h;have HS:=Lib.hid hs;have HN:=Lib.hid hn;clear hg hne h hs hn
 go_enter Tryz.func209,Tryz.ntmps209
 go_wp2_with fail
 refine (HG.out.does s X _ HR.out (fun e=>HNE.out (by simp only [Ex.chain,e,Ex.Res.bind]))).mono ?_;rintro e w1 (⟨a1,s1,hE1,rfl,hR1,hK1⟩ | ⟨cd,p1,hE1,rfl,hK1⟩)
 rotate_left
 ·exact ⟨rfl,.inr ⟨cd,p1,by simp only [Ex.chain,hE1,Ex.Res.bind],rfl,hK1⟩⟩
 have HE1:=Lib.hid hE1;have HS1:=Lib.hid (HS.out.kp hK1 (by omega) (by omega));have HR1:=Lib.hid hR1;have HK1:=Lib.hid hK1;clear hE1 hR1 hK1 HR HS
 go_wp2_with fail
 go_loopg [9] m (fun k lv wr=>∃ (l:Nat) (s':Ex.S),lv = .int .i64 (l:Int)/\ChainSt c X w b part ms (Ex.chain c.ts m part ms s) k l s' wr)
 case atStart=>exact ⟨a1,s1,rfl,HR1.out,HK1.out,HS1.out,by simp only [Ex.chain,HE1.out,Ex.Res.bind]⟩
 case round =>
  obtain ⟨l,s',rfl,hst⟩:=hrel;obtain ⟨k,rfl⟩:∃ k,gk=k+1:=by
   cases gk with
   | zero=>exact absurd hst.fin.symm (by rw [Ex.chainLoop];exact HNE.out)
   | succ k=>exact ⟨k,rfl⟩
  have hfin:=hst.fin;rw [Ex.chainLoop] at hfin;have hco:=contains_any c X wr s' ms n b hst.rd hst.strs.strs HN.out hl;have HST:=Lib.hid hst;clear hst HE1 HS1 HR1 HK1
  cases hv:(ms.any fun m=>Ex.is c.ts s' m) with
  | true =>
   rw [hv] at hfin hco;rw [if_pos rfl] at hfin;have hp:s'.p<c.ts.length:=by
    obtain ⟨m',_,hm'⟩:=List.any_eq_true.1 hv;exact Ex.is_lt hm'
   have HFIN:=Lib.hid hfin;have HCO:=Lib.hid hco;clear hfin hco hv
   go_wp2_with fail
   refine HCO.out.mono ?_;rintro e w2 ⟨rfl,hb2⟩;have hbe:=between_any c X w2 s' g part l d HG.out (HST.out.rd.below hb2) hp (fun e=>HNE.out (by rw [<- HFIN.out,e];rfl));have HBE:=Lib.hid hbe;clear hbe
   go_wp2_with fail
   refine HBE.out.mono ?_;rintro e w3 (⟨a3,s3,hE3,rfl,hR3,hK3⟩ | ⟨cd,p3,hE3,rfl,hK3⟩)
   rotate_left
   ·exact ⟨rfl,.inr ⟨cd,p3,by rw [<- HFIN.out,hE3];rfl,rfl,(HST.out.kp.then_below hb2).trans hK3⟩⟩
   have hfin3:Ex.chainLoop c.ts part ms k a3 s3=Ex.chain c.ts m part ms s:=by rw [<- HFIN.out,hE3];rfl
   have HS3:=Lib.hid (ChainSt.mk hR3 ((HST.out.kp.then_below hb2).trans hK3) ((HST.out.strs.below hb2).kp hK3 (by omega) (by omega)) hfin3);clear hE3 hR3 hK3 hfin3 hb2
   go_wp2_with fail
   go_roundg k
   case measure=>omega
   case rel=>exact ⟨a3,s3,rfl,HS3.out⟩
  | false =>
   rw [hv] at hfin hco;rw [if_neg (by simp)] at hfin;have HFIN:=Lib.hid hfin;have HCO:=Lib.hid hco;clear hfin hco hv
   go_wp2_with fail
   refine HCO.out.mono ?_;rintro e w2 ⟨rfl,hb2⟩
   go_wp2
   go_ret
   exact .inl ⟨_,_,HFIN.out.symm,rfl,HST.out.rd.below hb2,HST.out.kp.then_below hb2⟩
end
section
open Go.RowKit Tn Lx
attribute [local go_sem] tok_field0 tok_field1 tok_field3
theorem strblk1 (w:World)(a:B):StrBlk (w.alloc (.cells #[.string ⟨a.toArray⟩] 9)) w.heap.size [a]:=⟨blk_new w _⟩
theorem strblk2 (w:World)(a b:B):StrBlk (w.alloc (.cells #[.string ⟨a.toArray⟩,.string ⟨b.toArray⟩] 9)) w.heap.size [a,b]:=⟨blk_new w _⟩
theorem does_and {c:Cx}{f:Ex.Rec}{d:Nat}(hf:Spec c f)(hd:d<=64):Does c 210 (f .and d) d:=⟨enters_of Tryz.func210 (by kernel_rfl) rfl,fun s X w hR hne=>hf.and d s X w hd hR hne⟩
theorem or_any (c:Cx)(X:Nat->Prop)(w:World)(s:Ex.S)(f:Ex.Rec)(d m:Nat)(hf:Spec c f)(hd:d<=64)(h:Rd c X w s)(hne:Ex.chain c.ts m (f .and d) [[111,114]] s ≠ .out):
  Calls Tryz.prog 199 #[.pointer (some ⟨c.r,0,none⟩),.int .i64 (d:Int)] w (Post c X w (Ex.chain c.ts m (f .and d) [[111,114]] s)):=by
 have hb:∀ o,Below w.heap.size w (w.alloc o):=fun o=>(Below.refl _ w).alloc (Nat.le_refl _) o;have hC:=chain_any c X (w.alloc (.cells #[.string ⟨#[111,114]⟩] 9)) s 210 (f .and d) d [[111,114]] 1 m w.heap.size (does_and hf hd) (h.below (hb _)) (strblk1 w [111,114]) h.size rfl (by omega) hne;have HC:=Lib.hid hC;have HB:=Lib.hid hb;clear hC hb hf h hne
 go_enter Tryz.func199,Tryz.ntmps199
 go_wp2_with fail
 refine HC.out.mono ?_;rintro e w1 (⟨a1,s1,hE1,rfl,hR1,hK1⟩ | ⟨cd,p1,hE1,rfl,hK1⟩)
 rotate_left
 ·exact ⟨rfl,.inr ⟨cd,p1,hE1,rfl,Below.then_kp (HB.out _) hK1⟩⟩
 have HE1:=Lib.hid hE1;have HR1:=Lib.hid hR1;have HK1:=Lib.hid (Below.then_kp (HB.out _) hK1);clear hE1 hR1 hK1
 go_wp2
 go_ret
 exact .inl ⟨_,_,HE1.out,rfl,HR1.out,HK1.out⟩
theorem does_test {c:Cx}{f:Ex.Rec}{d:Nat}(hf:Spec c f)(hd:d<=64):Does c 215 (f .test d) d:=⟨enters_of Tryz.func215 (by kernel_rfl) rfl,fun s X w hR hne=>hf.test d s X w hd hR hne⟩
theorem and_any (c:Cx)(X:Nat->Prop)(w:World)(s:Ex.S)(f:Ex.Rec)(d m:Nat)(hf:Spec c f)(hd:d<=64)(h:Rd c X w s)(hne:Ex.chain c.ts m (f .test d) [[97,110,100]] s ≠ .out):
  Calls Tryz.prog 210 #[.pointer (some ⟨c.r,0,none⟩),.int .i64 (d:Int)] w (Post c X w (Ex.chain c.ts m (f .test d) [[97,110,100]] s)):=by
 have hb:∀ o,Below w.heap.size w (w.alloc o):=fun o=>(Below.refl _ w).alloc (Nat.le_refl _) o;have hC:=chain_any c X (w.alloc (.cells #[.string ⟨#[97,110,100]⟩] 9)) s 215 (f .test d) d [[97,110,100]] 1 m w.heap.size (does_test hf hd) (h.below (hb _)) (strblk1 w [97,110,100]) h.size rfl (by omega) hne;have HC:=Lib.hid hC;have HB:=Lib.hid hb;clear hC hb hf h hne
 go_enter Tryz.func210,Tryz.ntmps210
 go_wp2_with fail
 refine HC.out.mono ?_;rintro e w1 (⟨a1,s1,hE1,rfl,hR1,hK1⟩ | ⟨cd,p1,hE1,rfl,hK1⟩)
 rotate_left
 ·exact ⟨rfl,.inr ⟨cd,p1,hE1,rfl,Below.then_kp (HB.out _) hK1⟩⟩
 have HE1:=Lib.hid hE1;have HR1:=Lib.hid hR1;have HK1:=Lib.hid (Below.then_kp (HB.out _) hK1);clear hE1 hR1 hK1
 go_wp2
 go_ret
 exact .inl ⟨_,_,HE1.out,rfl,HR1.out,HK1.out⟩
theorem does_times {c:Cx}{f:Ex.Rec}{d:Nat}(hf:Spec c f)(hd:d<=64):Does c 224 (f .times d) d:=⟨enters_of Tryz.func224 (by kernel_rfl) rfl,fun s X w hR hne=>hf.times d s X w hd hR hne⟩
theorem sum_any (c:Cx)(X:Nat->Prop)(w:World)(s:Ex.S)(f:Ex.Rec)(d m:Nat)(hf:Spec c f)(hd:d<=64)(h:Rd c X w s)(hne:Ex.chain c.ts m (f .times d) [[43],[45]] s ≠ .out):
  Calls Tryz.prog 219 #[.pointer (some ⟨c.r,0,none⟩),.int .i64 (d:Int)] w (Post c X w (Ex.chain c.ts m (f .times d) [[43],[45]] s)):=by
 have hb:∀ o,Below w.heap.size w (w.alloc o):=fun o=>(Below.refl _ w).alloc (Nat.le_refl _) o;have hC:=chain_any c X (w.alloc (.cells #[.string ⟨#[43]⟩,.string ⟨#[45]⟩] 9)) s 224 (f .times d) d [[43],[45]] 2 m w.heap.size (does_times hf hd) (h.below (hb _)) (strblk2 w [43] [45]) h.size rfl (by omega) hne;have HC:=Lib.hid hC;have HB:=Lib.hid hb;clear hC hb hf h hne
 go_enter Tryz.func219,Tryz.ntmps219
 go_wp2_with fail
 refine HC.out.mono ?_;rintro e w1 (⟨a1,s1,hE1,rfl,hR1,hK1⟩ | ⟨cd,p1,hE1,rfl,hK1⟩)
 rotate_left
 ·exact ⟨rfl,.inr ⟨cd,p1,hE1,rfl,Below.then_kp (HB.out _) hK1⟩⟩
 have HE1:=Lib.hid hE1;have HR1:=Lib.hid hR1;have HK1:=Lib.hid (Below.then_kp (HB.out _) hK1);clear hE1 hR1 hK1
 go_wp2
 go_ret
 exact .inl ⟨_,_,HE1.out,rfl,HR1.out,HK1.out⟩
theorem does_unary {c:Cx}{f:Ex.Rec}{d:Nat}(hf:Spec c f)(hd:d<=64):Does c 230 (f .unary d) d:=⟨enters_of Tryz.func230 (by kernel_rfl) rfl,fun s X w hR hne=>hf.unary d s X w hd hR hne⟩
theorem times_any (c:Cx)(X:Nat->Prop)(w:World)(s:Ex.S)(f:Ex.Rec)(d m:Nat)(hf:Spec c f)(hd:d<=64)(h:Rd c X w s)(hne:Ex.chain c.ts m (f .unary d) [[42]] s ≠ .out):
  Calls Tryz.prog 224 #[.pointer (some ⟨c.r,0,none⟩),.int .i64 (d:Int)] w (Post c X w (Ex.chain c.ts m (f .unary d) [[42]] s)):=by
 have hb:∀ o,Below w.heap.size w (w.alloc o):=fun o=>(Below.refl _ w).alloc (Nat.le_refl _) o;have hC:=chain_any c X (w.alloc (.cells #[.string ⟨#[42]⟩] 9)) s 230 (f .unary d) d [[42]] 1 m w.heap.size (does_unary hf hd) (h.below (hb _)) (strblk1 w [42]) h.size rfl (by omega) hne;have HC:=Lib.hid hC;have HB:=Lib.hid hb;clear hC hb hf h hne
 go_enter Tryz.func224,Tryz.ntmps224
 go_wp2_with fail
 refine HC.out.mono ?_;rintro e w1 (⟨a1,s1,hE1,rfl,hR1,hK1⟩ | ⟨cd,p1,hE1,rfl,hK1⟩)
 rotate_left
 ·exact ⟨rfl,.inr ⟨cd,p1,hE1,rfl,Below.then_kp (HB.out _) hK1⟩⟩
 have HE1:=Lib.hid hE1;have HR1:=Lib.hid hR1;have HK1:=Lib.hid (Below.then_kp (HB.out _) hK1);clear hE1 hR1 hK1
 go_wp2
 go_ret
 exact .inl ⟨_,_,HE1.out,rfl,HR1.out,HK1.out⟩
theorem does_sum {c:Cx}{f:Ex.Rec}{d:Nat}(hf:Spec c f)(hd:d<=64):Does c 219 (f .sum d) d:=⟨enters_of Tryz.func219 (by kernel_rfl) rfl,fun s X w hR hne=>hf.sum d s X w hd hR hne⟩
theorem test_any (c:Cx)(X:Nat->Prop)(w:World)(s:Ex.S)(f:Ex.Rec)(d:Nat)(hf:Spec c f)(hd:d<=64)(h:Rd c X w s)(hne:Ex.testF c.ts f d s ≠ .out):
  Calls Tryz.prog 215 #[.pointer (some ⟨c.r,0,none⟩),.int .i64 (d:Int)] w (Post c X w (Ex.testF c.ts f d s)):=by
 have HF:=Lib.hid hf;have HR:=Lib.hid h;have HNE:=Lib.hid hne;clear hf h hne
 go_enter Tryz.func215,Tryz.ntmps215
 go_wp2_with fail
 refine (HF.out.sum d s X _ hd HR.out (fun e=>HNE.out (by simp only [Ex.testF,e,Ex.Res.bind]))).mono ?_;rintro e w1 (⟨a1,s1,hE1,rfl,hR1,hK1⟩ | ⟨cd,p1,hE1,rfl,hK1⟩)
 rotate_left
 ·exact ⟨rfl,.inr ⟨cd,p1,by simp only [Ex.testF,hE1,Ex.Res.bind],rfl,hK1⟩⟩
 have hT:Ex.testF c.ts f d s=if (Ex.is c.ts s1 [61] || Ex.is c.ts s1 [60])=true then Ex.between c.ts (f .sum d) a1 s1 else .ok a1 s1:=by simp only [Ex.testF,hE1,Ex.Res.bind]
 have hi1:=fun w2 (hR:Rd c X w2 s1)=>is_any c X w2 s1 [61] hR;have hi2:=fun w2 (hR:Rd c X w2 s1)=>is_any c X w2 s1 [60] hR;have hl1:Ex.is c.ts s1 [61]=true->s1.p<c.ts.length:=Ex.is_lt;have hl2:Ex.is c.ts s1 [60]=true->s1.p<c.ts.length:=Ex.is_lt;generalize Ex.is c.ts s1 [61]=v1 at *;generalize Ex.is c.ts s1 [60]=v2 at *;have HT:=Lib.hid hT;have HR1:=Lib.hid hR1;have HK1:=Lib.hid hK1;have HI1:=Lib.hid hi1;have HI2:=Lib.hid hi2;have HL1:=Lib.hid hl1;have HL2:=Lib.hid hl2;clear hT hE1 hR1 hK1 hi1 hi2 hl1 hl2 HR;have go:∀ w3,Rd c X w3 s1->s1.p<c.ts.length->Ex.testF c.ts f d s=Ex.between c.ts (f .sum d) a1 s1->Calls Tryz.prog 214 #[.pointer (some ⟨c.r,0,none⟩),.int .i64 (a1:Int),.int .i64 (d:Int),.func (.func 219) #[] #[]] w3 (Post c X w3 (Ex.testF c.ts f d s)):=fun w3 hR3 hp e=>by
  rw [e];exact between_any c X w3 s1 219 (f .sum d) a1 d (does_sum HF.out hd) hR3 hp (by rw [<- e];exact HNE.out)
 have GO:=Lib.hid go;clear go
 cases v1 with
 | true =>
  go_wp2_with fail
  refine (HI1.out _ HR1.out).mono ?_;rintro e w2 ⟨rfl,hb2⟩;have HB2:=Lib.hid hb2;clear hb2
  go_wp2_with fail
  refine (GO.out _ (HR1.out.below HB2.out) (HL1.out (by simp)) (by rw [HT.out];rfl)).mono ?_;rintro e w3 (⟨a3,s3,hE3,rfl,hR3,hK3⟩ | ⟨cd,p3,hE3,rfl,hK3⟩)
  rotate_left
  ·exact ⟨rfl,.inr ⟨cd,p3,hE3,rfl,(HK1.out.then_below HB2.out).trans hK3⟩⟩
  have HE3:=Lib.hid hE3;have HR3:=Lib.hid hR3;have HK3:=Lib.hid ((HK1.out.then_below HB2.out).trans hK3);clear hE3 hR3 hK3
  go_wp2
  go_ret
  exact .inl ⟨_,_,HE3.out,rfl,HR3.out,HK3.out⟩
 | false =>
  go_wp2_with fail
  refine (HI1.out _ HR1.out).mono ?_;rintro e w2 ⟨rfl,hb2⟩;have HB2:=Lib.hid hb2;clear hb2
  go_wp2_with fail
  refine (HI2.out _ (HR1.out.below HB2.out)).mono ?_;rintro e w2' ⟨rfl,hb3⟩;have HB3:=Lib.hid (HB2.out.trans (hb3.mono HB2.out.size));clear hb3 HB2
  cases v2 with
  | true =>
   go_wp2_with fail
   refine (GO.out _ (HR1.out.below HB3.out) (HL2.out (by simp)) (by rw [HT.out];rfl)).mono ?_;rintro e w3 (⟨a3,s3,hE3,rfl,hR3,hK3⟩ | ⟨cd,p3,hE3,rfl,hK3⟩)
   rotate_left
   ·exact ⟨rfl,.inr ⟨cd,p3,hE3,rfl,(HK1.out.then_below HB3.out).trans hK3⟩⟩
   have HE3:=Lib.hid hE3;have HR3:=Lib.hid hR3;have HK3:=Lib.hid ((HK1.out.then_below HB3.out).trans hK3);clear hE3 hR3 hK3
   go_wp2
   go_ret
   exact .inl ⟨_,_,HE3.out,rfl,HR3.out,HK3.out⟩
  | false =>
   go_wp2
   go_ret
   exact .inl ⟨_,_,by rw [HT.out];rfl,rfl,HR1.out.below HB3.out,HK1.out.then_below HB3.out⟩
end
section
open Go.RowKit Tn Lx
theorem spec_rec (c:Cx):∀ n,n<=900000->Spec c (Ex.rec_ c.ts n)
 | 0,_=>⟨fun _ _ _ _ _ _ h=>absurd rfl h,fun _ _ _ _ _ _ h=>absurd rfl h,fun _ _ _ _ _ _ h=>absurd rfl h,fun _ _ _ _ _ _ h=>absurd rfl h,fun _ _ _ _ _ _ h=>absurd rfl h,fun _ _ _ _ _ _ h=>absurd rfl h,fun _ _ _ _ _ _ h=>absurd rfl h,fun _ _ _ _ _ _ h=>absurd rfl h⟩
 | n+1,hn =>
  have ih:=spec_rec c n (by omega);have hm:n<=900000:=by omega
  ⟨fun d s X w hd h hne=>all_any c X w s (Ex.rec_ c.ts n) d n ih hd hm h hne,
   fun d s X w hd h hne=>item_any c X w s (Ex.rec_ c.ts n) d ih hd h hne,
   fun d s X w hd h hne=>or_any c X w s (Ex.rec_ c.ts n) d n ih hd h hne,
   fun d s X w hd h hne=>and_any c X w s (Ex.rec_ c.ts n) d n ih hd h hne,
   fun d s X w hd h hne=>test_any c X w s (Ex.rec_ c.ts n) d ih hd h hne,
   fun d s X w hd h hne=>sum_any c X w s (Ex.rec_ c.ts n) d n ih hd h hne,
   fun d s X w hd h hne=>times_any c X w s (Ex.rec_ c.ts n) d n ih hd h hne,
   fun d s X w hd h hne=>unary_any c X w s (Ex.rec_ c.ts n) d n ih hd hm h hne⟩
end
section
open Go.RowKit
structure DiagAt (A:Nat)(w:World):Prop where
 d0:w.cell? ⟨A,0,none⟩=some (.int .i64 0)
 d1:w.cell? ⟨A,1,none⟩=some (.int .i64 0)
 d2:w.cell? ⟨A,2,none⟩=some (.int .i64 0)
 d3:w.cell? ⟨A,3,none⟩=some (.string ⟨#[]⟩)
 df:∀ i,w.frozen? ⟨A,i,none⟩=false
theorem DiagAt.below {A:Nat}{w w':World}(h:DiagAt A w)(hb:Below w.heap.size w w'):DiagAt A w':=by
 have hl:A<w.heap.size:=World.block_lt_of_cell? _ _ h.d0;exact ⟨(hb.cell (p:=⟨A,0,none⟩) hl).trans h.d0,(hb.cell (p:=⟨A,1,none⟩) hl).trans h.d1,(hb.cell (p:=⟨A,2,none⟩) hl).trans h.d2,(hb.cell (p:=⟨A,3,none⟩) hl).trans h.d3,fun i=>(hb.frozen (p:=⟨A,i,none⟩) hl).trans (h.df i)⟩
theorem set_four (w:World)(B:Nat)(a b c d x y z u:Value)(h0:w.cell? ⟨B,0,none⟩=some x)(h1:w.cell? ⟨B,1,none⟩=some y)(h2:w.cell? ⟨B,2,none⟩=some z)(h3:w.cell? ⟨B,3,none⟩=some u):
  ((((w.setCell ⟨B,0,none⟩ a).setCell ⟨B,1,none⟩ b).setCell ⟨B,2,none⟩ c).setCell ⟨B,3,none⟩ d).cell? ⟨B,0,none⟩=some a/\((((w.setCell ⟨B,0,none⟩ a).setCell ⟨B,1,none⟩ b).setCell ⟨B,2,none⟩ c).setCell ⟨B,3,none⟩ d).cell? ⟨B,1,none⟩=some b /\
  ((((w.setCell ⟨B,0,none⟩ a).setCell ⟨B,1,none⟩ b).setCell ⟨B,2,none⟩ c).setCell ⟨B,3,none⟩ d).cell? ⟨B,2,none⟩=some c/\((((w.setCell ⟨B,0,none⟩ a).setCell ⟨B,1,none⟩ b).setCell ⟨B,2,none⟩ c).setCell ⟨B,3,none⟩ d).cell? ⟨B,3,none⟩=some d:=by
 refine ⟨?_, ?_, ?_, ?_⟩
 ·rw [World.cell?_setCell_other _ _ _ _ (by simp),World.cell?_setCell_other _ _ _ _ (by simp),World.cell?_setCell_other _ _ _ _ (by simp)];exact World.cell?_setCell_same _ _ _ h0
 ·rw [World.cell?_setCell_other _ _ _ _ (by simp),World.cell?_setCell_other _ _ _ _ (by simp)];exact World.cell?_setCell_same _ _ _ (by rw [World.cell?_setCell_other _ _ _ _ (by simp)];exact h1)
 ·rw [World.cell?_setCell_other _ _ _ _ (by simp)];exact World.cell?_setCell_same _ _ _ (by rw [World.cell?_setCell_other _ _ _ _ (by simp),World.cell?_setCell_other _ _ _ _ (by simp)];exact h2)
 ·exact World.cell?_setCell_same _ _ _ (by rw [World.cell?_setCell_other _ _ _ _ (by simp),World.cell?_setCell_other _ _ _ _ (by simp),World.cell?_setCell_other _ _ _ _ (by simp)];exact h3)
end
end Go.Proofs.YtdfpkmfeldoamaaGreatDoor
