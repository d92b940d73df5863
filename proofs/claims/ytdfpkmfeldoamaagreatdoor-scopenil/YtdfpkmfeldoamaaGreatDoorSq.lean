/- A part of the proof: The law: no program, no policy, no scope. -/
import Derived.Test.YtdfpkmfeldoamaaGreatDoorSs
import Derived.Test.YtdfpkmfeldoamaaGreatDoorSe
set_option linter.unusedSimpArgs false
set_option linter.unusedVariables false
set_option maxRecDepth 100000
set_option maxHeartbeats 16000000
namespace Go.Proofs.YtdfpkmfeldoamaaGreatDoor
open Go.RowKit Tn Lx
theorem al5 {w w':World}{o:Obj}(h:Below (w.alloc o).heap.size (w.alloc o) w'):Below w.heap.size w w':=((Below.refl _ w).alloc (Nat.le_refl _) o).trans (h.mono (by simp))
def SomeP (w:World)(e:Ending)(w':World):Prop:=∃ (a:Option Addr) (v:Value),e = .returned (.tuple #[.pointer a,v])/\Below w.heap.size w w'
theorem pparse_some (s:ByteArray)(w:World)(hs:s.size<=1000000000000)(hT:Lib.Utf8Tabs 2 3 w)(hg:ErrT w):Calls Tryz.prog 6 #[.string s] w (SomeP w) :=
 (pparse5_any s w hs hT hg).mono fun e w' h=>by
  obtain ⟨hb,⟨g,s,c,q,pp,U,fs,_,_,rfl,_⟩ | ⟨cd,p,n,_,rfl⟩⟩:=h
  ·exact ⟨_,_,rfl,hb⟩
  ·exact ⟨_,_,rfl,hb⟩
theorem yparse_some (s:ByteArray)(w:World)(hs:s.size<=1000000000000)(hT:Lib.Utf8Tabs 2 3 w)(hg:ErrT w):Calls Tryz.prog 7 #[.string s] w (SomeP w) :=
 (yparse5_any s w hs hT hg).mono fun e w' h=>by
  obtain ⟨hb,⟨g,s,c,q,pp,U,fs,_,_,rfl,_⟩ | ⟨cd,p,n,_,rfl⟩⟩:=h
  ·exact ⟨_,_,rfl,hb⟩
  ·exact ⟨_,_,rfl,hb⟩
structure NilS (W:World)(A B x y u v z:Nat):Prop where
 a:W.heap[A]? = some (.cells #[.slice (some ⟨x,0,none⟩) 1 1,.slice (some ⟨y,0,none⟩) 1 1] 36 (0,0))
 b:W.heap[B]? = some (.cells #[.slice (some ⟨u,0,none⟩) 1 1,.slice (some ⟨v,0,none⟩) 1 1] 36 (0,0))
 dx:Diag1 W x 1
 dy:Diag1 W y 1
 du:Diag1 W u 1
 dv:Diag1 W v 1
 dz:Diag1 W z 1
theorem blk_below {w w':World}{k:Nat}{o:Obj}(h:w.heap[k]? = some o)(hb:Below w.heap.size w w'):w'.heap[k]? = some o:=(hb.block _ (lt_of_heap h)).trans h
section
variable {W W':World} {A B x y u v z:Nat}
theorem NilS.below (h:NilS W A B x y u v z)(hb:Below W.heap.size W W'):NilS W' A B x y u v z:=⟨blk_below h.a hb,blk_below h.b hb,blk_below h.dx hb,blk_below h.dy hb,blk_below h.du hb,blk_below h.dv hb,blk_below h.dz hb⟩
theorem NilS.a0 (h:NilS W A B x y u v z):W.cell? ⟨A,0,none⟩=some (.slice (some ⟨x,0,none⟩) 1 1):=(blk_cell h.a 0).trans rfl
theorem NilS.a1 (h:NilS W A B x y u v z):W.cell? ⟨A,1,none⟩=some (.slice (some ⟨y,0,none⟩) 1 1):=(blk_cell h.a 1).trans rfl
theorem NilS.b0 (h:NilS W A B x y u v z):W.cell? ⟨B,0,none⟩=some (.slice (some ⟨u,0,none⟩) 1 1):=(blk_cell h.b 0).trans rfl
theorem NilS.b1 (h:NilS W A B x y u v z):W.cell? ⟨B,1,none⟩=some (.slice (some ⟨v,0,none⟩) 1 1):=(blk_cell h.b 1).trans rfl
end
def Three (X V:World):Prop :=
 V.cell? ⟨X.heap.size,0,none⟩=some (.string ⟨#[]⟩)/\V.cell? ⟨X.heap.size,1,none⟩=some (.int .i64 0)/\V.cell? ⟨X.heap.size,2,none⟩=some (.int .i64 0)/\V.cell? ⟨X.heap.size,3,none⟩=some (.int .i64 0)/\V.cell? ⟨X.heap.size,4,none⟩=some (.string ⟨#[]⟩)/\V.cell? ⟨X.heap.size,5,none⟩=some (.int .i64 0)/\V.cell? ⟨X.heap.size,6,none⟩=some (.int .i64 0)/\V.cell? ⟨X.heap.size,7,none⟩=some (.slice none 0 0)/\V.cell? ⟨X.heap.size+1,0,none⟩=some (.int .i64 0)/\V.cell? ⟨X.heap.size+1,1,none⟩=some (.int .i64 0)/\V.cell? ⟨X.heap.size+1+1,0,none⟩=some (.int .i64 0)/\V.cell? ⟨X.heap.size+1+1,1,none⟩=some (.int .i64 0)/\(∀ i,V.frozen? ⟨X.heap.size,i,none⟩=false)/\(∀ i,V.frozen? ⟨X.heap.size+1,i,none⟩=false)/\(∀ i,V.frozen? ⟨X.heap.size+1+1,i,none⟩=false)/\Below X.heap.size X V
theorem three5 (X:World):Three X (((X.alloc (.cells #[.string ⟨#[]⟩,.int .i64 0,.int .i64 0,.int .i64 0,.string ⟨#[]⟩,.int .i64 0,.int .i64 0,.slice none 0 0] 56)).alloc (.cells #[.int .i64 0,.int .i64 0] 45)).alloc (.cells #[.int .i64 0,.int .i64 0] 45)):=by
 obtain ⟨V,hV⟩:∃ V,((X.alloc (.cells #[.string ⟨#[]⟩,.int .i64 0,.int .i64 0,.int .i64 0,.string ⟨#[]⟩,.int .i64 0,.int .i64 0,.slice none 0 0] 56)).alloc (.cells #[.int .i64 0,.int .i64 0] 45)).alloc (.cells #[.int .i64 0,.int .i64 0] 45)=V:=⟨_,rfl⟩;have hbV:Below X.heap.size X V:=by rw [<- hV];exact (((Below.refl _ X).alloc (Nat.le_refl _) _).alloc (by simp) _).alloc (by simp;omega) _
 have k0:V.heap[X.heap.size]? = some (.cells #[.string ⟨#[]⟩,.int .i64 0,.int .i64 0,.int .i64 0,.string ⟨#[]⟩,.int .i64 0,.int .i64 0,.slice none 0 0] 56 (0,0)):=by rw [<- hV];exact blk_alloc (blk_alloc (blk_new X _) _) _
 have k1:V.heap[X.heap.size+1]? = some (.cells #[.int .i64 0,.int .i64 0] 45 (0,0)):=by
  rw [<- hV];refine blk_alloc ?_ _;have:=blk_new (X.alloc (.cells #[.string ⟨#[]⟩,.int .i64 0,.int .i64 0,.int .i64 0,.string ⟨#[]⟩,.int .i64 0,.int .i64 0,.slice none 0 0] 56)) (.cells #[.int .i64 0,.int .i64 0] 45);rwa [World.size_alloc] at this
 have k2:V.heap[X.heap.size+1+1]? = some (.cells #[.int .i64 0,.int .i64 0] 45 (0,0)):=by
  rw [<- hV];have:=blk_new ((X.alloc (.cells #[.string ⟨#[]⟩,.int .i64 0,.int .i64 0,.int .i64 0,.string ⟨#[]⟩,.int .i64 0,.int .i64 0,.slice none 0 0] 56)).alloc (.cells #[.int .i64 0,.int .i64 0] 45)) (.cells #[.int .i64 0,.int .i64 0] 45);rwa [World.size_alloc,World.size_alloc] at this
 rw [hV];exact ⟨(blk_cell k0 0).trans rfl,(blk_cell k0 1).trans rfl,(blk_cell k0 2).trans rfl,(blk_cell k0 3).trans rfl,(blk_cell k0 4).trans rfl,(blk_cell k0 5).trans rfl,(blk_cell k0 6).trans rfl,(blk_cell k0 7).trans rfl,(blk_cell k1 0).trans rfl,(blk_cell k1 1).trans rfl,(blk_cell k2 0).trans rfl,(blk_cell k2 1).trans rfl,fun i=>blk_frozen k0 i,fun i=>blk_frozen k1 i,fun i=>blk_frozen k2 i,hbV⟩
theorem scopenil_any (w:World)(a b s:ByteArray)(hT:Lib.Utf8Tabs 2 3 w)(hg:ErrT w)(hm:MaxL w):Calls Tryz.prog 3 #[.agg #[.string a,.string b],.string s] w fun e w'=>e = .returned (.bool true)/\Below w.heap.size w w':=by
 obtain ⟨W,hW⟩:∃ W,w.alloc (.cells #[.string a,.string b] 23)=W:=⟨_,rfl⟩;have hbW:Below w.heap.size w W:=by rw [<- hW];exact (Below.refl _ w).alloc (Nat.le_refl _) _
 have kW:W.heap[w.heap.size]? = some (.cells #[.string a,.string b] 23 (0,0)):=by rw [<- hW];exact blk_new w _
 have HL:=Lib.hid (fun X (hb:Below w.heap.size w X)=>lives9_any X (Utf8Tabs_below hT hb) (hg.below hb hg.lt));have HS:=Lib.hid (fun X (hb:Below w.heap.size w X)=>small9_any X a b (hm.below hb));have HPP:=Lib.hid (fun X (hb:Below w.heap.size w X) (h:b.size<=4000)=>pparse_some b X (by omega) (Utf8Tabs_below hT hb) (hg.below hb hg.lt));have HYP:=Lib.hid (fun X (hb:Below w.heap.size w X) (h:a.size<=4000)=>yparse_some a X (by omega) (Utf8Tabs_below hT hb) (hg.below hb hg.lt));have HW:=Lib.hid hW;have KW:=Lib.hid kW;have HL1:=Lib.hid (HL.out W hbW);have HBW:=Lib.hid hbW;clear hT hg hm hW hbW kW
 go_enter Tryz.func3,Tryz.ntmps3
 go_upto_region 1 with fail
 rw [HW.out]
 go_wp2_with fail
 refine HL1.out.mono ?_;rintro e w1 ⟨rfl,hb1⟩;have hbw1:=HBW.out.trans (hb1.mono HBW.out.size);have k1:=blk_below KW.out hb1;have u0:w1.cell? ⟨w.heap.size,0,none⟩=some (.string a):=(blk_cell k1 0).trans rfl;have u1:w1.cell? ⟨w.heap.size,1,none⟩=some (.string b):=(blk_cell k1 1).trans rfl;have HS1:=Lib.hid (HS.out w1 hbw1);have HB1:=Lib.hid hbw1;have K1:=Lib.hid k1;clear hb1 hbw1 k1 HL1 HS HBW KW
 go_wp2_with fail
 refine HS1.out.mono ?_;rintro e w2 ⟨⟨bb,rfl,hx⟩,hb2⟩;have HB2:=Lib.hid (HB1.out.trans (hb2.mono HB1.out.size));have K2:=Lib.hid (blk_below K1.out hb2);clear hb2 HB1 K1 HS1 u0 u1
 cases bb with
 | false =>
  have HL2:=Lib.hid (HL.out w2 HB2.out);clear HL HPP HYP hx K2
  go_wp2_with fail
  refine HL2.out.mono ?_;rintro e w3 ⟨rfl,hb3⟩;have HB3:=Lib.hid (HB2.out.trans (hb3.mono HB2.out.size));clear hb3 HL2 HB2
  go_wp2_with fail
  go_ret
  exact ⟨rfl,HB3.out⟩
 | true =>
  obtain ⟨z1,z2⟩:=hx rfl;have v1:w2.cell? ⟨w.heap.size,1,none⟩=some (.string b):=(blk_cell K2.out 1).trans rfl;have HP:=Lib.hid (HPP.out w2 HB2.out z2);clear HL HPP hx z2
  go_wp2_with fail
  refine HP.out.mono ?_;rintro e w3 ⟨pa,pv,rfl,hb3⟩;have hbw3:=HB2.out.trans (hb3.mono HB2.out.size);have u0:w3.cell? ⟨w.heap.size,0,none⟩=some (.string a):=(blk_cell (blk_below K2.out hb3) 0).trans rfl;have HY:=Lib.hid (HYP.out w3 hbw3 z1);have HB3:=Lib.hid hbw3;clear hb3 hbw3 v1 HYP z1 HP HB2 K2
  go_wp2_with fail
  refine HY.out.mono ?_;rintro e w4 ⟨qa,qv,rfl,hb4⟩;have HB4:=Lib.hid (HB3.out.trans (hb4.mono HB3.out.size));clear hb4 HY HB3 u0
  go_wp2_with fail
  refine (scOf_nil w4 none qa (.inl rfl)).mono ?_;rintro e w5 ⟨x,y,rfl,hb5,dx,dy⟩;obtain ⟨W5,hW5⟩:∃ X,w5.alloc (.cells #[.slice (some ⟨x,0,none⟩) 1 1,.slice (some ⟨y,0,none⟩) 1 1] 36)=X:=⟨_,rfl⟩;have hc5:Below w5.heap.size w5 W5:=by rw [<- hW5];exact (Below.refl _ w5).alloc (Nat.le_refl _) _
  have ka5:W5.heap[w5.heap.size]? = some (.cells #[.slice (some ⟨x,0,none⟩) 1 1,.slice (some ⟨y,0,none⟩) 1 1] 36 (0,0)):=by rw [<- hW5];exact blk_new w5 _
  have HB5:=Lib.hid (HB4.out.trans ((hb5.trans (hc5.mono hb5.size)).mono HB4.out.size));have HW5:=Lib.hid hW5;have KA:=Lib.hid ka5;have DX:=Lib.hid (show Diag1 W5 x 1 from blk_below dx hc5);have DY:=Lib.hid (show Diag1 W5 y 1 from blk_below dy hc5);clear hb5 dx dy hc5 ka5 hW5 HB4
  go_upto_region 6 with fail
  rw [HW5.out]
  go_wp2_with fail
  refine (scOf_nil W5 pa none (.inr rfl)).mono ?_;rintro e w6 ⟨u,v,rfl,hb6,du,dv⟩;obtain ⟨W6,hW6⟩:∃ X,w6.alloc (.cells #[.slice (some ⟨u,0,none⟩) 1 1,.slice (some ⟨v,0,none⟩) 1 1] 36)=X:=⟨_,rfl⟩;have hc6:Below w6.heap.size w6 W6:=by rw [<- hW6];exact (Below.refl _ w6).alloc (Nat.le_refl _) _
  have kb6:W6.heap[w6.heap.size]? = some (.cells #[.slice (some ⟨u,0,none⟩) 1 1,.slice (some ⟨v,0,none⟩) 1 1] 36 (0,0)):=by rw [<- hW6];exact blk_new w6 _
  obtain ⟨W7,hW7⟩:∃ X,W6.alloc (.cells #[.int .i64 1,.int .i64 0,.int .i64 0,.string ⟨#[]⟩] 43)=X:=⟨_,rfl⟩;have hc7:Below W6.heap.size W6 W7:=by rw [<- hW7];exact (Below.refl _ W6).alloc (Nat.le_refl _) _
  have kz7:Diag1 W7 W6.heap.size 1:=by unfold Diag1;rw [<- hW7];exact blk_new W6 _
  have hd:Below W5.heap.size W5 W7:=hb6.trans ((hc6.trans (hc7.mono hc6.size)).mono hb6.size);have hS:NilS W7 w5.heap.size w6.heap.size x y u v W6.heap.size:=⟨blk_below KA.out hd,blk_below kb6 hc7,blk_below DX.out hd,blk_below DY.out hd,blk_below (show Diag1 W6 u 1 from blk_below du hc6) hc7,blk_below (show Diag1 W6 v 1 from blk_below dv hc6) hc7,kz7⟩;have HB7:=Lib.hid (HB5.out.trans (hd.mono HB5.out.size));have HN7:=Lib.hid hS;have HW6:=Lib.hid hW6;have HW7:=Lib.hid hW7;clear hb6 du dv hc6 kb6 hc7 kz7 hd hS hW6 hW7 HB5 HW5 KA DX DY
  go_upto_region 7 with fail
  rw [HW6.out]
  go_upto_region 9 with fail
  rw [HW7.out]
  go_wp2_with fail
  refine (scIn_nil W7 s).mono ?_;rintro e w8 ⟨rfl,hb8⟩;have HN8:=Lib.hid ((HN7.out.below hb8).below ((Below.refl _ w8).alloc (Nat.le_refl _) (.cells #[.int .i64 0,.int .i64 0] 45)));have HB8:=Lib.hid (HB7.out.trans ((hb8.alloc hb8.size (.cells #[.int .i64 0,.int .i64 0] 45)).mono HB7.out.size));clear hb8 HN7 HB7
  go_wp2_with fail
  refine (scGl_nil _ s).mono ?_;rintro e w9 ⟨rfl,hb9⟩;have HN9:=Lib.hid ((HN8.out.below hb9).below ((Below.refl _ w9).alloc (Nat.le_refl _) (.cells #[.int .i64 0,.int .i64 0] 45)));have HB9:=Lib.hid (HB8.out.trans ((hb9.alloc hb9.size (.cells #[.int .i64 0,.int .i64 0] 45)).mono HB8.out.size));clear hb9 HN8 HB8
  go_wp2_with fail
  refine (scCh_nil _ s).mono ?_;rintro e w10 ⟨rfl,hb10⟩;have HN10:=Lib.hid ((HN9.out.below hb10).below ((Below.refl _ w10).alloc (Nat.le_refl _) (.cells #[.int .i64 0,.int .i64 0] 45)));have HB10:=Lib.hid (HB9.out.trans ((hb10.alloc hb10.size (.cells #[.int .i64 0,.int .i64 0] 45)).mono HB9.out.size));clear hb10 HN9 HB9
  go_wp2_with fail
  refine (scFun_nil _ s).mono ?_;rintro e w11 ⟨rfl,hb11⟩;have HN11:=Lib.hid ((HN10.out.below hb11).below ((Below.refl _ w11).alloc (Nat.le_refl _) (.cells #[.string ⟨#[]⟩,.int .i64 0,.int .i64 0,.slice none 0 0,.int .i64 0] 52)));have HB11:=Lib.hid (HB10.out.trans ((hb11.alloc hb11.size (.cells #[.string ⟨#[]⟩,.int .i64 0,.int .i64 0,.slice none 0 0,.int .i64 0] 52)).mono HB10.out.size));clear hb11 HN10 HB10
  go_wp2_with fail
  refine (scHat_nil _ s).mono ?_;rintro e w12 ⟨rfl,hb12⟩;have HN12:=Lib.hid (HN11.out.below hb12);have HB12:=Lib.hid (HB11.out.trans (hb12.mono HB11.out.size));clear hb12 HN11 HB11;obtain ⟨o0,o1,o2,o3,o4,o5,o6,o7,l0,l1,m0,m1,f0,f1,f2,hb⟩:=three5 w12;have HB:=Lib.hid hb;clear hb
  go_upto_region 14 with fail
  clear o0 o1 o2 o3 o4 o5 o6 o7 l0 l1 m0 m1 f0 f1 f2;obtain ⟨W13,hW13⟩:∃ X,((w12.alloc (.cells #[.string ⟨#[]⟩,.int .i64 0,.int .i64 0,.int .i64 0,.string ⟨#[]⟩,.int .i64 0,.int .i64 0,.slice none 0 0] 56)).alloc (.cells #[.int .i64 0,.int .i64 0] 45)).alloc (.cells #[.int .i64 0,.int .i64 0] 45)=X:=⟨_,rfl⟩;have HW13:=Lib.hid hW13;rw [hW13] at HB;clear hW13;have HB13:=Lib.hid (HB12.out.trans (HB.out.mono HB12.out.size));have N13:=HN12.out.below (HB.out.mono (Nat.le_refl _));have a0:=N13.a0;have HE:=Lib.hid (eqd_one W13 _ _ 1 N13.dx N13.dz);have HN13:=Lib.hid N13;clear N13 HN12 HB12 HB;rw [HW13.out]
  go_wp2_with fail
  refine HE.out.mono ?_;rintro e w14 ⟨rfl,hb14⟩;have HB14:=Lib.hid (HB13.out.trans (hb14.mono HB13.out.size));have N14:=HN13.out.below hb14;have a1:=N14.a1;have HE:=Lib.hid (eqd_one w14 _ _ 1 N14.dy N14.dz);have HN14:=Lib.hid N14;clear N14 HN13 HB13 hb14
  go_wp2_with fail
  refine HE.out.mono ?_;rintro e w15 ⟨rfl,hb15⟩;have HB15:=Lib.hid (HB14.out.trans (hb15.mono HB14.out.size));have N15:=HN14.out.below hb15;have b0:=N15.b0;have HE:=Lib.hid (eqd_one w15 _ _ 1 N15.du N15.dz);have HN15:=Lib.hid N15;clear N15 HN14 HB14 hb15
  go_wp2_with fail
  refine HE.out.mono ?_;rintro e w16 ⟨rfl,hb16⟩;have HB16:=Lib.hid (HB15.out.trans (hb16.mono HB15.out.size));have N16:=HN15.out.below hb16;have b1:=N16.b1;have HE:=Lib.hid (eqd_one w16 _ _ 1 N16.dv N16.dz);have HN16:=Lib.hid N16;clear N16 HN15 HB15 hb16
  go_wp2_with fail
  refine HE.out.mono ?_;rintro e w17 ⟨rfl,hb17⟩;have HB17:=Lib.hid (HB16.out.trans (hb17.mono HB16.out.size));clear HN16 HB16 hb17
  go_wp2_with fail
  refine (scIs_nil _ s _ 0).mono ?_;rintro e w18 ⟨rfl,hb18⟩;have HB18:=Lib.hid (HB17.out.trans ((al5 hb18).mono HB17.out.size));clear hb18 HB17
  go_wp2_with fail
  go_ret
  exact ⟨rfl,HB18.out⟩
end Go.Proofs.YtdfpkmfeldoamaaGreatDoor
