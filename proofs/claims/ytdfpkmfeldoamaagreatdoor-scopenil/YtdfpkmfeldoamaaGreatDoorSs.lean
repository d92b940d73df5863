/- A part of the proof: A part of the proof. -/
import Derived.Test.YtdfpkmfeldoamaaGreatDoorSof
import Derived.Test.YtdfpkmfeldoamaaGreatDoorSy
import Derived.Test.YtdfpkmfeldoamaaGreatDoorRangeP
import Derived.Test.YtdfpkmfeldoamaaGreatDoorYn
import Derived.Test.YtdfpkmfeldoamaaGreatDoorOComp
import Derived.Test.YtdfpkmfeldoamaaGreatDoorO7Lattice
import Derived.Shelf.Strings.Count
import Derived.Test.YtdfpkmfeldoamaaGreatDoorShelf
import Derived.Test.YtdfpkmfeldoamaaGreatDoorSo
import Derived.Deep.Cut
set_option linter.unusedSimpArgs false
set_option linter.unusedVariables false
set_option maxRecDepth 100000
set_option maxHeartbeats 8000000
namespace Go.Proofs.YtdfpkmfeldoamaaGreatDoor
open Go.RowKit Tn Lx
abbrev exP:ByteArray:=⟨#[109,97,105,110,32,61,32,120,59]⟩
abbrev exQ:ByteArray:=⟨#[99,111,110,102,32,108,111,119,59,32,105,110,116,101,103,32,111,107,59,32,97,116,116,97,99,107,101,114,32,111,107,59]⟩
def exN:Nd:=⟨⟨#[118,97,114]⟩,1,8,⟨#[120]⟩,0,[]⟩
def exG:Pf.St:=⟨[],[],[],[],[],[109,97,105,110],⟨1,1⟩,0⟩
def exY:Yf.St:=⟨[⟨[108,111,119],⟨1,6⟩⟩],[⟨[111,107],⟨1,17⟩⟩],[],⟨[111,107],⟨1,30⟩⟩,[]⟩
theorem exP_parse:Pf.parse exP.data.toList = .ok exG ⟨4,[exN]⟩:=by kernel_rfl
theorem exQ_parse:Yf.parse exQ.data.toList = .ok exY ⟨9,[]⟩:=by kernel_rfl
theorem one_good:Od.Good 1 []:=by
 refine ⟨fun i hi=>by simp at hi,fun _=>1,fun _=>1,⟨fun _=>1,⟨?_, ?_⟩,⟨?_, ?_, ?_, ?_⟩,⟨?_, ?_⟩⟩,fun b hb a ha=>by omega⟩
 ·intro a ha;obtain rfl:a=0:=by omega
  decide
 ·intro a b ha hb;obtain rfl:a=0:=by omega
  obtain rfl:b=0:=by omega
  exact ⟨fun _ => .inl rfl,fun _=>by decide⟩
 ·intro a ha;obtain rfl:a=0:=by omega
  decide
 ·exact fun _ _ _ _ h=>h
 ·intro m a b _ hm ha hb h1 h2;obtain rfl:a=0:=by omega
  obtain rfl:b=0:=by omega
  decide
 ·exact fun T h1 _ a b ha hb h=>h1 a b ha hb h
 ·intro a ha;obtain rfl:a=0:=by omega
  decide
 ·intro a b ha hb;obtain rfl:a=0:=by omega
  obtain rfl:b=0:=by omega
  decide
theorem names_row {w:World}{B b c:Nat}{l:List Pg.Nm}(h:w.ownsRow B 49 3 (.slice (some ⟨b,0,none⟩) l.length c) l.length (nmsCells l)):Yo.NamesAt w b l:=fun i n hn=>by
 have f:=fun t (ht:t<3)=>flat_get nmCell 3 (fun _=>rfl) l i t n hn ht;exact ⟨own_cell h ((f 0 (by decide)).trans rfl),own_cell h ((f 1 (by decide)).trans rfl),own_cell h ((f 2 (by decide)).trans rfl)⟩
theorem ex_lattice {c:Cx}{q qp:Nat}{U:Nat->Value}{hs:List HtV}{W:World}(hQ:Qm c q qp U hs W exY):Calls Tryz.prog 20 #[.pointer (some ⟨q,0,none⟩)] W (fun e W'=>Below W.heap.size W W'/\∃ a b t,e = .returned (.tuple #[.agg #[.pointer a,.pointer b],.int .i64 t,.nilIface])):=by
 obtain ⟨a1,c1,h1,k1⟩:=own_form5 hQ.conf;obtain ⟨b1,rfl⟩:=k1 (by decide);obtain ⟨a2,c2,h2,k2⟩:=own_form5 hQ.integ;obtain ⟨b2,rfl⟩:=k2 (by decide);obtain ⟨a3,c3,h3,_⟩:=own_form5 hQ.ord;have g1:=hQ.gv (i:=1) (by decide);have g2:=hQ.gv (i:=2) (by decide);have g3:=hQ.gv (i:=3) (by decide);have n1:=hQ.conf;have n2:=hQ.integ;rw [h1] at g1 n1;rw [h2] at g2 n2;rw [h3] at g3;have hA:Yo.PolAt W q b1 c1 b2 c2 a3 c3 ⟨exY.conf,exY.integ,exY.ord,exY.att⟩:=⟨g1,g2,g3,(blk_cell hQ.pol 4).trans rfl,(blk_cell hQ.pol 5).trans rfl,(blk_cell hQ.pol 6).trans rfl,names_row n1,names_row n2,fun i p h=>by simp [exY] at h,by decide,by decide,by decide⟩;refine (Yo.lattice_any W q b1 c1 b2 c2 a3 c3 _ 0 hA (by decide) (fun p h=>by simp [exY] at h) (by decide) (by decide) (by decide) (by decide) (fun p h=>by simp [exY] at h) (fun p h=>by simp [exY] at h) rfl).mono ?_;rintro e w' ⟨hb,⟨hn,_⟩ | ⟨_,_,o1,_,_,_,_,o2,_,_,_,_,rfl,_⟩⟩
 ·exact absurd ⟨one_good,one_good⟩ hn
 ·exact ⟨hb,_,_,_,rfl⟩
theorem ex_wrong {c c':Cx}{p pp q qp:Nat}{V U:Nat->Value}{fs:List FnV}{hs:List HtV}{X:Nat->Prop}{w:World}(hR:Rd c X w ⟨4,[exN]⟩)(hP:Pm5 c p pp V fs w exG)(hQ:Qm c' q qp U hs w exY):
  Calls Tryz.prog 22 #[.pointer (some ⟨p,0,none⟩),.pointer (some ⟨q,0,none⟩)] w (fun en w'=>∃ v,en = .returned (.agg #[.slice none 0 0,v])/\OneD w' w.heap.size v 7 1 8 ⟨#[120]⟩/\Below w.heap.size w w'):=by
 obtain rfl:fs=[]:=by have:=hP.isf;simpa [exG] using this
 obtain rfl:hs=[]:=by have:=hQ.ish;simpa [exY] using this
 obtain ⟨v,l,hl,ht,_⟩:=hR.tree;obtain ⟨ao,cap,_,ht⟩:=ht.at;rw [hl] at ht;have hpw:p<w.heap.size:=lt_of_heap hP.prog;exact wrongN_one hP hQ rfl rfl rfl (by decide) [] rfl (by decide) ⟨[],[],[],[],[],[],[]⟩ rfl (Sp.expr ⟨[],[],[],[],[],[],[]⟩ [exN] 1 0 ⟨[],[],[]⟩) ⟨14,⟨[120],⟨1,8⟩⟩⟩ rfl
  (fun c1 kh kv r1 K w0 W hb hX hN=>cexpr_any (e:=⟨[],[],[],[],[],[],[]⟩)
   (fun W' hb'=>by
    have hbb:=hb.trans (hb'.mono hb.size);have h5:=(hP.below hbb).gv (i:=5) (by decide);obtain ⟨va,vc,hv,_⟩:=own_form5 (hP.below hbb).fun_;rw [hv] at h5;exact ⟨Nat.lt_of_lt_of_le hpw hb.size,va,vc,h5,fun i m h=>by simp at h⟩)
   (fun t h=>by simp [Sp.has,Sp.look] at h)
   (fun W' hb'=>⟨(ht.below (hb.trans (hb'.mono hb.size))).mono hb.size,(blk_cell (hP.below (hb.trans (hb'.mono hb.size))).prog 0).trans rfl⟩)
   (fun i hi k hk=>by
    obtain rfl:i=0:=by simpa using hi
    simp [nd,exN] at hk)
   (fun i hi=>by
    obtain rfl:i=0:=by simpa using hi
    decide)
   1 0 (by decide) (by decide) kv ⟨[],[],[]⟩ W hX hN (by decide))
theorem lives9_any (w:World)(hT:Lib.Utf8Tabs 2 3 w)(hg:ErrT w):Calls Tryz.prog 4 #[] w fun e w'=>e = .returned (.bool true)/\Below w.heap.size w w':=by
 have HP:=Lib.hid (pparse5_any exP w (by decide) hT hg);have HY:=Lib.hid (fun W (hb:Below w.heap.size w W)=>yparse5_any exQ W (by decide) (Utf8Tabs_below hT hb) (hg.below hb hg.lt));clear hT hg
 go_enter Tryz.func4,Tryz.ntmps4
 go_wp2_with fail
 refine HP.out.mono ?_;rintro e w1 ⟨hb1,⟨g,s,c,p,pp,V,fs,_,he,rfl,hR,hP⟩ | ⟨cd,ps,n,he,_⟩⟩
 rotate_left
 ·rw [exP_parse] at he;cases he
 rw [exP_parse] at he
 injection he with he1 he2
 subst he1 he2;have HY1:=Lib.hid (HY.out w1 hb1);have HB1:=Lib.hid hb1;have HR:=Lib.hid hR;have HPm:=Lib.hid hP;clear HP HY hb1 hR hP
 go_wp2_with fail
 refine HY1.out.mono ?_;rintro e w2 ⟨hb2,⟨g,s,c',q,qp,U,hs,_,he,rfl,_,hQ⟩ | ⟨cd,ps,n,he,_⟩⟩
 rotate_left
 ·rw [exQ_parse] at he;cases he
 rw [exQ_parse] at he
 injection he with he1 he2
 subst he1 he2;have hR2:=HR.out.below hb2;have hP2:=HPm.out.below hb2;have hO:=scOf_one (p:=p) (q:=q) (cd:=7) (ln:=1) (col:=8) (nm:=⟨#[120]⟩) w2 (fun W hb=>ex_lattice (hQ.below hb)) (fun W hb=>ex_wrong (hR2.below hb) (hP2.below hb) (hQ.below hb));have HO:=Lib.hid hO;have HB2:=Lib.hid (HB1.out.trans (hb2.mono HB1.out.size));clear HR HPm HB1 HY1 hb2 hQ hR2 hP2 hO
 go_wp2_with fail
 refine HO.out.mono ?_;rintro e w3 ⟨v,rfl,ho,hb3⟩;obtain ⟨va,vc,rfl,hg⟩:=own_form5 ho;obtain ⟨gg,rfl⟩:=hg (by decide);obtain ⟨W4,hW4⟩:∃ W4,w3.alloc (.cells #[.slice none 0 0,.slice (some ⟨gg,0,none⟩) 1 vc] 36)=W4:=⟨_,rfl⟩;have hb4:Below w2.heap.size w2 W4:=by rw [<- hW4];exact hb3.alloc hb3.size _
 have k4:W4.heap[w3.heap.size]? = some (.cells #[.slice none 0 0,.slice (some ⟨gg,0,none⟩) 1 vc] 36 (0,0)):=by rw [<- hW4];exact blk_new w3 _
 have y0:W4.cell? ⟨w3.heap.size,0,none⟩=some (.slice none 0 0):=(blk_cell k4 0).trans rfl;have y1:W4.cell? ⟨w3.heap.size,1,none⟩=some (.slice (some ⟨gg,0,none⟩) 1 vc):=(blk_cell k4 1).trans rfl;have ho4:OneD W4 w2.heap.size (.slice (some ⟨gg,0,none⟩) 1 vc) 7 1 8 ⟨#[120]⟩:=by rw [<- hW4];exact own_below ho ((Below.refl _ w3).alloc (Nat.le_refl _) _)
 obtain ⟨W5,hW5⟩:∃ W5,W4.alloc (.cells #[.int .i64 7,.int .i64 1,.int .i64 8,.string ⟨#[120]⟩] 43)=W5:=⟨_,rfl⟩;have hb5:Below W4.heap.size W4 W5:=by rw [<- hW5];exact (Below.refl _ W4).alloc (Nat.le_refl _) _
 have k5:W5.heap[W4.heap.size]? = some (.cells #[.int .i64 7,.int .i64 1,.int .i64 8,.string ⟨#[120]⟩] 43 (0,0)):=by rw [<- hW5];exact blk_new W4 _
 have ho5:=own_below ho4 hb5;have hE:=eqd_ex W5 gg W4.heap.size vc 1 (own_cell ho5 (i:=0) rfl) (own_cell ho5 (i:=1) rfl) (own_cell ho5 (i:=2) rfl) (own_cell ho5 (i:=3) rfl) ((blk_cell k5 0).trans rfl) ((blk_cell k5 1).trans rfl) ((blk_cell k5 2).trans rfl) ((blk_cell k5 3).trans rfl);have hB5:Below w.heap.size w W5:=HB2.out.trans ((hb4.trans (hb5.mono hb4.size)).mono HB2.out.size);have HE:=Lib.hid hE;have HW4:=Lib.hid hW4;have HW5:=Lib.hid hW5;have HB5:=Lib.hid hB5;clear hE hW4 hW5 hB5 ho hb3 hg hb4 k4 ho4 hb5 k5 ho5 HO HB2
 go_upto_region 4 with fail
 rw [HW4.out]
 go_wp2_with (rw [HW5.out])
 refine HE.out.mono ?_;rintro e w6 ⟨rfl,hb6⟩;have HB6:=Lib.hid (HB5.out.trans (hb6.mono HB5.out.size));clear hb6 HE
 go_wp2_with fail
 go_ret
 exact ⟨rfl,HB6.out⟩
end Go.Proofs.YtdfpkmfeldoamaaGreatDoor
namespace Go.Proofs
open Go.Shelf
def Tryz.lays138_ren:Go.Shelf.Ren:=⟨fun | 138=>33 | 195=>69 | 218=>70 | 143=>71 | 219=>124 | 217=>156 | 225=>157 | 224=>158 | 267=>159 | 266=>178 | 314=>179 | n=>n,fun | 9=>9 | 3=>3 | 4=>4 | 5=>5 | 0=>0 | 46=>272 | 146=>284 | 51=>259 | n=>n,fun | 1=>1 | n=>n⟩
theorem Tryz.lays138:Go.Proofs.Lays.n138 Tryz.prog Tryz.lays138_ren:={
 mixed:=by kernel_rfl
 f138:=Tryz.func33.trans (congrArg some (by kernel_rfl))
 f143:=Tryz.func71.trans (congrArg some (by kernel_rfl))
 f195:=Tryz.func69.trans (congrArg some (by kernel_rfl))
 f217:=Tryz.func156.trans (congrArg some (by kernel_rfl))
 f218:=Tryz.func70.trans (congrArg some (by kernel_rfl))
 f219:=Tryz.func124.trans (congrArg some (by kernel_rfl))
 f224:=Tryz.func158.trans (congrArg some (by kernel_rfl))
 f225:=Tryz.func157.trans (congrArg some (by kernel_rfl))
 f266:=Tryz.func178.trans (congrArg some (by kernel_rfl))
 f267:=Tryz.func159.trans (congrArg some (by kernel_rfl))
 f314:=Tryz.func179.trans (congrArg some (by kernel_rfl))
 t0:=Tryz.underlying0
 a0:=Tryz.isAgg0
 z0:=Tryz.sizeOf0
 v0:=Tryz.zeroValue0
 t3:=Tryz.underlying3
 a3:=Tryz.isAgg3
 z3:=Tryz.sizeOf3
 v3:=Tryz.zeroValue3
 t4:=Tryz.underlying4
 a4:=Tryz.isAgg4
 z4:=Tryz.sizeOf4
 v4:=Tryz.zeroValue4
 t5:=Tryz.underlying5
 a5:=Tryz.isAgg5
 z5:=Tryz.sizeOf5
 v5:=Tryz.zeroValue5
 t9:=Tryz.underlying9
 a9:=Tryz.isAgg9
 z9:=Tryz.sizeOf9
 v9:=Tryz.zeroValue9
 t46:=Tryz.underlying272
 a46:=Tryz.isAgg272
 z46:=Tryz.sizeOf272
 v46:=Tryz.zeroValue272
 t51:=Tryz.underlying259
 a51:=Tryz.isAgg259
 z51:=Tryz.sizeOf259
 v51:=Tryz.zeroValue259
 t146:=Tryz.underlying284
 a146:=Tryz.isAgg284
 z146:=Tryz.sizeOf284
 v146:=Tryz.zeroValue284
 g1:=by kernel_rfl }
open Go.RowKit Go.Lib in
theorem Tryz.strings_Count_one (s:ByteArray)(c:UInt8)(w:World):
  Calls Tryz.prog 33 #[.string s,.string ⟨#[c]⟩] w fun e w'=>e = .returned (.int .i64 (Lib.countByte s.data.toList c))/\w'=w:=Any.strings_Count_one Tryz.lays138 s c w
open Go.RowKit Go.Lib in
theorem Tryz.strings_Count (s sub:ByteArray)(m:Int)(w:World)(hs:s.size<4294967281)(hm:w.cell? ⟨1,0,none⟩=some (.int .i64 m))(h2:2<=sub.size):
  Calls Tryz.prog 33 #[.string s,.string sub] w fun e w'=>e = .returned (.int .i64 (Lib.countB s sub))/\w'=w:=Any.strings_Count Tryz.lays138 s sub m w hs hm h2
end Go.Proofs
namespace Go.Proofs.YtdfpkmfeldoamaaGreatDoor
open Go.RowKit
def MaxL (w:World):Prop:=∃ m,w.cell? ⟨1,0,none⟩=some (.int .i64 m)
theorem MaxL.below {w w':World}(h:MaxL w)(hb:Below w.heap.size w w'):MaxL w':=by
 obtain ⟨m,hm⟩:=h;exact ⟨m,(hb.cell (p:=⟨1,0,none⟩) (World.block_lt_of_cell? _ _ hm)).trans hm⟩
theorem pairs9_any (w:World)(s:ByteArray)(hs:s.size<4294967281)(h:MaxL w):Calls Tryz.prog 16 #[.string s] w fun e w'=>∃ n,e = .returned (.int .i64 n)/\w'=w:=by
 obtain ⟨m,hm⟩:=h;have H1:=Lib.hid (Tryz.strings_Count_one s 44 w);have H2:=Lib.hid (Tryz.strings_Count s ⟨#[102,115,116]⟩ m w hs hm (by decide));have H3:=Lib.hid (Tryz.strings_Count s ⟨#[115,110,100]⟩ m w hs hm (by decide));clear hm
 go_enter Tryz.func16,Tryz.ntmps16
 go_wp2_with fail
 refine H1.out.mono ?_;rintro e w1 ⟨rfl,rfl⟩
 go_wp2_with fail
 refine H2.out.mono ?_;rintro e w1 ⟨rfl,rfl⟩
 go_wp2_with fail
 refine H3.out.mono ?_;rintro e w1 ⟨rfl,rfl⟩
 go_wp2_with fail
 go_ret
 exact ⟨_,rfl,rfl⟩
def SmallP (w:World)(a b:ByteArray)(e:Ending)(w':World):Prop:=(∃ x,e = .returned (.bool x)/\(x=true->a.size<=4000/\b.size<=4000))/\Below w.heap.size w w'
theorem small9_any (w:World)(a b:ByteArray)(h:MaxL w):Calls Tryz.prog 5 #[.agg #[.string a,.string b]] w (SmallP w a b):=by
 obtain ⟨W,hW⟩:∃ W,w.alloc (.cells #[.string a,.string b] 23)=W:=⟨_,rfl⟩;have hbW:Below w.heap.size w W:=by rw [<- hW];exact (Below.refl _ w).alloc (Nat.le_refl _) _
 have kW:W.heap[w.heap.size]? = some (.cells #[.string a,.string b] 23 (0,0)):=by rw [<- hW];exact heap_alloc_new w _
 have s0:W.cell? ⟨w.heap.size,0,none⟩=some (.string a):=by simp [World.cell?,kW]
 have s1:W.cell? ⟨w.heap.size,1,none⟩=some (.string b):=by simp [World.cell?,kW]
 have hm:=h.below hbW;have HP:=Lib.hid (fun hs=>pairs9_any W b hs hm);have HW:=Lib.hid hW;have HB:=Lib.hid hbW;clear hW hbW kW hm h
 by_cases h1:a.size<=4000
 ·have d1:((a.size:Int)<=4000):=by omega
  by_cases h2:b.size<=4000
  ·have d2:((b.size:Int)<=4000):=by omega
   have HP1:=Lib.hid (HP.out (by omega));clear HP
   go_enter Tryz.func5,Tryz.ntmps5
   go_upto_region 1 with fail
   rw [HW.out]
   go_wp2_with fail
   refine HP1.out.mono ?_;rintro e w1 ⟨n,rfl,rfl⟩
   go_wp2_with fail
   go_ret
   exact ⟨⟨_,rfl,fun _=>⟨h1,h2⟩⟩,HB.out⟩
  ·have d2:¬ ((b.size:Int)<=4000):=by omega
   go_enter Tryz.func5,Tryz.ntmps5
   go_upto_region 1 with fail
   rw [HW.out]
   go_wp2_with fail
   go_ret
   exact ⟨⟨_,rfl,fun h=>by simp at h⟩,HB.out⟩
 ·have d1:¬ ((a.size:Int)<=4000):=by omega
  go_enter Tryz.func5,Tryz.ntmps5
  go_upto_region 1 with fail
  rw [HW.out]
  go_wp2_with fail
  go_ret
  exact ⟨⟨_,rfl,fun h=>by simp at h⟩,HB.out⟩
end Go.Proofs.YtdfpkmfeldoamaaGreatDoor
