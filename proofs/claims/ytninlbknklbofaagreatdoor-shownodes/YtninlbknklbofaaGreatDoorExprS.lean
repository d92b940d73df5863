/- A part of the proof: An expression's text, if it is read as it. -/
import Derived.Test.YtninlbknklbofaaGreatDoorTVisit
import Derived.Test.YtninlbknklbofaaGreatDoorFitsS
import Derived.Test.YtninlbknklbofaaGreatDoorTAdd
import Derived.Test.YtninlbknklbofaaGreatDoorFin
set_option linter.unusedSimpArgs false
set_option linter.unusedVariables false
set_option maxRecDepth 100000
set_option maxHeartbeats 4000000
namespace Go.Proofs.YtninlbknklbofaaGreatDoor
open Go.RowKit Go.Shelf Tn
theorem bstr_nil (c:Pc)(w:World)(s:Sh.St)(h:Pr c w s)(h0:s.bs=[]):Calls Tryz.prog 15 #[.pointer (some ⟨c.bp,1,none⟩)] w fun e w'=>e = .returned (.string ⟨#[]⟩)/\Below c.N w w':=by
 have hNw:=h.hN;obtain ⟨adr,v,h⟩:=h;obtain ⟨bs,tg⟩:=s;simp only at h0;subst h0;have hUS:∀ (W:World) (q:Option Addr),(Builtin.unsafeString_ #[97,3] 9 #[.pointer q,.int .i64 0]).run Tryz.prog W = .ok (.string .empty) W:=fun W q=>Lib.run_unsafeString_none W _ _ _ q
 rcases h.own.2 with ⟨rfl,_⟩ | ⟨g,cap,cur,rfl,hbg,hg,_,_,_,_⟩
 ·have c1:w.drew.cell? ⟨c.bp,2,none⟩=some (.slice none 0 0):=h.c2;have hSD:(Builtin.unsafeSliceData_ #[52] 97 #[.slice none 0 0]).run Tryz.prog w.drew = .ok (.pointer none) w.drew:=rfl;clear h
  go_enter Tryz.func15,Tryz.ntmps15
  go_wp2
  go_region
  all_goals (go_wp2;go_ret;exact ⟨rfl,Below.drew (Below.refl c.N w)⟩)
 ·have c1:w.drew.cell? ⟨c.bp,2,none⟩=some (.slice (some ⟨g,0,none⟩) 0 cap):=h.c2;have hlt:=lt_of_heap h.blk
  by_cases hc0:cap=0
  ·subst hc0;have hSD:(Builtin.unsafeSliceData_ #[52] 97 #[.slice (some ⟨g,0,none⟩) 0 0]).run Tryz.prog w.drew = .ok (.pointer (some ⟨w.drew.heap.size,0,none⟩)) (w.drew.alloc (.view ⟨g,0,none⟩ 5)) :=
    Lib.run_unsafeSliceData_zero w.drew _ _ 5 Tryz.underlying97 ⟨g,0,none⟩ 0 (5,cur.size) (by have hg':w.drew.heap[g]? = some (.cells cur 5 (0,0)):=hg;simp [World.shape?,hg'])
   have c2:(w.drew.alloc (.view ⟨g,0,none⟩ 5)).cell? ⟨c.bp,2,none⟩=some (.slice (some ⟨g,0,none⟩) 0 0):=by
    rw [World.cell?_alloc_lt _ _ _ hlt];exact c1
   have c3:(w.alloc (.view ⟨g,0,none⟩ 5)).drew.cell? ⟨c.bp,2,none⟩=some (.slice (some ⟨g,0,none⟩) 0 0):=c2;have c0:w.cell? ⟨c.bp,2,none⟩=some (.slice (some ⟨g,0,none⟩) 0 0):=c1;clear h
   go_enter Tryz.func15,Tryz.ntmps15
   go_wp2
   go_region
   all_goals (go_wp2;go_ret;exact ⟨rfl,(Below.drew (Below.refl c.N w)).alloc hNw _⟩)
  ·have hSD:(Builtin.unsafeSliceData_ #[52] 97 #[.slice (some ⟨g,0,none⟩) 0 cap]).run Tryz.prog w.drew = .ok (.pointer (some ⟨g,0,none⟩)) w.drew :=
    Lib.run_unsafeSliceData_row _ _ _ _ _ _ hc0
   clear h hc0
   go_enter Tryz.func15,Tryz.ntmps15
   go_wp2
   go_region
   all_goals (go_wp2;go_ret;exact ⟨rfl,Below.drew (Below.refl c.N w)⟩)
theorem bstr_all (c:Pc)(w:World)(s:Sh.St)(h:Pr c w s):Calls Tryz.prog 15 #[.pointer (some ⟨c.bp,1,none⟩)] w fun e w'=>e = .returned (.string ⟨s.bs.toArray⟩)/\Below c.N w w':=by
 by_cases h0:s.bs=[]
 ·rw [h0];exact bstr_nil c w s h h0
 ·exact bstr_any c w s h h0
def txt (ms:List Nd)(i:Nat):Lx.B:=(Sh.full ms i ⟨[],true⟩).bs
def showT (n:Nat)(ms:List Nd)(i:Nat):Option Lx.B :=
 if fitsB ms i=true then (match Ex.parse n (txt ms i) with
  | .ok j ns=>if sameB ms ns i j=true then some (txt ms i) else none
  | _=>none) else none
def showV (R:Option Lx.B):Value:=match R with
 | some t => .tuple #[.string ⟨t.toArray⟩,.int .i64 0]
 | none => .tuple #[.string ⟨#[]⟩,.int .i64 1]
def ShowP (R:Option Lx.B)(w:World)(e:Ending)(w':World):Prop:=e = .returned (showV R)/\Below w.heap.size w w'
theorem showT_no {n:Nat}{ms:List Nd}{i:Nat}(h:fitsB ms i=false):showT n ms i=none:=by unfold showT;rw [h];rfl
theorem showT_bad {n:Nat}{ms:List Nd}{i:Nat}{c:Int}{p:Lx.Pos}(h:fitsB ms i=true)(hp:Ex.parse n (txt ms i) = .bad c p):showT n ms i=none:=by unfold showT;rw [h,hp];rfl
theorem showT_ok {n:Nat}{ms ns:List Nd}{i j:Nat}(h:fitsB ms i=true)(hp:Ex.parse n (txt ms i) = .ok j ns):showT n ms i=if sameB ms ns i j=true then some (txt ms i) else none:=by unfold showT;rw [h,hp];rfl
structure Wd (w:World):Prop where
 u8:Lib.Utf8Tabs 1 2 w
 err:w.cell? ⟨0,0,none⟩=some (.iface 168 (.agg #[.pointer (some ⟨9,41,none⟩)]))
 tab:Lib.TabIs Tryz.prog w "internal/strconv.uint64pow10" .u64 Lib.pow10Tab
 size:9<=w.heap.size
theorem Wd.below {w w':World}(h:Wd w)(hb:Below w.heap.size w w'):Wd w' :=
 ⟨Utf8Tabs_below h.u8 hb,(hb.cell (p:=⟨0,0,none⟩) (World.block_lt_of_cell? _ _ h.err)).trans h.err,tab_below h.tab hb (by have:=h.size;omega),Nat.le_trans h.size hb.size⟩
structure Tr (w:World)(bt:Nat)(ms:List Nd):Prop where
 at_:∃ ao cap,TreeAt w.heap.size w bt ao cap ms
 wf:WF ms
 few:ms.length<=4000
 kids:∀ i,i<ms.length->(nd ms i).kids.length<=999000
 nums:∀ i,i<ms.length -> -9223372036854775808<=(nd ms i).num/\(nd ms i).num<=9223372036854775807
theorem Tr.below {w w':World}{bt:Nat}{ms:List Nd}(h:Tr w bt ms)(hb:Below w.heap.size w w'):Tr w' bt ms:=by
 obtain ⟨ao,cap,ht⟩:=h.at_;exact ⟨⟨ao,cap,(ht.below hb).mono hb.size⟩,h.wf,h.few,h.kids,h.nums⟩
theorem nd_mem {ms:List Nd}{i:Nat}(h:i<ms.length):nd ms i∈ms:=by
 simp only [nd,List.getD_eq_getElem?_getD,List.getElem?_eq_getElem h,Option.getD_some];exact List.getElem_mem h
theorem Tr.of_read {w:World}{B bt i:Nat}{v:Value}{l:List SN}{ns:List Nd}(ht:TreeOwn B w bt v l)(hl:nds l=ns)(hr:Ex.Read i ns):Tr w bt ns:=by
 obtain ⟨ao,cap,_,h⟩:=ht.at;rw [hl] at h;exact ⟨⟨ao,cap,h⟩,hr.wf,hr.few,fun j hj=>hr.kids _ (nd_mem hj),fun j hj=>by have:=hr.nums _ (nd_mem hj);omega⟩
theorem fits_fit {ms:List Nd}{i:Nat}(h:fitsB ms i=true)(hw:WF ms)(hi:i<ms.length)(hk:∀ i,i<ms.length->(nd ms i).kids.length<=999000)(hn:∀ i,i<ms.length -> -9223372036854775808<=(nd ms i).num/\(nd ms i).num<=9223372036854775807)
  (hp:∀ j∈Pl ms i,j<ms.length):Fit ms i:=fun j hj=>by
 unfold fitsB at h;rw [Bool.and_eq_true,List.all_eq_true] at h;have h1:=h.2 j hj;unfold okN at h1;rw [Bool.and_eq_true] at h1;have hl:=hp j hj;exact ⟨h1.2,hk j hl,(hn j hl).1,(hn j hl).2⟩
theorem Pl_lt_len {ms:List Nd}(hw:WF ms)(i:Nat):i<ms.length->∀ j∈Pl ms i,j<ms.length:=by
 induction i using Nat.strongRecOn with
 | _ i ih =>
  intro hi j hj;rw [Pl_eq hw hi] at hj
  rcases List.mem_cons.1 hj with rfl | hj
  ·exact hi
  ·rw [partPl,List.take_length] at hj;obtain ⟨k,hk,hj⟩:=List.mem_flatMap.1 hj;have:=kid_lt hw hi hk;exact ih _ this.1 (by omega) j hj
theorem show_any (n:Nat)(hn:n<=900000)(bt:Nat)(ms:List Nd)(i:Nat)(w:World)(hw:Wd w)(ht:Tr w bt ms)(hi:i<ms.length)(hsz:fitsB ms i=true->(txt ms i).length<=1000000000)
  (hne:fitsB ms i=true->Ex.parse n (txt ms i) ≠ .out) (hrd:∀ j ns,Ex.parse n (txt ms i) = .ok j ns->Ex.Read j ns):
  Calls Tryz.prog 7 #[.pointer (some ⟨bt,0,none⟩),.int .i64 (i:Int)] w (ShowP (showT n ms i) w):=by
 obtain ⟨ao,cap,hta⟩:=ht.at_;obtain ⟨W,hW⟩:∃ W,w.alloc (.cells #[.pointer (some ⟨bt,0,none⟩),.pointer none,.slice none 0 0,.bool true] 56)=W:=⟨_,rfl⟩;have hbW:Below w.heap.size w W:=by rw [<- hW];exact (Below.refl _ w).alloc (Nat.le_refl _) _
 have hbox:W.heap[w.heap.size]? = some (.cells #[.pointer (some ⟨bt,0,none⟩),.pointer none,.slice none 0 0,.bool true] 56 (0,0)):=by rw [<- hW];exact blk_new w _
 have hzW:W.heap.size=w.heap.size+1:=by rw [<- hW];simp
 have hF:=fits_any w.heap.size bt ao cap ms i W ht.wf ht.kids hi ((hta.below hbW).mono hbW.size) ((blk_cell hbox 0).trans rfl);have hPr:Pr ⟨w.heap.size,w.heap.size,.pointer (some ⟨bt,0,none⟩)⟩ W ⟨[],true⟩:=⟨.pointer none,.slice none 0 0,Nat.le_refl _,by simp only;omega,hbox,.inl rfl,World.ownsRow_nil W _ _ _⟩;have hEn:En ⟨w.heap.size,w.heap.size,.pointer (some ⟨bt,0,none⟩)⟩ bt ao cap ms W:=⟨rfl,hta.below hbW,tab_below hw.tab hbW (by have:=hw.size;omega),hw.size⟩;have HF:=Lib.hid hF;have HW:=Lib.hid hW;have HB:=Lib.hid hbW;have HPR:=Lib.hid hPr;have HEN:=Lib.hid hEn;have HT:=Lib.hid ht;have HWD:=Lib.hid hw;have hfit:=fun h=>fits_fit (ms:=ms) (i:=i) h ht.wf hi ht.kids ht.nums (Pl_lt_len ht.wf i hi);have HFIT:=Lib.hid hfit;have HSZ:=Lib.hid hsz;have HNE:=Lib.hid hne;have HRD:=Lib.hid hrd;clear hF hW hbW hbox hPr hEn ht hw hta hfit hsz hne hrd
 cases hfb:fitsB ms i with
 | false =>
  rw [showT_no hfb];rw [hfb] at HF;clear hfb
  go_enter Tryz.func7,Tryz.ntmps7
  go_upto_region 2 with fail
  rw [HW.out]
  go_wp2_with fail
  refine HF.out.mono ?_;rintro e w1 ⟨rfl,hb1⟩;have HB1:=Lib.hid (HB.out.trans (hb1.mono HB.out.size));clear hb1
  go_wp2
  go_ret2
  exact ⟨rfl,HB1.out⟩
 | true =>
  rw [hfb] at HF;have hsz:=HSZ.out hfb;have hne:=HNE.out hfb;have hft:=HFIT.out hfb;have HFB:=Lib.hid hfb;have HNE1:=Lib.hid hne;have HFT:=Lib.hid hft;clear hfb hne hft HNE HFIT
  go_enter Tryz.func7,Tryz.ntmps7
  go_upto_region 2 with fail
  rw [HW.out]
  go_wp2_with fail
  refine HF.out.mono ?_;rintro e w1 ⟨rfl,hb1⟩;have hz1:=hb1.size;have hbN:Below w.heap.size W w1:=hb1.mono (by omega);have HPR1:=Lib.hid (HPR.out.below hb1);have HEN1:=Lib.hid (HEN.out.below hbN);have HB1:=Lib.hid (HB.out.trans hbN);clear hb1 hbN HPR HEN HF
  go_wp2_with fail
  refine (full_any ⟨w.heap.size,w.heap.size,.pointer (some ⟨bt,0,none⟩)⟩ bt ao cap ms HT.out.wf i hi HFT.out ⟨[],true⟩ w1 HEN1.out HPR1.out hsz).mono ?_;rintro e w2 ⟨rfl,hk2⟩;have hb2:Below w.heap.size w1 w2:=hk2.pk.below HPR1.out.hN (Nat.le_refl _);have HK2:=Lib.hid hk2;have HB2:=Lib.hid (HB1.out.trans hb2);clear hk2 hb2 HPR1 HEN1 HB1
  go_wp2_with fail
  refine (bstr_all ⟨w.heap.size,w.heap.size,.pointer (some ⟨bt,0,none⟩)⟩ w2 _ HK2.out.pr).mono ?_;rintro e w3 ⟨rfl,hb3⟩;have hB3:=HB2.out.trans hb3;have hwd3:=HWD.out.below hB3;have htr3:=HT.out.below hB3;have hP:=parse_any n hn ⟨(txt ms i).toArray⟩ w3 (by show (txt ms i).toArray.size<=_;simp;omega) hwd3.u8 hwd3.err HNE1.out;have HP:=Lib.hid hP;have HB3:=Lib.hid hB3;have HTR3:=Lib.hid htr3;clear hb3 hB3 hwd3 htr3 hP HK2 HB2;rw [show (Sh.full ms i ⟨[],true⟩).bs=txt ms i from rfl]
  go_wp2_with fail
  refine HP.out.mono ?_;rintro e w4 ⟨hb4,⟨j,ns,B,bt2,v,l,hpe,rfl,hl,hto,hlt⟩ | ⟨cd,p,hpe,rfl⟩⟩
  ·have hread:=HRD.out j ns hpe;have htr4:=Tr.of_read hto hl hread;obtain ⟨ao2,cap2,hta2⟩:=htr4.at_;obtain ⟨ao3,cap3,hta3⟩:=(HTR3.out.below hb4).at_;have hS:=same_any bt bt2 ao3 ao2 cap3 cap2 ms ns HT.out.wf hread.wf HT.out.kids HT.out.few hread.few i j hi hread.lt w4 hta3 hta2;have hR:=showT_ok HFB.out hpe;have HS:=Lib.hid hS;have HR:=Lib.hid hR;have HB4:=Lib.hid (HB3.out.trans (hb4.mono HB3.out.size));clear hS hR hb4 hpe hl hto htr4 hta2 hta3 hread HP
   go_wp2_with fail
   refine HS.out.mono ?_;rintro e w5 ⟨rfl,hb5⟩;have HB5:=Lib.hid (HB4.out.trans (hb5.mono HB4.out.size));clear hb5
   cases hs:sameB ms ns i j with
   | false =>
    rw [hs] at HR;clear hs
    go_wp2
    go_ret2
    exact ⟨by rw [HR.out];rfl,HB5.out⟩
   | true =>
    rw [hs] at HR;clear hs
    go_wp2
    go_ret2
    exact ⟨by rw [HR.out];rfl,HB5.out⟩
  ·have hR:=showT_bad HFB.out hpe;have HR:=Lib.hid hR;have HB4:=Lib.hid (HB3.out.trans (hb4.mono HB3.out.size));clear hR hb4 hpe HP;unfold dval
   go_wp2
   go_ret2
   exact ⟨by rw [HR.out];rfl,HB4.out⟩
end Go.Proofs.YtninlbknklbofaaGreatDoor
