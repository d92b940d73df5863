/- A part of the proof: A part of the proof. -/
import Derived.Test.YtninlbknklbofaaGreatDoorRe
import Derived.Test.YtninlbknklbofaaGreatDoorRt
import Derived.Test.YtninlbknklbofaaGreatDoorFitsS
import Derived.Test.YtninlbknklbofaaGreatDoorExprS
import Derived.Test.YtninlbknklbofaaGreatDoorRs
set_option linter.unusedSimpArgs false
set_option linter.unusedVariables false
set_option maxRecDepth 100000
set_option maxHeartbeats 4000000
namespace Go.Proofs.YtninlbknklbofaaGreatDoor
section
open Go.RowKit Tn
theorem show_rexpr {n:Nat}{ms:List Nd}{i:Nat}(hw:WF ms)(hf:∀ i,i<ms.length->(nd ms i).kids.length<=2000)(hnum:∀ j,j<ms.length -> -9223372036854775807<=(nd ms j).num/\(nd ms j).num<=9223372036854775807)
  (hfu:∀ l ts,Lx.whole l = .ok ts->10*ts.length+8<n) (hi:i<ms.length) (hpl:(Pl ms i).length<=2000):showT n ms i=rexprT n ms i:=by
 have hL:=Pl_lt_len hw i hi
 by_cases hA:((Pl ms i).all fun j=>Sh.well (nd ms j))=true
 ·have hA2:=List.all_eq_true.1 hA;have hfit:Fit ms i:=fun k hk=>⟨hA2 k hk,Nat.le_trans (hf k (hL k hk)) (by decide),by have:=(hnum k (hL k hk)).1;omega,(hnum k (hL k hk)).2⟩
  by_cases hB:Rt.AllBare ms i/\∀ k∈Pl ms i,(nd ms k).name.size<=40
  ·have hF:fitsB ms i=true:=by
    unfold fitsB;rw [Bool.and_eq_true,List.all_eq_true];refine ⟨decide_eq_true (by omega),fun k hk=>?_⟩;unfold okN;rw [Bool.and_eq_true];exact ⟨decide_eq_true (hB.2 k hk),hA2 k hk⟩
   unfold showT rexprT;rw [hF,hA,Rt.txt_rtxt hw hi hfit hB.1]
   cases Ex.parse n (Rt.rtxt ms i) <;> rfl
  ·have no:∀ l j ns,Ex.parse n l = .ok j ns->¬ sameB ms ns i j=true:=fun l j ns hp hs=>by
    have hr:=(Ex.parse_read (hfu l)).2 j ns hp;exact hB (Rt.bare_read hw hr.wf hi hr.lt (Ex.parse_names (hfu l) hp) hs)
   have e1:rexprT n ms i=none:=by
    unfold rexprT;rw [if_pos hA]
    cases hp:Ex.parse n (Rt.rtxt ms i) with
    | ok j ns=>exact if_neg (no _ j ns hp)
    | bad c p=>rfl
    | out=>rfl
   have e2:showT n ms i=none:=by
    unfold showT
    by_cases hF:fitsB ms i=true
    ·rw [if_pos hF]
     cases hp:Ex.parse n (txt ms i) with
     | ok j ns=>exact if_neg (no _ j ns hp)
     | bad c p=>rfl
     | out=>rfl
    ·rw [if_neg hF]
   rw [e1,e2]
 ·have hF:¬ fitsB ms i=true:=fun h=>by
   unfold fitsB at h;rw [Bool.and_eq_true,List.all_eq_true] at h;refine hA (List.all_eq_true.2 fun k hk=>?_);have h1:=h.2 k hk;unfold okN at h1;rw [Bool.and_eq_true] at h1;exact h1.2
  unfold showT rexprT;rw [if_neg hF,if_neg hA]
end
section
open Go.RowKit Tn
def EachNo (w:World)(e:Ending)(w':World):Prop :=
 e = .returned (.func (.func 50) #[] #[.pointer (some ⟨w.heap.size+2,0,none⟩),.pointer (some ⟨w.heap.size,0,none⟩),.pointer (some ⟨w.heap.size+1,0,none⟩)])/\w'.cell? ⟨w.heap.size+2,0,none⟩=some (.bool false)/\Below w.heap.size w w'
theorem each_no (bt:Nat)(ao:Option Addr)(len cap:Nat)(i:Int)(w:World)(hc:w.cell? ⟨bt,0,none⟩=some (.slice ao len cap))(h:¬ (0<=i/\i<(len:Int))):Calls Tryz.prog 29 #[.pointer (some ⟨bt,0,none⟩),.int .i64 i] w (EachNo w) :=
 (each_any bt ao len cap i w hc).mono fun e w' he=>by
  obtain ⟨h1,_,_,h4,h5⟩:=he;refine ⟨h1,h4.trans ?_,h5⟩;have:(decide (0<=i) && decide (i<(len:Int)))=false:=by
   rw [<- Bool.not_eq_true,Bool.and_eq_true,decide_eq_true_iff,decide_eq_true_iff];exact h
  rw [this]
theorem fits_no (bp:Nat)(v:Value)(i:Int)(w:World)(hc:w.cell? ⟨bp,0,none⟩=some v)(hE:∀ W,Below w.heap.size w W->Calls Tryz.prog 29 #[v,.int .i64 i] W (EachNo W)):
  Calls Tryz.prog 13 #[.pointer (some ⟨bp,0,none⟩),.int .i64 i] w fun e w'=>e = .returned (.bool false)/\Below w.heap.size w w':=by
 obtain ⟨b0,hb0⟩:∃ b0,w.heap.size=b0:=⟨_,rfl⟩;obtain ⟨W,hW⟩:∃ W,(w.alloc (.cells #[.bool false] 4)).alloc (.cells #[.int .i64 0] 3)=W:=⟨_,rfl⟩;have hbW:Below w.heap.size w W:=by rw [<- hW];exact ((Below.refl _ w).alloc (Nat.le_refl _) _).alloc (by simp) _
 have hsW:W.heap.size=b0+2:=by rw [<- hW,<- hb0];simp
 have hr:W.heap[b0]? = some (.cells #[.bool false] 4 (0,0)):=by rw [<- hW,<- hb0];exact blk_alloc (blk_new w _) _
 have hn:W.heap[b0+1]? = some (.cells #[.int .i64 0] 3 (0,0)):=by rw [<- hW,<- hb0];have:=blk_new (w.alloc (.cells #[.bool false] 4)) (.cells #[.int .i64 0] 3);rwa [World.size_alloc] at this
 have hcW:W.cell? ⟨bp,0,none⟩=some v:=(hbW.cell (p:=⟨bp,0,none⟩) (World.block_lt_of_cell? _ _ hc)).trans hc;have HEA:=Lib.hid (hE W hbW);have HW:=Lib.hid hW;have HB:=Lib.hid hbW;have HS:=Lib.hid hsW;have HR:=Lib.hid hr;have HN:=Lib.hid hn;have HC:=Lib.hid hcW;rw [hb0] at HB ⊢;have HB0:=Lib.hid hb0;clear hE hW hbW hsW hr hn hc hcW hb0;refine (callsIn_wide (n:=0)).1 ?_;refine callsIn_of_wp_marks Tryz.func13 rfl trivial ?_ rfl;simp only [Tryz.ntmps13,List.size_toArray,List.length_cons,List.length_nil,Nat.reduceAdd,Nat.reduceSub,Array.replicate_succ,Array.replicate_zero,List.push_toArray,List.append_toArray,List.nil_append,List.cons_append];refine wpIn_wide.2 ?_
 go_upto_region 2 with fail
 rw [HW.out,HB0.out];have q0:=HC.out
 go_wp2_with (go_at_call 29;refine HEA.out.mono ?_;rintro e w3 ⟨rfl,e2,hb3⟩)
 have hs2:=HS.out;rw [hs2] at e2 hb3 ⊢;have hm1:=(hb3.block _ (by omega)).trans HN.out;have hm2:=(hb3.block _ (by omega)).trans HR.out;have hbb:=HB.out.trans (hb3.mono (by omega:b0<=b0+2));have E2:=Lib.hid e2;have HM1:=Lib.hid hm1;have HM2:=Lib.hid hm2;have HBB:=Lib.hid hbb;have hs3:b0+2<=w3.heap.size:=by have:=hb3.size;omega
 clear e2 hb3 q0 hs2 HS hm1 hm2 hbb;refine (wpIn_wide (n:=0)).1 (wp_range (gf:=50) (lb:=#[.pointer (some ⟨b0+2+2,0,none⟩),.pointer (some ⟨b0+2,0,none⟩),.pointer (some ⟨b0+2+1,0,none⟩)]) rfl (enters_of Tryz.func50 (by kernel_rfl) rfl) (encs:=enc2) (fun _=>rfl) (G:=Comes [] []) (N:=b0) (M:=NoNode)
  (S:=fun xs=>xs=[]) (Sp:=fun _=>False) ?hN ?hseq
  (fun _ W'=>W'.heap[b0+1]? = some (.cells #[.int .i64 0] 3 (0,0))/\W'.heap[b0]? = some (.cells #[.bool false] 4 (0,0))/\Below b0 w W')
  (fun _ _ _=>False)
  (fun _ _ _ _=>False)
  (fun _ A B h hs=>⟨hs.same _ _ _ _ (fun e=>e) h.1,hs.same _ _ _ _ (fun e=>e) h.2.1,h.2.2.trans hs.below⟩) (fun _ _ A B h hs=>h)
  (fun _ s x A B h hs=>absurd h.lt (by simp))
  (fun s x a C B h hs=>h) ⟨HM1.out,HM2.out,HBB.out⟩ ?assign ?body ?done ?stop)
 case hN=>omega
 case hseq =>
  intro l' W' hb';exact each1_no [] [] l' b0 (b0+2+2) (b0+2) (b0+2+1) W' ((hb'.cell (World.block_lt_of_cell? _ _ E2.out)).trans E2.out)
 case assign =>
  rintro l' pre ⟨k,v⟩ W0' W' hm0 hst hg;exact absurd hg.lt (by simp)
 case body =>
  rintro l' pre ⟨k,v⟩ a₁ W0' W' hm0 hst hg h;exact absurd hg.lt (by simp)
 case stop =>
  rintro D c pre W5 hD h;exact h.elim
 case done =>
  rintro D xs W5 hD hxs ⟨hm1,hm2,hbw⟩ hdef;have c1:W5.cell? ⟨b0+1,0,none⟩=some (.int .i64 0):=(blk_cell hm1 0).trans rfl;have c2:W5.cell? ⟨b0,0,none⟩=some (.bool false):=(blk_cell hm2 0).trans rfl;have c3:=blk_frozen hm2 0;have HR5:=Lib.hid hm2;have HBW:=Lib.hid hbw;have HDF:=Lib.hid hdef;clear hm1 hm2 hbw hdef hxs
  go_wp2
  have hD2:D≠b0:=by omega
  have hdf:=(KeepsOthers.setCell W5 ⟨b0,0,none⟩ (.bool false)).same D _ HDF.out rfl;refine ⟨by simp,.inl ⟨_,_,rfl,run_takeDeferred hdf, ?_⟩⟩;have hq:((W5.setCell ⟨b0,0,none⟩ (.bool false)).putObj D (.deferred none)).cell? ⟨b0,0,none⟩=some (.bool false) :=
   (blk_cell ((World.putObj_heap_other (by omega)).trans (blk_set HR5.out 0 (.bool false))) 0).trans rfl
  refine ⟨.bool false,by simp [results,Tryz.f13,go_sem,hq],rfl, ?_⟩;exact ((HBW.out.setCell (p:=⟨b0,0,none⟩) (Nat.le_refl _) _).trans (Still.putObj (N:=b0) _ (by omega) hdf rfl).below)
end
section
open Go.RowKit Tn
theorem has_nil (i:Int)(w:World):Calls Tryz.prog 34 #[.pointer none,.int .i64 i] w fun e w'=>e = .returned (.bool false)/\w=w':=by
 go_enter Tryz.func34,Tryz.ntmps34
 by_cases h:0<=i
 ·have hd:decide (i<0)=false:=decide_eq_false (by omega)
  go_wp2
  go_ret
  exact ⟨by simp [hd],rfl⟩
 ·go_wp2
  go_ret
  exact ⟨by simp,rfl⟩
theorem each_nil (i:Int)(w:World):Calls Tryz.prog 29 #[.pointer none,.int .i64 i] w (EachNo w):=by
 obtain ⟨W,hW⟩:∃ W,(w.alloc (.cells #[.pointer none] 31)).alloc (.cells #[.int .i64 i] 3)=W:=⟨_,rfl⟩;have hb:Below w.heap.size w W:=by rw [<- hW];exact ((Below.refl _ w).alloc (Nat.le_refl _) _).alloc (by simp) _
 have hs:W.heap.size=w.heap.size+2:=by rw [<- hW];simp
 have e0:W.heap[w.heap.size]? = some (.cells #[.pointer none] 31 (0,0)):=by rw [<- hW];exact blk_alloc (blk_new w _) _
 have e1:W.heap[w.heap.size+1]? = some (.cells #[.int .i64 i] 3 (0,0)):=by
  rw [<- hW];have:=blk_new (w.alloc (.cells #[.pointer none] 31)) (.cells #[.int .i64 i] 3);rwa [World.size_alloc] at this
 have HW:=Lib.hid hW;have HS:=Lib.hid hs;have E0:=Lib.hid e0;have E1:=Lib.hid e1;clear hW hs e0 e1
 go_enter Tryz.func29,Tryz.ntmps29
 go_wp2_with fail
 rw [HW.out];refine (has_nil i W).mono ?_;rintro e w' ⟨rfl,rfl⟩
 go_wp2
 go_ret
 have e2:(W.alloc (.cells #[.bool false] 4)).heap[w.heap.size+2]? = some (.cells #[.bool false] 4 (0,0)):=by rw [<- HS.out];exact blk_new W _
 refine ⟨?_,(blk_cell e2 0).trans rfl,hb.alloc hb.size _⟩;have:=HS.out;simp [this]
theorem show_no (p:Option Addr)(i:Int)(w:World)(hE:∀ W,Below w.heap.size w W->Calls Tryz.prog 29 #[.pointer p,.int .i64 i] W (EachNo W)):
  Calls Tryz.prog 7 #[.pointer p,.int .i64 i] w (ShowP none w):=by
 obtain ⟨W,hW⟩:∃ W,w.alloc (.cells #[.pointer p,.pointer none,.slice none 0 0,.bool true] 56)=W:=⟨_,rfl⟩;have hbW:Below w.heap.size w W:=by rw [<- hW];exact (Below.refl _ w).alloc (Nat.le_refl _) _
 have hbox:W.heap[w.heap.size]? = some (.cells #[.pointer p,.pointer none,.slice none 0 0,.bool true] 56 (0,0)):=by rw [<- hW];exact blk_new w _
 have hF:=fits_no w.heap.size (.pointer p) i W ((blk_cell hbox 0).trans rfl) (fun W' hb=>hE W' (hbW.trans (hb.mono hbW.size)));have HF:=Lib.hid hF;have HW:=Lib.hid hW;have HB:=Lib.hid hbW;clear hF hW hbW hbox hE
 go_enter Tryz.func7,Tryz.ntmps7
 go_upto_region 2 with fail
 rw [HW.out]
 go_wp2_with fail
 refine HF.out.mono ?_;rintro e w1 ⟨rfl,hb1⟩;have HB1:=Lib.hid (HB.out.trans (hb1.mono HB.out.size));clear hb1
 go_wp2
 go_ret2
 exact ⟨rfl,HB1.out⟩
theorem show_away (bt:Nat)(ao:Option Addr)(len cap:Nat)(i:Int)(w:World)(hc:w.cell? ⟨bt,0,none⟩=some (.slice ao len cap))(h:¬ (0<=i/\i<(len:Int))):
  Calls Tryz.prog 7 #[.pointer (some ⟨bt,0,none⟩),.int .i64 i] w (ShowP none w) :=
 show_no _ i w fun W hb=>each_no bt ao len cap i W ((hb.cell (p:=⟨bt,0,none⟩) (World.block_lt_of_cell? _ _ hc)).trans hc) h
theorem show_nil (i:Int)(w:World):Calls Tryz.prog 7 #[.pointer none,.int .i64 i] w (ShowP none w) :=
 show_no _ i w fun W _=>each_nil i W
end
section
open Go.RowKit Tn Lx
abbrev z0:Nd:=⟨⟨#[118,97,114]⟩,1,3,⟨#[97]⟩,0,[]⟩
abbrev z1:Nd:=⟨⟨#[118,97,114]⟩,1,6,⟨#[98]⟩,0,[]⟩
abbrev z2:Nd:=⟨⟨#[115,101,113]⟩,1,4,⟨#[]⟩,0,[0,1]⟩
abbrev z3:Nd:=⟨⟨#[105,110,116]⟩,1,16,⟨#[]⟩,1,[]⟩
abbrev z4:Nd:=⟨⟨#[118,97,114]⟩,1,18,⟨#[120]⟩,0,[]⟩
abbrev z5:Nd:=⟨⟨#[99,97,108,108]⟩,1,14,⟨#[102]⟩,0,[3,4]⟩
abbrev z6:Nd:=⟨⟨#[110,101,103]⟩,1,12,⟨#[]⟩,0,[5]⟩
abbrev z7:Nd:=⟨⟨#[42]⟩,1,10,⟨#[]⟩,0,[2,6]⟩
abbrev zs:List Nd:=[z0,z1,z2,z3,z4,z5,z6,z7]
abbrev zText:B:=[40,40,97,59,32,98,41,41,32,42,32,45,40,102,40,49,44,120,41,41]
abbrev zOut:B:=[40,97,59,32,98,41,32,42,32,45,32,102,40,49,44,32,120,41]
theorem z_parse:Ex.parse 300 zText = .ok 7 zs:=by kernel_rfl
theorem z_txt:txt zs 7=zOut:=by kernel_rfl
theorem z_fits:fitsB zs 7=true:=by kernel_rfl
abbrev ys8:List Nd:=[⟨⟨#[118,97,114]⟩,1,2,⟨#[97]⟩,0,[]⟩,⟨⟨#[118,97,114]⟩,1,5,⟨#[98]⟩,0,[]⟩,⟨⟨#[115,101,113]⟩,1,3,⟨#[]⟩,0,[0,1]⟩,⟨⟨#[105,110,116]⟩,1,14,⟨#[]⟩,1,[]⟩,⟨⟨#[118,97,114]⟩,1,17,⟨#[120]⟩,0,[]⟩,
 ⟨⟨#[99,97,108,108]⟩,1,12,⟨#[102]⟩,0,[3,4]⟩,⟨⟨#[110,101,103]⟩,1,10,⟨#[]⟩,0,[5]⟩,⟨⟨#[42]⟩,1,8,⟨#[]⟩,0,[2,6]⟩]
theorem z_again:Ex.parse 300 zOut = .ok 7 ys8:=by kernel_rfl
theorem z_same:sameB zs ys8 7 7=true:=by kernel_rfl
theorem z_show:showT 300 zs 7=some zOut:=by
 rw [showT_ok z_fits (by rw [z_txt];exact z_again),if_pos z_same,z_txt]
theorem len_fuel {l:B}(h:l.length<=25):∀ ts,Lx.whole l = .ok ts->10*ts.length+8<300:=fun ts hw=>by
 have:ts.length<=27:=by
  unfold whole at hw
  split at hw
  ·cases hw
  ·split at hw
   ·cases hw
   ·have:=toks_len _ _ _ _ _ hw;omega
 omega
theorem lives8_any (w:World)(hw:Wd w):Calls Tryz.prog 4 #[] w fun e w'=>e = .returned (.bool true)/\Below w.heap.size w w':=by
 have hp:=parse_any 300 (by omega) ⟨zText.toArray⟩ w (by decide) hw.u8 hw.err (by show Ex.parse 300 zText≠_;rw [z_parse];exact fun e=>by cases e);have hread:=(Ex.parse_read (n:=300) (l:=zText) (len_fuel (by decide))).2 7 zs z_parse;rw [show Ex.parse 300 (⟨zText.toArray⟩:ByteArray).data.toList = .ok 7 zs from z_parse] at hp;have HP:=Lib.hid hp;have HW:=Lib.hid hw;clear hp hw
 go_enter Tryz.func4,Tryz.ntmps4
 go_wp2_with fail
 refine HP.out.mono ?_;rintro e w1 ⟨hb1,⟨i,ns,B,bt,v,l,he,rfl,hl,ht,hlt⟩ | ⟨cd,p,he,_⟩⟩
 rotate_left
 ·cases he
 injection he with he1 he2
 subst he1 he2;have htr:=Tr.of_read ht hl hread;have hs:=show_any 300 (by omega) bt zs 7 w1 (HW.out.below hb1) htr hread.lt (fun _=>by rw [z_txt];decide) (fun _=>by rw [z_txt];exact (Ex.parse_read (n:=300) (l:=zOut) (len_fuel (by decide))).1) (fun j ns h=>(Ex.parse_read (n:=300) (l:=zOut) (len_fuel (by decide))).2 j ns (by rw [<- z_txt];exact h));rw [z_show] at hs;have HS:=Lib.hid hs;have HB1:=Lib.hid hb1;clear hs hb1 htr ht hl HP
 go_wp2_with fail
 refine HS.out.mono ?_;rintro e w2 ⟨rfl,hb2⟩;have HB2:=Lib.hid (HB1.out.trans (hb2.mono HB1.out.size));clear hb2;unfold showV
 go_wp2
 go_ret
 exact ⟨rfl,HB2.out⟩
theorem show_read (bt i:Nat)(ns:List Nd)(w:World)(hw:Wd w)(ht:Tr w bt ns)(hi:i<ns.length):Calls Tryz.prog 7 #[.pointer (some ⟨bt,0,none⟩),.int .i64 (i:Int)] w (ShowP (showT Ex.FU ns i) w) :=
 show_any Ex.FU (by unfold Ex.FU;omega) bt ns i w hw ht hi (fun h=>txt_len ht.wf hi ht.kids ht.nums h) (fun _=>(Ex.parse_all _).1) (fun j ns h=>(Ex.parse_all _).2 j ns h)
end
section
open Go.RowKit Tn
def lawT (ms:List Nd)(i:Int):Option Lx.B:=if 0<=i/\i<(ms.length:Int) then showT Ex.FU ms i.toNat else none
theorem lawT_in {ms:List Nd}{i:Nat}(h:i<ms.length):lawT ms (i:Int)=showT Ex.FU ms i:=by
 unfold lawT;rw [if_pos ⟨by omega,by omega⟩,Int.toNat_natCast]
theorem lawT_no {ms:List Nd}{i:Int}(h:¬ (0<=i/\i<(ms.length:Int))):lawT ms i=none:=if_neg h
theorem show_law (bt:Nat)(ms:List Nd)(i:Int)(w:World)(hw:Wd w)(ht:Tr w bt ms):Calls Tryz.prog 7 #[.pointer (some ⟨bt,0,none⟩),.int .i64 i] w (ShowP (lawT ms i) w):=by
 by_cases h:0<=i/\i<(ms.length:Int)
 ·obtain ⟨k,rfl⟩:∃ k:Nat,i=(k:Int):=⟨i.toNat,by omega⟩;rw [lawT_in (by omega)];exact show_read bt k ms w hw ht (by omega)
 ·rw [lawT_no h];obtain ⟨ao,cap,hta⟩:=ht.at_;exact show_away bt ao ms.length cap i w hta.cell h
theorem rexpr_law (N:Nat)(mo:Option Addr)(mc:Nat)(ms:List Nd)(hw:WF ms)(hg:Tn.Good ms)(hpl:∀ i,i<ms.length->(Pl ms i).length<=2000)(hf:∀ i,i<ms.length->(nd ms i).kids.length<=2000)(hnum:∀ j,j<ms.length -> -9223372036854775807<=(nd ms j).num/\(nd ms j).num<=9223372036854775807)(hname:∀ i,i<ms.length->(nd ms i).name.size<=2000)
  (i:Int) (w:World) (hm:NodesAt N w mo ms) (hN:N<=w.heap.size):
  Calls Tryz.prog 8 #[.slice mo ms.length mc,.int .i64 i] w (RExprP (lawT ms i) w):=by
 by_cases h:0<=i/\i<(ms.length:Int)
 ·obtain ⟨k,rfl⟩:∃ k:Nat,i=(k:Int):=⟨i.toNat,by omega⟩;have hk:k<ms.length:=by omega
  rw [lawT_in hk,show_rexpr (n:=Ex.FU) hw hf hnum (fun l ts h=>by have:=Lx.whole_len h;unfold Ex.FU;omega) hk (hpl k hk)];exact rexpr_in Ex.FU (by unfold Ex.FU;omega) N mo mc ms hw hg hf hnum hname (fun l ts h=>by have:=Lx.whole_len h;unfold Ex.FU;omega) hpl k hk w hm hN
 ·rw [lawT_no h];exact rexpr_no mo ms.length mc i w h
end
section
open Go.RowKit Tn
structure SmMem (w:World)(L:List Nd)(k:Nat)(nn:Int)(v:Value)(zs:List Int)(wr:World):Prop where
 own:wr.ownsRow w.heap.size 3 1 v zs.length (ints zs)
 len:zs.length=(build (L.take k)).length
 eqs:∀ i,i<zs.length->kid zs i=((Pl (build (L.take k)) i).length:Int)
 le:∀ i,i<zs.length->(Pl (build (L.take k)) i).length<=2000
 n0:(k:Int)<=nn
 n1:nn<=2000
 few:∀ i,i<k->(nd L i).kids.length<=2000/\(nd L i).name.size<=2000
 below:Below w.heap.size w wr
def SmallOk (L:List Nd):Prop:=L.length<=2000/\(∀ i,i<L.length->(nd L i).kids.length<=2000/\(nd L i).name.size<=2000)/\(build L).length<=2000/\∀ i,i<(build L).length->(Pl (build L) i).length<=2000
def SmallP (w:World)(L:List Nd)(e:Ending)(w':World):Prop:=∃ b,e = .returned (.bool b)/\(b=true->SmallOk L)/\Below w.heap.size w w'
theorem kid_snoc_lt {zs:List Int}{x:Int}{i:Nat}(h:i<zs.length):kid (zs++[x]) i=kid zs i:=by simp [kid,List.getElem?_append_left h]
theorem kid_snoc_last {zs:List Int}{x:Int} : kid (zs++[x]) zs.length=x:=by simp [kid]
theorem partPl_bound {ms:List Nd}{ks:List Int}{j:Nat}(hj:j<ks.length)(h:(Pl ms (kid ks j).toNat).length<=2000)(hb:(partPl ms ks j).length<=2000*j):(partPl ms ks (j+1)).length<=2000*(j+1):=by
 rw [partPl_succ _ hj,List.length_append];omega
theorem SmMem.later {w:World}{L:List Nd}{k:Nat}{nn:Int}{v:Value}{zs:List Int}{wr w':World}(h:SmMem w L k nn v zs wr)(hb:Below wr.heap.size wr w'):SmMem w L k nn v zs w' :=
 ⟨(But.of_below (p:=fun _=>False) hb).own h.own (fun _ _ e=>e),h.len,h.eqs,h.le,h.n0,h.n1,h.few,h.below.trans (hb.mono h.below.size)⟩
theorem SmMem.no {w:World}{L:List Nd}{k:Nat}{nn nn':Int}{v:Value}{zs:List Int}{wr:World}(h:SmMem w L k nn v zs wr)(hk:k<L.length)(hf:fits zs.length (nd L k)=false)(h1:nn+1<=nn')(h2:nn'<=2000)(hn:(nd L k).kids.length<=2000/\(nd L k).name.size<=2000):SmMem w L (k+1) nn' v zs wr:=by
 have e:build (L.take (k+1))=build (L.take k):=by
  rw [take_succ_nd hk,build_snoc,add,<- h.len,hf];rfl
 exact ⟨h.own,by rw [e];exact h.len,by rw [e];exact h.eqs,by rw [e];exact h.le,by have:=h.n0;omega,h2,fun i hi=>by
  by_cases hik:i=k
  ·subst hik;exact hn
  ·exact h.few i (by omega),h.below⟩
theorem SmMem.yes {w:World}{L:List Nd}{k:Nat}{nn nn':Int}{v v':Value}{zs:List Int}{wr w':World}{x:Int}(h:SmMem w L k nn v zs wr)(hk:k<L.length)(hf:fits zs.length (nd L k)=true)(h1:nn+1<=nn')(h2:nn'<=2000)(hn:(nd L k).kids.length<=2000/\(nd L k).name.size<=2000)
  (hx:x=((partPl (build (L.take k)) (nd L k).kids (nd L k).kids.length).length:Int)+1) (hx2:x<=2000) (ho:w'.ownsRow w.heap.size 3 1 v' (zs.length+1) (ints (zs++[x]))) (hb:Below w.heap.size w w'):SmMem w L (k+1) nn' v' (zs++[x]) w':=by
 have e:build (L.take (k+1))=build (L.take k)++[nd L k]:=by
  rw [take_succ_nd hk,build_snoc,add,<- h.len,if_pos hf]
 have hw:=WF.ofBuild (L.take k);have hf':fits (build (L.take k)).length (nd L k)=true:=by rw [<- h.len];exact hf
 have hlast:Pl (build (L.take k)++[nd L k]) (build (L.take k)).length=(build (L.take k)).length :: partPl (build (L.take k)) (nd L k).kids (nd L k).kids.length:=by
  rw [Pl_eq (hw.snoc hf') (by simp),nd_last]
  congr 1
  simp only [partPl,List.take_length];refine flatMap_congr _ fun q hq=>?_;have:=fits_iff.1 hf' q hq;exact Pl_lt hw _ hf' _ (by omega)
 refine ⟨by rw [List.length_append];exact ho,by rw [e,List.length_append,List.length_append,h.len];rfl, ?_, ?_,by have:=h.n0;omega,h2, ?_,hb⟩
 ·intro i hi;rw [e]
  by_cases hl:i<zs.length
  ·rw [kid_snoc_lt hl,Pl_lt hw _ hf' i (by rw [<- h.len];exact hl)];exact h.eqs i hl
  ·obtain rfl:i=zs.length:=by simp at hi;omega
   rw [kid_snoc_last,h.len,hlast,hx,List.length_cons];omega
 ·intro i hi;rw [e]
  by_cases hl:i<zs.length
  ·rw [Pl_lt hw _ hf' i (by rw [<- h.len];exact hl)];exact h.le i hl
  ·obtain rfl:i=zs.length:=by simp at hi;omega
   rw [h.len,hlast,List.length_cons];omega
 ·intro i hi
  by_cases hik:i=k
  ·subst hik;exact hn
  ·exact h.few i (by omega)
theorem small_any (w:World)(ao:Option Addr)(cap:Nat)(L:List Nd)(hA:NodesAt w.heap.size w ao L)(hL:L.length<=140737488355328)(hS:∀ i,i<L.length->(nd L i).op.size<=140737488355328/\(nd L i).name.size<=140737488355328/\(nd L i).kids.length<=140737488355328):
  Calls Tryz.prog 5 #[.slice ao L.length cap] w (SmallP w L):=by
 have hm0:SmMem w L 0 0 (.slice none 0 0) [] w:=⟨⟨rfl,.inl ⟨rfl,rfl⟩⟩,rfl,fun i hi=>(by simp at hi),fun i hi=>(by simp at hi),by omega,by omega,fun i hi=>(by omega),Below.refl _ _⟩;have H0:=Lib.hid hm0;have HA:=Lib.hid hA;have HS:=Lib.hid hS;obtain ⟨i0,hi,hz0,hz1,hz2⟩:=info_parts Tryz.info3;have HI:=Lib.hid hi;have HZ:=Lib.hid hz0;have HZ1:=Lib.hid hz1;have HZ2:=Lib.hid hz2;clear hm0 hA hS hi hz0 hz1 hz2
 go_enter Tryz.func5,Tryz.ntmps5
 go_wp2
 go_loopw [3,4,13] (fun n v i wr=>∃ (k:Nat) (nn:Int) (vo:Option Addr) (vc:Nat) (zs:List Int),k<=L.length/\i = .int .i64 k/\n = .int .i64 nn/\v = .slice vo zs.length vc/\SmMem w L k nn (.slice vo zs.length vc) zs wr) (fun _ _ i _=>L.length-(intOf i).toNat)
 case atStart=>exact ⟨0,0,none,0,[],Nat.zero_le _,rfl,rfl,rfl,H0.out⟩
 case round =>
  obtain ⟨k,nn,vo,vc,zs,hk,rfl,rfl,rfl,hm⟩:=hrel;have n0:=hm.n0;have n1:=hm.n1
  by_cases hlt:k<L.length
  ·obtain ⟨b,o,ka,kc,rfl,hn0⟩:=HA.out k hlt;have hn:=hn0.below hm.below;obtain ⟨hs1,hs2,hs3⟩:=HS.out k hlt;have c0:=hn.c0;have c1:=hn.c1;have c2:=hn.c2;have c3:=hn.c3;have c4:=hn.c4;have c5:=hn.c5
   by_cases hbig:2000<nn+(1+((nd L k).kids.length:Int)+((nd L k).op.size:Int)+((nd L k).name.size:Int))
   ·go_wp2
    go_ret
    refine ⟨false,rfl,fun h=>(by cases h), ?_⟩;exact hm.below.alloc hm.below.size _
   ·go_wp2_with fail
    obtain ⟨w1,hw1⟩:∃ w1,wr.alloc (.cells #[.string (nd L k).op,.int .i64 (nd L k).line,.int .i64 (nd L k).col,.string (nd L k).name,.int .i64 (nd L k).num,.slice ka (nd L k).kids.length kc] 30)=w1:=⟨_,rfl⟩;have hb1:Below wr.heap.size wr w1:=by rw [<- hw1];exact (Below.refl _ _).alloc (Nat.le_refl _) _
    rw [hw1];have hm1:=hm.later hb1;have hkid:IntsAt w.heap.size w1 ka (nd L k).kids:=hn.kids.below (hb1.mono hm.below.size);have hnew:nn+1<=nn+(1+((nd L k).kids.length:Int)+((nd L k).op.size:Int)+((nd L k).name.size:Int))/\nn+(1+((nd L k).kids.length:Int)+((nd L k).op.size:Int)+((nd L k).name.size:Int))<=2000:=by omega
    have hfew:(nd L k).kids.length<=2000/\(nd L k).name.size<=2000:=⟨by omega,by omega⟩;clear hw1 hb1 hm hn hn0 c0 c1 c2 c3 c4 c5 hbig;generalize nn+(1+((nd L k).kids.length:Int)+((nd L k).op.size:Int)+((nd L k).name.size:Int))=nn' at *;obtain ⟨hnew1,hnew2⟩:=hnew;have hlen:=hm1.len;have HLEN:=Lib.hid hlen;have HKID:=Lib.hid hkid;clear hlen hkid
    go_loop [7,8,36] (fun all there i=>∃ j:Nat,j<=(nd L k).kids.length/\i = .int .i64 j/\there = .bool true/\all = .int .i64 (1+((partPl (build (L.take k)) (nd L k).kids j).length:Int))/\(partPl (build (L.take k)) (nd L k).kids j).length<=2000*j/\∀ t,t<j->0<=kid (nd L k).kids t/\kid (nd L k).kids t<(zs.length:Int)) (fun _ _ i=>(nd L k).kids.length-(intOf i).toNat)
    case atStart=>exact ⟨0,Nat.zero_le _,rfl,rfl,rfl,by simp [partPl_zero],fun t ht=>by omega⟩
    case round =>
     obtain ⟨j,hj,rfl,rfl,rfl,hsum,hall⟩:=hrel;have HALL:=Lib.hid hall;clear hall
     by_cases hjl:j<(nd L k).kids.length
     ·obtain ⟨b2,o2,rfl,hlt2,hc2⟩:=HKID.out j hjl
      by_cases hin:0<=kid (nd L k).kids j/\kid (nd L k).kids j<(zs.length:Int)
      ·obtain ⟨h0,h1⟩:=hin;obtain ⟨q,hq⟩:∃ q:Nat,kid (nd L k).kids j=(q:Int):=⟨(kid (nd L k).kids j).toNat,by omega⟩;have hql:q<zs.length:=by omega
       obtain ⟨g,o3,hvo,_,hc3⟩:=own_ints hm1.own q hql;rw [hm1.eqs q hql] at hc3;have hle:=hm1.le q hql;have hps:=partPl_succ (build (L.take k)) hjl;have hpb:=partPl_bound (ms:=build (L.take k)) hjl (by rw [hq];exact hle) hsum;have hnext:(partPl (build (L.take k)) (nd L k).kids (j+1)).length=(partPl (build (L.take k)) (nd L k).kids j).length+(Pl (build (L.take k)) q).length:=by rw [hps,List.length_append,hq];rfl
       have HQ:=Lib.hid hq;have HN:=Lib.hid hnext;have HVO:=Lib.hid hvo;rw [hq] at hc2 h0 h1;subst hvo;clear hq hnext hps
       go_wp2
       go_round
       case rel =>
        refine ⟨j+1,by omega,by go_num,rfl,by rw [HN.out];go_num,by omega, ?_⟩;intro t ht
        by_cases htj:t=j
        ·subst htj;rw [HQ.out];omega
        ·exact HALL.out t (by omega)
       case measure=>simp [intOf];omega
      ·have hno:fits zs.length (nd L k)=false:=by
        rw [<- Bool.not_eq_true,fits_at];exact fun h=>hin (h j hjl)
       have HNO:=Lib.hid hno;have hor:kid (nd L k).kids j<0\/(0<=kid (nd L k).kids j/\(zs.length:Int)<=kid (nd L k).kids j):=by omega
       clear hno hin
       rcases hor with h0 | ⟨h0,h1⟩
       all_goals
        go_wp2
        ·go_ret
         exact ⟨false,rfl,fun h=>(by cases h),hm1.below⟩
        ·go_roundw
         case rel=>exact ⟨k+1,nn',vo,vc,zs,by omega,by go_num,rfl,rfl,hm1.no hlt HNO.out hnew1 hnew2 hfew⟩
         case measure=>simp [intOf];omega
     ·obtain rfl:j=(nd L k).kids.length:=by omega
      have hyes:fits zs.length (nd L k)=true:=fits_at.2 fun t ht=>HALL.out t ht;have HYES:=Lib.hid hyes;clear HALL hyes
      by_cases hgt:2000<1+((partPl (build (L.take k)) (nd L k).kids (nd L k).kids.length).length:Int)
      ·go_wp2
       go_ret
       exact ⟨false,rfl,fun h=>(by cases h),hm1.below⟩
      ·have hzl:zs.length<=2000:=by
        have:=build_len (L.take k);have h9:=HLEN.out;have:(L.take k).length<=k:=by simp;omega
        omega
       go_wp2_with (at_builtin;refine wpList_append_own _ rfl (.tmp 58) (.tmp 60) 28 rfl w.heap.size 3 i0 _ 1 8 Tryz.underlying28 HI.out HZ.out HZ1.out HZ2.out rfl (by decide) (.slice vo zs.length vc) zs.length (ints zs) rfl (hm1.own.alloc _) ⟨w1.heap.size,0,none⟩ 1 1 [.int .i64 (1+((partPl (build (L.take k)) (nd L k).kids (nd L k).kids.length).length:Int))] rfl rfl (World.news_of_block (cs:=#[.int .i64 (1+((partPl (build (L.take k)) (nd L k).kids (nd L k).kids.length).length:Int))]) (t:=3) (fr:=(0,0)) (heap_alloc_new w1 _)) (by intro x hx;simp at hx;subst hx;rfl) (by unfold maxLen;omega) (by omega) (by have:=hm1.below.size;simp;omega) ?_;intro v2 w2 hown2 hgrow2 hnil2)
       obtain ⟨vo2,vc2,rfl⟩:=own_form hown2;have hB:Below w.heap.size w w2:=(hm1.below.alloc hm1.below.size _).grown hgrow2 (by have:=hm1.below.size;simp;omega) (fun q e=>(own_tag hm1.own e).1);have hfin:=hm1.yes (x:=1+((partPl (build (L.take k)) (nd L k).kids (nd L k).kids.length).length:Int)) hlt HYES.out hnew1 hnew2 hfew (by omega) (by omega) (by simpa [ints] using hown2) hB;exact ⟨⟨k+1,nn',vo2,vc2,zs++[1+((partPl (build (L.take k)) (nd L k).kids (nd L k).kids.length).length:Int)],by omega,by go_num,rfl,by simp,by simpa using hfin⟩,by simp [intOf];omega⟩
  ·obtain rfl:k=L.length:=by omega
   have HM:=Lib.hid hm;clear hm
   go_wp2
   go_ret
   have hm:=HM.out;refine ⟨true,rfl,fun _=>⟨by omega,fun i hi=>hm.few i hi, ?_, ?_⟩,hm.below⟩
   ·have:=build_len L;omega
   ·intro i hi;have h1:=hm.len;have h2:=hm.le;rw [List.take_length] at h1 h2;exact h2 i (by omega)
end
end Go.Proofs.YtninlbknklbofaaGreatDoor
