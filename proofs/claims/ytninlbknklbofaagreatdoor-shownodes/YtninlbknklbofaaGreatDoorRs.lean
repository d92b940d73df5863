/- A part of the proof: A part of the proof. -/
import Derived.Test.YtninlbknklbofaaGreatDoorTAdd
import Derived.Laws.AppendOwnNone
set_option linter.unusedSimpArgs false
set_option linter.unusedVariables false
set_option maxRecDepth 100000
set_option maxHeartbeats 4000000
namespace Go.Proofs.YtninlbknklbofaaGreatDoor
section
open Go.RowKit Tn
def RAddP (w:World)(mv:Value)(l:List SN)(s:SN)(e:Ending)(w':World):Prop :=
 (fits l.length s.n=false/\e = .returned (.tuple #[mv,.int .i64 1])/\Below w.heap.size w w') \/
 (fits l.length s.n=true/\∃ mv',e = .returned (.tuple #[mv',.int .i64 0])/\w'.ownsRow w.heap.size 30 6 mv' (l.length+1) (cells6 (l++[s]))/\Below w.heap.size w w')
theorem own_news {w:World}{base:Nat}{t:TypeId}{z:Nat}{a:Addr}{n c:Nat}{xs:List Value}(h:w.ownsRow base t z (.slice (some a) n c) n xs):∀ j u,xs[j]? = some u->w.cell? (a.add j)=some u:=by
 intro j u hu
 rcases h.2 with ⟨e,_⟩ | ⟨g,cap,cur,hv,_⟩
 ·cases e
 ·cases hv
  rw [Addr.add_lit,Nat.zero_add];exact own_cell h hu
theorem radd_any (B N:Nat)(mo:Option Addr)(mc:Nat)(l:List SN)(n:Nd)(ka:Option Addr)(kc:Nat)(w:World)(hm:w.ownsRow B 30 6 (.slice mo l.length mc) l.length (cells6 l))(hk:IntsAt N w ka n.kids)(hl:n.kids.length<=2000)(hs:l.length<=2000):
  Calls Tryz.prog 11 #[.slice mo l.length mc,.agg #[.string n.op,.int .i64 n.line,.int .i64 n.col,.string n.name,.int .i64 n.num,.slice ka n.kids.length kc]] w (RAddP w (.slice mo l.length mc) l ⟨n,ka,kc⟩):=by
 generalize hW:w.alloc (.cells #[.string n.op,.int .i64 n.line,.int .i64 n.col,.string n.name,.int .i64 n.num,.slice ka n.kids.length kc] 30)=W;have hbW:Below w.heap.size w W:=by rw [<- hW];exact (Below.refl _ w).alloc (Nat.le_refl _) _
 have hsW:W.heap.size=w.heap.size+1:=by rw [<- hW];simp
 have s1:Six W w.heap.size 30 (.string n.op) (.int .i64 n.line) (.int .i64 n.col) (.string n.name) (.int .i64 n.num) (.slice ka n.kids.length kc):=⟨by rw [<- hW];exact blk_new w _⟩;have hkW:IntsAt w.heap.size W ka n.kids:=(IntsAt.below (N:=w.heap.size) (fun i hi=>by
  obtain ⟨b,o,e,_,hc⟩:=hk i hi;exact ⟨b,o,e,by have:=World.block_lt_of_cell? _ _ hc;exact this,hc⟩) hbW)
 have hmW:W.ownsRow B 30 6 (.slice mo l.length mc) l.length (cells6 l):=by rw [<- hW];exact hm.alloc _
 obtain ⟨i0,hi,hz0,hz1,hz2⟩:=info_parts Tryz.info30;have HI:=Lib.hid hi;have HZ:=Lib.hid hz0;have HZ1:=Lib.hid hz1;have HZ2:=Lib.hid hz2;have HK:=Lib.hid hkW;have HW:=Lib.hid hW;have HS:=Lib.hid hsW;have HM:=Lib.hid hmW;clear hk hkW hsW hm hmW hi hz0 hz1 hz2 hW
 go_enter Tryz.func11,Tryz.ntmps11
 go_wp2_with fail
 rw [HW.out];have c0:=s1.c0;have c1:=s1.c1;have c2:=s1.c2;have c3:=s1.c3;have c4:=s1.c4;have c5:=s1.c5
 go_loop [6] (fun i=>∃ k:Nat,k<=n.kids.length/\i = .int .i64 k/\∀ j,j<k->0<=kid n.kids j/\kid n.kids j<(l.length:Int)) (fun i=>n.kids.length-(intOf i).toNat)
 case atStart=>exact ⟨0,Nat.zero_le _,rfl,by intro j hj;omega⟩
 case round =>
  obtain ⟨k,hk',rfl,hall⟩:=hrel;have HA:=Lib.hid hall;clear hall
  by_cases hlt:k<n.kids.length
  ·obtain ⟨b,o,rfl,hb,hcell⟩:=HK.out k hlt
   by_cases h0:0<=kid n.kids k
   ·by_cases h1:kid n.kids k<(l.length:Int)
    ·go_wp2
     go_round
     case rel =>
      refine ⟨k+1,by omega,by go_num, ?_⟩;intro j hj
      by_cases hjk:j=k
      ·subst hjk;exact ⟨h0,h1⟩
      ·exact HA.out j (by omega)
     case measure=>simp [intOf];omega
    ·go_wp2
     go_ret2
     refine .inl ⟨?_,rfl,hbW⟩;rw [<- Bool.not_eq_true,fits_at];exact fun h=>by have h2:kid n.kids k<(l.length:Int):=(h k hlt).2;omega
   ·go_wp2
    go_ret2
    refine .inl ⟨?_,rfl,hbW⟩;rw [<- Bool.not_eq_true,fits_at];exact fun h=>by have h2:0<=kid n.kids k:=(h k hlt).1;omega
  ·have hfit:fits l.length n=true:=fits_at.2 fun i hi=>HA.out i (by omega);have HF:=Lib.hid hfit;clear HA hfit
   cases mo with
   | none =>
    obtain ⟨e1,e2⟩:l=[]/\mc=0:=by
     rcases HM.out.2 with ⟨e,e'⟩ | ⟨g,cap,cur,e,_⟩
     ·injection e with _ _ e2;exact ⟨List.eq_nil_of_length_eq_zero e',e2⟩
     ·cases e
    subst e1;subst e2
    go_wp2_with (first | (at_builtin;refine wpList_append_own _ rfl (.tmp 39) (.tmp 41) 22 rfl w.heap.size 30 i0 _ 6 80 Tryz.underlying22 HI.out HZ.out HZ1.out HZ2.out rfl (by decide) _ 0 ([]) rfl (ho1.alloc _) ⟨w1.heap.size,0,none⟩ 1 1 (cell6 ⟨n,ka,kc⟩) rfl rfl (World.news_of_block (cs:=#[.string n.op,.int .i64 n.line,.int .i64 n.col,.string n.name,.int .i64 n.num,.slice ka n.kids.length kc]) (t:=30) (fr:=(0,0)) (heap_alloc_new w1 _)) (by intro x hx;simp only [cell6,List.mem_cons,List.not_mem_nil,or_false] at hx;rcases hx with rfl | rfl | rfl | rfl | rfl | rfl <;> rfl) (by unfold maxLen;omega) (by omega) (by have:=hb1.size;have:=hbW.size;simp;omega) ?_;intro v2 w2 hown2 hgrow2 hnil2) | (at_builtin;refine wpList_append_own_none rfl (.tmp 36) (.tmp 37) 22 rfl w.heap.size 30 i0 6 Tryz.underlying22 HI.out (.slice (some ⟨W.heap.size,0,none⟩) 0 0) 0 [] rfl (own_mono (empty_row W 30 6) hbW.size) rfl ?_;obtain ⟨w1,hw1⟩:∃ w1,W.alloc (.cells #[] 30)=w1:=⟨_,rfl⟩;rw [hw1];have ho1:w1.ownsRow w.heap.size 30 6 (.slice (some ⟨W.heap.size,0,none⟩) 0 0) 0 []:=(by rw [<- hw1];exact own_mono (empty_row W 30 6) hbW.size);have hb1:Below W.heap.size W w1:=(by rw [<- hw1];exact (Below.refl _ W).alloc (Nat.le_refl _) _);have s2:=s1.below hb1 (by have:=HS.out;omega);have d0:=s2.c0;have d1:=s2.c1;have d2:=s2.c2;have d3:=s2.c3;have d4:=s2.c4;have d5:=s2.c5;clear hw1))
    go_ret2
    refine .inr ⟨HF.out,v2,rfl,by rw [cells6_snoc];exact hown2, ?_⟩;exact ((hbW.trans (hb1.mono hbW.size)).alloc (by have:=hb1.size;have:=hbW.size;omega) _).grown hgrow2 (by have:=hb1.size;have:=hbW.size;simp;omega) (fun q e=>(own_tag ho1 e).1)
   | some a =>
    have hnews:∀ j u,(cells6 l)[j]? = some u->(W.alloc (.cells #[] 30)).cell? (a.add j)=some u:=own_news (HM.out.alloc _);have HNW:=Lib.hid hnews;clear hnews
    go_wp2_with (first | (at_builtin;refine wpList_append_own _ rfl (.tmp 39) (.tmp 41) 22 rfl w.heap.size 30 i0 _ 6 80 Tryz.underlying22 HI.out HZ.out HZ1.out HZ2.out rfl (by decide) _ l.length (cells6 l) rfl (ho1.alloc _) ⟨w1.heap.size,0,none⟩ 1 1 (cell6 ⟨n,ka,kc⟩) rfl rfl (World.news_of_block (cs:=#[.string n.op,.int .i64 n.line,.int .i64 n.col,.string n.name,.int .i64 n.num,.slice ka n.kids.length kc]) (t:=30) (fr:=(0,0)) (heap_alloc_new w1 _)) (by intro x hx;simp only [cell6,List.mem_cons,List.not_mem_nil,or_false] at hx;rcases hx with rfl | rfl | rfl | rfl | rfl | rfl <;> rfl) (by unfold maxLen;omega) (by omega) (by have:=hb1.size;have:=hbW.size;simp;omega) ?_;intro v2 w2 hown2 hgrow2 hnil2) | (at_builtin;refine wpList_append_own _ rfl (.tmp 36) (.tmp 37) 22 rfl w.heap.size 30 i0 _ 6 80 Tryz.underlying22 HI.out HZ.out HZ1.out HZ2.out rfl (by decide) (.slice (some ⟨W.heap.size,0,none⟩) 0 0) 0 [] rfl (own_mono (empty_row W 30 6) hbW.size) a l.length mc (cells6 l) rfl (cells6_len l) HNW.out (cells6_one l) (by unfold maxLen;omega) (by omega) (by have:=hbW.size;simp;omega) ?_;intro v1 w1 ho1 hg1 hn1;rw [Nat.zero_add,List.nil_append] at ho1;have hb1:Below W.heap.size W w1:=((Below.refl _ W).alloc (Nat.le_refl _) _).grown hg1 (by simp) (fun q e=>by cases e;exact Nat.le_refl _);have s2:=s1.below hb1 (by have:=HS.out;omega);have d0:=s2.c0;have d1:=s2.c1;have d2:=s2.c2;have d3:=s2.c3;have d4:=s2.c4;have d5:=s2.c5;clear hg1 hn1))
    go_ret2
    refine .inr ⟨HF.out,v2,rfl,by rw [cells6_snoc];exact hown2, ?_⟩;exact ((hbW.trans (hb1.mono hbW.size)).alloc (by have:=hb1.size;have:=hbW.size;omega) _).grown hgrow2 (by have:=hb1.size;have:=hbW.size;simp;omega) (fun q e=>(own_tag ho1 e).1)
end
section
open Go.RowKit Tn
structure OfMem (W0:World)(L:List Nd)(k:Nat)(v:Value)(st:List SN)(mv:Value)(sm:List SN)(wr:World):Prop where
 tree:TreeOwn (W0.heap.size+1) wr W0.heap.size v st
 own:wr.ownsRow (W0.heap.size+1) 30 6 mv sm.length (cells6 sm)
 ne:∀ g,mv.ownBlock=some g->v.ownBlock≠some g
 eqT:nds st=build (L.take k)
 eqM:nds sm=build (L.take k)
 below:Below W0.heap.size W0 wr
 kids:∀ s∈sm,IntsAt W0.heap.size wr s.ka s.n.kids/\(s.ka=none->s.kc=0)
theorem take_succ_nd {L:List Nd}{k:Nat}(h:k<L.length):L.take (k+1)=L.take k++[nd L k]:=by
 rw [List.take_succ_eq_append_getElem h];simp [nd,h]
theorem OfMem.len {W0:World}{L:List Nd}{k:Nat}{v:Value}{st:List SN}{mv:Value}{sm:List SN}{wr:World}(h:OfMem W0 L k v st mv sm wr):st.length=sm.length:=by
 have e:=congrArg List.length h.eqT;have e':=congrArg List.length h.eqM;rw [nds_len] at e e';omega
theorem OfMem.le {W0:World}{L:List Nd}{k:Nat}{v:Value}{st:List SN}{mv:Value}{sm:List SN}{wr:World}(h:OfMem W0 L k v st mv sm wr):st.length<=L.length:=by
 have e:=congrArg List.length h.eqT;have:=build_len (L.take k);rw [nds_len] at e;have:(L.take k).length<=L.length:=by simp;omega
 omega
theorem OfMem.later {W0:World}{L:List Nd}{k:Nat}{v:Value}{st:List SN}{mv:Value}{sm:List SN}{wr w':World}(h:OfMem W0 L k v st mv sm wr)(hb:Below wr.heap.size wr w'):OfMem W0 L k v st mv sm w':=by
 have hb':Below W0.heap.size wr w':=hb.mono h.below.size;exact ⟨h.tree.below hb,(But.of_below (p:=fun _=>False) hb).own h.own (fun _ _ e=>e),h.ne,h.eqT,h.eqM,h.below.trans hb',fun s hs=>⟨(h.kids s hs).1.below hb',(h.kids s hs).2⟩⟩
theorem OfMem.no {W0:World}{L:List Nd}{k:Nat}{v:Value}{st:List SN}{mv:Value}{sm:List SN}{wr w':World}(h:OfMem W0 L k v st mv sm wr)(hk:k<L.length)(hf:fits st.length (nd L k)=false)(hb:Below wr.heap.size wr w'):OfMem W0 L (k+1) v st mv sm w':=by
 have e:build (L.take (k+1))=build (L.take k):=by
  rw [take_succ_nd hk,build_snoc,<- h.eqT,add,nds_len,hf];rfl
 have hb':Below W0.heap.size wr w':=hb.mono h.below.size;exact ⟨h.tree.below hb,(But.of_below (p:=fun _=>False) hb).own h.own (fun _ _ e=>e),h.ne,by rw [e];exact h.eqT,by rw [e];exact h.eqM,h.below.trans hb',fun s hs=>⟨(h.kids s hs).1.below hb',(h.kids s hs).2⟩⟩
theorem OfMem.yes {W0:World}{L:List Nd}{k:Nat}{v:Value}{st:List SN}{mv:Value}{sm:List SN}{wr w1 w2:World}(h:OfMem W0 L k v st mv sm wr)(hk:k<L.length)(hf:fits st.length (nd L k)=true){v1:Value}{s1 s2:SN}{mv2:Value}
  (ht:TreeOwn (W0.heap.size+1) w1 W0.heap.size v1 (st++[s1])) (hb:But (fun q=>q=W0.heap.size\/some q=v.ownBlock) wr w1) (ho:w2.ownsRow w1.heap.size 30 6 mv2 (sm.length+1) (cells6 (sm++[s2]))) (hb2:Below w1.heap.size w1 w2)
  (h1:s1.n=nd L k) (h2:s2.n=nd L k) (hk2:IntsAt W0.heap.size w2 s2.ka s2.n.kids/\(s2.ka=none->s2.kc=0)):OfMem W0 L (k+1) v1 (st++[s1]) mv2 (sm++[s2]) w2:=by
 have e:build (L.take (k+1))=build (L.take k)++[nd L k]:=by
  rw [take_succ_nd hk,build_snoc,<- h.eqT,add,nds_len,if_pos hf]
 have hb1:Below W0.heap.size wr w1:=hb.below h.below.size (fun q hq=>by
  rcases hq with e | e
  ·omega
  ·have:=(own_tag h.tree.own e.symm).1;omega)
 have hb':Below W0.heap.size wr w2:=hb1.trans (hb2.mono (by have:=hb1.size;have:=h.below.size;omega));have hs:=hb1.size;have hs':=h.below.size;have hs'':=h.tree.size;refine ⟨ht.below hb2, ?_, ?_, ?_, ?_,h.below.trans hb', ?_⟩
 ·rw [List.length_append];exact own_mono ho (by omega)
 ·intro g hg hv;have:=(own_tag ho hg).1;obtain ⟨_,_,hh⟩:=own_tag ht.own hv;have:=lt_of_heap hh;omega
 ·rw [e,<- h.eqT];simp [nds,h1]
 ·rw [e,<- h.eqM];simp [nds,h2]
 ·intro s hs
  rcases List.mem_append.1 hs with hs | hs
  ·exact ⟨(h.kids s hs).1.below hb',(h.kids s hs).2⟩
  ·obtain rfl:s=s2:=by simpa using hs
   exact hk2
def OfP (W0:World)(L:List Nd)(e:Ending)(w':World):Prop :=
 ∃ bt ao cap mo mc,e = .returned (.tuple #[.pointer (some ⟨bt,0,none⟩),.slice mo (build L).length mc,.bool true])/\TreeAt w'.heap.size w' bt ao cap (build L)/\NodesAt w'.heap.size w' mo (build L)/\Below W0.heap.size W0 w'
theorem of_any (W0:World)(ao:Option Addr)(cap:Nat)(L:List Nd)(hA:NodesAt W0.heap.size W0 ao L)(hL:L.length<=2000)(hK:∀ i,i<L.length->(nd L i).kids.length<=2000):
  Calls Tryz.prog 6 #[.slice ao L.length cap] W0 (OfP W0 L):=by
 have hm0:OfMem W0 L 0 (.slice none 0 0) [] (.slice none 0 0) [] (W0.alloc (.cells #[.slice none 0 0] 45)) :=
  ⟨⟨blk_new _ _,⟨rfl,.inl ⟨rfl,rfl⟩⟩,fun s hs=>(by cases hs),by omega⟩,⟨rfl,.inl ⟨rfl,rfl⟩⟩,fun g hg=>(by cases hg),rfl,rfl,(Below.refl _ _).alloc (Nat.le_refl _) _,fun s hs=>(by cases hs)⟩
 have H0:=Lib.hid hm0;have HA:=Lib.hid hA;have HK:=Lib.hid hK;clear hm0 hA hK
 go_enter Tryz.func6,Tryz.ntmps6
 go_wp2
 go_loopw [6,17] (fun m i wr=>∃ (k:Nat) (v:Value) (st:List SN) (mo:Option Addr) (mc:Nat) (sm:List SN),k<=L.length/\i = .int .i64 k/\m = .slice mo sm.length mc/\OfMem W0 L k v st (.slice mo sm.length mc) sm wr) (fun _ i _=>L.length-(intOf i).toNat)
 case atStart=>exact ⟨0,_,[],none,0,[],Nat.zero_le _,rfl,rfl,H0.out⟩
 case round =>
  obtain ⟨k,v,st,mo,mc,sm,hk,rfl,rfl,hm⟩:=hrel
  by_cases hlt:k<L.length
  ·obtain ⟨b,o,ka,kc,rfl,hn0⟩:=HA.out k hlt;have hn:=hn0.below hm.below;have hkl:=HK.out k hlt;have c0:=hn.c0;have c1:=hn.c1;have c2:=hn.c2;have c3:=hn.c3;have c4:=hn.c4;have c5:=hn.c5
   go_wp2_with fail
   obtain ⟨w0,hw0⟩:∃ w0,wr.alloc (.cells #[.string (nd L k).op,.int .i64 (nd L k).line,.int .i64 (nd L k).col,.string (nd L k).name,.int .i64 (nd L k).num,.slice ka (nd L k).kids.length kc] 30)=w0:=⟨_,rfl⟩;have hb0:Below wr.heap.size wr w0:=by rw [<- hw0];exact (Below.refl _ _).alloc (Nat.le_refl _) _
   have s0:Six w0 wr.heap.size 30 (.string (nd L k).op) (.int .i64 (nd L k).line) (.int .i64 (nd L k).col) (.string (nd L k).name) (.int .i64 (nd L k).num) (.slice ka (nd L k).kids.length kc):=⟨by rw [<- hw0];exact blk_new _ _⟩;have hz0:w0.heap.size=wr.heap.size+1:=by rw [<- hw0];simp
   rw [hw0];clear hw0 c0 c1 c2 c3 c4 c5;have hm1:=hm.later hb0;have hkid:IntsAt W0.heap.size w0 ka (nd L k).kids:=hn.kids.below (hb0.mono hm.below.size);have hnil:=hn.nil;have hlen:=hm.len;have hle:=hm.le;have hsz:=hm.below.size;have HZ:=Lib.hid hz0;have HN:=Lib.hid hnil;clear hz0 hnil hn hn0
   by_cases hf:fits st.length (nd L k)=true
   ·have HF:=Lib.hid hf;clear hf;refine (add_yes (W0.heap.size+1) W0.heap.size v st W0.heap.size (nd L k) ka kc w0 hm1.tree hkid HN.out (Nat.le_trans hkl (by decide)) (by omega) HF.out (by have:=HZ.out;have:=hm.tree.size;omega)).mono ?_;rintro e w1 ⟨v1,ka1,kc1,rfl,ht1,hb1,hat1,_⟩;have hne:¬ (wr.heap.size=W0.heap.size\/some wr.heap.size=v.ownBlock):=by
     rintro (e | e)
     ·have:=hm.tree.size;omega
     ·obtain ⟨_,_,hh⟩:=own_tag hm.tree.own e.symm;have:=lt_of_heap hh;omega
    have s1:Six w1 wr.heap.size 30 (.string (nd L k).op) (.int .i64 (nd L k).line) (.int .i64 (nd L k).col) (.string (nd L k).name) (.int .i64 (nd L k).num) (.slice ka (nd L k).kids.length kc):=⟨hb1.heap s0.blk hne⟩;have c0:=s1.c0;have c1:=s1.c1;have c2:=s1.c2;have c3:=s1.c3;have c4:=s1.c4;have c5:=s1.c5;have hB1:Below W0.heap.size w0 w1:=hb1.below (by have:=HZ.out;omega) (fun q hq=>by
     rcases hq with e | e
     ·omega
     ·have:=(own_tag hm.tree.own e.symm).1;omega)
    have hk1:IntsAt W0.heap.size w1 ka (nd L k).kids:=hkid.below hB1;have ho1:w1.ownsRow (W0.heap.size+1) 30 6 (.slice mo sm.length mc) sm.length (cells6 sm):=hb1.own hm1.own (fun g hg hp=>by
     rcases hp with e | e
     ·have:=(own_tag hm1.own hg).1;omega
     ·exact hm1.ne g hg e.symm)
    have HO:=Lib.hid ho1;have HK1:=Lib.hid hk1;have HT:=Lib.hid ht1;have HB:=Lib.hid hb1;clear ho1 hk1 ht1 hb1 hat1 hB1 hne s0 hb0
    go_wp2_with fail
    refine (radd_any (W0.heap.size+1) W0.heap.size mo mc sm (nd L k) ka kc w1 HO.out HK1.out hkl (by omega)).mono ?_;rintro e w2 (⟨hff,_⟩ | ⟨hff,mv2,rfl,ho2,hb2⟩)
    ·exfalso
     have h9:fits sm.length (nd L k)=false:=hff;rw [<- hlen,HF.out] at h9;cases h9
    ·obtain ⟨mo2,mc2,rfl⟩:=own_form ho2;have hfin:=hm1.yes hlt HF.out HT.out HB.out ho2 hb2 rfl rfl ⟨HK1.out.below (hb2.mono (by have:=s1.blk;have:=lt_of_heap this;omega)),HN.out⟩;have HFIN:=Lib.hid hfin;have hq:((st.length:Int) != (sm.length:Int))=false:=by simp [hlen]
     clear hfin ho2 hb2 hff hm1 hm c0 c1 c2 c3 c4 c5 hlen
     go_wp2
     go_roundw
     case rel=>exact ⟨k+1,v1,st++[⟨nd L k,ka1,kc1⟩],mo2,mc2,sm++[⟨nd L k,ka,kc⟩],by omega,by go_num,by simp,by have:=HFIN.out;simpa using this⟩
     case measure=>simp [intOf];omega
   ·have hf':fits st.length (nd L k)=false:=by simpa using hf
    have HF:=Lib.hid hf';clear hf hf';obtain ⟨ao1,cap1,rfl⟩:=own_form hm1.tree.own;have hcell:w0.cell? ⟨W0.heap.size,0,none⟩=some (.slice ao1 st.length cap1):=(blk_cell hm1.tree.blk 0).trans rfl;refine (add_no W0.heap.size ao1 st.length cap1 W0.heap.size (nd L k) ka kc w0 hcell hkid (Nat.le_trans hkl (by decide)) HF.out).mono ?_;rintro e w1 ⟨rfl,hb1⟩;have hm2:=hm1.later hb1;have s1:=s0.below hb1 (by have:=HZ.out;omega);have c0:=s1.c0;have c1:=s1.c1;have c2:=s1.c2;have c3:=s1.c3;have c4:=s1.c4;have c5:=s1.c5;have hk1:IntsAt W0.heap.size w1 ka (nd L k).kids:=hkid.below (hb1.mono (by have:=HZ.out;omega));have HK1:=Lib.hid hk1;clear hk1 s0 hcell hb0 hm1 hm
    go_wp2_with fail
    refine (radd_any (W0.heap.size+1) W0.heap.size mo mc sm (nd L k) ka kc w1 hm2.own HK1.out hkl (by omega)).mono ?_;rintro e w2 (⟨hff,rfl,hb2⟩ | ⟨hff,_⟩)
    ·have hfin:=hm2.no hlt HF.out hb2;have HFIN:=Lib.hid hfin;clear hfin hb2 hff hm2 c0 c1 c2 c3 c4 c5 hlen
     go_wp2
     go_roundw
     case rel=>exact ⟨k+1,_,st,mo,mc,sm,by omega,by go_num,rfl,HFIN.out⟩
     case measure=>simp [intOf];omega
    ·exfalso
     have h9:fits sm.length (nd L k)=true:=hff;rw [<- hlen,HF.out] at h9;cases h9
  ·obtain rfl:k=L.length:=by omega
   obtain ⟨ao1,cap1,rfl⟩:=own_form hm.tree.own;have hcell:wr.cell? ⟨W0.heap.size,0,none⟩=some (.slice ao1 st.length cap1):=(blk_cell hm.tree.blk 0).trans rfl;have hlen:=hm.len;have HM:=Lib.hid hm;have hq:((st.length:Int)==(sm.length:Int))=true:=by simp [hlen]
   have HL:=Lib.hid hlen;have HC:=Lib.hid hcell;clear hm hlen hcell
   go_wp2_with (go_at_call 12;refine (len_any W0.heap.size ao1 st.length cap1 _ HC.out).mono ?_;rintro e w' ⟨rfl,rfl⟩)
   go_ret3
   have hm:=HM.out;have e:nds st=build L:=by have:=hm.eqT;rwa [List.take_length] at this
   have e':nds sm=build L:=by have:=hm.eqM;rwa [List.take_length] at this
   have el:sm.length=(build L).length:=by rw [<- e',nds_len]
   obtain ⟨ao2,cap2,hv,hT⟩:=hm.tree.at
   cases hv
   refine ⟨W0.heap.size,ao1,cap1,mo,mc,by rw [<- el];rfl,by rw [<- e];exact hT, ?_,hm.below⟩;rw [<- e'];exact own_nodes hm.own (fun s hs=>(hm.kids s hs).1.mono hm.below.size) (fun s hs=>(hm.kids s hs).2) (Nat.le_refl _)
end
section
open Go.RowKit Tn
end
section
open Go.RowKit Tn
def nats (l:List Nat):List Int:=l.map fun k:Nat=>(k:Int)
theorem nats_len (l:List Nat):(nats l).length=l.length:=by simp [nats]
theorem nats_app (l m:List Nat):ints (nats (l++m))=ints (nats l)++ints (nats m):=by simp [nats,ints]
def PlacesP (w:World)(l:List Nat)(e:Ending)(w':World):Prop :=
 ∃ vo vc,e = .returned (.slice vo l.length vc)/\w'.ownsRow w.heap.size 3 1 (.slice vo l.length vc) l.length (ints (nats l))/\Below w.heap.size w w'
theorem own_some {w:World}{base:Nat}{t:TypeId}{z:Nat}{vo:Option Addr}{n c:Nat}{xs:List Value}(h:w.ownsRow base t z (.slice vo n c) n xs)(hn:0<n):∃ g,vo=some ⟨g,0,none⟩:=by
 rcases h.2 with ⟨_,e⟩ | ⟨g,cap,cur,e,_⟩
 ·omega
 ·cases e;exact ⟨g,rfl⟩
theorem places_any (N:Nat)(mo:Option Addr)(mc:Nat)(ms:List Nd)(hw:WF ms)(hg:Tn.Good ms)(hf:∀ i,i<ms.length->(nd ms i).kids.length<=2000)(i:Nat):i<ms.length->∀ (w:World),NodesAt N w mo ms->N<=w.heap.size ->
  Calls Tryz.prog 18 #[.slice mo ms.length mc,.int .i64 (i:Int)] w (PlacesP w (Pl ms i)):=by
 obtain ⟨i0,hi0,hz0,hz1,hz2⟩:=info_parts Tryz.info3;have HI:=Lib.hid hi0;have HZ:=Lib.hid hz0;have HZ1:=Lib.hid hz1;have HZ2:=Lib.hid hz2;have HW:=Lib.hid hw;have HG:=Lib.hid hg;have HF:=Lib.hid hf;clear hw hg hf hi0 hz0 hz1 hz2
 induction i using Nat.strongRecOn with
 | _ i ih =>
  intro hi w hm hN;have IH:=Lib.hid ih;have HM:=Lib.hid hm;obtain ⟨b,o,ka,kc,rfl,hn⟩:=hm i hi;have hkl:=HF.out i hi;have heq:=Pl_eq HW.out hi;have hP:=HG.out.2 i hi;rw [heq,List.length_cons] at hP;have HEQ:=Lib.hid heq;have HN:=Lib.hid hn;have hi':(i:Int)<(ms.length:Int):=by omega
  have h0:(w.alloc (.cells #[.int .i64 (i:Int)] 3)).ownsRow w.heap.size 3 1 (.slice (some ⟨w.heap.size,0,none⟩) 1 1) 1 (ints (nats [i])) :=
   ⟨rfl,.inr ⟨w.heap.size,1,#[.int .i64 (i:Int)],rfl,Nat.le_refl _,blk_new w _,Nat.le_refl _,by unfold maxLen;omega,rfl,rfl⟩⟩
  have H0:=Lib.hid h0;clear ih hm hn heq h0
  go_enter Tryz.func18,Tryz.ntmps18
  go_wp2_with (go_at_call 17;refine (in_yes _ ms.length mc i _ (by omega) (by omega)).mono ?_;rintro e w' ⟨rfl,rfl⟩)
  go_loopw [6,7] (fun v k wr=>∃ (j:Nat) (vo:Option Addr) (vc:Nat),j<=(nd ms i).kids.length/\k = .int .i64 j/\v = .slice vo (1+(partPl ms (nd ms i).kids j).length) vc/\wr.ownsRow w.heap.size 3 1 (.slice vo (1+(partPl ms (nd ms i).kids j).length) vc) (1+(partPl ms (nd ms i).kids j).length) (ints (nats (i :: partPl ms (nd ms i).kids j)))/\Below w.heap.size w wr) (fun _ k _=>(nd ms i).kids.length-(intOf k).toNat)
  case atStart=>exact ⟨0,some ⟨w.heap.size,0,none⟩,1,Nat.zero_le _,rfl,rfl,H0.out,(Below.refl _ _).alloc (Nat.le_refl _) _⟩
  case round =>
   obtain ⟨j,vo,vc,hj,rfl,rfl,hown,hbel⟩:=hrel;have hn:=HN.out.below (hbel.mono hN);have c5:=hn.c5;have hkids:=hn.kids;have hpl:=partPl_le ms (nd ms i).kids hj
   by_cases hjl:j<(nd ms i).kids.length
   ·obtain ⟨b2,o2,rfl,_,hc2⟩:=hkids j hjl;have hkm:=kid_lt HW.out hi (kid_mem hjl);obtain ⟨q,hq⟩:∃ q:Nat,kid (nd ms i).kids j=(q:Int):=⟨(kid (nd ms i).kids j).toNat,hkm.2.symm⟩;have hqi:q<i:=by omega
    have hs:=partPl_succ ms hjl;have hpl':=partPl_le ms (nd ms i).kids (show j+1<=_ from hjl);rw [hq] at hc2 hs;rw [Int.toNat_natCast] at hs;have hsl:(partPl ms (nd ms i).kids (j+1)).length=(partPl ms (nd ms i).kids j).length+(Pl ms q).length:=by rw [hs,List.length_append]
    have hpos:0<(Pl ms q).length:=by rw [Pl_eq HW.out (show q<ms.length by omega)];simp
    have HS:=Lib.hid hs;have HSL:=Lib.hid hsl;have hmw:=HM.out.below (hbel.mono hN);have HMW:=Lib.hid hmw;have HO:=Lib.hid hown;have HBEL:=Lib.hid hbel;rw [hsl] at hpl';have hsz:=hbel.size;clear hs hq hkm hn hkids hmw hown hsl hbel
    go_wp2_with (first
     | (go_at_call 18;refine (IH.out q hqi (by omega) _ HMW.out (by omega)).mono ?_;rintro e w1 ⟨vo1,vc1,rfl,ho1,hb1⟩;obtain ⟨g1,rfl⟩:=own_some ho1 hpos;have hsz1:=hb1.size;have ho2:=(But.of_below (p:=fun _=>False) hb1).own HO.out (fun _ _ e=>e);have hnw:=own_news ho1)
     | (at_builtin;refine wpList_append_own _ rfl (.tmp 25) (.tmp 35) 28 rfl w.heap.size 3 i0 _ 1 8 Tryz.underlying28 HI.out HZ.out HZ1.out HZ2.out rfl (by decide) _ (1+(partPl ms (nd ms i).kids j).length) (ints (nats (i :: partPl ms (nd ms i).kids j))) rfl ho2 ⟨g1,0,none⟩ (Pl ms q).length vc1 (ints (nats (Pl ms q))) rfl (by rw [ints_len,nats_len,Nat.mul_one]) hnw (ints_one _) (by unfold maxLen;omega) (by omega) (by omega) ?_;intro v2 w2 hown2 hgrow2 hnil2))
    obtain ⟨vo2,vc2,rfl⟩:=own_form hown2;have hB:Below w.heap.size w w2:=(HBEL.out.trans (hb1.mono hsz)).grown hgrow2 (by omega) (fun x e=>(own_tag HO.out e).1);have ha:1+(partPl ms (nd ms i).kids j).length+(Pl ms q).length=1+(partPl ms (nd ms i).kids (j+1)).length:=by rw [HSL.out];omega
    rw [ha,<- nats_app,List.cons_append,<- HS.out] at hown2;exact ⟨⟨j+1,vo2,vc2,by omega,by go_num,by rw [ha],hown2,hB⟩,by simp [intOf];omega⟩
   ·obtain rfl:j=(nd ms i).kids.length:=by omega
    have HO:=Lib.hid hown;clear hown
    go_wp2
    go_ret
    refine ⟨vo,vc, ?_, ?_,hbel⟩
    ·rw [HEQ.out,List.length_cons,Nat.add_comm];rfl
    ·have:=HO.out;rw [HEQ.out,List.length_cons,Nat.add_comm];exact this
end
section
open Go.RowKit Tn
theorem rsame_in (N:Nat)(mo mo2:Option Addr)(mc mc2:Nat)(ns ms:List Nd)(hwn:WF ns)(hwm:WF ms)(hfn:∀ i,i<ns.length->(nd ns i).kids.length<=999000)(i:Nat):
  i<ns.length->∀ (k:Nat),k<ms.length->∀ (w:World),NodesAt N w mo ns->NodesAt N w mo2 ms->N<=w.heap.size ->
  Calls Tryz.prog 22 #[.slice mo ns.length mc,.int .i64 (i:Int),.slice mo2 ms.length mc2,.int .i64 (k:Int)] w fun e w'=>e = .returned (.bool (sameB ns ms i k))/\Below w.heap.size w w':=by
 induction i using Nat.strongRecOn with
 | _ i ih =>
  intro hi k hk w hna hnb hNw;obtain ⟨xb,xo,xka,xkc,rfl,hx⟩:=hna i hi;obtain ⟨yb,yo,yka,ykc,rfl,hy⟩:=hnb k hk;have hi2:(i:Int)<(ns.length:Int):=by omega
  have hk2:(k:Int)<(ms.length:Int):=by omega
  have x0:=hx.c0;have x1:=hx.c1;have x2:=hx.c2;have x3:=hx.c3;have x4:=hx.c4;have x5:=hx.c5;obtain ⟨W,hW⟩:∃ W,w.alloc (.cells #[.string (nd ns i).op,.int .i64 (nd ns i).line,.int .i64 (nd ns i).col,.string (nd ns i).name,.int .i64 (nd ns i).num,.slice xka (nd ns i).kids.length xkc] 30)=W:=⟨_,rfl⟩;have hbW:Below w.heap.size w W:=by rw [<- hW];exact (Below.refl _ w).alloc (Nat.le_refl _) _
  have hyW:=hy.below (hbW.mono hNw);have y0:=hyW.c0;have y1:=hyW.c1;have y2:=hyW.c2;have y3:=hyW.c3;have y4:=hyW.c4;have y5:=hyW.c5;obtain ⟨U,hU⟩:∃ U,W.alloc (.cells #[.string (nd ms k).op,.int .i64 (nd ms k).line,.int .i64 (nd ms k).col,.string (nd ms k).name,.int .i64 (nd ms k).num,.slice yka (nd ms k).kids.length ykc] 30)=U:=⟨_,rfl⟩;have hbU:Below W.heap.size W U:=by rw [<- hU];exact (Below.refl _ W).alloc (Nat.le_refl _) _
  have h7:U.heap[w.heap.size]? = some (.cells #[.string (nd ns i).op,.int .i64 (nd ns i).line,.int .i64 (nd ns i).col,.string (nd ns i).name,.int .i64 (nd ns i).num,.slice xka (nd ns i).kids.length xkc] 30 (0,0)):=by
   refine (hbU.block _ (by rw [<- hW];simp)).trans ?_;rw [<- hW];exact blk_new w _
  have h8:U.heap[W.heap.size]? = some (.cells #[.string (nd ms k).op,.int .i64 (nd ms k).line,.int .i64 (nd ms k).col,.string (nd ms k).name,.int .i64 (nd ms k).num,.slice yka (nd ms k).kids.length ykc] 30 (0,0)):=by rw [<- hU];exact blk_new W _
  have hbw:=hbW.trans (hbU.mono hbW.size);have hNU:Below N w U:=hbw.mono hNw;have h7':Six U w.heap.size 30 _ _ _ _ _ _:=⟨h7⟩;have h8':Six U W.heap.size 30 _ _ _ _ _ _:=⟨h8⟩;have u0:=h7'.c0;have u3:=h7'.c3;have u4:=h7'.c4;have u5:=h7'.c5;have v0:=h8'.c0;have v3:=h8'.c3;have v4:=h8'.c4;have v5:=h8'.c5;have hno:=fun h=>sameB_no (ms:=ms) (k:=k) hwn hi h;have hkd:=fun j hj h=>sameB_kid (ms:=ms) (k:=k) (j:=j) hwn hi hj h;have hyes:=fun h hk=>sameB_yes (ms:=ms) (k:=k) hwn hi h hk;have hxk:=fun j hj=>kid_lt hwn hi (kid_mem (i:=j) hj);have hyk:=fun j hj=>kid_lt hwm hk (kid_mem (i:=j) hj);have hfx:=hfn i hi;obtain ⟨b,hb⟩:∃ b,sameB ns ms i k=b:=⟨_,rfl⟩;rw [hb] at hno hkd hyes ⊢;have hzw:=hbw.size;have HI:=Lib.hid ih;have HNA:=Lib.hid hna;have HNB:=Lib.hid hnb;have HW:=Lib.hid hW;have HU:=Lib.hid hU;have HB:=Lib.hid hbw;have H7:=Lib.hid h7';have H8:=Lib.hid h8';have HXK:=Lib.hid hxk;have HYK:=Lib.hid hyk;have HNO:=Lib.hid hno;have HKD:=Lib.hid hkd;have HYES:=Lib.hid hyes;have HKX:=Lib.hid (hx.kids.below hNU);have HKY:=Lib.hid (hy.kids.below hNU);clear ih hx hy hna hnb hW hbW hyW hU hbU h7 h8 h7' h8' hbw hNU hno hkd hyes hxk hyk hb
  go_enter Tryz.func22,Tryz.ntmps22
  go_wp2_with fail
  refine (in_yes _ ns.length mc i _ (by omega) (by omega)).mono ?_;rintro e w1 ⟨rfl,rfl⟩
  go_wp2_with fail
  refine (in_yes _ ms.length mc2 k _ (by omega) (by omega)).mono ?_;rintro e w1 ⟨rfl,rfl⟩
  go_upto_region 6 with fail
  rw [HW.out]
  go_upto_region 7 with fail
  rw [HU.out];clear x0 x1 x2 x3 x4 x5 y0 y1 y2 y3 y4 y5 hi2 hk2;generalize hnx:nd ns i=x at *;generalize hny:nd ms k=y at *;clear hnx hny
  by_cases e0:x.op=y.op
  rotate_left
  ·have HH:=Lib.hid (HNO.out (by simp [headB,e0]));have g1:=tl_ne e0;have g2:(x.op.toList==y.op.toList)=false:=by simpa using g1
   clear e0
   go_wp2
   go_ret
   exact ⟨ret_bool HH.out.symm,HB.out⟩
  rw [<- e0] at v0
  by_cases e1:x.name=y.name
  rotate_left
  ·have HH:=Lib.hid (HNO.out (by simp [headB,e1]));have g1:=tl_ne e1;have g2:(x.name.toList==y.name.toList)=false:=by simpa using g1
   clear e0 e1
   go_wp2
   go_ret
   exact ⟨ret_bool HH.out.symm,HB.out⟩
  rw [<- e1] at v3
  by_cases e2:x.num=y.num
  rotate_left
  ·have HH:=Lib.hid (HNO.out (by simp [headB,e2]));have g2:(x.num==y.num)=false:=by simpa using e2
   clear e0 e1 e2
   go_wp2
   go_ret
   exact ⟨ret_bool HH.out.symm,HB.out⟩
  rw [<- e2] at v4
  by_cases e3:x.kids.length=y.kids.length
  rotate_left
  ·have HH:=Lib.hid (HNO.out (by simp [headB,e3]));have g2:((x.kids.length:Int)==(y.kids.length:Int))=false:=by simp;omega
   clear e0 e1 e2 e3
   go_wp2
   go_ret
   exact ⟨ret_bool HH.out.symm,HB.out⟩
  rw [<- e3] at v5;have HHD:=Lib.hid (headB_iff.2 ⟨e0,e1,e2,e3⟩);have HE3:=Lib.hid e3;clear e0 e1 e2 e3
  go_wp2_with fail
  clear u0 u3 u4 v0 v3 v4 v5;have hq5:=u5;clear u5
  go_loopw [13] (fun v wr=>∃ j:Nat,j<=x.kids.length/\v = .int .i64 j/\Below U.heap.size U wr/\∀ t,t<j->sameB ns ms (kid x.kids t).toNat (kid y.kids t).toNat=true) (fun v _=>x.kids.length-(intOf v).toNat)
  case atStart=>exact ⟨0,Nat.zero_le _,rfl,Below.refl _ _,fun t ht=>absurd ht (Nat.not_lt_zero _)⟩
  case round =>
   obtain ⟨j,hj,rfl,hbr,hall⟩:=hrel;have g7:=(H7.out.below hbr (lt_of_heap H7.out.blk)).c5;have g8:=(H8.out.below hbr (lt_of_heap H8.out.blk)).c5;have HALL:=Lib.hid hall;have HBR:=Lib.hid hbr;clear hall hbr hq5
   by_cases hlt:j<x.kids.length
   ·have hNr:Below N U wr:=HBR.out.mono (by omega);obtain ⟨gx,ox,rfl,_,kx⟩:=(HKX.out.below hNr) j hlt;obtain ⟨gy,oy,rfl,_,ky⟩:=(HKY.out.below hNr) j (by rw [<- HE3.out];exact hlt);have hqx:=HXK.out j hlt;have hqy:=HYK.out j (by rw [<- HE3.out];exact hlt);obtain ⟨q,hq⟩:∃ q:Nat,kid x.kids j=(q:Int):=⟨(kid x.kids j).toNat,hqx.2.symm⟩;obtain ⟨r,hr⟩:∃ r:Nat,kid y.kids j=(r:Int):=⟨(kid y.kids j).toNat,hqy.2.symm⟩;rw [hq] at kx hqx;rw [hr] at ky hqy;rw [Int.toNat_natCast] at hqx hqy;have hNw2:=HB.out.mono hNw;have hIH:=HI.out q hqx.1 (by omega) r (by omega) wr.drew (HNA.out.below (hNw2.trans hNr).drew) (HNB.out.below (hNw2.trans hNr).drew) (by have:=hNr.size;show N<=wr.heap.size;omega);have hkj:=HKD.out j hlt;rw [hq,hr,Int.toNat_natCast,Int.toNat_natCast] at hkj;rw [<- HE3.out] at g8;have HIH:=Lib.hid hIH;have HKJ:=Lib.hid hkj;have HQ:=Lib.hid hq;have HR:=Lib.hid hr;have hj2:(j:Int)<(x.kids.length:Int):=by omega
    clear hIH hkj hq hr hqx hqy hNr hNw2
    go_upto_region 12 with fail
    go_still_tail 12,(by kernel_rfl)
    change wpList _ _ _ _ _ wr.drew
    go_wp2_with fail
    refine HIH.out.mono ?_;rintro e w2 ⟨rfl,hb2⟩;have HB2:=Lib.hid (HBR.out.drew.trans (hb2.mono HBR.out.size));clear hb2
    cases hs:sameB ns ms q r with
    | false =>
     have HBF:=Lib.hid (HKJ.out hs);clear hs
     go_wp2
     go_ret
     exact ⟨ret_bool HBF.out.symm,HB.out.trans (HB2.out.mono HB.out.size)⟩
    | true =>
     have HS:=Lib.hid hs;clear hs
     go_wp2
     refine ⟨⟨j+1,by omega,by go_num,HB2.out,fun t ht=>?_⟩,by simp [intOf];omega⟩
     by_cases htj:t=j
     ·subst htj;rw [HQ.out,HR.out,Int.toNat_natCast,Int.toNat_natCast];exact HS.out
     ·exact HALL.out t (by omega)
   ·obtain rfl:j=x.kids.length:=by omega
    have HT:=Lib.hid (HYES.out HHD.out HALL.out);clear g8
    go_wp2
    go_ret
    exact ⟨ret_bool HT.out.symm,HB.out.trans (HBR.out.mono HB.out.size)⟩
end
end Go.Proofs.YtninlbknklbofaaGreatDoor
