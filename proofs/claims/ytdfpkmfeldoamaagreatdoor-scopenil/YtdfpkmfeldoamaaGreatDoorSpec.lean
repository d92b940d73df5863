/- A part of the proof: A part of the proof. -/
import Derived.Test.YtdfpkmfeldoamaaGreatDoorAhead
import Derived.BigRegion
import Derived.Deep.DeepCutAuto
import Derived.Deep.RegionWith
import Derived.Deep.RegionLaw
import Derived.Test.YtdfpkmfeldoamaaGreatDoorMem6
import Derived.Deep.RegionHeld2
set_option linter.unusedSimpArgs false
set_option linter.unusedVariables false
set_option maxRecDepth 100000
set_option maxHeartbeats 4000000
namespace Go.Proofs.YtdfpkmfeldoamaaGreatDoor
section
open Go.RowKit Tn
theorem below_undrew {w w':World}(h:Below w.drew.heap.size w.drew w'):Below w.heap.size w w':=⟨h.os,h.tape,h.output,h.size,h.block⟩
theorem add_no (bt:Nat)(ao:Option Addr)(len cap N:Nat)(n:Nd)(ka:Option Addr)(kc:Nat)(w:World)(hc:w.cell? ⟨bt,0,none⟩=some (.slice ao len cap))(hk:IntsAt N w ka n.kids)(hl:n.kids.length<=999000)(hf:fits len n=false):
  Calls Tryz.prog 211 #[.pointer (some ⟨bt,0,none⟩),.agg #[.string n.op,.int .i64 n.line,.int .i64 n.col,.string n.name,.int .i64 n.num,.slice ka n.kids.length kc]] w fun e w'=>e = .returned (.tuple #[.int .i64 0,.int .i64 1])/\Below w.heap.size w w':=by
 have hb:∀ o,Below w.heap.size w (w.alloc o):=fun o=>(Below.refl _ w).alloc (Nat.le_refl _) o;have hc':∀ o,(w.alloc o).cell? ⟨bt,0,none⟩=some (.slice ao len cap):=fun o=>(World.cell?_alloc_lt _ _ _ (World.block_lt_of_cell? _ _ hc)).trans hc;have hk':∀ o,IntsAt w.heap.size (w.alloc o) ka n.kids:=fun o=>IntsAt.below (N:=w.heap.size) (fun i hi=>by
  obtain ⟨b,o,e,_,hc⟩:=hk i hi;exact ⟨b,o,e,by have:=World.block_lt_of_cell? _ _ hc;exact this,hc⟩) (hb o)
 have HB:=Lib.hid hb;have HC:=Lib.hid hc';have HK:=Lib.hid hk';have HF:=Lib.hid hf;clear hb hc' hk' hk hf hc
 go_enter Tryz.func211,Tryz.ntmps211
 go_wp2_with (go_at_call 216;refine (hasAll_any bt ao len cap _ ka n kc _ (HC.out _) (HK.out _) hl).mono ?_;rintro e w' ⟨rfl,rfl⟩;rw [HF.out])
 go_ret2
 exact ⟨rfl,HB.out _⟩
theorem add_full (bt:Nat)(ao:Option Addr)(len cap N:Nat)(n:Nd)(ka:Option Addr)(kc:Nat)(w:World)(hc:w.cell? ⟨bt,0,none⟩=some (.slice ao len cap))(hk:IntsAt N w ka n.kids)(hl:n.kids.length<=999000)(hf:fits len n=true)(h4:4000<=len)(h5:len<=1000000):
  Calls Tryz.prog 211 #[.pointer (some ⟨bt,0,none⟩),.agg #[.string n.op,.int .i64 n.line,.int .i64 n.col,.string n.name,.int .i64 n.num,.slice ka n.kids.length kc]] w fun e w'=>e = .returned (.tuple #[.int .i64 0,.int .i64 6])/\Below w.heap.size w w':=by
 have hb:∀ o,Below w.heap.size w (w.alloc o):=fun o=>(Below.refl _ w).alloc (Nat.le_refl _) o;have hc':∀ o,(w.alloc o).cell? ⟨bt,0,none⟩=some (.slice ao len cap):=fun o=>(World.cell?_alloc_lt _ _ _ (World.block_lt_of_cell? _ _ hc)).trans hc;have hk':∀ o,IntsAt w.heap.size (w.alloc o) ka n.kids:=fun o=>IntsAt.below (N:=w.heap.size) (fun i hi=>by
  obtain ⟨b,o,e,_,hc⟩:=hk i hi;exact ⟨b,o,e,by have:=World.block_lt_of_cell? _ _ hc;exact this,hc⟩) (hb o)
 have HB:=Lib.hid hb;have HC:=Lib.hid hc';have HK:=Lib.hid hk';have HF:=Lib.hid hf;clear hb hc' hk' hk hf hc
 go_enter Tryz.func211,Tryz.ntmps211
 go_wp2_with fail
 refine (hasAll_any bt ao len cap _ ka n kc _ (HC.out _) (HK.out _) hl).mono ?_;rintro e w' ⟨rfl,rfl⟩;rw [HF.out];have hc:=HC.out (.cells #[.string n.op,.int .i64 n.line,.int .i64 n.col,.string n.name,.int .i64 n.num,.slice ka n.kids.length kc] 165)
 go_wp2
 go_ret2
 exact ⟨rfl,HB.out _⟩
theorem TreeOwn.grow {B:Nat}{w1:World}{bt:Nat}{v:Value}{l:List SN}(h:TreeOwn B w1 bt v l){s:SN}(hk:w1.ownsRow B 3 1 (.slice s.ka s.n.kids.length s.kc) s.n.kids.length (ints s.n.kids)){o:Obj}{w2:World}{v':Value}
  (hown:w2.ownsRow B 165 6 v' (l.length+1) (cells6 l++cell6 s)) (hg:(w1.alloc o).grownBy w2 v.ownBlock):TreeOwn B (w2.setCell ⟨bt,0,none⟩ v') bt v' (l++[s])/\w2.heap[bt]? = some (.cells #[v] 64 (0,0)):=by
 have far:∀ k q,w1.heap[k]? = some q->some k≠v.ownBlock->w2.heap[k]? = some q:=fun k q hq hn =>
  (hg.block k (by have:=lt_of_heap hq;simp;omega) hn).trans (blk_alloc hq o)
 have hb:w2.heap[bt]? = some (.cells #[v] 64 (0,0)):=far bt _ h.blk fun e=>by have:=(own_tag h.own e.symm).1;have:=h.lt;omega
 have kid:∀ {q:SN},w1.ownsRow B 3 1 (.slice q.ka q.n.kids.length q.kc) q.n.kids.length (ints q.n.kids)->w2.ownsRow B 3 1 (.slice q.ka q.n.kids.length q.kc) q.n.kids.length (ints q.n.kids):=fun {q} hq=>by
  refine ⟨hq.1, ?_⟩
  rcases hq.2 with hn | ⟨g,cap,cur,e,hbg,hgg,rest⟩
  ·exact .inl hn
  ·refine .inr ⟨g,cap,cur,e,hbg,far g _ hgg fun e'=>?_,rest⟩;obtain ⟨_,cur',h'⟩:=own_tag h.own e'.symm;rw [hgg] at h'
   injection h' with h'
   injection h' with _ h'
   cases h'
 refine ⟨⟨(blk_set hb 0 v').trans rfl, ?_, ?_,h.lt⟩,hb⟩
 ·rw [List.length_append,cells6_snoc];exact own_setCell hown h.lt 0 v'
 ·intro q hq
  rcases List.mem_append.1 hq with hq | hq
  ·exact own_setCell (kid (h.kids q hq)) h.lt 0 v'
  ·obtain rfl:q=s:=by simpa using hq
   exact own_setCell (kid hk) h.lt 0 v'
def AddP (B:Nat)(w:World)(bt:Nat)(v:Value)(l:List SN)(n:Nd)(e:Ending)(w':World):Prop :=
 ∃ v' ka kc,e = .returned (.tuple #[.int .i64 l.length,.int .i64 0])/\TreeOwn B w' bt v' (l++[⟨n,ka,kc⟩])/\But (fun k=>k=bt\/some k=v.ownBlock) w w'/\(v'.ownBlock=v.ownBlock\/∃ g,v'.ownBlock=some g/\w.heap.size<=g)/\∀ g,(Value.slice ka n.kids.length kc).ownBlock=some g->w.heap.size<=g
theorem add_yes (B:Nat)(bt:Nat)(v:Value)(l:List SN)(N:Nat)(n:Nd)(ka:Option Addr)(kc:Nat)(w:World)(ht:TreeOwn B w bt v l)(hk:IntsAt N w ka n.kids)(hnil:ka=none->kc=0)(hl:n.kids.length<=999000)(hs:l.length<4000)(hf:fits l.length n=true)(hB:B<=w.heap.size):
  Calls Tryz.prog 211 #[.pointer (some ⟨bt,0,none⟩),.agg #[.string n.op,.int .i64 n.line,.int .i64 n.col,.string n.name,.int .i64 n.num,.slice ka n.kids.length kc]] w (AddP B w bt v l n):=by
 obtain ⟨ao,cap,rfl⟩:=own_form ht.own;generalize hW:w.alloc (.cells #[.string n.op,.int .i64 n.line,.int .i64 n.col,.string n.name,.int .i64 n.num,.slice ka n.kids.length kc] 165)=W;have hbW:Below w.heap.size w W:=by rw [<- hW];exact (Below.refl _ w).alloc (Nat.le_refl _) _
 have hsW:W.heap.size=w.heap.size+1:=by rw [<- hW];simp
 have s1:Six W w.heap.size 165 (.string n.op) (.int .i64 n.line) (.int .i64 n.col) (.string n.name) (.int .i64 n.num) (.slice ka n.kids.length kc):=⟨by rw [<- hW];exact blk_new w _⟩;have hkW:IntsAt w.heap.size W ka n.kids:=(IntsAt.below (N:=w.heap.size) (fun i hi=>by
  obtain ⟨b,o,e,_,hc⟩:=hk i hi;exact ⟨b,o,e,by have:=World.block_lt_of_cell? _ _ hc;exact this,hc⟩) hbW)
 have hT:TreeOwn B W bt (.slice ao l.length cap) l:=ht.below hbW;have HK:=Lib.hid hkW;have HN:=Lib.hid hnil;have HW:=Lib.hid hW;have HS:=Lib.hid hsW;have HF:=Lib.hid hf;have hc:W.cell? ⟨bt,0,none⟩=some (.slice ao l.length cap):=(blk_cell hT.blk 0).trans rfl;have HC:=Lib.hid hc;obtain ⟨i0,hi,hz0,hz1,hz2⟩:=info_parts Tryz.info165;have HI:=Lib.hid hi;have HZ:=Lib.hid hz0;have HZ1:=Lib.hid hz1;have HZ2:=Lib.hid hz2;clear hk hnil hkW hsW hW hf hi hz0 hz1 hz2 hc
 go_enter Tryz.func211,Tryz.ntmps211
 go_wp2_with fail
 rw [HW.out];refine (hasAll_any bt ao l.length cap _ ka n kc _ HC.out HK.out hl).mono ?_;rintro e w' ⟨rfl,rfl⟩;rw [HF.out];have hc:=HC.out;have c0:=s1.c0;have c1:=s1.c1;have c2:=s1.c2;have c3:=s1.c3;have c4:=s1.c4;have c5:=s1.c5
 go_wp2_with fail
 have hkd:IntsAt w.heap.size W.drew ka n.kids:=HK.out;have HKD:=Lib.hid hkd;clear hkd
 go_region_law (first
  | (refine step_append_lies _ (by rfl) (.tmp 25) (.tmp 28) 62 (by rfl) B 165 i0 _ 6 80 Tryz.underlying62 HI.out HZ.out HZ1.out HZ2.out rfl (by omega) (.slice ao l.length cap) l.length (cells6 l) (by rfl) (hT1.own.alloc _) ⟨w1.heap.size,0,none⟩ 1 1 (cell6 ⟨n,ka1,kc1⟩) (by rfl) (by rfl) (World.news_of_block (cs:=#[.string n.op,.int .i64 n.line,.int .i64 n.col,.string n.name,.int .i64 n.num,.slice ka1 n.kids.length kc1]) (t:=165) (fr:=(0,0)) (heap_alloc_new w1 _)) (by intro x hx;simp only [cell6,List.mem_cons,List.not_mem_nil,or_false] at hx;rcases hx with rfl | rfl | rfl | rfl | rfl | rfl <;> rfl) (by omega) (by unfold maxLen;omega) (by omega) (by have:=hb1.size;have:=HS.out;simp at *;omega) (w1.heap.size+1) (by simp) ?_;intro g cap' w2 hown2 hgrow2 hat2 hlt2;have hG:=hT1.grow (s:=⟨n,ka1,kc1⟩) (own_mono hown1 (by have:=HS.out;simp at *;omega)) hown2 hgrow2;have hc3:w2.cell? ⟨bt,0,none⟩=some (.slice ao l.length cap):=(blk_cell hG.2 0).trans rfl;have hf3:w2.frozen? ⟨bt,0,none⟩=false:=blk_frozen hG.2 0)
  | (go_simp;go_at_call 155;refine (sep_any w.heap.size n ka kc W.drew HKD.out HN.out hl).mono ?_;rintro e w1 ⟨ka1,kc1,rfl,hown1,hb1⟩;have hT1:TreeOwn B w1 bt (.slice ao l.length cap) l:=hT.below (below_undrew hb1);have hc1:w1.cell? ⟨bt,0,none⟩=some (.slice ao l.length cap):=(blk_cell hT1.blk 0).trans rfl;have hc2:∀ X,(w1.alloc X).cell? ⟨bt,0,none⟩=some (.slice ao l.length cap):=fun X=>(World.cell?_alloc_lt _ _ _ (World.block_lt_of_cell? _ _ hc1)).trans hc1;simp only [nval]))
 all_goals
  have hB1:But (fun k=>k=bt\/some k=(Value.slice ao l.length cap).ownBlock) w w1:=But.of_below (hbW.trans ((below_undrew hb1).mono hbW.size));have hB2:But (fun k=>k=bt\/some k=(Value.slice ao l.length cap).ownBlock) w (w2.setCell ⟨bt,0,none⟩ (.slice (some ⟨g,0,none⟩) (l.length+1) cap')) :=
   (hB1.trans (But.of_below ((Below.refl _ w1).alloc (Nat.le_refl _) _))).trans ((But.of_grown hgrow2 (fun k e => .inr e.symm)).trans (But.setCell w2 (.inl rfl) 0 _))
  have hat:(Value.slice (some ⟨g,0,none⟩) (l.length+1) cap').ownBlock=(Value.slice ao l.length cap).ownBlock\/∃ g',(Value.slice (some ⟨g,0,none⟩) (l.length+1) cap').ownBlock=some g'/\w.heap.size<=g':=by
   rcases hat2 with e | e
   ·exact .inl e.symm
   ·refine .inr ⟨g,rfl, ?_⟩;have:=hB1.size;omega
  have hnew:∀ g,(Value.slice ka1 n.kids.length kc1).ownBlock=some g->w.heap.size<=g:=fun g hg=>by
   have:=(own_tag hown1 hg).1;have:=HS.out;simp at *;omega
  have HB:=Lib.hid hB2;have HA:=Lib.hid hat;have HG:=Lib.hid hG.1;have HN1:=Lib.hid hnew;have hc4:(w2.setCell ⟨bt,0,none⟩ (.slice (some ⟨g,0,none⟩) (l.length+1) cap')).cell? ⟨bt,0,none⟩=some (.slice (some ⟨g,0,none⟩) (l.length+1) cap'):=(blk_cell hG.1.blk 0).trans rfl;clear hnew hB1 hB2 hat hG hT1 hc1 hc2 hown2 hgrow2 hat2 hown1 hb1 hT s1 c0 c1 c2 c3 c4 c5 hc ht
  go_wp2
  go_ret2
  exact ⟨_,ka1,kc1,by first | rfl | (congr 3;omega),HG.out,HB.out,HA.out,HN1.out⟩
end
section
open Go.RowKit Tn Lx
theorem nds_append (l:List SN)(q:SN):nds (l++[q])=nds l++[q.n]:=by simp [nds]
theorem Rd.added {c:Cx}{X:Nat->Prop}{w w':World}{s:Ex.S}(h:Rd c X w s){v v':Value}{l:List SN}{q:SN}(e:nds l=s.ns)(ht:TreeOwn c.B w c.bt v l)(ho:Off X v l)(hl:l.length<4000)
  (ht':TreeOwn c.B w' c.bt v' (l++[q])) (hb:But (fun k=>k=c.bt\/some k=v.ownBlock) w w') (hv:v'.ownBlock=v.ownBlock\/∃ g,v'.ownBlock=some g/\w.heap.size<=g) (hk:∀ g,(Value.slice q.ka q.n.kids.length q.kc).ownBlock=some g->w.heap.size<=g):
  Rd c X w' ⟨s.p,s.ns++[q.n]⟩/\Kp c w w':=by
 have far:∀ k,k<c.B->k≠c.bt->¬ (k=c.bt\/some k=v.ownBlock):=fun k hk hne=>by
  rintro (e | e)
  ·exact hne e
  ·have:=(own_tag ht.own e.symm).1;omega
 refine ⟨⟨hb.heap h.blk (far _ h.rlt h.rb),fun i u hu=>(World.cell?_of_block (hb.block c.g (World.block_lt_of_cell? _ _ (h.tok i u hu)) (far _ h.glt h.gb))).trans (h.tok i u hu),⟨v',l++[q],by rw [nds_append,e],ht', ?_, ?_⟩,h.p,h.few,h.room, ?_,h.rlt,h.blt,h.glt,h.rb,h.gr,h.gb,Nat.le_trans h.size hb.size,fun k hk=>Nat.lt_of_lt_of_le (h.xlt k hk) hb.size⟩,hb.mono fun k _ e=>?_⟩
 ·intro g hg hx
  rcases hv with e1 | ⟨g',e1,e2⟩
  ·exact ho.1 g (e1 ▸ hg) hx
  ·rw [hg] at e1;cases e1;have:=h.xlt g hx;omega
 ·intro q' hq g hg hx
  rcases List.mem_append.1 hq with hq | hq
  ·exact ho.2 q' hq g hg hx
  ·obtain rfl:q'=q:=by simpa using hq
   have:=hk g hg;have:=h.xlt g hx;omega
 ·have:(nds l).length=l.length:=nds_len l;rw [e] at this
  simp;omega
 ·rcases e with e | e
  ·exact .inr (.inl e)
  ·obtain ⟨h1,cur,h2⟩:=own_tag ht.own e.symm;exact .inr (.inr ⟨h1,cur,_,h2⟩)
theorem addNode_any (c:Cx)(X:Nat->Prop)(w:World)(s:Ex.S)(n:Nd)(ka:Option Addr)(kc N:Nat)(h:Rd c X w s)(hk:IntsAt N w ka n.kids)(hnil:ka=none->kc=0)(hl:n.kids.length<=999000):
  Calls Tryz.prog 202 #[.pointer (some ⟨c.r,0,none⟩),.agg #[.string n.op,.int .i64 n.line,.int .i64 n.col,.string n.name,.int .i64 n.num,.slice ka n.kids.length kc]] w (Post c X w (Ex.addN c.ts n s)):=by
 obtain ⟨W,hW⟩:∃ W,w.alloc (.cells #[.string n.op,.int .i64 n.line,.int .i64 n.col,.string n.name,.int .i64 n.num,.slice ka n.kids.length kc] 165)=W:=⟨_,rfl⟩;have hb:Below w.heap.size w W:=by rw [<- hW];exact (Below.refl _ w).alloc (Nat.le_refl _) _
 have s1:Six W w.heap.size 165 (.string n.op) (.int .i64 n.line) (.int .i64 n.col) (.string n.name) (.int .i64 n.num) (.slice ka n.kids.length kc):=⟨by rw [<- hW];exact blk_new w _⟩;have hkW:IntsAt w.heap.size W ka n.kids:=(IntsAt.below (N:=w.heap.size) (fun i hi=>by
  obtain ⟨b,o,e,_,hc⟩:=hk i hi;exact ⟨b,o,e,by have:=World.block_lt_of_cell? _ _ hc;exact this,hc⟩) hb)
 have hR:=h.below hb;obtain ⟨v,l,en,ht0,ho⟩:=h.tree;obtain ⟨ao,cap,rfl,hA⟩:=ht0.at;have ht:=ht0.below hb;have hll:l.length=s.ns.length:=by rw [<- en,nds_len]
 have hold:∀ g,(Value.slice ao l.length cap).ownBlock=some g->g<w.heap.size:=fun g hg=>by
  obtain ⟨_,cur,e1⟩:=own_tag ht0.own hg;exact lt_of_heap e1
 have HOLD:=Lib.hid hold;clear hold;have hlen:=h.len;have hsz:=h.size;have hr1:=h.rlt;have hb1:=h.blt;have hS:=fun w1 cd (hR:Rd c X w1 s)=>wrong_at c X w1 s cd hR;have tk:=Lib.hid hkW;have HT:=Lib.hid ht;have HW:=Lib.hid hW;have HR:=Lib.hid hR;have HB:=Lib.hid hb;have HS:=Lib.hid hS;have HO:=Lib.hid ho;have HEN:=Lib.hid en;have HLL:=Lib.hid hll;have HN:=Lib.hid hnil;have x0:=s1.c0;have x1:=s1.c1;have x2:=s1.c2;have x3:=s1.c3;have x4:=s1.c4;have x5:=s1.c5;have r0:=hR.c0;have hct:W.cell? ⟨c.bt,0,none⟩=some (.slice ao l.length cap):=(blk_cell ht.blk 0).trans rfl;have HCT:=Lib.hid hct;have HS1:=Lib.hid s1;clear hk hkW ht ht0 hA hW hR hb hS ho en hll h hnil hct s1
 by_cases hf:fits s.ns.length n=true
 ·by_cases h4:4000<=s.ns.length
  ·have hE:Ex.addN c.ts n s = .bad 6 (Ex.at_ c.ts s):=by rw [Ex.addN,if_pos hf,if_pos h4];rfl
   have HE:=Lib.hid hE;have HF:=Lib.hid hf;clear hE hf
   go_enter Tryz.func202,Tryz.ntmps202
   go_upto_region 1 with fail
   rw [HW.out]
   go_region_held2 (fun w'=>w'.cell? ⟨c.r,0,none⟩=some (.pointer (some ⟨c.bt,0,none⟩))/\w'.cell? ⟨w.heap.size,0,none⟩=some (.string n.op)/\w'.cell? ⟨w.heap.size,1,none⟩=some (.int .i64 n.line)/\w'.cell? ⟨w.heap.size,2,none⟩=some (.int .i64 n.col)/\w'.cell? ⟨w.heap.size,3,none⟩=some (.string n.name)/\w'.cell? ⟨w.heap.size,4,none⟩=some (.int .i64 n.num)/\w'.cell? ⟨w.heap.size,5,none⟩=some (.slice ka n.kids.length kc))
    (first | exact ⟨r0,x0,x1,x2,x3,x4,x5⟩ | exact ⟨hR1.c0,s2.c0,s2.c1,s2.c2,s2.c3,s2.c4,s2.c5⟩)
    (first | (go_at_call 211;refine (add_full c.bt ao l.length cap w.heap.size n ka kc W.drew HCT.out tk.out hl (by rw [HLL.out];exact HF.out) (by rw [HLL.out];exact h4) (by rw [HLL.out];omega)).mono ?_;rintro e w1 ⟨rfl,hb1⟩;have hR1:=HR.out.below (below_undrew hb1);have s2:Six w1 w.heap.size 165 (.string n.op) (.int .i64 n.line) (.int .i64 n.col) (.string n.name) (.int .i64 n.num) (.slice ka n.kids.length kc):=⟨((below_undrew hb1).block _ (lt_of_heap HS1.out.blk)).trans HS1.out.blk⟩))
   have HR1:=Lib.hid hR1;have HK1:=Lib.hid (HB.out.trans ((below_undrew hb1).mono HB.out.size));clear hR1 s2 hb1 x0 x1 x2 x3 x4 x5 r0
   go_wp2_with fail
   refine (HS.out _ _ HR1.out).mono ?_;rintro e w2 ⟨rfl,hb2⟩;have HK2:=Lib.hid (Kp.of_below (c:=c) (HK1.out.trans (hb2.mono HK1.out.size)));unfold dval
   go_wp2
   exact ⟨rfl,.inr ⟨_,_,HE.out,rfl,HK2.out⟩⟩
  ·have hE:Ex.addN c.ts n s = .ok s.ns.length ⟨s.p,s.ns++[n]⟩:=by rw [Ex.addN,if_pos hf,if_neg h4]
   have HE:=Lib.hid hE;have HF:=Lib.hid hf;clear hE hf;have hWs:W.heap.size=w.heap.size+1:=by rw [<- HW.out];simp
   have hlt:c.bt<W.heap.size:=HT.out.size;have HWS:=Lib.hid hWs;clear hWs;have hfar:¬ (w.heap.size=c.bt\/some w.heap.size=(Value.slice ao l.length cap).ownBlock):=by
    rintro (e | e)
    ·omega
    ·have h0:∀ g,(Value.slice ao l.length cap).ownBlock=some g->g<w.heap.size:=HOLD.out;have:=h0 _ e.symm;omega
   have HFAR:=Lib.hid hfar;clear hfar
   go_enter Tryz.func202,Tryz.ntmps202
   go_upto_region 1 with fail
   rw [HW.out]
   go_region_held2 (fun w'=>w'.cell? ⟨c.r,0,none⟩=some (.pointer (some ⟨c.bt,0,none⟩))/\w'.cell? ⟨w.heap.size,0,none⟩=some (.string n.op)/\w'.cell? ⟨w.heap.size,1,none⟩=some (.int .i64 n.line)/\w'.cell? ⟨w.heap.size,2,none⟩=some (.int .i64 n.col)/\w'.cell? ⟨w.heap.size,3,none⟩=some (.string n.name)/\w'.cell? ⟨w.heap.size,4,none⟩=some (.int .i64 n.num)/\w'.cell? ⟨w.heap.size,5,none⟩=some (.slice ka n.kids.length kc))
    (first | exact ⟨r0,x0,x1,x2,x3,x4,x5⟩ | exact ⟨hR1.c0,s2.c0,s2.c1,s2.c2,s2.c3,s2.c4,s2.c5⟩)
    (first | (go_at_call 211;refine (add_yes c.B c.bt (.slice ao l.length cap) l w.heap.size n ka kc W.drew (HT.out.below (Below.refl _ W).drew) tk.out HN.out hl (by rw [HLL.out];omega) (by rw [HLL.out];exact HF.out) (by have:=HWS.out;simp;omega)).mono ?_;rintro e w1 ⟨v1,ka1,kc1,rfl,ht1,hB1,hv1,hk1⟩;have hA1:=HR.out.drew.added (q:=⟨n,ka1,kc1⟩) HEN.out (HT.out.below (Below.refl _ W).drew) HO.out (by rw [HLL.out];omega) ht1 hB1 hv1 hk1;have hR1:=hA1.1;have s2:Six w1 w.heap.size 165 (.string n.op) (.int .i64 n.line) (.int .i64 n.col) (.string n.name) (.int .i64 n.num) (.slice ka n.kids.length kc):=⟨hB1.heap HS1.out.blk HFAR.out⟩))
   have HR1:=Lib.hid hR1;have HK1:=Lib.hid (Below.then_kp HB.out hA1.2.undrew);clear hR1 s2 hA1 x0 x1 x2 x3 x4 x5 r0 ht1 hB1 hv1 hk1
   go_wp2
   go_ret
   exact .inl ⟨_,_,HE.out,ret_int (by rw [HLL.out]),HR1.out,HK1.out⟩
 ·have hE:Ex.addN c.ts n s = .bad 1 (Ex.at_ c.ts s):=by rw [Ex.addN,if_neg hf];rfl
  have hf':fits s.ns.length n=false:=by simpa using hf
  have HE:=Lib.hid hE;have HF:=Lib.hid hf';clear hE hf hf'
  go_enter Tryz.func202,Tryz.ntmps202
  go_upto_region 1 with fail
  rw [HW.out]
  go_region_held2 (fun w'=>w'.cell? ⟨c.r,0,none⟩=some (.pointer (some ⟨c.bt,0,none⟩))/\w'.cell? ⟨w.heap.size,0,none⟩=some (.string n.op)/\w'.cell? ⟨w.heap.size,1,none⟩=some (.int .i64 n.line)/\w'.cell? ⟨w.heap.size,2,none⟩=some (.int .i64 n.col)/\w'.cell? ⟨w.heap.size,3,none⟩=some (.string n.name)/\w'.cell? ⟨w.heap.size,4,none⟩=some (.int .i64 n.num)/\w'.cell? ⟨w.heap.size,5,none⟩=some (.slice ka n.kids.length kc))
   (first | exact ⟨r0,x0,x1,x2,x3,x4,x5⟩ | exact ⟨hR1.c0,s2.c0,s2.c1,s2.c2,s2.c3,s2.c4,s2.c5⟩)
   (first | (go_at_call 211;refine (add_no c.bt ao l.length cap w.heap.size n ka kc W.drew HCT.out tk.out hl (by rw [HLL.out];exact HF.out)).mono ?_;rintro e w1 ⟨rfl,hb1⟩;have hR1:=HR.out.below (below_undrew hb1);have s2:Six w1 w.heap.size 165 (.string n.op) (.int .i64 n.line) (.int .i64 n.col) (.string n.name) (.int .i64 n.num) (.slice ka n.kids.length kc):=⟨((below_undrew hb1).block _ (lt_of_heap HS1.out.blk)).trans HS1.out.blk⟩))
  have HR1:=Lib.hid hR1;have HK1:=Lib.hid (HB.out.trans ((below_undrew hb1).mono HB.out.size));clear hR1 s2 hb1 x0 x1 x2 x3 x4 x5 r0
  go_wp2_with fail
  refine (HS.out _ _ HR1.out).mono ?_;rintro e w2 ⟨rfl,hb2⟩;have HK2:=Lib.hid (Kp.of_below (c:=c) (HK1.out.trans (hb2.mono HK1.out.size)));unfold dval
  go_wp2
  exact ⟨rfl,.inr ⟨_,_,HE.out,rfl,HK2.out⟩⟩
theorem ints_map_len (ks:List Nat):(ks.map fun (k:Nat)=>(k:Int)).length=ks.length:=by simp
theorem add_any (c:Cx)(X:Nat->Prop)(w:World)(s:Ex.S)(op:B)(p:Pos)(name:B)(ks:List Nat)(ka:Option Addr)(kc N:Nat)(h:Rd c X w s)(hk:IntsAt N w ka (ks.map fun (k:Nat)=>(k:Int)))(hnil:ka=none->kc=0)(hl:ks.length<=999000):
  Calls Tryz.prog 186 #[.pointer (some ⟨c.r,0,none⟩),.string ⟨op.toArray⟩,.agg #[.int .i64 p.line,.int .i64 p.col],.string ⟨name.toArray⟩,.slice ka ks.length kc] w (Post c X w (Ex.add c.ts op p name ks s)):=by
 obtain ⟨W,hW⟩:∃ W,w.alloc (.cells #[.int .i64 p.line,.int .i64 p.col] 41)=W:=⟨_,rfl⟩;have hb:Below w.heap.size w W:=by rw [<- hW];exact (Below.refl _ w).alloc (Nat.le_refl _) _
 have hkW:IntsAt w.heap.size W ka (ks.map fun (k:Nat)=>(k:Int)):=(IntsAt.below (N:=w.heap.size) (fun i hi=>by
  obtain ⟨b,o,e,_,hc⟩:=hk i hi;exact ⟨b,o,e,by have:=World.block_lt_of_cell? _ _ hc;exact this,hc⟩) hb)
 have hA:=addNode_any c X W s ⟨Ex.bt op,p.line,p.col,Ex.bt name,0,ks.map fun (k:Nat)=>(k:Int)⟩ ka kc w.heap.size (h.below hb) hkW hnil (by simpa using hl);simp only [ints_map_len] at hA;have c0:W.cell? ⟨w.heap.size,0,none⟩=some (.int .i64 p.line):=by rw [<- hW,World.cell?_alloc_new];rfl
 have c1:W.cell? ⟨w.heap.size,1,none⟩=some (.int .i64 p.col):=by rw [<- hW,World.cell?_alloc_new];rfl
 have HA:=Lib.hid hA;have HW:=Lib.hid hW;have HB:=Lib.hid hb;clear hA hW hb hkW hk hnil h
 go_enter Tryz.func186,Tryz.ntmps186
 go_upto_region 1 with fail
 rw [HW.out]
 go_wp2_with fail
 refine HA.out.mono ?_;rintro e w1 (⟨i,s1,hR,rfl,hR1,hK1⟩ | ⟨cd,p1,hR,rfl,hK1⟩)
 ·have HR:=Lib.hid hR;have HR1:=Lib.hid hR1;have HK1:=Lib.hid (Below.then_kp HB.out hK1);clear hR hR1 hK1 c0 c1
  go_wp2
  go_ret
  exact .inl ⟨_,_,HR.out,rfl,HR1.out,HK1.out⟩
 ·exact ⟨rfl,.inr ⟨_,_,hR,rfl,Below.then_kp HB.out hK1⟩⟩
end
section
open Go.RowKit Tn Lx
structure Spec (c:Cx)(f:Ex.Rec):Prop where
 all:∀ (d:Nat) (s:Ex.S) (X:Nat->Prop) (w:World),d<=64->Rd c X w s->f .all d s ≠ .out->Calls Tryz.prog 169 #[.pointer (some ⟨c.r,0,none⟩),.int .i64 (d:Int)] w (Post c X w (f .all d s))
 item:∀ (d:Nat) (s:Ex.S) (X:Nat->Prop) (w:World),d<=64->Rd c X w s->f .item d s ≠ .out->Calls Tryz.prog 183 #[.pointer (some ⟨c.r,0,none⟩),.int .i64 (d:Int)] w (Post c X w (f .item d s))
 or:∀ (d:Nat) (s:Ex.S) (X:Nat->Prop) (w:World),d<=64->Rd c X w s->f .or d s ≠ .out->Calls Tryz.prog 199 #[.pointer (some ⟨c.r,0,none⟩),.int .i64 (d:Int)] w (Post c X w (f .or d s))
 and:∀ (d:Nat) (s:Ex.S) (X:Nat->Prop) (w:World),d<=64->Rd c X w s->f .and d s ≠ .out->Calls Tryz.prog 210 #[.pointer (some ⟨c.r,0,none⟩),.int .i64 (d:Int)] w (Post c X w (f .and d s))
 test:∀ (d:Nat) (s:Ex.S) (X:Nat->Prop) (w:World),d<=64->Rd c X w s->f .test d s ≠ .out->Calls Tryz.prog 215 #[.pointer (some ⟨c.r,0,none⟩),.int .i64 (d:Int)] w (Post c X w (f .test d s))
 sum:∀ (d:Nat) (s:Ex.S) (X:Nat->Prop) (w:World),d<=64->Rd c X w s->f .sum d s ≠ .out->Calls Tryz.prog 219 #[.pointer (some ⟨c.r,0,none⟩),.int .i64 (d:Int)] w (Post c X w (f .sum d s))
 times:∀ (d:Nat) (s:Ex.S) (X:Nat->Prop) (w:World),d<=64->Rd c X w s->f .times d s ≠ .out->Calls Tryz.prog 224 #[.pointer (some ⟨c.r,0,none⟩),.int .i64 (d:Int)] w (Post c X w (f .times d s))
 unary:∀ (d:Nat) (s:Ex.S) (X:Nat->Prop) (w:World),d<=64->Rd c X w s->f .unary d s ≠ .out->Calls Tryz.prog 230 #[.pointer (some ⟨c.r,0,none⟩),.int .i64 (d:Int)] w (Post c X w (f .unary d s))
structure PosAt (w:World)(b:Nat)(p:Pos):Prop where
 blk:w.heap[b]? = some (.cells #[.int .i64 p.line,.int .i64 p.col] 41 (0,0))
theorem PosAt.c0 {w:World}{b:Nat}{p:Pos}(h:PosAt w b p):w.cell? ⟨b,0,none⟩=some (.int .i64 p.line):=(blk_cell h.blk 0).trans rfl
theorem PosAt.c1 {w:World}{b:Nat}{p:Pos}(h:PosAt w b p):w.cell? ⟨b,1,none⟩=some (.int .i64 p.col):=(blk_cell h.blk 1).trans rfl
theorem PosAt.kp {c:Cx}{w w':World}{b:Nat}{p:Pos}(h:PosAt w b p)(hk:Kp c w w')(hr:c.r<b)(hb:c.bt<b):PosAt w' b p:=⟨hk.heap h.blk (by omega) (by omega) (fun e=>absurd e (by decide))⟩
theorem PosAt.below {w w':World}{b:Nat}{p:Pos}(h:PosAt w b p)(hb:Below w.heap.size w w'):PosAt w' b p:=⟨(hb.block b (lt_of_heap h.blk)).trans h.blk⟩
theorem PosAt.alloc {w:World}{b:Nat}{p:Pos}(h:PosAt w b p)(o:Obj):PosAt (w.alloc o) b p:=⟨blk_alloc h.blk o⟩
theorem ints_at1 (w:World)(i:Nat)(t:TypeId):IntsAt (w.alloc (.cells #[.int .i64 (i:Int)] t)).heap.size (w.alloc (.cells #[.int .i64 (i:Int)] t)) (some ⟨w.heap.size,0,none⟩) ([i].map fun (k:Nat)=>(k:Int)):=by
 intro k hk;have hk0:k=0:=by simp at hk;omega
 subst hk0;exact ⟨w.heap.size,0,rfl,by simp,by rw [World.cell?_alloc_new];rfl⟩
theorem ints_at2 (w:World)(i j:Nat)(t:TypeId):IntsAt (w.alloc (.cells #[.int .i64 (i:Int),.int .i64 (j:Int)] t)).heap.size (w.alloc (.cells #[.int .i64 (i:Int),.int .i64 (j:Int)] t)) (some ⟨w.heap.size,0,none⟩) ([i,j].map fun (k:Nat)=>(k:Int)):=by
 intro k hk;have hk2:k<2:=by simpa using hk
 refine ⟨w.heap.size,0,rfl,by simp, ?_⟩;rw [Nat.zero_add,World.cell?_alloc_new]
 match k,hk2 with
 | 0,_=>rfl
 | 1,_=>rfl
theorem ints_at3 (w:World)(i j l:Nat)(t:TypeId):IntsAt (w.alloc (.cells #[.int .i64 (i:Int),.int .i64 (j:Int),.int .i64 (l:Int)] t)).heap.size (w.alloc (.cells #[.int .i64 (i:Int),.int .i64 (j:Int),.int .i64 (l:Int)] t)) (some ⟨w.heap.size,0,none⟩) ([i,j,l].map fun (k:Nat)=>(k:Int)):=by
 intro k hk;have hk2:k<3:=by simpa using hk
 refine ⟨w.heap.size,0,rfl,by simp, ?_⟩;rw [Nat.zero_add,World.cell?_alloc_new]
 match k,hk2 with
 | 0,_=>rfl
 | 1,_=>rfl
 | 2,_=>rfl
theorem ints_at0 (w:World)(N:Nat):IntsAt N w none (([]:List Nat).map fun (k:Nat)=>(k:Int)):=by
 intro k hk;simp at hk
end
end Go.Proofs.YtdfpkmfeldoamaaGreatDoor
