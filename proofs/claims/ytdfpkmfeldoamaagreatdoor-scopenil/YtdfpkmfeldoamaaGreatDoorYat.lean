/- A part of the proof: A part of the proof. -/
import Derived.Test.YtdfpkmfeldoamaaGreatDoorYn2
import Derived.Laws.AppendOwn
import Derived.OwnWalk
import Derived.Deep.AppendLies
import Derived.Deep.RegionLaw
import Derived.Deep.RegionWith
import Derived.Deep.LoopGhost
set_option linter.unusedSimpArgs false
set_option linter.unusedVariables false
set_option maxRecDepth 100000
set_option maxHeartbeats 8000000
namespace Go.Proofs.YtdfpkmfeldoamaaGreatDoor
section
open Go.RowKit Tn Lx
theorem freeLq_trans {c:Cx}{q:Nat}{v v0:Value}{a b d:World}(h:But (FreeL c q v0 a) a b)(hv:v.ownBlock=v0.ownBlock\/∃ g,v.ownBlock=some g/\a.heap.size<=g)(k:But (FreeL c q v b) b d):But (FreeL c q v0 a) a d :=
 ⟨k.os.trans h.os,k.tape.trans h.tape,k.output.trans h.output,Nat.le_trans h.size k.size,fun i hi hp=>by
  have e:=h.block i hi hp;refine (k.block i (Nat.lt_of_lt_of_le hi h.size) ?_).trans e;rintro ((e1 | e1 | ⟨e1,cs,fr,e2⟩) | e1 | e1)
  ·exact hp (.inl (.inl e1))
  ·exact hp (.inl (.inr (.inl e1)))
  ·exact hp (.inl (.inr (.inr ⟨e1,cs,fr,e ▸ e2⟩)))
  ·exact hp (.inr (.inl e1))
  ·rcases hv with hv | ⟨g,hv,hg⟩
   ·exact hp (.inr (.inr (hv ▸ e1)))
   ·rw [hv] at e1;injection e1 with e1;omega⟩
theorem row_tail_g {c:Cx}{X:Nat->Prop}{w1 w5:World}{s1:Ex.S}{q pp l z:Nat}{t tb:TypeId}{cs par:Array Value}{v:Value}{n:Nat}{xs ys:List Value}{g cap m:Nat}{o:Obj}(ht:t≠165/\t≠3/\t≠tb/\t≠87)(hb':tb≠165/\tb≠3/\87≠tb)(hR1:Rd c X w1 s1)(ho1:w1.ownsRow c.B t z v n xs)(hq1:w1.heap[q]? = some (.cells cs tb (0,0)))(hqB:c.B<=q)(hpp:w1.heap[pp]? = some (.cells par 87 (0,0)))
  (hown:w5.ownsRow c.B t z (.slice (some ⟨g,0,none⟩) m cap) m ys) (hgrow:((w1.alloc o).drew).grownBy w5 v.ownBlock):
  w5.heap[q]? = some (.cells cs tb (0,0))/\Rd c X (w5.setCell ⟨q,l,none⟩ (.slice (some ⟨g,0,none⟩) m cap)) s1/\(w5.setCell ⟨q,l,none⟩ (.slice (some ⟨g,0,none⟩) m cap)).ownsRow c.B t z (.slice (some ⟨g,0,none⟩) m cap) m ys /\
  (w5.setCell ⟨q,l,none⟩ (.slice (some ⟨g,0,none⟩) m cap)).heap[q]? = some (.cells (cs.setIfInBounds l (.slice (some ⟨g,0,none⟩) m cap)) tb (0,0))/\(w5.setCell ⟨q,l,none⟩ (.slice (some ⟨g,0,none⟩) m cap)).heap[pp]? = some (.cells par 87 (0,0))/\But (FreeL c q v w1) w1 (w5.setCell ⟨q,l,none⟩ (.slice (some ⟨g,0,none⟩) m cap)):=by
 have hB:But (fun k=>v.ownBlock=some k) w1 w5:=by
  have h1:But (fun k=>v.ownBlock=some k) w1 (w1.alloc o).drew:=But.of_below ((Below.refl _ w1).alloc (Nat.le_refl _) _).drew;exact h1.trans (But.of_grown hgrow (fun k e=>e))
 have hr:=hR1.rlt;have hb:=hR1.blt;have hg:=hR1.glt;have htt:∀ k,v.ownBlock=some k->c.B<=k/\∃ cs' fr,w1.heap[k]? = some (.cells cs' t fr):=fun k hk=>by
  obtain ⟨e0,cur,e1⟩:=own_tag ho1 hk;exact ⟨e0,cur,_,e1⟩
 have hvq:v.ownBlock≠some q:=fun e=>by
  obtain ⟨_,cs',fr,e1⟩:=htt q e;rw [hq1] at e1;injection e1 with e1;injection e1 with _ e1;exact ht.2.2.1 e1.symm
 have hvp:v.ownBlock≠some pp:=fun e=>by
  obtain ⟨_,cs',fr,e1⟩:=htt pp e;rw [hpp] at e1;injection e1 with e1;injection e1 with _ e1;exact ht.2.2.2 e1.symm
 have hqp:pp≠q:=fun e=>by
  rw [e,hq1] at hpp;injection hpp with e1;injection e1 with _ e1;exact hb'.2.2 e1.symm
 have hq5:w5.heap[q]? = some (.cells cs tb (0,0)):=hB.heap hq1 hvq;have hp5:w5.heap[pp]? = some (.cells par 87 (0,0)):=hB.heap hpp hvp;have hgq:g≠q:=fun e=>by
  obtain ⟨_,cur,e1⟩:=own_tag hown (g:=g) rfl;rw [e,hq5] at e1;injection e1 with e1;injection e1 with _ e1;exact ht.2.2.1 e1.symm
 have hR5:Rd c X w5 s1:=hR1.but hB (fun e=>by have:=(htt _ e).1;omega) (fun e=>by have:=(htt _ e).1;omega) (fun e=>by have:=(htt _ e).1;omega) (fun k e=>by
  obtain ⟨_,cs',fr,e1⟩:=htt k e;exact .inr ⟨cs',_,fr,e1,ht.1,ht.2.1⟩)
 have hS:But (fun k=>k=q) w5 (w5.setCell ⟨q,l,none⟩ (.slice (some ⟨g,0,none⟩) m cap)):=But.setCell (p:=fun k=>k=q) w5 rfl l _;refine ⟨hq5, ?_, ?_, ?_, ?_, ?_⟩
 ·exact hR5.but hS (fun e=>by omega) (fun e=>by omega) (fun e=>by omega) (fun k e => .inr (by subst e;exact ⟨_,_,_,hq5,hb'.1,hb'.2.1⟩))
 ·exact hS.own hown (fun k hk e=>hgq ((Option.some.inj (show some g=some k from hk)).trans e))
 ·exact blk_set hq5 l _
 ·exact hS.heap hp5 hqp
 ·refine ⟨hS.os.trans hB.os,hS.tape.trans hB.tape,hS.output.trans hB.output,Nat.le_trans hB.size hS.size,fun k hk hn=>?_⟩;have h2:=hB.block k hk (fun e=>hn (.inr (.inr e)));exact (hS.block k (Nat.lt_of_lt_of_le hk hB.size) (fun e=>hn (.inr (.inl e)))).trans h2
structure LSt5 (c:Cx)(X:Nat->Prop)(w:World)(q pp qo li:Nat)(tb:TypeId)(cs:Array Value)(v0:Value)(part:Ex.S->Ex.Res Pg.Nm)(R:Ex.Res (List Pg.Nm))(f:Nat)(l:List Pg.Nm)(s:Ex.S)(pa:Option Addr)(pc:Nat)(wr:World):Prop where
 rd:Rd c X wr s
 par:wr.heap[pp]? = some (.cells (yparF c.r qo) 87 (0,0))
 pol:wr.heap[q]? = some (.cells (cs.setIfInBounds li (.slice pa l.length pc)) tb (0,0))
 own:wr.ownsRow c.B 49 3 (.slice pa l.length pc) l.length (nmsCells l)
 fr:But (FreeL c q v0 w) w wr
 at_:(Value.slice pa l.length pc).ownBlock=v0.ownBlock\/∃ g,(Value.slice pa l.length pc).ownBlock=some g/\w.heap.size<=g
 fin:Yf.list c.ts part f l s=R
 few:l.length+f<=1800000
def ListP (c:Cx)(X:Nat->Prop)(w:World)(q pp qo li:Nat)(tb:TypeId)(cs:Array Value)(v0:Value)(R:Ex.Res (List Pg.Nm))(e:Ending)(w':World):Prop :=
 (∃ l s pa pc,R = .ok l s/\e = .returned .nilIface/\Rd c X w' s/\w'.heap[pp]? = some (.cells (yparF c.r qo) 87 (0,0))/\w'.heap[q]? = some (.cells (cs.setIfInBounds li (.slice pa l.length pc)) tb (0,0))/\w'.ownsRow c.B 49 3 (.slice pa l.length pc) l.length (nmsCells l)/\But (FreeL c q v0 w) w w'/\((Value.slice pa l.length pc).ownBlock=v0.ownBlock\/∃ g,(Value.slice pa l.length pc).ownBlock=some g/\w.heap.size<=g)) \/
 (∃ cd p,R = .bad cd p/\e = .returned (dval cd p)/\But (FreeL c q v0 w) w w')
theorem list5_any (c:Cx)(X:Nat->Prop)(w:World)(s:Ex.S)(q pp qo li n fid:Nat)(tb:TypeId)(cs:Array Value)(part:Ex.S->Ex.Res Pg.Nm)(pa0:Option Addr)(pc0:Nat)(l:List Pg.Nm)(h:Rd c X w s)(hpp:w.heap[pp]? = some (.cells (yparF c.r qo) 87 (0,0)))(hpB:c.B<=pp)(hqB:c.B<=q)(htb:tb≠165/\tb≠3/\87≠tb/\49≠tb)
  (hq:w.heap[q]? = some (.cells cs tb (0,0))) (hl:cs[li]? = some (.slice pa0 l.length pc0)) (hown:w.ownsRow c.B 49 3 (.slice pa0 l.length pc0) l.length (nmsCells l)) (hfew:l.length+n<=1800000)
  (hen:∀ args w,(callFunc fid args).run Tryz.prog w = .ok (.enter fid args) w) (hpart:∀ W s,Rd c X W s->W.heap[pp]? = some (.cells (yparF c.r qo) 87 (0,0))->Calls Tryz.prog fid #[.pointer (some ⟨pp,0,none⟩)] W (NmP c X W (part s))) (hne:Yf.list c.ts part n l s ≠ .out):
  Calls Tryz.prog 89 #[.pointer (some ⟨pp,0,none⟩),.pointer (some ⟨q,li,none⟩),.func (.func fid) #[] #[]] w (ListP c X w q pp qo li tb cs (.slice pa0 l.length pc0) (Yf.list c.ts part n l s)):=by
 have hr1:=h.rlt;have hb1:=h.blt;have hg1:=h.glt;have hsz:=h.size;have hlc:li<cs.size:=by
  rcases Nat.lt_or_ge li cs.size with e | e
  ·exact e
  ·rw [Array.getElem?_eq_none e] at hl;cases hl
 obtain ⟨v,hv⟩:∃ v:Value,Value.slice pa0 l.length pc0=v:=⟨_,rfl⟩;have hst0:LSt5 c X w q pp qo li tb cs v part (Yf.list c.ts part n l s) n l s pa0 pc0 w:=⟨h,hpp,by rw [setp_same hl];exact hq,hown,But.refl _ _,.inl (by rw [hv]),rfl,hfew⟩;rw [hv];generalize Yf.list c.ts part n l s=R at *;have HST0:=Lib.hid hst0;have HNE:=Lib.hid hne;have HPT:=Lib.hid hpart;obtain ⟨i0,hi,hz0,hz1,hz2⟩:=info_parts Tryz.info49;have HI:=Lib.hid hi;have HZ:=Lib.hid hz0;have HZ1:=Lib.hid hz1;have HZ2:=Lib.hid hz2;clear hst0 h hpp hq hl hown hne hfew hi hz0 hz1 hz2 hv hpart
 go_enter Tryz.func89,Tryz.ntmps89
 go_wp2_with fail
 go_loopg [] n (fun k wr=>∃ (l':List Pg.Nm) (s':Ex.S) (pa:Option Addr) (pc:Nat),LSt5 c X w q pp qo li tb cs v part R k l' s' pa pc wr)
 case atStart=>exact ⟨l,s,pa0,pc0,HST0.out⟩
 case round =>
  obtain ⟨l',s',pa,pc,hst⟩:=hrel;obtain ⟨k,rfl⟩:∃ k,gk=k+1:=by
   cases gk with
   | zero=>have:=hst.fin;rw [Yf.list] at this;exact absurd this.symm HNE.out
   | succ k=>exact ⟨k,rfl⟩
  have hfin:=hst.fin;rw [Yf.list] at hfin;obtain ⟨u,hu⟩:∃ u:Value,Value.slice pa l'.length pc=u:=⟨_,rfl⟩;have hA:=HPT.out wr s' hst.rd hst.par;generalize part s'=RN at *;have HA:=Lib.hid hA;have HST:=Lib.hid hst;have HFIN:=Lib.hid hfin;have HU:=Lib.hid hu;clear hA hst hfin HST0 hu
  go_wp2_with fail
  refine HA.out.mono ?_;rintro e w1 (⟨m,s3,hE3,rfl,hR1,hK1⟩ | ⟨cd,p3,m,hE3,rfl,hK1⟩)
  rotate_left
  ·have hF:R = .bad cd p3:=by rw [<- HFIN.out,hE3];rfl
   have HF:=Lib.hid hF;have HK:=Lib.hid (fun o=>freeLq_trans HST.out.fr (.inl rfl) (freeLp_kp (q:=q) (v:=v) (hK1.then_below ((Below.refl _ w1).alloc (Nat.le_refl _) o))));clear hF hK1 hE3;unfold nmV dval
   go_wp2
   go_ret
   exact .inr ⟨cd,p3,HF.out,rfl,HK.out _⟩
  have hF3:(if Ex.is c.ts s3 [44]=true then Yf.list c.ts part k (l'++[m]) s3.skip else .ok (l'++[m]) s3)=R:=by rw [<- HFIN.out,hE3];rfl
  unfold nmV;obtain ⟨V,hV⟩:∃ V,w1.alloc (.cells #[.string ⟨m.text.toArray⟩,.int .i64 m.at_.line,.int .i64 m.at_.col] 49)=V:=⟨_,rfl⟩;have hbV:Below w1.heap.size w1 V:=by rw [<- hV];exact (Below.refl _ w1).alloc (Nat.le_refl _) _
  have hsV:V.heap.size=w1.heap.size+1:=by rw [<- hV];simp
  have kV:V.heap[w1.heap.size]? = some (.cells #[.string ⟨m.text.toArray⟩,.int .i64 m.at_.line,.int .i64 m.at_.col] 49 (0,0)):=by rw [<- hV];exact blk_new w1 _
  have hKV:=hK1.then_below hbV;have hRV:=hR1.below hbV;have hqV:=hKV.heap HST.out.pol (by omega) (by omega) htb.1;have hpV:=hKV.heap HST.out.par (by omega) (by omega) (by decide);have hoV:V.ownsRow c.B 49 3 u l'.length (nmsCells l'):=by
   rw [<- HU.out];exact But.own hKV HST.out.own (fun g hg=>by
    obtain ⟨e0,cur,e1⟩:=own_tag HST.out.own hg;rintro (e | e | ⟨_,cs',fr',e⟩)
    ·omega
    ·omega
    ·rw [e1] at e;injection e with e;injection e with _ e;exact absurd e (by decide))
  rw [HU.out] at hqV;have q1:V.cell? ⟨q,li,none⟩=some u:=by
   rw [blk_cell hqV li,Array.getElem?_setIfInBounds_self_of_lt hlc]
  have q1':∀ o,(V.alloc o).cell? ⟨q,li,none⟩=some u:=fun o=>(World.cell?_alloc_lt _ _ _ (World.block_lt_of_cell? _ _ q1)).trans q1;have y0:V.cell? ⟨w1.heap.size,0,none⟩=some (.string ⟨m.text.toArray⟩):=(blk_cell kV 0).trans rfl;have y1:V.cell? ⟨w1.heap.size,1,none⟩=some (.int .i64 m.at_.line):=(blk_cell kV 1).trans rfl;have y2:V.cell? ⟨w1.heap.size,2,none⟩=some (.int .i64 m.at_.col):=(blk_cell kV 2).trans rfl;have hnb:((V.alloc (.cells #[.string ⟨m.text.toArray⟩,.int .i64 m.at_.line,.int .i64 m.at_.col] 49)).drew).heap[V.heap.size]? = some (.cells #[.string ⟨m.text.toArray⟩,.int .i64 m.at_.line,.int .i64 m.at_.col] 49 (0,0)):=heap_alloc_new V _;have hfw:=HST.out.few;have hBsz:=hRV.size;have hus:u.ownBlock=v.ownBlock\/∃ g,u.ownBlock=some g/\w.heap.size<=g:=by rw [<- HU.out];exact HST.out.at_
  have hfr1:=freeLq_trans HST.out.fr (.inl rfl) (freeLp_kp (q:=q) (v:=v) hKV);have HNB:=Lib.hid hnb;have HV:=Lib.hid hV;have HKV:=Lib.hid hKV;have HRV:=Lib.hid hRV;have HQV:=Lib.hid hqV;have HPV:=Lib.hid hpV;have HOV:=Lib.hid hoV;have HUS:=Lib.hid hus;have HFR:=Lib.hid hfr1;have HF3:=Lib.hid hF3;have HTB:=Lib.hid htb;clear hnb hV hKV hRV hqV hpV hoV hbV kV hR1 hK1 HA hsV hus hfr1 hF3 hE3 HFIN HST HU
  go_upto_region 4 with fail
  rw [HV.out]
  go_region_law (refine step_append_lies _ (by rfl) (.tmp 21) (.tmp 23) 50 (by rfl) c.B 49 i0 _ 3 32 Tryz.underlying50 HI.out HZ.out HZ1.out HZ2.out rfl (by omega) u l'.length (nmsCells l') (by rfl) ((HOV.out.alloc _).drew) ⟨V.heap.size,0,none⟩ 1 1 (nmCell m) (by rfl) (by rfl) (World.news_of_block (cs:=#[.string ⟨m.text.toArray⟩,.int .i64 m.at_.line,.int .i64 m.at_.col]) (t:=49) (fr:=(0,0)) HNB.out) (nmCell_one m) (by omega) (by unfold maxLen;omega) (by omega) (by simp;omega) (V.heap.size+1) (by simp) ?_;intro g cap w5 hown5 hgrow5 hat5 hlt5;have G:=row_tail_g (l:=li) ⟨by decide,by decide,HTB.out.2.2.2,by decide⟩ ⟨HTB.out.1,HTB.out.2.1,HTB.out.2.2.1⟩ HRV.out HOV.out HQV.out hqB HPV.out hown5 hgrow5;have c5:w5.cell? ⟨q,li,none⟩=some u:=(by rw [blk_cell G.1 li,Array.getElem?_setIfInBounds_self_of_lt hlc]);have f5:w5.frozen? ⟨q,li,none⟩=false:=blk_frozen G.1 li)
  all_goals
   obtain ⟨v',hv'⟩:∃ v':Value,Value.slice (some ⟨g,0,none⟩) (l'.length+1) cap=v':=⟨_,rfl⟩;have hvb:v'.ownBlock=some g:=by rw [<- hv'];rfl
   rw [hv'] at G ⊢;obtain ⟨w6,hw6⟩:∃ w6,w5.setCell ⟨q,li,none⟩ v'=w6:=⟨_,rfl⟩;rw [hw6] at G ⊢;obtain ⟨_,hR6,hown6,hq6,hp6,hB6⟩:=G;rw [setp_set] at hq6;have hwV:w.heap.size<=V.heap.size:=HFR.out.size;have hat6:v'.ownBlock=v.ownBlock\/∃ g,v'.ownBlock=some g/\w.heap.size<=g:=by
    rcases hat5 with e | e
    ·rw [hvb,<- e];exact HUS.out
    ·exact .inr ⟨g,hvb,by omega⟩
   have hfr6:But (FreeL c q v w) w w6:=freeLq_trans HFR.out HUS.out hB6;have hI:=is_any c X w6 s3 [44] hR6;have p06:w6.cell? ⟨pp,0,none⟩=some (.pointer (some ⟨c.r,0,none⟩)):=(blk_cell hp6 0).trans rfl;have hl6:w6.ownsRow c.B 49 3 v' (l'++[m]).length (nmsCells (l'++[m])):=by rw [List.length_append,nmsCells_snoc];exact hown6
   have hvv:v' = .slice (some ⟨g,0,none⟩) (l'++[m]).length cap:=by rw [<- hv',List.length_append];rfl
   have hfin:=HF3.out;have HR6:=Lib.hid hR6;have HO6:=Lib.hid hl6;have HQ6:=Lib.hid hq6;have HP6:=Lib.hid hp6;have HF6:=Lib.hid hfr6;have HA6:=Lib.hid hat6;have HVV:=Lib.hid hvv;clear hR6 hl6 hown6 hq6 hp6 hfr6 hat6 hB6 hat5 hlt5 hgrow5 hown5 c5 f5 HKV HRV HQV HPV HOV HNB HV HUS HFR HF3 hw6 hv' hvb q1 q1' y0 y1 y2 hvv
   cases hi:Ex.is c.ts s3 [44] with
   | false =>
    rw [hi] at hI hfin;rw [if_neg (by decide)] at hfin;have HI7:=Lib.hid hI;have HFF:=Lib.hid hfin;clear hI hfin hi
    go_wp2_with fail
    refine HI7.out.mono ?_;rintro e w7 ⟨rfl,hb7⟩;have hq7:=(hb7.block _ (lt_of_heap HQ6.out)).trans HQ6.out;have ho7:=own_below HO6.out hb7;have ha7:=HA6.out;rw [HVV.out] at hq7 ho7 ha7;have HB7:=Lib.hid hb7;have HQ7:=Lib.hid hq7;have HO7:=Lib.hid ho7;have HA7:=Lib.hid ha7;clear hb7 hq7 ho7 ha7
    go_wp2
    go_ret
    exact .inl ⟨_,_,_,_,HFF.out.symm,rfl,HR6.out.below HB7.out,(HB7.out.block _ (lt_of_heap HP6.out)).trans HP6.out,HQ7.out,HO7.out,freeLq_trans HF6.out (.inl rfl) (freeLp_kp (Kp.of_below HB7.out)),HA7.out⟩
   | true =>
    rw [hi] at hI hfin;rw [if_pos rfl] at hfin;have ht1:Ex.take c.ts [44] s3 = .ok () s3.skip:=by rw [Ex.take,if_pos hi]
    have hTk:=fun (w2:World) (b:Nat) (hR:Rd c X w2 s3) (hc:w2.cell? ⟨b,0,none⟩=some (.string ⟨#[44]⟩))=>take_any c X w2 s3 [44] b hR hc;rw [ht1] at hTk;have HI7:=Lib.hid hI;have HFF:=Lib.hid hfin;have HTK:=Lib.hid hTk;clear hI hfin hi hTk ht1
    go_wp2_with fail
    refine HI7.out.mono ?_;rintro e w7 ⟨rfl,hb7⟩;have hp7:=(hb7.block _ (lt_of_heap HP6.out)).trans HP6.out;have p07:w7.cell? ⟨pp,0,none⟩=some (.pointer (some ⟨c.r,0,none⟩)):=(blk_cell hp7 0).trans rfl;obtain ⟨V7,hV7⟩:∃ V,w7.alloc (.cells #[.string ⟨#[44]⟩] 9)=V:=⟨_,rfl⟩;have hbV7:Below w7.heap.size w7 V7:=by rw [<- hV7];exact (Below.refl _ w7).alloc (Nat.le_refl _) _
    have ks:V7.cell? ⟨w7.heap.size,0,none⟩=some (.string ⟨#[44]⟩):=by rw [<- hV7];exact (blk_cell (blk_new w7 _) 0).trans rfl
    have hb67:Below w6.heap.size w6 V7:=hb7.trans (hbV7.mono hb7.size);have hT:=HTK.out V7 w7.heap.size (HR6.out.below hb67) ks;have HT:=Lib.hid hT;have HV7:=Lib.hid hV7;have HB67:=Lib.hid hb67;clear hb7 hp7 hbV7 ks hb67 hT hV7 HI7 HTK
    go_wp2_with fail
    rw [HV7.out];refine HT.out.mono ?_;rintro e w8 (⟨s8,hE8,rfl,hR8,hK8⟩ | ⟨cd,p8,hE8,rfl,hK8⟩)
    rotate_left
    ·cases hE8
    injection hE8 with _ e8
    subst e8;have hK68:Kp c w6 w8:=Below.then_kp HB67.out hK8;have hq8:=hK68.heap HQ6.out (by omega) (by omega) HTB.out.1;have ho8:w8.ownsRow c.B 49 3 v' (l'++[m]).length (nmsCells (l'++[m])):=But.own hK68 HO6.out (fun g hg=>by
     obtain ⟨e0,cur,e1⟩:=own_tag HO6.out hg;rintro (e | e | ⟨_,cs',fr',e⟩)
     ·omega
     ·omega
     ·rw [e1] at e;injection e with e;injection e with _ e;exact absurd e (by decide))
    have ha8:=HA6.out;rw [HVV.out] at hq8 ho8 ha8;have hst8:LSt5 c X w q pp qo li tb cs v part R k (l'++[m]) s3.skip (some ⟨g,0,none⟩) cap w8 :=
     ⟨hR8,hK68.heap HP6.out (by omega) (by omega) (by decide),hq8,ho8,freeLq_trans HF6.out (.inl rfl) (freeLp_kp hK68),ha8,HFF.out,by simp;omega⟩
    have HST8:=Lib.hid hst8;clear hst8 hK68 hR8 hK8 hq8 ho8 ha8 HT HV7 HB67
    go_wp2_with fail
    go_roundg k
    case measure=>omega
    case rel=>exact ⟨l'++[m],s3.skip,some ⟨g,0,none⟩,cap,HST8.out⟩
end
section
open Go.RowKit Tn Lx
theorem own_is {w:World}{B z n:Nat}{t:TypeId}{v:Value}{xs:List Value}(h:w.ownsRow B t z v n xs):∃ pa pc,v = .slice pa n pc:=by
 rcases h.2 with ⟨h1,h2⟩ | ⟨g,cap,cur,h1,_⟩
 ·subst h2;exact ⟨none,0,h1⟩
 ·exact ⟨_,cap,h1⟩
theorem conf5_any (c:Cx)(X:Nat->Prop)(w:World)(s:Ex.S)(q pp n:Nat)(U:Nat->Value)(fs:List HtV)(g:Yf.St)(h:Rd c X w s)(hP:Qm c q pp U fs w g)(hf:g.conf.length+n<=1800000)(hne:Yf.list c.ts (Pg.nameAt c.ts []) n g.conf s ≠ .out):
  Calls Tryz.prog 88 #[.pointer (some ⟨pp,0,none⟩)] w (ReadQ c X w q pp ((Pg.lift (Yf.list c.ts (Pg.nameAt c.ts []) n g.conf s)).bind fun l s1 => .ok { g with conf:=l } s1)):=by
 have hr1:=h.rlt;have hb1:=h.blt;have hpB:=hP.ppB;have p1:=hP.p1;obtain ⟨pa,pc,hv⟩:=own_is hP.conf;have hown:=hP.conf;have hget:=polF_get (bt:=c.bt) (V:=U) (a:=g.att) (i:=1) (by decide);rw [hv] at hown hget;have hL:=list5_any c X w s q pp q 1 n 90 84 _ (Pg.nameAt c.ts []) pa pc g.conf h hP.par hP.ppB hP.qB ⟨by decide,by decide,by decide,by decide⟩ hP.pol hget hown hf (enters_of Tryz.func90 (by kernel_rfl) rfl) (fun W s hR hp=>yname5_any c X W s pp q hR hp hpB) hne;rw [<- hv] at hL;generalize Yf.list c.ts (Pg.nameAt c.ts []) n g.conf s=R at *;have HL:=Lib.hid hL;have HP:=Lib.hid hP;clear hL hP h hne hown hget
 go_enter Tryz.func88,Tryz.ntmps88
 go_wp2_with fail
 refine HL.out.mono ?_;rintro e w1 (⟨l,s1,pa1,pc1,rfl,rfl,hR1,hp,hq,ho2,hB,hv⟩ | ⟨cd,p,rfl,rfl,hB⟩)
 ·have hM:Qm c q pp (Vup U 1 (.slice pa1 l.length pc1)) fs w1 { g with conf:=l } :=
   ⟨hp,by rw [hq,polF_put (by decide)],ho2,row_other5 hr1 hb1 HP.out.pol HP.out.integ ⟨by decide,by decide⟩ hB (fun k hk e=>HP.out.apart k e hk),row_other5 hr1 hb1 HP.out.pol HP.out.ord ⟨by decide,by decide⟩ hB (own_apart5 HP.out.conf HP.out.ord (by decide)),row_other5 hr1 hb1 HP.out.pol HP.out.hat ⟨by decide,by decide⟩ hB (own_apart5 HP.out.conf HP.out.hat (by decide)),HP.out.ish,fun x hx=>row_other5 hr1 hb1 HP.out.pol (HP.out.ins x hx) ⟨by decide,by decide⟩ hB (fun k hk=>(HP.out.apart1 x hx k hk).1),fun k hk=>apart_new5 hv HP.out.integ HP.out.apart k hk,fun x hx k hk=>⟨fun e=>apart_new5 hv (HP.out.ins x hx) (fun k hk e=>(HP.out.apart1 x hx k e).1 hk) k e hk,(HP.out.apart1 x hx k hk).2⟩,HP.out.ppB,HP.out.qB⟩
  have HM:=Lib.hid hM;have HR:=Lib.hid hR1;have HK:=Lib.hid (freeL_ky hB HP.out.conf (.inl rfl));clear hM hR1 hp hq ho2 hB hv HL
  go_wp2
  go_ret
  exact .inl ⟨_,_,_,_,rfl,rfl,HR.out,HM.out,HK.out⟩
 ·have HK:=Lib.hid (freeL_ky hB HP.out.conf (.inl rfl));clear hB HL;unfold dval
  go_wp2
  go_ret
  exact .inr ⟨cd,p,[],rfl,rfl,HK.out⟩
theorem integ5_any (c:Cx)(X:Nat->Prop)(w:World)(s:Ex.S)(q pp n:Nat)(U:Nat->Value)(fs:List HtV)(g:Yf.St)(h:Rd c X w s)(hP:Qm c q pp U fs w g)(hf:g.integ.length+n<=1800000)(hne:Yf.list c.ts (Pg.nameAt c.ts []) n g.integ s ≠ .out):
  Calls Tryz.prog 91 #[.pointer (some ⟨pp,0,none⟩)] w (ReadQ c X w q pp ((Pg.lift (Yf.list c.ts (Pg.nameAt c.ts []) n g.integ s)).bind fun l s1 => .ok { g with integ:=l } s1)):=by
 have hr1:=h.rlt;have hb1:=h.blt;have hpB:=hP.ppB;have p1:=hP.p1;obtain ⟨pa,pc,hv⟩:=own_is hP.integ;have hown:=hP.integ;have hget:=polF_get (bt:=c.bt) (V:=U) (a:=g.att) (i:=2) (by decide);rw [hv] at hown hget;have hL:=list5_any c X w s q pp q 2 n 90 84 _ (Pg.nameAt c.ts []) pa pc g.integ h hP.par hP.ppB hP.qB ⟨by decide,by decide,by decide,by decide⟩ hP.pol hget hown hf (enters_of Tryz.func90 (by kernel_rfl) rfl) (fun W s hR hp=>yname5_any c X W s pp q hR hp hpB) hne;rw [<- hv] at hL;generalize Yf.list c.ts (Pg.nameAt c.ts []) n g.integ s=R at *;have HL:=Lib.hid hL;have HP:=Lib.hid hP;clear hL hP h hne hown hget
 go_enter Tryz.func91,Tryz.ntmps91
 go_wp2_with fail
 refine HL.out.mono ?_;rintro e w1 (⟨l,s1,pa1,pc1,rfl,rfl,hR1,hp,hq,ho2,hB,hv⟩ | ⟨cd,p,rfl,rfl,hB⟩)
 ·have hM:Qm c q pp (Vup U 2 (.slice pa1 l.length pc1)) fs w1 { g with integ:=l } :=
   ⟨hp,by rw [hq,polF_put (by decide)],row_other5 hr1 hb1 HP.out.pol HP.out.conf ⟨by decide,by decide⟩ hB HP.out.apart,ho2,row_other5 hr1 hb1 HP.out.pol HP.out.ord ⟨by decide,by decide⟩ hB (own_apart5 HP.out.integ HP.out.ord (by decide)),row_other5 hr1 hb1 HP.out.pol HP.out.hat ⟨by decide,by decide⟩ hB (own_apart5 HP.out.integ HP.out.hat (by decide)),HP.out.ish,fun x hx=>row_other5 hr1 hb1 HP.out.pol (HP.out.ins x hx) ⟨by decide,by decide⟩ hB (fun k hk=>(HP.out.apart1 x hx k hk).2),fun k hk e=>apart_new5 hv HP.out.conf (fun k hk e=>HP.out.apart k e hk) k e hk,fun x hx k hk=>⟨(HP.out.apart1 x hx k hk).1,fun e=>apart_new5 hv (HP.out.ins x hx) (fun k hk e=>(HP.out.apart1 x hx k e).2 hk) k e hk⟩,HP.out.ppB,HP.out.qB⟩
  have HM:=Lib.hid hM;have HR:=Lib.hid hR1;have HK:=Lib.hid (freeL_ky hB HP.out.integ (.inl rfl));clear hM hR1 hp hq ho2 hB hv HL
  go_wp2
  go_ret
  exact .inl ⟨_,_,_,_,rfl,rfl,HR.out,HM.out,HK.out⟩
 ·have HK:=Lib.hid (freeL_ky hB HP.out.integ (.inl rfl));clear hB HL;unfold dval
  go_wp2
  go_ret
  exact .inr ⟨cd,p,[],rfl,rfl,HK.out⟩
end
section
open Go.RowKit Tn Lx
attribute [local go_sem] tok_field0 tok_field1 tok_field3
theorem ywrong_any (w:World)(cd:Int)(n:Pg.Nm):Calls Tryz.prog 47 #[.int .i64 cd,.agg #[.string ⟨n.text.toArray⟩,.int .i64 n.at_.line,.int .i64 n.at_.col]] w fun e w'=>e = .returned (dvalN cd n.at_ n.text)/\Below w.heap.size w w':=by
 obtain ⟨V,hV⟩:∃ V,w.alloc (.cells #[.string ⟨n.text.toArray⟩,.int .i64 n.at_.line,.int .i64 n.at_.col] 49)=V:=⟨_,rfl⟩;have hbV:Below w.heap.size w V:=by rw [<- hV];exact (Below.refl _ w).alloc (Nat.le_refl _) _
 have kV:V.heap[w.heap.size]? = some (.cells #[.string ⟨n.text.toArray⟩,.int .i64 n.at_.line,.int .i64 n.at_.col] 49 (0,0)):=by rw [<- hV];exact blk_new w _
 have y0:V.cell? ⟨w.heap.size,0,none⟩=some (.string ⟨n.text.toArray⟩):=(blk_cell kV 0).trans rfl;have y1:V.cell? ⟨w.heap.size,1,none⟩=some (.int .i64 n.at_.line):=(blk_cell kV 1).trans rfl;have y2:V.cell? ⟨w.heap.size,2,none⟩=some (.int .i64 n.at_.col):=(blk_cell kV 2).trans rfl;have HV:=Lib.hid hV;have HB:=Lib.hid hbV;clear hV hbV kV
 go_enter Tryz.func47,Tryz.ntmps47
 rw [<- HV.out] at y0 y1 y2
 go_wp2
 go_ret
 rw [HV.out];exact ⟨rfl,HB.out⟩
def attF (ts:List Tok)(g:Yf.St)(s:Ex.S):Pg.R Yf.St:=(Pg.lift (Pg.nameAt ts [] s)).bind fun a s1=>if (g.att.text==[])=true then .ok { g with att:=a } s1 else .bad 8 a.at_ a.text
theorem hasAtt5_any (c:Cx)(w:World)(q pp:Nat)(U:Nat->Value)(fs:List HtV)(g:Yf.St)(hP:Qm c q pp U fs w g):Calls Tryz.prog 43 #[.pointer (some ⟨pp,0,none⟩)] w fun e w'=>e = .returned (.bool (!g.att.text.isEmpty))/\w=w':=by
 have p1:=hP.p1;have g4:=hP.g4;clear hP
 go_enter Tryz.func43,Tryz.ntmps43
 go_wp2
 go_ret
 exact ⟨rfl,rfl⟩
theorem att5_any (c:Cx)(X:Nat->Prop)(w:World)(s:Ex.S)(q pp:Nat)(U:Nat->Value)(fs:List HtV)(g:Yf.St)(h:Rd c X w s)(hP:Qm c q pp U fs w g):
  Calls Tryz.prog 93 #[.pointer (some ⟨pp,0,none⟩)] w (ReadQ c X w q pp (attF c.ts g s)):=by
 have hr1:=h.rlt;have hb1:=h.blt;have hg1:=h.glt;have hsz:=h.size;have hA:=yname5_any c X w s pp q h hP.par hP.ppB;have hE:attF c.ts g s=((Pg.lift (Pg.nameAt c.ts [] s)).bind fun a s1=>if (g.att.text==[])=true then .ok { g with att:=a } s1 else .bad 8 a.at_ a.text):=rfl;generalize attF c.ts g s=RR at *;generalize Pg.nameAt c.ts [] s=R at *;have HA:=Lib.hid hA;have HP:=Lib.hid hP;have HE:=Lib.hid hE;clear hA hP h hE
 go_enter Tryz.func93,Tryz.ntmps93
 go_wp2_with fail
 refine HA.out.mono ?_;rintro e w1 (⟨m,s1,hF,rfl,hR1,hK1⟩ | ⟨cd,p1,m,hF,rfl,hK1⟩)
 rotate_left
 ·have hF2:RR = .bad cd p1 []:=by rw [HE.out,hF];rfl
  have HF:=Lib.hid hF2;have HK:=Lib.hid (fun o=>Ky.of_kp (q:=q) (hK1.then_below ((Below.refl _ w1).alloc (Nat.le_refl _) o)));clear hF hF2 hK1;unfold nmV dval
  go_wp2
  go_ret
  exact .inr ⟨cd,p1,[],HF.out,rfl,HK.out _⟩
 have hF2:RR=if (g.att.text==[])=true then .ok { g with att:=m } s1 else .bad 8 m.at_ m.text:=by rw [HE.out,hF];rfl
 have HF2:=Lib.hid hF2;clear hF hF2 HE;unfold nmV;obtain ⟨V,hV⟩:∃ V,w1.alloc (.cells #[.string ⟨m.text.toArray⟩,.int .i64 m.at_.line,.int .i64 m.at_.col] 49)=V:=⟨_,rfl⟩;have hbV:Below w1.heap.size w1 V:=by rw [<- hV];exact (Below.refl _ w1).alloc (Nat.le_refl _) _
 have kV:V.heap[w1.heap.size]? = some (.cells #[.string ⟨m.text.toArray⟩,.int .i64 m.at_.line,.int .i64 m.at_.col] 49 (0,0)):=by rw [<- hV];exact blk_new w1 _
 have hKV:=hK1.then_below hbV;have hRV:=hR1.below hbV;have hPV:=HP.out.kp hr1 hb1 hKV;have hH:=hasAtt5_any c V q pp U fs g hPV;have HH:=Lib.hid hH;have HV:=Lib.hid hV;have HKV:=Lib.hid hKV;have HRV:=Lib.hid hRV;have HPV:=Lib.hid hPV;have HNV:=Lib.hid kV;clear hH hV hKV hRV hPV kV hbV hR1 hK1 HA
 cases hempty:g.att.text.isEmpty with
 | true =>
  have hF3:RR = .ok { g with att:=m } s1:=by
   have e0:g.att.text=[]:=by simpa using hempty
   rw [HF2.out,if_pos (by rw [e0];rfl)]
  have hH:=HH.out;rw [hempty] at hH;have HF3:=Lib.hid hF3;have HH:=Lib.hid hH;clear hF3 hH hempty HF2
  go_wp2_with fail
  rw [HV.out];refine HH.out.mono ?_;rintro e w2 ⟨rfl,rfl⟩;have p1:=HPV.out.p1;have g4:=HPV.out.g4;have g5:=HPV.out.g5;have g6:=HPV.out.g6;have gf:=HPV.out.gf;have y0:V.cell? ⟨w1.heap.size,0,none⟩=some (.string ⟨m.text.toArray⟩):=(blk_cell HNV.out 0).trans rfl;have y1:V.cell? ⟨w1.heap.size,1,none⟩=some (.int .i64 m.at_.line):=(blk_cell HNV.out 1).trans rfl;have y2:V.cell? ⟨w1.heap.size,2,none⟩=some (.int .i64 m.at_.col):=(blk_cell HNV.out 2).trans rfl;clear HH HV
  go_wp2_with fail
  go_region
  go_wp2
  go_ret
  have hPd:=HPV.out.below (Below.refl _ V).drew;have hS:=but_three V.drew q 4 (.string ⟨m.text.toArray⟩) (.int .i64 m.at_.line) (.int .i64 m.at_.col);refine .inl ⟨_,_,U,fs,HF3.out,rfl, ?_, ?_, ?_⟩
  ·exact HRV.out.drew.but hS (fun e=>by have:=hPd.qB;omega) (fun e=>by have:=hPd.qB;omega) (fun e=>by have:=hPd.qB;omega) (fun k e => .inr (by subst e;exact ⟨_,_,_,hPd.pol,by decide,by decide⟩))
  ·exact ⟨hS.heap hPd.par (fun e=>hPd.qp e.symm),(blk_set (blk_set (blk_set hPd.pol 4 _) 5 _) 6 _),hS.own hPd.conf (fun k hk e=>own_none hPd.conf hPd.pol (by decide) (e ▸ hk)),hS.own hPd.integ (fun k hk e=>own_none hPd.integ hPd.pol (by decide) (e ▸ hk)),hS.own hPd.ord (fun k hk e=>own_none hPd.ord hPd.pol (by decide) (e ▸ hk)),hS.own hPd.hat (fun k hk e=>own_none hPd.hat hPd.pol (by decide) (e ▸ hk)),hPd.ish,fun x hx=>hS.own (hPd.ins x hx) (fun k hk e=>own_none (hPd.ins x hx) hPd.pol (by decide) (e ▸ hk)),hPd.apart,hPd.apart1,hPd.ppB,hPd.qB⟩
  ·exact (Ky.of_kp HKV.out.drew).trans (But.mono hS fun k _ e => .inr (.inr (.inl e)))
 | false =>
  have hF3:RR = .bad 8 m.at_ m.text:=by
   have e0:g.att.text≠[]:=by intro e;rw [e] at hempty;cases hempty
   rw [HF2.out,if_neg (by simpa using e0)]
  have hH:=HH.out;rw [hempty] at hH;have hW:=fun w3=>ywrong_any w3 8 m;have HF3:=Lib.hid hF3;have HH:=Lib.hid hH;have HW:=Lib.hid hW;clear hF3 hH hempty HF2 hW;have y0:V.cell? ⟨w1.heap.size,0,none⟩=some (.string ⟨m.text.toArray⟩):=(blk_cell HNV.out 0).trans rfl;have y1:V.cell? ⟨w1.heap.size,1,none⟩=some (.int .i64 m.at_.line):=(blk_cell HNV.out 1).trans rfl;have y2:V.cell? ⟨w1.heap.size,2,none⟩=some (.int .i64 m.at_.col):=(blk_cell HNV.out 2).trans rfl
  go_wp2_with fail
  rw [HV.out];refine HH.out.mono ?_;rintro e w2 ⟨rfl,rfl⟩
  go_wp2_with fail
  refine (HW.out V).mono ?_;rintro e w3 ⟨rfl,hb3⟩;have HK:=Lib.hid (Ky.of_kp (q:=q) (HKV.out.then_below hb3));clear hb3;unfold dvalN
  go_wp2
  go_ret
  exact .inr ⟨8,_,_,HF3.out,rfl,HK.out⟩
end
end Go.Proofs.YtdfpkmfeldoamaaGreatDoor
