/- A part of the proof: A function's parameters. -/
import Derived.Test.YtdfpkmfeldoamaaGreatDoorSp
import Derived.Laws.AppendOwn
import Derived.OwnWalk
import Derived.Deep.AppendLies
import Derived.Deep.RegionLaw
import Derived.Deep.RegionWith
import Derived.Deep.LoopGhost
set_option linter.unusedSimpArgs false
set_option linter.unusedVariables false
set_option maxRecDepth 100000
set_option maxHeartbeats 8000000
namespace Go.Proofs.YtdfpkmfeldoamaaGreatDoor
open Go.RowKit Tn Lx
theorem Tryz.info49:(Tryz.prog.info? 49).map (fun i=>(i.zero,i.size,i.bytes))=some (some (.agg #[.string ⟨#[]⟩,.int .i64 0,.int .i64 0]),3,32):=by kernel_rfl
theorem freeLp_kp {c:Cx}{q:Nat}{v:Value}{a b:World}(h:Kp c a b):But (FreeL c q v a) a b:=But.mono h fun _ _ e => .inl e
theorem freeLp_d {c:Cx}{q:Nat}{v:Value}{a b:World}(h:But (FreeL c q v a) a b)(hv:v.ownBlock=none\/∃ g,v.ownBlock=some g/\a.heap.size<=g):But (FreeD c q a) a b :=
 ⟨h.os,h.tape,h.output,h.size,fun i hi hp=>h.block i hi (by
  rintro (e | e | e)
  ·exact hp (.inl e)
  ·exact hp (.inr e)
  ·rcases hv with hv | ⟨g,hv,hg⟩
   ·rw [hv] at e;cases e
   ·rw [hv] at e;injection e with e;omega)⟩
theorem freeLp_trans {c:Cx}{q:Nat}{v:Value}{a b d:World}(h:But (FreeD c q a) a b)(hv:v.ownBlock=none\/∃ g,v.ownBlock=some g/\a.heap.size<=g)(k:But (FreeL c q v b) b d):But (FreeD c q a) a d :=
 ⟨k.os.trans h.os,k.tape.trans h.tape,k.output.trans h.output,Nat.le_trans h.size k.size,fun i hi hp=>by
  have e:=h.block i hi hp;refine (k.block i (Nat.lt_of_lt_of_le hi h.size) ?_).trans e;rintro ((e1 | e1 | ⟨e1,cs,fr,e2⟩) | e1 | e1)
  ·exact hp (.inl (.inl e1))
  ·exact hp (.inl (.inr (.inl e1)))
  ·exact hp (.inl (.inr (.inr ⟨e1,cs,fr,e ▸ e2⟩)))
  ·exact hp (.inr e1)
  ·rcases hv with hv | ⟨g,hv,hg⟩
   ·rw [hv] at e1;cases e1
   ·rw [hv] at e1;injection e1 with e1;omega⟩
theorem nmCell_one (d:Pg.Nm):∀ u∈nmCell d,u.oneCell'=true:=by
 intro u hu;simp only [nmCell,List.mem_cons,List.not_mem_nil,or_false] at hu
 rcases hu with rfl | rfl | rfl <;> rfl
theorem row_tail_f {c:Cx}{X:Nat->Prop}{w1 w5:World}{s1:Ex.S}{q pp l z:Nat}{t:TypeId}{cs par:Array Value}{v:Value}{n:Nat}{xs ys:List Value}{g cap m:Nat}{o:Obj}(ht:t≠165/\t≠3/\t≠52/\t≠79)(hR1:Rd c X w1 s1)(ho1:w1.ownsRow c.B t z v n xs)(hq1:w1.heap[q]? = some (.cells cs 52 (0,0)))(hqB:c.B<=q)(hpp:w1.heap[pp]? = some (.cells par 79 (0,0)))
  (hown:w5.ownsRow c.B t z (.slice (some ⟨g,0,none⟩) m cap) m ys) (hgrow:((w1.alloc o).drew).grownBy w5 v.ownBlock):
  w5.heap[q]? = some (.cells cs 52 (0,0))/\Rd c X (w5.setCell ⟨q,l,none⟩ (.slice (some ⟨g,0,none⟩) m cap)) s1/\(w5.setCell ⟨q,l,none⟩ (.slice (some ⟨g,0,none⟩) m cap)).ownsRow c.B t z (.slice (some ⟨g,0,none⟩) m cap) m ys /\
  (w5.setCell ⟨q,l,none⟩ (.slice (some ⟨g,0,none⟩) m cap)).heap[q]? = some (.cells (cs.setIfInBounds l (.slice (some ⟨g,0,none⟩) m cap)) 52 (0,0))/\(w5.setCell ⟨q,l,none⟩ (.slice (some ⟨g,0,none⟩) m cap)).heap[pp]? = some (.cells par 79 (0,0))/\But (FreeL c q v w1) w1 (w5.setCell ⟨q,l,none⟩ (.slice (some ⟨g,0,none⟩) m cap)):=by
 have hB:But (fun k=>v.ownBlock=some k) w1 w5:=by
  have h1:But (fun k=>v.ownBlock=some k) w1 (w1.alloc o).drew:=But.of_below ((Below.refl _ w1).alloc (Nat.le_refl _) _).drew;exact h1.trans (But.of_grown hgrow (fun k e=>e))
 have hr:=hR1.rlt;have hb:=hR1.blt;have hg:=hR1.glt;have htt:∀ k,v.ownBlock=some k->c.B<=k/\∃ cs' fr,w1.heap[k]? = some (.cells cs' t fr):=fun k hk=>by
  obtain ⟨e0,cur,e1⟩:=own_tag ho1 hk;exact ⟨e0,cur,_,e1⟩
 have hvq:v.ownBlock≠some q:=fun e=>by
  obtain ⟨_,cs',fr,e1⟩:=htt q e;rw [hq1] at e1;injection e1 with e1;injection e1 with _ e1;exact ht.2.2.1 e1.symm
 have hvp:v.ownBlock≠some pp:=fun e=>by
  obtain ⟨_,cs',fr,e1⟩:=htt pp e;rw [hpp] at e1;injection e1 with e1;injection e1 with _ e1;exact ht.2.2.2 e1.symm
 have hqp:pp≠q:=fun e=>by
  rw [e,hq1] at hpp;injection hpp with e1;injection e1 with _ e1;exact absurd e1 (by decide)
 have hq5:w5.heap[q]? = some (.cells cs 52 (0,0)):=hB.heap hq1 hvq;have hp5:w5.heap[pp]? = some (.cells par 79 (0,0)):=hB.heap hpp hvp;have hgq:g≠q:=fun e=>by
  obtain ⟨_,cur,e1⟩:=own_tag hown (g:=g) rfl;rw [e,hq5] at e1;injection e1 with e1;injection e1 with _ e1;exact ht.2.2.1 e1.symm
 have hR5:Rd c X w5 s1:=hR1.but hB (fun e=>by have:=(htt _ e).1;omega) (fun e=>by have:=(htt _ e).1;omega) (fun e=>by have:=(htt _ e).1;omega) (fun k e=>by
  obtain ⟨_,cs',fr,e1⟩:=htt k e;exact .inr ⟨cs',_,fr,e1,ht.1,ht.2.1⟩)
 have hS:But (fun k=>k=q) w5 (w5.setCell ⟨q,l,none⟩ (.slice (some ⟨g,0,none⟩) m cap)):=But.setCell (p:=fun k=>k=q) w5 rfl l _;refine ⟨hq5, ?_, ?_, ?_, ?_, ?_⟩
 ·exact hR5.but hS (fun e=>by omega) (fun e=>by omega) (fun e=>by omega) (fun k e => .inr (by subst e;exact ⟨_,_,_,hq5,by decide,by decide⟩))
 ·exact hS.own hown (fun k hk e=>hgq ((Option.some.inj (show some g=some k from hk)).trans e))
 ·exact blk_set hq5 l _
 ·exact hS.heap hp5 hqp
 ·refine ⟨hS.os.trans hB.os,hS.tape.trans hB.tape,hS.output.trans hB.output,Nat.le_trans hB.size hS.size,fun k hk hn=>?_⟩;have h2:=hB.block k hk (fun e=>hn (.inr (.inr e)));exact (hS.block k (Nat.lt_of_lt_of_le hk hB.size) (fun e=>hn (.inr (.inl e)))).trans h2
theorem setp_same {cs:Array Value}{i:Nat}{v:Value}(h:cs[i]? = some v):cs.setIfInBounds i v=cs:=by
 apply Array.ext';rw [Array.toList_setIfInBounds];apply List.ext_getElem?;intro j;rw [List.getElem?_set];have h':cs.toList[i]? = some v:=by simpa using h
 by_cases e:i=j
 ·subst e;rw [if_pos rfl,h',if_pos (by have:=(List.getElem?_eq_some_iff.1 h').1;exact this)]
 ·rw [if_neg e]
theorem setp_set (cs:Array Value)(i:Nat)(v u:Value):(cs.setIfInBounds i v).setIfInBounds i u=cs.setIfInBounds i u:=by
 apply Array.ext';simp [Array.toList_setIfInBounds]
def ParamsP (c:Cx)(X:Nat->Prop)(w:World)(bf:Nat)(cs:Array Value)(R:Ex.Res (List Pg.Nm))(e:Ending)(w':World):Prop :=
 (∃ l s pa pc,R = .ok l s/\e = .returned .nilIface/\Rd c X w' s/\But (FreeD c bf w) w w'/\w'.heap[bf]? = some (.cells (cs.setIfInBounds 3 (.slice pa l.length pc)) 52 (0,0))/\w'.ownsRow c.B 49 3 (.slice pa l.length pc) l.length (nmsCells l)/\((Value.slice pa l.length pc).ownBlock=none\/∃ g,(Value.slice pa l.length pc).ownBlock=some g/\w.heap.size<=g)) \/
 (∃ cd p,R = .bad cd p/\e = .returned (dval cd p)/\But (FreeD c bf w) w w')
structure PSt (c:Cx)(X:Nat->Prop)(w:World)(bf pp:Nat)(cs:Array Value)(x:Value)(R:Ex.Res (List Pg.Nm))(f:Nat)(l:List Pg.Nm)(s:Ex.S)(pa:Option Addr)(pc:Nat)(wr:World):Prop where
 rd:Rd c X wr s
 par:wr.heap[pp]? = some (.cells #[.pointer (some ⟨c.r,0,none⟩),x] 79 (0,0))
 blk:wr.heap[bf]? = some (.cells (cs.setIfInBounds 3 (.slice pa l.length pc)) 52 (0,0))
 own:wr.ownsRow c.B 49 3 (.slice pa l.length pc) l.length (nmsCells l)
 fr:But (FreeD c bf w) w wr
 at_:(Value.slice pa l.length pc).ownBlock=none\/∃ g,(Value.slice pa l.length pc).ownBlock=some g/\w.heap.size<=g
 fin:Pf.paramsLoop c.ts f l s=R
 few:l.length+f<=900000
theorem params_any (c:Cx)(X:Nat->Prop)(w:World)(s:Ex.S)(pp bf n:Nat)(cs:Array Value)(x:Value)(h:Rd c X w s)(hpp:w.heap[pp]? = some (.cells #[.pointer (some ⟨c.r,0,none⟩),x] 79 (0,0)))(hbf:w.heap[bf]? = some (.cells cs 52 (0,0)))(hc3:cs[3]? = some (.slice none 0 0))(hbB:c.B<=bf)(hpB:c.B<=pp)(hn:n<=900000)(hne:Pf.params c.ts n s ≠ .out):
  Calls Tryz.prog 134 #[.pointer (some ⟨pp,0,none⟩),.pointer (some ⟨bf,0,none⟩)] w (ParamsP c X w bf cs (Pf.params c.ts n s)):=by
 have hr1:=h.rlt;have hb1:=h.blt;have hg1:=h.glt;have hsz:=h.size;have hpf:pp≠bf:=fun e=>by subst e;rw [hpp] at hbf;injection hbf with e;injection e with _ e;exact absurd e (by decide)
 have h3:3<cs.size:=by
  rcases Nat.lt_or_ge 3 cs.size with e | e
  ·exact e
  ·rw [Array.getElem?_eq_none e] at hc3;cases hc3
 have p0:w.cell? ⟨pp,0,none⟩=some (.pointer (some ⟨c.r,0,none⟩)):=(blk_cell hpp 0).trans rfl;obtain ⟨V,hV⟩:∃ V,w.alloc (.cells #[.string ⟨#[40]⟩] 9)=V:=⟨_,rfl⟩;have hbV:Below w.heap.size w V:=by rw [<- hV];exact (Below.refl _ w).alloc (Nat.le_refl _) _
 have ks:V.cell? ⟨w.heap.size,0,none⟩=some (.string ⟨#[40]⟩):=by rw [<- hV];exact (blk_cell (blk_new w _) 0).trans rfl
 have hT:=take_any c X V s [40] w.heap.size (h.below hbV) ks;have hE:Pf.params c.ts n s=(Ex.take c.ts [40] s).bind fun _ s1=>if Ex.is c.ts s1 [41]=true then .ok [] s1.skip else Pf.paramsLoop c.ts n [] s1:=rfl
 generalize Pf.params c.ts n s=R at *;obtain ⟨i0,hi,hz0,hz1,hz2⟩:=info_parts Tryz.info49;have HI:=Lib.hid hi;have HZ:=Lib.hid hz0;have HZ1:=Lib.hid hz1;have HZ2:=Lib.hid hz2;have HE:=Lib.hid hE;have HT:=Lib.hid hT;have HV:=Lib.hid hV;have HB:=Lib.hid hbV;have HP:=Lib.hid hpp;have HF:=Lib.hid hbf;have HNE:=Lib.hid hne;have HC3:=Lib.hid hc3;clear hE hT hV hbV ks h hpp hbf hne hi hz0 hz1 hz2 hc3
 go_enter Tryz.func134,Tryz.ntmps134
 go_wp2_with fail
 rw [HV.out];refine HT.out.mono ?_;rintro e w1 (⟨s1,hE1,rfl,hR1,hK1⟩ | ⟨cd,p1,hE1,rfl,hK1⟩)
 rotate_left
 ·have hF:R = .bad cd p1:=by rw [HE.out,hE1];rfl
  have HFF:=Lib.hid hF;have HK:=Lib.hid (Below.then_kp HB.out hK1);clear hF hK1 hE1;unfold dval
  go_wp2
  go_ret
  exact .inr ⟨cd,p1,HFF.out,rfl,FreeD.of_kp HK.out⟩
 have hK:=Below.then_kp HB.out hK1;have hp1:=hK.heap HP.out (by omega) (by omega) (fun e=>absurd e (by decide));have hf1:=hK.heap HF.out (by omega) (by omega) (fun e=>absurd e (by decide));have p01:w1.cell? ⟨pp,0,none⟩=some (.pointer (some ⟨c.r,0,none⟩)):=(blk_cell hp1 0).trans rfl;have hF:R=if Ex.is c.ts s1 [41]=true then .ok [] s1.skip else Pf.paramsLoop c.ts n [] s1:=by rw [HE.out,hE1];rfl
 have hIs:=is_any c X w1 s1 [41] hR1;have hTk:=fun (w2:World) (b:Nat) (hR:Rd c X w2 s1) (hc:w2.cell? ⟨b,0,none⟩=some (.string ⟨#[41]⟩))=>take_any c X w2 s1 [41] b hR hc;have HP1:=Lib.hid hp1;have HF1:=Lib.hid hf1;have HK:=Lib.hid hK;have HR1:=Lib.hid hR1;have HIS:=Lib.hid hIs;have HFF:=Lib.hid hF;have HTK:=Lib.hid hTk;clear hp1 hf1 hK hK1 hR1 hIs hF hTk hE1 HE HT HV HB HP HF p0
 cases hm:Ex.is c.ts s1 [41] with
 | true =>
  have hIs:=HIS.out;rw [hm] at hIs;have hF:=HFF.out;rw [hm,if_pos rfl] at hF;have ht1:Ex.take c.ts [41] s1 = .ok () s1.skip:=by rw [Ex.take,if_pos hm]
  have hTT:=HTK.out;rw [ht1] at hTT;have HI1:=Lib.hid hIs;have HF2:=Lib.hid hF;have HTT:=Lib.hid hTT;clear hIs hF hTT ht1 HIS HFF HTK hm
  go_wp2_with fail
  refine HI1.out.mono ?_;rintro e w2 ⟨rfl,hb2⟩;have p02:w2.cell? ⟨pp,0,none⟩=some (.pointer (some ⟨c.r,0,none⟩)):=(blk_cell ((hb2.block _ (lt_of_heap HP1.out)).trans HP1.out) 0).trans rfl;obtain ⟨V2,hV2⟩:∃ V,w2.alloc (.cells #[.string ⟨#[41]⟩] 9)=V:=⟨_,rfl⟩;have hbV2:Below w2.heap.size w2 V2:=by rw [<- hV2];exact (Below.refl _ w2).alloc (Nat.le_refl _) _
  have ks2:V2.cell? ⟨w2.heap.size,0,none⟩=some (.string ⟨#[41]⟩):=by rw [<- hV2];exact (blk_cell (blk_new w2 _) 0).trans rfl
  have hb12:=hb2.trans (hbV2.mono hb2.size);have hT2:=HTT.out V2 w2.heap.size (HR1.out.below hb12) ks2;have HV2:=Lib.hid hV2;have HT2:=Lib.hid hT2;have HB12:=Lib.hid hb12;clear hV2 hT2 hb12 hbV2 ks2 hb2 HI1 HTT
  go_wp2_with fail
  rw [HV2.out];refine HT2.out.mono ?_;rintro e w5 (⟨s5,hE5,rfl,hR5,hK5⟩ | ⟨cd,p5,hE5,rfl,hK5⟩)
  rotate_left
  ·cases hE5
  injection hE5 with _ e5
  subst e5;have hK15:=Below.then_kp (c:=c) HB12.out hK5;have hf5:=hK15.heap HF1.out (by omega) (by omega) (fun e=>absurd e (by decide));have HK5:=Lib.hid (HK.out.trans hK15);have HF5:=Lib.hid hf5;have HR5:=Lib.hid hR5;clear hK15 hf5 hR5 hK5 HT2 HV2 HB12
  go_wp2
  go_ret
  exact .inl ⟨[],_,none,0,HF2.out,rfl,HR5.out,FreeD.of_kp HK5.out,by rw [List.length_nil,setp_same HC3.out];exact HF5.out,World.ownsRow_nil _ _ _ _,.inl rfl⟩
 | false =>
  have hIs:=HIS.out;rw [hm] at hIs;have hF:=HFF.out;rw [hm,if_neg (by decide)] at hF;have HI1:=Lib.hid hIs;have HF2:=Lib.hid hF;clear hIs hF HIS HFF hm HTK
  go_wp2_with fail
  refine HI1.out.mono ?_;rintro e w2 ⟨rfl,hb2⟩;have hst0:PSt c X w bf pp cs x R n [] s1 none 0 w2 :=
   ⟨HR1.out.below hb2,(hb2.block _ (lt_of_heap HP1.out)).trans HP1.out,by rw [List.length_nil,setp_same HC3.out];exact (hb2.block _ (lt_of_heap HF1.out)).trans HF1.out,World.ownsRow_nil _ _ _ _,FreeD.of_kp (HK.out.then_below hb2),.inl rfl,HF2.out.symm,by simpa using hn⟩
  have HST0:=Lib.hid hst0;clear hst0 hb2 HI1 HF2 HK HR1 HP1 HF1 p01
  go_wp2_with fail
  go_loopg [] n (fun k wr=>∃ (l':List Pg.Nm) (s':Ex.S) (pa:Option Addr) (pc:Nat),PSt c X w bf pp cs x R k l' s' pa pc wr)
  case atStart=>exact ⟨[],s1,none,0,HST0.out⟩
  case round =>
   obtain ⟨l',s',pa,pc,hst⟩:=hrel;obtain ⟨k,rfl⟩:∃ k,gk=k+1:=by
    cases gk with
    | zero=>have:=hst.fin;rw [Pf.paramsLoop] at this;exact absurd this.symm HNE.out
    | succ k=>exact ⟨k,rfl⟩
   have hfin:=hst.fin;rw [Pf.paramsLoop] at hfin;obtain ⟨u,hu⟩:∃ u:Value,Value.slice pa l'.length pc=u:=⟨_,rfl⟩;have hBs:=hst.rd.size;obtain ⟨V,hV⟩:∃ V,wr.alloc (.cells #[.string ⟨#[]⟩,.int .i64 0,.int .i64 0] 49)=V:=⟨_,rfl⟩;have hbV:Below wr.heap.size wr V:=by rw [<- hV];exact (Below.refl _ wr).alloc (Nat.le_refl _) _
   have kV:V.heap[wr.heap.size]? = some (.cells #[.string ⟨#[]⟩,.int .i64 0,.int .i64 0] 49 (0,0)):=by rw [<- hV];exact blk_new wr _
   have hRV:=hst.rd.below hbV;have hpV:=(hbV.block pp (lt_of_heap hst.par)).trans hst.par;have hA:=pname_any c X V s' pp wr.heap.size 0 #[.string ⟨#[]⟩,.int .i64 0,.int .i64 0] 49 [] (.slice none 0 0) x hRV hpV kV (by simp) hBs hpB ⟨by decide,by decide⟩ (take_none c X V s' hRV);generalize Pg.nameAt c.ts [] s'=RN at *;have HA:=Lib.hid hA;have HST:=Lib.hid hst;have HFIN:=Lib.hid hfin;have HV:=Lib.hid hV;have HBV:=Lib.hid hbV;have HU:=Lib.hid hu;clear hA hst hfin hV hbV kV hRV hpV HST0 hu
   go_wp2_with fail
   rw [HV.out];refine HA.out.mono ?_;rintro e w3 (⟨m,s3,hE3,rfl,hR3,hK3,hn3⟩ | ⟨cd,p3,hE3,rfl,hK3⟩)
   rotate_left
   ·have hF:R = .bad cd p3:=by rw [<- HFIN.out,hE3];rfl
    have hK:=freeD_new (bd:=wr.heap.size) HBV.out (Nat.le_refl _) hK3;have HF:=Lib.hid hF;have HK:=Lib.hid (freeD_trans HST.out.fr (FreeD.of_kp hK));clear hF hK hK3 hE3;unfold dval
    go_wp2
    go_ret
    exact .inr ⟨cd,p3,HF.out,rfl,HK.out⟩
   have hK:=freeD_new (bd:=wr.heap.size) HBV.out (Nat.le_refl _) hK3;have hF3:(if Ex.is c.ts s3 [44]=true then Pf.paramsLoop c.ts k (l'++[m]) s3.skip else (Ex.take c.ts [41] s3).bind fun _ s2 => .ok (l'++[m]) s2)=R:=by rw [<- HFIN.out,hE3];rfl
   have hf3:=hK.heap HST.out.blk (by omega) (by omega) (fun e=>absurd e (by decide));have hp3:=hK.heap HST.out.par (by omega) (by omega) (fun e=>absurd e (by decide));have ho3:w3.ownsRow c.B 49 3 u l'.length (nmsCells l'):=by
    rw [<- HU.out];exact But.own hK HST.out.own (fun g hg=>by
     obtain ⟨e0,cur,e1⟩:=own_tag HST.out.own hg;rintro (e | e | ⟨_,cs',fr',e⟩)
     ·omega
     ·omega
     ·rw [e1] at e;injection e with e;injection e with _ e;exact absurd e (by decide))
   rw [HU.out] at hf3;have q3:w3.cell? ⟨bf,3,none⟩=some u:=by
    rw [blk_cell hf3 3,Array.getElem?_setIfInBounds_self_of_lt h3]
   have q3':∀ o,(w3.alloc o).cell? ⟨bf,3,none⟩=some u:=fun o=>(World.cell?_alloc_lt _ _ _ (World.block_lt_of_cell? _ _ q3)).trans q3;have y0:w3.cell? ⟨wr.heap.size,0,none⟩=some (.string ⟨m.text.toArray⟩):=(blk_cell hn3 0).trans rfl;have y1:w3.cell? ⟨wr.heap.size,1,none⟩=some (.int .i64 m.at_.line):=(blk_cell hn3 1).trans rfl;have y2:w3.cell? ⟨wr.heap.size,2,none⟩=some (.int .i64 m.at_.col):=(blk_cell hn3 2).trans rfl;have hnb:((w3.alloc (.cells #[.string ⟨m.text.toArray⟩,.int .i64 m.at_.line,.int .i64 m.at_.col] 49)).drew).heap[w3.heap.size]? = some (.cells #[.string ⟨m.text.toArray⟩,.int .i64 m.at_.line,.int .i64 m.at_.col] 49 (0,0)):=heap_alloc_new w3 _;have hfw:=HST.out.few;have hB3:=hR3.size;have hus:u.ownBlock=none\/∃ g,u.ownBlock=some g/\w.heap.size<=g:=by rw [<- HU.out];exact HST.out.at_
   have hfr3:=freeD_trans HST.out.fr (FreeD.of_kp (bd:=bf) hK);have HNB:=Lib.hid hnb;have HR3:=Lib.hid hR3;have HF3:=Lib.hid hF3;have HFL:=Lib.hid hf3;have HP3:=Lib.hid hp3;have HO3:=Lib.hid ho3;have HUS:=Lib.hid hus;have HFR:=Lib.hid hfr3;clear hnb hR3 hF3 hf3 hp3 ho3 hus hfr3 hn3 hK hK3 hE3 HA HFIN HV HBV HST HU
   go_upto_region 11 with fail
   go_region_law (refine step_append_lies _ (by rfl) (.tmp 37) (.tmp 39) 50 (by rfl) c.B 49 i0 _ 3 32 Tryz.underlying50 HI.out HZ.out HZ1.out HZ2.out rfl (by omega) u l'.length (nmsCells l') (by rfl) ((HO3.out.alloc _).drew) ⟨w3.heap.size,0,none⟩ 1 1 (nmCell m) (by rfl) (by rfl) (World.news_of_block (cs:=#[.string ⟨m.text.toArray⟩,.int .i64 m.at_.line,.int .i64 m.at_.col]) (t:=49) (fr:=(0,0)) HNB.out) (nmCell_one m) (by omega) (by unfold maxLen;omega) (by omega) (by simp;omega) (w3.heap.size+1) (by simp) ?_;intro g cap w5 hown5 hgrow5 hat5 hlt5;have G:=row_tail_f (l:=3) ⟨by decide,by decide,by decide,by decide⟩ HR3.out HO3.out HFL.out hbB HP3.out hown5 hgrow5;have c5:w5.cell? ⟨bf,3,none⟩=some u:=(by rw [blk_cell G.1 3,Array.getElem?_setIfInBounds_self_of_lt h3]);have f5:w5.frozen? ⟨bf,3,none⟩=false:=blk_frozen G.1 3)
   all_goals
    obtain ⟨v',hv'⟩:∃ v':Value,Value.slice (some ⟨g,0,none⟩) (l'.length+1) cap=v':=⟨_,rfl⟩;have hvb:v'.ownBlock=some g:=by rw [<- hv'];rfl
    rw [hv'] at G ⊢;obtain ⟨w6,hw6⟩:∃ w6,w5.setCell ⟨bf,3,none⟩ v'=w6:=⟨_,rfl⟩;rw [hw6] at G ⊢;obtain ⟨_,hR6,hown6,hq6,hp6,hB6⟩:=G;rw [setp_set] at hq6;have hws:w.heap.size<=w3.heap.size:=HFR.out.size;have hat6:v'.ownBlock=none\/∃ g,v'.ownBlock=some g/\w.heap.size<=g:=by
     rcases hat5 with e | e
     ·rw [hvb,<- e];exact HUS.out
     ·exact .inr ⟨g,hvb,by omega⟩
    have hfr6:But (FreeD c bf w) w w6:=freeLp_trans HFR.out HUS.out hB6;have hIs:=is_any c X w6 s3 [44] hR6;have p06:w6.cell? ⟨pp,0,none⟩=some (.pointer (some ⟨c.r,0,none⟩)):=(blk_cell hp6 0).trans rfl;have hl6:w6.ownsRow c.B 49 3 v' (l'++[m]).length (nmsCells (l'++[m])):=by rw [List.length_append,nmsCells_snoc];exact hown6
    have hvv:v' = .slice (some ⟨g,0,none⟩) (l'++[m]).length cap:=by rw [<- hv',List.length_append];rfl
    have hfin:=HF3.out;have HR6:=Lib.hid hR6;have HO6:=Lib.hid hl6;have HQ6:=Lib.hid hq6;have HP6:=Lib.hid hp6;have HF6:=Lib.hid hfr6;have HA6:=Lib.hid hat6;have HVV:=Lib.hid hvv;clear hR6 hl6 hown6 hq6 hp6 hfr6 hat6 hB6 hat5 hlt5 hgrow5 hown5 c5 f5 HR3 HFL HP3 HO3 HUS HFR HNB HF3 hw6 hv' hvb q3 q3' y0 y1 y2 hvv
    cases hi:Ex.is c.ts s3 [44] with
    | false =>
     rw [hi] at hIs hfin;rw [if_neg (by decide)] at hfin;have hTk:=fun (w2:World) (b:Nat) (hR:Rd c X w2 s3) (hc:w2.cell? ⟨b,0,none⟩=some (.string ⟨#[41]⟩))=>take_any c X w2 s3 [41] b hR hc;have HI7:=Lib.hid hIs;have HFF:=Lib.hid hfin;have HTK:=Lib.hid hTk;clear hIs hfin hi hTk
     go_wp2_with fail
     refine HI7.out.mono ?_;rintro e w7 ⟨rfl,hb7⟩;have p07:w7.cell? ⟨pp,0,none⟩=some (.pointer (some ⟨c.r,0,none⟩)):=(blk_cell ((hb7.block _ (lt_of_heap HP6.out)).trans HP6.out) 0).trans rfl;obtain ⟨V7,hV7⟩:∃ V,w7.alloc (.cells #[.string ⟨#[41]⟩] 9)=V:=⟨_,rfl⟩;have hbV7:Below w7.heap.size w7 V7:=by rw [<- hV7];exact (Below.refl _ w7).alloc (Nat.le_refl _) _
     have ks7:V7.cell? ⟨w7.heap.size,0,none⟩=some (.string ⟨#[41]⟩):=by rw [<- hV7];exact (blk_cell (blk_new w7 _) 0).trans rfl
     have hb67:Below w6.heap.size w6 V7:=hb7.trans (hbV7.mono hb7.size);have hT7:=HTK.out V7 w7.heap.size (HR6.out.below hb67) ks7;have HT7:=Lib.hid hT7;have HV7:=Lib.hid hV7;have HB67:=Lib.hid hb67;clear hT7 hV7 hb67 hbV7 ks7 hb7 HI7 HTK
     go_wp2_with fail
     rw [HV7.out];refine HT7.out.mono ?_;rintro e w8 (⟨s8,hE8,rfl,hR8,hK8⟩ | ⟨cd,p8,hE8,rfl,hK8⟩)
     rotate_left
     ·have hF:R = .bad cd p8:=by rw [<- HFF.out,hE8];rfl
      have HF8:=Lib.hid hF;have HK8:=Lib.hid (freeD_trans HF6.out (FreeD.of_kp (Below.then_kp (c:=c) HB67.out hK8)));clear hF hE8 hK8;unfold dval
      go_wp2
      go_ret
      exact .inr ⟨cd,p8,HF8.out,rfl,HK8.out⟩
     have hK68:Kp c w6 w8:=Below.then_kp HB67.out hK8;have hq8:=hK68.heap HQ6.out (by omega) (by omega) (fun e=>absurd e (by decide));have ho8:w8.ownsRow c.B 49 3 v' (l'++[m]).length (nmsCells (l'++[m])):=But.own hK68 HO6.out (fun g hg=>by
      obtain ⟨e0,cur,e1⟩:=own_tag HO6.out hg;rintro (e | e | ⟨_,cs',fr',e⟩)
      ·omega
      ·omega
      ·rw [e1] at e;injection e with e;injection e with _ e;exact absurd e (by decide))
     have hF:R = .ok (l'++[m]) s8:=by rw [<- HFF.out,hE8];rfl
     have ha8:=HA6.out;rw [HVV.out] at hq8 ho8 ha8;have HF8:=Lib.hid hF;have HK8:=Lib.hid (freeD_trans HF6.out (FreeD.of_kp hK68));have HR8:=Lib.hid hR8;have HQ8:=Lib.hid hq8;have HO8:=Lib.hid ho8;have HA8:=Lib.hid ha8;clear hF hE8 hK8 hK68 hR8 hq8 ho8 ha8
     go_wp2
     go_ret
     exact .inl ⟨_,_,_,_,HF8.out,rfl,HR8.out,HK8.out,HQ8.out,HO8.out,HA8.out⟩
    | true =>
     rw [hi] at hIs hfin;rw [if_pos rfl] at hfin;have ht1:Ex.take c.ts [44] s3 = .ok () s3.skip:=by rw [Ex.take,if_pos hi]
     have hTk:=fun (w2:World) (b:Nat) (hR:Rd c X w2 s3) (hc:w2.cell? ⟨b,0,none⟩=some (.string ⟨#[44]⟩))=>take_any c X w2 s3 [44] b hR hc;rw [ht1] at hTk;have HI7:=Lib.hid hIs;have HFF:=Lib.hid hfin;have HTK:=Lib.hid hTk;clear hIs hfin hi hTk ht1
     go_wp2_with fail
     refine HI7.out.mono ?_;rintro e w7 ⟨rfl,hb7⟩;have p07:w7.cell? ⟨pp,0,none⟩=some (.pointer (some ⟨c.r,0,none⟩)):=(blk_cell ((hb7.block _ (lt_of_heap HP6.out)).trans HP6.out) 0).trans rfl;obtain ⟨V7,hV7⟩:∃ V,w7.alloc (.cells #[.string ⟨#[44]⟩] 9)=V:=⟨_,rfl⟩;have hbV7:Below w7.heap.size w7 V7:=by rw [<- hV7];exact (Below.refl _ w7).alloc (Nat.le_refl _) _
     have ks7:V7.cell? ⟨w7.heap.size,0,none⟩=some (.string ⟨#[44]⟩):=by rw [<- hV7];exact (blk_cell (blk_new w7 _) 0).trans rfl
     have hb67:Below w6.heap.size w6 V7:=hb7.trans (hbV7.mono hb7.size);have hT7:=HTK.out V7 w7.heap.size (HR6.out.below hb67) ks7;have HT7:=Lib.hid hT7;have HV7:=Lib.hid hV7;have HB67:=Lib.hid hb67;clear hT7 hV7 hb67 hbV7 ks7 hb7 HI7 HTK
     go_wp2_with fail
     rw [HV7.out];refine HT7.out.mono ?_;rintro e w8 (⟨s8,hE8,rfl,hR8,hK8⟩ | ⟨cd,p8,hE8,rfl,hK8⟩)
     rotate_left
     ·cases hE8
     injection hE8 with _ e8
     subst e8;have hK68:Kp c w6 w8:=Below.then_kp HB67.out hK8;have hq8:=hK68.heap HQ6.out (by omega) (by omega) (fun e=>absurd e (by decide));have hp8:=hK68.heap HP6.out (by omega) (by omega) (fun e=>absurd e (by decide));have ho8:w8.ownsRow c.B 49 3 v' (l'++[m]).length (nmsCells (l'++[m])):=But.own hK68 HO6.out (fun g hg=>by
      obtain ⟨e0,cur,e1⟩:=own_tag HO6.out hg;rintro (e | e | ⟨_,cs',fr',e⟩)
      ·omega
      ·omega
      ·rw [e1] at e;injection e with e;injection e with _ e;exact absurd e (by decide))
     have ha8:=HA6.out;rw [HVV.out] at hq8 ho8 ha8;have hst8:PSt c X w bf pp cs x R k (l'++[m]) s3.skip (some ⟨g,0,none⟩) cap w8 :=
      ⟨hR8,hp8,hq8,ho8,freeD_trans HF6.out (FreeD.of_kp hK68),ha8,HFF.out,by simp;omega⟩
     have HST8:=Lib.hid hst8;clear hst8 hK68 hR8 hK8 hq8 hp8 ho8 ha8 HT7 HV7 HB67
     go_wp2_with fail
     go_roundg k
     case measure=>omega
     case rel=>exact ⟨l'++[m],s3.skip,some ⟨g,0,none⟩,cap,HST8.out⟩
end Go.Proofs.YtdfpkmfeldoamaaGreatDoor
