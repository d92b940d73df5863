/- A part of the proof: A part of the proof. -/
import Derived.Test.YtdfpkmfeldoamaaGreatDoorDecl
import Derived.Test.YtdfpkmfeldoamaaGreatDoorPf
set_option linter.unusedSimpArgs false
set_option linter.unusedVariables false
set_option maxRecDepth 100000
set_option maxHeartbeats 4000000
namespace Go.Proofs.YtdfpkmfeldoamaaGreatDoor
section
open Go.RowKit Tn Lx
theorem freeD_old {c:Cx}{bd:Nat}{a b d:World}(hd:a.heap.size<=bd)(h:Kp c a b)(k:But (FreeD c bd b) b d):Kp c a d :=
 ⟨k.os.trans h.os,k.tape.trans h.tape,k.output.trans h.output,Nat.le_trans h.size k.size,fun i hi hp=>by
  have e:=h.block i hi hp;refine (k.block i (Nat.lt_of_lt_of_le hi h.size) ?_).trans e;rintro ((e1 | e1 | ⟨e1,cs,fr,e2⟩) | e1)
  ·exact hp (.inl e1)
  ·exact hp (.inr (.inl e1))
  ·exact hp (.inr (.inr ⟨e1,cs,fr,e ▸ e2⟩))
  ·omega⟩
theorem decl_points (c:Cx)(X:Nat->Prop)(w:World)(s:Ex.S)(q pp l:Nat)(cs:Array Value)(v:Value)(word:B)(ds:List Pg.Dc)(x:Value)(bp:Nat)(h:Rd c X w s)(hpp:w.heap[pp]? = some (.cells #[.pointer (some ⟨c.r,0,none⟩),x] 79 (0,0)))(hpB:c.B<=pp)(hqB:c.B<=q)
  (hq:w.heap[q]? = some (.cells cs 76 (0,0))) (hl:cs[l]? = some v) (hown:w.ownsRow c.B 152 10 v ds.length (cells10 ds)) (hfew:ds.length<=200) (hbp:w.heap[bp]? = some (.cells #[.func (.func 78) #[] #[]] 180 (0,0))) (hpt:c.B<=bp):
  Calls Tryz.prog 77 #[.pointer (some ⟨pp,0,none⟩),.string ⟨word.toArray⟩,.pointer (some ⟨q,l,none⟩),.slice (some ⟨bp,0,none⟩) 1 1] w (DeclP c X w q l cs v ds (Pg.declP c.ts word s)):=by
 have hr1:=h.rlt;have hb1:=h.blt;have hg1:=h.glt;have hsz:=h.size;obtain ⟨V,hV⟩:∃ V,(w.alloc (.cells #[.string ⟨#[]⟩,.int .i64 0,.int .i64 0,.string ⟨#[]⟩,.int .i64 0,.int .i64 0,.string ⟨#[]⟩,.int .i64 0,.int .i64 0,.int .i64 0] 152)).alloc (.cells #[.string ⟨word.toArray⟩] 9)=V:=⟨_,rfl⟩;have hbV:Below w.heap.size w V:=by rw [<- hV];exact ((Below.refl _ w).alloc (Nat.le_refl _) _).alloc (by simp) _
 have kd:V.heap[w.heap.size]? = some (.cells (dcCells ⟨Pg.zn,Pg.zn,Pg.zn,0⟩) 152 (0,0)):=by rw [<- hV];exact blk_alloc (blk_new w _) _
 have ks:V.heap[w.heap.size+1]? = some (.cells #[.string ⟨word.toArray⟩] 9 (0,0)):=by
  rw [<- hV];have:=blk_new (w.alloc (.cells #[.string ⟨#[]⟩,.int .i64 0,.int .i64 0,.string ⟨#[]⟩,.int .i64 0,.int .i64 0,.string ⟨#[]⟩,.int .i64 0,.int .i64 0,.int .i64 0] 152)) (.cells #[.string ⟨word.toArray⟩] 9);rwa [World.size_alloc] at this
 have hRV:=h.below hbV;have hpV:=(hbV.block pp (lt_of_heap hpp)).trans hpp;have hA:=pname_any c X V s pp w.heap.size 0 (dcCells ⟨Pg.zn,Pg.zn,Pg.zn,0⟩) 152 [word] (.slice (some ⟨w.heap.size+1,0,none⟩) 1 1) x hRV hpV kd (by simp [dcCells,cell10]) hsz hpB ⟨by decide,by decide⟩ (take_one c X V s word (w.heap.size+1) hRV ((blk_cell ks 0).trans rfl));have hE:Pg.declP c.ts word s=(Pg.nameAt c.ts [word] s).bind (Pg.points c.ts):=rfl;have hql:=lt_of_heap hq;generalize Pg.declP c.ts word s=R at *;have HE:=Lib.hid hE;have HA:=Lib.hid hA;have HV:=Lib.hid hV;have HB:=Lib.hid hbV;have HQ:=Lib.hid hq;have HL:=Lib.hid hl;have HO:=Lib.hid hown;have HBP:=Lib.hid hbp;have HPP:=Lib.hid hpp;obtain ⟨i0,hi,hz0,hz1,hz2⟩:=info_parts Tryz.info152;have HI:=Lib.hid hi;have HZ:=Lib.hid hz0;have HZ1:=Lib.hid hz1;have HZ2:=Lib.hid hz2;clear hE hA hV hbV hRV hpV h hpp hq hl hown hbp kd ks hi hz0 hz1 hz2
 go_enter Tryz.func77,Tryz.ntmps77
 go_wp2_with fail
 rw [HV.out];refine HA.out.mono ?_;rintro e w1 (⟨n,s1,hE1,rfl,hR1,hK1,hd1⟩ | ⟨cd,p1,hE1,rfl,hK1⟩)
 rotate_left
 ·have hF:R = .bad cd p1:=by rw [HE.out,hE1];rfl
  have HF:=Lib.hid hF;have HK:=Lib.hid (freeD_new HB.out (Nat.le_refl _) hK1);clear hF hE1 hK1;unfold dval
  go_wp2
  go_ret
  exact .inr ⟨cd,p1,HF.out,rfl,HK.out⟩
 have hKa:Kp c w w1:=freeD_new HB.out (Nat.le_refl _) hK1;have hbpl:=lt_of_heap HBP.out;have hppl:=lt_of_heap HPP.out;have hp1:=hKa.heap HPP.out (by omega) (by omega) (fun e=>absurd e (by decide));have hb1':=hKa.heap HBP.out (by omega) (by omega) (fun e=>absurd e (by decide));have pc:w1.cell? ⟨bp,0,none⟩=some (.func (.func 78) #[] #[]):=(blk_cell hb1' 0).trans rfl;have hPt:=points_any c X w1 s1 pp w.heap.size n x hR1 hp1 hd1 hsz hpB;have HPT:=Lib.hid hPt;have HKA:=Lib.hid hKa;have HE1:=Lib.hid hE1;clear hPt hKa hK1 hR1 hp1 hb1' hd1 hE1 HA HV
 go_wp2_with fail
 refine wp_loop_rounds 2 ?_;rw [rounds_succ]
 go_wp2_with fail
 refine HPT.out.mono ?_;rintro e w1 (⟨d,s1,hE2,rfl,hR1,hK2,hd⟩ | ⟨cd,p2,hE2,rfl,hK2⟩)
 rotate_left
 ·have hF:R = .bad cd p2:=by rw [HE.out,HE1.out,Ex.Res.bind,hE2]
  have HF:=Lib.hid hF;have HK:=Lib.hid (freeD_old (Nat.le_refl _) HKA.out hK2);clear hF hE2 hK2;unfold dval
  go_wp2
  go_ret
  exact .inr ⟨cd,p2,HF.out,rfl,HK.out⟩
 have hF:R = .ok d s1:=by rw [HE.out,HE1.out,Ex.Res.bind,hE2]
 have hKw:Kp c w w1:=freeD_old (Nat.le_refl _) HKA.out hK2;have hq1:w1.heap[q]? = some (.cells cs 76 (0,0)):=hKw.heap HQ.out (by omega) (by omega) (fun e=>absurd e (by decide));have ho1:w1.ownsRow c.B 152 10 v ds.length (cells10 ds):=But.own hKw HO.out (fun g hg=>by
  obtain ⟨e0,cur,e1⟩:=own_tag HO.out hg;rintro (e | e | ⟨_,cs',fr',e⟩)
  ·omega
  ·omega
  ·rw [e1] at e;injection e with e;injection e with _ e;exact absurd e (by decide))
 have HF:=Lib.hid hF;have HD:=Lib.hid hd;have HKW:=Lib.hid hKw;have HR1:=Lib.hid hR1;have HO1:=Lib.hid ho1;clear hF hKw hK2 hE2 HE HE1 HKA HPT ho1 hR1 pc;have q1:w1.cell? ⟨q,l,none⟩=some v:=(blk_cell hq1 l).trans HL.out;have q1':∀ o,(w1.alloc o).cell? ⟨q,l,none⟩=some v:=fun o=>(World.cell?_alloc_lt _ _ _ (World.block_lt_of_cell? _ _ q1)).trans q1;have y0:w1.cell? ⟨w.heap.size,0,none⟩=some (.string ⟨d.name.text.toArray⟩):=(blk_cell hd 0).trans rfl;have y1:w1.cell? ⟨w.heap.size,1,none⟩=some (.int .i64 d.name.at_.line):=(blk_cell hd 1).trans rfl;have y2:w1.cell? ⟨w.heap.size,2,none⟩=some (.int .i64 d.name.at_.col):=(blk_cell hd 2).trans rfl;have y3:w1.cell? ⟨w.heap.size,3,none⟩=some (.string ⟨d.conf.text.toArray⟩):=(blk_cell hd 3).trans rfl;have y4:w1.cell? ⟨w.heap.size,4,none⟩=some (.int .i64 d.conf.at_.line):=(blk_cell hd 4).trans rfl;have y5:w1.cell? ⟨w.heap.size,5,none⟩=some (.int .i64 d.conf.at_.col):=(blk_cell hd 5).trans rfl;have y6:w1.cell? ⟨w.heap.size,6,none⟩=some (.string ⟨d.integ.text.toArray⟩):=(blk_cell hd 6).trans rfl;have y7:w1.cell? ⟨w.heap.size,7,none⟩=some (.int .i64 d.integ.at_.line):=(blk_cell hd 7).trans rfl;have y8:w1.cell? ⟨w.heap.size,8,none⟩=some (.int .i64 d.integ.at_.col):=(blk_cell hd 8).trans rfl;have y9:w1.cell? ⟨w.heap.size,9,none⟩=some (.int .i64 d.int):=(blk_cell hd 9).trans rfl;have hnb:((w1.alloc (.cells (dcCells d) 152)).drew).heap[w1.heap.size]? = some (.cells (dcCells d) 152 (0,0)):=heap_alloc_new w1 _;have HQ1:=Lib.hid hq1;have HNB:=Lib.hid hnb;clear hnb;clear hd hq1
 go_wp2_with fail
 rw [rounds_succ]
 go_upto_region 12 with fail
 go_region_law (refine step_append_lies _ (by rfl) (.tmp 38) (.tmp 40) 73 (by rfl) c.B 152 i0 _ 10 104 Tryz.underlying73 HI.out HZ.out HZ1.out HZ2.out rfl (by omega) v ds.length (cells10 ds) (by rfl) ((HO1.out.alloc _).drew) ⟨w1.heap.size,0,none⟩ 1 1 (cell10 d) (by rfl) (by rfl) (World.news_of_block (cs:=dcCells d) (t:=152) (fr:=(0,0)) HNB.out) (cells10_one d) (by omega) (by unfold maxLen;omega) (by omega) (by have:=HKW.out.size;simp;omega) (w1.heap.size+1) (by simp) ?_;intro g cap w5 hown5 hgrow5 hat5 hlt5;have G:=decl_tail (l:=l) HR1.out HKW.out HO1.out HQ1.out hqB hown5 hgrow5 hat5;have c5:w5.cell? ⟨q,l,none⟩=some v:=(blk_cell G.1 l).trans HL.out;have f5:w5.frozen? ⟨q,l,none⟩=false:=blk_frozen G.1 l)
 all_goals
  have HGG:=Lib.hid G.2;clear G hown5 hgrow5 hat5 hlt5 c5 f5
  go_wp2
  go_ret
  exact .inl ⟨d,s1,_,HF.out,rfl,HGG.out.1,HGG.out.2.1,HGG.out.2.2.1,HGG.out.2.2.2.1,HGG.out.2.2.2.2⟩
end
section
open Go.RowKit Tn Lx
theorem own_none {w:World}{base:Nat}{t t':TypeId}{z:Nat}{v:Value}{n:Nat}{xs:List Value}(h:w.ownsRow base t z v n xs){k:Nat}{cs:Array Value}{fr:Nat × Nat}(hk:w.heap[k]? = some (.cells cs t' fr))(ht:t'≠t):v.ownBlock≠some k:=fun e=>by
 obtain ⟨_,cur,e1⟩:=own_tag h e;rw [hk] at e1;injection e1 with e1;injection e1 with _ e1;exact ht e1
section
variable {c:Cx} {X:Nat->Prop} {q pp:Nat} {v1 v4:Value} {w w':World} {g:Pg.St}
theorem Pm.other {v u:Value}{m:Nat}{ys:List Value}(hr:c.r<c.B)(hb:c.bt<c.B)(hq:w.heap[q]? = some (.cells (progCells c.bt v1 v4 g) 76 (0,0)))(hu:w.ownsRow c.B 152 10 u m ys)(hB:But (FreeL c q v w) w w')(ha:∀ k,u.ownBlock=some k->v.ownBlock≠some k):w'.ownsRow c.B 152 10 u m ys :=
 hB.own hu (fun k hk e=>by
  obtain ⟨e0,cur,e1⟩:=own_tag hu hk
  rcases e with (e | e | ⟨_,cs,fr,e⟩) | e | e
  ·omega
  ·omega
  ·rw [e1] at e;injection e with e;injection e with _ e;exact absurd e (by decide)
  ·rw [e,hq] at e1;injection e1 with e1;injection e1 with _ e1;exact absurd e1 (by decide)
  ·exact ha k hk e)
theorem Pm.par' {v:Value}{n:Nat}{xs:List Value}(h:Pm c q pp v1 v4 w g)(hr:c.r<c.B)(hb:c.bt<c.B)(hv:w.ownsRow c.B 152 10 v n xs)(hB:But (FreeL c q v w) w w'):w'.heap[pp]? = some (.cells #[.pointer (some ⟨c.r,0,none⟩),.pointer (some ⟨q,0,none⟩)] 79 (0,0)) :=
 hB.heap h.par (by
  have:=h.ppB;rintro ((e | e | ⟨_,cs,fr,e⟩) | e | e)
  ·omega
  ·omega
  ·rw [h.par] at e;injection e with e;injection e with _ e;exact absurd e (by decide)
  ·exact h.qp e.symm
  ·exact own_none hv h.par (by decide) e)
theorem Pm.exn {d:Pg.Dc}{v':Value}(h:Pm c q pp v1 v4 w g)(hr:c.r<c.B)(hb:c.bt<c.B)(ho:w'.ownsRow c.B 152 10 v' (g.exns++[d]).length (cells10 (g.exns++[d])))(hq:w'.heap[q]? = some (.cells ((progCells c.bt v1 v4 g).setIfInBounds 4 v') 76 (0,0)))(hB:But (FreeL c q v4 w) w w')(hv:v'.ownBlock=v4.ownBlock\/∃ k,v'.ownBlock=some k/\w.heap.size<=k):
  Pm c q pp v1 v' w' ⟨g.ins,g.exns++[d],g.mt,g.mp,g.mb⟩ :=
 ⟨h.par' hr hb h.exns hB,hq,Pm.other hr hb h.prog h.ins hB h.apart,ho,fun k hk=>by
  rcases hv with e | ⟨k',e,e1⟩
  ·rw [e];exact h.apart k hk
  ·rw [e];intro e2;injection e2 with e2
   obtain ⟨_,cur,e3⟩:=own_tag h.ins hk;have:=lt_of_heap e3;omega,h.ppB,h.qB⟩
end
end
section
open Go.RowKit Tn Lx
structure FnV where
 f:Pf.Fn
 pa:Option Addr
 pc:Nat
def nmCell (n:Pg.Nm):List Value:=[.string ⟨n.text.toArray⟩,.int .i64 n.at_.line,.int .i64 n.at_.col]
def nmsCells (l:List Pg.Nm):List Value:=l.flatMap nmCell
theorem nmsCells_snoc (l:List Pg.Nm)(n:Pg.Nm):nmsCells (l++[n])=nmsCells l++nmCell n:=by simp [nmsCells]
def fnCell (x:FnV):List Value:=[.string ⟨x.f.name.text.toArray⟩,.int .i64 x.f.name.at_.line,.int .i64 x.f.name.at_.col,.slice x.pa x.f.params.length x.pc,.int .i64 x.f.body]
def fnsCells (l:List FnV):List Value:=l.flatMap fnCell
theorem fnsCells_snoc (l:List FnV)(x:FnV):fnsCells (l++[x])=fnsCells l++fnCell x:=by simp [fnsCells]
def dl (g:Pf.St):Nat->List Pg.Dc
 | 1=>g.ins
 | 2=>g.glo
 | 3=>g.cha
 | _=>g.exns
def dput (g:Pf.St)(d:Pg.Dc):Nat->Pf.St
 | 1=>{ g with ins:=g.ins++[d] }
 | 2=>{ g with glo:=g.glo++[d] }
 | 3=>{ g with cha:=g.cha++[d] }
 | _=>{ g with exns:=g.exns++[d] }
theorem dput_funs (g:Pf.St)(d:Pg.Dc)(i:Nat):(dput g d i).funs=g.funs:=by unfold dput;split <;> rfl
theorem dl_put {g:Pf.St}{d:Pg.Dc}{i j:Nat}(hi:1<=i/\i<=4)(hj:1<=j/\j<=4):dl (dput g d i) j=if j=i then dl g j++[d] else dl g j:=by
 obtain ⟨h1,h2⟩:=hi;obtain ⟨h3,h4⟩:=hj
 rcases (show i=1\/i=2\/i=3\/i=4 by omega) with rfl | rfl | rfl | rfl <;> rcases (show j=1\/j=2\/j=3\/j=4 by omega) with rfl | rfl | rfl | rfl <;> rfl
def progF (bt:Nat)(V:Nat->Value)(g:Pf.St):Array Value:=#[.pointer (some ⟨bt,0,none⟩),V 1,V 2,V 3,V 4,V 5,.string ⟨g.mt.toArray⟩,.int .i64 g.mp.line,.int .i64 g.mp.col,.slice none 0 0,.int .i64 g.mb]
def Vup (V:Nat->Value)(i:Nat)(v:Value):Nat->Value:=fun j=>if j=i then v else V j
theorem progF_put {bt:Nat}{V:Nat->Value}{g:Pf.St}{d:Pg.Dc}{i:Nat}{v:Value}(hi:1<=i/\i<=4):(progF bt V g).setIfInBounds i v=progF bt (Vup V i v) (dput g d i):=by
 obtain ⟨h1,h2⟩:=hi
 rcases (show i=1\/i=2\/i=3\/i=4 by omega) with rfl | rfl | rfl | rfl <;> rfl
theorem progF_get {bt:Nat}{V:Nat->Value}{g:Pf.St}{i:Nat}(hi:1<=i/\i<=5):(progF bt V g)[i]? = some (V i):=by
 obtain ⟨h1,h2⟩:=hi
 rcases (show i=1\/i=2\/i=3\/i=4\/i=5 by omega) with rfl | rfl | rfl | rfl | rfl <;> rfl
def ParAt (B:Nat)(w:World)(x:FnV):Prop:=w.ownsRow B 49 3 (.slice x.pa x.f.params.length x.pc) x.f.params.length (nmsCells x.f.params)
structure Pm5 (c:Cx)(q pp:Nat)(V:Nat->Value)(fs:List FnV)(w:World)(g:Pf.St):Prop where
 par:w.heap[pp]? = some (.cells #[.pointer (some ⟨c.r,0,none⟩),.pointer (some ⟨q,0,none⟩)] 79 (0,0))
 prog:w.heap[q]? = some (.cells (progF c.bt V g) 76 (0,0))
 dec:∀ i,1<=i/\i<=4->w.ownsRow c.B 152 10 (V i) (dl g i).length (cells10 (dl g i))
 fun_:w.ownsRow c.B 52 5 (V 5) fs.length (fnsCells fs)
 isf:fs.map (·.f)=g.funs
 pars:∀ x∈fs,ParAt c.B w x
 apart:∀ i j k,1<=i/\i<=4->1<=j/\j<=4->i≠j->(V i).ownBlock=some k->(V j).ownBlock≠some k
 ppB:c.B<=pp
 qB:c.B<=q
def Rows5 (V:Nat->Value)(fs:List FnV)(k:Nat):Prop:=(∃ i,(1<=i/\i<=5)/\(V i).ownBlock=some k)\/∃ x∈fs,(Value.slice x.pa x.f.params.length x.pc).ownBlock=some k
section
variable {c:Cx} {q pp:Nat} {V:Nat->Value} {fs:List FnV} {w w':World} {g:Pf.St}
theorem Pm5.p0 (h:Pm5 c q pp V fs w g):w.cell? ⟨pp,0,none⟩=some (.pointer (some ⟨c.r,0,none⟩)):=(blk_cell h.par 0).trans rfl
theorem Pm5.p1 (h:Pm5 c q pp V fs w g):w.cell? ⟨pp,1,none⟩=some (.pointer (some ⟨q,0,none⟩)):=(blk_cell h.par 1).trans rfl
theorem Pm5.gv (h:Pm5 c q pp V fs w g){i:Nat}(hi:1<=i/\i<=5):w.cell? ⟨q,i,none⟩=some (V i):=(blk_cell h.prog i).trans (progF_get hi)
theorem Pm5.g0 (h:Pm5 c q pp V fs w g):w.cell? ⟨q,0,none⟩=some (.pointer (some ⟨c.bt,0,none⟩)):=(blk_cell h.prog 0).trans rfl
theorem Pm5.g6 (h:Pm5 c q pp V fs w g):w.cell? ⟨q,6,none⟩=some (.string ⟨g.mt.toArray⟩):=(blk_cell h.prog 6).trans rfl
theorem Pm5.gf (h:Pm5 c q pp V fs w g)(i:Nat):w.frozen? ⟨q,i,none⟩=false:=blk_frozen h.prog i
theorem Pm5.qp (h:Pm5 c q pp V fs w g):q≠pp:=fun e=>by
 have h1:=h.par;have h2:=h.prog;rw [e,h1] at h2;injection h2 with h2;injection h2 with _ h2;exact absurd h2 (by decide)
theorem Pm5.row (h:Pm5 c q pp V fs w g){k:Nat}(hk:Rows5 V fs k):c.B<=k/\∃ cs t fr,w.heap[k]? = some (.cells cs t fr)/\(t=152\/t=52\/t=49):=by
 rcases hk with ⟨i,hi,hk⟩ | ⟨x,hx,hk⟩
 ·by_cases h5:i=5
  ·subst h5;obtain ⟨e0,cur,e1⟩:=own_tag h.fun_ hk;exact ⟨e0,cur,_,_,e1,.inr (.inl rfl)⟩
  ·obtain ⟨e0,cur,e1⟩:=own_tag (h.dec i (by omega)) hk;exact ⟨e0,cur,_,_,e1,.inl rfl⟩
 ·obtain ⟨e0,cur,e1⟩:=own_tag (h.pars x hx) hk;exact ⟨e0,cur,_,_,e1,.inr (.inr rfl)⟩
theorem Pm5.but (h:Pm5 c q pp V fs w g){p:Nat->Prop}(hb:But p w w')(h1:¬ p pp)(h2:¬ p q)(h3:∀ k,Rows5 V fs k->¬ p k):Pm5 c q pp V fs w' g :=
 ⟨hb.heap h.par h1,hb.heap h.prog h2,fun i hi=>hb.own (h.dec i hi) (fun k hk=>h3 k (.inl ⟨i,by omega,hk⟩)),hb.own h.fun_ (fun k hk=>h3 k (.inl ⟨5,by omega,hk⟩)),h.isf,
  fun x hx=>hb.own (h.pars x hx) (fun k hk=>h3 k (.inr ⟨x,hx,hk⟩)),h.apart,h.ppB,h.qB⟩
theorem Pm5.below (h:Pm5 c q pp V fs w g)(hb:Below w.heap.size w w'):Pm5 c q pp V fs w' g:=h.but (p:=fun _=>False) (But.of_below hb) (fun e=>e) (fun e=>e) (fun _ _ e=>e)
theorem Pm5.freeD {bd:Nat}(h:Pm5 c q pp V fs w g)(hr:c.r<c.B)(hb:c.bt<c.B)(hd1:bd≠pp)(hd2:bd≠q)(hd3:∀ k,Rows5 V fs k->k≠bd)(hk:But (FreeD c bd w) w w'):Pm5 c q pp V fs w' g:=by
 have hp:=h.ppB;have hq:=h.qB;refine h.but hk ?_ ?_ ?_
 ·rintro ((e | e | ⟨_,cs,fr,e⟩) | e)
  ·omega
  ·omega
  ·rw [h.par] at e;injection e with e;injection e with _ e;exact absurd e (by decide)
  ·exact hd1 e.symm
 ·rintro ((e | e | ⟨_,cs,fr,e⟩) | e)
  ·omega
  ·omega
  ·rw [h.prog] at e;injection e with e;injection e with _ e;exact absurd e (by decide)
  ·exact hd2 e.symm
 ·intro k hk2;obtain ⟨hB,cs,t,fr,e1,ht⟩:=h.row hk2;rintro ((e | e | ⟨_,cs',fr',e⟩) | e)
  ·omega
  ·omega
  ·rw [e1] at e;injection e with e;injection e with _ e
   rcases ht with ht | ht | ht <;> (rw [ht] at e;exact absurd e (by decide))
  ·exact hd3 k hk2 e
theorem Pm5.rlt (h:Pm5 c q pp V fs w g){k:Nat}(hk:Rows5 V fs k):k<w.heap.size:=by
 obtain ⟨_,cs,t,fr,e1,_⟩:=h.row hk;exact lt_of_heap e1
theorem Pm5.kp (h:Pm5 c q pp V fs w g)(hr:c.r<c.B)(hb:c.bt<c.B)(hk:Kp c w w'):Pm5 c q pp V fs w' g :=
 h.freeD (bd:=w.heap.size) hr hb (fun e=>by have:=lt_of_heap h.par;omega) (fun e=>by have:=lt_of_heap h.prog;omega) (fun k hk e=>by have:=h.rlt hk;omega) (But.mono hk fun k _ e => .inl e)
theorem Pm5.put {d:Pg.Dc}{v':Value}{i:Nat}(h:Pm5 c q pp V fs w g)(hi:1<=i/\i<=4)(hr:c.r<c.B)(hb:c.bt<c.B)(ho:w'.ownsRow c.B 152 10 v' (dl g i++[d]).length (cells10 (dl g i++[d])))(hq:w'.heap[q]? = some (.cells ((progF c.bt V g).setIfInBounds i v') 76 (0,0)))(hB:But (FreeL c q (V i) w) w w')(hv:v'.ownBlock=(V i).ownBlock\/∃ k,v'.ownBlock=some k/\w.heap.size<=k):
  Pm5 c q pp (Vup V i v') fs w' (dput g d i):=by
 have hp:=h.ppB;have hqB:=h.qB;have stay:∀ {k:Nat} {cs:Array Value} {t:TypeId} {fr:Nat × Nat},c.B<=k->w.heap[k]? = some (.cells cs t fr)->t≠165->t≠76->(V i).ownBlock≠some k->¬ FreeL c q (V i) w k:=fun {k} {cs} {t} {fr} h0 h1 h2 h3 h4=>by
  rintro ((e | e | ⟨_,cs',fr',e⟩) | e | e)
  ·omega
  ·omega
  ·rw [h1] at e;injection e with e;injection e with _ e;exact h2 e
  ·rw [e,h.prog] at h1;injection h1 with h1;injection h1 with _ h1;exact h3 h1.symm
  ·exact h4 e
 refine ⟨hB.heap h.par (stay hp h.par (by decide) (by decide) (own_none (h.dec i hi) h.par (by decide))),by rw [hq,progF_put hi], ?_, ?_,(by rw [dput_funs];exact h.isf), ?_, ?_,hp,hqB⟩
 ·intro j hj;rw [dl_put hi hj]
  by_cases e:j=i
  ·subst e;rw [if_pos rfl,Vup,if_pos rfl];exact ho
  ·rw [if_neg e,Vup,if_neg e];refine hB.own (h.dec j hj) fun k hk=>?_;obtain ⟨e0,cur,e1⟩:=own_tag (h.dec j hj) hk;exact stay e0 e1 (by decide) (by decide) (fun e2=>h.apart j i k hj hi e hk e2)
 ·rw [Vup,if_neg (by omega)];refine hB.own h.fun_ fun k hk=>?_;obtain ⟨e0,cur,e1⟩:=own_tag h.fun_ hk;exact stay e0 e1 (by decide) (by decide) (own_none (h.dec i hi) e1 (by decide))
 ·intro x hx;refine hB.own (h.pars x hx) fun k hk=>?_;obtain ⟨e0,cur,e1⟩:=own_tag (h.pars x hx) hk;exact stay e0 e1 (by decide) (by decide) (own_none (h.dec i hi) e1 (by decide))
 ·intro a b k ha hb' hab hk hk2;simp only [Vup] at hk hk2
  by_cases ea:a=i
  ·have eb:b≠i:=fun e=>hab (ea.trans e.symm);rw [if_pos ea] at hk;rw [if_neg eb] at hk2
   rcases hv with e | ⟨k',e,e1⟩
   ·rw [e] at hk;exact h.apart i b k hi hb' (fun e=>eb e.symm) hk hk2
   ·rw [e] at hk;injection hk with hk
    have:=h.rlt (.inl ⟨b,by omega,hk2⟩);omega
  ·rw [if_neg ea] at hk
   by_cases eb:b=i
   ·rw [if_pos eb] at hk2
    rcases hv with e | ⟨k',e,e1⟩
    ·rw [e] at hk2;exact h.apart a i k ha hi ea hk hk2
    ·rw [e] at hk2;injection hk2 with hk2
     have:=h.rlt (.inl ⟨a,by omega,hk⟩);omega
   ·rw [if_neg eb] at hk2;exact h.apart a b k ha hb' hab hk hk2
end
def FreeF (c:Cx)(q:Nat)(w:World)(k:Nat):Prop:=k=c.r\/k=c.bt\/k=q\/(c.B<=k/\∃ cs t fr,w.heap[k]? = some (.cells cs t fr)/\(t=165\/t=152\/t=52))
def Kf (c:Cx)(q:Nat)(w w':World):Prop:=But (FreeF c q w) w w'
theorem Kf.of_kp {c:Cx}{q:Nat}{w w':World}(h:Kp c w w'):Kf c q w w':=But.mono h fun k _ e=>by
 rcases e with e | e | ⟨e,cs,fr,e1⟩
 ·exact .inl e
 ·exact .inr (.inl e)
 ·exact .inr (.inr (.inr ⟨e,cs,_,fr,e1,.inl rfl⟩))
theorem Kf.refl (c:Cx)(q:Nat)(w:World):Kf c q w w:=But.refl _ _
theorem Kf.trans {c:Cx}{q:Nat}{a b d:World}(h:Kf c q a b)(k:Kf c q b d):Kf c q a d :=
 ⟨k.os.trans h.os,k.tape.trans h.tape,k.output.trans h.output,Nat.le_trans h.size k.size,fun i hi hp=>by
  have e:=h.block i hi hp;refine (k.block i (Nat.lt_of_lt_of_le hi h.size) ?_).trans e;rintro (e1 | e1 | e1 | ⟨e1,cs,t,fr,e2,e3⟩)
  ·exact hp (.inl e1)
  ·exact hp (.inr (.inl e1))
  ·exact hp (.inr (.inr (.inl e1)))
  ·exact hp (.inr (.inr (.inr ⟨e1,cs,t,fr,e ▸ e2,e3⟩)))⟩
theorem Kf.size {c:Cx}{q:Nat}{a b:World}(h:Kf c q a b):a.heap.size<=b.heap.size:=But.size h
theorem Kf.then_below {c:Cx}{q:Nat}{a b d:World}(h:Kf c q a b)(k:Below b.heap.size b d):Kf c q a d:=h.trans (Kf.of_kp (Kp.of_below k))
theorem Kf.below {c:Cx}{q N:Nat}{a b:World}(h:Kf c q a b)(hN:N<=a.heap.size)(h1:N<=c.r)(h2:N<=c.bt)(h3:N<=c.B)(h4:N<=q):Below N a b :=
 But.below h hN (fun k hk=>by
  rcases hk with e | e | e | ⟨e,_⟩ <;> omega)
theorem Kf.map {c:Cx}{q:Nat}{a b:World}(h:Kf c q a b){k cl:Nat}{es:Array MapEntry}(hk:a.heap[k]? = some (.map es cl))(h1:k≠c.r)(h2:k≠c.bt)(h3:k≠q):b.heap[k]? = some (.map es cl) :=
 (h.block k (lt_of_heap hk) (by
  rintro (e | e | e | ⟨_,cs,t,fr,e,_⟩)
  ·exact h1 e
  ·exact h2 e
  ·exact h3 e
  ·rw [hk] at e;cases e)).trans hk
theorem freeL_kf {c:Cx}{q:Nat}{v:Value}{w w':World}{n:Nat}{xs:List Value}(h:But (FreeL c q v w) w w')(ho:w.ownsRow c.B 152 10 v n xs):Kf c q w w':=But.mono h fun k _ e=>by
 rcases e with (e | e | ⟨e,cs,fr,e1⟩) | e | e
 ·exact .inl e
 ·exact .inr (.inl e)
 ·exact .inr (.inr (.inr ⟨e,cs,_,fr,e1,.inl rfl⟩))
 ·exact .inr (.inr (.inl e))
 ·obtain ⟨e0,cur,e1⟩:=own_tag ho e;exact .inr (.inr (.inr ⟨e0,cur,_,_,e1,.inr (.inl rfl)⟩))
def ReadF (c:Cx)(X:Nat->Prop)(w:World)(q pp:Nat)(R:Pg.R Pf.St)(e:Ending)(w':World):Prop :=
 (∃ g s V fs,R = .ok g s/\e = .returned .nilIface/\Rd c X w' s/\Pm5 c q pp V fs w' g/\Kf c q w w')\/(∃ cd p n,R = .bad cd p n/\e = .returned (dvalN cd p n)/\Kf c q w w')
end
section
open Go.RowKit Tn Lx
namespace Sp
abbrev Mp:=List (B × Int)
def look:Mp->B->Option Int
 | [],_=>none
 | (a,x) :: l,t=>if t==a then some x else look l t
def val (m:Mp)(t:B):Int:=(look m t).getD 0
def put:Mp->B->Int->Mp
 | [],t,v=>[(t,v)]
 | (a,x) :: l,t,v=>if t==a then (a,v) :: l else (a,x) :: put l t v
def has (m:Mp)(t:B):Bool:=(look m t).isSome
def bump (m:Mp)(t:B)(d:Int):Mp:=put m t (IntKind.i64.wrap (val m t+d))
structure Fd where
 k:Nat
 n:Pg.Nm
def code (k:Nat):Int:=if k==0 || k==5 || k==6 || k==7 || k==8 || k==9 || k==10 || k==11 || k==12 || k==21 then 8 else if k==3 || k==20 then 9 else 7
structure De where
 i:Nat
 m:Mp
 l:List Fd
def step (k:Nat)(s:De)(n:Pg.Nm):De:=if has s.m n.text=true then ⟨s.i+1,s.m,s.l++[⟨k,n⟩]⟩ else ⟨s.i+1,put s.m n.text s.i,s.l⟩
def decl (k:Nat)(l:List Fd)(ns:List Pg.Nm):De:=ns.foldl (step k) ⟨0,[],l⟩
def pt (ps:List Pg.Nm)(l:List Fd)(n:Pg.Nm):List Fd:=if (ps.any fun p=>p.text==n.text)=true then l else l++[⟨13,n⟩]
def pts (cf ig:List Pg.Nm)(l:List Fd)(ds:List Pg.Dc):List Fd:=ds.foldl (fun l d=>pt ig (pt cf l d.conf) d.integ) l
structure En where
 ins:Mp
 glo:Mp
 cha:Mp
 exn:Mp
 fun_:Mp
 hat:Mp
 few:List Nat
structure St where
 v:Mp
 h:Mp
 l:List Fd
def wr (s:St)(b:Bool)(k:Nat)(n:Nd):St:=if b=true then { s with l:=s.l++[⟨k,⟨n.name.data.toList,⟨n.line,n.col⟩⟩⟩] } else s
def oLet:ByteArray:=⟨#[108,101,116]⟩
def oVar:ByteArray:=⟨#[118,97,114]⟩
def oGet:ByteArray:=⟨#[103,101,116]⟩
def oSet:ByteArray:=⟨#[115,101,116]⟩
def oOut:ByteArray:=⟨#[111,117,116]⟩
def oRaise:ByteArray:=⟨#[114,97,105,115,101]⟩
def oTry:ByteArray:=⟨#[116,114,121]⟩
def oRel:ByteArray:=⟨#[114,101,108,101,97,115,101]⟩
def oCall:ByteArray:=⟨#[99,97,108,108]⟩
def oHole:ByteArray:=⟨#[104,111,108,101]⟩
def node (e:En)(n:Nd)(s:St):St :=
 let t:=n.name.data.toList
 if n.op=oLet then wr s (has e.ins t) 12 n
 else if n.op=oVar then wr s (!has e.ins t && val s.v t==0) 14 n
 else if n.op=oGet\/n.op=oSet then wr s (!has e.glo t) 15 n
 else if n.op=oOut then wr s (!has e.cha t) 16 n
 else if n.op=oRaise\/n.op=oTry then wr s (!has e.exn t) 17 n
 else if n.op=oRel then wr s (!has e.hat t) 18 n
 else if n.op=oCall then wr (wr s (!has e.fun_ t) 19 n) (has e.fun_ t && (n.kids.length != e.few.getD (val e.fun_ t).toNat 0)) 20 n
 else if n.op=oHole then
  let s':=wr s (decide (0<val s.h t)) 21 n
  { s' with h:=bump s'.h t 1 }
 else s
def kid (e:En)(rec:Nat->St->St)(n:Nd)(s:St)(j:Nat)(k:Int):St :=
 if n.op=oLet/\j=1 then
  let s1:=rec k.toNat { s with v:=bump s.v n.name.data.toList 1 }
  { s1 with v:=bump s1.v n.name.data.toList (-1) }
 else if n.op=oHole then { rec k.toNat { s with v:=[] } with v:=s.v }
 else rec k.toNat s
def kids (e:En)(rec:Nat->St->St)(n:Nd):St->Nat->List Int->St
 | s,_,[]=>s
 | s,j,k :: l=>kids e rec n (kid e rec n s j k) (j+1) l
def expr (e:En)(ns:List Nd):Nat->Nat->St->St
 | 0,_,s=>s
 | f+1,i,s=>kids e (expr e ns f) (nd ns i) (node e (nd ns i) s) 0 (nd ns i).kids
theorem kids_snoc (e:En)(rec:Nat->St->St)(n:Nd)(k:Int):∀ (l:List Int) (s:St) (j:Nat),kids e rec n s j (l++[k])=kid e rec n (kids e rec n s j l) (j+l.length) k
 | [],_,_=>rfl
 | a :: l,s,j=>by
  show kids e rec n (kid e rec n s j a) (j+1) (l++[k])=_
  rw [kids_snoc e rec n k l,List.length_cons,show j+1+l.length=j+(l.length+1) by omega];rfl
def par (e:En)(s:St)(n:Pg.Nm):St:={ s with v:=bump s.v n.text 1,l:=if has e.ins n.text=true then s.l++[⟨11,n⟩] else s.l }
def fun_ (e:En)(ns:List Nd)(s:St)(ps:List Pg.Nm)(body:Nat):St :=
 expr e ns (body+1) body (ps.foldl (par e) { s with v:=[],l:=(decl 10 s.l ps).l })
def funs (e:En)(ns:List Nd)(s:St)(fs:List Pf.Fn):St:=fs.foldl (fun s f=>fun_ e ns s f.params f.body) s
def env (g:Pf.St)(cf ig:List Pg.Nm)(hs:List Pg.Nm):En × List Fd :=
 let d1:=decl 5 [] (g.ins.map (·.name))
 let d2:=decl 6 d1.l (g.glo.map (·.name))
 let d3:=decl 7 d2.l (g.cha.map (·.name))
 let d4:=decl 8 d3.l (g.exns.map (·.name))
 let d5:=decl 9 d4.l (g.funs.map (·.name))
 (⟨d1.m,d2.m,d3.m,d4.m,d5.m,(decl 0 [] hs).m,g.funs.map fun f=>f.params.length⟩,pts cf ig (pts cf ig (pts cf ig d5.l g.ins) g.glo) g.cha)
def wrong (g:Pf.St)(ns:List Nd)(cf ig:List Pg.Nm)(hs:List Pg.Nm):List Fd :=
 let (e,l):=env g cf ig hs
 (fun_ e ns (funs e ns ⟨[],[],l⟩ g.funs) [] g.mb).l
end Sp
def ents:Nat->Sp.Mp->List MapEntry
 | _,[]=>[]
 | i,(t,v) :: l=>⟨.string ⟨t.toArray⟩,.int .i64 v,i⟩ :: ents (i+1) l
def MpAt (w:World)(k:Nat)(m:Sp.Mp):Prop:=w.heap[k]? = some (.map (ents 0 m).toArray m.length)
theorem same_str5 (a b:B):Instr.sameNow .string (.string ⟨a.toArray⟩) (.string ⟨b.toArray⟩)=some (a==b):=by
 show some (a.toArray==b.toArray)=_
 rw [List.beq_toArray]
theorem ents_find (t:B):∀ (m:Sp.Mp) (i j:Nat),∃ n,Instr.findNow .string (.string ⟨t.toArray⟩) (ents i m) j=some ((Sp.look m t).map fun v=>(n,.int .i64 v))/\(Sp.has m t=true->j<=n/\∀ v,(ents i m).modify (n-j) (fun e=>{ e with val := .int .i64 v })=ents i (Sp.put m t v))
 | [],_,j=>⟨j,rfl,fun h=>by simp [Sp.has,Sp.look] at h⟩
 | (a,x) :: l,i,j=>by
  rw [ents,Instr.findNow,same_str5,Sp.look]
  cases h:(t==a) with
  | true =>
   refine ⟨j,rfl,fun _=>⟨Nat.le_refl _,fun v=>?_⟩⟩;rw [Nat.sub_self,Sp.put,h];rfl
  | false =>
   obtain ⟨n,h1,h2⟩:=ents_find t l (i+1) (j+1);refine ⟨n,h1,fun hh=>?_⟩;have hl:Sp.has l t=true:=by simpa [Sp.has,Sp.look,h] using hh
   obtain ⟨h3,h4⟩:=h2 hl;refine ⟨by omega,fun v=>?_⟩;rw [show n-j=(n-(j+1))+1 by omega,List.modify_succ_cons,h4 v,Sp.put,h];rfl
theorem put_new {t:B}{v:Int} : ∀ {m:Sp.Mp} (i:Nat),Sp.has m t=false->ents i (Sp.put m t v)=ents i m++[⟨.string ⟨t.toArray⟩,.int .i64 v,i+m.length⟩]/\(Sp.put m t v).length=m.length+1
 | [],i,_=>⟨rfl,rfl⟩
 | (a,x) :: l,i,h=>by
  cases e:(t==a) with
  | true=>simp [Sp.has,Sp.look,e] at h
  | false =>
   have hl:Sp.has l t=false:=by simpa [Sp.has,Sp.look,e] using h
   obtain ⟨h1,h2⟩:=put_new (m:=l) (i+1) hl;rw [Sp.put,e];refine ⟨?_, ?_⟩
   ·show ⟨_,_,_⟩ :: ents (i+1) (Sp.put l t v)=_
    rw [h1,List.length_cons,show i+1+l.length=i+(l.length+1) by omega];rfl
   ·show (Sp.put l t v).length+1=_
    rw [h2];rfl
theorem put_len {t:B}{v:Int} : ∀ {m:Sp.Mp},Sp.has m t=true->(Sp.put m t v).length=m.length
 | [],h=>by simp [Sp.has,Sp.look] at h
 | (a,x) :: l,h=>by
  cases e:(t==a) with
  | true=>rw [Sp.put,e];rfl
  | false =>
   have hl:Sp.has l t=true:=by simpa [Sp.has,Sp.look,e] using h
   rw [Sp.put,e]
   show (Sp.put l t v).length+1=_
   rw [put_len hl];rfl
end
end Go.Proofs.YtdfpkmfeldoamaaGreatDoor
