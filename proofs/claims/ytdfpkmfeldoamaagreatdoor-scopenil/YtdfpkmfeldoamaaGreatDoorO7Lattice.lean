/- A part of the proof: A part of the proof. -/
import Derived.Test.YtdfpkmfeldoamaaGreatDoorOLat
import Derived.Test.YtdfpkmfeldoamaaGreatDoorO7Mem7
import Derived.Laws.AppendOwn
import Derived.OwnWalk
import Derived.Deep.AppendLies
import Derived.Deep.RegionLaw
import Derived.Deep.RegionWith
import Derived.Deep.RegionHeld2
import Derived.Deep.RegionHeld3
import Derived.StillTailTactics
set_option linter.unusedSimpArgs false
set_option linter.unusedVariables false
set_option maxRecDepth 100000
set_option maxHeartbeats 8000000
namespace Go.Proofs.YtdfpkmfeldoamaaGreatDoor.Od
open Go.RowKit
namespace M
theorem closure_congr {n:Nat}{r r' F:Nat->Nat->Prop}(h:IsClosure n r F)(e:∀ a b,a<n->b<n->(r a b↔r' a b)):IsClosure n r' F :=
 ⟨fun a b ha hb hr=>h.1 a b ha hb ((e a b ha hb).2 hr),h.2.1,fun T h1 h2=>h.2.2 T (fun a b ha hb hr=>h1 a b ha hb ((e a b ha hb).1 hr)) h2⟩
theorem findN_congr {f g:Nat->Nat}{n:Nat}(h:∀ i,i<n->f i=g i)(x:Nat):findN f x n=findN g x n:=by
 rcases findN_cases f x n with ⟨p,hp,e,e1,e2⟩ | ⟨e,e1⟩
 ·rw [e1,findN_hit (fun i hi=>by rw [<- h i (by omega)];exact e2 i hi) hp (by rw [<- h p hp];exact e)]
 ·rw [e1,findN_miss (fun i hi=>by rw [<- h i hi];exact e i hi)]
theorem latOK_congr {n:Nat}{f g u v:Nat->Nat}(h:∀ i,i<n->f i=g i)(k:∀ i,i<n->u i=v i)(hl:LatOK n f u):LatOK n g v:=fun b hb a ha=>by
 obtain ⟨h1,h2,h3⟩:=hl b hb a ha;refine ⟨?_, ?_, ?_⟩
 ·rw [<- h a (by omega),<- h b hb];exact h1
 ·rw [<- h a (by omega),<- h b hb,<- findN_congr h];exact h2
 ·rw [<- k a (by omega),<- k b hb,<- findN_congr k];exact h3
end M
theorem built_unique {N len:Nat}{p q:Nat->Int}{f u f' u':Nat->Nat}(h:Built N p q len f u)(h':Built N p q len f' u'):(∀ i,i<N->f i=f' i)/\(∀ i,i<N->u i=u' i):=by
 obtain ⟨f0,hp,hc,hr⟩:=h;obtain ⟨f0',hp',hc',hr'⟩:=h';have hcl:=M.closure_congr hc.closure (r':=fun a b=>(f0' a).testBit b=true) (fun a b ha hb=>(hp.bits a b ha hb).trans (hp'.bits a b ha hb).symm);have hun:=M.closure_unique hcl hc'.closure;have hf:∀ i,i<N->f i=f' i:=fun i hi=>M.mask_ext (hc.lim i hi) (hc'.lim i hi) (fun j hj=>Bool.eq_iff_iff.2 (hun i j hi hj));exact ⟨hf,fun i hi=>M.mask_ext (hr.lim i hi) (hr'.lim i hi) (fun j hj=>by rw [hr.done j i hj hi,hr'.done j i hj hi,hf j hj])⟩
def pf (l:List (Nat × Nat))(i:Nat):Int:=((l.getD i (0,0)).1:Int)
def qf (l:List (Nat × Nat))(i:Nat):Int:=((l.getD i (0,0)).2:Int)
def Good (N:Nat)(l:List (Nat × Nat)):Prop:=(∀ i,i<l.length->PairIn N (pf l i) (qf l i))/\∃ f u,Built N (pf l) (qf l) l.length f u/\M.LatOK N f u
def NewG (w:World)(N:Nat)(l:List (Nat × Nat))(e:Ending)(w':World):Prop :=
 Below w.heap.size w w'/\((¬ Good N l/\∃ c:Int,c≠0/\e = .returned (.tuple #[.pointer none,.int .i64 c])) \/
  (Good N l/\∃ o ba bu f u,e = .returned (.tuple #[.pointer (some ⟨o,0,none⟩),.int .i64 0])/\OrdAt w' o N ba bu f u/\Built N (pf l) (qf l) l.length f u))
theorem new_good (w:World)(N:Nat)(ao:Option Addr)(cap:Nat)(l:List (Nat × Nat))(h1:1<=N)(h32:N<=32)(hlen:l.length<=1000)(hps:PairsAt w ao l.length (pf l) (qf l)):
  Calls Tryz.prog 95 #[.int .i64 (N:Int),.slice ao l.length cap] w (NewG w N l):=by
 refine (new_any w N ao l.length cap (pf l) (qf l) h1 h32 (by omega) hps).mono ?_;rintro e w' ⟨hb,⟨rfl,i,hi,hn⟩ | ⟨hin,f,u,hB,⟨rfl,hn⟩ | ⟨hok,o,ba,bu,rfl,_,_,ho⟩⟩⟩
 ·exact ⟨hb,.inl ⟨fun hg=>hn (hg.1 i hi),1,by decide,rfl⟩⟩
 ·refine ⟨hb,.inl ⟨fun ⟨_,f',u',hB',hok⟩=>?_,2,by decide,rfl⟩⟩;have:=built_unique hB' hB;exact hn (M.latOK_congr this.1 this.2 hok)
 ·exact ⟨hb,.inr ⟨⟨hin,f,u,hB,hok⟩,o,ba,bu,f,u,rfl,ho,hB⟩⟩
theorem OrdAt.below {w w':World}{o n ba bu:Nat}{f u:Nat->Nat}(h:OrdAt w o n ba bu f u)(hn:1<=n)(hb:Below w.heap.size w w'):OrdAt w' o n ba bu f u :=
 have k:∀ {b i:Nat} {v:Value},w.cell? ⟨b,i,none⟩=some v->w'.cell? ⟨b,i,none⟩=some v:=fun {b i v} e=>(hb.cell (p:=⟨b,i,none⟩) (World.block_lt_of_cell? _ _ e)).trans e
 ⟨h.n32,k h.c0,k h.c1,fun i hi=>k (h.ra i hi),fun i hi=>k (h.ru i hi),h.fl,h.ul⟩
end Go.Proofs.YtdfpkmfeldoamaaGreatDoor.Od
namespace Go.Proofs.YtdfpkmfeldoamaaGreatDoor.Yo
open Go.RowKit Tn Lx
namespace Py
def ix:List B->B->Option Nat
 | [],_=>none
 | a :: l,t=>if a=t then some 0 else (ix l t).map (· + 1)
theorem ix_none {t:B} : ∀ {l:List B},t ∉ l->ix l t=none
 | [],_=>rfl
 | a :: l,h=>by rw [ix,if_neg (fun e=>h (by simp [e])),ix_none (fun e=>h (by simp [e]))];rfl
theorem ix_some {t:B} : ∀ {l:List B} {k:Nat},l[k]? = some t->(∀ j,j<k->l[j]? ≠ some t)->ix l t=some k
 | a :: l,0,h,_=>by
  have:a=t:=by simpa using h
  rw [ix,if_pos this]
 | a :: l,k+1,h,hj=>by
  have h0:a≠t:=by have:=hj 0 (by omega);simpa using this
  rw [ix,if_neg h0,ix_some (l:=l) (k:=k) (by simpa using h) (fun j hjk=>by have:=hj (j+1) (by omega);simpa using this)]
  rfl
def num:Option Nat->Int
 | some k=>k
 | none => -1
def prs (P:List B):List (B × B)->List (Nat × Nat)
 | []=>[]
 | p :: l=>match ix P p.1,ix P p.2 with
  | some a,some b=>(a,b) :: prs P l
  | _,_=>prs P l
theorem prs_append (P:List B):∀ a b:List (B × B),prs P (a++b)=prs P a++prs P b
 | [],b=>rfl
 | p :: a,b=>by
  show prs P (p :: (a++b))=_
  rw [prs,prs,prs_append P a b]
  cases ix P p.1 <;> cases ix P p.2 <;> rfl
theorem prs_len (P:List B):∀ l:List (B × B),(prs P l).length<=l.length
 | []=>by simp [prs]
 | p :: l=>by
  have:=prs_len P l;rw [prs]
  cases ix P p.1 <;> cases ix P p.2 <;> simp <;> omega
end Py
theorem own_slice2 {w:World}{base:Nat}{e:TypeId}{size:Nat}{v:Value}{n:Nat}{xs:List Value}(h:w.ownsRow base e size v n xs)(hn:0<n):
  ∃ g cap,v = .slice (some ⟨g,0,none⟩) n cap/\n<=cap/\cap<=9223372036854775807/\∀ j u,xs[j]? = some u->w.cell? ⟨g,j,none⟩=some u:=by
 rcases h.2 with ⟨rfl,h0⟩ | ⟨g,cap,cur,rfl,hb,hg,hc,hm,_⟩
 ·omega
 ·refine ⟨g,cap,rfl,hc,by unfold maxLen at hm;omega,fun j u hu=>?_⟩;have:=h.cells (g:=g) rfl j u hu;have hadd:(⟨g,0,none⟩:Addr).add j=⟨g,j,none⟩:=by unfold Addr.add;split <;> simp_all
  rwa [hadd] at this
theorem Tryz.info197:(Tryz.prog.info? 197).map (fun i=>(i.zero,i.size,i.bytes))=some (some (.agg #[.int .i64 0,.int .i64 0]),2,16):=by kernel_rfl
theorem Below.of_grown {n:Nat}{a b:World}{row:Option Nat}(h:a.grownBy b row)(hn:n<=a.heap.size)(hp:∀ k,row=some k->n<=k):Below n a b :=
 But.below (p:=fun k=>row=some k) (But.of_grown h (fun k e=>e)) hn (fun k e=>hp k e)
theorem point_num (w:World)(l:List Py.Nm)(t:B)(b cap:Nat)(h:NamesAt w b l)(hl:l.length<=1000):
  Calls Tryz.prog 31 #[.slice (some ⟨b,0,none⟩) l.length cap,.string ⟨t.toArray⟩] w fun e w'=>e = .returned (.int .i64 (Py.num (Py.ix (Py.tx l) t)))/\Below w.heap.size w w':=by
 refine (point_any w l t b cap h hl).mono ?_;rintro e w' ⟨(⟨k,n,rfl,h1,h2,h3⟩ | ⟨rfl,h1⟩),hb⟩
 ·have e1:Py.ix (Py.tx l) t=some k:=Py.ix_some (by simp [Py.tx,h1,h2]) (fun j hj e=>by
   simp only [Py.tx,List.getElem?_map,Option.map_eq_some_iff] at e;obtain ⟨m,e1,e2⟩:=e;exact h3 j m hj e1 e2)
  rw [e1];exact ⟨rfl,hb⟩
 ·have e1:Py.ix (Py.tx l) t=none:=Py.ix_none (fun e=>by
   obtain ⟨m,e1,e2⟩:=List.mem_map.1 e;obtain ⟨j,hj⟩:=List.mem_iff_getElem?.1 e1;exact h1 j m hj e2)
  rw [e1];exact ⟨rfl,hb⟩
def cell2 (p:Nat × Nat):List Value:=[.int .i64 (p.1:Int),.int .i64 (p.2:Int)]
def cells2 (l:List (Nat × Nat)):List Value:=l.flatMap cell2
theorem cells2_snoc (l:List (Nat × Nat))(d:Nat × Nat):cells2 (l++[d])=cells2 l++cell2 d:=by simp [cells2]
theorem cells2_get:∀ (l:List (Nat × Nat))(i:Nat),i<l.length->(cells2 l)[i*2]? = some (.int .i64 (Od.pf l i))/\(cells2 l)[i*2+1]? = some (.int .i64 (Od.qf l i))
 | p :: l,0,_=>⟨rfl,rfl⟩
 | p :: l,i+1,h=>by
  have:=cells2_get l i (by simpa using h);have e:cells2 (p :: l) = .int .i64 (p.1:Int) :: .int .i64 (p.2:Int) :: cells2 l:=rfl;rw [e,show (i+1)*2=i*2+2 by omega,show i*2+2+1=i*2+1+2 by omega];exact this
theorem pairs_of_own {w:World}{base:Nat}{t:TypeId}{ka:Option Addr}{kc:Nat}{l:List (Nat × Nat)}(h:w.ownsRow base t 2 (.slice ka l.length kc) l.length (cells2 l)):Od.PairsAt w ka l.length (Od.pf l) (Od.qf l):=fun i hi=>by
 obtain ⟨g,cap,e,_,_,hx⟩:=own_slice2 h (by omega)
 injection e with e _ _
 obtain ⟨h0,h1⟩:=cells2_get l i hi;have c0:=hx _ _ h0;exact ⟨g,0,e,World.block_lt_of_cell? _ _ c0,by rw [Nat.zero_add];exact c0,by rw [Nat.zero_add];exact hx _ _ h1⟩
theorem first_any (w:World)(P:List Py.Nm)(b cap:Nat)(h:NamesAt w b P)(h1:1<=P.length)(h2:P.length<=1000):
  Calls Tryz.prog 96 #[.slice (some ⟨b,0,none⟩) P.length cap] w fun e w'=>e = .returned (.agg #[.int .i64 (P.getD 0 Py.zn).at_.line,.int .i64 (P.getD 0 Py.zn).at_.col])/\Below w.heap.size w w':=by
 obtain ⟨m,l,rfl⟩:∃ m l,P=m :: l:=by cases P with
  | nil=>simp at h1
  | cons m l=>exact ⟨m,l,rfl⟩
 obtain ⟨c0,c1,c2⟩:=h 0 m rfl;rw [Nat.zero_mul] at c0 c1 c2;rw [Nat.zero_add] at c1 c2;have k1:=fun o=>(World.cell?_alloc_lt w o _ (World.block_lt_of_cell? _ _ c1)).trans c1;have k2:=fun o=>(World.cell?_alloc_lt w o _ (World.block_lt_of_cell? _ _ c2)).trans c2;obtain ⟨n,hn⟩:∃ n,(m :: l).length=n:=⟨_,rfl⟩;rw [hn] at h1 h2 ⊢;have hne:((n:Int)==0)=false:=by
  have:(n:Int)≠0:=by omega
  simpa using this
 clear hn h
 go_enter Tryz.func96,Tryz.ntmps96
 go_wp2
 exact bodyPost_ret (v := .agg #[.int .i64 m.at_.line,.int .i64 m.at_.col]) (by simp [results,Tryz.results96,go_sem]) rfl ⟨rfl,(Below.refl _ w).alloc (Nat.le_refl _) _⟩
def OrdP (w:World)(N:Nat)(l:List (Nat × Nat))(e:Ending)(w':World):Prop :=
 Below w.heap.size w w'/\((¬ Od.Good N l/\∃ t v,e = .returned (.tuple #[.pointer none,.iface t v])) \/
  (Od.Good N l/\∃ o ba bu f u,e = .returned (.tuple #[.pointer (some ⟨o,0,none⟩),.nilIface])/\Od.OrdAt w' o N ba bu f u/\Od.Built N (Od.pf l) (Od.qf l) l.length f u))
theorem orderOf_any (w:World)(q b1 c1 b2 c2:Nat)(ao:Option Addr)(c3:Nat)(g:Py.St)(P:List Py.Nm)(b cap:Nat)(h:PolAt w q b1 c1 b2 c2 ao c3 g)(hP:NamesAt w b P)(hP1:1<=P.length)(hP2:P.length<=32)
  (hk:∀ p∈g.ord,(Py.ix (Py.tx P) p.1.text=none↔Py.ix (Py.tx P) p.2.text=none)):
  Calls Tryz.prog 46 #[.pointer (some ⟨q,0,none⟩),.slice (some ⟨b,0,none⟩) P.length cap] w (OrdP w P.length (Py.prs (Py.tx P) (Py.txx g.ord))):=by
 have g3:=h.g3;have f3:=h.f3;have H:=Lib.hid h;have HP:=Lib.hid hP;have HK:=Lib.hid hk;clear h hP hk
 go_enter Tryz.func46,Tryz.ntmps46
 go_wp2_with fail
 go_loopw [18,6] (fun i v wr=>∃ k:Nat,k<=g.ord.length/\i = .int .i64 (k:Int)/\wr.ownsRow w.heap.size 197 2 v (Py.prs (Py.tx P) (Py.txx (g.ord.take k))).length (cells2 (Py.prs (Py.tx P) (Py.txx (g.ord.take k))))/\Below w.heap.size w wr) (fun i _ _=>g.ord.length-(intOf i).toNat)
 case atStart=>exact ⟨0,Nat.zero_le _,rfl,World.ownsRow_nil _ _ _ _,Below.refl _ _⟩
 case round =>
  obtain ⟨k,hk,rfl,hown,hbel⟩:=hrel
  by_cases hlt:k<g.ord.length
  ·obtain ⟨m,hm⟩:∃ m,g.ord[k]? = some m:=⟨_,List.getElem?_eq_getElem hlt⟩;obtain ⟨b3,rfl,y0,y1,y2,y3,y4,y5⟩:=(H.out.n3.below hbel) k m hm;have hkm:=HK.out m (List.mem_of_getElem? hm);obtain ⟨V,hV⟩:∃ V,wr.alloc (.cells #[.string ⟨m.1.text.toArray⟩,.int .i64 m.1.at_.line,.int .i64 m.1.at_.col,.string ⟨m.2.text.toArray⟩,.int .i64 m.2.at_.line,.int .i64 m.2.at_.col] 195)=V:=⟨_,rfl⟩;have hbV:Below wr.heap.size wr V:=by rw [<- hV];exact (Below.refl _ wr).alloc (Nat.le_refl _) _
   have z0:V.cell? ⟨wr.heap.size,0,none⟩=some (.string ⟨m.1.text.toArray⟩):=by rw [<- hV];simp [go_sem]
   have z3:V.cell? ⟨wr.heap.size,3,none⟩=some (.string ⟨m.2.text.toArray⟩):=by rw [<- hV];simp [go_sem]
   have hS0:V.drew.cell? ⟨wr.heap.size,0,none⟩=some (.string ⟨m.1.text.toArray⟩)/\V.drew.cell? ⟨wr.heap.size,3,none⟩=some (.string ⟨m.2.text.toArray⟩)/\Below V.heap.size V V.drew:=⟨cell_below z0 (Below.refl _ V).drew,cell_below z3 (Below.refl _ V).drew,(Below.refl _ V).drew⟩;have hPV:=HP.out.below (hbel.trans (hbV.mono hbel.size));have hK:∀ (t:B) (W:World),(W.cell? ⟨wr.heap.size,0,none⟩=some (.string ⟨m.1.text.toArray⟩)/\W.cell? ⟨wr.heap.size,3,none⟩=some (.string ⟨m.2.text.toArray⟩)/\Below V.heap.size V W) ->
     Calls Tryz.prog 31 #[.slice (some ⟨b,0,none⟩) P.length cap,.string ⟨t.toArray⟩] W fun e w''=>e = .returned (.int .i64 (Py.num (Py.ix (Py.tx P) t)))/\(w''.cell? ⟨wr.heap.size,0,none⟩=some (.string ⟨m.1.text.toArray⟩)/\w''.cell? ⟨wr.heap.size,3,none⟩=some (.string ⟨m.2.text.toArray⟩)/\Below V.heap.size V w''):=fun t W hS =>
    (point_num W P t b cap (hPV.below hS.2.2) (by omega)).mono fun e w'' ⟨he,hb⟩=>⟨he,cell_below hS.1 hb,cell_below hS.2.1 hb,hS.2.2.trans (hb.mono hS.2.2.size)⟩
   have hms:g.ord.length-(intOf (Value.int IntKind.i64 ((k:Int)+1))).toNat<g.ord.length-(intOf (Value.int IntKind.i64 (k:Int))).toNat:=by simp [intOf];omega
   have HMS:=Lib.hid hms;have HV:=Lib.hid hV;have HBV:=Lib.hid hbV;have HS0:=Lib.hid hS0;have HC:=Lib.hid hK;have HOWN:=Lib.hid hown;have HBEL:=Lib.hid hbel;have HM:=Lib.hid hm;have HKM:=Lib.hid hkm;clear hms hV hbV hS0 hK hown hbel hm hPV hkm
   go_upto_region 5 with fail
   rw [HV.out]
   go_region_held2 (fun W=>W.cell? ⟨wr.heap.size,0,none⟩=some (.string ⟨m.1.text.toArray⟩)/\W.cell? ⟨wr.heap.size,3,none⟩=some (.string ⟨m.2.text.toArray⟩)/\Below V.heap.size V W) (first | assumption | exact HS0.out) (first | (go_at_call 31;(with_reducible refine (HC.out m.1.text _ (by assumption)).mono ?_);rintro e w'' ⟨rfl,hS'⟩) | (go_at_call 31;(with_reducible refine (HC.out m.2.text _ (by assumption)).mono ?_);rintro e w'' ⟨rfl,hS''⟩))
   obtain ⟨ps,hps⟩:∃ ps,Py.prs (Py.tx P) (Py.txx (g.ord.take k))=ps:=⟨_,rfl⟩;have hpl:ps.length<=1000:=by have:=Py.prs_len (Py.tx P) (Py.txx (g.ord.take k));rw [hps] at this;simp [Py.txx] at this;omega
   have hnx:Py.prs (Py.tx P) (Py.txx (g.ord.take (k+1)))=ps++Py.prs (Py.tx P) [(m.1.text,m.2.text)]:=by
    have e:Py.txx (g.ord.take (k+1))=Py.txx (g.ord.take k)++[(m.1.text,m.2.text)]:=by
     rw [List.take_add_one,HM.out];simp [Py.txx]
    rw [e,Py.prs_append,hps]
   have hown:=HOWN.out;rw [hps] at hown;have hbel:=HBEL.out;have hb2:Below wr.heap.size wr w'':=HBV.out.trans (hS''.2.2.mono HBV.out.size);have hown2:=own_below hown hb2;have hbel2:=hbel.trans (hb2.mono hbel.size);have hs2:=hbel2.size;have HNX:=Lib.hid hnx;have HO2:=Lib.hid hown2;have HB2:=Lib.hid hbel2;clear hnx hown2 hbel2 hb2 hbel hown hps hS' hS'' HOWN HBEL HM HC HS0 HV HBV
   cases ha:Py.ix (Py.tx P) m.1.text with
   | none =>
    have hc:=HKM.out.1 ha;rw [hc];have e0:Py.prs (Py.tx P) [(m.1.text,m.2.text)]=[]:=by rw [Py.prs,ha];rfl
    have HE:=Lib.hid e0;clear ha hc e0 HKM;unfold Py.num
    go_wp2
    refine ⟨⟨k+1,by omega,by go_num, ?_,HB2.out⟩,HMS.out⟩;rw [HNX.out,HE.out,List.append_nil];exact HO2.out
   | some a =>
    obtain ⟨c,hc⟩:∃ c,Py.ix (Py.tx P) m.2.text=some c:=by
     cases hc:Py.ix (Py.tx P) m.2.text with
     | none=>rw [HKM.out.2 hc] at ha;cases ha
     | some c=>exact ⟨c,rfl⟩
    rw [hc];have e0:Py.prs (Py.tx P) [(m.1.text,m.2.text)]=[(a,c)]:=by rw [Py.prs,ha,hc];rfl
    have HE:=Lib.hid e0;clear ha hc e0 HKM;unfold Py.num;have HI0:=info_parts Tryz.info197;obtain ⟨i0,hi,hz0,hz1,hz2⟩:=HI0;have HI:=Lib.hid hi;have HZ:=Lib.hid hz0;have HZ1:=Lib.hid hz1;have HZ2:=Lib.hid hz2;clear hi hz0 hz1 hz2
    go_wp2_with (at_builtin;refine wpList_append_own _ rfl (.tmp 39) (.tmp 43) 196 rfl w.heap.size 197 i0 _ 2 16 Tryz.underlying196 HI.out HZ.out HZ1.out HZ2.out rfl (by decide) _ ps.length (cells2 ps) rfl (HO2.out.alloc _) ⟨w''.heap.size,0,none⟩ 1 1 [.int .i64 (a:Int),.int .i64 (c:Int)] rfl rfl (World.news_of_block (cs:=#[.int .i64 (a:Int),.int .i64 (c:Int)]) (t:=197) (fr:=(0,0)) (heap_alloc_new w'' _)) (fun x hx=>by simp at hx;rcases hx with rfl | rfl <;> rfl) (by unfold maxLen;omega) (by omega) (by simp;omega) ?_;intro v5 w5 hown5 hgrow5 hnil5)
    refine ⟨⟨k+1,by omega,by go_num, ?_, ?_⟩,HMS.out⟩
    ·rw [HNX.out,HE.out,List.length_append,cells2_snoc];exact hown5
    ·exact (HB2.out.alloc HB2.out.size _).trans (Below.of_grown hgrow5 (by simp;omega) (fun j hj=>(own_tag HO2.out hj).1))
  ·obtain rfl:k=g.ord.length:=by omega
   rw [List.take_length] at hown;obtain ⟨ps,hps⟩:∃ ps,Py.prs (Py.tx P) (Py.txx g.ord)=ps:=⟨_,rfl⟩;have hpl:ps.length<=1000:=by have:=Py.prs_len (Py.tx P) (Py.txx g.ord);rw [hps] at this;simp [Py.txx] at this;omega
   rw [hps] at hown;obtain ⟨ka,kc,rfl⟩:=own_form hown;have hN:=Od.new_good wr P.length ka kc ps hP1 hP2 hpl (pairs_of_own hown);have hbel1:=hbel;have hPr:=HP.out.below hbel;have hF:=fun W (hb:Below wr.heap.size wr W)=>first_any W P b cap (hPr.below hb) hP1 (by omega);have HN:=Lib.hid hN;have HB:=Lib.hid hbel;have HF:=Lib.hid hF;have HPS:=Lib.hid hps;clear hN hbel hown hps hk hlt hbel1 hPr hF
   go_wp2_with fail
   refine HN.out.mono ?_;rintro e w1 ⟨hb1,⟨hn,c,hc,rfl⟩ | ⟨hg,o,ba,bu,f,u,rfl,ho,hbu⟩⟩
   ·have hc':(c != 0)=true:=by simpa using hc
    have HF1:=Lib.hid (HF.out w1 hb1);have HB1:=Lib.hid (HB.out.trans (hb1.mono HB.out.size));have HG:=Lib.hid hn;clear hb1 hn hc HF HN HB
    go_wp2_with fail
    refine HF1.out.mono ?_;rintro e w2 ⟨rfl,hb2⟩;have HB2:=Lib.hid (HB1.out.trans (hb2.mono HB1.out.size));clear hb2
    go_wp2
    go_ret2
    unfold OrdP;rw [HPS.out];exact ⟨HB2.out,.inl ⟨HG.out,_,_,rfl⟩⟩
   ·have HB1:=Lib.hid (HB.out.trans (hb1.mono HB.out.size));have HG:=Lib.hid hg;have HO:=Lib.hid ho;have HBU:=Lib.hid hbu;clear hb1 hg ho hbu HF HN HB
    go_wp2
    go_ret2
    unfold OrdP;rw [HPS.out];exact ⟨HB1.out,.inr ⟨HG.out,o,ba,bu,f,u,rfl,HO.out,HBU.out⟩⟩
end Go.Proofs.YtdfpkmfeldoamaaGreatDoor.Yo
namespace Go.Proofs.YtdfpkmfeldoamaaGreatDoor.Yo
open Go.RowKit Tn Lx
theorem ord_sets {w:World}{o n ba bu r:Nat}{f u:Nat->Nat}{x y:Value}(h:Od.OrdAt w o n ba bu f u)(hn:1<=n)(hr:w.cell? ⟨r,0,none⟩=some (.pointer none)):Od.OrdAt ((w.setCell ⟨r,0,none⟩ x).setCell ⟨r,1,none⟩ y) o n ba bu f u:=by
 have k:∀ {b i:Nat} {v:Value},b≠r->w.cell? ⟨b,i,none⟩=some v->((w.setCell ⟨r,0,none⟩ x).setCell ⟨r,1,none⟩ y).cell? ⟨b,i,none⟩=some v:=fun {b i v} hb e=>by
  rw [World.cell?_setCell_other _ _ _ _ (by intro hh;injection hh with h1 _;exact hb h1.symm),World.cell?_setCell_other _ _ _ _ (by intro hh;injection hh with h1 _;exact hb h1.symm)];exact e
 have h1:o≠r:=fun e=>by have:=h.c0;rw [e,hr] at this;cases this
 have h2:ba≠r:=fun e=>by have:=h.ra 0 hn;rw [e,hr] at this;cases this
 have h3:bu≠r:=fun e=>by have:=h.ru 0 hn;rw [e,hr] at this;cases this
 exact ⟨h.n32,k h1 h.c0,k h1 h.c1,fun i hi=>k h2 (h.ra i hi),fun i hi=>k h3 (h.ru i hi),h.fl,h.ul⟩
def LatP (w:World)(n1 n2:Nat)(l1 l2:List (Nat × Nat))(a:Nat)(e:Ending)(w':World):Prop :=
 Below w.heap.size w w'/\((¬ (Od.Good n1 l1/\Od.Good n2 l2)/\∃ t v,e = .returned (.tuple #[.agg #[.pointer none,.pointer none],.int .i64 0,.iface t v])) \/
  (Od.Good n1 l1/\Od.Good n2 l2/\∃ o1 a1 u1 f1 g1 o2 a2 u2 f2 g2,e = .returned (.tuple #[.agg #[.pointer (some ⟨o1,0,none⟩),.pointer (some ⟨o2,0,none⟩)],.int .i64 (a:Int),.nilIface])/\Od.OrdAt w' o1 n1 a1 u1 f1 g1/\Od.OrdAt w' o2 n2 a2 u2 f2 g2/\Od.Built n1 (Od.pf l1) (Od.qf l1) l1.length f1 g1/\Od.Built n2 (Od.pf l2) (Od.qf l2) l2.length f2 g2))
theorem lattice_any (w:World)(q b1 c1 b2 c2:Nat)(ao:Option Addr)(c3:Nat)(g:Py.St)(a:Nat)(h:PolAt w q b1 c1 b2 c2 ao c3 g)(hnd:(Py.tx g.conf++Py.tx g.integ).Nodup)(hin:∀ p∈g.ord,p.1.text∈Py.tx g.conf++Py.tx g.integ/\p.2.text∈Py.tx g.conf++Py.tx g.integ)
  (h11:1<=g.conf.length) (h12:g.conf.length<=32) (h21:1<=g.integ.length) (h22:g.integ.length<=32) (hk1:∀ p∈g.ord,(Py.ix (Py.tx g.conf) p.1.text=none↔Py.ix (Py.tx g.conf) p.2.text=none)) (hk2:∀ p∈g.ord,(Py.ix (Py.tx g.integ) p.1.text=none↔Py.ix (Py.tx g.integ) p.2.text=none)) (ha:Py.ix (Py.tx g.integ) g.att.text=some a):
  Calls Tryz.prog 20 #[.pointer (some ⟨q,0,none⟩)] w (LatP w g.conf.length g.integ.length (Py.prs (Py.tx g.conf) (Py.txx g.ord)) (Py.prs (Py.tx g.integ) (Py.txx g.ord)) a):=by
 obtain ⟨V,hV⟩:∃ V,w.alloc (.cells #[.pointer none,.pointer none] 90)=V:=⟨_,rfl⟩;have hbV:Below w.heap.size w V:=by rw [<- hV];exact (Below.refl _ w).alloc (Nat.le_refl _) _
 have hrV:V.heap[w.heap.size]? = some (.cells #[.pointer none,.pointer none] 90 (0,0)):=by rw [<- hV];exact blk_new w _
 have hhV:=h.below hbV;have hC:=checks_any V q b1 c1 b2 c2 ao c3 g hhV hnd hin;have hO1:=fun W (hW:PolAt W q b1 c1 b2 c2 ao c3 g)=>orderOf_any W q b1 c1 b2 c2 ao c3 g g.conf b1 c1 hW hW.n1 h11 h12 hk1;have hO2:=fun W (hW:PolAt W q b1 c1 b2 c2 ao c3 g)=>orderOf_any W q b1 c1 b2 c2 ao c3 g g.integ b2 c2 hW hW.n2 h21 h22 hk2;have hA:=fun W (hW:PolAt W q b1 c1 b2 c2 ao c3 g)=>point_num W g.integ g.att.text b2 c2 hW.n2 (by omega);rw [ha] at hA;generalize Py.prs (Py.tx g.conf) (Py.txx g.ord)=l1 at *;generalize Py.prs (Py.tx g.integ) (Py.txx g.ord)=l2 at *;have HC:=Lib.hid hC;have HO1:=Lib.hid hO1;have HO2:=Lib.hid hO2;have HA:=Lib.hid hA;have H:=Lib.hid hhV;have HV:=Lib.hid hV;have HBV:=Lib.hid hbV;have HRV:=Lib.hid hrV;clear hC hO1 hO2 hA h hhV hnd hin hk1 hk2 ha hV hbV hrV
 go_enter Tryz.func20,Tryz.ntmps20
 go_wp2_with fail
 rw [HV.out];refine HC.out.mono ?_;rintro e w1 ⟨rfl,hb1⟩;have hP1:=H.out.below hb1;have g1:=hP1.g1;have HP1:=Lib.hid hP1;have HB1:=Lib.hid (HBV.out.trans (hb1.mono HBV.out.size));have HR1:=Lib.hid ((hb1.block _ (lt_of_heap HRV.out)).trans HRV.out);clear hP1 hb1 HC H HV HBV HRV
 go_wp2_with fail
 refine (HO1.out _ HP1.out).mono ?_;rintro e w2 ⟨hb2,⟨hn,t,v,rfl⟩ | ⟨hg1,o1,a1,u1,f1,s1,rfl,ho1,hbu1⟩⟩
 ·have hr2:=(hb2.block _ (lt_of_heap HR1.out)).trans HR1.out;have x0:w2.cell? ⟨w.heap.size,0,none⟩=some (.pointer none):=(blk_cell hr2 0).trans rfl;have x1:w2.cell? ⟨w.heap.size,1,none⟩=some (.pointer none):=(blk_cell hr2 1).trans rfl;have xf:∀ i,w2.frozen? ⟨w.heap.size,i,none⟩=false:=fun i=>blk_frozen hr2 i;have HB2:=Lib.hid (HB1.out.trans (hb2.mono HB1.out.size));have HN:=Lib.hid hn;have HR2:=Lib.hid hr2;clear hb2 hn g1 hr2
  go_wp2
  have hr3:=blk_set (blk_set HR2.out 0 (.pointer none)) 1 (.pointer none);have r0:=(blk_cell hr3 0).trans rfl;have r1:=(blk_cell hr3 1).trans rfl;refine bodyPost_ret (v := .tuple #[.agg #[.pointer none,.pointer none],.int .i64 0,.iface t v]) (by simp [results,Tryz.results20,go_sem,r0,r1]) rfl ⟨?_,.inl ⟨fun e=>HN.out e.1,t,v,rfl⟩⟩;exact (HB2.out.setCell (Nat.le_refl _) _).setCell (Nat.le_refl _) _
 have hP2:=HP1.out.below hb2;have g2:=hP2.g2;have HP2:=Lib.hid hP2;have HB2:=Lib.hid (HB1.out.trans (hb2.mono HB1.out.size));have HO:=Lib.hid ho1;have HBU1:=Lib.hid hbu1;have HG1:=Lib.hid hg1;have HR2:=Lib.hid ((hb2.block _ (lt_of_heap HR1.out)).trans HR1.out);clear hP2 hb2 ho1 hbu1 hg1 g1 HR1 HB1
 go_wp2_with fail
 refine (HO2.out _ HP2.out).mono ?_;rintro e w3 ⟨hb3,⟨hn,t,v,rfl⟩ | ⟨hg2,o2,a2,u2,f2,s2,rfl,ho2,hbu2⟩⟩
 ·have hr2:=(hb3.block _ (lt_of_heap HR2.out)).trans HR2.out;have x0:w3.cell? ⟨w.heap.size,0,none⟩=some (.pointer none):=(blk_cell hr2 0).trans rfl;have x1:w3.cell? ⟨w.heap.size,1,none⟩=some (.pointer none):=(blk_cell hr2 1).trans rfl;have xf:∀ i,w3.frozen? ⟨w.heap.size,i,none⟩=false:=fun i=>blk_frozen hr2 i;have HB3:=Lib.hid (HB2.out.trans (hb3.mono HB2.out.size));have HN:=Lib.hid hn;have HR3:=Lib.hid hr2;clear hb3 hn g2 hr2
  go_wp2
  have hr3:=blk_set (blk_set HR3.out 0 (.pointer none)) 1 (.pointer none);have r0:=(blk_cell hr3 0).trans rfl;have r1:=(blk_cell hr3 1).trans rfl;refine bodyPost_ret (v := .tuple #[.agg #[.pointer none,.pointer none],.int .i64 0,.iface t v]) (by simp [results,Tryz.results20,go_sem,r0,r1]) rfl ⟨?_,.inl ⟨fun e=>HN.out e.2,t,v,rfl⟩⟩;exact (HB3.out.setCell (Nat.le_refl _) _).setCell (Nat.le_refl _) _
 have hP3:=HP2.out.below hb3;have g2':=hP3.g2;have g4:=hP3.g4;have HP3:=Lib.hid hP3;have HB3:=Lib.hid (HB2.out.trans (hb3.mono HB2.out.size));have HOO:=Lib.hid (HO.out.below h11 hb3);have HO3:=Lib.hid ho2;have HBU2:=Lib.hid hbu2;have HG2:=Lib.hid hg2;have HR3:=Lib.hid ((hb3.block _ (lt_of_heap HR2.out)).trans HR2.out);clear hP3 hb3 ho2 hbu2 hg2 g2 HO HR2 HB2
 go_wp2_with fail
 go_still_tail 9,(by kernel_rfl)
 change wpList _ _ _ _ _ w3.drew
 have hP4:=HP3.out.below (Below.refl _ w3).drew;have HP4:=Lib.hid hP4;clear hP4
 go_wp2_with fail
 refine (HA.out _ HP4.out).mono ?_;rintro e w4 ⟨rfl,hb4'⟩;have hb4:Below w3.heap.size w3 w4:=(Below.refl _ w3).drew.trans hb4';clear hb4';unfold Py.num;have hr2:=(hb4.block _ (lt_of_heap HR3.out)).trans HR3.out;have x0:w4.cell? ⟨w.heap.size,0,none⟩=some (.pointer none):=(blk_cell hr2 0).trans rfl;have x1:w4.cell? ⟨w.heap.size,1,none⟩=some (.pointer none):=(blk_cell hr2 1).trans rfl;have xf:∀ i,w4.frozen? ⟨w.heap.size,i,none⟩=false:=fun i=>blk_frozen hr2 i;have HB4:=Lib.hid (HB3.out.trans (hb4.mono HB3.out.size));have HO4:=Lib.hid (HOO.out.below h11 hb4);have HO5:=Lib.hid (HO3.out.below h21 hb4);have HR4:=Lib.hid hr2;clear hb4 HOO HO3 HR3 HB3 hr2
 go_wp2
 have hr3:=blk_set (blk_set HR4.out 0 (.pointer (some ⟨o1,0,none⟩))) 1 (.pointer (some ⟨o2,0,none⟩));have r0:=(blk_cell hr3 0).trans rfl;have r1:=(blk_cell hr3 1).trans rfl;refine bodyPost_ret (v := .tuple #[.agg #[.pointer (some ⟨o1,0,none⟩),.pointer (some ⟨o2,0,none⟩)],.int .i64 (a:Int),.nilIface]) (by simp [results,Tryz.results20,go_sem,r0,r1]) rfl ⟨?_,.inr ⟨HG1.out,HG2.out,o1,a1,u1,f1,s1,o2,a2,u2,f2,s2,rfl, ?_, ?_,HBU1.out,HBU2.out⟩⟩
 ·exact (HB4.out.setCell (Nat.le_refl _) _).setCell (Nat.le_refl _) _
 ·exact ord_sets HO4.out h11 x0
 ·exact ord_sets HO5.out h21 x0
end Go.Proofs.YtdfpkmfeldoamaaGreatDoor.Yo
