/- A part of the proof: A part of the proof. -/
import Derived.Test.YtdfpkmfeldoamaaGreatDoorOComp
import Derived.Test.YtdfpkmfeldoamaaGreatDoorOLat
import Derived.Test.YtdfpkmfeldoamaaGreatDoorMem6
set_option linter.unusedSimpArgs false
set_option linter.unusedVariables false
set_option maxRecDepth 100000
set_option maxHeartbeats 8000000
namespace Go.Proofs.YtdfpkmfeldoamaaGreatDoor.Yo
open Go.RowKit Lx
def NamesAt (w:World)(b:Nat)(l:List Py.Nm):Prop:=∀ (i:Nat) (n:Py.Nm),l[i]? = some n->w.cell? ⟨b,i*3,none⟩=some (.string ⟨n.text.toArray⟩)/\w.cell? ⟨b,i*3+1,none⟩=some (.int .i64 n.at_.line)/\w.cell? ⟨b,i*3+2,none⟩=some (.int .i64 n.at_.col)
def PointP (l:List Py.Nm)(t:B)(w:World)(e:Ending)(w':World):Prop :=
 ((∃ (k:Nat) (n:Py.Nm),e = .returned (.int .i64 (k:Int))/\l[k]? = some n/\n.text=t/\∀ (j:Nat) (m:Py.Nm),j<k->l[j]? = some m->m.text≠t)\/(e = .returned (.int .i64 (-1))/\∀ (j:Nat) (m:Py.Nm),l[j]? = some m->m.text≠t))/\Below w.heap.size w w'
theorem NamesAt.below {w w':World}{b:Nat}{l:List Py.Nm}(h:NamesAt w b l)(hb:Below w.heap.size w w'):NamesAt w' b l:=fun i n hi=>by
 obtain ⟨h0,h1,h2⟩:=h i n hi;have hlt:b<w.heap.size:=World.block_lt_of_cell? _ _ h0;exact ⟨(hb.cell (p:=⟨b,i*3,none⟩) hlt).trans h0,(hb.cell (p:=⟨b,i*3+1,none⟩) hlt).trans h1,(hb.cell (p:=⟨b,i*3+2,none⟩) hlt).trans h2⟩
theorem point1_any (w:World)(n:Py.Nm)(t:B)(bs:Nat)(hc:w.cell? ⟨bs,0,none⟩=some (.string ⟨t.toArray⟩)):Calls Tryz.prog 66 #[.agg #[.string ⟨n.text.toArray⟩,.int .i64 n.at_.line,.int .i64 n.at_.col],.pointer (some ⟨bs,0,none⟩)] w fun e w'=>e = .returned (.bool (n.text==t))/\Below w.heap.size w w':=by
 have hlt:bs<w.heap.size:=World.block_lt_of_cell? _ _ hc;have hcA:∀ o,(w.alloc o).cell? ⟨bs,0,none⟩=some (.string ⟨t.toArray⟩):=fun o=>(World.cell?_alloc_lt _ _ _ hlt).trans hc
 go_enter Tryz.func66,Tryz.ntmps66
 go_wp2
 go_ret
 exact ⟨rfl,(Below.refl _ w).alloc (Nat.le_refl _) _⟩
theorem indexN_any (w:World)(l:List Py.Nm)(t:B)(b cap bs:Nat)(h:NamesAt w b l)(hl:l.length<=1000)(hc:w.cell? ⟨bs,0,none⟩=some (.string ⟨t.toArray⟩)):
  Calls Tryz.prog 65 #[.slice (some ⟨b,0,none⟩) l.length cap,.func (.func 66) #[] #[.pointer (some ⟨bs,0,none⟩)]] w (PointP l t w):=by
 obtain ⟨n,hn⟩:∃ n,l.length=n:=⟨_,rfl⟩;rw [hn];rw [hn] at hl;have HC:=Lib.hid hc;have H:=Lib.hid h;have HN:=Lib.hid hn;clear hc h hn
 go_enter Tryz.func65,Tryz.ntmps65
 go_wp2
 go_loopw [8] (fun i wr=>∃ k:Nat,k<=n/\i = .int .i64 (k:Int)/\(∀ (j:Nat) (m:Py.Nm),j<k->l[j]? = some m->m.text≠t)/\Below w.heap.size w wr) (fun i _=>n-(intOf i).toNat)
 case atStart=>exact ⟨0,Nat.zero_le _,rfl,fun j m hj=>by omega,Below.refl _ _⟩
 case round =>
  obtain ⟨k,hk,rfl,hno,hb⟩:=hrel
  by_cases hlt:k<n
  ·obtain ⟨m,hm⟩:∃ m,l[k]? = some m:=⟨_,List.getElem?_eq_getElem (by rw [HN.out];exact hlt)⟩;obtain ⟨c0,c1,c2⟩:=(H.out.below hb) k m hm;have hc':=HC.out;have hlt':bs<w.heap.size:=World.block_lt_of_cell? _ _ hc';have hP:=point1_any wr m t bs ((hb.cell (p:=⟨bs,0,none⟩) hlt').trans hc');have hms:n-(intOf (Value.int IntKind.i64 ((k:Int)+1))).toNat<n-(intOf (Value.int IntKind.i64 (k:Int))).toNat:=by simp [intOf];omega
   have HMS:=Lib.hid hms;have HM:=Lib.hid hm;have HNO:=Lib.hid hno;have HB:=Lib.hid hb;clear hm hno hb HC H hms hc' hlt'
   cases hv:(m.text==t) with
   | true =>
    rw [hv] at hP;have HV:=Lib.hid hv;have HI:=Lib.hid hP;clear hv hP
    go_wp2_with fail
    refine HI.out.mono ?_;rintro e w1 ⟨rfl,hb1⟩
    go_wp2
    go_ret
    exact ⟨.inl ⟨k,m,rfl,HM.out,by simpa using HV.out,HNO.out⟩,HB.out.trans (hb1.mono HB.out.size)⟩
   | false =>
    rw [hv] at hP;have HV:=Lib.hid hv;have HI:=Lib.hid hP;clear hv hP
    go_wp2_with fail
    refine HI.out.mono ?_;rintro e w1 ⟨rfl,hb1⟩
    go_wp2
    refine ⟨⟨k+1,by omega,by go_num,fun j m' hj hm'=>?_,HB.out.trans (hb1.mono HB.out.size)⟩,HMS.out⟩
    by_cases e:j=k
    ·subst e;rw [HM.out] at hm';cases hm';simpa using HV.out
    ·exact HNO.out j m' (by omega) hm'
  ·have HNO:=Lib.hid hno;have HB:=Lib.hid hb;clear hno hb;obtain rfl:k=n:=by omega
   go_wp2
   go_ret
   refine ⟨.inr ⟨rfl,fun j m hj=>HNO.out j m ?_ hj⟩,HB.out⟩;have:=List.getElem?_eq_some_iff.1 hj;obtain ⟨h1,_⟩:=this;rw [HN.out] at h1;exact h1
theorem point_any (w:World)(l:List Py.Nm)(t:B)(b cap:Nat)(h:NamesAt w b l)(hl:l.length<=1000):
  Calls Tryz.prog 31 #[.slice (some ⟨b,0,none⟩) l.length cap,.string ⟨t.toArray⟩] w (PointP l t w):=by
 have hbV:∀ o,Below w.heap.size w (w.alloc o):=fun o=>(Below.refl _ w).alloc (Nat.le_refl _) _;have hA:=indexN_any (w.alloc (.cells #[.string ⟨t.toArray⟩] 9)) l t b cap w.heap.size (h.below (hbV _)) hl (by simp [go_sem]);have HA:=Lib.hid hA;have HB:=Lib.hid (hbV (.cells #[.string ⟨t.toArray⟩] 9));clear hA hbV h
 go_enter Tryz.func31,Tryz.ntmps31
 go_wp2_with fail
 refine HA.out.mono ?_;rintro e w1 ⟨(⟨k,n,rfl,h1,h2,h3⟩ | ⟨rfl,h1⟩),hb⟩
 ·have HB1:=Lib.hid (HB.out.trans (hb.mono HB.out.size));have H1:=Lib.hid h1;have H3:=Lib.hid h3;clear hb h1 h3
  go_wp2
  go_ret
  exact ⟨.inl ⟨k,n,rfl,H1.out,h2,H3.out⟩,HB1.out⟩
 ·have HB1:=Lib.hid (HB.out.trans (hb.mono HB.out.size));have H1:=Lib.hid h1;clear hb h1
  go_wp2
  go_ret
  exact ⟨.inr ⟨rfl,H1.out⟩,HB1.out⟩
end Go.Proofs.YtdfpkmfeldoamaaGreatDoor.Yo
namespace Go.Proofs.YtdfpkmfeldoamaaGreatDoor.Yo
open Go.RowKit Lx
theorem obj_get {r:Nat}{es:Array MapEntry}{cl:Nat}{W:World}(h:W.heap[r]? = some (.map es cl)):(getObj r).run Tryz.prog W = .ok (.map es cl) W:=by simp [getObj,Sem.run,h]
theorem obj_set {r:Nat}{es:Array MapEntry}{cl:Nat}{W:World}(o:Obj)(h:W.heap[r]? = some (.map es cl)):(setObj r o).run Tryz.prog W = .ok () { W with heap:=W.heap.setIfInBounds r o } := by simp [setObj,Sem.run,h]
theorem key_check (e:Bool)(k:ByteArray)(W:World):(Instr.checkKey e 10000 9 (.string k)).run Tryz.prog W = .ok () W:=by
 rw [show (10000:Nat)=9999+1 from rfl,Instr.checkKey];simp [Sem.run_bind,run_underlying Tryz.underlying9,Result.andThen]
theorem key_find (k:ByteArray)(es:List MapEntry)(r:Option (Nat × Value))(W:World)(h:Instr.findNow .string (.string k) es 0=some r):(Instr.findKey 9 (.string k) es).run Tryz.prog W = .ok r W:=by
 rw [Instr.findKey];simp [Sem.run_bind,run_underlying Tryz.underlying9,Result.andThen,h]
def ents (u:Value):Nat->List B->List MapEntry
 | _,[]=>[]
 | i,t :: l=>⟨.string ⟨t.toArray⟩,u,i⟩ :: ents u (i+1) l
theorem ents_snoc (u:Value)(t:B):∀ (i:Nat) (l:List B),ents u i (l++[t])=ents u i l++[⟨.string ⟨t.toArray⟩,u,i+l.length⟩]
 | i,[]=>rfl
 | i,a :: l=>by
  show ⟨_,_,_⟩ :: ents u (i+1) (l++[t])=_
  rw [ents_snoc u t (i+1) l,List.length_cons,show i+1+l.length=i+(l.length+1) by omega];rfl
theorem same_str (a b:B):Instr.sameNow .string (.string ⟨a.toArray⟩) (.string ⟨b.toArray⟩)=some (a==b):=by
 show some (a.toArray==b.toArray)=_
 rw [List.beq_toArray]
theorem find_no (u:Value)(t:B):∀ (l:List B) (i j:Nat),t ∉ l->Instr.findNow .string (.string ⟨t.toArray⟩) (ents u i l) j=some none
 | [],_,_,_=>rfl
 | a :: l,i,j,h=>by
  have h1:(t==a)=false:=beq_false_of_ne (fun e=>h (by simp [e]));rw [ents,Instr.findNow,same_str,h1];exact find_no u t l (i+1) (j+1) (fun e=>h (by simp [e]))
theorem find_yes (u:Value)(t:B):∀ (l:List B) (i j:Nat),t∈l->∃ n,Instr.findNow .string (.string ⟨t.toArray⟩) (ents u i l) j=some (some (n,u))
 | a :: l,i,j,h=>by
  rw [ents,Instr.findNow,same_str]
  cases h1:(t==a) with
  | true=>exact ⟨j,rfl⟩
  | false =>
   have:t≠a:=by simpa using h1
   exact find_yes u t l (i+1) (j+1) (by rcases List.mem_cons.1 h with e | e;exact absurd e this;exact e)
abbrev unitV:Value := .agg #[]
theorem known_make (w:World):(Instr.makeMap 191 none).run Tryz.prog w = .ok (.map (some w.heap.size)) (w.alloc (.map #[] 0)):=rfl
theorem known_put {r:Nat}{l:List B}{t:B}{W:World}(hb:W.heap[r]? = some (.map (ents unitV 0 l).toArray l.length))(h:t ∉ l):(Instr.mapUpdate 191 (.map (some r)) (.string ⟨t.toArray⟩) unitV).run Tryz.prog W = .ok () { W with heap:=W.heap.setIfInBounds r (.map (ents unitV 0 (l++[t])).toArray (l++[t]).length) } := by
 rw [Instr.mapUpdate];simp only [Sem.run_bind,run_underlying Tryz.underlying191,Result.andThen,obj_get hb,key_check,key_find _ _ none _ (find_no unitV t l 0 0 h),obj_set _ hb];rw [ents_snoc,List.length_append]
 simp
theorem unit_zero (W:World):(zeroValue 193).run Tryz.prog W = .ok unitV W:=by kernel_rfl
theorem known_no {r:Nat}{l:List B}{t:B}{W:World}(hb:W.heap[r]? = some (.map (ents unitV 0 l).toArray l.length))(h:t ∉ l):(Instr.lookup 191 (.map (some r)) (.string ⟨t.toArray⟩) true).run Tryz.prog W = .ok (.tuple #[unitV,.bool false]) W:=by
 rw [Instr.lookup];simp only [Sem.run_bind,run_underlying Tryz.underlying191,Result.andThen,obj_get hb,key_check,key_find _ _ none _ (find_no unitV t l 0 0 h),Sem.run_pure,if_true,unit_zero]
theorem known_yes {r:Nat}{l:List B}{t:B}{W:World}(hb:W.heap[r]? = some (.map (ents unitV 0 l).toArray l.length))(h:t∈l):(Instr.lookup 191 (.map (some r)) (.string ⟨t.toArray⟩) true).run Tryz.prog W = .ok (.tuple #[unitV,.bool true]) W:=by
 obtain ⟨n,hn⟩:=find_yes unitV t l 0 0 h;rw [Instr.lookup];simp only [Sem.run_bind,run_underlying Tryz.underlying191,Result.andThen,obj_get hb,key_check,key_find _ _ _ _ hn,Sem.run_pure,if_true]
end Go.Proofs.YtdfpkmfeldoamaaGreatDoor.Yo
namespace Go.Proofs.YtdfpkmfeldoamaaGreatDoor.Yo
open Go.RowKit Lx
theorem pair_at0 (a b c d e f:Value)(w:World):(Instr.index 195 (.agg #[a,b,c,d,e,f]) (.int .i64 0)).run Tryz.prog w = .ok (.agg #[a,b,c]) w:=by kernel_rfl
theorem pair_at1 (a b c d e f:Value)(w:World):(Instr.index 195 (.agg #[a,b,c,d,e,f]) (.int .i64 1)).run Tryz.prog w = .ok (.agg #[d,e,f]) w:=by kernel_rfl
attribute [local go_sem] pair_at0 pair_at1
def PairsN (w:World)(ao:Option Addr)(l:List (Py.Nm × Py.Nm)):Prop:=∀ (i:Nat) (p:Py.Nm × Py.Nm),l[i]? = some p->∃ b,ao=some ⟨b,0,none⟩/\w.cell? ⟨b,i*6,none⟩=some (.string ⟨p.1.text.toArray⟩)/\w.cell? ⟨b,i*6+1,none⟩=some (.int .i64 p.1.at_.line)/\w.cell? ⟨b,i*6+2,none⟩=some (.int .i64 p.1.at_.col)/\w.cell? ⟨b,i*6+3,none⟩=some (.string ⟨p.2.text.toArray⟩)/\w.cell? ⟨b,i*6+4,none⟩=some (.int .i64 p.2.at_.line)/\w.cell? ⟨b,i*6+5,none⟩=some (.int .i64 p.2.at_.col)
structure PolAt (w:World)(q b1 c1 b2 c2:Nat)(ao:Option Addr)(c3:Nat)(g:Py.St):Prop where
 g1:w.cell? ⟨q,1,none⟩=some (.slice (some ⟨b1,0,none⟩) g.conf.length c1)
 g2:w.cell? ⟨q,2,none⟩=some (.slice (some ⟨b2,0,none⟩) g.integ.length c2)
 g3:w.cell? ⟨q,3,none⟩=some (.slice ao g.ord.length c3)
 g4:w.cell? ⟨q,4,none⟩=some (.string ⟨g.att.text.toArray⟩)
 g5:w.cell? ⟨q,5,none⟩=some (.int .i64 g.att.at_.line)
 g6:w.cell? ⟨q,6,none⟩=some (.int .i64 g.att.at_.col)
 n1:NamesAt w b1 g.conf
 n2:NamesAt w b2 g.integ
 n3:PairsN w ao g.ord
 f1:g.conf.length<=1000
 f2:g.integ.length<=1000
 f3:g.ord.length<=1000
theorem cell_below {w w':World}{b i:Nat}{v:Value}(h:w.cell? ⟨b,i,none⟩=some v)(hb:Below w.heap.size w w'):w'.cell? ⟨b,i,none⟩=some v :=
 (hb.cell (p:=⟨b,i,none⟩) (World.block_lt_of_cell? _ _ h)).trans h
theorem PairsN.below {w w':World}{ao:Option Addr}{l:List (Py.Nm × Py.Nm)}(h:PairsN w ao l)(hb:Below w.heap.size w w'):PairsN w' ao l:=fun i p hi=>by
 obtain ⟨b,e,h0,h1,h2,h3,h4,h5⟩:=h i p hi;exact ⟨b,e,cell_below h0 hb,cell_below h1 hb,cell_below h2 hb,cell_below h3 hb,cell_below h4 hb,cell_below h5 hb⟩
theorem PolAt.below {w w':World}{q b1 c1 b2 c2:Nat}{ao:Option Addr}{c3:Nat}{g:Py.St}(h:PolAt w q b1 c1 b2 c2 ao c3 g)(hb:Below w.heap.size w w'):PolAt w' q b1 c1 b2 c2 ao c3 g :=
 ⟨cell_below h.g1 hb,cell_below h.g2 hb,cell_below h.g3 hb,cell_below h.g4 hb,cell_below h.g5 hb,cell_below h.g6 hb,h.n1.below hb,h.n2.below hb,h.n3.below hb,h.f1,h.f2,h.f3⟩
structure Knows (w:World)(r:Nat)(v:Value)(l:List B)(wr:World):Prop where
 map:wr.heap[r]? = some (.map (ents unitV 0 l).toArray l.length)
 bel:Below w.heap.size w wr
 two:wr.cell? ⟨r+1,1,none⟩=some v
theorem Knows.put {w wr:World}{r n:Nat}{v:Value}{l l':List B}(h:Knows w r v l wr)(hr:w.heap.size<=r)(hn:l'.length=n):Knows w r v l' { wr with heap:=wr.heap.setIfInBounds r (.map (ents unitV 0 l').toArray n) } := by
 subst hn;have hlt:r<wr.heap.size:=(Array.getElem?_eq_some_iff.1 h.map).1;refine ⟨?_, ?_, ?_⟩
 ·show (wr.heap.setIfInBounds r _)[r]? = _
  simp [hlt]
 ·refine ⟨h.bel.os,h.bel.tape,h.bel.output,by simpa using h.bel.size,fun k hk=>?_⟩
  show (wr.heap.setIfInBounds r _)[k]? = _
  rw [Array.getElem?_setIfInBounds_ne (by omega)];exact h.bel.block k hk
 ·refine (World.cell?_of_block ?_).trans h.two
  show (wr.heap.setIfInBounds r _)[r+1]? = _
  rw [Array.getElem?_setIfInBounds_ne (by omega)]
theorem Knows.later {w wr wr':World}{r:Nat}{v:Value}{l:List B}(h:Knows w r v l wr)(hb:Below wr.heap.size wr wr'):Knows w r v l wr' :=
 ⟨(hb.block _ (Array.getElem?_eq_some_iff.1 h.map).1).trans h.map,h.bel.trans (hb.mono h.bel.size),cell_below h.two hb⟩
theorem Knows.alloc {w wr:World}{r:Nat}{v:Value}{l:List B}(h:Knows w r v l wr)(o:Obj):Knows w r v l (wr.alloc o):=h.later ((Below.refl _ wr).alloc (Nat.le_refl _) o)
theorem take_next {l:List B}{k:Nat}{t:B}(h:l[k]? = some t):l.take (k+1)=l.take k++[t]:=by
 rw [List.take_add_one,h];rfl
theorem not_before {l:List B}(hn:l.Nodup){k:Nat}{t:B}(h:l[k]? = some t):t ∉ l.take k:=fun hm=>by
 obtain ⟨j,hj⟩:=List.mem_iff_getElem?.1 hm;obtain ⟨hj1,hj2⟩:=List.getElem?_eq_some_iff.1 hj;rw [List.length_take] at hj1;rw [List.getElem_take] at hj2;obtain ⟨hk1,hk2⟩:=List.getElem?_eq_some_iff.1 h;exact List.pairwise_iff_getElem.1 hn j k (by omega) hk1 (by omega) (hj2.trans hk2.symm)
theorem checks_any (w:World)(q b1 c1 b2 c2:Nat)(ao:Option Addr)(c3:Nat)(g:Py.St)(h:PolAt w q b1 c1 b2 c2 ao c3 g)(hnd:(Py.tx g.conf++Py.tx g.integ).Nodup)(hin:∀ p∈g.ord,p.1.text∈Py.tx g.conf++Py.tx g.integ/\p.2.text∈Py.tx g.conf++Py.tx g.integ):
  Calls Tryz.prog 45 #[.pointer (some ⟨q,0,none⟩)] w fun e w'=>e = .returned .nilIface/\Below w.heap.size w w':=by
 obtain ⟨L,hL⟩:∃ L,Py.tx g.conf++Py.tx g.integ=L:=⟨_,rfl⟩;have hl1:∀ (k:Nat) (m:Py.Nm),g.conf[k]? = some m->L[k]? = some m.text:=fun k m hm=>by
  rw [<- hL,List.getElem?_append_left (by have:=(List.getElem?_eq_some_iff.1 hm).1;simpa [Py.tx] using this)];simp [Py.tx,hm]
 have hl2:∀ (k:Nat) (m:Py.Nm),g.integ[k]? = some m->L[g.conf.length+k]? = some m.text:=fun k m hm=>by
  rw [<- hL,List.getElem?_append_right (by simp [Py.tx])];simp [Py.tx,hm]
 have HLL:=Lib.hid (show L.take (g.conf.length+g.integ.length)=L from List.take_of_length_le (by rw [<- hL];simp [Py.tx]));rw [hL] at hnd hin;have f1:=h.f1;have f2:=h.f2;have f3:=h.f3;clear hL;have g1:=h.g1;have g2:=h.g2;obtain ⟨W,hW⟩:∃ W,w.alloc (.map #[] 0)=W:=⟨_,rfl⟩;have hbW:Below w.heap.size w W:=by rw [<- hW];exact (Below.refl _ w).alloc (Nat.le_refl _) _
 have hsW:W.heap.size=w.heap.size+1:=by rw [<- hW];simp
 have hmW:W.heap[w.heap.size]? = some (.map #[] 0):=by rw [<- hW];unfold World.alloc;simp
 have g1':=cell_below g1 hbW;have g2':=cell_below g2 hbW;have mk:=known_make w;rw [hW] at mk;obtain ⟨V,hV⟩:∃ V,(W.alloc (.cells #[.slice (some ⟨b1,0,none⟩) g.conf.length c1,.slice (some ⟨b2,0,none⟩) g.integ.length c2] 50)).drew=V:=⟨_,rfl⟩;have hbV:Below W.heap.size W V:=by rw [<- hV];exact ((Below.refl _ W).alloc (Nat.le_refl _) _).drew
 have v0:V.cell? ⟨W.heap.size,0,none⟩=some (.slice (some ⟨b1,0,none⟩) g.conf.length c1):=by rw [<- hV];simp [go_sem]
 have v1:V.cell? ⟨W.heap.size,1,none⟩=some (.slice (some ⟨b2,0,none⟩) g.integ.length c2):=by rw [<- hV];simp [go_sem]
 have hbw:Below w.heap.size w V:=hbW.trans (hbV.mono (by omega));rw [hsW] at v0 v1;have hk0:Knows w w.heap.size (.slice (some ⟨b2,0,none⟩) g.integ.length c2) [] V:=⟨(hbV.block _ (by omega)).trans hmW,hbw,v1⟩;have HV:=Lib.hid hV;have HK0:=Lib.hid hk0;have H:=Lib.hid h;have HND:=Lib.hid hnd;have HIN:=Lib.hid hin;clear hV hk0 h hnd hin hbw hbV hbW hmW
 go_enter Tryz.func45,Tryz.ntmps45
 go_wp2_with fail
 go_region
 rw [HV.out]
 go_wp2_with fail
 refine wp_loop_rounds 3 ?_;rw [rounds_succ]
 go_wp2_with fail
 go_loopw [33] (fun i wr=>∃ k:Nat,k<=g.conf.length/\i = .int .i64 (k:Int)/\Knows w w.heap.size (.slice (some ⟨b2,0,none⟩) g.integ.length c2) (L.take (k)) wr) (fun i _=>g.conf.length-(intOf i).toNat)
 case atStart=>exact ⟨0,Nat.zero_le _,rfl,HK0.out⟩
 case round =>
  obtain ⟨k,hk,rfl,hkn⟩:=hrel
  by_cases hlt:k<g.conf.length
  ·obtain ⟨m,hm⟩:∃ m,g.conf[k]? = some m:=⟨_,List.getElem?_eq_getElem hlt⟩;obtain ⟨x0,x1,x2⟩:=(H.out.n1.below hkn.bel) k m hm;have hLk:=hl1 k m hm;have hno:=not_before HND.out hLk;have lk:=fun o=>known_no (hkn.alloc o).map hno;have up:=fun o o'=>known_put ((hkn.alloc o).alloc o').map hno;have hms:g.conf.length-(intOf (Value.int IntKind.i64 ((k:Int)+1))).toNat<g.conf.length-(intOf (Value.int IntKind.i64 (k:Int))).toNat:=by simp [intOf];omega
   have HMS:=Lib.hid hms;have HKN:=Lib.hid hkn;have HT:=Lib.hid (take_next hLk);clear hms hkn hm hno hLk
   go_wp2
   refine ⟨⟨k+1,by omega,by go_num, ?_⟩,HMS.out⟩;rw [HT.out];exact ((HKN.out.alloc _).alloc _).put (Nat.le_refl _) (by simp)
  ·obtain rfl:k=g.conf.length:=by omega
   have HKN:=Lib.hid hkn;clear hk hlt hkn;have t1:=HKN.out.two
   go_wp2_with fail
   rw [rounds_succ]
   go_wp2_with fail
   go_loopw [33] (fun i wr=>∃ k:Nat,k<=g.integ.length/\i = .int .i64 (k:Int)/\Knows w w.heap.size (.slice (some ⟨b2,0,none⟩) g.integ.length c2) (L.take (g.conf.length+k)) wr) (fun i _=>g.integ.length-(intOf i).toNat)
   case atStart=>exact ⟨0,Nat.zero_le _,rfl,HKN.out⟩
   case round =>
    obtain ⟨k,hk,rfl,hkn⟩:=hrel
    by_cases hlt:k<g.integ.length
    ·obtain ⟨m,hm⟩:∃ m,g.integ[k]? = some m:=⟨_,List.getElem?_eq_getElem hlt⟩;obtain ⟨x0,x1,x2⟩:=(H.out.n2.below hkn.bel) k m hm;have hLk:=hl2 k m hm;have hno:=not_before HND.out hLk;have lk:=fun o=>known_no (hkn.alloc o).map hno;have up:=fun o o'=>known_put ((hkn.alloc o).alloc o').map hno;have hms:g.integ.length-(intOf (Value.int IntKind.i64 ((k:Int)+1))).toNat<g.integ.length-(intOf (Value.int IntKind.i64 (k:Int))).toNat:=by simp [intOf];omega
     have HMS:=Lib.hid hms;have HKN:=Lib.hid hkn;have HT:=Lib.hid (take_next hLk);clear hms hkn hm hno hLk
     go_wp2
     refine ⟨⟨k+1,by omega,by go_num, ?_⟩,HMS.out⟩;rw [show g.conf.length+(k+1)=(g.conf.length+k)+1 from rfl,HT.out];exact ((HKN.out.alloc _).alloc _).put (Nat.le_refl _) (by simp)
    ·obtain rfl:k=g.integ.length:=by omega
     have HKN:=Lib.hid hkn;clear hk hlt hkn;have g3:=(H.out.below HKN.out.bel).g3;have hkL:Knows w w.heap.size (.slice (some ⟨b2,0,none⟩) g.integ.length c2) L wr:=by have:=HKN.out;rw [HLL.out] at this;exact this
     have HKL:=Lib.hid hkL;clear hkL HKN t1
     go_wp2_with fail
     rw [rounds_succ]
     go_wp2_with fail
     go_loopw [58] (fun i wr'=>∃ k:Nat,k<=g.ord.length/\i = .int .i64 (k:Int)/\Knows w w.heap.size (.slice (some ⟨b2,0,none⟩) g.integ.length c2) L wr') (fun i _=>g.ord.length-(intOf i).toNat)
     case atStart=>exact ⟨0,Nat.zero_le _,rfl,HKL.out⟩
     case round =>
      obtain ⟨k,hk,rfl,hkn⟩:=hrel
      by_cases hlt:k<g.ord.length
      ·obtain ⟨m,hm⟩:∃ m,g.ord[k]? = some m:=⟨_,List.getElem?_eq_getElem hlt⟩;obtain ⟨b3,rfl,y0,y1,y2,y3,y4,y5⟩:=(H.out.n3.below hkn.bel) k m hm;have hI:=HIN.out m (List.mem_of_getElem? hm);have lk1:=fun o o'=>known_yes ((hkn.alloc o).alloc o').map hI.1;have lk2:=fun o o' o'' o3=>known_yes ((((hkn.alloc o).alloc o').alloc o'').alloc o3).map hI.2;have hms:g.ord.length-(intOf (Value.int IntKind.i64 ((k:Int)+1))).toNat<g.ord.length-(intOf (Value.int IntKind.i64 (k:Int))).toNat:=by simp [intOf];omega
       have HMS:=Lib.hid hms;have HKN:=Lib.hid hkn;clear hms hkn hm hI
       go_wp2_with fail
       refine wp_loop_rounds 3 ?_;rw [rounds_succ]
       go_wp2_with fail
       rw [rounds_succ]
       go_wp2_with fail
       rw [rounds_succ]
       go_wp2
       refine ⟨⟨k+1,by omega,by go_num, ?_⟩,HMS.out⟩;exact ((((HKN.out.alloc _).alloc _).alloc _).alloc _).alloc _
      ·have HKN:=Lib.hid hkn;clear hkn
       go_wp2
       go_ret
       exact ⟨rfl,HKN.out.bel⟩
end Go.Proofs.YtdfpkmfeldoamaaGreatDoor.Yo
namespace Go.Proofs.YtdfpkmfeldoamaaGreatDoor.Yo
open Go.RowKit Tn Lx
def cell3 (n:Py.Nm):List Value:=[.string ⟨n.text.toArray⟩,.int .i64 n.at_.line,.int .i64 n.at_.col]
def cells3 (l:List Py.Nm):List Value:=l.flatMap cell3
def cellP (p:Py.Nm × Py.Nm):List Value:=[.string ⟨p.1.text.toArray⟩,.int .i64 p.1.at_.line,.int .i64 p.1.at_.col,.string ⟨p.2.text.toArray⟩,.int .i64 p.2.at_.line,.int .i64 p.2.at_.col]
def cellsP (l:List (Py.Nm × Py.Nm)):List Value:=l.flatMap cellP
def polCells (bt:Nat)(v1 v2 v3:Value)(a:Py.Nm):Array Value:=#[.pointer (some ⟨bt,0,none⟩),v1,v2,v3,.string ⟨a.text.toArray⟩,.int .i64 a.at_.line,.int .i64 a.at_.col,.slice none 0 0]
def parCells (r q:Nat):Array Value:=#[.pointer (some ⟨r,0,none⟩),.pointer (some ⟨q,0,none⟩)]
structure Pm (c:Cx)(q pp:Nat)(v1 v2 v3:Value)(w:World)(g:Py.St):Prop where
 par:w.heap[pp]? = some (.cells (parCells c.r q) 87 (0,0))
 pol:w.heap[q]? = some (.cells (polCells c.bt v1 v2 v3 g.att) 84 (0,0))
 conf:w.ownsRow c.B 49 3 v1 g.conf.length (cells3 g.conf)
 integ:w.ownsRow c.B 49 3 v2 g.integ.length (cells3 g.integ)
 ord:w.ownsRow c.B 195 6 v3 g.ord.length (cellsP g.ord)
 apart:∀ k,v1.ownBlock=some k->v2.ownBlock≠some k
 ppB:c.B<=pp
 qB:c.B<=q
section
variable {c:Cx} {q pp:Nat} {v1 v2 v3:Value} {w w':World} {g:Py.St}
theorem Pm.p0 (h:Pm c q pp v1 v2 v3 w g):w.cell? ⟨pp,0,none⟩=some (.pointer (some ⟨c.r,0,none⟩)):=(blk_cell h.par 0).trans rfl
theorem Pm.p1 (h:Pm c q pp v1 v2 v3 w g):w.cell? ⟨pp,1,none⟩=some (.pointer (some ⟨q,0,none⟩)):=(blk_cell h.par 1).trans rfl
theorem Pm.g1 (h:Pm c q pp v1 v2 v3 w g):w.cell? ⟨q,1,none⟩=some v1:=(blk_cell h.pol 1).trans rfl
theorem Pm.g2 (h:Pm c q pp v1 v2 v3 w g):w.cell? ⟨q,2,none⟩=some v2:=(blk_cell h.pol 2).trans rfl
theorem Pm.g3 (h:Pm c q pp v1 v2 v3 w g):w.cell? ⟨q,3,none⟩=some v3:=(blk_cell h.pol 3).trans rfl
theorem Pm.g4 (h:Pm c q pp v1 v2 v3 w g):w.cell? ⟨q,4,none⟩=some (.string ⟨g.att.text.toArray⟩):=(blk_cell h.pol 4).trans rfl
theorem Pm.g5 (h:Pm c q pp v1 v2 v3 w g):w.cell? ⟨q,5,none⟩=some (.int .i64 g.att.at_.line):=(blk_cell h.pol 5).trans rfl
theorem Pm.g6 (h:Pm c q pp v1 v2 v3 w g):w.cell? ⟨q,6,none⟩=some (.int .i64 g.att.at_.col):=(blk_cell h.pol 6).trans rfl
theorem Pm.gf (h:Pm c q pp v1 v2 v3 w g)(i:Nat):w.frozen? ⟨q,i,none⟩=false:=blk_frozen h.pol i
theorem Pm.qp (h:Pm c q pp v1 v2 v3 w g):q≠pp:=fun e=>by
 have h1:=h.par;have h2:=h.pol;rw [e,h1] at h2;injection h2 with h2;injection h2 with _ h2;exact absurd h2 (by decide)
theorem Pm.but (h:Pm c q pp v1 v2 v3 w g){p:Nat->Prop}(hb:But p w w')(h1:¬ p pp)(h2:¬ p q)(h3:∀ k cs t fr,w.heap[k]? = some (.cells cs t fr)->c.B<=k->(t=49\/t=195)->¬ p k):Pm c q pp v1 v2 v3 w' g :=
 ⟨hb.heap h.par h1,hb.heap h.pol h2,hb.own h.conf (fun k hk=>by obtain ⟨e0,cur,e⟩:=own_tag h.conf hk;exact h3 k _ _ _ e e0 (.inl rfl)),hb.own h.integ (fun k hk=>by obtain ⟨e0,cur,e⟩:=own_tag h.integ hk;exact h3 k _ _ _ e e0 (.inl rfl)),hb.own h.ord (fun k hk=>by obtain ⟨e0,cur,e⟩:=own_tag h.ord hk;exact h3 k _ _ _ e e0 (.inr rfl)),h.apart,h.ppB,h.qB⟩
theorem Pm.below (h:Pm c q pp v1 v2 v3 w g)(hb:Below w.heap.size w w'):Pm c q pp v1 v2 v3 w' g:=h.but (p:=fun _=>False) (But.of_below hb) (fun e=>e) (fun e=>e) (fun _ _ _ _ _ _ _ e=>e)
theorem Pm.kp (h:Pm c q pp v1 v2 v3 w g)(hr:c.r<c.B)(hb:c.bt<c.B)(hk:Kp c w w'):Pm c q pp v1 v2 v3 w' g:=by
 have hp:=h.ppB;have hq:=h.qB;refine h.but hk ?_ ?_ ?_
 ·rintro (e | e | ⟨_,cs,fr,e⟩)
  ·omega
  ·omega
  ·rw [h.par] at e;injection e with e;injection e with _ e;exact absurd e (by decide)
 ·rintro (e | e | ⟨_,cs,fr,e⟩)
  ·omega
  ·omega
  ·rw [h.pol] at e;injection e with e;injection e with _ e;exact absurd e (by decide)
 ·intro k cs t fr hk1 hB ht;rintro (e | e | ⟨_,cs',fr',e⟩)
  ·omega
  ·omega
  ·rw [hk1] at e;injection e with e;injection e with _ e
   rcases ht with ht | ht <;> (rw [ht] at e;exact absurd e (by decide))
end
def FreeR (c:Cx)(q:Nat)(w:World)(k:Nat):Prop:=k=c.r\/k=c.bt\/k=q\/(c.B<=k/\∃ cs t fr,w.heap[k]? = some (.cells cs t fr)/\(t=165\/t=49\/t=195))
def Kr (c:Cx)(q:Nat)(w w':World):Prop:=But (FreeR c q w) w w'
theorem Kr.of_kp {c:Cx}{q:Nat}{w w':World}(h:Kp c w w'):Kr c q w w':=But.mono h fun k _ e=>by
 rcases e with e | e | ⟨e,cs,fr,e1⟩
 ·exact .inl e
 ·exact .inr (.inl e)
 ·exact .inr (.inr (.inr ⟨e,cs,_,fr,e1,.inl rfl⟩))
theorem Kr.refl (c:Cx)(q:Nat)(w:World):Kr c q w w:=But.refl _ _
theorem Kr.trans {c:Cx}{q:Nat}{a b d:World}(h:Kr c q a b)(k:Kr c q b d):Kr c q a d :=
 ⟨k.os.trans h.os,k.tape.trans h.tape,k.output.trans h.output,Nat.le_trans h.size k.size,fun i hi hp=>by
  have e:=h.block i hi hp;refine (k.block i (Nat.lt_of_lt_of_le hi h.size) ?_).trans e;rintro (e1 | e1 | e1 | ⟨e1,cs,t,fr,e2,e3⟩)
  ·exact hp (.inl e1)
  ·exact hp (.inr (.inl e1))
  ·exact hp (.inr (.inr (.inl e1)))
  ·exact hp (.inr (.inr (.inr ⟨e1,cs,t,fr,e ▸ e2,e3⟩)))⟩
theorem Kr.size {c:Cx}{q:Nat}{a b:World}(h:Kr c q a b):a.heap.size<=b.heap.size:=But.size h
theorem Kr.below {c:Cx}{q N:Nat}{a b:World}(h:Kr c q a b)(hN:N<=a.heap.size)(h1:N<=c.r)(h2:N<=c.bt)(h3:N<=c.B)(h4:N<=q):Below N a b :=
 But.below h hN (fun k hk=>by
  rcases hk with e | e | e | ⟨e,_⟩ <;> omega)
theorem Kr.map {c:Cx}{q:Nat}{a b:World}(h:Kr c q a b){k cl:Nat}{es:Array MapEntry}(hk:a.heap[k]? = some (.map es cl))(h1:k≠c.r)(h2:k≠c.bt)(h3:k≠q):b.heap[k]? = some (.map es cl) :=
 (h.block k (lt_of_heap hk) (by
  rintro (e | e | e | ⟨_,cs,t,fr,e,_⟩)
  ·exact h1 e
  ·exact h2 e
  ·exact h3 e
  ·rw [hk] at e;cases e)).trans hk
theorem Kr.heap {c:Cx}{q:Nat}{a b:World}(h:Kr c q a b){k:Nat}{cs:Array Value}{t:TypeId}{fr:Nat × Nat}(hk:a.heap[k]? = some (.cells cs t fr))(h1:k≠c.r)(h2:k≠c.bt)(h3:k≠q)(ht:t≠165/\t≠49/\t≠195):b.heap[k]? = some (.cells cs t fr) :=
 (h.block k (lt_of_heap hk) (by
  rintro (e | e | e | ⟨_,cs',t',fr',e,e'⟩)
  ·exact h1 e
  ·exact h2 e
  ·exact h3 e
  ·rw [hk] at e;injection e with e;injection e with _ e
   rcases e' with e' | e' | e'
   ·exact ht.1 (e.trans e')
   ·exact ht.2.1 (e.trans e')
   ·exact ht.2.2 (e.trans e'))).trans hk
theorem Kr.then_below {c:Cx}{q:Nat}{a b d:World}(h:Kr c q a b)(k:Below b.heap.size b d):Kr c q a d:=h.trans (Kr.of_kp (Kp.of_below k))
end Go.Proofs.YtdfpkmfeldoamaaGreatDoor.Yo
