/- A part of the proof: A part of the proof. -/
import Derived.RangeFuncNested
import Derived.RangeFuncBound
import Derived.RangeFuncCalls
import Derived.RangeFuncLeaves
import Derived.WalkKit
import Derived.Below
import Derived.Test.YtdfpkmfeldoamaaGreatDoorLToks
import Derived.Test.YtdfpkmfeldoamaaGreatDoorRows
import Derived.Test.YtdfpkmfeldoamaaGreatDoorPf
import Derived.WalkSpells
import Derived.WalkLawsBesides
import Derived.Lib.Hide
import Derived.Test.YtdfpkmfeldoamaaGreatDoorLFloat
import Derived.Deep.AppendLies
import Derived.OwnWalk
set_option linter.unusedSimpArgs false
set_option linter.unusedVariables false
set_option maxHeartbeats 1000000
namespace Go.Proofs.YtdfpkmfeldoamaaGreatDoor
section
open Go.RowKit
structure Kept (N:Nat)(M:Nat->TypeId->Prop)(W W':World):Prop where
 below:Below N W W'
 same:∀ b c t r,¬ M b t->W.heap[b]? = some (.cells c t r)->W'.heap[b]? = some (.cells c t r)
def Still (N:Nat)(W W':World):Prop:=Kept N (fun _ _=>False) W W'
theorem Kept.refl (N:Nat)(M:Nat->TypeId->Prop)(W:World):Kept N M W W:=⟨Below.refl _ _,fun _ _ _ _ _ h=>h⟩
theorem Kept.trans {N:Nat}{M:Nat->TypeId->Prop}{A B C:World}(h:Kept N M A B)(k:Kept N M B C):Kept N M A C :=
 ⟨h.below.trans k.below,fun b c t r hm hb=>k.same b c t r hm (h.same b c t r hm hb)⟩
theorem Kept.size {N:Nat}{M:Nat->TypeId->Prop}{A B:World}(h:Kept N M A B):A.heap.size<=B.heap.size:=h.below.size
theorem Kept.mono {N N':Nat}{M M':Nat->TypeId->Prop}{A B:World}(h:Kept N M A B)(hN:N'<=N)(hM:∀ b t,M b t->M' b t):Kept N' M' A B :=
 ⟨h.below.mono hN,fun b c t r hm=>h.same b c t r (fun e=>hm (hM b t e))⟩
theorem Still.refl (N:Nat)(W:World):Still N W W:=Kept.refl _ _ _
theorem Still.trans {N:Nat}{A B C:World}(h:Still N A B)(k:Still N B C):Still N A C:=Kept.trans h k
theorem Still.kept {N:Nat}{A B:World}(h:Still N A B)(M:Nat->TypeId->Prop):Kept N M A B:=Kept.mono h (Nat.le_refl _) (fun _ _ e=>e.elim)
theorem lt_of_heap {W:World}{b:Nat}{o:Obj}(h:W.heap[b]? = some o):b<W.heap.size:=(Array.getElem?_eq_some_iff.1 h).1
theorem Still.of_below {N:Nat}{A B:World}(h:Below A.heap.size A B)(hN:N<=A.heap.size):Still N A B :=
 ⟨h.mono hN,fun b _ _ _ _ hb=>(h.block b (lt_of_heap hb)).trans hb⟩
theorem Still.alloc (N:Nat)(W:World)(o:Obj)(hN:N<=W.heap.size):Still N W (W.alloc o):=Still.of_below ((Below.refl _ _).alloc (Nat.le_refl _) _) hN
theorem Still.putObj {N:Nat}{W:World}{l:Nat}{o:Obj}(o':Obj)(hN:N<=l)(hl:W.heap[l]? = some o)(ho:o.isCells=false):Still N W (W.putObj l o'):=by
 refine ⟨⟨rfl,rfl,rfl,by simp,fun k hk=>World.putObj_heap_other (by omega)⟩,fun b c t r _ hb=>?_⟩;rw [World.putObj_heap_other]
 ·exact hb
 ·rintro rfl;rw [hl] at hb;cases hb;cases ho
theorem Kept.cell {N:Nat}{M:Nat->TypeId->Prop}{A B:World}(h:Kept N M A B){p:Addr}{v:Value}(hc:A.cell? p=some v)(hm:∀ t c r,A.heap[p.block]? = some (.cells c t r)->¬ M p.block t):B.cell? p=some v:=by
 obtain ⟨o,ho,hoc⟩:=cells_of_cell hc
 cases o <;> first | cases hoc | skip
 rename_i c t r;have e:=h.same p.block c t r (hm t c r ho) ho;unfold World.cell? at hc ⊢;rw [e];rw [ho] at hc;exact hc
theorem Still.cell {N:Nat}{A B:World}(h:Still N A B){p:Addr}{v:Value}(hc:A.cell? p=some v):B.cell? p=some v:=Kept.cell h hc (fun _ _ _ _ e=>e)
theorem Still.frozen {N:Nat}{A B:World}(h:Still N A B){p:Addr}{v:Value}(hc:A.cell? p=some v):B.frozen? p=A.frozen? p:=by
 obtain ⟨o,ho,hoc⟩:=cells_of_cell hc
 cases o <;> first | cases hoc | skip
 rename_i c t r;have e:=h.same p.block c t r (fun e=>e) ho;unfold World.frozen?;rw [e,ho]
def Defs (A B:World):Prop:=∀ (k:Nat) (d:Option (List Deferred)),A.heap[k]? = some (Obj.deferred d)->B.heap[k]? = some (Obj.deferred d)
theorem Defs.refl (A:World):Defs A A:=fun _ _ h=>h
theorem Defs.trans {A B C:World}(h:Defs A B)(k:Defs B C):Defs A C:=fun i d e=>k i d (h i d e)
theorem Defs.of_others {A B:World}(h:KeepsOthers A B):Defs A B:=fun k _ e=>h.same k _ e rfl
theorem Defs.putObj {A:World}{l:Nat}{r:Loop}(o:Obj)(h:A.heap[l]? = some (.loop r)):Defs A (A.putObj l o):=fun k d e=>by
 rw [World.putObj_heap_other]
 ·exact e
 ·rintro rfl;rw [h] at e;cases e
theorem others_of_below {A B:World}(h:Below A.heap.size A B):KeepsOthers A B:=⟨h.size,fun k _ hk _=>(h.block k (lt_of_heap hk)).trans hk⟩
section
variable {α:Type}
end
end
section
open Go.RowKit Tn
def IntsAt (N:Nat)(w:World)(ao:Option Addr)(ks:List Int):Prop :=
 ∀ i,i<ks.length->∃ b o,ao=some ⟨b,o,none⟩/\b<N/\w.cell? ⟨b,o+i,none⟩=some (.int .i64 (kid ks i))
structure NodeAt (N:Nat)(w:World)(b o:Nat)(n:Nd)(ka:Option Addr)(kc:Nat):Prop where
 lt:b<N
 c0:w.cell? ⟨b,o,none⟩=some (.string n.op)
 c1:w.cell? ⟨b,o+1,none⟩=some (.int .i64 n.line)
 c2:w.cell? ⟨b,o+2,none⟩=some (.int .i64 n.col)
 c3:w.cell? ⟨b,o+3,none⟩=some (.string n.name)
 c4:w.cell? ⟨b,o+4,none⟩=some (.int .i64 n.num)
 c5:w.cell? ⟨b,o+5,none⟩=some (.slice ka n.kids.length kc)
 kids:IntsAt N w ka n.kids
 nil:ka=none->kc=0
def nval (n:Nd)(ka:Option Addr)(kc:Nat):Value :=
 .agg #[.string n.op,.int .i64 n.line,.int .i64 n.col,.string n.name,.int .i64 n.num,.slice ka n.kids.length kc]
def NodesAt (N:Nat)(w:World)(ao:Option Addr)(ms:List Nd):Prop :=
 ∀ i,i<ms.length->∃ b o ka kc,ao=some ⟨b,o,none⟩/\NodeAt N w b (o+i*6) (nd ms i) ka kc
structure TreeAt (N:Nat)(w:World)(bt:Nat)(ao:Option Addr)(cap:Nat)(ms:List Nd):Prop where
 lt:bt<N
 cell:w.cell? ⟨bt,0,none⟩=some (.slice ao ms.length cap)
 nodes:NodesAt N w ao ms
 room:ms.length<=cap
theorem IntsAt.below {N:Nat}{w w':World}{ao:Option Addr}{ks:List Int}(h:IntsAt N w ao ks)(hb:Below N w w'):IntsAt N w' ao ks:=by
 intro i hi;obtain ⟨b,o,e,hlt,hc⟩:=h i hi;exact ⟨b,o,e,hlt,(hb.cell (p:=⟨b,o+i,none⟩) hlt).trans hc⟩
theorem NodeAt.below {N:Nat}{w w':World}{b o:Nat}{n:Nd}{ka:Option Addr}{kc:Nat}(h:NodeAt N w b o n ka kc)(hb:Below N w w'):NodeAt N w' b o n ka kc :=
 ⟨h.lt,(hb.cell (p:=⟨b,o,none⟩) h.lt).trans h.c0,(hb.cell (p:=⟨b,o+1,none⟩) h.lt).trans h.c1,(hb.cell (p:=⟨b,o+2,none⟩) h.lt).trans h.c2,(hb.cell (p:=⟨b,o+3,none⟩) h.lt).trans h.c3,
  (hb.cell (p:=⟨b,o+4,none⟩) h.lt).trans h.c4,(hb.cell (p:=⟨b,o+5,none⟩) h.lt).trans h.c5,h.kids.below hb,h.nil⟩
theorem NodesAt.below {N:Nat}{w w':World}{ao:Option Addr}{ms:List Nd}(h:NodesAt N w ao ms)(hb:Below N w w'):NodesAt N w' ao ms:=by
 intro i hi;obtain ⟨b,o,ka,kc,e,hn⟩:=h i hi;exact ⟨b,o,ka,kc,e,hn.below hb⟩
theorem TreeAt.below {N:Nat}{w w':World}{bt:Nat}{ao:Option Addr}{cap:Nat}{ms:List Nd}(h:TreeAt N w bt ao cap ms)(hb:Below N w w'):TreeAt N w' bt ao cap ms :=
 ⟨h.lt,(hb.cell (p:=⟨bt,0,none⟩) h.lt).trans h.cell,h.nodes.below hb,h.room⟩
theorem IntsAt.mono {N N':Nat}{w:World}{ao:Option Addr}{ks:List Int}(h:IntsAt N w ao ks)(hN:N<=N'):IntsAt N' w ao ks:=by
 intro i hi;obtain ⟨b,o,e,hlt,hc⟩:=h i hi;exact ⟨b,o,e,by omega,hc⟩
theorem NodeAt.mono {N N':Nat}{w:World}{b o:Nat}{n:Nd}{ka:Option Addr}{kc:Nat}(h:NodeAt N w b o n ka kc)(hN:N<=N'):NodeAt N' w b o n ka kc :=
 ⟨by have:=h.lt;omega,h.c0,h.c1,h.c2,h.c3,h.c4,h.c5,h.kids.mono hN,h.nil⟩
theorem NodesAt.mono {N N':Nat}{w:World}{ao:Option Addr}{ms:List Nd}(h:NodesAt N w ao ms)(hN:N<=N'):NodesAt N' w ao ms:=by
 intro i hi;obtain ⟨b,o,ka,kc,e,hn⟩:=h i hi;exact ⟨b,o,ka,kc,e,hn.mono hN⟩
theorem TreeAt.mono {N N':Nat}{w:World}{bt:Nat}{ao:Option Addr}{cap:Nat}{ms:List Nd}(h:TreeAt N w bt ao cap ms)(hN:N<=N'):TreeAt N' w bt ao cap ms :=
 ⟨by have:=h.lt;omega,h.cell,h.nodes.mono hN,h.room⟩
end
section
open Go.RowKit Tn
theorem len_any (bt:Nat)(ao:Option Addr)(len cap:Nat)(w:World)(hc:w.cell? ⟨bt,0,none⟩=some (.slice ao len cap)):
  Calls Tryz.prog 123 #[.pointer (some ⟨bt,0,none⟩)] w fun e w'=>e = .returned (.int .i64 len)/\w=w':=by
 go_enter Tryz.func123,Tryz.ntmps123
 go_wp2
 go_ret
 exact ⟨rfl,rfl⟩
theorem has_any (bt:Nat)(ao:Option Addr)(len cap:Nat)(i:Int)(w:World)(hc:w.cell? ⟨bt,0,none⟩=some (.slice ao len cap)):
  Calls Tryz.prog 67 #[.pointer (some ⟨bt,0,none⟩),.int .i64 i] w fun e w'=>e = .returned (.bool (decide (0<=i) && decide (i<(len:Int))))/\w=w':=by
 go_enter Tryz.func67,Tryz.ntmps67
 go_wp2_with (go_at_call 123;refine (len_any bt ao len cap _ hc).mono ?_;rintro e w' ⟨rfl,rfl⟩)
 all_goals (go_ret;refine ⟨ret_bool ?_,rfl⟩;simp [*] <;> omega)
theorem has_yes (bt:Nat)(ao:Option Addr)(len cap:Nat)(i:Int)(w:World)(hc:w.cell? ⟨bt,0,none⟩=some (.slice ao len cap))(h0:0<=i)(h1:i<(len:Int)):
  Calls Tryz.prog 67 #[.pointer (some ⟨bt,0,none⟩),.int .i64 i] w fun e w'=>e = .returned (.bool true)/\w=w' :=
 (has_any bt ao len cap i w hc).mono fun _ _ ⟨he,hw⟩=>⟨by rw [he];simp [h0,h1],hw⟩
theorem has_no (bt:Nat)(ao:Option Addr)(len cap:Nat)(i:Int)(w:World)(hc:w.cell? ⟨bt,0,none⟩=some (.slice ao len cap))(h:¬ (0<=i/\i<(len:Int))):
  Calls Tryz.prog 67 #[.pointer (some ⟨bt,0,none⟩),.int .i64 i] w fun e w'=>e = .returned (.bool false)/\w=w' :=
 (has_any bt ao len cap i w hc).mono fun _ _ ⟨he,hw⟩=>⟨by rw [he];congr 2;rw [<- Bool.not_eq_true];simpa using h,hw⟩
theorem hasAll_any (bt:Nat)(ao:Option Addr)(len cap:Nat)(N:Nat)(ka:Option Addr)(n:Nd)(kc:Nat)(w:World)(hc:w.cell? ⟨bt,0,none⟩=some (.slice ao len cap))(hk:IntsAt N w ka n.kids)(hl:n.kids.length<=999000):
  Calls Tryz.prog 216 #[.pointer (some ⟨bt,0,none⟩),.slice ka n.kids.length kc] w fun e w'=>e = .returned (.bool (fits len n))/\w=w':=by
 go_enter Tryz.func216,Tryz.ntmps216
 go_wp2
 go_loop [9] (fun i=>∃ k:Nat,k<=n.kids.length/\i = .int .i64 k/\∀ j,j<k->0<=kid n.kids j/\kid n.kids j<(len:Int)) (fun i=>n.kids.length-(intOf i).toNat)
 case atStart=>exact ⟨0,Nat.zero_le _,rfl,by intro j hj;omega⟩
 case round =>
  obtain ⟨k,hk',rfl,hall⟩:=hrel;have HA:=Lib.hid hall;clear hall
  by_cases hlt:k<n.kids.length
  ·obtain ⟨b,o,rfl,hb,hcell⟩:=hk k hlt;have HK:=Lib.hid hk;clear hk
   by_cases hin:0<=kid n.kids k/\kid n.kids k<(len:Int)
   ·obtain ⟨h0,h1⟩:=hin
    go_wp2_with (go_at_call 67;refine (has_yes bt ao len cap _ _ hc h0 h1).mono ?_;rintro e w' ⟨rfl,rfl⟩)
    go_round
    case rel =>
     refine ⟨k+1,by omega,by go_num, ?_⟩;intro j hj
     by_cases hjk:j=k
     ·subst hjk;exact ⟨h0,h1⟩
     ·exact HA.out j (by omega)
    case measure=>simp [intOf];omega
   ·have HN:=Lib.hid hin;clear hin
    go_wp2_with (go_at_call 67;refine (has_no bt ao len cap _ _ hc HN.out).mono ?_;rintro e w' ⟨rfl,rfl⟩)
    go_ret
    refine ⟨ret_bool ?_,rfl⟩
    symm
    rw [<- Bool.not_eq_true,fits_at];exact fun h=>HN.out (h k hlt)
  ·have:k=n.kids.length:=by omega
   subst this;have HK:=Lib.hid hk;clear hk
   go_wp2
   go_ret
   refine ⟨ret_bool ?_,rfl⟩
   symm
   rw [fits_at];exact fun i hi=>HA.out i hi
end
section
open Go.RowKit Tn
theorem Tryz.info3:(Tryz.prog.info? 3).map (fun i=>(i.zero,i.size,i.bytes))=some (some (.int .i64 0),1,8):=by kernel_rfl
def ints (ks:List Int):List Value:=ks.map fun k => .int .i64 k
theorem ints_len (ks:List Int):(ints ks).length=ks.length:=by simp [ints]
theorem ints_get {ks:List Int}{j:Nat}(h:j<ks.length):(ints ks)[j]? = some (.int .i64 (kid ks j)):=by simp [ints,kid,h]
theorem ints_one (ks:List Int):∀ u∈ints ks,u.oneCell'=true:=by
 intro u hu;obtain ⟨k,_,rfl⟩:=List.mem_map.1 hu
 rfl
theorem own_form {w:World}{base:Nat}{t:TypeId}{z:Nat}{v:Value}{n:Nat}{xs:List Value}(h:w.ownsRow base t z v n xs):∃ ka kc,v = .slice ka n kc:=by
 rcases h.2 with ⟨rfl,rfl⟩ | ⟨g,cap,cur,rfl,_⟩
 ·exact ⟨_,_,rfl⟩
 ·exact ⟨_,_,rfl⟩
theorem own_ints {w:World}{base:Nat}{ka:Option Addr}{kc:Nat}{ks:List Int}(h:w.ownsRow base 3 1 (.slice ka ks.length kc) ks.length (ints ks)):IntsAt w.heap.size w ka ks:=by
 intro i hi
 rcases h.2 with ⟨_,hn⟩ | ⟨g,cap,cur,hv,hb,hg,hl,hm,hs,ht⟩
 ·omega
 ·cases hv
  refine ⟨g,0,rfl,lt_of_heap hg, ?_⟩;have e:cur.toList[i]? = some (.int .i64 (kid ks i)):=by
   rw [<- ints_get hi,<- ht,List.getElem?_take];simp [hi]
  have e':cur[i]? = some (.int .i64 (kid ks i)):=by simpa using e
  simp [World.cell?,hg,e']
theorem ints_news {N:Nat}{w:World}{a:Addr}{ks:List Int}(h:IntsAt N w (some a) ks):∀ j u,(ints ks)[j]? = some u->w.cell? (a.add j)=some u:=by
 intro j u hu;have hj:j<ks.length:=by
  have:=(List.getElem?_eq_some_iff.1 hu).1
  rwa [ints_len] at this
 rw [ints_get hj] at hu
 cases hu
 obtain ⟨b,o,e,_,hc⟩:=h j hj
 cases e
 rw [Addr.add_lit];exact hc
theorem q31 (w:World)(a:Option Addr)(n c n' c':Nat):(binOp .eql 163 (.slice a n c) (.slice none n' c')).run Tryz.prog w = .ok (.bool a.isNone) w:=Lib.run_eql_slice_nil w _ _ a n c n' c' Tryz.underlying163
def CloneP (w:World)(ks:List Int)(e:Ending)(w':World):Prop :=
 ∃ ka kc,e = .returned (.slice ka ks.length kc)/\w'.ownsRow w.heap.size 3 1 (.slice ka ks.length kc) ks.length (ints ks)/\Below w.heap.size w w'
theorem empty_row (w:World)(t:TypeId)(z:Nat):(w.alloc (.cells #[] t)).ownsRow w.heap.size t z (.slice (some ⟨w.heap.size,0,none⟩) 0 0) 0 [] :=
 ⟨by simp,.inr ⟨w.heap.size,0,#[],rfl,Nat.le_refl _,World.alloc_heap_new w _,Nat.le_refl _,by unfold maxLen;omega,by simp,by simp⟩⟩
theorem clone_any (N:Nat)(ka:Option Addr)(kc:Nat)(ks:List Int)(w:World)(hk:IntsAt N w ka ks)(hnil:ka=none->kc=0)(hl:ks.length<=999000):
  Calls Tryz.prog 177 #[.slice ka ks.length kc] w (CloneP w ks):=by
 cases ka with
 | none =>
  obtain rfl:=hnil rfl;have e:ks.length=0:=by
   rcases Nat.eq_zero_or_pos ks.length with h | h
   ·exact h
   ·obtain ⟨_,_,e,_⟩:=hk 0 h;cases e
  obtain rfl:ks=[]:=List.eq_nil_of_length_eq_zero e;clear e hk hnil
  show Calls Tryz.prog 177 #[.slice none 0 0] w _
  have q:=q31
  go_enter Tryz.func177,Tryz.ntmps177
  go_wp2
  go_ret
  exact ⟨none,0,rfl,⟨rfl,.inl ⟨rfl,rfl⟩⟩,Below.refl _ _⟩
 | some a =>
  obtain ⟨i0,hi,hz0,hz1,hz2⟩:=info_parts Tryz.info3;have HI:=Lib.hid hi;have HZ:=Lib.hid hz0;have HZ1:=Lib.hid hz1;have HZ2:=Lib.hid hz2;have hk':IntsAt N (w.alloc (.cells #[] 3)) (some a) ks:=fun i hi=>by
   obtain ⟨b,o,e,hb,hc⟩:=hk i hi;exact ⟨b,o,e,hb,by rw [World.cell?_alloc_lt _ _ _ (World.block_lt_of_cell? _ _ hc)];exact hc⟩
  have HN:=Lib.hid hk';clear hi hz0 hz1 hz2 hk hk' hnil;have q:=q31
  go_enter Tryz.func177,Tryz.ntmps177
  go_wp2_with (at_builtin;refine wpList_append_own _ rfl (.tmp 5) (.tmp 6) 163 rfl w.heap.size 3 i0 _ 1 8 Tryz.underlying163 HI.out HZ.out HZ1.out HZ2.out rfl (by decide) (.slice (some ⟨w.heap.size,0,none⟩) 0 0) 0 [] rfl (empty_row w 3 1) a ks.length kc (ints ks) rfl (by rw [ints_len,Nat.mul_one]) (ints_news HN.out) (ints_one ks) (by unfold maxLen;omega) (by omega) (by simp) ?_;intro v' w1 hown hgrow hnil)
  rw [Nat.zero_add,List.nil_append] at hown;obtain ⟨ka,kc',rfl⟩:=own_form hown
  go_ret
  exact ⟨ka,kc',rfl,hown,((Below.refl _ w).alloc (Nat.le_refl _) _).grown hgrow (by simp) (fun k e=>by cases e;exact Nat.le_refl _)⟩
theorem blk_cell {w:World}{b:Nat}{c:Array Value}{t:TypeId}{fr:Nat × Nat}(h:w.heap[b]? = some (.cells c t fr))(i:Nat):w.cell? ⟨b,i,none⟩=c[i]? := by simp [World.cell?,h]
theorem blk_frozen {w:World}{b:Nat}{c:Array Value}{t:TypeId}(h:w.heap[b]? = some (.cells c t (0,0)))(i:Nat):w.frozen? ⟨b,i,none⟩=false:=by simp [World.frozen?,h]
theorem blk_set {w:World}{b:Nat}{c:Array Value}{t:TypeId}{fr:Nat × Nat}(h:w.heap[b]? = some (.cells c t fr))(i:Nat)(v:Value):(w.setCell ⟨b,i,none⟩ v).heap[b]? = some (.cells (c.setIfInBounds i v) t fr):=by
 simp only [World.setCell,Array.getElem?_modify,h];rfl
theorem blk_other {w:World}{b b':Nat}(h:b≠b')(i:Nat)(v:Value):(w.setCell ⟨b',i,none⟩ v).heap[b]? = w.heap[b]? := Below.heap_setCell _ _ _ _ h
theorem blk_new (w:World)(o:Obj):(w.alloc o).heap[w.heap.size]? = some o:=World.alloc_heap_new w o
theorem blk_alloc {w:World}{b:Nat}{o:Obj}(h:w.heap[b]? = some o)(p:Obj):(w.alloc p).heap[b]? = some o:=(Below.heap_alloc w p b (lt_of_heap h)).trans h
structure Six (w:World)(b:Nat)(t:TypeId)(v0 v1 v2 v3 v4 v5:Value):Prop where
 blk:w.heap[b]? = some (.cells #[v0,v1,v2,v3,v4,v5] t (0,0))
theorem Six.c0 {w:World}{b:Nat}{t:TypeId}{v0 v1 v2 v3 v4 v5:Value}(h:Six w b t v0 v1 v2 v3 v4 v5):w.cell? ⟨b,0,none⟩=some v0:=(blk_cell h.blk 0).trans rfl
theorem Six.c1 {w:World}{b:Nat}{t:TypeId}{v0 v1 v2 v3 v4 v5:Value}(h:Six w b t v0 v1 v2 v3 v4 v5):w.cell? ⟨b,1,none⟩=some v1:=(blk_cell h.blk 1).trans rfl
theorem Six.c2 {w:World}{b:Nat}{t:TypeId}{v0 v1 v2 v3 v4 v5:Value}(h:Six w b t v0 v1 v2 v3 v4 v5):w.cell? ⟨b,2,none⟩=some v2:=(blk_cell h.blk 2).trans rfl
theorem Six.c3 {w:World}{b:Nat}{t:TypeId}{v0 v1 v2 v3 v4 v5:Value}(h:Six w b t v0 v1 v2 v3 v4 v5):w.cell? ⟨b,3,none⟩=some v3:=(blk_cell h.blk 3).trans rfl
theorem Six.c4 {w:World}{b:Nat}{t:TypeId}{v0 v1 v2 v3 v4 v5:Value}(h:Six w b t v0 v1 v2 v3 v4 v5):w.cell? ⟨b,4,none⟩=some v4:=(blk_cell h.blk 4).trans rfl
theorem Six.c5 {w:World}{b:Nat}{t:TypeId}{v0 v1 v2 v3 v4 v5:Value}(h:Six w b t v0 v1 v2 v3 v4 v5):w.cell? ⟨b,5,none⟩=some v5:=(blk_cell h.blk 5).trans rfl
theorem Six.fz {w:World}{b:Nat}{t:TypeId}{v0 v1 v2 v3 v4 v5:Value}(h:Six w b t v0 v1 v2 v3 v4 v5)(i:Nat):w.frozen? ⟨b,i,none⟩=false:=blk_frozen h.blk i
def setSix (w:World)(b:Nat)(v0 v1 v2 v3 v4 v5:Value):World :=
 (((((w.setCell ⟨b,0,none⟩ v0).setCell ⟨b,1,none⟩ v1).setCell ⟨b,2,none⟩ v2).setCell ⟨b,3,none⟩ v3).setCell ⟨b,4,none⟩ v4).setCell ⟨b,5,none⟩ v5
theorem Six.set {w:World}{b:Nat}{t:TypeId}{u0 u1 u2 u3 u4 u5:Value}(h:Six w b t u0 u1 u2 u3 u4 u5)(v0 v1 v2 v3 v4 v5:Value):Six (setSix w b v0 v1 v2 v3 v4 v5) b t v0 v1 v2 v3 v4 v5 :=
 ⟨(blk_set (blk_set (blk_set (blk_set (blk_set (blk_set h.blk 0 v0) 1 v1) 2 v2) 3 v3) 4 v4) 5 v5).trans rfl⟩
theorem Six.other {w:World}{b b':Nat}{t:TypeId}{u0 u1 u2 u3 u4 u5:Value}(h:Six w b t u0 u1 u2 u3 u4 u5)(hne:b≠b')(i:Nat)(v:Value):Six (w.setCell ⟨b',i,none⟩ v) b t u0 u1 u2 u3 u4 u5:=⟨(blk_other hne i v).trans h.blk⟩
theorem Six.below {w w':World}{N b:Nat}{t:TypeId}{u0 u1 u2 u3 u4 u5:Value}(h:Six w b t u0 u1 u2 u3 u4 u5)(hb:Below N w w')(hlt:b<N):Six w' b t u0 u1 u2 u3 u4 u5:=⟨(hb.block b hlt).trans h.blk⟩
theorem below_setSix {N:Nat}{a w:World}(h:Below N a w){b:Nat}(hb:N<=b)(v0 v1 v2 v3 v4 v5:Value):Below N a (setSix w b v0 v1 v2 v3 v4 v5) :=
 (((((h.setCell (p:=⟨b,0,none⟩) hb _).setCell (p:=⟨b,1,none⟩) hb _).setCell (p:=⟨b,2,none⟩) hb _).setCell (p:=⟨b,3,none⟩) hb _).setCell (p:=⟨b,4,none⟩) hb _).setCell (p:=⟨b,5,none⟩) hb _
theorem own_setCell {w:World}{base:Nat}{t:TypeId}{z:Nat}{v:Value}{n:Nat}{xs:List Value}(h:w.ownsRow base t z v n xs){b:Nat}(hb:b<base)(i:Nat)(u:Value):(w.setCell ⟨b,i,none⟩ u).ownsRow base t z v n xs:=by
 refine ⟨h.1, ?_⟩
 rcases h.2 with hn | ⟨g,cap,cur,rfl,hbg,hgg,rest⟩
 ·exact .inl hn
 ·exact .inr ⟨g,cap,cur,rfl,hbg,by rw [blk_other (by omega)];exact hgg,rest⟩
theorem own_setSix {w:World}{base:Nat}{t:TypeId}{z:Nat}{v:Value}{n:Nat}{xs:List Value}(h:w.ownsRow base t z v n xs){b:Nat}(hb:b<base)(v0 v1 v2 v3 v4 v5:Value):(setSix w b v0 v1 v2 v3 v4 v5).ownsRow base t z v n xs :=
 own_setCell (own_setCell (own_setCell (own_setCell (own_setCell (own_setCell h hb 0 v0) hb 1 v1) hb 2 v2) hb 3 v3) hb 4 v4) hb 5 v5
def SepP (w:World)(n:Nd)(e:Ending)(w':World):Prop :=
 ∃ ka kc,e = .returned (nval n ka kc)/\w'.ownsRow w.heap.size 3 1 (.slice ka n.kids.length kc) n.kids.length (ints n.kids)/\Below w.heap.size w w'
theorem sep_any (N:Nat)(n:Nd)(ka:Option Addr)(kc:Nat)(w:World)(hk:IntsAt N w ka n.kids)(hnil:ka=none->kc=0)(hl:n.kids.length<=999000):
  Calls Tryz.prog 155 #[.agg #[.string n.op,.int .i64 n.line,.int .i64 n.col,.string n.name,.int .i64 n.num,.slice ka n.kids.length kc]] w (SepP w n):=by
 generalize hW:((w.alloc (.cells #[(.string n.op),.int .i64 n.line,.int .i64 n.col,(.string n.name),.int .i64 n.num,.slice ka n.kids.length kc] 165)).alloc (.cells #[.string ⟨#[]⟩,.int .i64 0,.int .i64 0,.string ⟨#[]⟩,.int .i64 0,.slice none 0 0] 165))=W;have hbW:Below w.heap.size w W:=by rw [<- hW];exact ((Below.refl _ w).alloc (Nat.le_refl _) _).alloc (by simp) _
 have hsW:W.heap.size=w.heap.size+2:=by rw [<- hW];simp
 have s1:Six W w.heap.size 165 (.string n.op) (.int .i64 n.line) (.int .i64 n.col) (.string n.name) (.int .i64 n.num) (.slice ka n.kids.length kc):=⟨by rw [<- hW];exact blk_alloc (blk_new w _) _⟩;have s2:Six W (w.heap.size+1) 165 (.string ⟨#[]⟩) (.int .i64 0) (.int .i64 0) (.string ⟨#[]⟩) (.int .i64 0) (.slice none 0 0):=⟨by rw [<- hW];have:=blk_new (w.alloc (.cells #[(.string n.op),.int .i64 n.line,.int .i64 n.col,(.string n.name),.int .i64 n.num,.slice ka n.kids.length kc] 165)) (.cells #[.string ⟨#[]⟩,.int .i64 0,.int .i64 0,.string ⟨#[]⟩,.int .i64 0,.slice none 0 0] 165);rwa [World.size_alloc] at this⟩;have hkW:IntsAt w.heap.size W ka n.kids:=(IntsAt.below (N:=w.heap.size) (fun i hi=>by
  obtain ⟨b,o,e,_,hc⟩:=hk i hi;exact ⟨b,o,e,by have:=World.block_lt_of_cell? _ _ hc;exact this,hc⟩) hbW)
 have HK:=Lib.hid hkW;have HN:=Lib.hid hnil;have HW:=Lib.hid hW;have HS:=Lib.hid hsW;clear hk hnil hkW hsW hW
 go_enter Tryz.func155,Tryz.ntmps155
 go_wp2_with fail
 rw [HW.out];refine (clone_any _ _ _ _ _ HK.out HN.out hl).mono ?_;rintro e w1 ⟨ka1,kc1,rfl,hown,hb1⟩
 replace s1:=s1.below hb1 (by rw [HS.out];omega)
 replace s2:=s2.below hb1 (by rw [HS.out];omega)
 have c0:=s1.c0;have c1:=s1.c1;have c2:=s1.c2;have c3:=s1.c3;have c4:=s1.c4;have c5:=s1.c5;have f:=s1.fz;have d0:=s2.c0;have d1:=s2.c1;have d2:=s2.c2;have d3:=s2.c3;have d4:=s2.c4;have d5:=s2.c5;have g:=s2.fz
 go_wp2
 have s3:=(s2.other (b':=w.heap.size) (by omega) 5 (.slice ka1 n.kids.length kc1)).set (.string n.op) (.int .i64 n.line) (.int .i64 n.col) (.string n.name) (.int .i64 n.num) (.slice ka1 n.kids.length kc1);have hB:Below w.heap.size w (setSix (w1.setCell ⟨w.heap.size,5,none⟩ (.slice ka1 n.kids.length kc1)) (w.heap.size+1) (.string n.op) (.int .i64 n.line) (.int .i64 n.col) (.string n.name) (.int .i64 n.num) (.slice ka1 n.kids.length kc1)) :=
  below_setSix ((hbW.trans (hb1.mono (by rw [HS.out];omega))).setCell (p:=⟨w.heap.size,5,none⟩) (Nat.le_refl _) _) (by omega) _ _ _ _ _ _
 have hO:=own_mono (base':=w.heap.size) (own_setSix (own_setCell hown (b:=w.heap.size) (by rw [HS.out];omega) 5 (.slice ka1 n.kids.length kc1)) (b:=w.heap.size+1) (by rw [HS.out];omega) (.string n.op) (.int .i64 n.line) (.int .i64 n.col) (.string n.name) (.int .i64 n.num) (.slice ka1 n.kids.length kc1)) (by rw [HS.out];omega)
 change bodyPost Tryz.prog Tryz.f155 (SepP w n) Exit.ret _ (setSix (w1.setCell ⟨w.heap.size,5,none⟩ (.slice ka1 n.kids.length kc1)) (w.heap.size+1) (.string n.op) (.int .i64 n.line) (.int .i64 n.col) (.string n.name) (.int .i64 n.num) (.slice ka1 n.kids.length kc1))
 generalize setSix (w1.setCell ⟨w.heap.size,5,none⟩ (.slice ka1 n.kids.length kc1)) (w.heap.size+1) (.string n.op) (.int .i64 n.line) (.int .i64 n.col) (.string n.name) (.int .i64 n.num) (.slice ka1 n.kids.length kc1)=W3 at *;refine bodyPost_ret (v:=nval n ka1 kc1) (by simp [results,Tryz.results155,go_sem,s3.c0,s3.c1,s3.c2,s3.c3,s3.c4,s3.c5,nval]) rfl ⟨ka1,kc1,rfl,hO,hB⟩
end
end Go.Proofs.YtdfpkmfeldoamaaGreatDoor
