/- A part of the proof: A part of the proof. -/
import Derived.Test.YtninlbknklbofaaGreatDoorTLeaf
import Derived.Test.YtninlbknklbofaaGreatDoorLFloat
import Derived.Deep.AppendLies
import Derived.OwnWalk
import Derived.ChangeKeysEq
set_option linter.unusedSimpArgs false
set_option linter.unusedVariables false
set_option maxRecDepth 100000
set_option maxHeartbeats 2000000
namespace Go.Proofs.YtninlbknklbofaaGreatDoor
section
open Go.RowKit Tn
theorem Tryz.info3:(Tryz.prog.info? 3).map (fun i=>(i.zero,i.size,i.bytes))=some (some (.int .i64 0),1,8):=by kernel_rfl
def ints (ks:List Int):List Value:=ks.map fun k => .int .i64 k
theorem ints_len (ks:List Int):(ints ks).length=ks.length:=by simp [ints]
theorem ints_get {ks:List Int}{j:Nat}(h:j<ks.length):(ints ks)[j]? = some (.int .i64 (kid ks j)):=by simp [ints,kid,h]
theorem ints_one (ks:List Int):∀ u∈ints ks,u.oneCell'=true:=by
 intro u hu;obtain ⟨k,_,rfl⟩:=List.mem_map.1 hu
 rfl
theorem own_form {w:World}{base:Nat}{t:TypeId}{z:Nat}{v:Value}{n:Nat}{xs:List Value}(h:w.ownsRow base t z v n xs):∃ ka kc,v = .slice ka n kc:=by
 rcases h.2 with ⟨rfl,rfl⟩ | ⟨g,cap,cur,rfl,_⟩
 ·exact ⟨_,_,rfl⟩
 ·exact ⟨_,_,rfl⟩
theorem own_ints {w:World}{base:Nat}{ka:Option Addr}{kc:Nat}{ks:List Int}(h:w.ownsRow base 3 1 (.slice ka ks.length kc) ks.length (ints ks)):IntsAt w.heap.size w ka ks:=by
 intro i hi
 rcases h.2 with ⟨_,hn⟩ | ⟨g,cap,cur,hv,hb,hg,hl,hm,hs,ht⟩
 ·omega
 ·cases hv
  refine ⟨g,0,rfl,lt_of_heap hg, ?_⟩;have e:cur.toList[i]? = some (.int .i64 (kid ks i)):=by
   rw [<- ints_get hi,<- ht,List.getElem?_take];simp [hi]
  have e':cur[i]? = some (.int .i64 (kid ks i)):=by simpa using e
  simp [World.cell?,hg,e']
theorem ints_news {N:Nat}{w:World}{a:Addr}{ks:List Int}(h:IntsAt N w (some a) ks):∀ j u,(ints ks)[j]? = some u->w.cell? (a.add j)=some u:=by
 intro j u hu;have hj:j<ks.length:=by
  have:=(List.getElem?_eq_some_iff.1 hu).1
  rwa [ints_len] at this
 rw [ints_get hj] at hu
 cases hu
 obtain ⟨b,o,e,_,hc⟩:=h j hj
 cases e
 rw [Addr.add_lit];exact hc
theorem q31 (w:World)(a:Option Addr)(n c n' c':Nat):(binOp .eql 28 (.slice a n c) (.slice none n' c')).run Tryz.prog w = .ok (.bool a.isNone) w:=Lib.run_eql_slice_nil w _ _ a n c n' c' Tryz.underlying28
def CloneP (w:World)(ks:List Int)(e:Ending)(w':World):Prop :=
 ∃ ka kc,e = .returned (.slice ka ks.length kc)/\w'.ownsRow w.heap.size 3 1 (.slice ka ks.length kc) ks.length (ints ks)/\Below w.heap.size w w'
theorem empty_row (w:World)(t:TypeId)(z:Nat):(w.alloc (.cells #[] t)).ownsRow w.heap.size t z (.slice (some ⟨w.heap.size,0,none⟩) 0 0) 0 [] :=
 ⟨by simp,.inr ⟨w.heap.size,0,#[],rfl,Nat.le_refl _,World.alloc_heap_new w _,Nat.le_refl _,by unfold maxLen;omega,by simp,by simp⟩⟩
theorem clone_any (N:Nat)(ka:Option Addr)(kc:Nat)(ks:List Int)(w:World)(hk:IntsAt N w ka ks)(hnil:ka=none->kc=0)(hl:ks.length<=999000):
  Calls Tryz.prog 49 #[.slice ka ks.length kc] w (CloneP w ks):=by
 cases ka with
 | none =>
  obtain rfl:=hnil rfl;have e:ks.length=0:=by
   rcases Nat.eq_zero_or_pos ks.length with h | h
   ·exact h
   ·obtain ⟨_,_,e,_⟩:=hk 0 h;cases e
  obtain rfl:ks=[]:=List.eq_nil_of_length_eq_zero e;clear e hk hnil
  show Calls Tryz.prog 49 #[.slice none 0 0] w _
  have q:=q31
  go_enter Tryz.func49,Tryz.ntmps49
  go_wp2
  go_ret
  exact ⟨none,0,rfl,⟨rfl,.inl ⟨rfl,rfl⟩⟩,Below.refl _ _⟩
 | some a =>
  obtain ⟨i0,hi,hz0,hz1,hz2⟩:=info_parts Tryz.info3;have HI:=Lib.hid hi;have HZ:=Lib.hid hz0;have HZ1:=Lib.hid hz1;have HZ2:=Lib.hid hz2;have hk':IntsAt N (w.alloc (.cells #[] 3)) (some a) ks:=fun i hi=>by
   obtain ⟨b,o,e,hb,hc⟩:=hk i hi;exact ⟨b,o,e,hb,by rw [World.cell?_alloc_lt _ _ _ (World.block_lt_of_cell? _ _ hc)];exact hc⟩
  have HN:=Lib.hid hk';clear hi hz0 hz1 hz2 hk hk' hnil;have q:=q31
  go_enter Tryz.func49,Tryz.ntmps49
  go_wp2_with (at_builtin;refine wpList_append_own _ rfl (.tmp 5) (.tmp 6) 28 rfl w.heap.size 3 i0 _ 1 8 Tryz.underlying28 HI.out HZ.out HZ1.out HZ2.out rfl (by decide) (.slice (some ⟨w.heap.size,0,none⟩) 0 0) 0 [] rfl (empty_row w 3 1) a ks.length kc (ints ks) rfl (by rw [ints_len,Nat.mul_one]) (ints_news HN.out) (ints_one ks) (by unfold maxLen;omega) (by omega) (by simp) ?_;intro v' w1 hown hgrow hnil)
  rw [Nat.zero_add,List.nil_append] at hown;obtain ⟨ka,kc',rfl⟩:=own_form hown
  go_ret
  exact ⟨ka,kc',rfl,hown,((Below.refl _ w).alloc (Nat.le_refl _) _).grown hgrow (by simp) (fun k e=>by cases e;exact Nat.le_refl _)⟩
theorem blk_cell {w:World}{b:Nat}{c:Array Value}{t:TypeId}{fr:Nat × Nat}(h:w.heap[b]? = some (.cells c t fr))(i:Nat):w.cell? ⟨b,i,none⟩=c[i]? := by simp [World.cell?,h]
theorem blk_frozen {w:World}{b:Nat}{c:Array Value}{t:TypeId}(h:w.heap[b]? = some (.cells c t (0,0)))(i:Nat):w.frozen? ⟨b,i,none⟩=false:=by simp [World.frozen?,h]
theorem blk_set {w:World}{b:Nat}{c:Array Value}{t:TypeId}{fr:Nat × Nat}(h:w.heap[b]? = some (.cells c t fr))(i:Nat)(v:Value):(w.setCell ⟨b,i,none⟩ v).heap[b]? = some (.cells (c.setIfInBounds i v) t fr):=by
 simp only [World.setCell,Array.getElem?_modify,h];rfl
theorem blk_other {w:World}{b b':Nat}(h:b≠b')(i:Nat)(v:Value):(w.setCell ⟨b',i,none⟩ v).heap[b]? = w.heap[b]? := Below.heap_setCell _ _ _ _ h
theorem blk_new (w:World)(o:Obj):(w.alloc o).heap[w.heap.size]? = some o:=World.alloc_heap_new w o
theorem blk_alloc {w:World}{b:Nat}{o:Obj}(h:w.heap[b]? = some o)(p:Obj):(w.alloc p).heap[b]? = some o:=(Below.heap_alloc w p b (lt_of_heap h)).trans h
structure Six (w:World)(b:Nat)(t:TypeId)(v0 v1 v2 v3 v4 v5:Value):Prop where
 blk:w.heap[b]? = some (.cells #[v0,v1,v2,v3,v4,v5] t (0,0))
theorem Six.c0 {w:World}{b:Nat}{t:TypeId}{v0 v1 v2 v3 v4 v5:Value}(h:Six w b t v0 v1 v2 v3 v4 v5):w.cell? ⟨b,0,none⟩=some v0:=(blk_cell h.blk 0).trans rfl
theorem Six.c1 {w:World}{b:Nat}{t:TypeId}{v0 v1 v2 v3 v4 v5:Value}(h:Six w b t v0 v1 v2 v3 v4 v5):w.cell? ⟨b,1,none⟩=some v1:=(blk_cell h.blk 1).trans rfl
theorem Six.c2 {w:World}{b:Nat}{t:TypeId}{v0 v1 v2 v3 v4 v5:Value}(h:Six w b t v0 v1 v2 v3 v4 v5):w.cell? ⟨b,2,none⟩=some v2:=(blk_cell h.blk 2).trans rfl
theorem Six.c3 {w:World}{b:Nat}{t:TypeId}{v0 v1 v2 v3 v4 v5:Value}(h:Six w b t v0 v1 v2 v3 v4 v5):w.cell? ⟨b,3,none⟩=some v3:=(blk_cell h.blk 3).trans rfl
theorem Six.c4 {w:World}{b:Nat}{t:TypeId}{v0 v1 v2 v3 v4 v5:Value}(h:Six w b t v0 v1 v2 v3 v4 v5):w.cell? ⟨b,4,none⟩=some v4:=(blk_cell h.blk 4).trans rfl
theorem Six.c5 {w:World}{b:Nat}{t:TypeId}{v0 v1 v2 v3 v4 v5:Value}(h:Six w b t v0 v1 v2 v3 v4 v5):w.cell? ⟨b,5,none⟩=some v5:=(blk_cell h.blk 5).trans rfl
theorem Six.fz {w:World}{b:Nat}{t:TypeId}{v0 v1 v2 v3 v4 v5:Value}(h:Six w b t v0 v1 v2 v3 v4 v5)(i:Nat):w.frozen? ⟨b,i,none⟩=false:=blk_frozen h.blk i
def setSix (w:World)(b:Nat)(v0 v1 v2 v3 v4 v5:Value):World :=
 (((((w.setCell ⟨b,0,none⟩ v0).setCell ⟨b,1,none⟩ v1).setCell ⟨b,2,none⟩ v2).setCell ⟨b,3,none⟩ v3).setCell ⟨b,4,none⟩ v4).setCell ⟨b,5,none⟩ v5
theorem Six.set {w:World}{b:Nat}{t:TypeId}{u0 u1 u2 u3 u4 u5:Value}(h:Six w b t u0 u1 u2 u3 u4 u5)(v0 v1 v2 v3 v4 v5:Value):Six (setSix w b v0 v1 v2 v3 v4 v5) b t v0 v1 v2 v3 v4 v5 :=
 ⟨(blk_set (blk_set (blk_set (blk_set (blk_set (blk_set h.blk 0 v0) 1 v1) 2 v2) 3 v3) 4 v4) 5 v5).trans rfl⟩
theorem Six.other {w:World}{b b':Nat}{t:TypeId}{u0 u1 u2 u3 u4 u5:Value}(h:Six w b t u0 u1 u2 u3 u4 u5)(hne:b≠b')(i:Nat)(v:Value):Six (w.setCell ⟨b',i,none⟩ v) b t u0 u1 u2 u3 u4 u5:=⟨(blk_other hne i v).trans h.blk⟩
theorem Six.below {w w':World}{N b:Nat}{t:TypeId}{u0 u1 u2 u3 u4 u5:Value}(h:Six w b t u0 u1 u2 u3 u4 u5)(hb:Below N w w')(hlt:b<N):Six w' b t u0 u1 u2 u3 u4 u5:=⟨(hb.block b hlt).trans h.blk⟩
theorem below_setSix {N:Nat}{a w:World}(h:Below N a w){b:Nat}(hb:N<=b)(v0 v1 v2 v3 v4 v5:Value):Below N a (setSix w b v0 v1 v2 v3 v4 v5) :=
 (((((h.setCell (p:=⟨b,0,none⟩) hb _).setCell (p:=⟨b,1,none⟩) hb _).setCell (p:=⟨b,2,none⟩) hb _).setCell (p:=⟨b,3,none⟩) hb _).setCell (p:=⟨b,4,none⟩) hb _).setCell (p:=⟨b,5,none⟩) hb _
theorem own_setCell {w:World}{base:Nat}{t:TypeId}{z:Nat}{v:Value}{n:Nat}{xs:List Value}(h:w.ownsRow base t z v n xs){b:Nat}(hb:b<base)(i:Nat)(u:Value):(w.setCell ⟨b,i,none⟩ u).ownsRow base t z v n xs:=by
 refine ⟨h.1, ?_⟩
 rcases h.2 with hn | ⟨g,cap,cur,rfl,hbg,hgg,rest⟩
 ·exact .inl hn
 ·exact .inr ⟨g,cap,cur,rfl,hbg,by rw [blk_other (by omega)];exact hgg,rest⟩
theorem own_setSix {w:World}{base:Nat}{t:TypeId}{z:Nat}{v:Value}{n:Nat}{xs:List Value}(h:w.ownsRow base t z v n xs){b:Nat}(hb:b<base)(v0 v1 v2 v3 v4 v5:Value):(setSix w b v0 v1 v2 v3 v4 v5).ownsRow base t z v n xs :=
 own_setCell (own_setCell (own_setCell (own_setCell (own_setCell (own_setCell h hb 0 v0) hb 1 v1) hb 2 v2) hb 3 v3) hb 4 v4) hb 5 v5
def SepP (w:World)(n:Nd)(e:Ending)(w':World):Prop :=
 ∃ ka kc,e = .returned (nval n ka kc)/\w'.ownsRow w.heap.size 3 1 (.slice ka n.kids.length kc) n.kids.length (ints n.kids)/\Below w.heap.size w w'
theorem sep_any (N:Nat)(n:Nd)(ka:Option Addr)(kc:Nat)(w:World)(hk:IntsAt N w ka n.kids)(hnil:ka=none->kc=0)(hl:n.kids.length<=999000):
  Calls Tryz.prog 28 #[.agg #[.string n.op,.int .i64 n.line,.int .i64 n.col,.string n.name,.int .i64 n.num,.slice ka n.kids.length kc]] w (SepP w n):=by
 generalize hW:((w.alloc (.cells #[(.string n.op),.int .i64 n.line,.int .i64 n.col,(.string n.name),.int .i64 n.num,.slice ka n.kids.length kc] 30)).alloc (.cells #[.string ⟨#[]⟩,.int .i64 0,.int .i64 0,.string ⟨#[]⟩,.int .i64 0,.slice none 0 0] 30))=W;have hbW:Below w.heap.size w W:=by rw [<- hW];exact ((Below.refl _ w).alloc (Nat.le_refl _) _).alloc (by simp) _
 have hsW:W.heap.size=w.heap.size+2:=by rw [<- hW];simp
 have s1:Six W w.heap.size 30 (.string n.op) (.int .i64 n.line) (.int .i64 n.col) (.string n.name) (.int .i64 n.num) (.slice ka n.kids.length kc):=⟨by rw [<- hW];exact blk_alloc (blk_new w _) _⟩;have s2:Six W (w.heap.size+1) 30 (.string ⟨#[]⟩) (.int .i64 0) (.int .i64 0) (.string ⟨#[]⟩) (.int .i64 0) (.slice none 0 0):=⟨by rw [<- hW];have:=blk_new (w.alloc (.cells #[(.string n.op),.int .i64 n.line,.int .i64 n.col,(.string n.name),.int .i64 n.num,.slice ka n.kids.length kc] 30)) (.cells #[.string ⟨#[]⟩,.int .i64 0,.int .i64 0,.string ⟨#[]⟩,.int .i64 0,.slice none 0 0] 30);rwa [World.size_alloc] at this⟩;have hkW:IntsAt w.heap.size W ka n.kids:=(IntsAt.below (N:=w.heap.size) (fun i hi=>by
  obtain ⟨b,o,e,_,hc⟩:=hk i hi;exact ⟨b,o,e,by have:=World.block_lt_of_cell? _ _ hc;exact this,hc⟩) hbW)
 have HK:=Lib.hid hkW;have HN:=Lib.hid hnil;have HW:=Lib.hid hW;have HS:=Lib.hid hsW;clear hk hnil hkW hsW hW
 go_enter Tryz.func28,Tryz.ntmps28
 go_wp2_with fail
 rw [HW.out];refine (clone_any _ _ _ _ _ HK.out HN.out hl).mono ?_;rintro e w1 ⟨ka1,kc1,rfl,hown,hb1⟩
 replace s1:=s1.below hb1 (by rw [HS.out];omega)
 replace s2:=s2.below hb1 (by rw [HS.out];omega)
 have c0:=s1.c0;have c1:=s1.c1;have c2:=s1.c2;have c3:=s1.c3;have c4:=s1.c4;have c5:=s1.c5;have f:=s1.fz;have d0:=s2.c0;have d1:=s2.c1;have d2:=s2.c2;have d3:=s2.c3;have d4:=s2.c4;have d5:=s2.c5;have g:=s2.fz
 go_wp2
 have s3:=(s2.other (b':=w.heap.size) (by omega) 5 (.slice ka1 n.kids.length kc1)).set (.string n.op) (.int .i64 n.line) (.int .i64 n.col) (.string n.name) (.int .i64 n.num) (.slice ka1 n.kids.length kc1);have hB:Below w.heap.size w (setSix (w1.setCell ⟨w.heap.size,5,none⟩ (.slice ka1 n.kids.length kc1)) (w.heap.size+1) (.string n.op) (.int .i64 n.line) (.int .i64 n.col) (.string n.name) (.int .i64 n.num) (.slice ka1 n.kids.length kc1)) :=
  below_setSix ((hbW.trans (hb1.mono (by rw [HS.out];omega))).setCell (p:=⟨w.heap.size,5,none⟩) (Nat.le_refl _) _) (by omega) _ _ _ _ _ _
 have hO:=own_mono (base':=w.heap.size) (own_setSix (own_setCell hown (b:=w.heap.size) (by rw [HS.out];omega) 5 (.slice ka1 n.kids.length kc1)) (b:=w.heap.size+1) (by rw [HS.out];omega) (.string n.op) (.int .i64 n.line) (.int .i64 n.col) (.string n.name) (.int .i64 n.num) (.slice ka1 n.kids.length kc1)) (by rw [HS.out];omega)
 change bodyPost Tryz.prog Tryz.f28 (SepP w n) Exit.ret _ (setSix (w1.setCell ⟨w.heap.size,5,none⟩ (.slice ka1 n.kids.length kc1)) (w.heap.size+1) (.string n.op) (.int .i64 n.line) (.int .i64 n.col) (.string n.name) (.int .i64 n.num) (.slice ka1 n.kids.length kc1))
 generalize setSix (w1.setCell ⟨w.heap.size,5,none⟩ (.slice ka1 n.kids.length kc1)) (w.heap.size+1) (.string n.op) (.int .i64 n.line) (.int .i64 n.col) (.string n.name) (.int .i64 n.num) (.slice ka1 n.kids.length kc1)=W3 at *;refine bodyPost_ret (v:=nval n ka1 kc1) (by simp [results,Tryz.results28,go_sem,s3.c0,s3.c1,s3.c2,s3.c3,s3.c4,s3.c5,nval]) rfl ⟨ka1,kc1,rfl,hO,hB⟩
end
section
open Go.RowKit Tn
theorem Tryz.info30:(Tryz.prog.info? 30).map (fun i=>(i.zero,i.size,i.bytes))=some (some (.agg #[.string ⟨#[]⟩,.int .i64 0,.int .i64 0,.string ⟨#[]⟩,.int .i64 0,.slice none 0 0]),6,80):=by kernel_rfl
structure SN where
 n:Nd
 ka:Option Addr
 kc:Nat
def cell6 (s:SN):List Value:=[.string s.n.op,.int .i64 s.n.line,.int .i64 s.n.col,.string s.n.name,.int .i64 s.n.num,.slice s.ka s.n.kids.length s.kc]
def cells6 (l:List SN):List Value:=l.flatMap cell6
def nds (l:List SN):List Nd:=l.map SN.n
theorem cells6_len (l:List SN):(cells6 l).length=l.length*6:=by
 induction l with
 | nil=>rfl
 | cons s l ih=>simp only [cells6,List.flatMap_cons,List.length_append,List.length_cons] at ih ⊢;rw [ih];simp only [cell6,List.length_cons,List.length_nil];omega
theorem cells6_snoc (l:List SN)(s:SN):cells6 (l++[s])=cells6 l++cell6 s:=by simp [cells6]
theorem cells6_one (l:List SN):∀ u∈cells6 l,u.oneCell'=true:=by
 intro u hu;obtain ⟨s,_,hs⟩:=List.mem_flatMap.1 hu;simp only [cell6,List.mem_cons,List.not_mem_nil,or_false] at hs
 rcases hs with rfl | rfl | rfl | rfl | rfl | rfl <;> rfl
theorem cells6_get {l:List SN}{i:Nat}{s:SN}(h:l[i]? = some s)(j:Nat)(hj:j<6):(cells6 l)[i*6+j]? = (cell6 s)[j]? := by
 induction l generalizing i with
 | nil=>simp at h
 | cons q l ih =>
  have e:cells6 (q :: l)=cell6 q++cells6 l:=rfl
  cases i with
  | zero =>
   simp at h;subst h;rw [e,List.getElem?_append_left (by simp [cell6];omega)];simp
  | succ i =>
   simp at h;rw [e,List.getElem?_append_right (by simp [cell6];omega)];rw [show (i+1)*6+j-(cell6 q).length=i*6+j by simp [cell6];omega];exact ih h
theorem nds_len (l:List SN):(nds l).length=l.length:=by simp [nds]
theorem nds_at {l:List SN}{i:Nat}{s:SN}(h:l[i]? = some s):nd (nds l) i=s.n:=by simp [nd,nds,h]
theorem own_cell {w:World}{base:Nat}{t:TypeId}{z:Nat}{g:Nat}{n c:Nat}{xs:List Value}(h:w.ownsRow base t z (.slice (some ⟨g,0,none⟩) n c) n xs){i:Nat}{u:Value}(hu:xs[i]? = some u):w.cell? ⟨g,i,none⟩=some u:=by
 rcases h.2 with ⟨e,_⟩ | ⟨g',cap,cur,hv,_,hg,_,_,hs,ht⟩
 ·cases e
 ·cases hv
  rw [blk_cell hg];have hi:=(List.getElem?_eq_some_iff.1 hu).1;rw [<- ht,List.getElem?_take] at hu
  split at hu
  ·simpa using hu
  ·cases hu
theorem own_nodes {w:World}{base N:Nat}{ao:Option Addr}{c:Nat}{l:List SN}(h:w.ownsRow base 30 6 (.slice ao l.length c) l.length (cells6 l))(hk:∀ s∈l,IntsAt N w s.ka s.n.kids)(hz:∀ s∈l,s.ka=none->s.kc=0)(hN:w.heap.size<=N):NodesAt N w ao (nds l):=by
 intro i hi;rw [nds_len] at hi;have hs:l[i]? = some l[i]:=List.getElem?_eq_getElem hi;generalize l[i]=s at hs;have hg:∃ g,ao=some ⟨g,0,none⟩/\g<w.heap.size:=by
  rcases h.2 with ⟨_,e⟩ | ⟨g',cap,cur,hv,_,hg,_⟩
  ·omega
  ·cases hv;exact ⟨g',rfl,lt_of_heap hg⟩
 obtain ⟨g,rfl,hlt⟩:=hg;rw [nds_at hs];have key:∀ j,j<6->∀ u,(cell6 s)[j]? = some u->w.cell? ⟨g,i*6+j,none⟩=some u:=fun j hj u hu=>own_cell h (by rw [cells6_get hs j hj];exact hu);refine ⟨g,0,s.ka,s.kc,rfl, ?_⟩;rw [Nat.zero_add];exact ⟨by omega,key 0 (by omega) _ rfl,key 1 (by omega) _ rfl,key 2 (by omega) _ rfl,key 3 (by omega) _ rfl,key 4 (by omega) _ rfl,key 5 (by omega) _ rfl,hk s (List.mem_of_getElem? hs),hz s (List.mem_of_getElem? hs)⟩
structure But (p:Nat->Prop)(w w':World):Prop where
 os:w'.os=w.os
 tape:w'.tape=w.tape
 output:w'.output=w.output
 size:w.heap.size<=w'.heap.size
 block:∀ k,k<w.heap.size->¬ p k->w'.heap[k]? = w.heap[k]?
theorem But.refl (p:Nat->Prop)(w:World):But p w w:=⟨rfl,rfl,rfl,Nat.le_refl _,fun _ _ _=>rfl⟩
theorem But.trans {p:Nat->Prop}{a b c:World}(h:But p a b)(k:But p b c):But p a c :=
 ⟨k.os.trans h.os,k.tape.trans h.tape,k.output.trans h.output,Nat.le_trans h.size k.size,fun i hi hp=>(k.block i (Nat.lt_of_lt_of_le hi h.size) hp).trans (h.block i hi hp)⟩
theorem But.of_below {p:Nat->Prop}{a b:World}(h:Below a.heap.size a b):But p a b:=⟨h.os,h.tape,h.output,h.size,fun k hk _=>h.block k hk⟩
theorem But.of_grown {p:Nat->Prop}{a b:World}{row:Option Nat}(h:a.grownBy b row)(hp:∀ k,row=some k->p k):But p a b :=
 ⟨h.os,h.tape,h.output,h.size,fun k hk hn=>h.block k hk (fun e=>hn (hp k e.symm))⟩
theorem But.setCell {p:Nat->Prop}(a:World){b:Nat}(hp:p b)(i:Nat)(v:Value):But p a (a.setCell ⟨b,i,none⟩ v) :=
 ⟨rfl,rfl,rfl,by simp,fun k _ hn=>blk_other (fun e=>hn (by rw [e];exact hp)) i v⟩
theorem But.mono {p q:Nat->Prop}{a b:World}(h:But p a b)(hq:∀ k,k<a.heap.size->p k->q k):But q a b :=
 ⟨h.os,h.tape,h.output,h.size,fun k hk hn=>h.block k hk (fun e=>hn (hq k hk e))⟩
theorem But.below {p:Nat->Prop}{a b:World}(h:But p a b){N:Nat}(hN:N<=a.heap.size)(hp:∀ k,p k->N<=k):Below N a b :=
 ⟨h.os,h.tape,h.output,h.size,fun k hk=>h.block k (by omega) (fun e=>by have:=hp k e;omega)⟩
theorem But.own {p:Nat->Prop}{a b:World}(h:But p a b){base:Nat}{t:TypeId}{z:Nat}{v:Value}{n:Nat}{xs:List Value}(ho:a.ownsRow base t z v n xs)(hp:∀ g,v.ownBlock=some g->¬ p g):b.ownsRow base t z v n xs:=by
 refine ⟨ho.1, ?_⟩
 rcases ho.2 with hn | ⟨g,cap,cur,rfl,hbg,hgg,rest⟩
 ·exact .inl hn
 ·exact .inr ⟨g,cap,cur,rfl,hbg,by rw [h.block g (lt_of_heap hgg) (hp g rfl)];exact hgg,rest⟩
theorem But.heap {p:Nat->Prop}{a b:World}(h:But p a b){k:Nat}{o:Obj}(hk:a.heap[k]? = some o)(hp:¬ p k):b.heap[k]? = some o:=(h.block k (lt_of_heap hk) hp).trans hk
theorem own_tag {w:World}{base:Nat}{t:TypeId}{z:Nat}{v:Value}{n:Nat}{xs:List Value}(h:w.ownsRow base t z v n xs){g:Nat}(hg:v.ownBlock=some g):base<=g/\∃ cur,w.heap[g]? = some (.cells cur t (0,0)):=by
 rcases h.2 with ⟨rfl,_⟩ | ⟨g',cap,cur,rfl,hbg,hgg,_⟩
 ·cases hg
 ·cases hg;exact ⟨hbg,cur,hgg⟩
theorem own_room {w:World}{base:Nat}{t:TypeId}{z:Nat}{ka:Option Addr}{n kc:Nat}{xs:List Value}(h:w.ownsRow base t z (.slice ka n kc) n xs):n<=kc:=by
 rcases h.2 with ⟨e,e'⟩ | ⟨g',cap,cur,e,_,_,h1,_⟩
 ·omega
 ·cases e;exact h1
theorem own_nil {w:World}{base:Nat}{t:TypeId}{z:Nat}{ka:Option Addr}{n kc:Nat}{xs:List Value}(h:w.ownsRow base t z (.slice ka n kc) n xs)(e:ka=none):kc=0:=by
 subst e
 rcases h.2 with ⟨e,_⟩ | ⟨g',cap,cur,e,_⟩
 ·injection e
 ·cases e
structure TreeOwn (B:Nat)(w:World)(bt:Nat)(v:Value)(l:List SN):Prop where
 blk:w.heap[bt]? = some (.cells #[v] 45 (0,0))
 own:w.ownsRow B 30 6 v l.length (cells6 l)
 kids:∀ s∈l,w.ownsRow B 3 1 (.slice s.ka s.n.kids.length s.kc) s.n.kids.length (ints s.n.kids)
 lt:bt<B
theorem TreeOwn.size {B:Nat}{w:World}{bt:Nat}{v:Value}{l:List SN}(h:TreeOwn B w bt v l):bt<w.heap.size:=lt_of_heap h.blk
theorem TreeOwn.but {B:Nat}{w w':World}{bt:Nat}{v:Value}{l:List SN}(h:TreeOwn B w bt v l){p:Nat->Prop}(hb:But p w w')(h1:¬ p bt)(h2:∀ k,B<=k->¬ p k):TreeOwn B w' bt v l :=
 ⟨hb.heap h.blk h1,hb.own h.own (fun g hg=>h2 g (own_tag h.own hg).1),fun s hs=>hb.own (h.kids s hs) (fun g hg=>h2 g (own_tag (h.kids s hs) hg).1),h.lt⟩
theorem TreeOwn.below {B:Nat}{w w':World}{bt:Nat}{v:Value}{l:List SN}(h:TreeOwn B w bt v l)(hb:Below w.heap.size w w'):TreeOwn B w' bt v l:=h.but (p:=fun _=>False) (But.of_below hb) (fun e=>e) (fun _ _ e=>e)
theorem TreeOwn.at {B:Nat}{w:World}{bt:Nat}{v:Value}{l:List SN}(h:TreeOwn B w bt v l):∃ ao cap,v = .slice ao l.length cap/\TreeAt w.heap.size w bt ao cap (nds l):=by
 obtain ⟨ao,cap,rfl⟩:=own_form h.own;exact ⟨ao,cap,rfl,h.size,by rw [nds_len];exact (blk_cell h.blk 0).trans rfl,own_nodes h.own (fun s hs=>own_ints (h.kids s hs)) (fun s hs e=>own_nil (h.kids s hs) e) (Nat.le_refl _),by rw [nds_len];exact own_room h.own⟩
end
section
open Go.RowKit Tn
theorem IntsAt.low {N:Nat}{w:World}{ao:Option Addr}{ks:List Int}(h:IntsAt N w ao ks):IntsAt w.heap.size w ao ks:=fun i hi=>by
 obtain ⟨b,o,e,_,hc⟩:=h i hi;exact ⟨b,o,e,by have:=World.block_lt_of_cell? _ _ hc;exact this,hc⟩
def GetP (w:World)(n:Nd)(e:Ending)(w':World):Prop :=
 ∃ ka kc,e = .returned (.tuple #[nval n ka kc,.bool true])/\w'.ownsRow w.heap.size 3 1 (.slice ka n.kids.length kc) n.kids.length (ints n.kids)/\Below w.heap.size w w'
theorem get_yes (N:Nat)(bt:Nat)(ao:Option Addr)(cap:Nat)(ms:List Nd)(i:Nat)(w:World)(ht:TreeAt N w bt ao cap ms)(hN:N<=w.heap.size)(hi:i<ms.length)(hl:(nd ms i).kids.length<=999000):
  Calls Tryz.prog 31 #[.pointer (some ⟨bt,0,none⟩),.int .i64 (i:Int)] w (GetP w (nd ms i)):=by
 obtain ⟨W,hW⟩:∃ W,w.alloc (.cells #[.string ⟨#[]⟩,.int .i64 0,.int .i64 0,.string ⟨#[]⟩,.int .i64 0,.slice none 0 0] 30)=W:=⟨_,rfl⟩;have hb:Below w.heap.size w W:=by rw [<- hW];exact (Below.refl _ w).alloc (Nat.le_refl _) _
 have hsW:W.heap.size=w.heap.size+1:=by rw [<- hW];simp
 have s1:Six W w.heap.size 30 (.string ⟨#[]⟩) (.int .i64 0) (.int .i64 0) (.string ⟨#[]⟩) (.int .i64 0) (.slice none 0 0):=⟨by rw [<- hW];exact blk_new w _⟩;have hT:=ht.below (hb.mono hN);obtain ⟨b,o,ka,kc,rfl,hn⟩:=hT.nodes i hi;have hc:=hT.cell;have HC:=Lib.hid hc;have HW:=Lib.hid hW;have HS:=Lib.hid hsW;have HN:=Lib.hid hn;clear hc hW hsW hT ht
 go_enter Tryz.func31,Tryz.ntmps31
 go_wp2_with fail
 rw [HW.out];refine (has_yes bt _ ms.length cap i W HC.out (by omega) (by omega)).mono ?_;rintro e w' ⟨rfl,rfl⟩;have hc:=HC.out;have c0:=hn.c0;have c1:=hn.c1;have c2:=hn.c2;have c3:=hn.c3;have c4:=hn.c4;have c5:=hn.c5
 go_wp2_with fail
 refine (sep_any N (nd ms i) ka kc W HN.out.kids HN.out.nil hl).mono ?_;rintro e w1 ⟨ka1,kc1,rfl,hown,hb1⟩
 replace s1:=s1.below hb1 (by rw [HS.out];omega)
 clear c0 c1 c2 c3 c4 c5 hc hn;have d0:=s1.c0;have d1:=s1.c1;have d2:=s1.c2;have d3:=s1.c3;have d4:=s1.c4;have d5:=s1.c5;have g:=s1.fz;simp only [nval]
 go_wp2
 have s3:=s1.set (.string (nd ms i).op) (.int .i64 (nd ms i).line) (.int .i64 (nd ms i).col) (.string (nd ms i).name) (.int .i64 (nd ms i).num) (.slice ka1 (nd ms i).kids.length kc1);have hB:Below w.heap.size w (setSix w1 w.heap.size (.string (nd ms i).op) (.int .i64 (nd ms i).line) (.int .i64 (nd ms i).col) (.string (nd ms i).name) (.int .i64 (nd ms i).num) (.slice ka1 (nd ms i).kids.length kc1)):=below_setSix (hb.trans (hb1.mono hb.size)) (Nat.le_refl _) _ _ _ _ _ _;have hO:=own_mono (base':=w.heap.size) (own_setSix hown (b:=w.heap.size) (by rw [HS.out];omega) (.string (nd ms i).op) (.int .i64 (nd ms i).line) (.int .i64 (nd ms i).col) (.string (nd ms i).name) (.int .i64 (nd ms i).num) (.slice ka1 (nd ms i).kids.length kc1)) (by rw [HS.out];omega)
 change bodyPost Tryz.prog Tryz.f31 (GetP w (nd ms i)) Exit.ret _ (setSix w1 w.heap.size (.string (nd ms i).op) (.int .i64 (nd ms i).line) (.int .i64 (nd ms i).col) (.string (nd ms i).name) (.int .i64 (nd ms i).num) (.slice ka1 (nd ms i).kids.length kc1))
 generalize setSix w1 w.heap.size (.string (nd ms i).op) (.int .i64 (nd ms i).line) (.int .i64 (nd ms i).col) (.string (nd ms i).name) (.int .i64 (nd ms i).num) (.slice ka1 (nd ms i).kids.length kc1)=W3 at *;refine bodyPost_ret (v := .tuple #[nval (nd ms i) ka1 kc1,.bool true]) (by simp [results,Tryz.results31,go_sem,s3.c0,s3.c1,s3.c2,s3.c3,s3.c4,s3.c5,nval]) rfl ⟨ka1,kc1,rfl,hO,hB⟩
end
section
open Go.RowKit
def pk (a b:Nat):Value := .agg #[.int .i64 (a:Int),.int .i64 (b:Int)]
abbrev unitV:Value := .agg #[]
def pents:Nat->List (Nat × Nat)->List MapEntry
 | _,[]=>[]
 | i,x :: l=>⟨pk x.1 x.2,unitV,i⟩ :: pents (i+1) l
theorem pents_snoc (x:Nat × Nat):∀ (i:Nat) (l:List (Nat × Nat)),pents i (l++[x])=pents i l++[⟨pk x.1 x.2,unitV,i+l.length⟩]
 | i,[]=>rfl
 | i,a :: l=>by
  show ⟨_,_,_⟩ :: pents (i+1) (l++[x])=_
  rw [pents_snoc x (i+1) l,List.length_cons,show i+1+l.length=i+(l.length+1) by omega];rfl
theorem arr_info:(Tryz.prog.info? 3).map (fun i=>i.size)=some 1:=by kernel_rfl
theorem arr_under:Tryz.prog.underlying 128=some (.array 2 3):=by kernel_rfl
theorem known_under:Tryz.prog.underlying 98=some (.map 128 126):=by kernel_rfl
theorem int_under:Tryz.prog.underlying 3=some (.int .i64):=by kernel_rfl
theorem int_cells:Tryz.prog.cellsOf 3=1:=by kernel_rfl
theorem part0 (a b:Value)(W:World):(part 3 #[a,b] 0).run Tryz.prog W = .ok a W:=by kernel_rfl
theorem part1 (a b:Value)(W:World):(part 3 #[a,b] 1).run Tryz.prog W = .ok b W:=by kernel_rfl
theorem int_eq (d:Nat)(a b:Int)(W:World):(Op.equalIn (d+1) 3 (.int .i64 a) (.int .i64 b)).run Tryz.prog W = .ok (a==b) W:=by
 simp [Op.equalIn,Sem.run_bind,run_underlying int_under,Result.andThen]
theorem pk_eq (a b c d:Nat)(W:World):(Op.equal 128 (pk a b) (pk c d)).run Tryz.prog W = .ok (decide ((a,b)=(c,d))) W:=by
 obtain ⟨i,hi,_⟩:∃ i,Tryz.prog.info? 3=some i/\i.size=1:=by
  have h:=arr_info
  cases hq:Tryz.prog.info? 3 with
  | none=>rw [hq] at h;cases h
  | some i=>rw [hq] at h;exact ⟨i,rfl,by simpa using h⟩
 rw [Op.equal,show Op.maxDepth=9999+1 from rfl];unfold pk;rw [run_equalIn_array W 9999 _ _ arr_under hi,int_cells]
 show (Op.eqItems 9999 _ 1 _ _ [0,1]).run _ _=_
 rw [show (9999:Nat)=9998+1 from rfl];simp only [Op.eqItems,Sem.run_bind,Nat.zero_mul,Nat.one_mul,part0,part1,int_eq,Result.andThen]
 by_cases h1:a=c
 ·subst h1
  by_cases h2:b=d
  ·subst h2;simp [part1,int_eq,Result.andThen]
  ·have:((b:Int)==(d:Int))=false:=by simp;omega
   simp [part1,int_eq,Result.andThen,this,h2]
 ·have:((a:Int)==(c:Int))=false:=by simp;omega
  simp [this,h1]
theorem pk_check (e:Bool)(a b:Nat)(W:World):(Instr.checkKey e 10000 128 (pk a b)).run Tryz.prog W = .ok () W:=by cases e <;> kernel_rfl
theorem pk_asking (a b:Nat):∀ (l:List (Nat × Nat)) (i j:Nat) (W:World),∃ r,(Instr.findAsking 128 (pk a b) (pents i l) j).run Tryz.prog W = .ok r W/\(r.isSome=true↔(a,b)∈l)/\(∀ n v,r=some (n,v)->v=unitV)
 | [],_,_,W=>⟨none,rfl,by simp,fun n v e=>by cases e⟩
 | x :: l,i,j,W=>by
  rw [pents,Instr.findAsking];simp only [Sem.run_bind,pk_eq,Result.andThen]
  by_cases h:(a,b)=(x.1,x.2)
  ·refine ⟨some (j,unitV),by simp [h],by simp [h],fun n v e=>by injection e with e;injection e with _ e;exact e.symm⟩
  ·obtain ⟨r,h1,h2,h3⟩:=pk_asking a b l (i+1) (j+1) W;refine ⟨r,by simp only [h,decide_false,Bool.false_eq_true,if_false];exact h1, ?_,h3⟩;rw [h2,List.mem_cons]
   constructor
   ·exact .inr
   ·rintro (e | e)
    ·exact absurd e h
    ·exact e
theorem pk_find (a b:Nat)(l:List (Nat × Nat))(W:World):∃ r,(Instr.findKey 128 (pk a b) (pents 0 l)).run Tryz.prog W = .ok r W/\(r.isSome=true↔(a,b)∈l)/\(∀ n v,r=some (n,v)->v=unitV):=by
 rw [Instr.findKey];simp only [Sem.run_bind,run_underlying arr_under,Result.andThen]
 cases l with
 | nil=>exact ⟨none,rfl,by simp,fun n v e=>by cases e⟩
 | cons x l =>
  rw [show Instr.findNow (.array 2 3) (pk a b) (pents 0 (x :: l)) 0=none from rfl];exact pk_asking a b (x :: l) 0 0 W
theorem pobj_get {r:Nat}{es:Array MapEntry}{cl:Nat}{W:World}(h:W.heap[r]? = some (.map es cl)):(getObj r).run Tryz.prog W = .ok (.map es cl) W:=by simp [getObj,Sem.run,h]
theorem pobj_set {r:Nat}{es:Array MapEntry}{cl:Nat}{W:World}(o:Obj)(h:W.heap[r]? = some (.map es cl)):(setObj r o).run Tryz.prog W = .ok () { W with heap:=W.heap.setIfInBounds r o } := by simp [setObj,Sem.run,h]
theorem punit_zero (W:World):(zeroValue 126).run Tryz.prog W = .ok unitV W:=by kernel_rfl
def KnownAt (W:World)(r:Nat)(l:List (Nat × Nat)):Prop:=W.heap[r]? = some (.map (pents 0 l).toArray l.length)
theorem pknown_make (w:World):(Instr.makeMap 98 none).run Tryz.prog w = .ok (.map (some w.heap.size)) (w.alloc (.map #[] 0)):=rfl
theorem pknown_look {r a b:Nat}{l:List (Nat × Nat)}{W:World}(hb:KnownAt W r l):(Instr.lookup 98 (.map (some r)) (pk a b) true).run Tryz.prog W = .ok (.tuple #[unitV,.bool (decide ((a,b)∈l))]) W:=by
 obtain ⟨f,h1,h2,h3⟩:=pk_find a b l W;rw [Instr.lookup];simp only [Sem.run_bind,run_underlying known_under,Result.andThen,pobj_get hb,pk_check,h1,Sem.run_pure]
 cases f with
 | none =>
  have:(a,b) ∉ l:=fun e=>by have:=h2.2 e;cases this
  simp only [Sem.run_bind,punit_zero,Result.andThen,Sem.run_pure,if_true,decide_eq_false this]
 | some x =>
  obtain ⟨n,v⟩:=x;have:(a,b)∈l:=h2.1 rfl;simp only [Sem.run_bind,Sem.run_pure,Result.andThen,if_true,decide_eq_true this,h3 n v rfl]
theorem pknown_put {r a b:Nat}{l:List (Nat × Nat)}{W:World}(hb:KnownAt W r l)(h:(a,b) ∉ l):(Instr.mapUpdate 98 (.map (some r)) (pk a b) unitV).run Tryz.prog W = .ok () { W with heap:=W.heap.setIfInBounds r (.map (pents 0 (l++[(a,b)])).toArray (l++[(a,b)]).length) } := by
 obtain ⟨f,h1,h2,h3⟩:=pk_find a b l W;rw [Instr.mapUpdate];simp only [Sem.run_bind,run_underlying known_under,Result.andThen,pobj_get hb,pk_check,h1]
 cases f with
 | none =>
  simp only [pobj_set _ hb];rw [pents_snoc,List.length_append]
  simp
 | some x=>exact absurd (h2.1 rfl) h
end
end Go.Proofs.YtninlbknklbofaaGreatDoor
namespace Go.Proofs.YtninlbknklbofaaGreatDoor.Tn
def headB (x y:Nd):Bool:=decide (x.op=y.op) && decide (x.name=y.name) && decide (x.num=y.num) && decide (x.kids.length=y.kids.length)
def sameF (ns ms:List Nd):Nat->Nat->Nat->Bool
 | 0,_,_=>false
 | u+1,i,k=>headB (nd ns i) (nd ms k) && (List.range (nd ns i).kids.length).all fun j=>sameF ns ms u (kid (nd ns i).kids j).toNat (kid (nd ms k).kids j).toNat
def sameB (ns ms:List Nd)(i k:Nat):Bool:=sameF ns ms (i+1) i k
theorem all_congr {l:List Nat}{f g:Nat->Bool}(h:∀ j∈l,f j=g j):l.all f=l.all g:=by
 induction l with
 | nil=>rfl
 | cons a l ih=>rw [List.all_cons,List.all_cons,h a (by simp),ih fun j hj=>h j (by simp [hj])]
theorem sameF_fuel {ns ms:List Nd}(hw:WF ns)(u:Nat):∀ v i k,i<ns.length->i<u->i<v->sameF ns ms u i k=sameF ns ms v i k:=by
 induction u with
 | zero=>intro v i k _ h;omega
 | succ u ih =>
  intro v i k hi hu hv;obtain ⟨v,rfl⟩:∃ v',v=v'+1:=⟨v-1,by omega⟩;simp only [sameF]
  congr 1
  refine all_congr fun j hj=>?_;have hm:=kid_lt hw hi (kid_mem (List.mem_range.1 hj));exact ih v _ _ (by omega) (by omega) (by omega)
theorem sameB_eq {ns ms:List Nd}(hw:WF ns){i k:Nat}(hi:i<ns.length):sameB ns ms i k=(headB (nd ns i) (nd ms k) && (List.range (nd ns i).kids.length).all fun j=>sameB ns ms (kid (nd ns i).kids j).toNat (kid (nd ms k).kids j).toNat):=by
 rw [sameB,sameF]
 congr 1
 refine all_congr fun j hj=>?_;have hm:=kid_lt hw hi (kid_mem (List.mem_range.1 hj));exact sameF_fuel hw i _ _ _ (by omega) (by omega) (by omega)
theorem headB_iff {x y:Nd} : headB x y=true↔x.op=y.op/\x.name=y.name/\x.num=y.num/\x.kids.length=y.kids.length:=by
 simp [headB,and_assoc]
theorem sameB_no {ns ms:List Nd}(hw:WF ns){i k:Nat}(hi:i<ns.length)(h:headB (nd ns i) (nd ms k)=false):sameB ns ms i k=false:=by rw [sameB_eq hw hi,h];rfl
theorem sameB_kid {ns ms:List Nd}(hw:WF ns){i k j:Nat}(hi:i<ns.length)(hj:j<(nd ns i).kids.length)(h:sameB ns ms (kid (nd ns i).kids j).toNat (kid (nd ms k).kids j).toNat=false):sameB ns ms i k=false:=by
 rw [sameB_eq hw hi,Bool.and_eq_false_iff];right;rw [List.all_eq_false];exact ⟨j,List.mem_range.2 hj,by rw [h];simp⟩
theorem sameB_yes {ns ms:List Nd}(hw:WF ns){i k:Nat}(hi:i<ns.length)(h:headB (nd ns i) (nd ms k)=true)(hk:∀ j,j<(nd ns i).kids.length->sameB ns ms (kid (nd ns i).kids j).toNat (kid (nd ms k).kids j).toNat=true):sameB ns ms i k=true:=by
 rw [sameB_eq hw hi,h,Bool.true_and,List.all_eq_true];exact fun j hj=>hk j (List.mem_range.1 hj)
theorem sameB_inv {ns ms:List Nd}(hw:WF ns){i k:Nat}(hi:i<ns.length)(h:sameB ns ms i k=true):headB (nd ns i) (nd ms k)=true/\∀ j,j<(nd ns i).kids.length->sameB ns ms (kid (nd ns i).kids j).toNat (kid (nd ms k).kids j).toNat=true:=by
 rw [sameB_eq hw hi,Bool.and_eq_true,List.all_eq_true] at h;exact ⟨h.1,fun j hj=>h.2 j (List.mem_range.2 hj)⟩
end Go.Proofs.YtninlbknklbofaaGreatDoor.Tn
