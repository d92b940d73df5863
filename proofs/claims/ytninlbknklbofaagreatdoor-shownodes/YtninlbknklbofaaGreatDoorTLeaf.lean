/- A part of the proof: A part of the proof. -/
import Derived.RangeFuncNested
import Derived.RangeFuncBound
import Derived.RangeFuncCalls
import Derived.RangeFuncLeaves
import Derived.WalkKit
import Derived.Below
import Derived.Test.YtninlbknklbofaaGreatDoorLToks
import Derived.Test.YtninlbknklbofaaGreatDoorRows
import Derived.WalkSpells
import Derived.WalkLawsBesides
import Derived.Lib.Hide
set_option linter.unusedSimpArgs false
set_option linter.unusedVariables false
namespace Go.Proofs.YtninlbknklbofaaGreatDoor.Tn
structure Nd where
 op:ByteArray
 line:Int
 col:Int
 name:ByteArray
 num:Int
 kids:List Int
instance:Inhabited Nd:=⟨⟨ByteArray.mk #[],0,0,ByteArray.mk #[],0,[]⟩⟩
def nd (ms:List Nd)(i:Nat):Nd:=ms.getD i default
def kid (ks:List Int)(i:Nat):Int:=ks.getD i 0
def fits (len:Nat)(n:Nd):Bool:=n.kids.all fun k=>decide (0<=k) && decide (k<(len:Int))
def add (ms:List Nd)(n:Nd):List Nd:=if fits ms.length n=true then ms++[n] else ms
def build (l:List Nd):List Nd:=l.foldl add []
def WF (ms:List Nd):Prop:=∀ i,i<ms.length->∀ k∈(nd ms i).kids,0<=k/\k<(i:Int)
theorem nd_lt (ms:List Nd)(n:Nd){i:Nat}(h:i<ms.length):nd (ms++[n]) i=nd ms i:=by
 simp [nd,List.getElem?_append_left h]
theorem nd_last (ms:List Nd)(n:Nd):nd (ms++[n]) ms.length=n:=by simp [nd]
theorem kid_mem {ks:List Int}{i:Nat}(h:i<ks.length):kid ks i∈ks:=by
 simp only [kid,List.getD_eq_getElem?_getD,List.getElem?_eq_getElem h,Option.getD_some];exact List.getElem_mem h
theorem mem_kid {ks:List Int}{k:Int}(h:k∈ks):∃ i,i<ks.length/\kid ks i=k:=by
 obtain ⟨i,hi,e⟩:=List.mem_iff_getElem.1 h;exact ⟨i,hi,by rw [kid,List.getD_eq_getElem?_getD,List.getElem?_eq_getElem hi];exact e⟩
theorem fits_iff {len:Nat}{n:Nd} : fits len n=true↔∀ k∈n.kids,0<=k/\k<(len:Int):=by simp [fits]
theorem fits_at {len:Nat}{n:Nd} : fits len n=true↔∀ i,i<n.kids.length->0<=kid n.kids i/\kid n.kids i<(len:Int):=by
 rw [fits_iff]
 constructor
 ·intro h i hi;exact h _ (kid_mem hi)
 ·intro h k hk;obtain ⟨i,hi,rfl⟩:=mem_kid hk;exact h i hi
theorem WF.nil:WF []:=fun i h=>by simp at h
theorem WF.snoc {ms:List Nd}{n:Nd}(h:WF ms)(hf:fits ms.length n=true):WF (ms++[n]):=by
 intro i hi k hk
 by_cases e:i<ms.length
 ·rw [nd_lt ms n e] at hk;exact h i e k hk
 ·obtain rfl:i=ms.length:=by simp at hi;omega
  rw [nd_last] at hk;exact fits_iff.1 hf k hk
theorem WF.add {ms:List Nd}{n:Nd}(h:WF ms):WF (add ms n):=by
 unfold Tn.add;split
 ·exact h.snoc ‹_›
 ·exact h
theorem build_snoc (l:List Nd)(n:Nd):build (l++[n])=add (build l) n:=by simp [build]
theorem WF.ofBuild (l:List Nd):WF (build l):=by
 suffices ∀ ms,WF ms->WF (l.foldl Tn.add ms) from this [] WF.nil
 induction l with
 | nil=>intro ms h;exact h
 | cons n l ih=>intro ms h;exact ih _ h.add
theorem add_len (ms:List Nd)(n:Nd):(add ms n).length<=ms.length+1:=by unfold add;split <;> simp
theorem build_len (l:List Nd):(build l).length<=l.length:=by
 suffices ∀ ms,(l.foldl add ms).length<=ms.length+l.length from by simpa [build] using this []
 induction l with
 | nil=>intro ms;simp
 | cons n l ih=>intro ms;have:=ih (add ms n);have:=add_len ms n;simp only [List.foldl_cons,List.length_cons];omega
def meas (f:Int->Int->Int)(ms:List Nd):Nat->Nat->Int
 | 0,_=>0
 | u+1,i=>(nd ms i).kids.foldl (fun a k=>f a (meas f ms u k.toNat)) 0+1
def M (f:Int->Int->Int)(ms:List Nd)(i:Nat):Int:=meas f ms (i+1) i
def places (ms:List Nd):Nat->Nat->List Nat
 | 0,_=>[]
 | u+1,i=>i :: (nd ms i).kids.flatMap fun k=>places ms u k.toNat
def Pl (ms:List Nd)(i:Nat):List Nat:=places ms (i+1) i
theorem flatMap_congr {β:Type}{f g:Int->List β}(l:List Int)(h:∀ k∈l,f k=g k):l.flatMap f=l.flatMap g:=by
 induction l with
 | nil=>rfl
 | cons k l ih =>
  simp only [List.flatMap_cons];rw [h k (by simp),ih fun k hk=>h k (by simp [hk])]
theorem kid_lt {ms:List Nd}(hw:WF ms){i:Nat}(hi:i<ms.length){k:Int}(hk:k∈(nd ms i).kids):k.toNat<i/\((k.toNat:Nat):Int)=k:=by
 have:=hw i hi k hk;omega
theorem places_fuel {ms:List Nd}(hw:WF ms)(u:Nat):∀ v i,i<ms.length->i<u->i<v->places ms u i=places ms v i:=by
 induction u with
 | zero=>intro v i _ h;omega
 | succ u ih =>
  intro v i hi hu hv;obtain ⟨v,rfl⟩:∃ v',v=v'+1:=⟨v-1,by omega⟩;simp only [places];rw [flatMap_congr];intro k hk;have:=kid_lt hw hi hk;rw [ih v k.toNat (by omega) (by omega) (by omega)]
theorem take_succ_kid {ks:List Int}{j:Nat}(h:j<ks.length):ks.take (j+1)=ks.take j++[kid ks j]:=by
 rw [List.take_succ_eq_append_getElem h];simp [kid,h]
def partPl (ms:List Nd)(ks:List Int)(j:Nat):List Nat:=(ks.take j).flatMap fun k=>Pl ms k.toNat
theorem Pl_eq {ms:List Nd}(hw:WF ms){i:Nat}(hi:i<ms.length):Pl ms i=i :: partPl ms (nd ms i).kids (nd ms i).kids.length:=by
 simp only [Pl,places,partPl,List.take_length];rw [flatMap_congr];intro k hk;have:=kid_lt hw hi hk;rw [places_fuel hw i (k.toNat+1) k.toNat (by omega) (by omega) (by omega)];rfl
theorem partPl_zero (ms:List Nd)(ks:List Int):partPl ms ks 0=[]:=rfl
theorem partPl_succ (ms:List Nd){ks:List Int}{j:Nat}(h:j<ks.length):partPl ms ks (j+1)=partPl ms ks j++Pl ms (kid ks j).toNat:=by
 simp only [partPl,take_succ_kid h,List.flatMap_append,List.flatMap_cons,List.flatMap_nil,List.append_nil]
theorem partPl_le (ms:List Nd)(ks:List Int){j:Nat}(hj:j<=ks.length):(partPl ms ks j).length<=(partPl ms ks ks.length).length:=by
 obtain ⟨d,hd⟩:∃ d,ks.length=j+d:=⟨_,(Nat.add_sub_cancel' hj).symm⟩;have:∀ d,j+d<=ks.length->(partPl ms ks j).length<=(partPl ms ks (j+d)).length:=by
  intro d
  induction d with
  | zero=>intro _;exact Nat.le_refl _
  | succ d ih =>
   intro h;have:=ih (by omega);rw [<- Nat.add_assoc,partPl_succ _ (by omega),List.length_append];omega
 rw [hd];exact this d (by omega)
theorem Pl_lt {ms:List Nd}(hw:WF ms)(n:Nd)(hf:fits ms.length n=true)(i:Nat):i<ms.length->Pl (ms++[n]) i=Pl ms i:=by
 have hw':=hw.snoc hf
 induction i using Nat.strongRecOn with
 | _ i ih =>
  intro hi;rw [Pl_eq hw hi,Pl_eq hw' (by simp;omega),nd_lt ms n hi]
  congr 1
  simp only [partPl,List.take_length];refine flatMap_congr _ fun k hk=>?_;have:=kid_lt hw hi hk;exact ih _ this.1 (by omega)
def Good (ms:List Nd):Prop:=ms.length<=999000/\∀ i,i<ms.length->(Pl ms i).length<=999000
theorem Good.nil:Good []:=⟨by simp,fun i h=>by simp at h⟩
end Go.Proofs.YtninlbknklbofaaGreatDoor.Tn
namespace Go.Proofs.YtninlbknklbofaaGreatDoor
section
open Go.RowKit
structure Kept (N:Nat)(M:Nat->TypeId->Prop)(W W':World):Prop where
 below:Below N W W'
 same:∀ b c t r,¬ M b t->W.heap[b]? = some (.cells c t r)->W'.heap[b]? = some (.cells c t r)
def Still (N:Nat)(W W':World):Prop:=Kept N (fun _ _=>False) W W'
theorem Kept.refl (N:Nat)(M:Nat->TypeId->Prop)(W:World):Kept N M W W:=⟨Below.refl _ _,fun _ _ _ _ _ h=>h⟩
theorem Kept.trans {N:Nat}{M:Nat->TypeId->Prop}{A B C:World}(h:Kept N M A B)(k:Kept N M B C):Kept N M A C :=
 ⟨h.below.trans k.below,fun b c t r hm hb=>k.same b c t r hm (h.same b c t r hm hb)⟩
theorem Kept.size {N:Nat}{M:Nat->TypeId->Prop}{A B:World}(h:Kept N M A B):A.heap.size<=B.heap.size:=h.below.size
theorem Kept.mono {N N':Nat}{M M':Nat->TypeId->Prop}{A B:World}(h:Kept N M A B)(hN:N'<=N)(hM:∀ b t,M b t->M' b t):Kept N' M' A B :=
 ⟨h.below.mono hN,fun b c t r hm=>h.same b c t r (fun e=>hm (hM b t e))⟩
theorem Still.refl (N:Nat)(W:World):Still N W W:=Kept.refl _ _ _
theorem Still.trans {N:Nat}{A B C:World}(h:Still N A B)(k:Still N B C):Still N A C:=Kept.trans h k
theorem Still.kept {N:Nat}{A B:World}(h:Still N A B)(M:Nat->TypeId->Prop):Kept N M A B:=Kept.mono h (Nat.le_refl _) (fun _ _ e=>e.elim)
theorem lt_of_heap {W:World}{b:Nat}{o:Obj}(h:W.heap[b]? = some o):b<W.heap.size:=(Array.getElem?_eq_some_iff.1 h).1
theorem Still.of_below {N:Nat}{A B:World}(h:Below A.heap.size A B)(hN:N<=A.heap.size):Still N A B :=
 ⟨h.mono hN,fun b _ _ _ _ hb=>(h.block b (lt_of_heap hb)).trans hb⟩
theorem Still.alloc (N:Nat)(W:World)(o:Obj)(hN:N<=W.heap.size):Still N W (W.alloc o):=Still.of_below ((Below.refl _ _).alloc (Nat.le_refl _) _) hN
theorem Still.putObj {N:Nat}{W:World}{l:Nat}{o:Obj}(o':Obj)(hN:N<=l)(hl:W.heap[l]? = some o)(ho:o.isCells=false):Still N W (W.putObj l o'):=by
 refine ⟨⟨rfl,rfl,rfl,by simp,fun k hk=>World.putObj_heap_other (by omega)⟩,fun b c t r _ hb=>?_⟩;rw [World.putObj_heap_other]
 ·exact hb
 ·rintro rfl;rw [hl] at hb;cases hb;cases ho
theorem Kept.cell {N:Nat}{M:Nat->TypeId->Prop}{A B:World}(h:Kept N M A B){p:Addr}{v:Value}(hc:A.cell? p=some v)(hm:∀ t c r,A.heap[p.block]? = some (.cells c t r)->¬ M p.block t):B.cell? p=some v:=by
 obtain ⟨o,ho,hoc⟩:=cells_of_cell hc
 cases o <;> first | cases hoc | skip
 rename_i c t r;have e:=h.same p.block c t r (hm t c r ho) ho;unfold World.cell? at hc ⊢;rw [e];rw [ho] at hc;exact hc
theorem Still.cell {N:Nat}{A B:World}(h:Still N A B){p:Addr}{v:Value}(hc:A.cell? p=some v):B.cell? p=some v:=Kept.cell h hc (fun _ _ _ _ e=>e)
theorem Still.frozen {N:Nat}{A B:World}(h:Still N A B){p:Addr}{v:Value}(hc:A.cell? p=some v):B.frozen? p=A.frozen? p:=by
 obtain ⟨o,ho,hoc⟩:=cells_of_cell hc
 cases o <;> first | cases hoc | skip
 rename_i c t r;have e:=h.same p.block c t r (fun e=>e) ho;unfold World.frozen?;rw [e,ho]
def Defs (A B:World):Prop:=∀ (k:Nat) (d:Option (List Deferred)),A.heap[k]? = some (Obj.deferred d)->B.heap[k]? = some (Obj.deferred d)
theorem Defs.refl (A:World):Defs A A:=fun _ _ h=>h
theorem Defs.trans {A B C:World}(h:Defs A B)(k:Defs B C):Defs A C:=fun i d e=>k i d (h i d e)
theorem Defs.of_others {A B:World}(h:KeepsOthers A B):Defs A B:=fun k _ e=>h.same k _ e rfl
theorem Defs.putObj {A:World}{l:Nat}{r:Loop}(o:Obj)(h:A.heap[l]? = some (.loop r)):Defs A (A.putObj l o):=fun k d e=>by
 rw [World.putObj_heap_other]
 ·exact e
 ·rintro rfl;rw [h] at e;cases e
theorem others_of_below {A B:World}(h:Below A.heap.size A B):KeepsOthers A B:=⟨h.size,fun k _ hk _=>(h.block k (lt_of_heap hk)).trans hk⟩
theorem calls_fig {m m':Nat}{P:Program}{f:FuncId}{args:Array Value}{w:World}{R:Ending->World->Prop}(h:CallsIn Fence.wide m P f args w R):CallsIn Fence.wide m' P f args w R:=callsIn_wide.2 (callsIn_wide.1 h)
section
variable {α:Type}
def Iterates (P:Program)(gf:Nat)(lb:Array Value)(l:Nat)(encs:α->Array Value)(G:World->List α->α->World->Prop)(N:Nat)(M:Nat->TypeId->Prop)(S Sp:List α->Prop)(W:World):Prop :=
 ∀ (J Jx:List α->World->Prop),(∀ s A B,J s A->Still W.heap.size A B->J s B)->(∀ s A B,Jx s A->Still W.heap.size A B->Jx s B) ->
  (∀ pre x W0 W1,J pre W0->Below W0.heap.size W0 W1->G W0 pre x W1->YieldAt Fence.wide 0 P l (encs x) W1 fun e W' =>
   (e = .returned (.bool true)/\J (pre++[x]) W'/\Kept N M W1 W'/\Defs W1 W')\/(e = .returned (.bool false)/\Jx (pre++[x]) W'/\Defs W1 W')) ->
  J [] W ->
  CallsIn Fence.wide 0 P gf (#[.func (.yield l) #[] #[]]++lb) W fun e W'=>(∃ v,e = .returned v)/\((∃ xs,S xs/\J xs W')\/(∃ pre,Sp pre/\Jx pre W'))
def roundOut (N:Nat)(M:Nat->TypeId->Prop)(I:List α->World->Prop)(Ix:Code->List α->World->Prop)(xs:List α)(W:World):Exit->Act->World->Prop
 | .normal,_,W'=>KeepsOthers W W'/\Kept N M W W'/\I xs W'
 | .ret,_,W'=>KeepsOthers W W'/\Ix .ret xs W'
 | .exit id,_,W'=>KeepsOthers W W'/\Ix (.exit id) xs W'
 | .goto t,_,W'=>KeepsOthers W W'/\Ix (.goto t) xs W'
 | .panic _,_,_=>False
 | .outgrown,_,_=>False
theorem round_end {P:Program}{N:Nat}{M:Nat->TypeId->Prop}{I:List α->World->Prop}{Ix:Code->List α->World->Prop}{xs:List α}{W0 W:World}{l D:Nat}{rec:LoopState->Option Code->Loop}
  (hrec:∀ s p s' p',{ rec s p with state:=s',pending:=p' } = rec s' p')
  (hI:∀ s A B,I s A->Still N A B->I s B) (hIx:∀ c s A B,Ix c s A->Still N A B->Ix c s B) (hN:N<=l) (hD:D≠l)
  (hl:W.heap[l]? = some (.loop (rec .busy none))) (hd:W.heap[D]? = some (.deferred (some []))) (hW:Kept N M W0 W) (hDf:Defs W0 W) (e:Exit) (a:Act) (W':World) (h:roundOut N M I Ix xs W e a W'):
  roundPost P l (fun e W' =>
   (e = .returned (.bool true)/\(I xs W'/\W'.heap[l]? = some (.loop (rec .ready none))/\W'.heap[D]? = some (.deferred (some [])))/\Kept N M W0 W'/\Defs W0 W') \/
   (e = .returned (.bool false)/\(∃ c,Ix c xs W'/\W'.heap[l]? = some (.loop (rec .done (some c)))/\W'.heap[D]? = some (.deferred (some [])))/\Defs W0 W')) e a W':=by
 have fin:∀ (jump:Option Code),KeepsOthers W W' ->
   (Instr.endRound l jump).run P W' = .ok (.bool jump.isNone) (W'.putObj l (.loop (rec (if jump.isNone then .ready else .done) jump)))/\Still N W' (W'.putObj l (.loop (rec (if jump.isNone then .ready else .done) jump))) /\
   (W'.putObj l (.loop (rec (if jump.isNone then .ready else .done) jump))).heap[l]? = some (.loop (rec (if jump.isNone then .ready else .done) jump)) /\
   (W'.putObj l (.loop (rec (if jump.isNone then .ready else .done) jump))).heap[D]? = some (.deferred (some []))/\Defs W0 (W'.putObj l (.loop (rec (if jump.isNone then .ready else .done) jump))):=by
  intro jump hk;have hl':=hk.same _ _ hl rfl;have:=run_endRound (P:=P) jump hl';rw [hrec] at this;exact ⟨this,Still.putObj _ hN hl' rfl,World.putObj_heap_same (lt_of_heap hl'),(World.putObj_heap_other hD).trans (hk.same _ _ hd rfl),hDf.trans ((Defs.of_others hk).trans (Defs.putObj _ hl'))⟩
 have out:∀ c,KeepsOthers W W'->Ix c xs W'->∃ v w',(Instr.endRound l (some c)).run P W' = .ok v w' /\
   ((Ending.returned v = .returned (.bool true)/\(I xs w'/\w'.heap[l]? = some (.loop (rec .ready none))/\w'.heap[D]? = some (.deferred (some [])))/\Kept N M W0 w'/\Defs W0 w') \/
   (Ending.returned v = .returned (.bool false)/\(∃ c,Ix c xs w'/\w'.heap[l]? = some (.loop (rec .done (some c)))/\w'.heap[D]? = some (.deferred (some [])))/\Defs W0 w')):=by
  intro c hk hx;obtain ⟨r1,r2,r3,r4,r5⟩:=fin (some c) hk;exact ⟨_,_,r1,.inr ⟨rfl,⟨c,hIx _ _ _ _ hx r2,r3,r4⟩,r5⟩⟩
 cases e with
 | normal =>
  obtain ⟨hk,hkp,hi⟩:=h;obtain ⟨r1,r2,r3,r4,r5⟩:=fin none hk;exact ⟨_,_,r1,.inl ⟨rfl,⟨hI _ _ _ hi r2,r3,r4⟩,hW.trans (hkp.trans (r2.kept M)),r5⟩⟩
 | ret=>exact out _ h.1 h.2
 | exit id=>exact out _ h.1 h.2
 | goto t=>exact out _ h.1 h.2
 | panic ch=>exact h.elim
 | outgrown=>exact h.elim
theorem wp_range {P:Program}{g:Operand}{ps:Array Tmp}{assign body:Code}{Q:Exit->Act->World->Prop}{a:Act}{w:World}{n:Nat}{gf:Nat}{lb:Array Value}
  {encs:α->Array Value} {G:World->List α->α->World->Prop} {N:Nat} {M:Nat->TypeId->Prop} {S Sp:List α->Prop}
  (hg:a.eval g = .func (.func gf) #[] lb) (eg:∀ args w,(callFunc gf args).run P w = .ok (.enter gf args) w) (hps:∀ x,(encs x).size=ps.size) (hN:N<=w.heap.size)
  (hseq:∀ l W,Below w.heap.size w W->Iterates P gf lb l encs G N M S Sp W)
  (I:List α->World->Prop) (Ix:Code->List α->World->Prop) (A:List α->α->Act->World->Prop)
  (hI:∀ s A B,I s A->Still N A B->I s B) (hIx:∀ c s A B,Ix c s A->Still N A B->Ix c s B) (hG:∀ W0 s x A B,G W0 s x A->Still N A B->G W0 s x B) (hA:∀ s x a C B,A s x a C->Still N C B->A s x a B)
  (h0:I [] w)
  (hassign:∀ (l:Nat) (pre:List α) (x:α) (W0 W:World),I pre W0->Still N W0 W->G W0 pre x W ->
   assign.wpIn (Fence.wide.inRound l) 0 P (Exit.then (fun a₁ W₁=>KeepsOthers W W₁/\Still N W W₁/\A pre x a₁ W₁) (fun _ _ _=>False)) { tmps:=(ps.zip (encs x)).foldl (fun t (p,v)=>t.setIfInBounds p v) a.tmps,defers:=[] } W)
  (hbody:∀ (l:Nat) (pre:List α) (x:α) (a₁:Act) (W0 W:World),I pre W0->Still N W0 W->G W0 pre x W->A pre x a₁ W->body.wpIn (Fence.wide.inRound l) 0 P (roundOut N M I Ix (pre++[x]) W) a₁ W)
  (hdone:∀ (D:Nat) (xs:List α) (W:World),w.heap.size<=D->S xs->I xs W->W.heap[D]? = some (.deferred (some []))->Q .normal { a with defers:={ target := .collected D,args:=#[] } :: a.defers } W)
  (hstop:∀ (D:Nat) (c:Code) (pre:List α) (W:World),w.heap.size<=D->Sp pre->Ix c pre W->W.heap[D]? = some (.deferred (some []))->c.wpIn Fence.wide n P Q { a with defers:={ target := .collected D,args:=#[] } :: a.defers } W):
  (Code.rangeFunc g ps assign body).wpIn Fence.wide n P Q a w:=by
 refine wpIn_rangeFunc fun fn hfn=>?_;obtain ⟨rec,hrec⟩:∃ rec:LoopState->Option Code->Loop,rec=fun st pe=>{ state:=st,pending:=pe,fn,tmps:=a.tmps,params:=ps,assign,body,defers:=w.heap.size } := ⟨_,rfl⟩;have hup:∀ s p s' p',{ rec s p with state:=s',pending:=p' } = rec s' p':=by intros;rw [hrec]
 obtain ⟨W1,hW1⟩:∃ W1,(w.alloc (.deferred (some []))).alloc (.loop (rec .ready none))=W1:=⟨_,rfl⟩;have hb1:Below w.heap.size w W1:=by rw [<- hW1];exact ((Below.refl _ w).alloc (Nat.le_refl _) _).alloc (by simp) _
 have hl1:W1.heap[w.heap.size+1]? = some (.loop (rec .ready none)):=by
  rw [<- hW1];have:=World.alloc_heap_new (w.alloc (.deferred (some []))) (.loop (rec .ready none));rwa [World.size_alloc] at this
 have hd1:W1.heap[w.heap.size]? = some (.deferred (some [])):=by
  rw [<- hW1,Below.heap_alloc _ _ _ (by simp)];exact World.alloc_heap_new w _
 refine ⟨w.heap.size+1,[{ target := .collected w.heap.size,args:=#[] }],W1,{ target := .fn (.func gf) lb,args:=#[.func (.yield (w.heap.size+1)) #[] #[]] },W1,gf,
  #[.func (.yield (w.heap.size+1)) #[] #[]]++lb,W1, ?_, ?_,fun _ _=>trivial, ?_,fun h=>(by cases h), ?_⟩
 ·rw [<- hW1,hrec];exact run_enterLoop_outer _ _ _ _ _
 ·simp only [resolve,hg];simp [go_sem]
 ·simp [invoke,go_sem,eg]
 ·refine calls_fig ((hseq (w.heap.size+1) W1 hb1
   (fun pre W=>I pre W/\W.heap[w.heap.size+1]? = some (.loop (rec .ready none))/\W.heap[w.heap.size]? = some (.deferred (some [])))
   (fun pre W=>∃ c,Ix c pre W/\W.heap[w.heap.size+1]? = some (.loop (rec .done (some c)))/\W.heap[w.heap.size]? = some (.deferred (some []))) ?_ ?_ ?_ ?_).mono ?_)
  ·rintro s X B ⟨h1,h2,h3⟩ hb;have q1:=lt_of_heap hl1;have q2:=lt_of_heap hd1;exact ⟨hI _ _ _ h1 (Kept.mono hb (by omega) (fun _ _ e=>e)),(hb.below.block _ q1).trans h2,(hb.below.block _ q2).trans h3⟩
  ·rintro s X B ⟨c,h1,h2,h3⟩ hb;have q1:=lt_of_heap hl1;have q2:=lt_of_heap hd1;exact ⟨c,hIx _ _ _ _ h1 (Kept.mono hb (by omega) (fun _ _ e=>e)),(hb.below.block _ q1).trans h2,(hb.below.block _ q2).trans h3⟩
  ·rintro pre x W0 W ⟨hi,hl0,hd0⟩ hbw hgx;have hl:=(hbw.block _ (lt_of_heap hl0)).trans hl0;have hd:=(hbw.block _ (lt_of_heap hd0)).trans hd0;have hs0:Still N W0 W:=Still.of_below hbw (by have:=lt_of_heap hd0;omega);have hy:=run_yield (P:=P) (args:=encs x) hl (by rw [hrec];exact hps x);have e1:(rec .ready none).tmps=a.tmps:=by rw [hrec]
   have e2:(rec .ready none).params=ps:=by rw [hrec]
   have e3:(rec .ready none).assign=assign:=by rw [hrec]
   have e4:(rec .ready none).body=body:=by rw [hrec]
   have e5:(rec .ready none).fn=fn:=by rw [hrec]
   rw [e1,e2,e3,e4,e5] at hy;refine ⟨fn,_,assign,body,hy,roundIn_of_wpIn hfn (wpIn_mono (hassign (w.heap.size+1) pre x W0 W hi hs0 hgx) ?_)⟩;rintro e a₁ W₁ hq
   cases e <;> first | exact hq.elim | skip
   obtain ⟨ho,hs,ha⟩:=hq;have hl':=ho.same _ _ hl rfl;have hd':=ho.same _ _ hd rfl;have hb:=run_beginRound (P:=P) hl' (by rw [hrec]);rw [show ({ rec .ready none with state := .busy } : Loop)=rec .busy none from by rw [hrec]] at hb;have hs2:Still N W₁ (W₁.putObj (w.heap.size+1) (.loop (rec .busy none))):=Still.putObj _ (by omega) hl' rfl;refine ⟨_,hb,wpIn_mono (hbody (w.heap.size+1) pre x a₁ W0 _ hi (hs0.trans (hs.trans hs2)) (hG _ _ _ _ _ hgx (hs.trans hs2)) (hA _ _ _ _ _ ha hs2)) ?_⟩;intro e a₂ W₂ h2;exact round_end hup hI hIx (by omega) (by omega) (World.putObj_heap_same (lt_of_heap hl')) ((World.putObj_heap_other (by omega)).trans hd') ((hs.trans hs2).kept M) ((Defs.of_others ho).trans (Defs.putObj _ hl')) e a₂ W₂ h2
  ·exact ⟨hI _ _ _ h0 (Still.of_below hb1 hN),hl1,hd1⟩
  ·rintro e W2 ⟨⟨v,rfl⟩,(⟨xs,hS,hi,hl,hd⟩ | ⟨pre,hSp,c,hi,hl,hd⟩)⟩
   ·have:=run_endLoop (P:=P) hl (by rw [hrec];simp);rw [show (rec .ready none).pending=none from by rw [hrec]] at this;exact ⟨none,_,this,hdone _ xs _ (Nat.le_refl _) hS (hI _ _ _ hi (Still.putObj _ (by omega) hl rfl)) ((World.putObj_heap_other (by omega)).trans hd)⟩
   ·have:=run_endLoop (P:=P) hl (by rw [hrec];simp);rw [show (rec .done (some c)).pending=some c from by rw [hrec]] at this;exact ⟨some c,_,this,hstop _ c pre _ (Nat.le_refl _) hSp (hIx _ _ _ _ hi (Still.putObj _ (by omega) hl rfl)) ((World.putObj_heap_other (by omega)).trans hd)⟩
end
end
section
open Go.RowKit Tn
def IntsAt (N:Nat)(w:World)(ao:Option Addr)(ks:List Int):Prop :=
 ∀ i,i<ks.length->∃ b o,ao=some ⟨b,o,none⟩/\b<N/\w.cell? ⟨b,o+i,none⟩=some (.int .i64 (kid ks i))
structure NodeAt (N:Nat)(w:World)(b o:Nat)(n:Nd)(ka:Option Addr)(kc:Nat):Prop where
 lt:b<N
 c0:w.cell? ⟨b,o,none⟩=some (.string n.op)
 c1:w.cell? ⟨b,o+1,none⟩=some (.int .i64 n.line)
 c2:w.cell? ⟨b,o+2,none⟩=some (.int .i64 n.col)
 c3:w.cell? ⟨b,o+3,none⟩=some (.string n.name)
 c4:w.cell? ⟨b,o+4,none⟩=some (.int .i64 n.num)
 c5:w.cell? ⟨b,o+5,none⟩=some (.slice ka n.kids.length kc)
 kids:IntsAt N w ka n.kids
 nil:ka=none->kc=0
def nval (n:Nd)(ka:Option Addr)(kc:Nat):Value :=
 .agg #[.string n.op,.int .i64 n.line,.int .i64 n.col,.string n.name,.int .i64 n.num,.slice ka n.kids.length kc]
def NodesAt (N:Nat)(w:World)(ao:Option Addr)(ms:List Nd):Prop :=
 ∀ i,i<ms.length->∃ b o ka kc,ao=some ⟨b,o,none⟩/\NodeAt N w b (o+i*6) (nd ms i) ka kc
structure TreeAt (N:Nat)(w:World)(bt:Nat)(ao:Option Addr)(cap:Nat)(ms:List Nd):Prop where
 lt:bt<N
 cell:w.cell? ⟨bt,0,none⟩=some (.slice ao ms.length cap)
 nodes:NodesAt N w ao ms
 room:ms.length<=cap
theorem IntsAt.below {N:Nat}{w w':World}{ao:Option Addr}{ks:List Int}(h:IntsAt N w ao ks)(hb:Below N w w'):IntsAt N w' ao ks:=by
 intro i hi;obtain ⟨b,o,e,hlt,hc⟩:=h i hi;exact ⟨b,o,e,hlt,(hb.cell (p:=⟨b,o+i,none⟩) hlt).trans hc⟩
theorem NodeAt.below {N:Nat}{w w':World}{b o:Nat}{n:Nd}{ka:Option Addr}{kc:Nat}(h:NodeAt N w b o n ka kc)(hb:Below N w w'):NodeAt N w' b o n ka kc :=
 ⟨h.lt,(hb.cell (p:=⟨b,o,none⟩) h.lt).trans h.c0,(hb.cell (p:=⟨b,o+1,none⟩) h.lt).trans h.c1,(hb.cell (p:=⟨b,o+2,none⟩) h.lt).trans h.c2,(hb.cell (p:=⟨b,o+3,none⟩) h.lt).trans h.c3,
  (hb.cell (p:=⟨b,o+4,none⟩) h.lt).trans h.c4,(hb.cell (p:=⟨b,o+5,none⟩) h.lt).trans h.c5,h.kids.below hb,h.nil⟩
theorem NodesAt.below {N:Nat}{w w':World}{ao:Option Addr}{ms:List Nd}(h:NodesAt N w ao ms)(hb:Below N w w'):NodesAt N w' ao ms:=by
 intro i hi;obtain ⟨b,o,ka,kc,e,hn⟩:=h i hi;exact ⟨b,o,ka,kc,e,hn.below hb⟩
theorem TreeAt.below {N:Nat}{w w':World}{bt:Nat}{ao:Option Addr}{cap:Nat}{ms:List Nd}(h:TreeAt N w bt ao cap ms)(hb:Below N w w'):TreeAt N w' bt ao cap ms :=
 ⟨h.lt,(hb.cell (p:=⟨bt,0,none⟩) h.lt).trans h.cell,h.nodes.below hb,h.room⟩
theorem IntsAt.mono {N N':Nat}{w:World}{ao:Option Addr}{ks:List Int}(h:IntsAt N w ao ks)(hN:N<=N'):IntsAt N' w ao ks:=by
 intro i hi;obtain ⟨b,o,e,hlt,hc⟩:=h i hi;exact ⟨b,o,e,by omega,hc⟩
theorem NodeAt.mono {N N':Nat}{w:World}{b o:Nat}{n:Nd}{ka:Option Addr}{kc:Nat}(h:NodeAt N w b o n ka kc)(hN:N<=N'):NodeAt N' w b o n ka kc :=
 ⟨by have:=h.lt;omega,h.c0,h.c1,h.c2,h.c3,h.c4,h.c5,h.kids.mono hN,h.nil⟩
theorem NodesAt.mono {N N':Nat}{w:World}{ao:Option Addr}{ms:List Nd}(h:NodesAt N w ao ms)(hN:N<=N'):NodesAt N' w ao ms:=by
 intro i hi;obtain ⟨b,o,ka,kc,e,hn⟩:=h i hi;exact ⟨b,o,ka,kc,e,hn.mono hN⟩
theorem TreeAt.mono {N N':Nat}{w:World}{bt:Nat}{ao:Option Addr}{cap:Nat}{ms:List Nd}(h:TreeAt N w bt ao cap ms)(hN:N<=N'):TreeAt N' w bt ao cap ms :=
 ⟨by have:=h.lt;omega,h.cell,h.nodes.mono hN,h.room⟩
end
section
open Go.RowKit Tn
theorem len_any (bt:Nat)(ao:Option Addr)(len cap:Nat)(w:World)(hc:w.cell? ⟨bt,0,none⟩=some (.slice ao len cap)):
  Calls Tryz.prog 12 #[.pointer (some ⟨bt,0,none⟩)] w fun e w'=>e = .returned (.int .i64 len)/\w=w':=by
 go_enter Tryz.func12,Tryz.ntmps12
 go_wp2
 go_ret
 exact ⟨rfl,rfl⟩
theorem has_any (bt:Nat)(ao:Option Addr)(len cap:Nat)(i:Int)(w:World)(hc:w.cell? ⟨bt,0,none⟩=some (.slice ao len cap)):
  Calls Tryz.prog 34 #[.pointer (some ⟨bt,0,none⟩),.int .i64 i] w fun e w'=>e = .returned (.bool (decide (0<=i) && decide (i<(len:Int))))/\w=w':=by
 go_enter Tryz.func34,Tryz.ntmps34
 go_wp2_with (go_at_call 12;refine (len_any bt ao len cap _ hc).mono ?_;rintro e w' ⟨rfl,rfl⟩)
 all_goals (go_ret;refine ⟨ret_bool ?_,rfl⟩;simp [*] <;> omega)
theorem in_any (ao:Option Addr)(len cap:Nat)(i:Int)(w:World):
  Calls Tryz.prog 17 #[.slice ao len cap,.int .i64 i] w fun e w'=>e = .returned (.bool (decide (0<=i) && decide (i<(len:Int))))/\w=w':=by
 go_enter Tryz.func17,Tryz.ntmps17
 go_wp2
 all_goals (go_ret;refine ⟨ret_bool ?_,rfl⟩;simp [*] <;> omega)
theorem has_yes (bt:Nat)(ao:Option Addr)(len cap:Nat)(i:Int)(w:World)(hc:w.cell? ⟨bt,0,none⟩=some (.slice ao len cap))(h0:0<=i)(h1:i<(len:Int)):
  Calls Tryz.prog 34 #[.pointer (some ⟨bt,0,none⟩),.int .i64 i] w fun e w'=>e = .returned (.bool true)/\w=w' :=
 (has_any bt ao len cap i w hc).mono fun _ _ ⟨he,hw⟩=>⟨by rw [he];simp [h0,h1],hw⟩
theorem has_no (bt:Nat)(ao:Option Addr)(len cap:Nat)(i:Int)(w:World)(hc:w.cell? ⟨bt,0,none⟩=some (.slice ao len cap))(h:¬ (0<=i/\i<(len:Int))):
  Calls Tryz.prog 34 #[.pointer (some ⟨bt,0,none⟩),.int .i64 i] w fun e w'=>e = .returned (.bool false)/\w=w' :=
 (has_any bt ao len cap i w hc).mono fun _ _ ⟨he,hw⟩=>⟨by rw [he];congr 2;rw [<- Bool.not_eq_true];simpa using h,hw⟩
theorem in_yes (ao:Option Addr)(len cap:Nat)(i:Int)(w:World)(h0:0<=i)(h1:i<(len:Int)):
  Calls Tryz.prog 17 #[.slice ao len cap,.int .i64 i] w fun e w'=>e = .returned (.bool true)/\w=w' :=
 (in_any ao len cap i w).mono fun _ _ ⟨he,hw⟩=>⟨by rw [he];simp [h0,h1],hw⟩
theorem in_no (ao:Option Addr)(len cap:Nat)(i:Int)(w:World)(h:¬ (0<=i/\i<(len:Int))):
  Calls Tryz.prog 17 #[.slice ao len cap,.int .i64 i] w fun e w'=>e = .returned (.bool false)/\w=w' :=
 (in_any ao len cap i w).mono fun _ _ ⟨he,hw⟩=>⟨by rw [he];congr 2;rw [<- Bool.not_eq_true];simpa using h,hw⟩
theorem hasAll_any (bt:Nat)(ao:Option Addr)(len cap:Nat)(N:Nat)(ka:Option Addr)(n:Nd)(kc:Nat)(w:World)(hc:w.cell? ⟨bt,0,none⟩=some (.slice ao len cap))(hk:IntsAt N w ka n.kids)(hl:n.kids.length<=999000):
  Calls Tryz.prog 27 #[.pointer (some ⟨bt,0,none⟩),.slice ka n.kids.length kc] w fun e w'=>e = .returned (.bool (fits len n))/\w=w':=by
 go_enter Tryz.func27,Tryz.ntmps27
 go_wp2
 go_loop [9] (fun i=>∃ k:Nat,k<=n.kids.length/\i = .int .i64 k/\∀ j,j<k->0<=kid n.kids j/\kid n.kids j<(len:Int)) (fun i=>n.kids.length-(intOf i).toNat)
 case atStart=>exact ⟨0,Nat.zero_le _,rfl,by intro j hj;omega⟩
 case round =>
  obtain ⟨k,hk',rfl,hall⟩:=hrel;have HA:=Lib.hid hall;clear hall
  by_cases hlt:k<n.kids.length
  ·obtain ⟨b,o,rfl,hb,hcell⟩:=hk k hlt;have HK:=Lib.hid hk;clear hk
   by_cases hin:0<=kid n.kids k/\kid n.kids k<(len:Int)
   ·obtain ⟨h0,h1⟩:=hin
    go_wp2_with (go_at_call 34;refine (has_yes bt ao len cap _ _ hc h0 h1).mono ?_;rintro e w' ⟨rfl,rfl⟩)
    go_round
    case rel =>
     refine ⟨k+1,by omega,by go_num, ?_⟩;intro j hj
     by_cases hjk:j=k
     ·subst hjk;exact ⟨h0,h1⟩
     ·exact HA.out j (by omega)
    case measure=>simp [intOf];omega
   ·have HN:=Lib.hid hin;clear hin
    go_wp2_with (go_at_call 34;refine (has_no bt ao len cap _ _ hc HN.out).mono ?_;rintro e w' ⟨rfl,rfl⟩)
    go_ret
    refine ⟨ret_bool ?_,rfl⟩
    symm
    rw [<- Bool.not_eq_true,fits_at];exact fun h=>HN.out (h k hlt)
  ·have:k=n.kids.length:=by omega
   subst this;have HK:=Lib.hid hk;clear hk
   go_wp2
   go_ret
   refine ⟨ret_bool ?_,rfl⟩
   symm
   rw [fits_at];exact fun i hi=>HA.out i hi
end
end Go.Proofs.YtninlbknklbofaaGreatDoor
