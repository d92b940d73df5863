/- A part of the proof: A part of the proof. -/
import Derived.Test.YtdfpkmfeldoamaaGreatDoorSp
import Derived.Test.YtdfpkmfeldoamaaGreatDoorPf
set_option linter.unusedSimpArgs false
set_option linter.unusedVariables false
namespace Go.Proofs.YtdfpkmfeldoamaaGreatDoor
open Go.RowKit Tn Lx
section
variable {T:TypeId} {k:Nat} {m:Sp.Mp} {t:B} {W:World}
theorem ents_key (t:B):∀ (m:Sp.Mp) (i j:Nat),Sp.has m t=true->∃ n v,Instr.findNow .string (.string ⟨t.toArray⟩) (ents i m) j=some (some (n,v))/\j<=n/\((ents i m)[n-j]?).map (·.key)=some (.string ⟨t.toArray⟩)
 | [],_,_,h=>by simp [Sp.has,Sp.look] at h
 | (a,x) :: l,i,j,h=>by
  rw [ents,Instr.findNow,same_str5]
  cases e:(t==a) with
  | true =>
   refine ⟨j,_,rfl,Nat.le_refl _, ?_⟩;rw [Nat.sub_self];have:t=a:=by simpa using e
   rw [this];rfl
  | false =>
   have hl:Sp.has l t=true:=by simpa [Sp.has,Sp.look,e] using h
   obtain ⟨n,v,h1,h2,h3⟩:=ents_key t l (i+1) (j+1) hl;refine ⟨n,v,h1,by omega, ?_⟩;rw [show n-j=(n-(j+1))+1 by omega,List.getElem?_cons_succ];exact h3
theorem mget (h:MpAt W k m):(getObj k).run Tryz.prog W = .ok (.map (ents 0 m).toArray m.length) W:=by
 have h':W.heap[k]? = some (.map (ents 0 m).toArray m.length):=h;simp [getObj,Sem.run,h']
theorem mset (o:Obj)(h:MpAt W k m):(setObj k o).run Tryz.prog W = .ok () { W with heap:=W.heap.setIfInBounds k o } := by
 have h':W.heap[k]? = some (.map (ents 0 m).toArray m.length):=h;simp [setObj,Sem.run,h']
theorem mkey (e:Bool)(s:ByteArray)(W:World):(Instr.checkKey e 10000 9 (.string s)).run Tryz.prog W = .ok () W:=by
 rw [show (10000:Nat)=9999+1 from rfl,Instr.checkKey];simp [Sem.run_bind,run_underlying Tryz.underlying9,Result.andThen]
theorem mfind (s:ByteArray)(es:List MapEntry)(r:Option (Nat × Value))(W:World)(h:Instr.findNow .string (.string s) es 0=some r):(Instr.findKey 9 (.string s) es).run Tryz.prog W = .ok r W:=by
 rw [Instr.findKey];simp [Sem.run_bind,run_underlying Tryz.underlying9,Result.andThen,h]
theorem mzero (W:World):(zeroValue 3).run Tryz.prog W = .ok (.int .i64 0) W:=by kernel_rfl
theorem mp_look (hT:Tryz.prog.underlying T=some (.map 9 3))(h:MpAt W k m)(ok:Bool):(Instr.lookup T (.map (some k)) (.string ⟨t.toArray⟩) ok).run Tryz.prog W = .ok (if ok=true then .tuple #[.int .i64 (Sp.val m t),.bool (Sp.has m t)] else .int .i64 (Sp.val m t)) W:=by
 obtain ⟨n,hf,_⟩:=ents_find t m 0 0;rw [Instr.lookup]
 cases hl:Sp.look m t with
 | none =>
  rw [hl] at hf;simp only [Sem.run_bind,run_underlying hT,Result.andThen,mget h,mkey,mfind _ _ _ _ hf,Sem.run_pure,Option.map_none,mzero]
  cases ok <;> simp [Sp.val,Sp.has,hl]
 | some v =>
  rw [hl] at hf;simp only [Sem.run_bind,run_underlying hT,Result.andThen,mget h,mkey,mfind _ _ _ _ hf,Sem.run_pure,Option.map_some]
  cases ok <;> simp [Sp.val,Sp.has,hl]
theorem key_same (s:ByteArray)(W:World):(Instr.keyThatStays (.string s) (.string s)).run Tryz.prog W = .ok (.string s) W:=by
 have h:(s==s)=true:=by show (s.data==s.data)=true;simp
 simp [Instr.keyThatStays,Instr.sameBits,h]
theorem mp_put (hT:Tryz.prog.underlying T=some (.map 9 3))(h:MpAt W k m)(v:Int):(Instr.mapUpdate T (.map (some k)) (.string ⟨t.toArray⟩) (.int .i64 v)).run Tryz.prog W = .ok () { W with heap:=W.heap.setIfInBounds k (.map (ents 0 (Sp.put m t v)).toArray (Sp.put m t v).length) } := by
 rw [Instr.mapUpdate]
 cases hl:Sp.has m t with
 | false =>
  obtain ⟨n,hf,_⟩:=ents_find t m 0 0;have hn:Sp.look m t=none:=by cases e:Sp.look m t with | none=>rfl | some _=>simp [Sp.has,e] at hl
  rw [hn] at hf;obtain ⟨h1,h2⟩:=put_new (v:=v) 0 hl;simp only [Sem.run_bind,run_underlying hT,Result.andThen,mget h,mkey,mfind _ _ _ _ hf,Option.map_none,mset _ h];rw [h1,h2]
  simp
 | true =>
  obtain ⟨n,hf,h3⟩:=ents_find t m 0 0;obtain ⟨n',v',hf',_,hk'⟩:=ents_key t m 0 0 hl;obtain ⟨_,h4⟩:=h3 hl
  cases hn:Sp.look m t with
  | none=>simp [Sp.has,hn] at hl
  | some x =>
   rw [hn] at hf;have e:n=n':=by rw [hf] at hf';simp at hf';exact hf'.1
   subst e;rw [Nat.sub_zero] at hk';have hget:(((ents 0 m).toArray[n]?).map (·.key)).getD (.string ⟨t.toArray⟩) = .string ⟨t.toArray⟩:=by
    rw [List.getElem?_toArray,hk'];rfl
   have hm:(ents 0 m).toArray.modify n (fun e=>{ e with key := .string ⟨t.toArray⟩,val := .int .i64 v })=(ents 0 (Sp.put m t v)).toArray:=by
    rw [<- h4 v,Nat.sub_zero,List.modify_toArray];refine congrArg List.toArray ?_;apply List.ext_getElem?;intro j;rw [List.getElem?_modify,List.getElem?_modify]
    by_cases ej:n=j
    ·subst ej
     cases hx:(ents 0 m)[n]? with
     | none=>rfl
     | some y =>
      rw [hx] at hk';simp only [Option.map_some,Option.some.injEq] at hk';simp [<- hk']
    ·simp [ej]
   simp only [Sem.run_bind,run_underlying hT,Result.andThen,mget h,mkey,mfind _ _ _ _ hf,Option.map_some,hget,key_same,mset _ h];rw [hm,put_len hl]
theorem pl_look (h:MpAt W k m):(Instr.lookup 145 (.map (some k)) (.string ⟨t.toArray⟩) true).run Tryz.prog W = .ok (.tuple #[.int .i64 (Sp.val m t),.bool (Sp.has m t)]) W:=(mp_look Tryz.underlying145 h true).trans rfl
theorem va_look (h:MpAt W k m):(Instr.lookup 142 (.map (some k)) (.string ⟨t.toArray⟩) false).run Tryz.prog W = .ok (.int .i64 (Sp.val m t)) W:=(mp_look Tryz.underlying142 h false).trans rfl
theorem pl_put (h:MpAt W k m)(v:Int):(Instr.mapUpdate 145 (.map (some k)) (.string ⟨t.toArray⟩) (.int .i64 v)).run Tryz.prog W = .ok () { W with heap:=W.heap.setIfInBounds k (.map (ents 0 (Sp.put m t v)).toArray (Sp.put m t v).length) } := mp_put Tryz.underlying145 h v
theorem va_put (h:MpAt W k m)(v:Int):(Instr.mapUpdate 142 (.map (some k)) (.string ⟨t.toArray⟩) (.int .i64 v)).run Tryz.prog W = .ok () { W with heap:=W.heap.setIfInBounds k (.map (ents 0 (Sp.put m t v)).toArray (Sp.put m t v).length) } := mp_put Tryz.underlying142 h v
end
theorem pl_make (w:World):(Instr.makeMap 145 none).run Tryz.prog w = .ok (.map (some w.heap.size)) (w.alloc (.map #[] 0)):=rfl
theorem va_make (w:World):(Instr.makeMap 142 none).run Tryz.prog w = .ok (.map (some w.heap.size)) (w.alloc (.map #[] 0)):=rfl
theorem mp_new (w:World):MpAt (w.alloc (.map #[] 0)) w.heap.size []:=by
 show (w.alloc (.map #[] 0)).heap[w.heap.size]? = _
 unfold World.alloc;simp [ents]
theorem MpAt.lt {w:World}{k:Nat}{m:Sp.Mp}(h:MpAt w k m):k<w.heap.size:=(Array.getElem?_eq_some_iff.1 h).1
theorem MpAt.below {w w':World}{k:Nat}{m:Sp.Mp}(h:MpAt w k m)(hb:Below w.heap.size w w'):MpAt w' k m:=(hb.block _ h.lt).trans h
theorem MpAt.but {p:Nat->Prop}{w w':World}{k:Nat}{m:Sp.Mp}(h:MpAt w k m)(hb:But p w w')(hp:¬ p k):MpAt w' k m:=(hb.block _ h.lt hp).trans h
theorem mp_set {w:World}{k:Nat}{m m':Sp.Mp}(h:MpAt w k m):MpAt { w with heap:=w.heap.setIfInBounds k (.map (ents 0 m').toArray m'.length) } k m'/\But (fun j=>j=k) w { w with heap:=w.heap.setIfInBounds k (.map (ents 0 m').toArray m'.length) } := by
 have hlt:=h.lt;refine ⟨?_,⟨rfl,rfl,rfl,by simp,fun j hj hn=>?_⟩⟩
 ·show (w.heap.setIfInBounds k _)[k]? = _
  simp [hlt]
 ·show (w.heap.setIfInBounds k _)[j]? = _
  rw [Array.getElem?_setIfInBounds_ne (fun e=>hn e.symm)]
def fdCell (x:Sp.Fd):List Value:=[.int .i64 x.k,.int .i64 (Sp.code x.k),.int .i64 x.n.at_.line,.int .i64 x.n.at_.col,.string ⟨x.n.text.toArray⟩]
def fdsCells (l:List Sp.Fd):List Value:=l.flatMap fdCell
theorem fdsCells_snoc (l:List Sp.Fd)(x:Sp.Fd):fdsCells (l++[x])=fdsCells l++fdCell x:=by simp [fdsCells]
theorem fdCell_one (x:Sp.Fd):∀ u∈fdCell x,u.oneCell'=true:=by
 intro u hu;simp only [fdCell,List.mem_cons,List.not_mem_nil,or_false] at hu
 rcases hu with rfl | rfl | rfl | rfl | rfl <;> rfl
def ckF (q p:Nat)(r1 r2:Value)(M:Nat->Value):Array Value:=#[.pointer (some ⟨q,0,none⟩),.pointer (some ⟨p,0,none⟩),r1,r2,M 4,M 5,M 6,M 7,M 8,M 9,M 10,M 11]
theorem Tryz.info228:(Tryz.prog.info? 228).map (fun i=>(i.zero,i.size,i.bytes))=some (some (.agg #[.int .i64 0,.int .i64 0,.int .i64 0,.int .i64 0,.string ⟨#[]⟩]),5,48):=by kernel_rfl
end Go.Proofs.YtdfpkmfeldoamaaGreatDoor
namespace Go.Proofs.YtdfpkmfeldoamaaGreatDoor.Yf
open Lx (Tok Pos B)
open Ex (S Res tk at_ is take wrong rec_)
open Pg (Nm zn R lift nameAt bodyF wMain)
structure Ht where
 name:Nm
 body:Nat
 dst:Nm
 inn:List Nm
structure St where
 conf:List Nm
 integ:List Nm
 ord:List (Nm × Nm)
 att:Nm
 hat:List Ht
def st0:St:=⟨[],[],[],zn,[]⟩
abbrev wConf:B:=[99,111,110,102]
abbrev wInteg:B:=[105,110,116,101,103]
abbrev wOrder:B:=[111,114,100,101,114]
abbrev wAtt:B:=[97,116,116,97,99,107,101,114]
abbrev wHatch:B:=[104,97,116,99,104]
abbrev wTo:B:=[116,111]
abbrev wIn:B:=[105,110]
section
variable (ts:List Tok)
def list (part:S->Res Nm):Nat->List Nm->S->Res (List Nm)
 | 0,_,_ => .out
 | f+1,l,s=>(part s).bind fun n s1=>if is ts s1 [44]=true then list part f (l++[n]) s1.skip else .ok (l++[n]) s1
def funN (s:S):Res Nm:=if is ts s wMain=true then .ok ⟨wMain,at_ ts s⟩ s.skip else nameAt ts [] s
def order (s:S):Res (Nm × Nm):=(nameAt ts [] s).bind fun a s1=>(nameAt ts [[60]] s1).bind fun b s2 => .ok (a,b) s2
def hatch (n:Nat)(s:S):Res Ht:=(nameAt ts [] s).bind fun nm s1=>(bodyF ts n s1).bind fun b s2=>(nameAt ts [wTo] s2).bind fun t s3=>(take ts wIn s3).bind fun _ s4=>(list ts (funN ts) n [] s4).bind fun l s5 => .ok ⟨nm,b,t,l⟩ s5
def rest (n:Nat)(word:B)(g:St)(s:S):R St :=
 if (word==wConf)=true then (lift (list ts (nameAt ts []) n g.conf s)).bind fun l s1 => .ok { g with conf:=l } s1
 else if (word==wInteg)=true then (lift (list ts (nameAt ts []) n g.integ s)).bind fun l s1 => .ok { g with integ:=l } s1
 else if (word==wOrder)=true then (lift (order ts s)).bind fun p s1 => .ok { g with ord:=g.ord++[p] } s1
 else if (word==wAtt)=true then (lift (nameAt ts [] s)).bind fun a s1=>if (g.att.text==[])=true then .ok { g with att:=a } s1 else .bad 8 a.at_ a.text
 else (lift (hatch ts n s)).bind fun h s1 => .ok { g with hat:=g.hat++[h] } s1
def known (word:B):Bool:=word==wConf || word==wInteg || word==wOrder || word==wAtt || word==wHatch
def item (n:Nat)(g:St)(s:S):R St :=
 if known (tk ts s.p).text=true then (lift (take ts (tk ts s.p).text s)).bind fun _ s1=>(rest ts n (tk ts s.p).text g s1).bind fun g1 s2=>(lift (take ts [59] s2)).bind fun _ s3 => .ok g1 s3
 else .bad 5 (at_ ts s) []
def all (n:Nat):Nat->Nat->St->S->R St
 | 0,_,_,_ => .out
 | f+1,k,g,s =>
  if ((tk ts s.p).kind==0)=true then (if (g.att.text==[])=true then .bad 16 (at_ ts s) wAtt else .ok g s)
  else if k=100 then .bad 6 (at_ ts s) []
  else (item ts n g s).bind fun g1 s1=>all n f (k+1) g1 s1
end
end Go.Proofs.YtdfpkmfeldoamaaGreatDoor.Yf
