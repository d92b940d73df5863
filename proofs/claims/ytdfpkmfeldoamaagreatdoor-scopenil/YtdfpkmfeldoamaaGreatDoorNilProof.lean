/- Proved: ScopeNil, as a tied card. For every two texts and every third one the law answers true, and the texts read behind the call as they read before. The listed variables of Go's library start as the program's text lays them. -/
import Derived.Test.YtdfpkmfeldoamaaGreatDoorSq
import Derived.Test.YtdfpkmfeldoamaaGreatDoorTie
import Derived.Test.YtdfpkmfeldoamaaGreatDoorCards
import Derived.ProofKit
import Derived.ChangeOld
import Derived.OpenShut
import Derived.LaidMore
import Derived.LaidHandle
import Derived.Lay
import Derived.PinnedBridge
import Derived.Lib.LaidU8T
import Derived.SevenTiedAt
import Derived.Stop.Joined
import Derived.ChangeMaps5
import Derived.ChangeSame
import Derived.ShutString
import Derived.Shelf.Vars
set_option linter.unusedSimpArgs false
set_option linter.unusedVariables false
set_option maxRecDepth 100000
namespace Go.Proofs.YtdfpkmfeldoamaaGreatDoor
open Go.ChangeShapes Go.WideShapes Go.ChangeAt Go.ChangeMaps Go.RowKit
theorem Tryz.own:ownKnob Tryz.prog.godebug=none:=by kernel_rfl
theorem Tryz.laidOut:laidOutB Tryz.prog=true:=by kernel_rfl
theorem accept_eq:(Rows.laid_unicode_utf8_acceptRanges:DataW Unit)=Lib.acceptData:=by kernel_rfl
theorem Tryz.u8extra:U8Extra Tryz.prog Tryz.lays197_ren:=⟨by kernel_rfl,by kernel_rfl,by kernel_rfl,by kernel_rfl,by kernel_rfl,by kernel_rfl,by kernel_rfl⟩
theorem Tryz.u8types:U8Types Tryz.prog Tryz.lays197_ren:={ Tryz.lays197 with }
theorem tabs_of_reads {W:World}(h3:Lib.VarReads Tryz.prog W "unicode/utf8.first" Rows.laid_unicode_utf8_first)(h4:Lib.VarReads Tryz.prog W "unicode/utf8.acceptRanges" Rows.laid_unicode_utf8_acceptRanges):Lib.Utf8Tabs 2 3 W:=by
 rw [accept_eq] at h4;have e:Rows.laid_unicode_utf8_first=Lib.firstData:=Pinned.utf8First_eq;rw [e] at h3;exact utf8Tabs_of_readsT Tryz.u8types Tryz.u8extra h3 h4
theorem Tryz.et:Tryz.prog.globalNamed "errors.errorType" = some 0:=by kernel_rfl
theorem Tryz.rt:(Tryz.prog.cutTypes.find? (·.1 == "internal/reflectlite.rtype")).map (·.2)=some 202:=by kernel_rfl
theorem Tryz.oneRow:((List.range 368).filter fun t=>Tryz.prog.rowNamed t [101,114,114,111,114])=[27]:=by kernel_rfl
theorem Tryz.typesSize:Tryz.prog.types.size=368:=by kernel_rfl
def plainLaid:List (String × DataW Unit):=[("math/bits.deBruijn32tab", Rows.laid_math_bits_deBruijn32tab),("math/bits.deBruijn64tab", Rows.laid_math_bits_deBruijn64tab),("internal/strconv.uint64pow10", Rows.laid_internal_strconv_uint64pow10),("unicode/utf8.acceptRanges", Rows.laid_unicode_utf8_acceptRanges),("strconv.ErrRange", Rows.laid_strconv_ErrRange),("strconv.ErrSyntax", Rows.laid_strconv_ErrSyntax),("unicode/utf8.first", Rows.laid_unicode_utf8_first)]
theorem plain_eq:(Rows.scopeNilRow.laid.filter fun x=>x.2.handleName?.isNone)=plainLaid:=by kernel_rfl
theorem handle_eq:(Rows.scopeNilRow.laid.filter fun x=>x.2.handleName?.isSome)=[("errors.errorType", Rows.laid_errors_errorType)]:=by kernel_rfl
theorem laid_parts {W:World}(h:laidMetH Tryz.prog Rows.scopeNilRow.laid W):laidMet Tryz.prog plainLaid W/\handlesMet Tryz.prog [("errors.errorType", Rows.laid_errors_errorType)] W:=by
 unfold laidMetH at h;rw [handle_eq,plain_eq] at h;exact h
theorem handle_of_laid {W:World}(h:handlesMet Tryz.prog [("errors.errorType", Rows.laid_errors_errorType)] W):W.cell? ⟨0,0,none⟩=some (.iface 202 (.agg #[.pointer (some ⟨9,27,none⟩)])):=by
 obtain ⟨name,u,ty,e1,e2,e3,e4,e5⟩:=h _ (List.mem_singleton.2 rfl);have en:name=[101,114,114,111,114]:=(Option.some.inj e1).symm;subst en;obtain rfl:=Option.some.inj (Tryz.rt.symm.trans e2);have hm:ty∈(List.range 368).filter fun t=>Tryz.prog.rowNamed t [101,114,114,111,114]:=List.mem_filter.2 ⟨List.mem_range.2 (by rw [<- Tryz.typesSize];exact e3),e4⟩;rw [Tryz.oneRow] at hm;obtain rfl:=List.mem_singleton.1 hm;have hh:typeHandle Tryz.prog 27 = .pointer (some ⟨9,27,none⟩):=by kernel_rfl
 rw [hh] at e5
 simpa using World.var?_cell Tryz.et e5 0
noncomputable def handleWorld (os:Os):World :=
 let w0:=World.holding Tryz.prog os ⟨#[],#[],[]⟩
 { w0 with heap:=w0.heap.modify 0 fun
   | .cells _ t frozen => .cells #[.iface 202 (.agg #[.pointer (some ⟨9,27,none⟩)])] t frozen
   | o=>o }
noncomputable def tokWorld (os:Os):World:=(handleWorld os).layVars Tryz.prog plainLaid
theorem laidMet_lay0 {P:Program}{w0:World}{laid:List (String × DataW Unit)}(args:Array Value)(hf:w0.layFits P laid []=true)(hi:w0.layIfaces P laid (w0.layVars P laid)=true):
  laidMet P laid ((w0.layVars P laid).forCall (fun _ _=>0) ⟨#[],args,[]⟩).memory:=by
 have e1:(laid.filter fun x=>(laid.map (·.1)).contains x.1)=laid:=List.filter_eq_self.2 fun x hx=>List.contains_iff_mem.2 (List.mem_map.2 ⟨x,hx,rfl⟩);have e2:(laid.filter fun x=>!(laid.map (·.1)).contains x.1)=[]:=List.filter_eq_nil_iff.2 fun x hx=>by rw [List.contains_iff_mem.2 (List.mem_map.2 ⟨x,hx,rfl⟩)];simp
 have h:laidMet P laid (w0.layVars P laid):=laidMet_layVars (w0:=w0) (laid.map (·.1)) [] (by rw [e1]) (by rw [e1];exact hf) (by rw [e1];exact hi) (by rw [e2];exact LaidIn.none);exact h.of_heap (by simp [World.memory,World.forCall,Input.heap])
theorem tokWorld_met (os:Os)(args:Array Value)(hargs:args=#[.agg #[.string ⟨#[]⟩,.string ⟨#[]⟩],.string ⟨#[]⟩]):laidMetH Tryz.prog Rows.scopeNilRow.laid ((tokWorld os).forCall (fun _ _=>0) ⟨#[],args,[]⟩).memory:=by
 subst hargs;refine laidMetH_of_parts ?_ ?_
 ·rw [plain_eq];exact laidMet_lay0 _ (by kernel_rfl) (by kernel_rfl)
 ·rw [handle_eq];kernel_rfl
theorem nil_lifted (os:Os)(started:os.Started)(H:Type)(enc:TypeId × Value->H):
  ReturnsInHanded {} Tryz.checked os 3 .any (fun w args=>(Rows.scopeNilSpec.pre enc Tryz.prog Tryz.f3 Rows.scopeNilRow.domain false w args/\laidMetH Tryz.prog Rows.scopeNilRow.laid w)/\sizedMet enc Tryz.prog Tryz.f3 (OpenSpec.ofChange Rows.scopeNilSpec) false w args)
   (Rows.scopeNilSpec.post enc Tryz.prog Tryz.f3 false true false false):=by
 refine returnsInHanded_of_calls (C:=Tryz.checked) Tryz.own started (by kernel_rfl)
  (ChangeSpec.witness_shaped (enc:=enc) (C:=Tryz.checked) (os:=os) (X:=fun w _=>laidMetH Tryz.prog Rows.scopeNilRow.laid w) false (tokWorld os) #[.agg #[.string ⟨#[]⟩,.string ⟨#[]⟩],.string ⟨#[]⟩] 8 (World.layVars_os _ _ _)
   (World.shaped_of_ZipB (by kernel_rfl) (by kernel_rfl)) (by kernel_rfl) (by kernel_rfl) (by kernel_rfl) (tokWorld_met os _ rfl)) ?_
 intro w tape i _ hsh _ hok hpre _;obtain ⟨_,_,_,fn',hfn',_,_,_,_,hval0⟩:=hok;obtain rfl:fn'=Tryz.f3:=Option.some.inj (hfn'.symm.trans Tryz.func3);obtain ⟨⟨⟨ds,gs,before,hw,_⟩,hL0⟩,_⟩:=hpre;have hW:DataW.Whole enc Tryz.prog Tryz.f3.params.toList Rows.scopeNilSpec.vars false (w.forCall tape i) i.args.toList ds gs before:=DataW.Whole.of_heap (w':=w.forCall tape i) (by rfl) hw;have hL:laidMetH Tryz.prog Rows.scopeNilRow.laid (w.forCall tape i):=hL0.of_heap (by rfl);have hm:MaxL (w.forCall tape i):=cell_of_shapedOpen_int hsh (g:=1) (t:=3) (zero:=#[.int .i64 0]) (of_decide_eq_true (by kernel_rfl)) (by kernel_rfl) rfl (by kernel_rfl) (by kernel_rfl) (by kernel_rfl)
 suffices hh:Calls Tryz.prog 3 i.args (w.forCall tape i) fun e W'=>∃ v,e = .returned v/\Rows.scopeNilSpec.post enc Tryz.prog Tryz.f3 false true false false (w.forCall tape i) i.args v W' by
  refine hh.mono fun e W' ⟨v,he,hp⟩=>?_;subst he;exact ChangeSpec.post_blind hp
 clear hL0 hw hsh hfn'
 revert hval0 hW hL hm
 generalize w.forCall tape i=W;generalize w.heap.size=base;generalize i.args=args;intro hval0 hW hL hm;have hval:∀ (j:Nat) t v,Tryz.f3.params[j]? = some t->args[j]? = some v->Value.okWide Tryz.prog W .any base t v:=hval0;have hW':=hW;obtain ⟨p,q,hA0,hV,rfl,_,_⟩:=hW;have hA:DataW.TrodAll enc Tryz.prog W 0 (fun _=>true) true Tryz.f3.params.toList args.toList ds p:=hA0;rw [Tryz.params3] at hA hval;obtain ⟨v0,vs0,d0,ds0,p0,q0,hargs,rfl,rfl,h0,r0⟩:=trodAll_cons hA;obtain ⟨v1,vs1,d1,ds1,p1,q1,rfl,rfl,rfl,h1,r1⟩:=trodAll_cons r0;obtain ⟨rfl,rfl,rfl⟩:=trodAll_nil r1;obtain rfl:args=#[v0,v1]:=by cases args;simp_all
 obtain ⟨rfl,rfl⟩:=trodVars_none hV;have k0:=h0;have lt0:∀ x∈p0,x.block<W.heap.size:=by obtain ⟨m,hm⟩:=k0;exact DataW.trod_lt m _ _ _ hm
 obtain ⟨cs,rfl,hcs⟩:=okWide_struct Tryz.underlying23 (hval 0 23 v0 rfl rfl);obtain ⟨a,b,rfl⟩:∃ a b:ByteArray,cs=#[.string a,.string b]:=by
  obtain ⟨fuel,hf⟩:=h0;obtain ⟨y0,y1,n,_,hl,t0,t1⟩:=trod_struct2 Tryz.underlying23 hf;have c0:Tryz.prog.cellsOf 23=2:=by kernel_rfl
  have c1:Tryz.prog.cellsOf 9=1:=by kernel_rfl
  simp only [Value.cells,c0,c1] at hl t0 t1;obtain ⟨a,ea,_⟩:=DataW.trod_string Tryz.underlying9 t0;obtain ⟨b,eb,_⟩:=DataW.trod_string Tryz.underlying9 t1;refine ⟨a,b, ?_⟩;apply Array.ext'
  match h:cs.toList with
  | [x,y]=>rw [h] at ea eb;simp at ea eb;rw [ea,eb]
  | []=>rw [h] at hl;simp at hl
  | [_]=>rw [h] at hl;simp at hl
  | _ :: _ :: _ :: _=>rw [h] at hl;simp at hl
 obtain ⟨s,rfl,rfl,rfl,ws⟩:=open_string Tryz.underlying9 (hval 1 9 v1 rfl rfl) h1;clear hA0 hval0;obtain ⟨hP,hH⟩:=laid_parts hL;have hT:Lib.Utf8Tabs 2 3 W:=tabs_of_reads (Lib.laidMet.reads hP (by simp [plainLaid])) (Lib.laidMet.reads hP (by simp [plainLaid]));have hg:=handle_of_laid hH;refine (scopenil_any W a b s hT hg hm).mono fun e W' ⟨he,bel⟩=>?_;subst he;exact ⟨_,rfl,_,_,_,[],_,[],hW',trodAll_mk1 (shut_bool Tryz.underlying4 _),(trodAll_cons_mk (Below.trod Tryz.laidOut (by kernel_rfl) (of_decide_eq_true (by kernel_rfl)) k0 bel lt0) (trodAll_cons_mk (shut_string Tryz.underlying9 ws) trodAll_mk0)),rfl,bel.frame _,fun h=>by cases h⟩
theorem nil_holds:Rows.ScopeNilSaid :=
 OpenClaim.holds_of_wide 3 Tryz.f3 rfl rfl rfl rfl rfl rfl rfl ⟨rfl,rfl,rfl,rfl,rfl⟩ rfl rfl rfl rfl rfl (by kernel_rfl) Tryz.func3 (by kernel_rfl)
  (of_decide_eq_true (by kernel_rfl)) (by unfold Func.isWrapper;first | (rw [if_pos (by decide +kernel)];kernel_rfl) | (rw [if_neg (by decide +kernel)];exact ⟨rfl,rfl⟩))
  (fun os started H enc _=>nil_lifted os started H enc)
theorem scopeNil_holds:Rows.ScopeNilCardSaid :=
 Claim7.holds_tied_plain_at .later [] [.data,.data,.data,.data,.handle,.sentinel,.sentinel,.pinned] true (true, "9c71159a58f717360e4c33fab75c8671b7f3bae6f5628245bd7d29026fb40ace") true nil_holds (fun _ h=>by cases h) (by kernel_rfl) (fun _ h=>by cases h) scopeNil_row_tie rfl ⟨rfl,rfl⟩ (by kernel_rfl) rfl
  (fun f fn hf hfn=>by
   obtain rfl:f=3:=Option.some.inj ((show Tryz.prog.funcNamed "whisper/whisperlaw09.ScopeNil" = some 3 by kernel_rfl).symm.trans hf) |>.symm
   obtain rfl:fn=Tryz.f3:=(Option.some.inj (Tryz.func3.symm.trans hfn)).symm;exact ⟨by kernel_rfl,fun j t ht=>by
    rw [Tryz.params3] at ht;have hm:t∈[23,9]:=by simpa using Array.mem_of_getElem? ht
    have hall:([23,9].all fun u=>!Tryz.prog.wantsStandIn u)=true:=by kernel_rfl
    exact (show Tryz.prog.wantsStandIn t=false by simpa using List.all_eq_true.1 hall t hm)⟩)
  (by kernel_rfl)
#print axioms scopeNil_holds
end Go.Proofs.YtdfpkmfeldoamaaGreatDoor
