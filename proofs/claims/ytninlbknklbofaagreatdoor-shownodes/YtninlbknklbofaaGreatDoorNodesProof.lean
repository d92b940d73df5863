/- Proved: ShowNodes, as a tied card. For every slice of nodes and every int8 the law answers true, and the slice reads behind the call as it read before. The listed variables of Go's library start as the program's text lays them. -/
import Derived.Test.YtninlbknklbofaaGreatDoorRop
import Derived.Test.YtninlbknklbofaaGreatDoorTie
import Derived.Test.YtninlbknklbofaaGreatDoorCards
import Derived.ProofKit
import Derived.ChangeOld
import Derived.OpenShut
import Derived.LaidMore
import Derived.LaidHandle
import Derived.Lay
import Derived.PinnedBridge
import Derived.Lib.LaidU8T
import Derived.SevenTiedAt
import Derived.Stop.Joined
import Derived.ChangeMaps5
import Derived.ShutString
import Derived.Lib.LaidTab
set_option linter.unusedSimpArgs false
set_option linter.unusedVariables false
set_option maxRecDepth 100000
namespace Go.Proofs.YtninlbknklbofaaGreatDoor
open Go.ChangeShapes Go.WideShapes Go.ChangeAt Go.ChangeMaps Go.RowKit Tn
theorem accept_eq:(Rows.laid_unicode_utf8_acceptRanges:DataW Unit)=Lib.acceptData:=by kernel_rfl
theorem Tryz.u8extra:U8Extra Tryz.prog Tryz.lays197_ren:=⟨by kernel_rfl,by kernel_rfl,by kernel_rfl,by kernel_rfl,by kernel_rfl,by kernel_rfl,by kernel_rfl⟩
theorem Tryz.u8types:U8Types Tryz.prog Tryz.lays197_ren:={ Tryz.lays197 with }
theorem tabs_of_reads {W:World}(h3:Lib.VarReads Tryz.prog W "unicode/utf8.first" Rows.laid_unicode_utf8_first)(h4:Lib.VarReads Tryz.prog W "unicode/utf8.acceptRanges" Rows.laid_unicode_utf8_acceptRanges):Lib.Utf8Tabs 1 2 W:=by
 rw [accept_eq] at h4;have e:Rows.laid_unicode_utf8_first=Lib.firstData:=Pinned.utf8First_eq;rw [e] at h3;exact utf8Tabs_of_readsT Tryz.u8types Tryz.u8extra h3 h4
theorem Tryz.et:Tryz.prog.globalNamed "errors.errorType" = some 0:=by kernel_rfl
theorem Tryz.rt:(Tryz.prog.cutTypes.find? (·.1 == "internal/reflectlite.rtype")).map (·.2)=some 168:=by kernel_rfl
theorem Tryz.oneRow:((List.range 272).filter fun t=>Tryz.prog.rowNamed t [101,114,114,111,114])=[41]:=by kernel_rfl
theorem Tryz.typesSize:Tryz.prog.types.size=272:=by kernel_rfl
def plainLaid:List (String × DataW Unit):=[("math/bits.deBruijn32tab", Rows.laid_math_bits_deBruijn32tab),("math/bits.deBruijn64tab", Rows.laid_math_bits_deBruijn64tab),("internal/strconv.uint64pow10", Rows.laid_internal_strconv_uint64pow10),("unicode/utf8.acceptRanges", Rows.laid_unicode_utf8_acceptRanges),("strconv.ErrRange", Rows.laid_strconv_ErrRange),("strconv.ErrSyntax", Rows.laid_strconv_ErrSyntax),("unicode/utf8.first", Rows.laid_unicode_utf8_first)]
theorem plain_eq:(Rows.showNodesRow.laid.filter fun x=>x.2.handleName?.isNone)=plainLaid:=by kernel_rfl
theorem handle_eq:(Rows.showNodesRow.laid.filter fun x=>x.2.handleName?.isSome)=[("errors.errorType", Rows.laid_errors_errorType)]:=by kernel_rfl
theorem laid_parts {W:World}(h:laidMetH Tryz.prog Rows.showNodesRow.laid W):laidMet Tryz.prog plainLaid W/\handlesMet Tryz.prog [("errors.errorType", Rows.laid_errors_errorType)] W:=by
 unfold laidMetH at h;rw [handle_eq,plain_eq] at h;exact h
theorem handle_of_laid {W:World}(h:handlesMet Tryz.prog [("errors.errorType", Rows.laid_errors_errorType)] W):W.cell? ⟨0,0,none⟩=some (.iface 168 (.agg #[.pointer (some ⟨9,41,none⟩)])):=by
 obtain ⟨name,u,ty,e1,e2,e3,e4,e5⟩:=h _ (List.mem_singleton.2 rfl);have en:name=[101,114,114,111,114]:=(Option.some.inj e1).symm;subst en;obtain rfl:=Option.some.inj (Tryz.rt.symm.trans e2);have hm:ty∈(List.range 272).filter fun t=>Tryz.prog.rowNamed t [101,114,114,111,114]:=List.mem_filter.2 ⟨List.mem_range.2 (by rw [<- Tryz.typesSize];exact e3),e4⟩;rw [Tryz.oneRow] at hm;obtain rfl:=List.mem_singleton.1 hm;have hh:typeHandle Tryz.prog 41 = .pointer (some ⟨9,41,none⟩):=by kernel_rfl
 rw [hh] at e5
 simpa using World.var?_cell Tryz.et e5 0
theorem pow_eq:(Rows.laid_internal_strconv_uint64pow10:DataW Unit)=Lib.tabData .u64 Lib.pow10Tab:=by kernel_rfl
theorem pow_of_reads {W:World}(h:Lib.VarReads Tryz.prog W "internal/strconv.uint64pow10" Rows.laid_internal_strconv_uint64pow10):Lib.TabIs Tryz.prog W "internal/strconv.uint64pow10" .u64 Lib.pow10Tab:=by
 rw [pow_eq] at h;have hg:Tryz.prog.globalNamed "internal/strconv.uint64pow10" = some 3:=by kernel_rfl
 obtain ⟨g',t',cs,fuel,p,hg',ht',hvar,hd⟩:=h;obtain rfl:=Option.some.inj (hg.symm.trans hg');have hty:(Tryz.prog.globals[3]?).map (·.type)=some 228:=by kernel_rfl
 obtain rfl:=Option.some.inj (hty.symm.trans ht');unfold Lib.TabIs;rw [hvar,<- Lib.cells_of_tab (P:=Tryz.prog) (t:=228) (e:=215) (n:=20) (by kernel_rfl) (by kernel_rfl) (by kernel_rfl) (by kernel_rfl) hd]
theorem size_of_reads {W:World}{d:DataW Unit}(h:Lib.VarReads Tryz.prog W "math/bits.deBruijn64tab" d):9<=W.heap.size:=by
 have hg:Tryz.prog.globalNamed "math/bits.deBruijn64tab" = some 8:=by kernel_rfl
 obtain ⟨g',t',cs,fuel,p,hg',ht',hvar,hd⟩:=h;unfold World.var? at hvar;rw [hg] at hvar;simp only [Option.bind_some] at hvar
 cases hq:W.heap[8]? with
 | none=>rw [hq] at hvar;cases hvar
 | some o=>have:=(Array.getElem?_eq_some_iff.1 hq).1;omega
noncomputable def handleWorld (os:Os):World :=
 let w0:=World.holding Tryz.prog os ⟨#[],#[],[]⟩
 { w0 with heap:=w0.heap.modify 0 fun
   | .cells _ t frozen => .cells #[.iface 168 (.agg #[.pointer (some ⟨9,41,none⟩)])] t frozen
   | o=>o }
noncomputable def tokWorld (os:Os):World:=(handleWorld os).layVars Tryz.prog plainLaid
theorem laidMet_lay0 {P:Program}{w0:World}{laid:List (String × DataW Unit)}(args:Array Value)(hf:w0.layFits P laid []=true)(hi:w0.layIfaces P laid (w0.layVars P laid)=true):
  laidMet P laid ((w0.layVars P laid).forCall (fun _ _=>0) ⟨#[],args,[]⟩).memory:=by
 have e1:(laid.filter fun x=>(laid.map (·.1)).contains x.1)=laid:=List.filter_eq_self.2 fun x hx=>List.contains_iff_mem.2 (List.mem_map.2 ⟨x,hx,rfl⟩);have e2:(laid.filter fun x=>!(laid.map (·.1)).contains x.1)=[]:=List.filter_eq_nil_iff.2 fun x hx=>by rw [List.contains_iff_mem.2 (List.mem_map.2 ⟨x,hx,rfl⟩)];simp
 have h:laidMet P laid (w0.layVars P laid):=laidMet_layVars (w0:=w0) (laid.map (·.1)) [] (by rw [e1]) (by rw [e1];exact hf) (by rw [e1];exact hi) (by rw [e2];exact LaidIn.none);exact h.of_heap (by simp [World.memory,World.forCall,Input.heap])
theorem tokWorld_met (os:Os)(args:Array Value)(hargs:args=#[.slice none 0 0,.int .i8 0]):laidMetH Tryz.prog Rows.showNodesRow.laid ((tokWorld os).forCall (fun _ _=>0) ⟨#[],args,[]⟩).memory:=by
 subst hargs;refine laidMetH_of_parts ?_ ?_
 ·rw [plain_eq];exact laidMet_lay0 _ (by kernel_rfl) (by kernel_rfl)
 ·rw [handle_eq];kernel_rfl
theorem nodes_lifted (os:Os)(started:os.Started)(H:Type)(enc:TypeId × Value->H):
  ReturnsInHanded {} Tryz.checked os 3 .any (fun w args=>(Rows.showNodesSpec.pre enc Tryz.prog Tryz.f3 Rows.showNodesRow.domain false w args/\laidMetH Tryz.prog Rows.showNodesRow.laid w)/\sizedMet enc Tryz.prog Tryz.f3 (OpenSpec.ofChange Rows.showNodesSpec) false w args)
   (Rows.showNodesSpec.post enc Tryz.prog Tryz.f3 false true false false):=by
 refine returnsInHanded_of_change_and (C:=Tryz.checked) (X:=fun w _=>laidMetH Tryz.prog Rows.showNodesRow.laid w) (fun _ _ _ hh h=>h.of_heap hh) Tryz.own started (by kernel_rfl) Tryz.func3
  (ChangeSpec.witness_shaped (enc:=enc) (C:=Tryz.checked) (os:=os) (X:=fun w _=>laidMetH Tryz.prog Rows.showNodesRow.laid w) false (tokWorld os) #[.slice none 0 0,.int .i8 0] 8 (World.layVars_os _ _ _)
   (World.shaped_of_ZipB (by kernel_rfl) (by kernel_rfl)) (by kernel_rfl) (by kernel_rfl) (by kernel_rfl) (tokWorld_met os _ rfl)) ?_
 intro W base args ds gs before hval0 hW _ hz0 hL _;have hval:∀ (j:Nat) t v,Tryz.f3.params[j]? = some t->args[j]? = some v->Value.okWide Tryz.prog W .any base t v:=hval0;have hz:(DataW.weightsEach Tryz.prog (Tryz.f3.params.toList++Rows.showNodesSpec.plain.varTypes Tryz.prog) (ds++gs)).all (· <= reachBytes)=true:=hz0;have hW':=hW;obtain ⟨p,q,hA0,hV,rfl,_,_⟩:=hW;have hA:DataW.TrodAll enc Tryz.prog W 0 (fun _=>true) true Tryz.f3.params.toList args.toList ds p:=hA0;rw [Tryz.params3] at hA hval hz;obtain ⟨v0,vs0,d0,ds0,p0,q0,hargs,rfl,rfl,h0,r0⟩:=trodAll_cons hA;obtain ⟨v1,vs1,d1,ds1,p1,q1,rfl,rfl,rfl,h1,r1⟩:=trodAll_cons r0;obtain ⟨rfl,rfl,rfl⟩:=trodAll_nil r1;obtain rfl:args=#[v0,v1]:=by cases args;simp_all
 obtain ⟨rfl,rfl⟩:=trodVars_none hV;have k0:=h0;have lt0:∀ x∈p0,x.block<W.heap.size:=by obtain ⟨m,hm⟩:=k0;exact DataW.trod_lt m _ _ _ hm
 obtain ⟨a0,len,cap,rfl⟩:=okWide_slice Tryz.underlying22 (hval 0 22 v0 rfl rfl);obtain ⟨L,rfl,hN,hI,hB⟩:∃ L:List Nd,L.length=len/\NodesAt W.heap.size W a0 L/\(∀ i,i<len -> -9223372036854775808<=(nd L i).num/\(nd L i).num<=9223372036854775807)/\∀ B,(∀ n∈d0.weights Tryz.prog 22,n<=B)->len<=B/\∀ i,i<len->(nd L i).op.size<=B/\(nd L i).name.size<=B/\(nd L i).kids.length<=B:=by
  obtain ⟨fuel,hf⟩:=h0;exact open_nodes (by simpa [Value.cells] using hf)
 obtain ⟨hB1,hB2⟩:=hB reachBytes (fun n hn=>by
  have:=List.all_eq_true.1 hz n (DataW.weights_mem_each (j:=0) (t:=22) (d:=d0) rfl rfl n hn)
  simpa using this)
 obtain ⟨n,rfl,rfl,rfl,wn⟩:=open_int Tryz.underlying23 (hval 1 23 v1 rfl rfl) h1;have bn:=bounds_i8 wn;have hr:reachBytes<=140737488355328:=by decide
 clear hA0 hval0 hz0;obtain ⟨hP,hH⟩:=laid_parts hL;have hT:Lib.Utf8Tabs 1 2 W:=tabs_of_reads (Lib.laidMet.reads hP (by simp [plainLaid])) (Lib.laidMet.reads hP (by simp [plainLaid]));have hg:=handle_of_laid hH;have htab:=pow_of_reads (Lib.laidMet.reads hP (by simp [plainLaid]));have hsz:9<=W.heap.size:=size_of_reads (Lib.laidMet.reads hP (d:=Rows.laid_math_bits_deBruijn64tab) (by simp [plainLaid]));refine (shownodes_any a0 cap L n (by omega) (by omega) W ⟨hT,hg,htab,hsz⟩ hN (by omega) (fun i hi=>by have:=hB2 i hi;omega) hI).mono fun e W' ⟨he,bel⟩=>?_;subst he;exact ⟨_,rfl,_,_,_,[],_,[],hW',trodAll_mk1 (shut_bool Tryz.underlying4 _),(trodAll_cons_mk (Below.trod Tryz.laidOut (by kernel_rfl) (of_decide_eq_true (by kernel_rfl)) k0 bel lt0) (trodAll_cons_mk (shut_int Tryz.underlying23 wn) trodAll_mk0)),rfl,bel.frame _,fun h=>by cases h⟩
theorem nodes_holds:Rows.ShowNodesSaid :=
 OpenClaim.holds_of_wide 3 Tryz.f3 rfl rfl rfl rfl rfl rfl rfl ⟨rfl,rfl,rfl,rfl,rfl⟩ rfl rfl rfl rfl rfl (by kernel_rfl) Tryz.func3 (by kernel_rfl)
  (of_decide_eq_true (by kernel_rfl)) (by unfold Func.isWrapper;first | (rw [if_pos (by decide +kernel)];kernel_rfl) | (rw [if_neg (by decide +kernel)];exact ⟨rfl,rfl⟩))
  (fun os started H enc _=>nodes_lifted os started H enc)
theorem showNodes_holds:Rows.ShowNodesCardSaid :=
 Claim7.holds_tied_plain_at .later [] [.data,.data,.data,.data,.handle,.sentinel,.sentinel,.pinned] true (true, "d76bf89d0c1ffbfb98bae241b515b8515f68964a795648a5dfcccdfb32db508c") true nodes_holds (fun _ h=>by cases h) (by kernel_rfl) (fun _ h=>by cases h) showNodes_row_tie rfl ⟨rfl,rfl⟩ (by kernel_rfl) rfl
  (fun f fn hf hfn=>by
   obtain rfl:f=3:=Option.some.inj ((show Tryz.prog.funcNamed "whisper/whisperlaw08.ShowNodes" = some 3 by kernel_rfl).symm.trans hf) |>.symm
   obtain rfl:fn=Tryz.f3:=(Option.some.inj (Tryz.func3.symm.trans hfn)).symm;exact ⟨by kernel_rfl,fun j t ht=>by
    rw [Tryz.params3] at ht;have hm:t∈[22,23]:=by simpa using Array.mem_of_getElem? ht
    have hall:([22,23].all fun u=>!Tryz.prog.wantsStandIn u)=true:=by kernel_rfl
    exact (show Tryz.prog.wantsStandIn t=false by simpa using List.all_eq_true.1 hall t hm)⟩)
  (by kernel_rfl)
#print axioms showNodes_holds
end Go.Proofs.YtninlbknklbofaaGreatDoor
