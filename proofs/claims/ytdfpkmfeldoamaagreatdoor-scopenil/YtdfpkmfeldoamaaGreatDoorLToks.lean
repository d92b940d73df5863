/- A part of the proof: The tokens of a text: Tokens, at every text of at most 10^12 bytes. -/
import Derived.Test.YtdfpkmfeldoamaaGreatDoorLFloat
import Derived.Deep.AppendLies
import Derived.Deep.RegionHeld3
import Derived.BigRegion
import Derived.Deep.RegionWith
import Derived.Deep.DeepCutAuto
set_option linter.unusedSimpArgs false
set_option linter.unusedVariables false
set_option maxRecDepth 100000
set_option maxHeartbeats 4000000
namespace Go.Proofs.YtdfpkmfeldoamaaGreatDoor
open Go.RowKit
theorem Tryz.info118:(Tryz.prog.info? 118).map (fun i=>(i.zero,i.size,i.bytes))=some (some (.agg #[.int .i64 0,.string ⟨#[]⟩,.int .i64 0,.int .i64 0,.int .i64 0]),5,48):=by kernel_rfl
def tokCell (t:Lx.Tok):List Value:=[.int .i64 t.kind,.string ⟨t.text.toArray⟩,.int .i64 t.int,.int .i64 t.at_.line,.int .i64 t.at_.col]
def tokCells (ts:List Lx.Tok):List Value:=ts.flatMap tokCell
theorem tokCells_snoc (ts:List Lx.Tok)(t:Lx.Tok):tokCells (ts++[t])=tokCells ts++tokCell t:=by simp [tokCells]
theorem own_below {w w':World}{base:Nat}{e:TypeId}{size:Nat}{v:Value}{n:Nat}{xs:List Value}(h:w.ownsRow base e size v n xs)(hb:Below w.heap.size w w'):w'.ownsRow base e size v n xs:=by
 refine ⟨h.1, ?_⟩
 rcases h.2 with hn | ⟨g,cap,cur,rfl,hbg,hgg,rest⟩
 ·exact .inl hn
 ·exact .inr ⟨g,cap,cur,rfl,hbg,by rw [hb.block g (Array.getElem?_eq_some_iff.1 hgg).1];exact hgg,rest⟩
theorem own_mono {w:World}{base base':Nat}{e:TypeId}{size:Nat}{v:Value}{n:Nat}{xs:List Value}(h:w.ownsRow base e size v n xs)(hb:base'<=base):w.ownsRow base' e size v n xs:=by
 refine ⟨h.1, ?_⟩
 rcases h.2 with hn | ⟨g,cap,cur,rfl,hbg,rest⟩
 ·exact .inl hn
 ·exact .inr ⟨g,cap,cur,rfl,by omega,rest⟩
structure TokSt (w:World)(R:Lx.Res)(t:ByteArray)(p:Lx.Pos)(out:List Lx.Tok)(v:Value)(wr:World):Prop where
 own:wr.ownsRow (w.heap.size+1) 118 5 v out.length (tokCells out)
 c0:wr.cell? ⟨w.heap.size,0,none⟩=some (.int .i64 p.line)
 c1:wr.cell? ⟨w.heap.size,1,none⟩=some (.int .i64 p.col)
 f0:wr.frozen? ⟨w.heap.size,0,none⟩=false
 f1:wr.frozen? ⟨w.heap.size,1,none⟩=false
 bl:Below w.heap.size w wr
 va:Lx.Valid t.data.toList
 fin:R=(Lx.toks (t.data.toList.length+1) false p t.data.toList).after out
 sz:t.size+out.length<=65536
 l0:0<=p.line
 l1:p.line+t.size<=70000
 k0:0<=p.col
 k1:p.col+t.size<=70000
def strLen:Value->Nat
 | .string t=>t.size
 | _=>0
def TokPost (R:Lx.Res)(w:World)(e:Ending)(w':World):Prop :=
 Below w.heap.size w w'/\match R with
 | .bad c p=>e = .returned (.tuple #[.slice none 0 0,.iface 43 (.agg #[.int .i64 c,.int .i64 p.line,.int .i64 p.col,.string ⟨#[]⟩])])
 | .ok ts=>∃ v,e = .returned (.tuple #[v,.nilIface])/\w'.ownsRow w.heap.size 118 5 v ts.length (tokCells ts)
theorem tokens_any (s:ByteArray)(w:World)(hs:s.size<=1000000000000)(hT:Lib.Utf8Tabs 2 3 w):Calls Tryz.prog 34 #[.string s] w (TokPost (Lx.whole s.data.toList) w):=by
 obtain ⟨i0,hi0,hz0,hz1,hz2⟩:=info_parts Tryz.info118;have hw0:Below w.heap.size w (w.alloc (.cells #[.int .i64 1,.int .i64 1] 41)):=(Below.refl _ _).alloc (Nat.le_refl _) _;have c0:(w.alloc (.cells #[.int .i64 1,.int .i64 1] 41)).cell? ⟨w.heap.size,0,none⟩=some (.int .i64 1):=by simp [go_sem]
 have c1:(w.alloc (.cells #[.int .i64 1,.int .i64 1] 41)).cell? ⟨w.heap.size,1,none⟩=some (.int .i64 1):=by simp [go_sem]
 have cf:∀ i,(w.alloc (.cells #[.int .i64 1,.int .i64 1] 41)).frozen? ⟨w.heap.size,i,none⟩=false:=fun i=>World.frozen?_alloc_new _ _ _ _
 by_cases h1:s.data.toList.length>65536
 ·have hW:Lx.whole s.data.toList = .bad 6 ⟨1,1⟩:=by rw [Lx.whole,if_pos h1]
  rw [hW];rw [<- size_len] at h1
  go_enter Tryz.func34,Tryz.ntmps34
  go_upto_region 3 with fail
  generalize w.alloc (.cells #[.int .i64 1,.int .i64 1] 41)=w1 at *;clear h1 hs hW hT hi0 hz0 hz1 hz2 cf
  go_quiet (fail)
  go_wp2
  refine bodyPost_ret (v := .tuple #[.slice none 0 0,.iface 43 (.agg #[.int .i64 6,.int .i64 1,.int .i64 1,.string ⟨#[]⟩])]) (by simp [results,Tryz.results34]) rfl ⟨?_,rfl⟩;exact below_drewN hw0 _
 ·have hlen:=h1;rw [<- size_len] at hlen
  by_cases h2:Lx.vlen (s.data.toList.length+1) s.data.toList<s.data.toList.length
  ·have hW:Lx.whole s.data.toList = .bad 3 (Lx.adv ⟨1,1⟩ (s.data.toList.take (Lx.vlen (s.data.toList.length+1) s.data.toList))):=by rw [Lx.whole,if_neg h1,if_pos h2]
   rw [hW];have hV:=Lx.vlen_valid (s.data.toList.length+1) s.data.toList;have cL:=fun w=>fun h=>textlen_any s w hs h;have hd:Lx.vlen (s.data.toList.length+1) s.data.toList<s.size:=by rw [size_len];exact h2
   generalize Lx.vlen (s.data.toList.length+1) s.data.toList=n at *;have cB:=fun w=>behind_any (s.extract 0 n) ⟨1,1⟩ w (by rw [head_sz s n (by omega)];omega) (by rw [head_list];exact hV) (by decide) (by decide) (by decide) (by decide);rw [head_list] at cB;generalize Lx.adv ⟨1,1⟩ (s.data.toList.take n)=p at *;have CB:=Lib.hid cB;have CL:=Lib.hid cL;have hU:=Utf8Tabs_below hT hw0;have HU:=Lib.hid hU;clear cB cL hV h1 h2 hW hT hU hi0 hz0 hz1 hz2 cf
   go_enter Tryz.func34,Tryz.ntmps34
   go_wp2_with fail
   generalize w.alloc (.cells #[.int .i64 1,.int .i64 1] 41)=w1 at *;refine (CL.out _ HU.out).mono ?_;rintro e w2 ⟨rfl,hb2⟩;have hlt:w.heap.size<w1.heap.size:=World.block_lt_of_cell? _ _ c0;have y0:=(hb2.cell (p:=⟨w.heap.size,0,none⟩) hlt).trans c0;have y1:=(hb2.cell (p:=⟨w.heap.size,1,none⟩) hlt).trans c1;have hb3:Below w.heap.size w w2:=hw0.trans (hb2.mono hw0.size);clear c0 c1 hb2 hlt
   go_upto_region 6 with fail
   have Y0:=fun x:Later w2=>Later.cell y0 x;have Y1:=fun x:Later w2=>Later.cell y1 x;have k1:∀ x:Later w2,Calls Tryz.prog 73 #[.agg #[.int .i64 1,.int .i64 1],.string (s.extract 0 n)] x.wx fun e w''=>e = .returned (.agg #[.int .i64 p.line,.int .i64 p.col])/\∃ y:Later w2,w''=y.wx:=fun x=>calls_later (CB.out _);have K1:=Lib.hid k1;clear k1;refine wp_region_later (by kernel_rfl) (by kernel_rfl) ?_
   repeat (go_big_quiet_step ((go_at_call 73;with_reducible exact K1.out _)))
   refine wpQuiet_nil ?_;intro _ hw';obtain ⟨x,rfl⟩:=hw'
   go_wp2
   refine bodyPost_ret (v := .tuple #[.slice none 0 0,.iface 43 (.agg #[.int .i64 3,.int .i64 p.line,.int .i64 p.col,.string ⟨#[]⟩])]) (by simp [results,Tryz.results34]) rfl ⟨?_,rfl⟩;exact hb3.trans (x.le.mono hb3.size)
  ·have hW:Lx.whole s.data.toList=Lx.toks (s.data.toList.length+1) false ⟨1,1⟩ s.data.toList:=by rw [Lx.whole,if_neg h1,if_neg h2]
   have hV:=Lx.vlen_all h2;have cL:=fun w=>fun h=>textlen_any s w hs h;have hd:((Lx.vlen (s.data.toList.length+1) s.data.toList:Nat):Int)=s.size:=by
    have:=Lx.vlen_le (s.data.toList.length+1) s.data.toList;rw [size_len];omega
   rw [hd] at cL;clear hd h2;generalize Lx.whole s.data.toList=R at *;have CL:=Lib.hid cL;have hU:=Utf8Tabs_below hT hw0;have HU:=Lib.hid hU;have HV:=Lib.hid hV;have HW:=Lib.hid hW;have HI:=Lib.hid hi0;have HZ:=Lib.hid hz0;have HZ1:=Lib.hid hz1;have HZ2:=Lib.hid hz2;clear cL h1 hW hT hU hV hi0 hz0 hz1 hz2
   go_enter Tryz.func34,Tryz.ntmps34
   go_wp2_with fail
   generalize w.alloc (.cells #[.int .i64 1,.int .i64 1] 41)=w1 at *;refine (CL.out _ HU.out).mono ?_;rintro e w2 ⟨rfl,hb2⟩;have hlt:w.heap.size<w1.heap.size:=World.block_lt_of_cell? _ _ c0;have hS0:TokSt w R s ⟨1,1⟩ [] (.slice none 0 0) w2 :=
    ⟨World.ownsRow_nil _ _ _ _,(hb2.cell (p:=⟨w.heap.size,0,none⟩) hlt).trans c0,(hb2.cell (p:=⟨w.heap.size,1,none⟩) hlt).trans c1,(hb2.frozen (p:=⟨w.heap.size,0,none⟩) hlt).trans (cf 0),(hb2.frozen (p:=⟨w.heap.size,1,none⟩) hlt).trans (cf 1),hw0.trans (hb2.mono hw0.size),HV.out,
     by rw [Lx.Res.after_nil];exact HW.out,by simpa using hlen,by decide,by show (1:Int)+s.size<=_;omega,by decide,by show (1:Int)+s.size<=_;omega⟩
   clear c0 c1 cf hb2 hlt hw0 HV HW HU CL w1 hlen
   go_wp2
   go_loopw [0,6] (fun s0 v wr=>∃ t p out,s0 = .string t/\TokSt w R t p out v wr) (fun s0 _ _=>strLen s0)
   case atStart=>exact ⟨s,⟨1,1⟩,[],rfl,hS0⟩
   case round =>
    obtain ⟨t,p,out,rfl,hS⟩:=hrel;clear hS0;have hts:=hS.sz;have hv:=hS.va.blanks _ _ (Nat.le_refl _) false;have hn:=Lx.blanks_le false t.data.toList;rw [<- size_len] at hn;have cK:=fun w=>blanks_any t w (by omega);have hbd:=Lx.adv_bound (t.data.toList.take (Lx.blanks false t.data.toList)) p (70000-t.size) (by omega) hS.l0 (by have:=hS.l1;omega) hS.k0 (by have:=hS.k1;omega);rw [List.length_take,<- size_len,Nat.min_eq_left hn] at hbd;have cB:=fun w=>behind_any (t.extract 0 (Lx.blanks false t.data.toList)) p w (by rw [head_sz t _ hn];omega) (by rw [head_list];exact hv.1) hS.l0 (by have:=hS.l1;omega) hS.k0 (by have:=hS.k1;omega);rw [head_list] at cB;have htl:=tail_list t (Lx.blanks false t.data.toList);have htz:=tail_sz t (Lx.blanks false t.data.toList);have cF:=fun w=>firstToken_any (t.extract (Lx.blanks false t.data.toList) t.size) w (by rw [htz];omega);have hbad:=fun e=>Lx.toks_bad (e:=e) hS.fin;have hend:=fun m v=>Lx.toks_end (m:=m) (v:=v) hS.fin;have hmore:=fun k m v=>Lx.toks_more (k:=k) (m:=m) (v:=v) hS.fin;rw [<- htl] at hbad hend hmore hv;generalize Lx.adv p (t.data.toList.take (Lx.blanks false t.data.toList))=p1 at *;generalize Lx.blanks false t.data.toList=n at *;have hsl:t.extract n t.size=t.extract n t.size:=rfl;generalize hT1:t.extract n t.size=t1 at *;clear htl hsl;have CK:=Lib.hid cK;have CB:=Lib.hid cB;have CF:=Lib.hid cF;have HB:=Lib.hid hbad;have HE:=Lib.hid hend;have HM:=Lib.hid hmore;clear cK cB cF hbad hend hmore;have c0:=hS.c0;have c1:=hS.c1;have f0:=hS.f0;have f1:=hS.f1
    go_wp2_with fail
    refine (CK.out _).mono ?_;rintro e w' ⟨rfl,rfl⟩;have hlt:w.heap.size<wr.heap.size:=World.block_lt_of_cell? _ _ c0;have KB:∀ W,Near w.heap.size wr W->W.frozen? ⟨w.heap.size,0,none⟩=false->W.frozen? ⟨w.heap.size,1,none⟩=false->(W.frozen? ⟨w.heap.size,0,none⟩=false/\W.frozen? ⟨w.heap.size,1,none⟩=false/\Near w.heap.size wr W):=fun W h a b=>⟨a,b,h⟩;have KS:∀ W i v j u,(W.frozen? ⟨w.heap.size,0,none⟩=false/\W.frozen? ⟨w.heap.size,1,none⟩=false/\Near w.heap.size wr W)->(((W.setCell ⟨w.heap.size,i,none⟩ v).setCell ⟨w.heap.size,j,none⟩ u).frozen? ⟨w.heap.size,0,none⟩=false/\((W.setCell ⟨w.heap.size,i,none⟩ v).setCell ⟨w.heap.size,j,none⟩ u).frozen? ⟨w.heap.size,1,none⟩=false/\Near w.heap.size wr ((W.setCell ⟨w.heap.size,i,none⟩ v).setCell ⟨w.heap.size,j,none⟩ u)):=fun W i v j u h=>⟨by simpa using h.1,by simpa using h.2.1,(h.2.2.setCell i v).setCell j u⟩;have KD:=KB _ (Near.refl w.heap.size wr).drew (by simpa using f0) (by simpa using f1);have KR:=KB _ (Near.refl w.heap.size wr) f0 f1;have q1:∀ W,(W.frozen? ⟨w.heap.size,0,none⟩=false/\W.frozen? ⟨w.heap.size,1,none⟩=false/\Near w.heap.size wr W)->Calls Tryz.prog 73 #[.agg #[.int .i64 p.line,.int .i64 p.col],.string (t.extract 0 n)] W fun e w''=>e = .returned (.agg #[.int .i64 p1.line,.int .i64 p1.col])/\(w''.frozen? ⟨w.heap.size,0,none⟩=false/\w''.frozen? ⟨w.heap.size,1,none⟩=false/\Near w.heap.size wr w'')/\Keeps W w'':=fun W h=>(CB.out W).mono fun e w'' ⟨he,hb⟩=>by
     have hl:w.heap.size<W.heap.size:=Nat.lt_of_lt_of_le hlt h.2.2.size;exact ⟨he,KB _ (h.2.2.below hb) ((hb.frozen (p:=⟨w.heap.size,0,none⟩) hl).trans h.1) ((hb.frozen (p:=⟨w.heap.size,1,none⟩) hl).trans h.2.1),below_keeps hb⟩
    have K1:=Lib.hid q1;clear q1;have HKS:=Lib.hid KS;clear KS;have HKD:=Lib.hid KD;clear KD KB
    go_upto_region 9 with fail
    go_cut [0] (fun v wz=>v = .string t1/\wz.cell? ⟨w.heap.size,0,none⟩=some (.int .i64 p1.line)/\wz.cell? ⟨w.heap.size,1,none⟩=some (.int .i64 p1.col)/\Near w.heap.size wr wz/\wz.frozen? ⟨w.heap.size,0,none⟩=false/\wz.frozen? ⟨w.heap.size,1,none⟩=false)
    case first =>
     go_region_with (first | (go_at_call 73;(with_reducible refine (K1.out _ (by first | assumption | exact HKD.out)).mono ?_);rintro e w'' ⟨rfl,hS',hcell,hfroz⟩))
     have y0:=keep_drew hcell c0;have y1:=keep_drew hcell c1;have s2:=set_two w'' w.heap.size (.int .i64 p1.line) (.int .i64 p1.col) _ _ y0 y1;have s3:=HKS.out w'' 0 (.int .i64 p1.line) 1 (.int .i64 p1.col) hS';have S2:=Lib.hid s2;have S3:=Lib.hid s3;clear s2 s3 hcell hfroz y0 y1
     go_wp2_with fail
     go_meet
     exact ⟨rfl,S2.out.1,S2.out.2,S3.out.2.2,S3.out.1,S3.out.2.1⟩
    case rest =>
     obtain ⟨rfl,y0,y1,hN,g0,g1⟩:=hcut;have yo:=hN.own hS.own (by omega);have yb:Below w.heap.size w wc:=hS.bl.trans (hN.to_below (Nat.le_refl _) (Nat.le_of_lt hlt));have hlc:w.heap.size<wc.heap.size:=World.block_lt_of_cell? _ _ y0;clear hN K1 HKS HKD KR CB CK c0 c1 f0 f1 hlt
     cases hone:Lx.one t1.data.toList with
     | bad ec =>
      have hR:=HB.out ec hone;have hec:=(Lx.one_bad hone).1;subst hR;have cF:=CF.out;simp only [hone,gotV] at cF;have CF2:=Lib.hid cF;have hne:(ec != 0)=true:=by rcases hec with rfl | rfl <;> rfl
      have hne':(ec==0)=false:=by rcases hec with rfl | rfl <;> rfl
      clear hec HB HE HM hone cF CF
      go_wp2_with fail
      refine (CF2.out _).mono ?_;rintro e w3 ⟨rfl,hb3⟩;have z0:=(hb3.cell (p:=⟨w.heap.size,0,none⟩) hlc).trans y0;have z1:=(hb3.cell (p:=⟨w.heap.size,1,none⟩) hlc).trans y1;have zb:Below w.heap.size w w3:=yb.trans (hb3.mono yb.size);have hl3:w.heap.size<w3.heap.size:=World.block_lt_of_cell? _ _ z0;have a0:∀ o,(w3.alloc o).cell? ⟨w.heap.size,0,none⟩=some (.int .i64 p1.line):=fun o=>by rw [World.cell?_alloc_lt _ _ ⟨w.heap.size,0,none⟩ hl3];exact z0
      have a1:∀ o,(w3.alloc o).cell? ⟨w.heap.size,1,none⟩=some (.int .i64 p1.col):=fun o=>by rw [World.cell?_alloc_lt _ _ ⟨w.heap.size,1,none⟩ hl3];exact z1
      have ab:∀ o,Below w.heap.size w (w3.alloc o):=fun o=>zb.alloc zb.size o;clear hb3 y0 y1 g0 g1 yo yb hlc z0 z1 zb
      go_upto_region 12 with fail
      have b0:=a0 (.cells #[.int .i64 0,.string ⟨#[]⟩,.int .i64 0,.int .i64 0,.int .i64 0] 118);have b1:=a1 (.cells #[.int .i64 0,.string ⟨#[]⟩,.int .i64 0,.int .i64 0,.int .i64 0] 118);have bb:=ab (.cells #[.int .i64 0,.string ⟨#[]⟩,.int .i64 0,.int .i64 0,.int .i64 0] 118);clear a0 a1 ab hl3;generalize w3.alloc (.cells #[.int .i64 0,.string ⟨#[]⟩,.int .i64 0,.int .i64 0,.int .i64 0] 118)=w4 at *;clear hS hs hts hbd hn htz hne hne' hT1 hv
      go_quiet (fail)
      go_wp2
      refine bodyPost_ret (v := .tuple #[.slice none 0 0,.iface 43 (.agg #[.int .i64 ec,.int .i64 p1.line,.int .i64 p1.col,.string ⟨#[]⟩])]) (by simp [results,Tryz.results34]) rfl ⟨?_,rfl⟩;exact below_drewN bb _
     | tok k m v =>
      have T:=Lx.one_tok hone;have cF:=CF.out;simp only [hone,gotV] at cF;have CF2:=Lib.hid cF;have hm:=T.le;rw [<- size_len] at hm;have hTX:t1.extract 0 m=⟨(t1.data.toList.take m).toArray⟩:=ext_list (by rw [head_list]);have hTZ:=head_sz t1 m hm;have hval:=Lx.valid_ascii _ T.ascii;have cB:=fun w=>behind_any (t1.extract 0 m) p1 w (by rw [hTZ];omega) (by rw [head_list];exact hval) hbd.1 (by omega) hbd.2.2.1 (by omega);rw [head_list] at cB;have CB:=Lib.hid cB;have HTX:=Lib.hid hTX;clear cF CF hTX cB hval HB;generalize hTG:t1.extract 0 m=TX at *
      go_wp2_with fail
      refine (CF2.out _).mono ?_;rintro e w3 ⟨rfl,hb3⟩;have z0:=(hb3.cell (p:=⟨w.heap.size,0,none⟩) hlc).trans y0;have z1:=(hb3.cell (p:=⟨w.heap.size,1,none⟩) hlc).trans y1;have zf0:=(hb3.frozen (p:=⟨w.heap.size,0,none⟩) hlc).trans g0;have zf1:=(hb3.frozen (p:=⟨w.heap.size,1,none⟩) hlc).trans g1;have zo:=own_below yo hb3;have zb:Below w.heap.size w w3:=yb.trans (hb3.mono yb.size);have hl3:w.heap.size<w3.heap.size:=World.block_lt_of_cell? _ _ z0;have a0:∀ o,(w3.alloc o).cell? ⟨w.heap.size,0,none⟩=some (.int .i64 p1.line):=fun o=>by rw [World.cell?_alloc_lt _ _ ⟨w.heap.size,0,none⟩ hl3];exact z0
      have a1:∀ o,(w3.alloc o).cell? ⟨w.heap.size,1,none⟩=some (.int .i64 p1.col):=fun o=>by rw [World.cell?_alloc_lt _ _ ⟨w.heap.size,1,none⟩ hl3];exact z1
      have af0:∀ o,(w3.alloc o).frozen? ⟨w.heap.size,0,none⟩=false:=fun o=>by rw [World.frozen?_alloc_old _ _ ⟨w.heap.size,0,none⟩ (by simp;omega)];exact zf0
      have af1:∀ o,(w3.alloc o).frozen? ⟨w.heap.size,1,none⟩=false:=fun o=>by rw [World.frozen?_alloc_old _ _ ⟨w.heap.size,1,none⟩ (by simp;omega)];exact zf1
      have ab:∀ o,Below w.heap.size w (w3.alloc o):=fun o=>zb.alloc zb.size o;have ao:∀ o,(w3.alloc o).ownsRow (w.heap.size+1) 118 5 u6 out.length (tokCells out):=fun o=>zo.alloc o;have hlo:∀ q,u6.ownBlock=some q->w.heap.size+1<=q/\q<w3.heap.size:=zo.lt;have HAF0:=Lib.hid af0;have HAF1:=Lib.hid af1;have HAO:=Lib.hid ao;have HLO:=Lib.hid hlo;clear hb3 y0 y1 g0 g1 yo yb hlc z0 z1 zb zf0 zf1 zo af0 af1 ao hlo
      go_upto_region 14 with fail
      have b0:=a0 (.cells #[.int .i64 k,.string TX,.int .i64 v,.int .i64 p1.line,.int .i64 p1.col] 118);have b1:=a1 (.cells #[.int .i64 k,.string TX,.int .i64 v,.int .i64 p1.line,.int .i64 p1.col] 118);have bb:=ab (.cells #[.int .i64 k,.string TX,.int .i64 v,.int .i64 p1.line,.int .i64 p1.col] 118);have bf0:=HAF0.out (.cells #[.int .i64 k,.string TX,.int .i64 v,.int .i64 p1.line,.int .i64 p1.col] 118);have bf1:=HAF1.out (.cells #[.int .i64 k,.string TX,.int .i64 v,.int .i64 p1.line,.int .i64 p1.col] 118);have bo:=HAO.out (.cells #[.int .i64 k,.string TX,.int .i64 v,.int .i64 p1.line,.int .i64 p1.col] 118);have t0:(w3.alloc (.cells #[.int .i64 k,.string TX,.int .i64 v,.int .i64 p1.line,.int .i64 p1.col] 118)).cell? ⟨w3.heap.size,0,none⟩=some (.int .i64 k):=by rw [World.cell?_alloc_new];rfl
      have t1':(w3.alloc (.cells #[.int .i64 k,.string TX,.int .i64 v,.int .i64 p1.line,.int .i64 p1.col] 118)).cell? ⟨w3.heap.size,1,none⟩=some (.string TX):=by rw [World.cell?_alloc_new];rfl
      have t2:(w3.alloc (.cells #[.int .i64 k,.string TX,.int .i64 v,.int .i64 p1.line,.int .i64 p1.col] 118)).cell? ⟨w3.heap.size,2,none⟩=some (.int .i64 v):=by rw [World.cell?_alloc_new];rfl
      have t3:(w3.alloc (.cells #[.int .i64 k,.string TX,.int .i64 v,.int .i64 p1.line,.int .i64 p1.col] 118)).cell? ⟨w3.heap.size,3,none⟩=some (.int .i64 p1.line):=by rw [World.cell?_alloc_new];rfl
      have t4:(w3.alloc (.cells #[.int .i64 k,.string TX,.int .i64 v,.int .i64 p1.line,.int .i64 p1.col] 118)).cell? ⟨w3.heap.size,4,none⟩=some (.int .i64 p1.col):=by rw [World.cell?_alloc_new];rfl
      clear a0 a1 ab HAF0 HAF1 HAO;generalize w3.alloc (.cells #[.int .i64 k,.string TX,.int .i64 v,.int .i64 p1.line,.int .i64 p1.col] 118)=w4 at *;have hl4:w3.heap.size<w4.heap.size:=World.block_lt_of_cell? _ _ t0;generalize w3.heap.size=Y at *
      go_upto_region 15 with (at_builtin;refine wpList_append_own _ rfl (.tmp 53) (.tmp 55) 70 rfl (w.heap.size+1) 118 i0 _ 5 48 Tryz.underlying70 HI.out HZ.out HZ1.out HZ2.out rfl (by decide) u6 out.length (tokCells out) rfl (bo.alloc _) ⟨w4.heap.size,0,none⟩ 1 1 [.int .i64 k,.string TX,.int .i64 v,.int .i64 p1.line,.int .i64 p1.col] rfl rfl (World.news_of_block (cs:=#[.int .i64 k,.string TX,.int .i64 v,.int .i64 p1.line,.int .i64 p1.col]) (t:=118) (fr:=(0,0)) (heap_alloc_new w4 _)) (fun x hx=>by simp at hx;rcases hx with rfl | rfl | rfl | rfl | rfl <;> rfl) (by unfold maxLen;omega) (by omega) (by simp;omega) ?_;intro v5 w5 hown5 hgrow5 hnil5)
      have d0:w5.cell? ⟨w.heap.size,0,none⟩=some (.int .i64 p1.line):=by
       rw [hgrow5.cell_far _ (by simp;omega) (fun e=>by have h9:=(HLO.out _ e.symm).1;have h8:w.heap.size+1<=w.heap.size:=h9;omega),World.cell?_alloc_lt _ _ ⟨w.heap.size,0,none⟩ (by simp;omega)];exact b0
      have d1:w5.cell? ⟨w.heap.size,1,none⟩=some (.int .i64 p1.col):=by
       rw [hgrow5.cell_far _ (by simp;omega) (fun e=>by have h9:=(HLO.out _ e.symm).1;have h8:w.heap.size+1<=w.heap.size:=h9;omega),World.cell?_alloc_lt _ _ ⟨w.heap.size,1,none⟩ (by simp;omega)];exact b1
      have e0:w5.cell? ⟨Y,0,none⟩=some (.int .i64 k):=by
       rw [hgrow5.cell_far _ (by simp;omega) (fun e=>by have:=(HLO.out _ e.symm).2;simp at this),World.cell?_alloc_lt _ _ ⟨Y,0,none⟩ hl4];exact t0
      have e1:w5.cell? ⟨Y,1,none⟩=some (.string TX):=by
       rw [hgrow5.cell_far _ (by simp;omega) (fun e=>by have:=(HLO.out _ e.symm).2;simp at this),World.cell?_alloc_lt _ _ ⟨Y,1,none⟩ hl4];exact t1'
      have df0:w5.frozen? ⟨w.heap.size,0,none⟩=false:=by
       rw [hgrow5.frozen_far _ (by simp;omega) (fun e=>by have h9:=(HLO.out _ e.symm).1;have h8:w.heap.size+1<=w.heap.size:=h9;omega),World.frozen?_alloc_old _ _ ⟨w.heap.size,0,none⟩ (by simp;omega)];exact bf0
      have df1:w5.frozen? ⟨w.heap.size,1,none⟩=false:=by
       rw [hgrow5.frozen_far _ (by simp;omega) (fun e=>by have h9:=(HLO.out _ e.symm).1;have h8:w.heap.size+1<=w.heap.size:=h9;omega),World.frozen?_alloc_old _ _ ⟨w.heap.size,1,none⟩ (by simp;omega)];exact bf1
      have db:Below w.heap.size w w5:=(bb.alloc bb.size _).grown hgrow5 (by simp;omega) (fun q hq=>by have:=(HLO.out q hq).1;omega);have hl5:w.heap.size<w5.heap.size:=World.block_lt_of_cell? _ _ d0;have hY5:Y<w5.heap.size:=World.block_lt_of_cell? _ _ e0;have ho5:w5.ownsRow (w.heap.size+1) 118 5 v5 (out++[(⟨k,t1.data.toList.take m,v,p1⟩:Lx.Tok)]).length (tokCells (out++[(⟨k,t1.data.toList.take m,v,p1⟩:Lx.Tok)])):=by
       rw [tokCells_snoc,List.length_append];have:tokCell ⟨k,t1.data.toList.take m,v,p1⟩=[.int .i64 k,.string TX,.int .i64 v,.int .i64 p1.line,.int .i64 p1.col]:=by rw [tokCell,HTX.out]
       rw [this];exact hown5
      clear hown5 hgrow5 hnil5 b0 b1 bf0 bf1 bb bo t0 t1' t2 t3 t4 hl4 HTX HI HZ HZ1 HZ2 hTG
      by_cases hk:k=0
      ·subst hk;have hR:=HE.out m v hone;have HO:=Lib.hid ho5;have HR:=Lib.hid hR;clear ho5 hR HE HM hone CB T
       go_wp2
       refine bodyPost_ret (v := .tuple #[v5,.nilIface]) (by simp [results,Tryz.results34]) rfl ⟨db, ?_⟩;rw [HR.out];exact ⟨v5,rfl,own_mono (base':=w.heap.size) HO.out (by omega)⟩
      ·have hR:=HM.out k m v hone hk;have hpos:=T.pos hk;have hsl:TX.size=m:=hTZ;have hva:=Lx.valid_drop m _ hv.2 T.ascii;have hb2:=Lx.adv_bound (t1.data.toList.take m) p1 (70000-t1.size) (by omega) hbd.1 (by omega) hbd.2.2.1 (by omega);rw [List.length_take,<- size_len,Nat.min_eq_left hm] at hb2;rw [<- tail_list t1 m] at hR hva;have h2z:=tail_sz t1 m;generalize Lx.adv p1 (t1.data.toList.take m)=p2 at *;generalize hT2:t1.extract m t1.size=t2 at *;have hkb:(k==0)=false:=by simpa using hk
       have HO:=Lib.hid ho5;have HR:=Lib.hid hR;have HVA:=Lib.hid hva;clear ho5 hR hva HE HM hone T;have KB:∀ W,Near w.heap.size w5 W->W.frozen? ⟨w.heap.size,0,none⟩=false->W.frozen? ⟨w.heap.size,1,none⟩=false->W.cell? ⟨Y,1,none⟩=some (.string TX)->(W.cell? ⟨Y,1,none⟩=some (.string TX)/\W.frozen? ⟨w.heap.size,0,none⟩=false/\W.frozen? ⟨w.heap.size,1,none⟩=false/\Near w.heap.size w5 W):=fun W h a b c=>⟨c,a,b,h⟩;have hYn:Y≠w.heap.size:=by omega
       have KS:∀ W i v j u,(W.cell? ⟨Y,1,none⟩=some (.string TX)/\W.frozen? ⟨w.heap.size,0,none⟩=false/\W.frozen? ⟨w.heap.size,1,none⟩=false/\Near w.heap.size w5 W)->(((W.setCell ⟨w.heap.size,i,none⟩ v).setCell ⟨w.heap.size,j,none⟩ u).cell? ⟨Y,1,none⟩=some (.string TX)/\((W.setCell ⟨w.heap.size,i,none⟩ v).setCell ⟨w.heap.size,j,none⟩ u).frozen? ⟨w.heap.size,0,none⟩=false/\((W.setCell ⟨w.heap.size,i,none⟩ v).setCell ⟨w.heap.size,j,none⟩ u).frozen? ⟨w.heap.size,1,none⟩=false/\Near w.heap.size w5 ((W.setCell ⟨w.heap.size,i,none⟩ v).setCell ⟨w.heap.size,j,none⟩ u)):=fun W i v j u h=>⟨by rw [World.cell?_setCell_other _ _ _ _ (fun e=>hYn (by simpa using (congrArg Addr.block e).symm)),World.cell?_setCell_other _ _ _ _ (fun e=>hYn (by simpa using (congrArg Addr.block e).symm))];exact h.1,by simpa using h.2.1,by simpa using h.2.2.1,(h.2.2.2.setCell i v).setCell j u⟩;have KD:=KB _ (Near.refl w.heap.size w5).drew (by simpa using df0) (by simpa using df1) (by simpa using e1);have q1:∀ W,(W.cell? ⟨Y,1,none⟩=some (.string TX)/\W.frozen? ⟨w.heap.size,0,none⟩=false/\W.frozen? ⟨w.heap.size,1,none⟩=false/\Near w.heap.size w5 W)->Calls Tryz.prog 73 #[.agg #[.int .i64 p1.line,.int .i64 p1.col],.string TX] W fun e w''=>e = .returned (.agg #[.int .i64 p2.line,.int .i64 p2.col])/\(w''.cell? ⟨Y,1,none⟩=some (.string TX)/\w''.frozen? ⟨w.heap.size,0,none⟩=false/\w''.frozen? ⟨w.heap.size,1,none⟩=false/\Near w.heap.size w5 w'')/\Keeps W w'':=fun W h=>(CB.out W).mono fun e w'' ⟨he,hb⟩=>by
        have hl:w.heap.size<W.heap.size:=Nat.lt_of_lt_of_le hl5 h.2.2.2.size;have hy:Y<W.heap.size:=Nat.lt_of_lt_of_le hY5 h.2.2.2.size;exact ⟨he,KB _ (h.2.2.2.below hb) ((hb.frozen (p:=⟨w.heap.size,0,none⟩) hl).trans h.2.1) ((hb.frozen (p:=⟨w.heap.size,1,none⟩) hl).trans h.2.2.1) ((hb.cell (p:=⟨Y,1,none⟩) hy).trans h.1),below_keeps hb⟩
       have K1:=Lib.hid q1;clear q1;have HKS:=Lib.hid KS;clear KS;have HKD:=Lib.hid KD;clear KD KB;have FIN:∀ w'',(w''.cell? ⟨Y,1,none⟩=some (.string TX)/\w''.frozen? ⟨w.heap.size,0,none⟩=false/\w''.frozen? ⟨w.heap.size,1,none⟩=false/\Near w.heap.size w5 w'')->(∀ p:Addr,(w5.drew.cell? p).isSome=true->w''.cell? p=w5.drew.cell? p)->(∀ p:Addr,(w5.drew.cell? p).isSome=true->w''.frozen? p=w5.drew.frozen? p) ->
         TokSt w R t2 p2 (out++[(⟨k,t1.data.toList.take m,v,p1⟩:Lx.Tok)]) v5 ((w''.setCell ⟨w.heap.size,0,none⟩ (.int .i64 p2.line)).setCell ⟨w.heap.size,1,none⟩ (.int .i64 p2.col)):=fun w'' h hc _=>by
        have s2:=set_two w'' w.heap.size (.int .i64 p2.line) (.int .i64 p2.col) _ _ (keep_drew hc d0) (keep_drew hc d1);have hN:=(h.2.2.2.setCell 0 (.int .i64 p2.line)).setCell 1 (.int .i64 p2.col);refine ⟨hN.own HO.out (by omega),s2.1,s2.2,by simpa using h.2.1,by simpa using h.2.2.1,db.trans (hN.to_below (Nat.le_refl _) (Nat.le_of_lt hl5)),HVA.out,HR.out, ?_,hb2.1,by omega,hb2.2.2.1,by omega⟩;rw [List.length_append];simp;omega
       have HFIN:=Lib.hid FIN;clear FIN;have hms:strLen (.string t2)<strLen (.string t):=by simp only [strLen];omega
       have HMS:=Lib.hid hms;clear hms;clear hv hbd hb2 htz h2z HO HR HVA db hT1 hs hn hts hk hS
       go_upto_region 17 with fail
       go_region_with (first | (go_at_call 73;(with_reducible refine (K1.out _ (by first | assumption | exact HKD.out)).mono ?_);rintro e w'' ⟨rfl,hS',hcell,hfroz⟩))
       all_goals (have hfin:=HFIN.out _ hS' hcell hfroz)
       all_goals (clear hcell hfroz;go_wp2_with fail)
       all_goals go_roundw
       all_goals first | exact HMS.out | exact ⟨t2,p2,_,rfl,hfin⟩ | ((repeat apply Exists.intro);exact ⟨⟨t2,p2,_,rfl,hfin⟩,rfl⟩)
end Go.Proofs.YtdfpkmfeldoamaaGreatDoor
