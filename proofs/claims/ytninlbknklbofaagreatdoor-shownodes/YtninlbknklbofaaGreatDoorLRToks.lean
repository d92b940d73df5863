/- A part of the proof: The tokens of a text: the document's own way. -/
import Derived.Test.YtninlbknklbofaaGreatDoorLNames
set_option linter.unusedSimpArgs false
set_option linter.unusedVariables false
set_option maxRecDepth 100000
set_option maxHeartbeats 4000000
namespace Go.Proofs.YtninlbknklbofaaGreatDoor
open Go.RowKit
namespace Lx
def noteOf (note:Bool)(c:UInt8):Bool:=if (c.toNat:Int)==10 then false else if (c.toNat:Int)==35 then true else note
theorem blanks_skip (note:Bool)(c:UInt8)(r:B)(h:(noteOf note c || blank c)=true):blanks note (c :: r)=1+blanks (noteOf note c) r:=by
 unfold noteOf at h ⊢;rw [blanks]
 by_cases h1:(c.toNat:Int)==10
 ·simp [h1]
 ·by_cases h2:(c.toNat:Int)==35
  ·simp [h1,h2]
  ·simp only [h1,h2] at h ⊢;simp only [Bool.false_eq_true,if_false] at h ⊢;rw [if_pos h]
theorem blanks_stop (note:Bool)(c:UInt8)(r:B)(h:(noteOf note c || blank c)=false):blanks note (c :: r)=0/\note=false:=by
 unfold noteOf at h;rw [blanks];rw [Bool.or_eq_false_iff] at h;have hb:=h.2;simp only [blank,blankZ,Bool.or_eq_false_iff] at hb
 by_cases h1:(c.toNat:Int)==10
 ·rw [hb.2] at h1;cases h1
 ·by_cases h2:(c.toNat:Int)==35
  ·simp [h1,h2] at h
  ·simp only [h1,h2,Bool.false_eq_true,if_false] at h ⊢;rw [h.1,h.2];exact ⟨rfl,rfl⟩
theorem toks_skip (note:Bool)(p:Pos)(c:UInt8)(r:B)(h:(noteOf note c || blank c)=true):
  toks ((c :: r).length+1) note p (c :: r)=toks (r.length+1) (noteOf note c) (step p c) r:=by
 have hb:=blanks_skip note c r h;rw [toks,toks,hb,Nat.add_comm 1 (blanks (noteOf note c) r),List.drop_succ_cons,List.take_succ_cons,adv_cons]
 cases ho:one (r.drop (blanks (noteOf note c) r)) with
 | bad e=>rfl
 | tok k n v =>
  simp only
  by_cases hk:k=0
  ·rw [if_pos hk,if_pos hk]
  ·rw [if_neg hk,if_neg hk];have T:=one_tok ho;have hle:=T.le;have hp:=T.pos hk;rw [List.length_drop] at hle;have e:blanks (noteOf note c) r+1+n=(blanks (noteOf note c) r+n)+1:=by omega
   rw [e,List.take_succ_cons,List.drop_succ_cons,adv_cons];rw [toks_fuel (c :: r).length r.length false _ _ (by rw [List.length_drop,List.length_cons];omega) (by rw [List.length_drop];omega)]
theorem one_ne {l:B}{k:Int}{n:Nat}{v:Int}(h:one l = .tok k n v)(hl:l≠[]):k≠0:=fun e=>hl ((one_tok h).zero e).1
end Lx
theorem qposCells_get {pl:List Lx.Pos}{j:Nat}{p:Lx.Pos}(h:pl[j]? = some p):(qposCells pl)[j*2]? = some (.int .i64 p.line)/\(qposCells pl)[j*2+1]? = some (.int .i64 p.col):=by
 induction pl generalizing j with
 | nil=>simp at h
 | cons q r ih =>
  cases j with
  | zero=>simp at h;subst h;exact ⟨rfl,rfl⟩
  | succ j =>
   have:=ih (j:=j) (by simpa using h);have e:qposCells (q :: r)=Value.int .i64 q.line :: .int .i64 q.col :: qposCells r:=rfl;have e1:(j+1)*2=j*2+1+1:=by omega
   rw [e,e1,List.getElem?_cons_succ,List.getElem?_cons_succ,List.getElem?_cons_succ,List.getElem?_cons_succ];exact this
theorem Tryz.info109:(Tryz.prog.info? 109).map (fun i=>(i.zero,i.size,i.bytes))=some (some (.agg #[.int .i64 0,.string ⟨#[]⟩,.int .i64 0,.int .i64 0,.int .i64 0]),5,48):=by kernel_rfl
def RTokPost (R:Lx.Res)(w:World)(e:Ending)(w':World):Prop :=
 Below w.heap.size w w'/\match R with
 | .bad c p=>e = .returned (.tuple #[.slice none 0 0,.agg #[.int .i64 c,.int .i64 p.line,.int .i64 p.col,.string ⟨#[]⟩]])
 | .ok ts=>∃ v,e = .returned (.tuple #[v,.agg #[.int .i64 0,.int .i64 0,.int .i64 0,.string ⟨#[]⟩]])/\w'.ownsRow w.heap.size 109 5 v ts.length (tokCells ts)
structure qDiagAt (A:Nat)(w:World):Prop where
 d0:w.cell? ⟨A,0,none⟩=some (.int .i64 0)
 d1:w.cell? ⟨A,1,none⟩=some (.int .i64 0)
 d2:w.cell? ⟨A,2,none⟩=some (.int .i64 0)
 d3:w.cell? ⟨A,3,none⟩=some (.string ⟨#[]⟩)
 df:∀ i,w.frozen? ⟨A,i,none⟩=false
theorem qDiagAt.below {A:Nat}{w w':World}(h:qDiagAt A w)(hb:Below w.heap.size w w'):qDiagAt A w':=by
 have hl:A<w.heap.size:=World.block_lt_of_cell? _ _ h.d0;exact ⟨(hb.cell (p:=⟨A,0,none⟩) hl).trans h.d0,(hb.cell (p:=⟨A,1,none⟩) hl).trans h.d1,(hb.cell (p:=⟨A,2,none⟩) hl).trans h.d2,(hb.cell (p:=⟨A,3,none⟩) hl).trans h.d3,fun i=>(hb.frozen (p:=⟨A,i,none⟩) hl).trans (h.df i)⟩
theorem qDiagAt.grown {A:Nat}{w w':World}{o:Obj}{row:Option Nat}(h:qDiagAt A w)(hg:(w.alloc o).grownBy w' row)(hr:∀ q,row=some q->A<q):qDiagAt A w':=by
 have hl:A<w.heap.size:=World.block_lt_of_cell? _ _ h.d0;have c:∀ i,w'.cell? ⟨A,i,none⟩=w.cell? ⟨A,i,none⟩:=fun i=>by
  rw [hg.cell_far ⟨A,i,none⟩ (by simp;omega) (fun e=>by have h8:A<A:=hr _ e.symm;omega),World.cell?_alloc_lt _ _ ⟨A,i,none⟩ hl]
 have f:∀ i,w'.frozen? ⟨A,i,none⟩=w.frozen? ⟨A,i,none⟩:=fun i=>by
  rw [hg.frozen_far ⟨A,i,none⟩ (by simp;omega) (fun e=>by have h8:A<A:=hr _ e.symm;omega),World.frozen?_alloc_old _ _ ⟨A,i,none⟩ (by simp;omega)]
 exact ⟨(c 0).trans h.d0,(c 1).trans h.d1,(c 2).trans h.d2,(c 3).trans h.d3,fun i=>(f i).trans (h.df i)⟩
theorem qset_four (w:World)(B:Nat)(a b c d x y z u:Value)(h0:w.cell? ⟨B,0,none⟩=some x)(h1:w.cell? ⟨B,1,none⟩=some y)(h2:w.cell? ⟨B,2,none⟩=some z)(h3:w.cell? ⟨B,3,none⟩=some u):
  ((((w.setCell ⟨B,0,none⟩ a).setCell ⟨B,1,none⟩ b).setCell ⟨B,2,none⟩ c).setCell ⟨B,3,none⟩ d).cell? ⟨B,0,none⟩=some a/\((((w.setCell ⟨B,0,none⟩ a).setCell ⟨B,1,none⟩ b).setCell ⟨B,2,none⟩ c).setCell ⟨B,3,none⟩ d).cell? ⟨B,1,none⟩=some b /\
  ((((w.setCell ⟨B,0,none⟩ a).setCell ⟨B,1,none⟩ b).setCell ⟨B,2,none⟩ c).setCell ⟨B,3,none⟩ d).cell? ⟨B,2,none⟩=some c/\((((w.setCell ⟨B,0,none⟩ a).setCell ⟨B,1,none⟩ b).setCell ⟨B,2,none⟩ c).setCell ⟨B,3,none⟩ d).cell? ⟨B,3,none⟩=some d:=by
 refine ⟨?_, ?_, ?_, ?_⟩
 ·rw [World.cell?_setCell_other _ _ _ _ (by simp),World.cell?_setCell_other _ _ _ _ (by simp),World.cell?_setCell_other _ _ _ _ (by simp)];exact World.cell?_setCell_same _ _ _ h0
 ·rw [World.cell?_setCell_other _ _ _ _ (by simp),World.cell?_setCell_other _ _ _ _ (by simp)];exact World.cell?_setCell_same _ _ _ (by rw [World.cell?_setCell_other _ _ _ _ (by simp)];exact h1)
 ·rw [World.cell?_setCell_other _ _ _ _ (by simp)];exact World.cell?_setCell_same _ _ _ (by rw [World.cell?_setCell_other _ _ _ _ (by simp),World.cell?_setCell_other _ _ _ _ (by simp)];exact h2)
 ·exact World.cell?_setCell_same _ _ _ (by rw [World.cell?_setCell_other _ _ _ _ (by simp),World.cell?_setCell_other _ _ _ _ (by simp),World.cell?_setCell_other _ _ _ _ (by simp)];exact h3)
structure RtSt (wb:World)(l:Lx.B)(R:Lx.Res)(i:Nat)(note:Bool)(out:List Lx.Tok)(v:Value)(wr:World):Prop where
 own:wr.ownsRow wb.heap.size 109 5 v out.length (tokCells out)
 bl:Below wb.heap.size wb wr
 fin:R=(Lx.toks ((l.drop i).length+1) note (Lx.adv ⟨1,1⟩ (l.take i)) (l.drop i)).after out
 va:note=false->Lx.Valid (l.drop i)
 ile:i<=l.length
 olen:out.length<=i
theorem take_snoc {l:Lx.B}{k:Nat}{c:UInt8}{r:Lx.B}(h:l.drop k=c :: r):l.take (k+1)=l.take k++[c]:=by rw [List.take_add,h];rfl
theorem RtSt.skip {wb:World}{l:Lx.B}{R:Lx.Res}{k:Nat}{note:Bool}{out:List Lx.Tok}{v:Value}{wr:World}(h:RtSt wb l R k note out v wr)(VL:Lx.Valid l){c:UInt8}(hd:l.drop k=c :: l.drop (k+1))
  (hsk:(Lx.noteOf note c || Lx.blank c)=true):RtSt wb l R (k+1) (Lx.noteOf note c) out v wr:=by
 have hkl:k<l.length:=by
  have:=congrArg List.length hd;rw [List.length_drop,List.length_cons] at this;omega
 refine ⟨h.own,h.bl, ?_,fun hn=>?_,by omega,by have:=h.olen;omega⟩
 ·have hf:=h.fin;rw [hd,Lx.toks_skip note _ c _ hsk] at hf;rw [take_snoc hd,Lx.adv_append];exact hf
 ·by_cases ha:c.toNat<128
  ·refine Lx.Valid.behind _ l (Nat.le_refl _) VL k hkl ?_;have:l.getD k 0=c:=by
    have e:=congrArg (fun r=>r.getD 0 0) hd
    simpa [List.getD_eq_getElem?_getD,List.getElem?_drop] using e
   rw [this];exact ha
  ·exfalso
   have h10:((c.toNat:Int)==10)=false:=by simp;omega
   have h35:((c.toNat:Int)==35)=false:=by simp;omega
   have hb:Lx.blank c=false:=by simp [Lx.blank,Lx.blankZ];omega
   rw [hn,hb] at hsk
   cases hsk
theorem rtokens_any (s:ByteArray)(w:World)(hs:s.size<=1000000000000):Calls Tryz.prog 54 #[.string s] w (RTokPost (Lx.whole s.data.toList) w):=by
 obtain ⟨i0,hi0,hz0,hz1,hz2⟩:=info_parts Tryz.info109;have HI:=Lib.hid hi0;have HZ:=Lib.hid hz0;have HZ1:=Lib.hid hz1;have HZ2:=Lib.hid hz2;clear hi0 hz0 hz1 hz2;have hw0:Below w.heap.size w (w.alloc (.cells #[.int .i64 0,.int .i64 0,.int .i64 0,.string ⟨#[]⟩] 67)):=(Below.refl _ _).alloc (Nat.le_refl _) _;have hD:qDiagAt w.heap.size (w.alloc (.cells #[.int .i64 0,.int .i64 0,.int .i64 0,.string ⟨#[]⟩] 67)):=⟨by simp [go_sem],by simp [go_sem],by simp [go_sem],by simp [go_sem],fun i=>World.frozen?_alloc_new _ _ _ _⟩
 by_cases h1:s.data.toList.length>65536
 ·have hW:Lx.whole s.data.toList = .bad 6 ⟨1,1⟩:=by rw [Lx.whole,if_pos h1]
  rw [hW];rw [<- size_len] at h1;have hb2:∀ v,Below w.heap.size w (w.alloc (.cells v 67)):=fun v=>(Below.refl _ _).alloc (Nat.le_refl _) _;have HB2:=Lib.hid hb2;clear hD hw0 hW hb2
  go_enter Tryz.func54,Tryz.ntmps54
  go_wp2
  exact bodyPost_ret (v := .tuple #[.slice none 0 0,.agg #[.int .i64 6,.int .i64 1,.int .i64 1,.string ⟨#[]⟩]]) (by simp [results,Tryz.results54,go_sem]) rfl ⟨HB2.out _,rfl⟩
 ·have hlen:=h1;rw [<- size_len] at hlen;have cP:=fun w=>lplaces_any s w (by omega);have CP:=Lib.hid cP;clear cP;have HD:=Lib.hid hD;clear hD;have hW:Lx.whole s.data.toList=if Lx.vlen (s.data.toList.length+1) s.data.toList<s.data.toList.length then .bad 3 (Lx.adv ⟨1,1⟩ (s.data.toList.take (Lx.vlen (s.data.toList.length+1) s.data.toList))) else Lx.toks (s.data.toList.length+1) false ⟨1,1⟩ s.data.toList:=by
   rw [Lx.whole,if_neg h1]
  generalize hR:Lx.whole s.data.toList=R at *;have HW:=Lib.hid hW;clear hW hR h1
  go_enter Tryz.func54,Tryz.ntmps54
  go_wp2_with fail
  generalize w.alloc (.cells #[.int .i64 0,.int .i64 0,.int .i64 0,.string ⟨#[]⟩] 67)=w1 at *;refine (CP.out _).mono ?_;rintro e w2 ⟨hb2,⟨hv,rfl⟩ | ⟨hv,v,x,y,pl,rfl,hown,hpl,hat⟩⟩
  ·have hR2:=HW.out;rw [if_pos hv] at hR2;subst hR2;have hD2:=HD.out.below hb2;have hwb:Below w.heap.size w w2:=hw0.trans (hb2.mono hw0.size);generalize Lx.adv ⟨1,1⟩ (s.data.toList.take (Lx.vlen (s.data.toList.length+1) s.data.toList))=p at *;have hD3:=hD2.below ((Below.refl w2.heap.size w2).alloc (Nat.le_refl _) (.cells #[.int .i64 p.line,.int .i64 p.col] 27));have hwb3:Below w.heap.size w (w2.alloc (.cells #[.int .i64 p.line,.int .i64 p.col] 27)):=hwb.alloc hwb.size _;have c0:(w2.alloc (.cells #[.int .i64 p.line,.int .i64 p.col] 27)).cell? ⟨w2.heap.size,0,none⟩=some (.int .i64 p.line):=by simp [go_sem]
   have c1:(w2.alloc (.cells #[.int .i64 p.line,.int .i64 p.col] 27)).cell? ⟨w2.heap.size,1,none⟩=some (.int .i64 p.col):=by simp [go_sem]
   clear hv hD2 HW CP HD hwb hb2 hw0
   go_upto_region 5 with fail
   generalize w2.alloc (.cells #[.int .i64 p.line,.int .i64 p.col] 27)=w3 at *;generalize w2.heap.size=Y at *;have d0:=hD3.d0;have d1:=hD3.d1;have d2:=hD3.d2;have d3:=hD3.d3;have f0:=hD3.df 0;have f1:=hD3.df 1;have f2:=hD3.df 2;have f3:=hD3.df 3;clear hD3 hs hlen
   go_region
   go_wp2_with fail
   have s4:=qset_four w3 w.heap.size (.int .i64 3) (.int .i64 p.line) (.int .i64 p.col) (.string ⟨#[]⟩) _ _ _ _ d0 d1 d2 d3;refine bodyPost_ret (v := .tuple #[.slice none 0 0,.agg #[.int .i64 3,.int .i64 p.line,.int .i64 p.col,.string ⟨#[]⟩]]) ?_ rfl ⟨?_,rfl⟩
   ·simp [results,Tryz.results54,go_sem,s4.1,s4.2.1,s4.2.2.1,s4.2.2.2]
   ·exact ((((hwb3.setCell (by simp) _).setCell (by simp) _).setCell (by simp) _).setCell (by simp) _).drew
  ·have VL:=Lx.vlen_all hv;have hR2:=HW.out;rw [if_neg hv] at hR2;rw [<- size_len] at hown;obtain ⟨g,cap,rfl,hcap,hg1,hcell⟩:=own_slice hown (by omega);have hpc:∀ j p,pl[j]? = some p->w2.cell? ⟨g,j*2,none⟩=some (.int .i64 p.line)/\w2.cell? ⟨g,j*2+1,none⟩=some (.int .i64 p.col):=fun j p h=>⟨hcell _ _ (qposCells_get h).1,hcell _ _ (qposCells_get h).2⟩;have hbA:Below w2.heap.size w2 (w2.alloc (.cells #[.int .i64 x,.int .i64 y] 27)):=(Below.refl w2.heap.size w2).alloc (Nat.le_refl _) _;have hD3:=(HD.out.below hb2).below hbA;have hw2:Below w.heap.size w w2:=hw0.trans (hb2.mono hw0.size);have hwb:Below w.heap.size w (w2.alloc (.cells #[.int .i64 x,.int .i64 y] 27)):=hw2.alloc hw2.size _;have hpb:∀ j p,pl[j]? = some p->(w2.alloc (.cells #[.int .i64 x,.int .i64 y] 27)).cell? ⟨g,j*2,none⟩=some (.int .i64 p.line)/\(w2.alloc (.cells #[.int .i64 x,.int .i64 y] 27)).cell? ⟨g,j*2+1,none⟩=some (.int .i64 p.col):=fun j p h=>by
    have h2:=hpc j p h;have hl:g<w2.heap.size:=World.block_lt_of_cell? _ _ h2.1;exact ⟨(hbA.cell (p:=⟨g,j*2,none⟩) hl).trans h2.1,(hbA.cell (p:=⟨g,j*2+1,none⟩) hl).trans h2.2⟩
   have HVL:=Lib.hid VL;have HR:=Lib.hid hR2;have HPB:=Lib.hid hpb;have HAT:=Lib.hid hat;have HD3:=Lib.hid hD3;have HWB:=Lib.hid hwb;clear VL hR2 hpb hpc hat hD3 hwb hw2 hbA hcell hown hb2 hw0 HD HW CP hv hg1
   go_wp2
   generalize w2.alloc (.cells #[.int .i64 x,.int .i64 y] 27)=wb at *
   go_loopw [7,8,9] (fun v i n wr=>∃ (k:Nat) (note:Bool) (out:List Lx.Tok),i = .int .i64 (k:Int)/\n = .bool note/\RtSt wb s.data.toList R k note out v wr) (fun _ i _ _=>s.size-(intOf i).toNat)
   case atStart =>
    exact ⟨0,false,[],rfl,rfl,⟨World.ownsRow_nil _ _ _ _,Below.refl _ _,by rw [Lx.Res.after_nil];exact HR.out,fun _=>by simpa using HVL.out,Nat.zero_le _,Nat.le_refl _⟩⟩
   case round =>
    obtain ⟨k,note,out,rfl,rfl,hS⟩:=hrel;clear HR
    by_cases hlt:k<s.size
    ·obtain ⟨c,hc,hd⟩:=byte_at s k hlt;have hms:s.size-(intOf (Value.int IntKind.i64 ((k:Int)+1))).toNat<s.size-(intOf (Value.int IntKind.i64 (k:Int))).toNat:=by simp [intOf];omega
     have HMS:=Lib.hid hms;clear hms
     cases hsk:(Lx.noteOf note c || Lx.blank c) with
     | true =>
      have hN:=hS.skip HVL.out hd hsk;have HN:=Lib.hid hN;clear hN hS hd
      cases h10:((c.toNat:Int)==10)
      ·cases h35:((c.toNat:Int)==35)
       ·have hnote:Lx.noteOf note c=note:=by unfold Lx.noteOf;rw [h10,h35];rfl
        have HN2:=HN.out;rw [hnote] at HN2 hsk;have HN3:=Lib.hid HN2;clear HN2 HN hnote
        cases note
        ·have hz:(c.toNat:Int)=32\/(c.toNat:Int)=9\/(c.toNat:Int)=13:=by
          simp only [Bool.false_or,Lx.blank,Lx.blankZ,Bool.or_eq_true,beq_iff_eq] at hsk;have:¬ (c.toNat:Int)=10:=by simpa using h10
          omega
         clear hsk h10 h35
         rcases hz with hz | hz | hz
         all_goals
          go_wp2
          exact ⟨⟨k+1,false,out,cast_succ k,rfl,HN3.out⟩,HMS.out⟩
        ·clear hsk
         go_wp2
         exact ⟨⟨k+1,true,out,cast_succ k,rfl,HN3.out⟩,HMS.out⟩
       ·have hnote:Lx.noteOf note c=true:=by unfold Lx.noteOf;rw [h10,h35];rfl
        have HN2:=HN.out;rw [hnote] at HN2;have HN3:=Lib.hid HN2;clear HN2 HN hnote hsk
        go_wp2
        exact ⟨⟨k+1,true,out,cast_succ k,rfl,HN3.out⟩,HMS.out⟩
      ·have hz:(c.toNat:Int)=10:=by simpa using h10
       have hnote:Lx.noteOf note c=false:=by unfold Lx.noteOf;rw [h10];rfl
       have HN2:=HN.out;rw [hnote] at HN2;have HN3:=Lib.hid HN2;clear HN2 HN hnote hsk h10
       go_wp2
       exact ⟨⟨k+1,false,out,cast_succ k,rfl,HN3.out⟩,HMS.out⟩
     | false =>
      obtain ⟨hbl0,hnf⟩:=Lx.blanks_stop note c (s.data.toList.drop (k+1)) hsk;subst hnf;have hn10:((c.toNat:Int)==10)=false/\((c.toNat:Int)==35)=false/\((c.toNat:Int)==32)=false/\((c.toNat:Int)==9)=false/\((c.toNat:Int)==13)=false:=by
       rw [Bool.or_eq_false_iff] at hsk;have hb:=hsk.2;simp only [Lx.blank,Lx.blankZ,Bool.or_eq_false_iff] at hb;refine ⟨hb.2, ?_,hb.1.1.1,hb.1.1.2,hb.1.2⟩;have h1:=hsk.1;unfold Lx.noteOf at h1
       cases h35:((c.toNat:Int)==35)
       ·rfl
       ·rw [hb.2,h35] at h1;cases h1
      obtain ⟨h10,h35,h32,h9,h13⟩:=hn10;have hva:=hS.va rfl;have hcont:Lx.cont (s.data.toList.getD k 0)=false:=by
       have e:s.data.toList.getD k 0=c:=by
        have e:=congrArg (fun r=>r.getD 0 0) hd
        simpa [List.getD_eq_getElem?_getD,List.getElem?_drop] using e
       rw [hd] at hva;rw [e];exact hva.head
      have hpk:=HAT.out k hS.ile (fun _=>hcont);have hpp:=HPB.out _ _ hpk;have hgb:g<wb.heap.size:=World.block_lt_of_cell? _ _ hpp.1;have q0:=(hS.bl.cell (p:=⟨g,k*2,none⟩) hgb).trans hpp.1;have q1:=(hS.bl.cell (p:=⟨g,k*2+1,none⟩) hgb).trans hpp.2;have cR:=fun w=>rone_any (s.extract k s.size) w (by rw [tail_sz];omega) (by rw [tail_sz];omega);rw [tail_list] at cR;have hb0:Lx.blanks false (s.data.toList.drop k)=0:=by rw [hd];exact hbl0
      have hnil:s.data.toList.drop k≠[]:=by rw [hd];simp
      have hbad:=fun e=>Lx.toks_bad (e:=e) hS.fin;have hmore:=fun kk m v=>Lx.toks_more (k:=kk) (m:=m) (v:=v) hS.fin;rw [hb0] at hbad hmore;simp only [List.drop_zero,List.take_zero,Lx.adv_nil] at hbad hmore;have hol:=hS.olen;generalize hp:Lx.adv ⟨1,1⟩ (s.data.toList.take k)=p at *
      cases hone:Lx.one (s.data.toList.drop k) with
      | bad ec =>
       have hR:=hbad ec hone;have hec:=(Lx.one_bad hone).1;subst hR;simp only [hone,rgotV] at cR;have CR:=Lib.hid cR;have hne:(ec != 0)=true:=by rcases hec with rfl | rfl <;> rfl
       have hne':(ec==0)=false:=by rcases hec with rfl | rfl <;> rfl
       have hD4:=HD3.out.below hS.bl;have hb4:Below w.heap.size w wr:=HWB.out.trans (hS.bl.mono HWB.out.size);have hgr:g<wr.heap.size:=Nat.lt_of_lt_of_le hgb hS.bl.size;clear hec hbad hmore hone cR hp hS hva hcont hpk hpp HPB HAT HVL HD3 HWB hgb hbl0 hb0 hd hsk hol HMS HI HZ HZ1 HZ2
       go_wp2_with fail
       refine (CR.out _).mono ?_;rintro e w5 ⟨rfl,hb5⟩;have hb6:Below wr.heap.size wr (w5.alloc (.cells #[.int .i64 0,.string ⟨#[]⟩,.int .i64 0,.int .i64 0,.int .i64 0] 109)):=hb5.alloc hb5.size _;have hD6:=hD4.below hb6;have r0:=(hb6.cell (p:=⟨g,k*2,none⟩) hgr).trans q0;have r1:=(hb6.cell (p:=⟨g,k*2+1,none⟩) hgr).trans q1;have hb7:Below w.heap.size w (w5.alloc (.cells #[.int .i64 0,.string ⟨#[]⟩,.int .i64 0,.int .i64 0,.int .i64 0] 109)):=hb4.trans (hb6.mono hb4.size);clear hb5 hb6 hD4 q0 q1 hb4 hgr
       go_upto_region 18 with fail
       generalize w5.alloc (.cells #[.int .i64 0,.string ⟨#[]⟩,.int .i64 0,.int .i64 0,.int .i64 0] 109)=w6 at *;have d0:=hD6.d0;have d1:=hD6.d1;have d2:=hD6.d2;have d3:=hD6.d3;have f0:=hD6.df 0;have f1:=hD6.df 1;have f2:=hD6.df 2;have f3:=hD6.df 3;clear hD6 hs hlen hne hne' hpl
       go_region
       go_wp2_with fail
       have s4:=qset_four w6 w.heap.size (.int .i64 ec) (.int .i64 p.line) (.int .i64 p.col) (.string ⟨#[]⟩) _ _ _ _ d0 d1 d2 d3;refine bodyPost_ret (v := .tuple #[.slice none 0 0,.agg #[.int .i64 ec,.int .i64 p.line,.int .i64 p.col,.string ⟨#[]⟩]]) ?_ rfl ⟨?_,rfl⟩
       ·simp [results,Tryz.results54,go_sem,s4.1,s4.2.1,s4.2.2.1,s4.2.2.2]
       ·exact ((((hb7.setCell (by simp) _).setCell (by simp) _).setCell (by simp) _).setCell (by simp) _).drew
      | tok kk m v =>
       have hkk:=Lx.one_ne hone hnil;have hR:=hmore kk m v hone hkk;have T:=Lx.one_tok hone;have hm:=T.le;rw [List.length_drop,<- size_len] at hm;have hmp:=T.pos hkk;have hvd:=Lx.valid_drop m _ hva T.ascii;rw [List.drop_drop] at hvd hR;have hadv:Lx.adv p ((s.data.toList.drop k).take m)=Lx.adv ⟨1,1⟩ (s.data.toList.take (k+m)):=by rw [List.take_add,Lx.adv_append,hp]
       rw [hadv] at hR;have hTX:(s.extract k s.size).extract 0 m=⟨((s.data.toList.drop k).take m).toArray⟩:=ext_list (by rw [head_list,tail_list]);simp only [hone,rgotV] at cR;have hown:=hS.own;have hgr:g<wr.heap.size:=Nat.lt_of_lt_of_le hgb hS.bl.size;have hbr:=hS.bl;have CR:=Lib.hid cR;have HTX:=Lib.hid hTX;have HR:=Lib.hid hR;have HVD:=Lib.hid hvd;clear cR hTX hR hvd hadv hbad hmore hone hp hS hva hcont hpk hpp HPB HAT HVL HD3 HWB hbl0 hb0 hd hsk HMS hnil hkk T;generalize (s.extract k s.size).extract 0 m=TX at *
       go_wp2_with fail
       refine (CR.out _).mono ?_;rintro e w5 ⟨rfl,hb5⟩;have hg5:g<w5.heap.size:=Nat.lt_of_lt_of_le hgr hb5.size;have a0:∀ o,(w5.alloc o).cell? ⟨g,k*2,none⟩=some (.int .i64 p.line):=fun o=>by rw [World.cell?_alloc_lt _ _ ⟨g,k*2,none⟩ hg5];exact (hb5.cell (p:=⟨g,k*2,none⟩) hgr).trans q0
       have a1:∀ o,(w5.alloc o).cell? ⟨g,k*2+1,none⟩=some (.int .i64 p.col):=fun o=>by rw [World.cell?_alloc_lt _ _ ⟨g,k*2+1,none⟩ hg5];exact (hb5.cell (p:=⟨g,k*2+1,none⟩) hgr).trans q1
       have ho5:=own_below hown hb5;have hb6:Below wb.heap.size wb w5:=hbr.trans (hb5.mono hbr.size);have HO5:=Lib.hid ho5;clear hb5 hown hbr q0 q1 hgr hg5 CR ho5
       go_upto_region 20 with fail
       have t0:(w5.alloc (.cells #[.int .i64 kk,.string TX,.int .i64 v,.int .i64 p.line,.int .i64 p.col] 109)).cell? ⟨w5.heap.size,0,none⟩=some (.int .i64 kk):=by rw [World.cell?_alloc_new];rfl
       have t1':(w5.alloc (.cells #[.int .i64 kk,.string TX,.int .i64 v,.int .i64 p.line,.int .i64 p.col] 109)).cell? ⟨w5.heap.size,1,none⟩=some (.string TX):=by rw [World.cell?_alloc_new];rfl
       have t2:(w5.alloc (.cells #[.int .i64 kk,.string TX,.int .i64 v,.int .i64 p.line,.int .i64 p.col] 109)).cell? ⟨w5.heap.size,2,none⟩=some (.int .i64 v):=by rw [World.cell?_alloc_new];rfl
       have t3:(w5.alloc (.cells #[.int .i64 kk,.string TX,.int .i64 v,.int .i64 p.line,.int .i64 p.col] 109)).cell? ⟨w5.heap.size,3,none⟩=some (.int .i64 p.line):=by rw [World.cell?_alloc_new];rfl
       have t4:(w5.alloc (.cells #[.int .i64 kk,.string TX,.int .i64 v,.int .i64 p.line,.int .i64 p.col] 109)).cell? ⟨w5.heap.size,4,none⟩=some (.int .i64 p.col):=by rw [World.cell?_alloc_new];rfl
       have bo:=HO5.out.alloc (.cells #[.int .i64 kk,.string TX,.int .i64 v,.int .i64 p.line,.int .i64 p.col] 109);have bb:Below wb.heap.size wb (w5.alloc (.cells #[.int .i64 kk,.string TX,.int .i64 v,.int .i64 p.line,.int .i64 p.col] 109)):=hb6.alloc hb6.size _;clear a0 a1 HO5 hb6;generalize w5.alloc (.cells #[.int .i64 kk,.string TX,.int .i64 v,.int .i64 p.line,.int .i64 p.col] 109)=w6 at *;generalize w5.heap.size=Y at *;have hwz:wb.heap.size<=w6.heap.size:=bb.size;have hlo:=bo.lt;have HLO:=Lib.hid hlo;clear hlo;have hms:s.size-(intOf (Value.int IntKind.i64 ((k:Int)+m))).toNat<s.size-(intOf (Value.int IntKind.i64 (k:Int))).toNat:=by simp [intOf];omega
       have HMS:=Lib.hid hms;clear hms;have hcast:Value.int IntKind.i64 ((k:Int)+m) = .int .i64 ((k+m:Nat):Int):=by push_cast;rfl
       have HC:=Lib.hid hcast;clear hcast
       go_wp2_with (at_builtin;refine wpList_append_own _ rfl (.tmp 87) (.tmp 89) 110 rfl wb.heap.size 109 i0 _ 5 48 Tryz.underlying110 HI.out HZ.out HZ1.out HZ2.out rfl (by decide) _ out.length (tokCells out) rfl (bo.alloc _) ⟨w6.heap.size,0,none⟩ 1 1 [.int .i64 kk,.string TX,.int .i64 v,.int .i64 p.line,.int .i64 p.col] rfl rfl (World.news_of_block (cs:=#[.int .i64 kk,.string TX,.int .i64 v,.int .i64 p.line,.int .i64 p.col]) (t:=109) (fr:=(0,0)) (heap_alloc_new w6 _)) (fun x hx=>by simp at hx;rcases hx with rfl | rfl | rfl | rfl | rfl <;> rfl) (by unfold maxLen;omega) (by omega) (by simp;omega) ?_;intro v5 w7 hown5 hgrow5 hnil5)
       refine ⟨⟨k+m,false,out++[(⟨kk,(s.data.toList.drop k).take m,v,p⟩:Lx.Tok)],HC.out,rfl,⟨?_, ?_, ?_,fun _=>HVD.out, ?_, ?_⟩⟩,HMS.out⟩
       ·rw [tokCells_snoc,List.length_append];have:tokCell ⟨kk,(s.data.toList.drop k).take m,v,p⟩=[.int .i64 kk,.string TX,.int .i64 v,.int .i64 p.line,.int .i64 p.col]:=by rw [tokCell,HTX.out]
        rw [this];exact hown5
       ·exact (bb.alloc hwz _).grown hgrow5 (by simp;omega) (fun q hq=>(HLO.out q hq).1)
       ·exact HR.out
       ·rw [<- size_len];omega
       ·rw [List.length_append];simp;omega
    ·have hkl:k=s.data.toList.length:=by have:=hS.ile;rw [<- size_len] at this ⊢;omega
     have hf:=hS.fin;rw [drop_end s k hlt] at hf;have hR:=Lx.toks_end (r:=[]) (m:=0) (v:=0) hf rfl;have hpk:=HAT.out k hS.ile (fun h=>absurd h (by rw [hkl];omega));have hpp:=HPB.out _ _ hpk;have hgb:g<wb.heap.size:=World.block_lt_of_cell? _ _ hpp.1;have q0:=(hS.bl.cell (p:=⟨g,k*2,none⟩) hgb).trans hpp.1;have q1:=(hS.bl.cell (p:=⟨g,k*2+1,none⟩) hgb).trans hpp.2;have hks:k=s.size:=by rw [size_len];exact hkl
     have hol:=hS.olen;have hown:=hS.own;have hD4:=HD3.out.below hS.bl;have hbr:=hS.bl;have hwz:=hS.bl.size;have hb4:Below w.heap.size w wr:=HWB.out.trans (hS.bl.mono HWB.out.size);have hAb:w.heap.size<wb.heap.size:=World.block_lt_of_cell? _ _ HD3.out.d0;have hgr:g<wr.heap.size:=Nat.lt_of_lt_of_le hgb hS.bl.size;subst hks;simp only [Lx.blanks,List.drop_nil,List.take_nil,Lx.adv_nil] at hR;generalize hp:Lx.adv ⟨1,1⟩ (s.data.toList.take s.size)=p at *;have HR:=Lib.hid hR;clear hR hp hf hpk hpp HPB HAT HVL hkl hS HD3 HWB hgb;have hlo:=hown.lt;have HLO:=Lib.hid hlo;clear hlo
     go_upto_region 22 with fail
     go_wp2_with (at_builtin;refine wpList_append_own _ rfl (.tmp 94) (.tmp 101) 110 rfl wb.heap.size 109 i0 _ 5 48 Tryz.underlying110 HI.out HZ.out HZ1.out HZ2.out rfl (by decide) _ out.length (tokCells out) rfl (hown.alloc _) ⟨wr.heap.size,0,none⟩ 1 1 [.int .i64 0,.string ⟨#[]⟩,.int .i64 0,.int .i64 p.line,.int .i64 p.col] rfl rfl (World.news_of_block (cs:=#[.int .i64 0,.string ⟨#[]⟩,.int .i64 0,.int .i64 p.line,.int .i64 p.col]) (t:=109) (fr:=(0,0)) (heap_alloc_new wr _)) (fun x hx=>by simp at hx;rcases hx with rfl | rfl | rfl | rfl | rfl <;> rfl) (by unfold maxLen;omega) (by omega) (by simp;omega) ?_;intro v5 w7 hown5 hgrow5 hnil5;have hD7:qDiagAt w.heap.size w7:=hD4.grown hgrow5 (fun q hq=>by have:=(HLO.out q hq).1;omega);have d0:=hD7.d0;have d1:=hD7.d1;have d2:=hD7.d2;have d3:=hD7.d3;have f0:=hD7.df 0;have f1:=hD7.df 1;have f2:=hD7.df 2;have f3:=hD7.df 3)
     have s4:=qset_four w7 w.heap.size (.int .i64 0) (.int .i64 0) (.int .i64 0) (.string ⟨#[]⟩) _ _ _ _ d0 d1 d2 d3;have hb7:Below w.heap.size w w7:=(hb4.alloc hb4.size _).grown hgrow5 (by have:=hb4.size;simp;omega) (fun q hq=>by have:=(HLO.out q hq).1;omega);refine bodyPost_ret (v := .tuple #[v5,.agg #[.int .i64 0,.int .i64 0,.int .i64 0,.string ⟨#[]⟩]]) ?_ rfl ⟨?_, ?_⟩
     ·simp [results,Tryz.results54,go_sem,s4.1,s4.2.1,s4.2.2.1,s4.2.2.2]
     ·exact (((hb7.setCell (by simp) _).setCell (by simp) _).setCell (by simp) _).setCell (by simp) _
     ·rw [HR.out];refine ⟨v5,rfl, ?_⟩;rw [tokCells_snoc,List.length_append];exact row_mono (base:=wb.heap.size) (ownsRow_setCell_below (ownsRow_setCell_below (ownsRow_setCell_below (ownsRow_setCell_below hown5 (by simp;omega) _) (by simp;omega) _) (by simp;omega) _) (by simp;omega) _) (by omega)
end Go.Proofs.YtninlbknklbofaaGreatDoor
