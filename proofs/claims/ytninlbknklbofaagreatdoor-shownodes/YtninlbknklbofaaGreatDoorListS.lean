/- A part of the proof: A part of the proof. -/
import Derived.Test.YtninlbknklbofaaGreatDoorWr
import Derived.Deep.Light
import Derived.Test.YtninlbknklbofaaGreatDoorSameT
set_option linter.unusedSimpArgs false
set_option linter.unusedVariables false
set_option maxRecDepth 100000
set_option maxHeartbeats 4000000
namespace Go.Proofs.YtninlbknklbofaaGreatDoor.Sh
open Lx (B)
theorem tok_le (s:St)(x:ByteArray):s.bs.length+x.size<=(tok s x).bs.length:=by
 simp only [tok,List.length_append];have:x.data.toList.length=x.size:=by rw [Array.length_toList];rfl
 omega
theorem tok_ge (s:St)(x:ByteArray):(tok s x).bs.length<=s.bs.length+1+x.size:=by
 simp only [tok,List.length_append];have:x.data.toList.length=x.size:=by rw [Array.length_toList];rfl
 split <;> simp <;> omega
theorem tokens_le (l:List ByteArray):∀ s:St,s.bs.length<=(tokens s l).bs.length:=by
 induction l with
 | nil=>intro s;exact Nat.le_refl _
 | cons x l ih=>intro s;have:=tok_le s x;have:=ih (tok s x);simp only [tokens,List.foldl_cons] at *;omega
theorem tokens_snoc (s:St)(l:List ByteArray){j:Nat}(h:j<l.length):tokens s (l.take (j+1))=tok (tokens s (l.take j)) l[j]:=by
 simp only [tokens];rw [List.take_succ_eq_append_getElem h,List.foldl_append];rfl
theorem tokens_part (s:St)(l:List ByteArray)(j:Nat):(tokens s (l.take j)).bs.length<=(tokens s l).bs.length:=by
 have h:=tokens_le (l.drop j) (tokens s (l.take j));have e:tokens (tokens s (l.take j)) (l.drop j)=tokens s l:=by simp only [tokens,<- List.foldl_append,List.take_append_drop]
 rw [e] at h;exact h
end Go.Proofs.YtninlbknklbofaaGreatDoor.Sh
namespace Go.Proofs.YtninlbknklbofaaGreatDoor
section
open Go.RowKit Go.Shelf Tn
theorem closes_any (x:ByteArray)(w:World):Calls Tryz.prog 76 #[.string x] w fun e w'=>e = .returned (.bool (Sh.closes x))/\w=w':=by
 go_enter Tryz.func76,Tryz.ntmps76
 go_wp2
 all_goals
  go_ret
  refine ⟨ret_bool ?_,rfl⟩
  go_light
  simp_all [Sh.closes,tl_eq,tl_beq]
structure TkP (c:Pc)(w:World)(s:Sh.St)(w':World):Prop where
 pr:Pr c w' s
 pk:Pk c w w'
theorem TkP.heap {c:Pc}{w w':World}{s:Sh.St}(h:TkP c w s w'){k:Nat}{cs:Array Value}{t:TypeId}{fr:Nat × Nat}(hk:w.heap[k]? = some (.cells cs t fr))(h1:k≠c.bp)(h2:t≠5):w'.heap[k]? = some (.cells cs t fr):=h.pk.heap hk h1 h2
theorem TkP.wr {c:Pc}{w a b:World}{s s':Sh.St}{r:Value}{e:Ending}(h:TkP c w s a)(k:WrP c a s' r e b):TkP c w s' b:=⟨k.2.1,h.pk.trans k.2.2⟩
theorem TkP.tight {c:Pc}{w a:World}{s:Sh.St}(h:TkP c w s a)(t:Bool):TkP c w ⟨s.bs,t⟩ (a.setCell ⟨c.bp,3,none⟩ (.bool t)):=by
 obtain ⟨adr,v,h1⟩:=h.pr;exact ⟨⟨adr,v,h1.setTg t⟩,h.pk.trans (pk_set c a 3 _)⟩
def TksP (c:Pc)(w:World)(s:Sh.St)(e:Ending)(w':World):Prop:=e = .returned (.tuple #[])/\TkP c w s w'
theorem toks_any (c:Pc)(w:World)(s:Sh.St)(l:List ByteArray)(b cap:Nat)(h:Pr c w s)(hll:l.length<=100)(hb:w.heap[b]? = some (.cells (l.map Value.string).toArray 9 (0,0)))(hl:(Sh.tokens s l).bs.length<=1000000000):
  Calls Tryz.prog 53 #[.pointer (some ⟨c.bp,0,none⟩),.slice (some ⟨b,0,none⟩) l.length cap] w (TksP c w (Sh.tokens s l)):=by
 have hne:b≠c.bp:=by
  rintro rfl;obtain ⟨adr,v,h1⟩:=h;rw [h1.blk] at hb;injection hb with hb;injection hb with _ hb;exact absurd hb (by decide)
 have HB:=Lib.hid hb;have HH:=Lib.hid h;have HL:=Lib.hid hl;have HNE:=Lib.hid hne;clear hb h hl hne
 go_enter Tryz.func53,Tryz.ntmps53
 go_wp2_with fail
 go_loopw [8] (fun k wr=>∃ j:Nat,j<=l.length/\k = .int .i64 j/\TkP c w (Sh.tokens s (l.take j)) wr) (fun k _=>l.length-(intOf k).toNat)
 case atStart=>exact ⟨0,Nat.zero_le _,rfl,⟨HH.out,Pk.refl _ _⟩⟩
 case round =>
  obtain ⟨j,hj,rfl,hst⟩:=hrel
  by_cases hlt:j<l.length
  ·have hcell:wr.cell? ⟨b,j,none⟩=some (.string l[j]):=by
    rw [blk_cell (hst.heap HB.out HNE.out (by decide))];simp [hlt]
   have hstep:=Sh.tokens_snoc s l hlt;have hbd:=Sh.tokens_part s l (j+1);rw [hstep] at hbd;have hbd2:=Sh.tok_le (Sh.tokens s (l.take j)) l[j];have HLL:=HL.out;obtain ⟨s',hs'⟩:∃ s',Sh.tokens s (l.take j)=s':=⟨_,rfl⟩;obtain ⟨x,hx⟩:∃ x,l[j]=x:=⟨_,rfl⟩;rw [hs',hx] at hstep hbd hbd2;rw [hs'] at hst;rw [hx] at hcell;have htb:(Sh.tok s' x).bs.length=s'.bs.length+(if (!s'.tg && !Sh.closes x)=true then 1 else 0)+x.size:=by
    simp only [Sh.tok,List.length_append];have:x.data.toList.length=x.size:=by rw [Array.length_toList];rfl
    split <;> simp <;> omega
   have ht:=hst.pr.tg;have f3:=hst.pr.fz 3;have HST:=Lib.hid hst;have HSTEP:=Lib.hid hstep;have HTB:=Lib.hid htb;clear hst hstep hs' hx htb;have fin:∀ (wz:World) (s2:Sh.St),TkP c w s2 wz->s2.bs=(Sh.tok s' x).bs->TkP c w (Sh.tokens s (l.take (j+1))) (wz.setCell ⟨c.bp,3,none⟩ (.bool (Sh.tightens x))):=by
    intro wz s2 hz e;have:=hz.tight (Sh.tightens x);rw [HSTEP.out];rw [e] at this;exact this
   have FIN:=Lib.hid fin;clear fin;have hpre:(Sh.tok s' x).bs=(s'.bs++(if (!s'.tg && !Sh.closes x)=true then [32] else []))++x.data.toList:=rfl;have hcl:=closes_any x;have HPRE:=Lib.hid hpre;have HCL:=Lib.hid hcl;clear hpre hcl
   cases htg:s'.tg <;> cases hc:Sh.closes x
   all_goals
    rw [htg] at ht;rw [htg,hc] at HPRE HTB;rw [hc] at HCL;have hbz:=HTB.out;simp only [Bool.not_true,Bool.not_false,Bool.and_true,Bool.and_false,if_true,if_false,Bool.false_eq_true,Nat.add_zero] at hbz;have HTG:=Lib.hid htg;have HC:=Lib.hid hc;clear htg hc
    go_upto_region 5 with (first | (go_at_call 76;(with_reducible refine (HCL.out _).mono ?_);rintro e w2 ⟨rfl,rfl⟩) | (go_at_call 77;(with_reducible refine (wblank_any c _ s' HST.out.pr (by omega)).mono ?_);rintro e w2 ⟨rfl,hp2,hk2⟩))
    first
     | (have HZ:=Lib.hid (show TkP c w ⟨s'.bs++[32],s'.tg⟩ w2 from HST.out.wr (r := .nilIface) ⟨rfl,hp2,hk2⟩);clear hp2 hk2)
     | (have HZ:=Lib.hid (show TkP c w ⟨s'.bs++[],s'.tg⟩ wr from by rw [List.append_nil];exact HST.out))
    have ht:=HZ.out.pr.tg;have f3:=HZ.out.pr.fz 3;clear HST
    go_wp2_with fail
    refine (wstr_any c _ _ x HZ.out.pr (by simp;omega)).mono ?_;rintro e w3 ⟨rfl,hp3,hk3⟩;have H3:=Lib.hid (FIN.out w3 _ ⟨hp3,HZ.out.pk.trans hk3⟩ HPRE.out.symm);have t3:=hp3.tg;have f3:=hp3.fz 3;clear HZ hp3 hk3 FIN HPRE ht HTG HC HCL HTB;have e3:Sh.tightens x=(x.toList==[40] || x.toList==[33]):=by rw [tl_beq,tl_beq];rfl
    rw [e3] at H3;clear e3
    by_cases h40:x.toList=[40]
    ·rw [show (x.toList==[40] || x.toList==[33])=true by rw [h40];rfl] at H3
     go_wp2
     go_roundw
     case rel=>exact ⟨j+1,by omega,by go_num,H3.out⟩
     case measure=>simp [intOf];omega
    ·go_wp2
     go_roundw
     case rel=>exact ⟨j+1,by omega,by go_num,H3.out⟩
     case measure=>simp [intOf];omega
  ·obtain rfl:j=l.length:=by omega
   rw [List.take_length] at hst;have HST:=Lib.hid hst;clear hst
   go_wp2
   go_end0
   exact ⟨rfl,HST.out⟩
end
section
open Go.RowKit Go.Shelf Tn
def fval (F:Sh.Form):Value := .agg #[.int .i64 F.level,.int .i64 F.kids,.bool F.known]
def FormP (op:ByteArray)(w:World)(e:Ending)(w':World):Prop:=e = .returned (fval (Sh.formOf op))/\Below w.heap.size w w'
def opList:List ByteArray:=[⟨#[115,101,113]⟩,⟨#[105,102]⟩,⟨#[108,101,116]⟩,⟨#[116,114,121]⟩,⟨#[111,117,116]⟩,⟨#[115,101,116]⟩,⟨#[114,97,105,115,101]⟩,⟨#[111,114]⟩,⟨#[97,110,100]⟩,⟨#[61]⟩,⟨#[60]⟩,⟨#[43]⟩,⟨#[45]⟩,⟨#[42]⟩,⟨#[112,97,105,114]⟩,⟨#[110,101,103]⟩,⟨#[110,111,116]⟩,⟨#[102,115,116]⟩,⟨#[115,110,100]⟩,⟨#[114,101,108,101,97,115,101]⟩,⟨#[103,101,116]⟩,⟨#[116,114,117,101]⟩,⟨#[102,97,108,115,101]⟩,⟨#[104,111,108,101]⟩,⟨#[117,110,105,116]⟩,⟨#[105,110,116]⟩,⟨#[118,97,114]⟩,⟨#[99,97,108,108]⟩]
theorem form_no {op:ByteArray}(h:op ∉ opList):Sh.formOf op=⟨0,0,false⟩:=by
 simp only [opList,List.mem_cons,List.not_mem_nil,or_false,not_or] at h;simp only [Sh.formOf,h,if_false,or_self]
theorem form_is {op:ByteArray}{w:World}{a b:Int}{k:Bool}(h:Sh.formOf op=⟨a,b,k⟩)(o:Obj):FormP op w (.returned (.agg #[.int .i64 a,.int .i64 b,.bool k])) (w.alloc o) :=
 ⟨by rw [h];rfl,(Below.refl _ w).alloc (Nat.le_refl _) o⟩
theorem form_any (op:ByteArray)(w:World):Calls Tryz.prog 33 #[.string op] w (FormP op w):=by
 by_cases hn:op∈opList
 ·simp only [opList,List.mem_cons,List.not_mem_nil,or_false] at hn
  rcases hn with rfl | rfl | rfl | rfl | rfl | rfl | rfl | rfl | rfl | rfl | rfl | rfl | rfl | rfl | rfl | rfl | rfl | rfl | rfl | rfl | rfl | rfl | rfl | rfl | rfl | rfl | rfl | rfl
  ·go_enter Tryz.func33,Tryz.ntmps33
   go_wp2
   exact bodyPost_ret (v := .agg #[.int .i64 0,.int .i64 2,.bool true]) (by simp [results,Tryz.results33,go_sem]) rfl (form_is (by kernel_rfl) _)
  ·go_enter Tryz.func33,Tryz.ntmps33
   go_wp2
   exact bodyPost_ret (v := .agg #[.int .i64 1,.int .i64 3,.bool true]) (by simp [results,Tryz.results33,go_sem]) rfl (form_is (by kernel_rfl) _)
  ·go_enter Tryz.func33,Tryz.ntmps33
   go_wp2
   exact bodyPost_ret (v := .agg #[.int .i64 1,.int .i64 2,.bool true]) (by simp [results,Tryz.results33,go_sem]) rfl (form_is (by kernel_rfl) _)
  ·go_enter Tryz.func33,Tryz.ntmps33
   go_wp2
   exact bodyPost_ret (v := .agg #[.int .i64 1,.int .i64 2,.bool true]) (by simp [results,Tryz.results33,go_sem]) rfl (form_is (by kernel_rfl) _)
  ·go_enter Tryz.func33,Tryz.ntmps33
   go_wp2
   exact bodyPost_ret (v := .agg #[.int .i64 1,.int .i64 1,.bool true]) (by simp [results,Tryz.results33,go_sem]) rfl (form_is (by kernel_rfl) _)
  ·go_enter Tryz.func33,Tryz.ntmps33
   go_wp2
   exact bodyPost_ret (v := .agg #[.int .i64 1,.int .i64 1,.bool true]) (by simp [results,Tryz.results33,go_sem]) rfl (form_is (by kernel_rfl) _)
  ·go_enter Tryz.func33,Tryz.ntmps33
   go_wp2
   exact bodyPost_ret (v := .agg #[.int .i64 1,.int .i64 0,.bool true]) (by simp [results,Tryz.results33,go_sem]) rfl (form_is (by kernel_rfl) _)
  ·go_enter Tryz.func33,Tryz.ntmps33
   go_wp2
   exact bodyPost_ret (v := .agg #[.int .i64 2,.int .i64 2,.bool true]) (by simp [results,Tryz.results33,go_sem]) rfl (form_is (by kernel_rfl) _)
  ·go_enter Tryz.func33,Tryz.ntmps33
   go_wp2
   exact bodyPost_ret (v := .agg #[.int .i64 3,.int .i64 2,.bool true]) (by simp [results,Tryz.results33,go_sem]) rfl (form_is (by kernel_rfl) _)
  ·go_enter Tryz.func33,Tryz.ntmps33
   go_wp2
   exact bodyPost_ret (v := .agg #[.int .i64 4,.int .i64 2,.bool true]) (by simp [results,Tryz.results33,go_sem]) rfl (form_is (by kernel_rfl) _)
  ·go_enter Tryz.func33,Tryz.ntmps33
   go_wp2
   exact bodyPost_ret (v := .agg #[.int .i64 4,.int .i64 2,.bool true]) (by simp [results,Tryz.results33,go_sem]) rfl (form_is (by kernel_rfl) _)
  ·go_enter Tryz.func33,Tryz.ntmps33
   go_wp2
   exact bodyPost_ret (v := .agg #[.int .i64 5,.int .i64 2,.bool true]) (by simp [results,Tryz.results33,go_sem]) rfl (form_is (by kernel_rfl) _)
  ·go_enter Tryz.func33,Tryz.ntmps33
   go_wp2
   exact bodyPost_ret (v := .agg #[.int .i64 5,.int .i64 2,.bool true]) (by simp [results,Tryz.results33,go_sem]) rfl (form_is (by kernel_rfl) _)
  ·go_enter Tryz.func33,Tryz.ntmps33
   go_wp2
   exact bodyPost_ret (v := .agg #[.int .i64 6,.int .i64 2,.bool true]) (by simp [results,Tryz.results33,go_sem]) rfl (form_is (by kernel_rfl) _)
  ·go_enter Tryz.func33,Tryz.ntmps33
   go_wp2
   exact bodyPost_ret (v := .agg #[.int .i64 7,.int .i64 2,.bool true]) (by simp [results,Tryz.results33,go_sem]) rfl (form_is (by kernel_rfl) _)
  ·go_enter Tryz.func33,Tryz.ntmps33
   go_wp2
   exact bodyPost_ret (v := .agg #[.int .i64 7,.int .i64 1,.bool true]) (by simp [results,Tryz.results33,go_sem]) rfl (form_is (by kernel_rfl) _)
  ·go_enter Tryz.func33,Tryz.ntmps33
   go_wp2
   exact bodyPost_ret (v := .agg #[.int .i64 7,.int .i64 1,.bool true]) (by simp [results,Tryz.results33,go_sem]) rfl (form_is (by kernel_rfl) _)
  ·go_enter Tryz.func33,Tryz.ntmps33
   go_wp2
   exact bodyPost_ret (v := .agg #[.int .i64 7,.int .i64 1,.bool true]) (by simp [results,Tryz.results33,go_sem]) rfl (form_is (by kernel_rfl) _)
  ·go_enter Tryz.func33,Tryz.ntmps33
   go_wp2
   exact bodyPost_ret (v := .agg #[.int .i64 7,.int .i64 1,.bool true]) (by simp [results,Tryz.results33,go_sem]) rfl (form_is (by kernel_rfl) _)
  ·go_enter Tryz.func33,Tryz.ntmps33
   go_wp2
   exact bodyPost_ret (v := .agg #[.int .i64 7,.int .i64 1,.bool true]) (by simp [results,Tryz.results33,go_sem]) rfl (form_is (by kernel_rfl) _)
  ·go_enter Tryz.func33,Tryz.ntmps33
   go_wp2
   exact bodyPost_ret (v := .agg #[.int .i64 7,.int .i64 0,.bool true]) (by simp [results,Tryz.results33,go_sem]) rfl (form_is (by kernel_rfl) _)
  ·go_enter Tryz.func33,Tryz.ntmps33
   go_wp2
   exact bodyPost_ret (v := .agg #[.int .i64 7,.int .i64 0,.bool true]) (by simp [results,Tryz.results33,go_sem]) rfl (form_is (by kernel_rfl) _)
  ·go_enter Tryz.func33,Tryz.ntmps33
   go_wp2
   exact bodyPost_ret (v := .agg #[.int .i64 7,.int .i64 0,.bool true]) (by simp [results,Tryz.results33,go_sem]) rfl (form_is (by kernel_rfl) _)
  ·go_enter Tryz.func33,Tryz.ntmps33
   go_wp2
   exact bodyPost_ret (v := .agg #[.int .i64 7,.int .i64 0,.bool true]) (by simp [results,Tryz.results33,go_sem]) rfl (form_is (by kernel_rfl) _)
  ·go_enter Tryz.func33,Tryz.ntmps33
   go_wp2
   exact bodyPost_ret (v := .agg #[.int .i64 7,.int .i64 0,.bool true]) (by simp [results,Tryz.results33,go_sem]) rfl (form_is (by kernel_rfl) _)
  ·go_enter Tryz.func33,Tryz.ntmps33
   go_wp2
   exact bodyPost_ret (v := .agg #[.int .i64 7,.int .i64 0,.bool true]) (by simp [results,Tryz.results33,go_sem]) rfl (form_is (by kernel_rfl) _)
  ·go_enter Tryz.func33,Tryz.ntmps33
   go_wp2
   exact bodyPost_ret (v := .agg #[.int .i64 7,.int .i64 0,.bool true]) (by simp [results,Tryz.results33,go_sem]) rfl (form_is (by kernel_rfl) _)
  ·go_enter Tryz.func33,Tryz.ntmps33
   go_wp2
   exact bodyPost_ret (v := .agg #[.int .i64 7,.int .i64 (-1),.bool true]) (by simp [results,Tryz.results33,go_sem]) rfl (form_is (by kernel_rfl) _)
 ·have HF:=Lib.hid (form_no hn);have n0:(op.toList==[115,101,113])=false:=by rw [tl_beq];exact decide_eq_false (fun e=>hn (by rw [e];simp only [opList,List.mem_cons,true_or]))
  have n1:(op.toList==[105,102])=false:=by rw [tl_beq];exact decide_eq_false (fun e=>hn (by rw [e];simp only [opList,List.mem_cons,true_or,or_true]))
  have n2:(op.toList==[108,101,116])=false:=by rw [tl_beq];exact decide_eq_false (fun e=>hn (by rw [e];simp only [opList,List.mem_cons,true_or,or_true]))
  have n3:(op.toList==[116,114,121])=false:=by rw [tl_beq];exact decide_eq_false (fun e=>hn (by rw [e];simp only [opList,List.mem_cons,true_or,or_true]))
  have n4:(op.toList==[111,117,116])=false:=by rw [tl_beq];exact decide_eq_false (fun e=>hn (by rw [e];simp only [opList,List.mem_cons,true_or,or_true]))
  have n5:(op.toList==[115,101,116])=false:=by rw [tl_beq];exact decide_eq_false (fun e=>hn (by rw [e];simp only [opList,List.mem_cons,true_or,or_true]))
  have n6:(op.toList==[114,97,105,115,101])=false:=by rw [tl_beq];exact decide_eq_false (fun e=>hn (by rw [e];simp only [opList,List.mem_cons,true_or,or_true]))
  have n7:(op.toList==[111,114])=false:=by rw [tl_beq];exact decide_eq_false (fun e=>hn (by rw [e];simp only [opList,List.mem_cons,true_or,or_true]))
  have n8:(op.toList==[97,110,100])=false:=by rw [tl_beq];exact decide_eq_false (fun e=>hn (by rw [e];simp only [opList,List.mem_cons,true_or,or_true]))
  have n9:(op.toList==[61])=false:=by rw [tl_beq];exact decide_eq_false (fun e=>hn (by rw [e];simp only [opList,List.mem_cons,true_or,or_true]))
  have n10:(op.toList==[60])=false:=by rw [tl_beq];exact decide_eq_false (fun e=>hn (by rw [e];simp only [opList,List.mem_cons,true_or,or_true]))
  have n11:(op.toList==[43])=false:=by rw [tl_beq];exact decide_eq_false (fun e=>hn (by rw [e];simp only [opList,List.mem_cons,true_or,or_true]))
  have n12:(op.toList==[45])=false:=by rw [tl_beq];exact decide_eq_false (fun e=>hn (by rw [e];simp only [opList,List.mem_cons,true_or,or_true]))
  have n13:(op.toList==[42])=false:=by rw [tl_beq];exact decide_eq_false (fun e=>hn (by rw [e];simp only [opList,List.mem_cons,true_or,or_true]))
  have n14:(op.toList==[112,97,105,114])=false:=by rw [tl_beq];exact decide_eq_false (fun e=>hn (by rw [e];simp only [opList,List.mem_cons,true_or,or_true]))
  have n15:(op.toList==[110,101,103])=false:=by rw [tl_beq];exact decide_eq_false (fun e=>hn (by rw [e];simp only [opList,List.mem_cons,true_or,or_true]))
  have n16:(op.toList==[110,111,116])=false:=by rw [tl_beq];exact decide_eq_false (fun e=>hn (by rw [e];simp only [opList,List.mem_cons,true_or,or_true]))
  have n17:(op.toList==[102,115,116])=false:=by rw [tl_beq];exact decide_eq_false (fun e=>hn (by rw [e];simp only [opList,List.mem_cons,true_or,or_true]))
  have n18:(op.toList==[115,110,100])=false:=by rw [tl_beq];exact decide_eq_false (fun e=>hn (by rw [e];simp only [opList,List.mem_cons,true_or,or_true]))
  have n19:(op.toList==[114,101,108,101,97,115,101])=false:=by rw [tl_beq];exact decide_eq_false (fun e=>hn (by rw [e];simp only [opList,List.mem_cons,true_or,or_true]))
  have n20:(op.toList==[103,101,116])=false:=by rw [tl_beq];exact decide_eq_false (fun e=>hn (by rw [e];simp only [opList,List.mem_cons,true_or,or_true]))
  have n21:(op.toList==[116,114,117,101])=false:=by rw [tl_beq];exact decide_eq_false (fun e=>hn (by rw [e];simp only [opList,List.mem_cons,true_or,or_true]))
  have n22:(op.toList==[102,97,108,115,101])=false:=by rw [tl_beq];exact decide_eq_false (fun e=>hn (by rw [e];simp only [opList,List.mem_cons,true_or,or_true]))
  have n23:(op.toList==[104,111,108,101])=false:=by rw [tl_beq];exact decide_eq_false (fun e=>hn (by rw [e];simp only [opList,List.mem_cons,true_or,or_true]))
  have n24:(op.toList==[117,110,105,116])=false:=by rw [tl_beq];exact decide_eq_false (fun e=>hn (by rw [e];simp only [opList,List.mem_cons,true_or,or_true]))
  have n25:(op.toList==[105,110,116])=false:=by rw [tl_beq];exact decide_eq_false (fun e=>hn (by rw [e];simp only [opList,List.mem_cons,true_or,or_true]))
  have n26:(op.toList==[118,97,114])=false:=by rw [tl_beq];exact decide_eq_false (fun e=>hn (by rw [e];simp only [opList,List.mem_cons,true_or,or_true]))
  have n27:(op.toList==[99,97,108,108])=false:=by rw [tl_beq];exact decide_eq_false (fun e=>hn (by rw [e];simp only [opList,List.mem_cons,true_or,or_true]))
  clear hn
  go_enter Tryz.func33,Tryz.ntmps33
  go_wp2
  exact bodyPost_ret (v := .agg #[.int .i64 0,.int .i64 0,.bool false]) (by simp [results,Tryz.results33,go_sem]) rfl (form_is HF.out _)
end
end Go.Proofs.YtninlbknklbofaaGreatDoor
namespace Go.Proofs.YtninlbknklbofaaGreatDoor.Sh
open Tn (Nd nd)
section
variable {ms:List Nd} {f:Nd->St->St}
def Grows (f:Nd->St->St):Prop:=∀ n s,s.bs.length<=(f n s).bs.length
theorem tok_mono (s:St)(x:ByteArray):s.bs.length<=(tok s x).bs.length:=by have:=tok_le s x;omega
theorem brk_mono {g:St->St}(hg:∀ s,s.bs.length<=(g s).bs.length)(b:Bool)(s:St):s.bs.length<=(brk g b s).bs.length:=by
 unfold brk
 split
 ·have:=tok_mono s opn;have:=hg (tok s opn);have:=tok_mono (g (tok s opn)) cls;omega
 ·exact hg s
theorem part_mono (hf:Grows f)(k least:Int)(s:St):s.bs.length<=(part ms f k least s).bs.length:=brk_mono (hf _) _ _
theorem semi_mono (hf:Grows f)(e:Nd->Bool)(k:Int)(s:St):s.bs.length<=(semi ms f e k s).bs.length:=brk_mono (hf _) _ _
theorem between_mono (hf:Grows f)(n:Nd)(l r:Int)(s:St):s.bs.length<=(between ms f n l r s).bs.length:=by
 unfold between;exact Nat.le_trans (Nat.le_trans (part_mono hf _ _ _) (tok_mono _ _)) (part_mono hf _ _ _)
theorem listGo_mono (hf:Grows f):∀ (l:List Int) (b:Bool) (s:St),s.bs.length<=(listGo ms f b l s).bs.length
 | [],b,s=>by simp [listGo]
 | k :: l,b,s=>by
  rw [listGo];refine Nat.le_trans ?_ (listGo_mono hf l false _);refine Nat.le_trans ?_ (part_mono hf _ _ _)
  split
  ·exact Nat.le_refl _
  ·exact tok_mono _ _
theorem list_mono (hf:Grows f)(l:List Int)(s:St):s.bs.length<=(list ms f l s).bs.length:=by
 unfold list;exact Nat.le_trans (Nat.le_trans (tok_mono _ _) (listGo_mono hf _ _ _)) (tok_mono _ _)
theorem item_mono (hf:Grows f)(n:Nd)(s:St):s.bs.length<=(item ms f n s).bs.length:=by
 unfold item;have a:=fun k l s=>part_mono (ms:=ms) hf k l s;have b:=tok_mono;have c:=tokens_le
 repeat' split
 ·exact Nat.le_trans (Nat.le_trans (Nat.le_trans (c _ _) (a _ _ _)) (b _ _)) (a _ _ _)
 ·exact Nat.le_trans (Nat.le_trans (Nat.le_trans (Nat.le_trans (Nat.le_trans (b _ _) (a _ _ _)) (b _ _)) (a _ _ _)) (b _ _)) (a _ _ _)
 ·exact Nat.le_trans (Nat.le_trans (Nat.le_trans (b _ _) (a _ _ _)) (c _ _)) (a _ _ _)
 ·exact c _ _
 ·exact Nat.le_trans (c _ _) (a _ _ _)
 ·exact Nat.le_trans (c _ _) (a _ _ _)
 ·exact Nat.le_refl _
theorem unary_mono (hf:Grows f)(dg:Int->ByteArray)(n:Nd)(s:St):s.bs.length<=(unary ms f dg n s).bs.length:=by
 unfold unary;have a:=fun k l s=>part_mono (ms:=ms) hf k l s;have b:=tok_mono;have c:=tokens_le;have d:=fun l s=>list_mono (ms:=ms) hf l s
 repeat' split
 ·exact Nat.le_trans (b _ _) (a _ _ _)
 ·exact Nat.le_trans (b _ _) (a _ _ _)
 ·exact c _ _
 ·exact b _ _
 ·exact c _ _
 ·exact Nat.le_trans (c _ _) (d _ _)
 ·exact d _ _
 ·exact b _ _
 ·exact b _ _
 ·exact Nat.le_trans (b s n.name) (d n.kids ⟨(tok s n.name).bs,true⟩)
 ·exact Nat.le_refl _
theorem nodeF_mono (hf:Grows f)(e:Nd->Bool)(dg:Int->ByteArray)(n:Nd)(s:St):s.bs.length<=(nodeF ms f e dg n s).bs.length:=by
 unfold nodeF;simp only
 repeat' split
 ·exact Nat.le_trans (Nat.le_trans (semi_mono hf _ _ _) (tok_mono _ _)) (part_mono hf _ _ _)
 ·exact item_mono hf _ _
 ·exact between_mono hf _ _ _ _
 ·exact unary_mono hf _ _ _
 ·exact between_mono hf _ _ _ _
end
theorem node_mono (ms:List Nd)(dg:Int->ByteArray):∀ u,Grows (node ms dg u)
 | 0,_,_=>Nat.le_refl _
 | u+1,_,_=>nodeF_mono (node_mono ms dg u) _ _ _ _
end Go.Proofs.YtninlbknklbofaaGreatDoor.Sh
namespace Go.Proofs.YtninlbknklbofaaGreatDoor
open Go.RowKit Go.Shelf Tn
def dig (n:Int):ByteArray:=⟨(Lib.itoa n).toArray⟩
theorem tab_below {N:Nat}{w w':World}(h:Lib.TabIs Tryz.prog w "internal/strconv.uint64pow10" .u64 Lib.pow10Tab)(hb:Below N w w')(hN:3<N):Lib.TabIs Tryz.prog w' "internal/strconv.uint64pow10" .u64 Lib.pow10Tab:=by
 have hg:Tryz.prog.globalNamed "internal/strconv.uint64pow10" = some 3:=by kernel_rfl
 unfold Lib.TabIs World.var? at *;rw [hg] at h ⊢;simp only [Option.bind_some] at h ⊢;rw [hb.block _ hN];exact h
structure En (c:Pc)(bt:Nat)(ao:Option Addr)(cap:Nat)(ms:List Nd)(w:World):Prop where
 tv:c.tv = .pointer (some ⟨bt,0,none⟩)
 tree:TreeAt c.N w bt ao cap ms
 tab:Lib.TabIs Tryz.prog w "internal/strconv.uint64pow10" .u64 Lib.pow10Tab
 hg:9<=c.N
theorem En.below {c:Pc}{bt:Nat}{ao:Option Addr}{cap:Nat}{ms:List Nd}{w w':World}(h:En c bt ao cap ms w)(hb:Below c.N w w'):En c bt ao cap ms w' :=
 ⟨h.tv,h.tree.below hb,tab_below h.tab hb (by have:=h.hg;omega),h.hg⟩
theorem En.tk {c:Pc}{bt:Nat}{ao:Option Addr}{cap:Nat}{ms:List Nd}{w w':World}{s s':Sh.St}(h:En c bt ao cap ms w)(hp:Pr c w s)(k:TkP c w s' w'):En c bt ao cap ms w':=h.below (k.pk.below hp.hN hp.lo)
theorem TkP.trans {c:Pc}{a b d:World}{s s':Sh.St}(h:TkP c a s b)(k:TkP c b s' d):TkP c a s' d:=⟨k.pr,h.pk.trans k.pk⟩
theorem TkP.of_below {c:Pc}{a b d:World}{s:Sh.St}(h:Below a.heap.size a b)(k:TkP c b s d):TkP c a s d:=⟨k.pr,Below.then_pk h k.pk⟩
theorem Pr.ne_of {c:Pc}{w:World}{s:Sh.St}(h:Pr c w s){k:Nat}{cs:Array Value}{t:TypeId}{fr:Nat × Nat}(hk:w.heap[k]? = some (.cells cs t fr))(ht:t≠56):k≠c.bp:=by
 rintro rfl;obtain ⟨_,_,h⟩:=h;rw [h.blk] at hk;injection hk with hk;injection hk with _ hk;exact ht hk.symm
theorem Pr.heap {c:Pc}{w w':World}{s s':Sh.St}(h:Pr c w s)(k:TkP c w s' w'){b:Nat}{cs:Array Value}{t:TypeId}{fr:Nat × Nat}(hk:w.heap[b]? = some (.cells cs t fr))(ht:t≠56)(hu:t≠5):w'.heap[b]? = some (.cells cs t fr) :=
 k.pk.heap hk (h.ne_of hk ht) hu
theorem toks1 (c:Pc)(w:World)(s:Sh.St)(x:ByteArray)(h:Pr c w s)(hl:(Sh.tok s x).bs.length<=1000000000):
  Calls Tryz.prog 53 #[.pointer (some ⟨c.bp,0,none⟩),.slice (some ⟨w.heap.size,0,none⟩) 1 1] (w.alloc (.cells #[.string x] 9)) (TksP c w (Sh.tok s x)) :=
 (toks_any c _ s [x] w.heap.size 1 (h.below ((Below.refl _ w).alloc (Nat.le_refl _) _)) (by simp) (blk_new w _) hl).mono fun _ _ ⟨e,k⟩=>⟨e,TkP.of_below ((Below.refl _ w).alloc (Nat.le_refl _) _) k⟩
theorem toks2 (c:Pc)(w:World)(s:Sh.St)(x y:ByteArray)(h:Pr c w s)(hl:(Sh.tokens s [x,y]).bs.length<=1000000000):
  Calls Tryz.prog 53 #[.pointer (some ⟨c.bp,0,none⟩),.slice (some ⟨w.heap.size,0,none⟩) 2 2] (w.alloc (.cells #[.string x,.string y] 9)) (TksP c w (Sh.tokens s [x,y])) :=
 (toks_any c _ s [x,y] w.heap.size 2 (h.below ((Below.refl _ w).alloc (Nat.le_refl _) _)) (by simp) (blk_new w _) hl).mono fun _ _ ⟨e,k⟩=>⟨e,TkP.of_below ((Below.refl _ w).alloc (Nat.le_refl _) _) k⟩
theorem toks3 (c:Pc)(w:World)(s:Sh.St)(x y z:ByteArray)(h:Pr c w s)(hl:(Sh.tokens s [x,y,z]).bs.length<=1000000000):
  Calls Tryz.prog 53 #[.pointer (some ⟨c.bp,0,none⟩),.slice (some ⟨w.heap.size,0,none⟩) 3 3] (w.alloc (.cells #[.string x,.string y,.string z] 9)) (TksP c w (Sh.tokens s [x,y,z])) :=
 (toks_any c _ s [x,y,z] w.heap.size 3 (h.below ((Below.refl _ w).alloc (Nat.le_refl _) _)) (by simp) (blk_new w _) hl).mono fun _ _ ⟨e,k⟩=>⟨e,TkP.of_below ((Below.refl _ w).alloc (Nat.le_refl _) _) k⟩
structure Nx (c:Pc)(bt:Nat)(ao:Option Addr)(cap:Nat)(ms:List Nd)(w0 w:World)(bx:Nat)(n:Nd)(ka:Option Addr)(kc:Nat)(s:Sh.St):Prop where
 en:En c bt ao cap ms w
 tk:TkP c w0 s w
 box:w.heap[bx]? = some (.cells #[.string n.op,.int .i64 n.line,.int .i64 n.col,.string n.name,.int .i64 n.num,.slice ka n.kids.length kc] 30 (0,0))
 own:w.ownsRow 0 3 1 (.slice ka n.kids.length kc) n.kids.length (ints n.kids)
section
variable {c:Pc} {bt:Nat} {ao:Option Addr} {cap:Nat} {ms:List Nd} {w0 w w':World} {bx:Nat} {n:Nd} {ka:Option Addr} {kc:Nat} {s s':Sh.St}
theorem Pr.own (h:Pr c w s)(k:TkP c w s' w'){B:Nat}{v:Value}{l:Nat}{xs:List Value}(ho:w.ownsRow B 3 1 v l xs):w'.ownsRow B 3 1 v l xs :=
 But.own k.pk ho (fun g hg hf=>by
  obtain ⟨_,cur,e⟩:=own_tag ho hg
  rcases hf with e1 | ⟨_,cs,fr,e1⟩
  ·exact h.ne_of e (by decide) e1
  ·rw [e] at e1;injection e1 with e1;injection e1 with _ e1;exact absurd e1 (by decide))
theorem Nx.step (h:Nx c bt ao cap ms w0 w bx n ka kc s)(k:TkP c w s' w'):Nx c bt ao cap ms w0 w' bx n ka kc s' :=
 ⟨h.en.tk h.tk.pr k,h.tk.trans k,h.tk.pr.heap k h.box (by decide) (by decide),h.tk.pr.own k h.own⟩
theorem Nx.below (h:Nx c bt ao cap ms w0 w bx n ka kc s)(hb:Below w.heap.size w w'):Nx c bt ao cap ms w0 w' bx n ka kc s :=
 ⟨h.en.below (hb.mono h.tk.pr.hN),⟨h.tk.pr.below hb,h.tk.pk.then_below hb⟩,(hb.block _ (lt_of_heap h.box)).trans h.box,own_below h.own hb⟩
theorem Nx.refl (h:Nx c bt ao cap ms w0 w bx n ka kc s):TkP c w s w:=⟨h.tk.pr,Pk.refl _ _⟩
theorem Nx.start (he:En c bt ao cap ms w)(hp:Pr c w s)(ho:w.ownsRow 0 3 1 (.slice ka n.kids.length kc) n.kids.length (ints n.kids)):
  Nx c bt ao cap ms w (w.alloc (.cells #[.string n.op,.int .i64 n.line,.int .i64 n.col,.string n.name,.int .i64 n.num,.slice ka n.kids.length kc] 30)) w.heap.size n ka kc s :=
 ⟨he.below ((Below.refl _ w).alloc hp.hN _),⟨hp.below ((Below.refl _ w).alloc (Nat.le_refl _) _),Pk.of_below ((Below.refl _ w).alloc (Nat.le_refl _) _)⟩,blk_new w _,ho.alloc _⟩
theorem Nx.c0 (h:Nx c bt ao cap ms w0 w bx n ka kc s):w.cell? ⟨bx,0,none⟩=some (.string n.op):=(blk_cell h.box 0).trans rfl
theorem Nx.c1 (h:Nx c bt ao cap ms w0 w bx n ka kc s):w.cell? ⟨bx,1,none⟩=some (.int .i64 n.line):=(blk_cell h.box 1).trans rfl
theorem Nx.c2 (h:Nx c bt ao cap ms w0 w bx n ka kc s):w.cell? ⟨bx,2,none⟩=some (.int .i64 n.col):=(blk_cell h.box 2).trans rfl
theorem Nx.c3 (h:Nx c bt ao cap ms w0 w bx n ka kc s):w.cell? ⟨bx,3,none⟩=some (.string n.name):=(blk_cell h.box 3).trans rfl
theorem Nx.c4 (h:Nx c bt ao cap ms w0 w bx n ka kc s):w.cell? ⟨bx,4,none⟩=some (.int .i64 n.num):=(blk_cell h.box 4).trans rfl
theorem Nx.c5 (h:Nx c bt ao cap ms w0 w bx n ka kc s):w.cell? ⟨bx,5,none⟩=some (.slice ka n.kids.length kc):=(blk_cell h.box 5).trans rfl
theorem ints_kid {l:List Int}{j:Nat}(h:j<l.length):(ints l)[j]? = some (.int .i64 (kid l j)):=by simp [ints,kid,h]
theorem Nx.some (h:Nx c bt ao cap ms w0 w bx n ka kc s)(hk:0<n.kids.length):∃ g,ka=Option.some ⟨g,0,none⟩:=by
 rcases h.own.2 with ⟨_,e⟩ | ⟨g,cp,cur,e,_⟩
 ·omega
 ·injection e with e1 _ _;exact ⟨g,e1⟩
theorem Nx.kid (h:Nx c bt ao cap ms w0 w bx n ka kc s){g:Nat}(hk:ka=Option.some ⟨g,0,none⟩){j:Nat}(hj:j<n.kids.length):w.cell? ⟨g,j,none⟩=Option.some (.int .i64 (Tn.kid n.kids j)):=by
 subst hk;exact own_cell h.own (ints_kid hj)
end
theorem below_grown (w:World)(k:Nat)(os:Array Obj):Below w.heap.size w (Sort.grow (w.drewN k) os) :=
 ⟨rfl,rfl,rfl,by show w.heap.size<=(w.heap++os).size;rw [Array.size_append];omega,fun j hj=>by show (w.heap++os)[j]? = _;rw [Array.getElem?_append_left hj]⟩
structure PartsC (c:Pc)(bt:Nat)(ao:Option Addr)(cap:Nat)(ms:List Nd)(f:Nd->Sh.St->Sh.St)(n:Nd):Prop where
 grows:Sh.Grows f
 few:n.kids.length<=999000
 part:∀ (j:Nat),j<n.kids.length->∀ (least:Int) (s:Sh.St) (w:World),En c bt ao cap ms w->Pr c w s->(Sh.part ms f (kid n.kids j) least s).bs.length<=1000000000 ->
  Calls Tryz.prog 14 #[.pointer (some ⟨c.bp,0,none⟩),.int .i64 (kid n.kids j),.int .i64 least] w (TksP c w (Sh.part ms f (kid n.kids j) least s))
end Go.Proofs.YtninlbknklbofaaGreatDoor
namespace Go.Proofs.YtninlbknklbofaaGreatDoor.Sh
open Tn (Nd nd kid)
section
variable {ms:List Nd} {f:Nd->St->St}
theorem listGo_snoc (k:Int):∀ (l:List Int) (b:Bool) (s:St),listGo ms f b (l++[k]) s=part ms f k 0 (if (b && l.isEmpty)=true then listGo ms f b l s else tok (listGo ms f b l s) ⟨#[44]⟩)
 | [],b,s=>by cases b <;> simp [listGo]
 | x :: l,b,s=>by
  rw [List.cons_append,listGo,listGo_snoc k l false,listGo]
  simp
theorem listGo_step {l:List Int}{j:Nat}(h:j<l.length)(s:St):listGo ms f true (l.take (j+1)) s=part ms f (kid l j) 0 (if j=0 then listGo ms f true (l.take j) s else tok (listGo ms f true (l.take j) s) ⟨#[44]⟩):=by
 rw [Tn.take_succ_kid h,listGo_snoc]
 cases j with
 | zero=>simp
 | succ j =>
  have:(List.take (j+1) l).isEmpty=false:=by
   cases l with
   | nil=>simp at h
   | cons x l=>simp
  simp [this]
theorem listGo_part (hf:Grows f)(l:List Int)(s:St):∀ (d j:Nat),j+d=l.length->(listGo ms f true (l.take j) s).bs.length<=(listGo ms f true l s).bs.length
 | 0,j,h=>by rw [show j=l.length by omega,List.take_length];exact Nat.le_refl _
 | d+1,j,h=>by
  refine Nat.le_trans ?_ (listGo_part hf l s d (j+1) (by omega));rw [listGo_step (by omega)];refine Nat.le_trans ?_ (part_mono hf _ _ _)
  split
  ·exact Nat.le_refl _
  ·exact tok_mono _ _
end
end Go.Proofs.YtninlbknklbofaaGreatDoor.Sh
namespace Go.Proofs.YtninlbknklbofaaGreatDoor
open Go.RowKit Go.Shelf Tn
structure LsAt (c:Pc)(bt:Nat)(ao:Option Addr)(cap:Nat)(ms:List Nd)(w0 w:World)(kids:List Int)(ka:Option Addr)(kc:Nat)(s:Sh.St):Prop where
 en:En c bt ao cap ms w
 tk:TkP c w0 s w
 own:w.ownsRow 0 3 1 (.slice ka kids.length kc) kids.length (ints kids)
theorem LsAt.step {c:Pc}{bt:Nat}{ao:Option Addr}{cap:Nat}{ms:List Nd}{w0 w w':World}{kids:List Int}{ka:Option Addr}{kc:Nat}{s s':Sh.St}(h:LsAt c bt ao cap ms w0 w kids ka kc s)(k:TkP c w s' w'):LsAt c bt ao cap ms w0 w' kids ka kc s' :=
 ⟨h.en.tk h.tk.pr k,h.tk.trans k,h.tk.pr.own k h.own⟩
theorem list_any (c:Pc)(bt:Nat)(ao:Option Addr)(cap:Nat)(ms:List Nd)(f:Nd->Sh.St->Sh.St)(n:Nd)(s:Sh.St)(w:World)(ka:Option Addr)(kc:Nat)
  (hP:PartsC c bt ao cap ms f n) (he:En c bt ao cap ms w) (hp:Pr c w s) (ho:w.ownsRow 0 3 1 (.slice ka n.kids.length kc) n.kids.length (ints n.kids))
  (hl:(Sh.list ms f n.kids s).bs.length<=1000000000):
  Calls Tryz.prog 108 #[.pointer (some ⟨c.bp,0,none⟩),.slice ka n.kids.length kc] w (TksP c w (Sh.list ms f n.kids s)):=by
 have hlen:=hP.few;obtain ⟨s0,e0⟩:∃ x,Sh.tok s Sh.opn=x:=⟨_,rfl⟩;have m0:s.bs.length<=s0.bs.length:=by rw [<- e0];exact Sh.tok_mono _ _
 obtain ⟨sz,ez⟩:∃ x,Sh.listGo ms f true n.kids s0=x:=⟨_,rfl⟩;have mz:s0.bs.length<=sz.bs.length:=by rw [<- ez];exact Sh.listGo_mono hP.grows _ _ _
 obtain ⟨s9,e9⟩:∃ x,Sh.tok sz Sh.cls=x:=⟨_,rfl⟩;have m9:sz.bs.length<=s9.bs.length:=by rw [<- e9];exact Sh.tok_mono _ _
 have E:Sh.list ms f n.kids s=s9:=by rw [<- e9,<- ez,<- e0];rfl
 rw [E] at hl ⊢;have HL0:LsAt c bt ao cap ms w w n.kids ka kc s:=⟨he,⟨hp,Pk.refl _ _⟩,ho⟩;have HP:=Lib.hid hP;have H0:=Lib.hid HL0;have E0:=Lib.hid e0;have EZ:=Lib.hid ez;have E9:=Lib.hid e9;clear HL0 hP he hp ho e0 ez e9 E
 go_enter Tryz.func108,Tryz.ntmps108
 go_wp2_with fail
 refine (toks1 c _ s Sh.opn H0.out.tk.pr (by rw [E0.out];omega)).mono ?_;rintro e w1 ⟨rfl,q⟩;have H1:=Lib.hid (H0.out.step (E0.out ▸ q));clear q H0
 go_wp2_with fail
 go_loopw [11] (fun k wr=>∃ j:Nat,j<=n.kids.length/\k = .int .i64 j/\LsAt c bt ao cap ms w wr n.kids ka kc (Sh.listGo ms f true (n.kids.take j) s0)) (fun k _=>n.kids.length-(intOf k).toNat)
 case atStart=>exact ⟨0,Nat.zero_le _,rfl,H1.out⟩
 case round =>
  obtain ⟨j,hj,rfl,hst⟩:=hrel
  by_cases hlt:j<n.kids.length
  ·obtain ⟨g,rfl⟩:∃ g,ka=some ⟨g,0,none⟩:=by
    rcases hst.own.2 with ⟨_,e⟩ | ⟨g,cp,cur,e,_⟩
    ·omega
    ·injection e with e1 _ _;exact ⟨g,e1⟩
   have kk:wr.cell? ⟨g,j,none⟩=some (.int .i64 (kid n.kids j)):=own_cell hst.own (ints_kid hlt);obtain ⟨sj,ej⟩:∃ x,Sh.listGo ms f true (n.kids.take j) s0=x:=⟨_,rfl⟩;have hs:=Sh.listGo_step (ms:=ms) (f:=f) hlt s0;have hb:=Sh.listGo_part (ms:=ms) HP.out.grows n.kids s0 (n.kids.length-(j+1)) (j+1) (by omega);rw [EZ.out,hs] at hb;rw [ej] at hst hs hb;have HS:=Lib.hid hs;have HST:=Lib.hid hst;clear hs hst ej
   by_cases h0:j=0
   ·subst h0;rw [if_pos rfl] at HS hb
    go_wp2_with fail
    refine (HP.out.part 0 hlt 0 sj _ HST.out.en HST.out.tk.pr (by omega)).mono ?_;rintro e w2 ⟨rfl,q⟩;have H2:=Lib.hid (HST.out.step q);clear q kk HST
    go_wp2
    go_roundw
    case rel=>exact ⟨1,by omega,by go_num,by rw [show (1:Nat)=0+1 from rfl,HS.out];exact H2.out⟩
    case measure=>simp [intOf];omega
   ·rw [if_neg h0] at HS hb;obtain ⟨sk,ek⟩:∃ x,Sh.tok sj ⟨#[44]⟩=x:=⟨_,rfl⟩;rw [ek] at HS hb;have mk:=Sh.part_mono (ms:=ms) HP.out.grows (kid n.kids j) 0 sk;have EK:=Lib.hid ek;clear ek;have hpos:(0:Int)<(j:Int):=by omega
    go_wp2_with fail
    refine (toks1 c _ sj ⟨#[44]⟩ HST.out.tk.pr (by rw [EK.out];omega)).mono ?_;rintro e w2 ⟨rfl,q⟩;have H2:=Lib.hid (HST.out.step (EK.out ▸ q));clear q kk HST
    go_wp2_with fail
    refine (HP.out.part j hlt 0 sk _ H2.out.en H2.out.tk.pr (by omega)).mono ?_;rintro e w3 ⟨rfl,q⟩;have H3:=Lib.hid (H2.out.step q);clear q H2
    go_wp2
    go_roundw
    case rel=>exact ⟨j+1,by omega,by go_num,by rw [HS.out];exact H3.out⟩
    case measure=>simp [intOf];omega
  ·obtain rfl:j=n.kids.length:=by omega
   rw [List.take_length,EZ.out] at hst;have HST:=Lib.hid hst;clear hst
   go_wp2_with fail
   refine (toks1 c _ sz Sh.cls HST.out.tk.pr (by rw [E9.out];omega)).mono ?_;rintro e w2 ⟨rfl,q⟩;have H2:=Lib.hid (HST.out.step (E9.out ▸ q));clear q HST
   go_wp2
   go_end0
   exact ⟨rfl,H2.out.tk⟩
end Go.Proofs.YtninlbknklbofaaGreatDoor
