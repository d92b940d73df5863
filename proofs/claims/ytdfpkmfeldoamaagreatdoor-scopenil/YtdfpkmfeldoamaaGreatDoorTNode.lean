/- A part of the proof: Two nodes that are one: slices.Equal, whisperlaw04.Node; Get. -/
import Derived.Test.YtdfpkmfeldoamaaGreatDoorAhead
import Derived.Test.YtdfpkmfeldoamaaGreatDoorLFloat
set_option linter.unusedSimpArgs false
set_option linter.unusedVariables false
set_option maxRecDepth 100000
set_option maxHeartbeats 2000000
namespace Go.Proofs.YtdfpkmfeldoamaaGreatDoor
open Go.RowKit Tn
theorem IntsAt.low {N:Nat}{w:World}{ao:Option Addr}{ks:List Int}(h:IntsAt N w ao ks):IntsAt w.heap.size w ao ks:=fun i hi=>by
 obtain ⟨b,o,e,_,hc⟩:=h i hi;exact ⟨b,o,e,by have:=World.block_lt_of_cell? _ _ hc;exact this,hc⟩
def GetP (w:World)(n:Nd)(e:Ending)(w':World):Prop :=
 ∃ ka kc,e = .returned (.tuple #[nval n ka kc,.bool true])/\w'.ownsRow w.heap.size 3 1 (.slice ka n.kids.length kc) n.kids.length (ints n.kids)/\Below w.heap.size w w'
theorem get_yes (N:Nat)(bt:Nat)(ao:Option Addr)(cap:Nat)(ms:List Nd)(i:Nat)(w:World)(ht:TreeAt N w bt ao cap ms)(hN:N<=w.heap.size)(hi:i<ms.length)(hl:(nd ms i).kids.length<=999000):
  Calls Tryz.prog 147 #[.pointer (some ⟨bt,0,none⟩),.int .i64 (i:Int)] w (GetP w (nd ms i)):=by
 obtain ⟨W,hW⟩:∃ W,w.alloc (.cells #[.string ⟨#[]⟩,.int .i64 0,.int .i64 0,.string ⟨#[]⟩,.int .i64 0,.slice none 0 0] 165)=W:=⟨_,rfl⟩;have hb:Below w.heap.size w W:=by rw [<- hW];exact (Below.refl _ w).alloc (Nat.le_refl _) _
 have hsW:W.heap.size=w.heap.size+1:=by rw [<- hW];simp
 have s1:Six W w.heap.size 165 (.string ⟨#[]⟩) (.int .i64 0) (.int .i64 0) (.string ⟨#[]⟩) (.int .i64 0) (.slice none 0 0):=⟨by rw [<- hW];exact blk_new w _⟩;have hT:=ht.below (hb.mono hN);obtain ⟨b,o,ka,kc,rfl,hn⟩:=hT.nodes i hi;have hc:=hT.cell;have HC:=Lib.hid hc;have HW:=Lib.hid hW;have HS:=Lib.hid hsW;have HN:=Lib.hid hn;clear hc hW hsW hT ht
 go_enter Tryz.func147,Tryz.ntmps147
 go_wp2_with fail
 rw [HW.out];refine (has_yes bt _ ms.length cap i W HC.out (by omega) (by omega)).mono ?_;rintro e w' ⟨rfl,rfl⟩;have hc:=HC.out;have c0:=hn.c0;have c1:=hn.c1;have c2:=hn.c2;have c3:=hn.c3;have c4:=hn.c4;have c5:=hn.c5
 go_wp2_with fail
 refine (sep_any N (nd ms i) ka kc W HN.out.kids HN.out.nil hl).mono ?_;rintro e w1 ⟨ka1,kc1,rfl,hown,hb1⟩
 replace s1:=s1.below hb1 (by rw [HS.out];omega)
 clear c0 c1 c2 c3 c4 c5 hc hn;have d0:=s1.c0;have d1:=s1.c1;have d2:=s1.c2;have d3:=s1.c3;have d4:=s1.c4;have d5:=s1.c5;have g:=s1.fz;simp only [nval]
 go_wp2
 have s3:=s1.set (.string (nd ms i).op) (.int .i64 (nd ms i).line) (.int .i64 (nd ms i).col) (.string (nd ms i).name) (.int .i64 (nd ms i).num) (.slice ka1 (nd ms i).kids.length kc1);have hB:Below w.heap.size w (setSix w1 w.heap.size (.string (nd ms i).op) (.int .i64 (nd ms i).line) (.int .i64 (nd ms i).col) (.string (nd ms i).name) (.int .i64 (nd ms i).num) (.slice ka1 (nd ms i).kids.length kc1)):=below_setSix (hb.trans (hb1.mono hb.size)) (Nat.le_refl _) _ _ _ _ _ _;have hO:=own_mono (base':=w.heap.size) (own_setSix hown (b:=w.heap.size) (by rw [HS.out];omega) (.string (nd ms i).op) (.int .i64 (nd ms i).line) (.int .i64 (nd ms i).col) (.string (nd ms i).name) (.int .i64 (nd ms i).num) (.slice ka1 (nd ms i).kids.length kc1)) (by rw [HS.out];omega)
 change bodyPost Tryz.prog Tryz.f147 (GetP w (nd ms i)) Exit.ret _ (setSix w1 w.heap.size (.string (nd ms i).op) (.int .i64 (nd ms i).line) (.int .i64 (nd ms i).col) (.string (nd ms i).name) (.int .i64 (nd ms i).num) (.slice ka1 (nd ms i).kids.length kc1))
 generalize setSix w1 w.heap.size (.string (nd ms i).op) (.int .i64 (nd ms i).line) (.int .i64 (nd ms i).col) (.string (nd ms i).name) (.int .i64 (nd ms i).num) (.slice ka1 (nd ms i).kids.length kc1)=W3 at *;refine bodyPost_ret (v := .tuple #[nval (nd ms i) ka1 kc1,.bool true]) (by simp [results,Tryz.results147,go_sem,s3.c0,s3.c1,s3.c2,s3.c3,s3.c4,s3.c5,nval]) rfl ⟨ka1,kc1,rfl,hO,hB⟩
end Go.Proofs.YtdfpkmfeldoamaaGreatDoor
