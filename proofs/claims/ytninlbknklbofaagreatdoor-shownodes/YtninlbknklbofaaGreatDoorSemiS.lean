/- A part of the proof: A part of the proof. -/
import Derived.Test.YtninlbknklbofaaGreatDoorFitS
set_option linter.unusedSimpArgs false
set_option linter.unusedVariables false
set_option maxRecDepth 100000
set_option maxHeartbeats 4000000
namespace Go.Proofs.YtninlbknklbofaaGreatDoor
section
open Go.RowKit Go.Shelf Tn
attribute [local go_sem] form_field0
theorem form_at {op:ByteArray}{a b:Int}(h:Sh.formOf op=⟨a,b,true⟩)(w:World):Calls Tryz.prog 33 #[.string op] w fun e w'=>e = .returned (.agg #[.int .i64 a,.int .i64 b,.bool true])/\Below w.heap.size w w' :=
 (form_any op w).mono fun _ _ ⟨e,hb⟩=>⟨by rw [e,h];rfl,hb⟩
theorem item_all (c:Pc)(bt:Nat)(ao:Option Addr)(cap:Nat)(ms:List Nd)(f:Nd->Sh.St->Sh.St)(n:Nd)(s:Sh.St)(w:World)(ka:Option Addr)(kc:Nat)
  (hop:n.op=⟨#[108,101,116]⟩\/n.op=⟨#[105,102]⟩\/n.op=⟨#[116,114,121]⟩\/n.op=⟨#[114,97,105,115,101]⟩\/n.op=⟨#[111,117,116]⟩\/n.op=⟨#[115,101,116]⟩) (hk:NdOk n) (hP:PartsC c bt ao cap ms f n) (he:En c bt ao cap ms w) (hp:Pr c w s) (ho:w.ownsRow 0 3 1 (.slice ka n.kids.length kc) n.kids.length (ints n.kids))
  (hl:(Sh.item ms f n s).bs.length<=1000000000):Calls Tryz.prog 73 #[.pointer (some ⟨c.bp,0,none⟩),nval n ka kc] w (TksP c w (Sh.item ms f n s)):=by
 obtain ⟨op,line,col,name,num,kids⟩:=n;simp only at hop
 rcases hop with rfl | rfl | rfl | rfl | rfl | rfl
 ·exact item_let c bt ao cap ms f line col num name kids s w ka kc hP he hp ho (by have:=well_kids (a:=1) (b:=2) hk.well (by kernel_rfl) (by decide);simp only at this;omega) hl
 ·exact item_if c bt ao cap ms f line col num name kids s w ka kc hP he hp ho (by have:=well_kids (a:=1) (b:=3) hk.well (by kernel_rfl) (by decide);simp only at this;omega) hl
 ·exact item_try c bt ao cap ms f line col num name kids s w ka kc hP he hp ho (by have:=well_kids (a:=1) (b:=2) hk.well (by kernel_rfl) (by decide);simp only at this;omega) hl
 ·exact item_raise c bt ao cap ms f line col num name kids s w ka kc hP he hp ho hl
 ·exact item_out c bt ao cap ms f line col num name kids s w ka kc hP he hp ho (by have:=well_kids (a:=1) (b:=1) hk.well (by kernel_rfl) (by decide);simp only at this;omega) hl
 ·exact item_set c bt ao cap ms f line col num name kids s w ka kc hP he hp ho (by have:=well_kids (a:=1) (b:=1) hk.well (by kernel_rfl) (by decide);simp only at this;omega) hl
theorem unary_all (c:Pc)(bt:Nat)(ao:Option Addr)(cap:Nat)(ms:List Nd)(f:Nd->Sh.St->Sh.St)(n:Nd)(s:Sh.St)(w:World)(ka:Option Addr)(kc:Nat)
  (hop:n.op=⟨#[110,101,103]⟩\/n.op=⟨#[110,111,116]⟩\/n.op=⟨#[102,115,116]⟩\/n.op=⟨#[115,110,100]⟩\/n.op=⟨#[103,101,116]⟩\/n.op=⟨#[116,114,117,101]⟩\/n.op=⟨#[102,97,108,115,101]⟩\/n.op=⟨#[104,111,108,101]⟩\/n.op=⟨#[114,101,108,101,97,115,101]⟩\/n.op=⟨#[117,110,105,116]⟩\/n.op=⟨#[112,97,105,114]⟩\/n.op=⟨#[105,110,116]⟩\/n.op=⟨#[118,97,114]⟩\/n.op=⟨#[99,97,108,108]⟩) (hk:NdOk n) (hP:PartsC c bt ao cap ms f n) (he:En c bt ao cap ms w) (hp:Pr c w s) (ho:w.ownsRow 0 3 1 (.slice ka n.kids.length kc) n.kids.length (ints n.kids))
  (hl:(Sh.unary ms f dig n s).bs.length<=1000000000):Calls Tryz.prog 75 #[.pointer (some ⟨c.bp,0,none⟩),nval n ka kc] w (TksP c w (Sh.unary ms f dig n s)):=by
 obtain ⟨op,line,col,name,num,kids⟩:=n;simp only at hop
 rcases hop with rfl | rfl | rfl | rfl | rfl | rfl | rfl | rfl | rfl | rfl | rfl | rfl | rfl | rfl
 ·exact unary_neg c bt ao cap ms f line col num name kids s w ka kc hP he hp ho (by have:=well_kids (a:=7) (b:=1) hk.well (by kernel_rfl) (by decide);simp only at this;omega) hl
 ·exact unary_not c bt ao cap ms f line col num name kids s w ka kc hP he hp ho (by have:=well_kids (a:=7) (b:=1) hk.well (by kernel_rfl) (by decide);simp only at this;omega) hl
 ·exact unary_fst c bt ao cap ms f line col num name kids s w ka kc hP he hp ho (by have:=well_kids (a:=7) (b:=1) hk.well (by kernel_rfl) (by decide);simp only at this;omega) hl
 ·exact unary_snd c bt ao cap ms f line col num name kids s w ka kc hP he hp ho (by have:=well_kids (a:=7) (b:=1) hk.well (by kernel_rfl) (by decide);simp only at this;omega) hl
 ·exact unary_get c bt ao cap ms f line col num name kids s w ka kc hP he hp ho hl
 ·exact unary_true c bt ao cap ms f line col num name kids s w ka kc hP he hp ho hl
 ·exact unary_false c bt ao cap ms f line col num name kids s w ka kc hP he hp ho hl
 ·exact unary_hole c bt ao cap ms f line col num name kids s w ka kc hP he hp ho hl
 ·exact unary_release c bt ao cap ms f line col num name kids s w ka kc hP he hp ho hl
 ·exact unary_unit c bt ao cap ms f line col num name kids s w ka kc hP he hp ho hl
 ·exact unary_pair c bt ao cap ms f line col num name kids s w ka kc hP he hp ho hl
 ·exact unary_int c bt ao cap ms f line col num name kids s w ka kc hP he hp ho hk.lo hk.hi hl
 ·exact unary_var c bt ao cap ms f line col num name kids s w ka kc hP he hp ho hl
 ·exact unary_call c bt ao cap ms f line col num name kids s w ka kc hP he hp ho hl
def SemiC (c:Pc)(bt:Nat)(ao:Option Addr)(cap:Nat)(ms:List Nd)(f:Nd->Sh.St->Sh.St)(e:Nd->Bool)(n:Nd):Prop :=
 0<n.kids.length->∀ (s:Sh.St) (w:World),En c bt ao cap ms w->Pr c w s->(Sh.semi ms f e (kid n.kids 0) s).bs.length<=1000000000 ->
  Calls Tryz.prog 72 #[.pointer (some ⟨c.bp,0,none⟩),.int .i64 (kid n.kids 0)] w (TksP c w (Sh.semi ms f e (kid n.kids 0) s))
theorem node_seq (c:Pc)(bt:Nat)(ao:Option Addr)(cap:Nat)(ms:List Nd)(f:Nd->Sh.St->Sh.St)(e:Nd->Bool)(n:Nd)(s:Sh.St)(w:World)(ka:Option Addr)(kc:Nat)
  (hF:Sh.formOf n.op=⟨0,2,true⟩) (hk:NdOk n) (hP:PartsC c bt ao cap ms f n) (hS:SemiC c bt ao cap ms f e n) (he:En c bt ao cap ms w) (hp:Pr c w s) (ho:w.ownsRow 0 3 1 (.slice ka n.kids.length kc) n.kids.length (ints n.kids))
  (hl:(Sh.nodeF ms f e dig n s).bs.length<=1000000000):Calls Tryz.prog 52 #[.pointer (some ⟨c.bp,0,none⟩),nval n ka kc] w (TksP c w (Sh.nodeF ms f e dig n s)):=by
 have h0:=Nx.start he hp ho;obtain ⟨W,hW⟩:∃ W,w.alloc (.cells #[.string n.op,.int .i64 n.line,.int .i64 n.col,.string n.name,.int .i64 n.num,.slice ka n.kids.length kc] 30)=W:=⟨_,rfl⟩;rw [hW] at h0;have E:Sh.nodeF ms f e dig n s=Sh.part ms f (kid n.kids 1) 0 (Sh.tok (Sh.semi ms f e (kid n.kids 0) s) ⟨#[59]⟩):=by unfold Sh.nodeF;rw [hF];rfl
 rw [E] at hl ⊢;have hkl:n.kids.length=2:=by have:=well_kids (a:=0) (b:=2) hk.well hF (by decide);omega
 obtain ⟨g,rfl⟩:=h0.some (by omega);obtain ⟨s1,e1⟩:∃ x,Sh.semi ms f e (kid n.kids 0) s=x:=⟨_,rfl⟩;have m1:s.bs.length<=s1.bs.length:=by rw [<- e1];exact Sh.semi_mono hP.grows _ _ _
 obtain ⟨s2,e2⟩:∃ x,Sh.tok s1 ⟨#[59]⟩=x:=⟨_,rfl⟩;have m2:s1.bs.length<=s2.bs.length:=by rw [<- e2];exact Sh.tok_mono _ _
 obtain ⟨s3,e3⟩:∃ x,Sh.part ms f (kid n.kids 1) 0 s2=x:=⟨_,rfl⟩;have m3:s2.bs.length<=s3.bs.length:=by rw [<- e3];exact Sh.part_mono hP.grows _ _ _
 have E':Sh.part ms f (kid n.kids 1) 0 (Sh.tok (Sh.semi ms f e (kid n.kids 0) s) ⟨#[59]⟩)=s3:=by rw [e1,e2,e3]
 rw [E'] at hl ⊢;have E1:=Lib.hid e1;have E2:=Lib.hid e2;have E3:=Lib.hid e3;have HKL:=Lib.hid hkl;have HS:=Lib.hid hS;clear E' e1 e2 e3 hkl hS;have HP:=Lib.hid hP;have HW:=Lib.hid hW;have H0:=Lib.hid h0;have HF:=Lib.hid (fun w=>form_at hF w);have HK:=Lib.hid hk;clear hP hW h0 he hp ho E hF hk;unfold nval
 go_enter Tryz.func52,Tryz.ntmps52
 go_upto_region 1 with fail
 rw [HW.out];have c0:=H0.out.c0
 go_wp2_with fail
 refine (HF.out _).mono ?_;rintro e1 w1 ⟨rfl,hb1⟩;have H1:=Lib.hid (H0.out.below hb1);clear hb1 c0 H0;have c5:=H1.out.c5;have kk:=H1.out.kid rfl (j:=0) (by rw [HKL.out];decide);rw [HKL.out] at c5
 go_wp2_with fail
 refine (HS.out (by rw [HKL.out];decide) s _ H1.out.en H1.out.tk.pr (by rw [E1.out];omega)).mono ?_;rintro e2 w2 ⟨rfl,q⟩;have H2:=Lib.hid (H1.out.step (E1.out ▸ q));clear q c5 kk H1
 go_wp2_with fail
 refine (toks1 c _ s1 _ H2.out.tk.pr (by rw [E2.out];omega)).mono ?_;rintro e3 w3 ⟨rfl,q⟩;have H3:=Lib.hid (H2.out.step (E2.out ▸ q));clear q H2;have c5:=H3.out.c5;have kk:=H3.out.kid rfl (j:=1) (by rw [HKL.out];decide);rw [HKL.out] at c5
 go_wp2_with fail
 refine (HP.out.part 1 (by rw [HKL.out];decide) 0 s2 _ H3.out.en H3.out.tk.pr (by rw [E3.out];omega)).mono ?_;rintro e4 w4 ⟨rfl,q⟩;have H9:=Lib.hid (H3.out.step (E3.out ▸ q));clear q c5 kk H3
 go_wp2
 go_end0
 exact ⟨rfl,H9.out.tk⟩
theorem node_item (c:Pc)(bt:Nat)(ao:Option Addr)(cap:Nat)(ms:List Nd)(f:Nd->Sh.St->Sh.St)(e:Nd->Bool)(n:Nd)(s:Sh.St)(w:World)(ka:Option Addr)(kc:Nat)
  (b:Int) (hF:Sh.formOf n.op=⟨1,b,true⟩) (hop:n.op=⟨#[108,101,116]⟩\/n.op=⟨#[105,102]⟩\/n.op=⟨#[116,114,121]⟩\/n.op=⟨#[114,97,105,115,101]⟩\/n.op=⟨#[111,117,116]⟩\/n.op=⟨#[115,101,116]⟩) (hk:NdOk n) (hP:PartsC c bt ao cap ms f n) (he:En c bt ao cap ms w) (hp:Pr c w s) (ho:w.ownsRow 0 3 1 (.slice ka n.kids.length kc) n.kids.length (ints n.kids))
  (hl:(Sh.nodeF ms f e dig n s).bs.length<=1000000000):Calls Tryz.prog 52 #[.pointer (some ⟨c.bp,0,none⟩),nval n ka kc] w (TksP c w (Sh.nodeF ms f e dig n s)):=by
 have h0:=Nx.start he hp ho;obtain ⟨W,hW⟩:∃ W,w.alloc (.cells #[.string n.op,.int .i64 n.line,.int .i64 n.col,.string n.name,.int .i64 n.num,.slice ka n.kids.length kc] 30)=W:=⟨_,rfl⟩;rw [hW] at h0;have E:Sh.nodeF ms f e dig n s=Sh.item ms f n s:=by unfold Sh.nodeF;rw [hF];rfl
 rw [E] at hl ⊢;have HOP:=Lib.hid hop;clear hop;have HP:=Lib.hid hP;have HW:=Lib.hid hW;have H0:=Lib.hid h0;have HF:=Lib.hid (fun w=>form_at hF w);have HK:=Lib.hid hk;clear hP hW h0 he hp ho E hF hk;unfold nval
 go_enter Tryz.func52,Tryz.ntmps52
 go_upto_region 1 with fail
 rw [HW.out];have c0:=H0.out.c0
 go_wp2_with fail
 refine (HF.out _).mono ?_;rintro e1 w1 ⟨rfl,hb1⟩;have H1:=Lib.hid (H0.out.below hb1);clear hb1 c0 H0;have c0:=H1.out.c0;have c1:=H1.out.c1;have c2:=H1.out.c2;have c3:=H1.out.c3;have c4:=H1.out.c4;have c5:=H1.out.c5
 go_wp2_with fail
 refine (item_all c bt ao cap ms f n s _ ka kc HOP.out HK.out HP.out H1.out.en H1.out.tk.pr H1.out.own hl).mono ?_;rintro e2 w2 ⟨rfl,q⟩;have H9:=Lib.hid (H1.out.step q);clear q c0 c1 c2 c3 c4 c5 H1
 go_wp2
 go_end0
 exact ⟨rfl,H9.out.tk⟩
theorem node_unary (c:Pc)(bt:Nat)(ao:Option Addr)(cap:Nat)(ms:List Nd)(f:Nd->Sh.St->Sh.St)(e:Nd->Bool)(n:Nd)(s:Sh.St)(w:World)(ka:Option Addr)(kc:Nat)
  (b:Int) (hF:Sh.formOf n.op=⟨7,b,true⟩) (hop:n.op=⟨#[110,101,103]⟩\/n.op=⟨#[110,111,116]⟩\/n.op=⟨#[102,115,116]⟩\/n.op=⟨#[115,110,100]⟩\/n.op=⟨#[103,101,116]⟩\/n.op=⟨#[116,114,117,101]⟩\/n.op=⟨#[102,97,108,115,101]⟩\/n.op=⟨#[104,111,108,101]⟩\/n.op=⟨#[114,101,108,101,97,115,101]⟩\/n.op=⟨#[117,110,105,116]⟩\/n.op=⟨#[112,97,105,114]⟩\/n.op=⟨#[105,110,116]⟩\/n.op=⟨#[118,97,114]⟩\/n.op=⟨#[99,97,108,108]⟩) (hk:NdOk n) (hP:PartsC c bt ao cap ms f n) (he:En c bt ao cap ms w) (hp:Pr c w s) (ho:w.ownsRow 0 3 1 (.slice ka n.kids.length kc) n.kids.length (ints n.kids))
  (hl:(Sh.nodeF ms f e dig n s).bs.length<=1000000000):Calls Tryz.prog 52 #[.pointer (some ⟨c.bp,0,none⟩),nval n ka kc] w (TksP c w (Sh.nodeF ms f e dig n s)):=by
 have h0:=Nx.start he hp ho;obtain ⟨W,hW⟩:∃ W,w.alloc (.cells #[.string n.op,.int .i64 n.line,.int .i64 n.col,.string n.name,.int .i64 n.num,.slice ka n.kids.length kc] 30)=W:=⟨_,rfl⟩;rw [hW] at h0;have E:Sh.nodeF ms f e dig n s=Sh.unary ms f dig n s:=by unfold Sh.nodeF;rw [hF];rfl
 rw [E] at hl ⊢;have HOP:=Lib.hid hop;clear hop;have HP:=Lib.hid hP;have HW:=Lib.hid hW;have H0:=Lib.hid h0;have HF:=Lib.hid (fun w=>form_at hF w);have HK:=Lib.hid hk;clear hP hW h0 he hp ho E hF hk;unfold nval
 go_enter Tryz.func52,Tryz.ntmps52
 go_upto_region 1 with fail
 rw [HW.out];have c0:=H0.out.c0
 go_wp2_with fail
 refine (HF.out _).mono ?_;rintro e1 w1 ⟨rfl,hb1⟩;have H1:=Lib.hid (H0.out.below hb1);clear hb1 c0 H0;have c0:=H1.out.c0;have c1:=H1.out.c1;have c2:=H1.out.c2;have c3:=H1.out.c3;have c4:=H1.out.c4;have c5:=H1.out.c5
 go_wp2_with fail
 refine (unary_all c bt ao cap ms f n s _ ka kc HOP.out HK.out HP.out H1.out.en H1.out.tk.pr H1.out.own hl).mono ?_;rintro e2 w2 ⟨rfl,q⟩;have H9:=Lib.hid (H1.out.step q);clear q c0 c1 c2 c3 c4 c5 H1
 go_wp2
 go_end0
 exact ⟨rfl,H9.out.tk⟩
theorem node_bin2 (c:Pc)(bt:Nat)(ao:Option Addr)(cap:Nat)(ms:List Nd)(f:Nd->Sh.St->Sh.St)(e:Nd->Bool)(n:Nd)(s:Sh.St)(w:World)(ka:Option Addr)(kc:Nat)
  (hF:Sh.formOf n.op=⟨2,2,true⟩) (hk:NdOk n) (hP:PartsC c bt ao cap ms f n) (he:En c bt ao cap ms w) (hp:Pr c w s) (ho:w.ownsRow 0 3 1 (.slice ka n.kids.length kc) n.kids.length (ints n.kids))
  (hl:(Sh.nodeF ms f e dig n s).bs.length<=1000000000):Calls Tryz.prog 52 #[.pointer (some ⟨c.bp,0,none⟩),nval n ka kc] w (TksP c w (Sh.nodeF ms f e dig n s)):=by
 have h0:=Nx.start he hp ho;obtain ⟨W,hW⟩:∃ W,w.alloc (.cells #[.string n.op,.int .i64 n.line,.int .i64 n.col,.string n.name,.int .i64 n.num,.slice ka n.kids.length kc] 30)=W:=⟨_,rfl⟩;rw [hW] at h0;have E:Sh.nodeF ms f e dig n s=Sh.between ms f n 2 3 s:=by unfold Sh.nodeF;rw [hF];rfl
 rw [E] at hl ⊢;have hkl:n.kids.length=2:=by have:=well_kids (a:=2) (b:=2) hk.well hF (by decide);omega
 have HKL:=Lib.hid hkl;clear hkl;have HP:=Lib.hid hP;have HW:=Lib.hid hW;have H0:=Lib.hid h0;have HF:=Lib.hid (fun w=>form_at hF w);have HK:=Lib.hid hk;clear hP hW h0 he hp ho E hF hk;unfold nval
 go_enter Tryz.func52,Tryz.ntmps52
 go_upto_region 1 with fail
 rw [HW.out];have c0:=H0.out.c0
 go_wp2_with fail
 refine (HF.out _).mono ?_;rintro e1 w1 ⟨rfl,hb1⟩;have H1:=Lib.hid (H0.out.below hb1);clear hb1 c0 H0;have c0:=H1.out.c0;have c1:=H1.out.c1;have c2:=H1.out.c2;have c3:=H1.out.c3;have c4:=H1.out.c4;have c5:=H1.out.c5
 go_wp2_with fail
 refine (sbetween_any c bt ao cap ms f n 2 3 s _ ka kc HP.out H1.out.en H1.out.tk.pr H1.out.own HKL.out hl).mono ?_;rintro e2 w2 ⟨rfl,q⟩;have H9:=Lib.hid (H1.out.step q);clear q c0 c1 c2 c3 c4 c5 H1
 go_wp2
 go_end0
 exact ⟨rfl,H9.out.tk⟩
theorem node_bin3 (c:Pc)(bt:Nat)(ao:Option Addr)(cap:Nat)(ms:List Nd)(f:Nd->Sh.St->Sh.St)(e:Nd->Bool)(n:Nd)(s:Sh.St)(w:World)(ka:Option Addr)(kc:Nat)
  (hF:Sh.formOf n.op=⟨3,2,true⟩) (hk:NdOk n) (hP:PartsC c bt ao cap ms f n) (he:En c bt ao cap ms w) (hp:Pr c w s) (ho:w.ownsRow 0 3 1 (.slice ka n.kids.length kc) n.kids.length (ints n.kids))
  (hl:(Sh.nodeF ms f e dig n s).bs.length<=1000000000):Calls Tryz.prog 52 #[.pointer (some ⟨c.bp,0,none⟩),nval n ka kc] w (TksP c w (Sh.nodeF ms f e dig n s)):=by
 have h0:=Nx.start he hp ho;obtain ⟨W,hW⟩:∃ W,w.alloc (.cells #[.string n.op,.int .i64 n.line,.int .i64 n.col,.string n.name,.int .i64 n.num,.slice ka n.kids.length kc] 30)=W:=⟨_,rfl⟩;rw [hW] at h0;have E:Sh.nodeF ms f e dig n s=Sh.between ms f n 3 4 s:=by unfold Sh.nodeF;rw [hF];rfl
 rw [E] at hl ⊢;have hkl:n.kids.length=2:=by have:=well_kids (a:=3) (b:=2) hk.well hF (by decide);omega
 have HKL:=Lib.hid hkl;clear hkl;have HP:=Lib.hid hP;have HW:=Lib.hid hW;have H0:=Lib.hid h0;have HF:=Lib.hid (fun w=>form_at hF w);have HK:=Lib.hid hk;clear hP hW h0 he hp ho E hF hk;unfold nval
 go_enter Tryz.func52,Tryz.ntmps52
 go_upto_region 1 with fail
 rw [HW.out];have c0:=H0.out.c0
 go_wp2_with fail
 refine (HF.out _).mono ?_;rintro e1 w1 ⟨rfl,hb1⟩;have H1:=Lib.hid (H0.out.below hb1);clear hb1 c0 H0;have c0:=H1.out.c0;have c1:=H1.out.c1;have c2:=H1.out.c2;have c3:=H1.out.c3;have c4:=H1.out.c4;have c5:=H1.out.c5
 go_wp2_with fail
 refine (sbetween_any c bt ao cap ms f n 3 4 s _ ka kc HP.out H1.out.en H1.out.tk.pr H1.out.own HKL.out hl).mono ?_;rintro e2 w2 ⟨rfl,q⟩;have H9:=Lib.hid (H1.out.step q);clear q c0 c1 c2 c3 c4 c5 H1
 go_wp2
 go_end0
 exact ⟨rfl,H9.out.tk⟩
theorem node_bin4 (c:Pc)(bt:Nat)(ao:Option Addr)(cap:Nat)(ms:List Nd)(f:Nd->Sh.St->Sh.St)(e:Nd->Bool)(n:Nd)(s:Sh.St)(w:World)(ka:Option Addr)(kc:Nat)
  (hF:Sh.formOf n.op=⟨4,2,true⟩) (hk:NdOk n) (hP:PartsC c bt ao cap ms f n) (he:En c bt ao cap ms w) (hp:Pr c w s) (ho:w.ownsRow 0 3 1 (.slice ka n.kids.length kc) n.kids.length (ints n.kids))
  (hl:(Sh.nodeF ms f e dig n s).bs.length<=1000000000):Calls Tryz.prog 52 #[.pointer (some ⟨c.bp,0,none⟩),nval n ka kc] w (TksP c w (Sh.nodeF ms f e dig n s)):=by
 have h0:=Nx.start he hp ho;obtain ⟨W,hW⟩:∃ W,w.alloc (.cells #[.string n.op,.int .i64 n.line,.int .i64 n.col,.string n.name,.int .i64 n.num,.slice ka n.kids.length kc] 30)=W:=⟨_,rfl⟩;rw [hW] at h0;have E:Sh.nodeF ms f e dig n s=Sh.between ms f n 5 5 s:=by unfold Sh.nodeF;rw [hF];rfl
 rw [E] at hl ⊢;have hkl:n.kids.length=2:=by have:=well_kids (a:=4) (b:=2) hk.well hF (by decide);omega
 have HKL:=Lib.hid hkl;clear hkl;have HP:=Lib.hid hP;have HW:=Lib.hid hW;have H0:=Lib.hid h0;have HF:=Lib.hid (fun w=>form_at hF w);have HK:=Lib.hid hk;clear hP hW h0 he hp ho E hF hk;unfold nval
 go_enter Tryz.func52,Tryz.ntmps52
 go_upto_region 1 with fail
 rw [HW.out];have c0:=H0.out.c0
 go_wp2_with fail
 refine (HF.out _).mono ?_;rintro e1 w1 ⟨rfl,hb1⟩;have H1:=Lib.hid (H0.out.below hb1);clear hb1 c0 H0;have c0:=H1.out.c0;have c1:=H1.out.c1;have c2:=H1.out.c2;have c3:=H1.out.c3;have c4:=H1.out.c4;have c5:=H1.out.c5
 go_wp2_with fail
 refine (sbetween_any c bt ao cap ms f n 5 5 s _ ka kc HP.out H1.out.en H1.out.tk.pr H1.out.own HKL.out hl).mono ?_;rintro e2 w2 ⟨rfl,q⟩;have H9:=Lib.hid (H1.out.step q);clear q c0 c1 c2 c3 c4 c5 H1
 go_wp2
 go_end0
 exact ⟨rfl,H9.out.tk⟩
theorem node_bin5 (c:Pc)(bt:Nat)(ao:Option Addr)(cap:Nat)(ms:List Nd)(f:Nd->Sh.St->Sh.St)(e:Nd->Bool)(n:Nd)(s:Sh.St)(w:World)(ka:Option Addr)(kc:Nat)
  (hF:Sh.formOf n.op=⟨5,2,true⟩) (hk:NdOk n) (hP:PartsC c bt ao cap ms f n) (he:En c bt ao cap ms w) (hp:Pr c w s) (ho:w.ownsRow 0 3 1 (.slice ka n.kids.length kc) n.kids.length (ints n.kids))
  (hl:(Sh.nodeF ms f e dig n s).bs.length<=1000000000):Calls Tryz.prog 52 #[.pointer (some ⟨c.bp,0,none⟩),nval n ka kc] w (TksP c w (Sh.nodeF ms f e dig n s)):=by
 have h0:=Nx.start he hp ho;obtain ⟨W,hW⟩:∃ W,w.alloc (.cells #[.string n.op,.int .i64 n.line,.int .i64 n.col,.string n.name,.int .i64 n.num,.slice ka n.kids.length kc] 30)=W:=⟨_,rfl⟩;rw [hW] at h0;have E:Sh.nodeF ms f e dig n s=Sh.between ms f n 5 6 s:=by unfold Sh.nodeF;rw [hF];rfl
 rw [E] at hl ⊢;have hkl:n.kids.length=2:=by have:=well_kids (a:=5) (b:=2) hk.well hF (by decide);omega
 have HKL:=Lib.hid hkl;clear hkl;have HP:=Lib.hid hP;have HW:=Lib.hid hW;have H0:=Lib.hid h0;have HF:=Lib.hid (fun w=>form_at hF w);have HK:=Lib.hid hk;clear hP hW h0 he hp ho E hF hk;unfold nval
 go_enter Tryz.func52,Tryz.ntmps52
 go_upto_region 1 with fail
 rw [HW.out];have c0:=H0.out.c0
 go_wp2_with fail
 refine (HF.out _).mono ?_;rintro e1 w1 ⟨rfl,hb1⟩;have H1:=Lib.hid (H0.out.below hb1);clear hb1 c0 H0;have c0:=H1.out.c0;have c1:=H1.out.c1;have c2:=H1.out.c2;have c3:=H1.out.c3;have c4:=H1.out.c4;have c5:=H1.out.c5
 go_wp2_with fail
 refine (sbetween_any c bt ao cap ms f n 5 6 s _ ka kc HP.out H1.out.en H1.out.tk.pr H1.out.own HKL.out hl).mono ?_;rintro e2 w2 ⟨rfl,q⟩;have H9:=Lib.hid (H1.out.step q);clear q c0 c1 c2 c3 c4 c5 H1
 go_wp2
 go_end0
 exact ⟨rfl,H9.out.tk⟩
theorem node_bin6 (c:Pc)(bt:Nat)(ao:Option Addr)(cap:Nat)(ms:List Nd)(f:Nd->Sh.St->Sh.St)(e:Nd->Bool)(n:Nd)(s:Sh.St)(w:World)(ka:Option Addr)(kc:Nat)
  (hF:Sh.formOf n.op=⟨6,2,true⟩) (hk:NdOk n) (hP:PartsC c bt ao cap ms f n) (he:En c bt ao cap ms w) (hp:Pr c w s) (ho:w.ownsRow 0 3 1 (.slice ka n.kids.length kc) n.kids.length (ints n.kids))
  (hl:(Sh.nodeF ms f e dig n s).bs.length<=1000000000):Calls Tryz.prog 52 #[.pointer (some ⟨c.bp,0,none⟩),nval n ka kc] w (TksP c w (Sh.nodeF ms f e dig n s)):=by
 have h0:=Nx.start he hp ho;obtain ⟨W,hW⟩:∃ W,w.alloc (.cells #[.string n.op,.int .i64 n.line,.int .i64 n.col,.string n.name,.int .i64 n.num,.slice ka n.kids.length kc] 30)=W:=⟨_,rfl⟩;rw [hW] at h0;have E:Sh.nodeF ms f e dig n s=Sh.between ms f n 6 7 s:=by unfold Sh.nodeF;rw [hF];rfl
 rw [E] at hl ⊢;have hkl:n.kids.length=2:=by have:=well_kids (a:=6) (b:=2) hk.well hF (by decide);omega
 have HKL:=Lib.hid hkl;clear hkl;have HP:=Lib.hid hP;have HW:=Lib.hid hW;have H0:=Lib.hid h0;have HF:=Lib.hid (fun w=>form_at hF w);have HK:=Lib.hid hk;clear hP hW h0 he hp ho E hF hk;unfold nval
 go_enter Tryz.func52,Tryz.ntmps52
 go_upto_region 1 with fail
 rw [HW.out];have c0:=H0.out.c0
 go_wp2_with fail
 refine (HF.out _).mono ?_;rintro e1 w1 ⟨rfl,hb1⟩;have H1:=Lib.hid (H0.out.below hb1);clear hb1 c0 H0;have c0:=H1.out.c0;have c1:=H1.out.c1;have c2:=H1.out.c2;have c3:=H1.out.c3;have c4:=H1.out.c4;have c5:=H1.out.c5
 go_wp2_with fail
 refine (sbetween_any c bt ao cap ms f n 6 7 s _ ka kc HP.out H1.out.en H1.out.tk.pr H1.out.own HKL.out hl).mono ?_;rintro e2 w2 ⟨rfl,q⟩;have H9:=Lib.hid (H1.out.step q);clear q c0 c1 c2 c3 c4 c5 H1
 go_wp2
 go_end0
 exact ⟨rfl,H9.out.tk⟩
theorem node_any (c:Pc)(bt:Nat)(ao:Option Addr)(cap:Nat)(ms:List Nd)(f:Nd->Sh.St->Sh.St)(e:Nd->Bool)(n:Nd)(s:Sh.St)(w:World)(ka:Option Addr)(kc:Nat)
  (hk:NdOk n) (hP:PartsC c bt ao cap ms f n) (hS:SemiC c bt ao cap ms f e n) (he:En c bt ao cap ms w) (hp:Pr c w s) (ho:w.ownsRow 0 3 1 (.slice ka n.kids.length kc) n.kids.length (ints n.kids))
  (hl:(Sh.nodeF ms f e dig n s).bs.length<=1000000000):Calls Tryz.prog 52 #[.pointer (some ⟨c.bp,0,none⟩),nval n ka kc] w (TksP c w (Sh.nodeF ms f e dig n s)):=by
 by_cases hn:n.op∈opList
 ·simp only [opList,List.mem_cons,List.not_mem_nil,or_false] at hn
  rcases hn with h | h | h | h | h | h | h | h | h | h | h | h | h | h | h | h | h | h | h | h | h | h | h | h | h | h | h | h
  ·exact node_seq c bt ao cap ms f e n s w ka kc (show Sh.formOf n.op=⟨0,2,true⟩ by rw [h];kernel_rfl) hk hP hS he hp ho hl
  ·exact node_item c bt ao cap ms f e n s w ka kc 3 (show Sh.formOf n.op=⟨1,3,true⟩ by rw [h];kernel_rfl) (.inr (.inl h)) hk hP he hp ho hl
  ·exact node_item c bt ao cap ms f e n s w ka kc 2 (show Sh.formOf n.op=⟨1,2,true⟩ by rw [h];kernel_rfl) (.inl h) hk hP he hp ho hl
  ·exact node_item c bt ao cap ms f e n s w ka kc 2 (show Sh.formOf n.op=⟨1,2,true⟩ by rw [h];kernel_rfl) (.inr (.inr (.inl h))) hk hP he hp ho hl
  ·exact node_item c bt ao cap ms f e n s w ka kc 1 (show Sh.formOf n.op=⟨1,1,true⟩ by rw [h];kernel_rfl) (.inr (.inr (.inr (.inr (.inl h))))) hk hP he hp ho hl
  ·exact node_item c bt ao cap ms f e n s w ka kc 1 (show Sh.formOf n.op=⟨1,1,true⟩ by rw [h];kernel_rfl) (.inr (.inr (.inr (.inr (.inr (h)))))) hk hP he hp ho hl
  ·exact node_item c bt ao cap ms f e n s w ka kc 0 (show Sh.formOf n.op=⟨1,0,true⟩ by rw [h];kernel_rfl) (.inr (.inr (.inr (.inl h)))) hk hP he hp ho hl
  ·exact node_bin2 c bt ao cap ms f e n s w ka kc (show Sh.formOf n.op=⟨2,2,true⟩ by rw [h];kernel_rfl) hk hP he hp ho hl
  ·exact node_bin3 c bt ao cap ms f e n s w ka kc (show Sh.formOf n.op=⟨3,2,true⟩ by rw [h];kernel_rfl) hk hP he hp ho hl
  ·exact node_bin4 c bt ao cap ms f e n s w ka kc (show Sh.formOf n.op=⟨4,2,true⟩ by rw [h];kernel_rfl) hk hP he hp ho hl
  ·exact node_bin4 c bt ao cap ms f e n s w ka kc (show Sh.formOf n.op=⟨4,2,true⟩ by rw [h];kernel_rfl) hk hP he hp ho hl
  ·exact node_bin5 c bt ao cap ms f e n s w ka kc (show Sh.formOf n.op=⟨5,2,true⟩ by rw [h];kernel_rfl) hk hP he hp ho hl
  ·exact node_bin5 c bt ao cap ms f e n s w ka kc (show Sh.formOf n.op=⟨5,2,true⟩ by rw [h];kernel_rfl) hk hP he hp ho hl
  ·exact node_bin6 c bt ao cap ms f e n s w ka kc (show Sh.formOf n.op=⟨6,2,true⟩ by rw [h];kernel_rfl) hk hP he hp ho hl
  ·exact node_unary c bt ao cap ms f e n s w ka kc 2 (show Sh.formOf n.op=⟨7,2,true⟩ by rw [h];kernel_rfl) (.inr (.inr (.inr (.inr (.inr (.inr (.inr (.inr (.inr (.inr (.inl h))))))))))) hk hP he hp ho hl
  ·exact node_unary c bt ao cap ms f e n s w ka kc 1 (show Sh.formOf n.op=⟨7,1,true⟩ by rw [h];kernel_rfl) (.inl h) hk hP he hp ho hl
  ·exact node_unary c bt ao cap ms f e n s w ka kc 1 (show Sh.formOf n.op=⟨7,1,true⟩ by rw [h];kernel_rfl) (.inr (.inl h)) hk hP he hp ho hl
  ·exact node_unary c bt ao cap ms f e n s w ka kc 1 (show Sh.formOf n.op=⟨7,1,true⟩ by rw [h];kernel_rfl) (.inr (.inr (.inl h))) hk hP he hp ho hl
  ·exact node_unary c bt ao cap ms f e n s w ka kc 1 (show Sh.formOf n.op=⟨7,1,true⟩ by rw [h];kernel_rfl) (.inr (.inr (.inr (.inl h)))) hk hP he hp ho hl
  ·exact node_unary c bt ao cap ms f e n s w ka kc 1 (show Sh.formOf n.op=⟨7,1,true⟩ by rw [h];kernel_rfl) (.inr (.inr (.inr (.inr (.inr (.inr (.inr (.inr (.inl h))))))))) hk hP he hp ho hl
  ·exact node_unary c bt ao cap ms f e n s w ka kc 0 (show Sh.formOf n.op=⟨7,0,true⟩ by rw [h];kernel_rfl) (.inr (.inr (.inr (.inr (.inl h))))) hk hP he hp ho hl
  ·exact node_unary c bt ao cap ms f e n s w ka kc 0 (show Sh.formOf n.op=⟨7,0,true⟩ by rw [h];kernel_rfl) (.inr (.inr (.inr (.inr (.inr (.inl h)))))) hk hP he hp ho hl
  ·exact node_unary c bt ao cap ms f e n s w ka kc 0 (show Sh.formOf n.op=⟨7,0,true⟩ by rw [h];kernel_rfl) (.inr (.inr (.inr (.inr (.inr (.inr (.inl h))))))) hk hP he hp ho hl
  ·exact node_unary c bt ao cap ms f e n s w ka kc 0 (show Sh.formOf n.op=⟨7,0,true⟩ by rw [h];kernel_rfl) (.inr (.inr (.inr (.inr (.inr (.inr (.inr (.inl h)))))))) hk hP he hp ho hl
  ·exact node_unary c bt ao cap ms f e n s w ka kc 0 (show Sh.formOf n.op=⟨7,0,true⟩ by rw [h];kernel_rfl) (.inr (.inr (.inr (.inr (.inr (.inr (.inr (.inr (.inr (.inl h)))))))))) hk hP he hp ho hl
  ·exact node_unary c bt ao cap ms f e n s w ka kc 0 (show Sh.formOf n.op=⟨7,0,true⟩ by rw [h];kernel_rfl) (.inr (.inr (.inr (.inr (.inr (.inr (.inr (.inr (.inr (.inr (.inr (.inl h)))))))))))) hk hP he hp ho hl
  ·exact node_unary c bt ao cap ms f e n s w ka kc 0 (show Sh.formOf n.op=⟨7,0,true⟩ by rw [h];kernel_rfl) (.inr (.inr (.inr (.inr (.inr (.inr (.inr (.inr (.inr (.inr (.inr (.inr (.inl h))))))))))))) hk hP he hp ho hl
  ·exact node_unary c bt ao cap ms f e n s w ka kc (-1) (show Sh.formOf n.op=⟨7,(-1),true⟩ by rw [h];kernel_rfl) (.inr (.inr (.inr (.inr (.inr (.inr (.inr (.inr (.inr (.inr (.inr (.inr (.inr (h)))))))))))))) hk hP he hp ho hl
 ·have h:=hk.well;unfold Sh.well at h;rw [form_no hn] at h;simp at h
end
section
open Go.RowKit Go.Shelf Tn
attribute [local go_sem] form_field0
theorem semi_any (c:Pc)(bt:Nat)(ao:Option Addr)(cap:Nat)(ms:List Nd)(i:Nat)(g:Sh.St->Sh.St)(b:Bool)(s:Sh.St)(w:World)
  (hi:i<ms.length) (hN:NodeC c bt ao cap ms (nd ms i) g) (he:En c bt ao cap ms w) (hp:Pr c w s)
  (hB:∀ (w:World) (ka:Option Addr) (kc:Nat),En c bt ao cap ms w->w.cell? ⟨c.bp,0,none⟩=some c.tv->c.N<=w.heap.size->w.ownsRow 0 3 1 (.slice ka (nd ms i).kids.length kc) (nd ms i).kids.length (ints (nd ms i).kids) ->
   Calls Tryz.prog 107 #[.pointer (some ⟨c.bp,0,none⟩),nval (nd ms i) ka kc] w fun e w'=>e = .returned (.bool b)/\Below w.heap.size w w')
  (hl:(Sh.brk g (decide ((Sh.formOf (nd ms i).op).level<1) || b) s).bs.length<=1000000000):
  Calls Tryz.prog 72 #[.pointer (some ⟨c.bp,0,none⟩),.int .i64 (i:Int)] w (TksP c w (Sh.brk g (decide ((Sh.formOf (nd ms i).op).level<1) || b) s)):=by
 have hG:=get_yes c.N bt ao cap ms i w he.tree hp.hN hi hN.few;have ct:=hp.t;rw [he.tv] at ct;obtain ⟨n,hn⟩:∃ n,nd ms i=n:=⟨_,rfl⟩;rw [hn] at hN hG hB hl ⊢;have HN:=Lib.hid hN;have HE:=Lib.hid he;have HPR:=Lib.hid hp;have HG:=Lib.hid hG;have HBB:=Lib.hid hB;clear hN he hp hG hB hi hn
 go_enter Tryz.func72,Tryz.ntmps72
 go_wp2_with fail
 refine HG.out.mono ?_;rintro e w1 ⟨ka,kc,rfl,hown,hb1⟩;have h0:=Nx.start (HE.out.below (hb1.mono HPR.out.hN)) (HPR.out.below hb1) (own_mono hown (Nat.zero_le _));obtain ⟨W,hW⟩:∃ W,w1.alloc (.cells #[.string n.op,.int .i64 n.line,.int .i64 n.col,.string n.name,.int .i64 n.num,.slice ka n.kids.length kc] 30)=W:=⟨_,rfl⟩;rw [hW] at h0;have HW:=Lib.hid hW;have H0:=Lib.hid h0;have HB1:=Lib.hid hb1;clear hW h0 hb1 hown ct HG;unfold nval
 go_wp2_with fail
 rw [HW.out];have y0:=fun x:Later W=>Later.cell H0.out.c0 x;have y1:=fun x:Later W=>Later.cell H0.out.c1 x;have y2:=fun x:Later W=>Later.cell H0.out.c2 x;have y3:=fun x:Later W=>Later.cell H0.out.c3 x;have y4:=fun x:Later W=>Later.cell H0.out.c4 x;have y5:=fun x:Later W=>Later.cell H0.out.c5 x;have k1:∀ x:Later W,Calls Tryz.prog 33 #[.string n.op] x.wx fun e w''=>e = .returned (fval (Sh.formOf n.op))/\∃ y:Later W,w''=y.wx:=fun x=>calls_later (form_any n.op x.wx);have k2:∀ x:Later W,Calls Tryz.prog 107 #[.pointer (some ⟨c.bp,0,none⟩),.agg #[.string n.op,.int .i64 n.line,.int .i64 n.col,.string n.name,.int .i64 n.num,.slice ka n.kids.length kc]] x.wx fun e w''=>e = .returned (.bool b)/\∃ y:Later W,w''=y.wx:=fun x =>
  calls_later (HBB.out x.wx ka kc (H0.out.below x.le).en (H0.out.below x.le).tk.pr.t (H0.out.below x.le).tk.pr.hN (H0.out.below x.le).own)
 generalize Sh.formOf n.op=F at *;have K1:=Lib.hid k1;clear k1;have K2:=Lib.hid k2;clear k2;unfold fval at K1
 cases hlv:decide (F.level<1)
 all_goals
  rw [hlv] at hl;refine wp_region_later_tail 12 (by kernel_rfl) (by kernel_rfl) ?_;simp only [List.take_succ_cons,List.take_zero,List.drop_succ_cons,List.drop_zero]
  repeat (go_big_quiet_step (first | (go_at_call 33;with_reducible exact K1.out _) | (go_at_call 107;with_reducible exact K2.out _)))
  refine wpQuiet_nil ?_;intro x;have HX:=Lib.hid (H0.out.below x.le);clear y0 y1 y2 y3 y4 y5 K1 K2 H0;generalize x.wx=wx at *
  go_wp2_with fail
  refine (brk_any c bt ao cap ms n g _ s _ ka kc HN.out HX.out.en HX.out.tk.pr HX.out.own hl).mono ?_;rintro e w2 ⟨rfl,q⟩;have H2:=Lib.hid (HX.out.step q);clear q HX
  go_wp2
  go_end0
  exact ⟨rfl,TkP.of_below HB1.out H2.out.tk⟩
end
end Go.Proofs.YtninlbknklbofaaGreatDoor
