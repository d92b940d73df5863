/- A part of the proof: Unaries, as they are printed. -/
import Derived.Test.YtninlbknklbofaaGreatDoorListS
set_option linter.unusedSimpArgs false
set_option linter.unusedVariables false
set_option maxRecDepth 100000
set_option maxHeartbeats 4000000
namespace Go.Proofs.YtninlbknklbofaaGreatDoor
open Go.RowKit Go.Shelf Tn
theorem unary_neg (c:Pc)(bt:Nat)(ao:Option Addr)(cap:Nat)(ms:List Nd)(f:Nd->Sh.St->Sh.St)(line col num:Int)(name:ByteArray)(kids:List Int)(s:Sh.St)(w:World)(ka:Option Addr)(kc:Nat)
  (hP:PartsC c bt ao cap ms f ⟨⟨#[110,101,103]⟩,line,col,name,num,kids⟩) (he:En c bt ao cap ms w) (hp:Pr c w s) (ho:w.ownsRow 0 3 1 (.slice ka kids.length kc) kids.length (ints kids)) (hk:kids.length=1)
  (hl:(Sh.unary ms f dig ⟨⟨#[110,101,103]⟩,line,col,name,num,kids⟩ s).bs.length<=1000000000):
  Calls Tryz.prog 75 #[.pointer (some ⟨c.bp,0,none⟩),nval ⟨⟨#[110,101,103]⟩,line,col,name,num,kids⟩ ka kc] w (TksP c w (Sh.unary ms f dig ⟨⟨#[110,101,103]⟩,line,col,name,num,kids⟩ s)):=by
 have h0:=Nx.start (n:=⟨⟨#[110,101,103]⟩,line,col,name,num,kids⟩) he hp ho;obtain ⟨W,hW⟩:∃ W,w.alloc (.cells #[.string ⟨#[110,101,103]⟩,.int .i64 line,.int .i64 col,.string name,.int .i64 num,.slice ka kids.length kc] 30)=W:=⟨_,rfl⟩;simp only at h0;rw [hW] at h0;obtain ⟨g,rfl⟩:=h0.some (by show 0<kids.length;omega);obtain ⟨s1,e1⟩:∃ x,Sh.tok s ⟨#[45]⟩=x:=⟨_,rfl⟩;have m1:s.bs.length<=s1.bs.length:=by rw [<- e1];exact Sh.tok_mono _ _
 obtain ⟨s2,e2⟩:∃ x,Sh.part ms f (kid kids 0) 7 s1=x:=⟨_,rfl⟩;have m2:s1.bs.length<=s2.bs.length:=by rw [<- e2];exact Sh.part_mono hP.grows _ _ _
 have E:Sh.unary ms f dig ⟨⟨#[110,101,103]⟩,line,col,name,num,kids⟩ s=s2:=by rw [<- e2,<- e1];kernel_rfl
 rw [E] at hl ⊢;have HP:=Lib.hid hP;have HW:=Lib.hid hW;have H0:=Lib.hid h0;have E1:=Lib.hid e1;have E2:=Lib.hid e2;have HK:=Lib.hid hk;clear hP hW h0 he hp ho E e1 e2 hk;unfold nval
 go_enter Tryz.func75,Tryz.ntmps75
 go_upto_region 1 with fail
 rw [HW.out];have c0:=H0.out.c0;simp only at c0
 go_wp2_with fail
 refine (toks1 c _ s _ H0.out.tk.pr (by rw [E1.out];omega)).mono ?_;rintro e w1 ⟨rfl,q⟩;have H1:=Lib.hid (H0.out.step (E1.out ▸ q));clear q c0  H0;have c5:=H1.out.c5;have kk:=H1.out.kid rfl (j:=0) (by show _<kids.length;rw [HK.out];decide);simp only at c5 kk;rw [HK.out] at c5
 go_wp2_with fail
 refine (HP.out.part 0 (by show _<kids.length;rw [HK.out];decide) 7 s1 _ H1.out.en H1.out.tk.pr (by rw [E2.out];omega)).mono ?_;rintro e w2 ⟨rfl,q⟩;have H2:=Lib.hid (H1.out.step (E2.out ▸ q));clear q c5 kk H1
 go_wp2
 go_end0
 exact ⟨rfl,H2.out.tk⟩
theorem unary_not (c:Pc)(bt:Nat)(ao:Option Addr)(cap:Nat)(ms:List Nd)(f:Nd->Sh.St->Sh.St)(line col num:Int)(name:ByteArray)(kids:List Int)(s:Sh.St)(w:World)(ka:Option Addr)(kc:Nat)
  (hP:PartsC c bt ao cap ms f ⟨⟨#[110,111,116]⟩,line,col,name,num,kids⟩) (he:En c bt ao cap ms w) (hp:Pr c w s) (ho:w.ownsRow 0 3 1 (.slice ka kids.length kc) kids.length (ints kids)) (hk:kids.length=1)
  (hl:(Sh.unary ms f dig ⟨⟨#[110,111,116]⟩,line,col,name,num,kids⟩ s).bs.length<=1000000000):
  Calls Tryz.prog 75 #[.pointer (some ⟨c.bp,0,none⟩),nval ⟨⟨#[110,111,116]⟩,line,col,name,num,kids⟩ ka kc] w (TksP c w (Sh.unary ms f dig ⟨⟨#[110,111,116]⟩,line,col,name,num,kids⟩ s)):=by
 have h0:=Nx.start (n:=⟨⟨#[110,111,116]⟩,line,col,name,num,kids⟩) he hp ho;obtain ⟨W,hW⟩:∃ W,w.alloc (.cells #[.string ⟨#[110,111,116]⟩,.int .i64 line,.int .i64 col,.string name,.int .i64 num,.slice ka kids.length kc] 30)=W:=⟨_,rfl⟩;simp only at h0;rw [hW] at h0;obtain ⟨g,rfl⟩:=h0.some (by show 0<kids.length;omega);obtain ⟨s1,e1⟩:∃ x,Sh.tok s ⟨#[110,111,116]⟩=x:=⟨_,rfl⟩;have m1:s.bs.length<=s1.bs.length:=by rw [<- e1];exact Sh.tok_mono _ _
 obtain ⟨s2,e2⟩:∃ x,Sh.part ms f (kid kids 0) 7 s1=x:=⟨_,rfl⟩;have m2:s1.bs.length<=s2.bs.length:=by rw [<- e2];exact Sh.part_mono hP.grows _ _ _
 have E:Sh.unary ms f dig ⟨⟨#[110,111,116]⟩,line,col,name,num,kids⟩ s=s2:=by rw [<- e2,<- e1];kernel_rfl
 rw [E] at hl ⊢;have HP:=Lib.hid hP;have HW:=Lib.hid hW;have H0:=Lib.hid h0;have E1:=Lib.hid e1;have E2:=Lib.hid e2;have HK:=Lib.hid hk;clear hP hW h0 he hp ho E e1 e2 hk;unfold nval
 go_enter Tryz.func75,Tryz.ntmps75
 go_upto_region 1 with fail
 rw [HW.out];have c0:=H0.out.c0;simp only at c0
 go_wp2_with fail
 refine (toks1 c _ s _ H0.out.tk.pr (by rw [E1.out];omega)).mono ?_;rintro e w1 ⟨rfl,q⟩;have H1:=Lib.hid (H0.out.step (E1.out ▸ q));clear q c0  H0;have c5:=H1.out.c5;have kk:=H1.out.kid rfl (j:=0) (by show _<kids.length;rw [HK.out];decide);simp only at c5 kk;rw [HK.out] at c5
 go_wp2_with fail
 refine (HP.out.part 0 (by show _<kids.length;rw [HK.out];decide) 7 s1 _ H1.out.en H1.out.tk.pr (by rw [E2.out];omega)).mono ?_;rintro e w2 ⟨rfl,q⟩;have H2:=Lib.hid (H1.out.step (E2.out ▸ q));clear q c5 kk H1
 go_wp2
 go_end0
 exact ⟨rfl,H2.out.tk⟩
theorem unary_fst (c:Pc)(bt:Nat)(ao:Option Addr)(cap:Nat)(ms:List Nd)(f:Nd->Sh.St->Sh.St)(line col num:Int)(name:ByteArray)(kids:List Int)(s:Sh.St)(w:World)(ka:Option Addr)(kc:Nat)
  (hP:PartsC c bt ao cap ms f ⟨⟨#[102,115,116]⟩,line,col,name,num,kids⟩) (he:En c bt ao cap ms w) (hp:Pr c w s) (ho:w.ownsRow 0 3 1 (.slice ka kids.length kc) kids.length (ints kids)) (hk:kids.length=1)
  (hl:(Sh.unary ms f dig ⟨⟨#[102,115,116]⟩,line,col,name,num,kids⟩ s).bs.length<=1000000000):
  Calls Tryz.prog 75 #[.pointer (some ⟨c.bp,0,none⟩),nval ⟨⟨#[102,115,116]⟩,line,col,name,num,kids⟩ ka kc] w (TksP c w (Sh.unary ms f dig ⟨⟨#[102,115,116]⟩,line,col,name,num,kids⟩ s)):=by
 have h0:=Nx.start (n:=⟨⟨#[102,115,116]⟩,line,col,name,num,kids⟩) he hp ho;obtain ⟨W,hW⟩:∃ W,w.alloc (.cells #[.string ⟨#[102,115,116]⟩,.int .i64 line,.int .i64 col,.string name,.int .i64 num,.slice ka kids.length kc] 30)=W:=⟨_,rfl⟩;simp only at h0;rw [hW] at h0;obtain ⟨g,rfl⟩:=h0.some (by show 0<kids.length;omega);obtain ⟨s1,e1⟩:∃ x,Sh.tok s ⟨#[102,115,116]⟩=x:=⟨_,rfl⟩;have m1:s.bs.length<=s1.bs.length:=by rw [<- e1];exact Sh.tok_mono _ _
 obtain ⟨s2,e2⟩:∃ x,Sh.part ms f (kid kids 0) 7 s1=x:=⟨_,rfl⟩;have m2:s1.bs.length<=s2.bs.length:=by rw [<- e2];exact Sh.part_mono hP.grows _ _ _
 have E:Sh.unary ms f dig ⟨⟨#[102,115,116]⟩,line,col,name,num,kids⟩ s=s2:=by rw [<- e2,<- e1];kernel_rfl
 rw [E] at hl ⊢;have HP:=Lib.hid hP;have HW:=Lib.hid hW;have H0:=Lib.hid h0;have E1:=Lib.hid e1;have E2:=Lib.hid e2;have HK:=Lib.hid hk;clear hP hW h0 he hp ho E e1 e2 hk;unfold nval
 go_enter Tryz.func75,Tryz.ntmps75
 go_upto_region 1 with fail
 rw [HW.out];have c0:=H0.out.c0;simp only at c0
 go_wp2_with fail
 refine (toks1 c _ s _ H0.out.tk.pr (by rw [E1.out];omega)).mono ?_;rintro e w1 ⟨rfl,q⟩;have H1:=Lib.hid (H0.out.step (E1.out ▸ q));clear q c0  H0;have c5:=H1.out.c5;have kk:=H1.out.kid rfl (j:=0) (by show _<kids.length;rw [HK.out];decide);simp only at c5 kk;rw [HK.out] at c5
 go_wp2_with fail
 refine (HP.out.part 0 (by show _<kids.length;rw [HK.out];decide) 7 s1 _ H1.out.en H1.out.tk.pr (by rw [E2.out];omega)).mono ?_;rintro e w2 ⟨rfl,q⟩;have H2:=Lib.hid (H1.out.step (E2.out ▸ q));clear q c5 kk H1
 go_wp2
 go_end0
 exact ⟨rfl,H2.out.tk⟩
theorem unary_snd (c:Pc)(bt:Nat)(ao:Option Addr)(cap:Nat)(ms:List Nd)(f:Nd->Sh.St->Sh.St)(line col num:Int)(name:ByteArray)(kids:List Int)(s:Sh.St)(w:World)(ka:Option Addr)(kc:Nat)
  (hP:PartsC c bt ao cap ms f ⟨⟨#[115,110,100]⟩,line,col,name,num,kids⟩) (he:En c bt ao cap ms w) (hp:Pr c w s) (ho:w.ownsRow 0 3 1 (.slice ka kids.length kc) kids.length (ints kids)) (hk:kids.length=1)
  (hl:(Sh.unary ms f dig ⟨⟨#[115,110,100]⟩,line,col,name,num,kids⟩ s).bs.length<=1000000000):
  Calls Tryz.prog 75 #[.pointer (some ⟨c.bp,0,none⟩),nval ⟨⟨#[115,110,100]⟩,line,col,name,num,kids⟩ ka kc] w (TksP c w (Sh.unary ms f dig ⟨⟨#[115,110,100]⟩,line,col,name,num,kids⟩ s)):=by
 have h0:=Nx.start (n:=⟨⟨#[115,110,100]⟩,line,col,name,num,kids⟩) he hp ho;obtain ⟨W,hW⟩:∃ W,w.alloc (.cells #[.string ⟨#[115,110,100]⟩,.int .i64 line,.int .i64 col,.string name,.int .i64 num,.slice ka kids.length kc] 30)=W:=⟨_,rfl⟩;simp only at h0;rw [hW] at h0;obtain ⟨g,rfl⟩:=h0.some (by show 0<kids.length;omega);obtain ⟨s1,e1⟩:∃ x,Sh.tok s ⟨#[115,110,100]⟩=x:=⟨_,rfl⟩;have m1:s.bs.length<=s1.bs.length:=by rw [<- e1];exact Sh.tok_mono _ _
 obtain ⟨s2,e2⟩:∃ x,Sh.part ms f (kid kids 0) 7 s1=x:=⟨_,rfl⟩;have m2:s1.bs.length<=s2.bs.length:=by rw [<- e2];exact Sh.part_mono hP.grows _ _ _
 have E:Sh.unary ms f dig ⟨⟨#[115,110,100]⟩,line,col,name,num,kids⟩ s=s2:=by rw [<- e2,<- e1];kernel_rfl
 rw [E] at hl ⊢;have HP:=Lib.hid hP;have HW:=Lib.hid hW;have H0:=Lib.hid h0;have E1:=Lib.hid e1;have E2:=Lib.hid e2;have HK:=Lib.hid hk;clear hP hW h0 he hp ho E e1 e2 hk;unfold nval
 go_enter Tryz.func75,Tryz.ntmps75
 go_upto_region 1 with fail
 rw [HW.out];have c0:=H0.out.c0;simp only at c0
 go_wp2_with fail
 refine (toks1 c _ s _ H0.out.tk.pr (by rw [E1.out];omega)).mono ?_;rintro e w1 ⟨rfl,q⟩;have H1:=Lib.hid (H0.out.step (E1.out ▸ q));clear q c0  H0;have c5:=H1.out.c5;have kk:=H1.out.kid rfl (j:=0) (by show _<kids.length;rw [HK.out];decide);simp only at c5 kk;rw [HK.out] at c5
 go_wp2_with fail
 refine (HP.out.part 0 (by show _<kids.length;rw [HK.out];decide) 7 s1 _ H1.out.en H1.out.tk.pr (by rw [E2.out];omega)).mono ?_;rintro e w2 ⟨rfl,q⟩;have H2:=Lib.hid (H1.out.step (E2.out ▸ q));clear q c5 kk H1
 go_wp2
 go_end0
 exact ⟨rfl,H2.out.tk⟩
theorem unary_get (c:Pc)(bt:Nat)(ao:Option Addr)(cap:Nat)(ms:List Nd)(f:Nd->Sh.St->Sh.St)(line col num:Int)(name:ByteArray)(kids:List Int)(s:Sh.St)(w:World)(ka:Option Addr)(kc:Nat)
  (hP:PartsC c bt ao cap ms f ⟨⟨#[103,101,116]⟩,line,col,name,num,kids⟩) (he:En c bt ao cap ms w) (hp:Pr c w s) (ho:w.ownsRow 0 3 1 (.slice ka kids.length kc) kids.length (ints kids))
  (hl:(Sh.unary ms f dig ⟨⟨#[103,101,116]⟩,line,col,name,num,kids⟩ s).bs.length<=1000000000):
  Calls Tryz.prog 75 #[.pointer (some ⟨c.bp,0,none⟩),nval ⟨⟨#[103,101,116]⟩,line,col,name,num,kids⟩ ka kc] w (TksP c w (Sh.unary ms f dig ⟨⟨#[103,101,116]⟩,line,col,name,num,kids⟩ s)):=by
 have h0:=Nx.start (n:=⟨⟨#[103,101,116]⟩,line,col,name,num,kids⟩) he hp ho;obtain ⟨W,hW⟩:∃ W,w.alloc (.cells #[.string ⟨#[103,101,116]⟩,.int .i64 line,.int .i64 col,.string name,.int .i64 num,.slice ka kids.length kc] 30)=W:=⟨_,rfl⟩;simp only at h0;rw [hW] at h0;obtain ⟨s1,e1⟩:∃ x,Sh.tokens s [⟨#[33]⟩,name]=x:=⟨_,rfl⟩;have m1:s.bs.length<=s1.bs.length:=by rw [<- e1];exact Sh.tokens_le _ _
 have E:Sh.unary ms f dig ⟨⟨#[103,101,116]⟩,line,col,name,num,kids⟩ s=s1:=by rw [<- e1];kernel_rfl
 rw [E] at hl ⊢;have HP:=Lib.hid hP;have HW:=Lib.hid hW;have H0:=Lib.hid h0;have E1:=Lib.hid e1;clear hP hW h0 he hp ho E e1;unfold nval
 go_enter Tryz.func75,Tryz.ntmps75
 go_upto_region 1 with fail
 rw [HW.out];have c0:=H0.out.c0;simp only at c0;have c3:=H0.out.c3;simp only at c3
 go_wp2_with fail
 refine (toks2 c _ s _ _ H0.out.tk.pr (by rw [E1.out];omega)).mono ?_;rintro e w1 ⟨rfl,q⟩;have H1:=Lib.hid (H0.out.step (E1.out ▸ q));clear q c0 c3 H0
 go_wp2
 go_end0
 exact ⟨rfl,H1.out.tk⟩
theorem unary_true (c:Pc)(bt:Nat)(ao:Option Addr)(cap:Nat)(ms:List Nd)(f:Nd->Sh.St->Sh.St)(line col num:Int)(name:ByteArray)(kids:List Int)(s:Sh.St)(w:World)(ka:Option Addr)(kc:Nat)
  (hP:PartsC c bt ao cap ms f ⟨⟨#[116,114,117,101]⟩,line,col,name,num,kids⟩) (he:En c bt ao cap ms w) (hp:Pr c w s) (ho:w.ownsRow 0 3 1 (.slice ka kids.length kc) kids.length (ints kids))
  (hl:(Sh.unary ms f dig ⟨⟨#[116,114,117,101]⟩,line,col,name,num,kids⟩ s).bs.length<=1000000000):
  Calls Tryz.prog 75 #[.pointer (some ⟨c.bp,0,none⟩),nval ⟨⟨#[116,114,117,101]⟩,line,col,name,num,kids⟩ ka kc] w (TksP c w (Sh.unary ms f dig ⟨⟨#[116,114,117,101]⟩,line,col,name,num,kids⟩ s)):=by
 have h0:=Nx.start (n:=⟨⟨#[116,114,117,101]⟩,line,col,name,num,kids⟩) he hp ho;obtain ⟨W,hW⟩:∃ W,w.alloc (.cells #[.string ⟨#[116,114,117,101]⟩,.int .i64 line,.int .i64 col,.string name,.int .i64 num,.slice ka kids.length kc] 30)=W:=⟨_,rfl⟩;simp only at h0;rw [hW] at h0;obtain ⟨s1,e1⟩:∃ x,Sh.tok s ⟨#[116,114,117,101]⟩=x:=⟨_,rfl⟩;have m1:s.bs.length<=s1.bs.length:=by rw [<- e1];exact Sh.tok_mono _ _
 have E:Sh.unary ms f dig ⟨⟨#[116,114,117,101]⟩,line,col,name,num,kids⟩ s=s1:=by rw [<- e1];kernel_rfl
 rw [E] at hl ⊢;have HP:=Lib.hid hP;have HW:=Lib.hid hW;have H0:=Lib.hid h0;have E1:=Lib.hid e1;clear hP hW h0 he hp ho E e1;unfold nval
 go_enter Tryz.func75,Tryz.ntmps75
 go_upto_region 1 with fail
 rw [HW.out];have c0:=H0.out.c0;simp only at c0
 go_wp2_with fail
 refine (toks1 c _ s _ H0.out.tk.pr (by rw [E1.out];omega)).mono ?_;rintro e w1 ⟨rfl,q⟩;have H1:=Lib.hid (H0.out.step (E1.out ▸ q));clear q c0  H0
 go_wp2
 go_end0
 exact ⟨rfl,H1.out.tk⟩
theorem unary_false (c:Pc)(bt:Nat)(ao:Option Addr)(cap:Nat)(ms:List Nd)(f:Nd->Sh.St->Sh.St)(line col num:Int)(name:ByteArray)(kids:List Int)(s:Sh.St)(w:World)(ka:Option Addr)(kc:Nat)
  (hP:PartsC c bt ao cap ms f ⟨⟨#[102,97,108,115,101]⟩,line,col,name,num,kids⟩) (he:En c bt ao cap ms w) (hp:Pr c w s) (ho:w.ownsRow 0 3 1 (.slice ka kids.length kc) kids.length (ints kids))
  (hl:(Sh.unary ms f dig ⟨⟨#[102,97,108,115,101]⟩,line,col,name,num,kids⟩ s).bs.length<=1000000000):
  Calls Tryz.prog 75 #[.pointer (some ⟨c.bp,0,none⟩),nval ⟨⟨#[102,97,108,115,101]⟩,line,col,name,num,kids⟩ ka kc] w (TksP c w (Sh.unary ms f dig ⟨⟨#[102,97,108,115,101]⟩,line,col,name,num,kids⟩ s)):=by
 have h0:=Nx.start (n:=⟨⟨#[102,97,108,115,101]⟩,line,col,name,num,kids⟩) he hp ho;obtain ⟨W,hW⟩:∃ W,w.alloc (.cells #[.string ⟨#[102,97,108,115,101]⟩,.int .i64 line,.int .i64 col,.string name,.int .i64 num,.slice ka kids.length kc] 30)=W:=⟨_,rfl⟩;simp only at h0;rw [hW] at h0;obtain ⟨s1,e1⟩:∃ x,Sh.tok s ⟨#[102,97,108,115,101]⟩=x:=⟨_,rfl⟩;have m1:s.bs.length<=s1.bs.length:=by rw [<- e1];exact Sh.tok_mono _ _
 have E:Sh.unary ms f dig ⟨⟨#[102,97,108,115,101]⟩,line,col,name,num,kids⟩ s=s1:=by rw [<- e1];kernel_rfl
 rw [E] at hl ⊢;have HP:=Lib.hid hP;have HW:=Lib.hid hW;have H0:=Lib.hid h0;have E1:=Lib.hid e1;clear hP hW h0 he hp ho E e1;unfold nval
 go_enter Tryz.func75,Tryz.ntmps75
 go_upto_region 1 with fail
 rw [HW.out];have c0:=H0.out.c0;simp only at c0
 go_wp2_with fail
 refine (toks1 c _ s _ H0.out.tk.pr (by rw [E1.out];omega)).mono ?_;rintro e w1 ⟨rfl,q⟩;have H1:=Lib.hid (H0.out.step (E1.out ▸ q));clear q c0  H0
 go_wp2
 go_end0
 exact ⟨rfl,H1.out.tk⟩
theorem unary_hole (c:Pc)(bt:Nat)(ao:Option Addr)(cap:Nat)(ms:List Nd)(f:Nd->Sh.St->Sh.St)(line col num:Int)(name:ByteArray)(kids:List Int)(s:Sh.St)(w:World)(ka:Option Addr)(kc:Nat)
  (hP:PartsC c bt ao cap ms f ⟨⟨#[104,111,108,101]⟩,line,col,name,num,kids⟩) (he:En c bt ao cap ms w) (hp:Pr c w s) (ho:w.ownsRow 0 3 1 (.slice ka kids.length kc) kids.length (ints kids))
  (hl:(Sh.unary ms f dig ⟨⟨#[104,111,108,101]⟩,line,col,name,num,kids⟩ s).bs.length<=1000000000):
  Calls Tryz.prog 75 #[.pointer (some ⟨c.bp,0,none⟩),nval ⟨⟨#[104,111,108,101]⟩,line,col,name,num,kids⟩ ka kc] w (TksP c w (Sh.unary ms f dig ⟨⟨#[104,111,108,101]⟩,line,col,name,num,kids⟩ s)):=by
 have h0:=Nx.start (n:=⟨⟨#[104,111,108,101]⟩,line,col,name,num,kids⟩) he hp ho;obtain ⟨W,hW⟩:∃ W,w.alloc (.cells #[.string ⟨#[104,111,108,101]⟩,.int .i64 line,.int .i64 col,.string name,.int .i64 num,.slice ka kids.length kc] 30)=W:=⟨_,rfl⟩;simp only at h0;rw [hW] at h0;obtain ⟨s1,e1⟩:∃ x,Sh.tokens s [⟨#[104,111,108,101]⟩,name]=x:=⟨_,rfl⟩;have m1:s.bs.length<=s1.bs.length:=by rw [<- e1];exact Sh.tokens_le _ _
 have E:Sh.unary ms f dig ⟨⟨#[104,111,108,101]⟩,line,col,name,num,kids⟩ s=s1:=by rw [<- e1];kernel_rfl
 rw [E] at hl ⊢;have HP:=Lib.hid hP;have HW:=Lib.hid hW;have H0:=Lib.hid h0;have E1:=Lib.hid e1;clear hP hW h0 he hp ho E e1;unfold nval
 go_enter Tryz.func75,Tryz.ntmps75
 go_upto_region 1 with fail
 rw [HW.out];have c0:=H0.out.c0;simp only at c0;have c3:=H0.out.c3;simp only at c3
 go_wp2_with fail
 refine (toks2 c _ s _ _ H0.out.tk.pr (by rw [E1.out];omega)).mono ?_;rintro e w1 ⟨rfl,q⟩;have H1:=Lib.hid (H0.out.step (E1.out ▸ q));clear q c0 c3 H0
 go_wp2
 go_end0
 exact ⟨rfl,H1.out.tk⟩
theorem unary_release (c:Pc)(bt:Nat)(ao:Option Addr)(cap:Nat)(ms:List Nd)(f:Nd->Sh.St->Sh.St)(line col num:Int)(name:ByteArray)(kids:List Int)(s:Sh.St)(w:World)(ka:Option Addr)(kc:Nat)
  (hP:PartsC c bt ao cap ms f ⟨⟨#[114,101,108,101,97,115,101]⟩,line,col,name,num,kids⟩) (he:En c bt ao cap ms w) (hp:Pr c w s) (ho:w.ownsRow 0 3 1 (.slice ka kids.length kc) kids.length (ints kids))
  (hl:(Sh.unary ms f dig ⟨⟨#[114,101,108,101,97,115,101]⟩,line,col,name,num,kids⟩ s).bs.length<=1000000000):
  Calls Tryz.prog 75 #[.pointer (some ⟨c.bp,0,none⟩),nval ⟨⟨#[114,101,108,101,97,115,101]⟩,line,col,name,num,kids⟩ ka kc] w (TksP c w (Sh.unary ms f dig ⟨⟨#[114,101,108,101,97,115,101]⟩,line,col,name,num,kids⟩ s)):=by
 have h0:=Nx.start (n:=⟨⟨#[114,101,108,101,97,115,101]⟩,line,col,name,num,kids⟩) he hp ho;obtain ⟨W,hW⟩:∃ W,w.alloc (.cells #[.string ⟨#[114,101,108,101,97,115,101]⟩,.int .i64 line,.int .i64 col,.string name,.int .i64 num,.slice ka kids.length kc] 30)=W:=⟨_,rfl⟩;simp only at h0;rw [hW] at h0;obtain ⟨s1,e1⟩:∃ x,Sh.tokens s [⟨#[114,101,108,101,97,115,101]⟩,name]=x:=⟨_,rfl⟩;have m1:s.bs.length<=s1.bs.length:=by rw [<- e1];exact Sh.tokens_le _ _
 obtain ⟨s2,e2⟩:∃ x,Sh.list ms f kids s1=x:=⟨_,rfl⟩;have m2:s1.bs.length<=s2.bs.length:=by rw [<- e2];exact Sh.list_mono hP.grows _ _
 have E:Sh.unary ms f dig ⟨⟨#[114,101,108,101,97,115,101]⟩,line,col,name,num,kids⟩ s=s2:=by rw [<- e2,<- e1];kernel_rfl
 rw [E] at hl ⊢;have HP:=Lib.hid hP;have HW:=Lib.hid hW;have H0:=Lib.hid h0;have E1:=Lib.hid e1;have E2:=Lib.hid e2;clear hP hW h0 he hp ho E e1 e2;unfold nval
 go_enter Tryz.func75,Tryz.ntmps75
 go_upto_region 1 with fail
 rw [HW.out];have c0:=H0.out.c0;simp only at c0;have c3:=H0.out.c3;simp only at c3
 go_wp2_with fail
 refine (toks2 c _ s _ _ H0.out.tk.pr (by rw [E1.out];omega)).mono ?_;rintro e w1 ⟨rfl,q⟩;have H1:=Lib.hid (H0.out.step (E1.out ▸ q));clear q c0 c3 H0;have c5:=H1.out.c5;simp only at c5
 go_wp2_with fail
 refine (list_any c bt ao cap ms f ⟨⟨#[114,101,108,101,97,115,101]⟩,line,col,name,num,kids⟩ s1 _ ka kc HP.out H1.out.en H1.out.tk.pr H1.out.own (by rw [E2.out];omega)).mono ?_;rintro e w2 ⟨rfl,q⟩;have H2:=Lib.hid (H1.out.step (E2.out ▸ q));clear q c5 H1
 go_wp2
 go_end0
 exact ⟨rfl,H2.out.tk⟩
theorem unary_unit (c:Pc)(bt:Nat)(ao:Option Addr)(cap:Nat)(ms:List Nd)(f:Nd->Sh.St->Sh.St)(line col num:Int)(name:ByteArray)(kids:List Int)(s:Sh.St)(w:World)(ka:Option Addr)(kc:Nat)
  (hP:PartsC c bt ao cap ms f ⟨⟨#[117,110,105,116]⟩,line,col,name,num,kids⟩) (he:En c bt ao cap ms w) (hp:Pr c w s) (ho:w.ownsRow 0 3 1 (.slice ka kids.length kc) kids.length (ints kids))
  (hl:(Sh.unary ms f dig ⟨⟨#[117,110,105,116]⟩,line,col,name,num,kids⟩ s).bs.length<=1000000000):
  Calls Tryz.prog 75 #[.pointer (some ⟨c.bp,0,none⟩),nval ⟨⟨#[117,110,105,116]⟩,line,col,name,num,kids⟩ ka kc] w (TksP c w (Sh.unary ms f dig ⟨⟨#[117,110,105,116]⟩,line,col,name,num,kids⟩ s)):=by
 have h0:=Nx.start (n:=⟨⟨#[117,110,105,116]⟩,line,col,name,num,kids⟩) he hp ho;obtain ⟨W,hW⟩:∃ W,w.alloc (.cells #[.string ⟨#[117,110,105,116]⟩,.int .i64 line,.int .i64 col,.string name,.int .i64 num,.slice ka kids.length kc] 30)=W:=⟨_,rfl⟩;simp only at h0;rw [hW] at h0;obtain ⟨s1,e1⟩:∃ x,Sh.list ms f kids s=x:=⟨_,rfl⟩;have m1:s.bs.length<=s1.bs.length:=by rw [<- e1];exact Sh.list_mono hP.grows _ _
 have E:Sh.unary ms f dig ⟨⟨#[117,110,105,116]⟩,line,col,name,num,kids⟩ s=s1:=by rw [<- e1];kernel_rfl
 rw [E] at hl ⊢;have HP:=Lib.hid hP;have HW:=Lib.hid hW;have H0:=Lib.hid h0;have E1:=Lib.hid e1;clear hP hW h0 he hp ho E e1;unfold nval
 go_enter Tryz.func75,Tryz.ntmps75
 go_upto_region 1 with fail
 rw [HW.out];have c0:=H0.out.c0;simp only at c0;have c5:=H0.out.c5;simp only at c5
 go_wp2_with fail
 refine (list_any c bt ao cap ms f ⟨⟨#[117,110,105,116]⟩,line,col,name,num,kids⟩ s _ ka kc HP.out H0.out.en H0.out.tk.pr H0.out.own (by rw [E1.out];omega)).mono ?_;rintro e w1 ⟨rfl,q⟩;have H1:=Lib.hid (H0.out.step (E1.out ▸ q));clear q c0 c5 H0
 go_wp2
 go_end0
 exact ⟨rfl,H1.out.tk⟩
theorem unary_pair (c:Pc)(bt:Nat)(ao:Option Addr)(cap:Nat)(ms:List Nd)(f:Nd->Sh.St->Sh.St)(line col num:Int)(name:ByteArray)(kids:List Int)(s:Sh.St)(w:World)(ka:Option Addr)(kc:Nat)
  (hP:PartsC c bt ao cap ms f ⟨⟨#[112,97,105,114]⟩,line,col,name,num,kids⟩) (he:En c bt ao cap ms w) (hp:Pr c w s) (ho:w.ownsRow 0 3 1 (.slice ka kids.length kc) kids.length (ints kids))
  (hl:(Sh.unary ms f dig ⟨⟨#[112,97,105,114]⟩,line,col,name,num,kids⟩ s).bs.length<=1000000000):
  Calls Tryz.prog 75 #[.pointer (some ⟨c.bp,0,none⟩),nval ⟨⟨#[112,97,105,114]⟩,line,col,name,num,kids⟩ ka kc] w (TksP c w (Sh.unary ms f dig ⟨⟨#[112,97,105,114]⟩,line,col,name,num,kids⟩ s)):=by
 have h0:=Nx.start (n:=⟨⟨#[112,97,105,114]⟩,line,col,name,num,kids⟩) he hp ho;obtain ⟨W,hW⟩:∃ W,w.alloc (.cells #[.string ⟨#[112,97,105,114]⟩,.int .i64 line,.int .i64 col,.string name,.int .i64 num,.slice ka kids.length kc] 30)=W:=⟨_,rfl⟩;simp only at h0;rw [hW] at h0;obtain ⟨s1,e1⟩:∃ x,Sh.list ms f kids s=x:=⟨_,rfl⟩;have m1:s.bs.length<=s1.bs.length:=by rw [<- e1];exact Sh.list_mono hP.grows _ _
 have E:Sh.unary ms f dig ⟨⟨#[112,97,105,114]⟩,line,col,name,num,kids⟩ s=s1:=by rw [<- e1];kernel_rfl
 rw [E] at hl ⊢;have HP:=Lib.hid hP;have HW:=Lib.hid hW;have H0:=Lib.hid h0;have E1:=Lib.hid e1;clear hP hW h0 he hp ho E e1;unfold nval
 go_enter Tryz.func75,Tryz.ntmps75
 go_upto_region 1 with fail
 rw [HW.out];have c0:=H0.out.c0;simp only at c0;have c5:=H0.out.c5;simp only at c5
 go_wp2_with fail
 refine (list_any c bt ao cap ms f ⟨⟨#[112,97,105,114]⟩,line,col,name,num,kids⟩ s _ ka kc HP.out H0.out.en H0.out.tk.pr H0.out.own (by rw [E1.out];omega)).mono ?_;rintro e w1 ⟨rfl,q⟩;have H1:=Lib.hid (H0.out.step (E1.out ▸ q));clear q c0 c5 H0
 go_wp2
 go_end0
 exact ⟨rfl,H1.out.tk⟩
theorem unary_int (c:Pc)(bt:Nat)(ao:Option Addr)(cap:Nat)(ms:List Nd)(f:Nd->Sh.St->Sh.St)(line col num:Int)(name:ByteArray)(kids:List Int)(s:Sh.St)(w:World)(ka:Option Addr)(kc:Nat)
  (hP:PartsC c bt ao cap ms f ⟨⟨#[105,110,116]⟩,line,col,name,num,kids⟩) (he:En c bt ao cap ms w) (hp:Pr c w s) (ho:w.ownsRow 0 3 1 (.slice ka kids.length kc) kids.length (ints kids)) (hn0 : -9223372036854775808<=num) (hn1:num<=9223372036854775807)
  (hl:(Sh.unary ms f dig ⟨⟨#[105,110,116]⟩,line,col,name,num,kids⟩ s).bs.length<=1000000000):
  Calls Tryz.prog 75 #[.pointer (some ⟨c.bp,0,none⟩),nval ⟨⟨#[105,110,116]⟩,line,col,name,num,kids⟩ ka kc] w (TksP c w (Sh.unary ms f dig ⟨⟨#[105,110,116]⟩,line,col,name,num,kids⟩ s)):=by
 have h0:=Nx.start (n:=⟨⟨#[105,110,116]⟩,line,col,name,num,kids⟩) he hp ho;obtain ⟨W,hW⟩:∃ W,w.alloc (.cells #[.string ⟨#[105,110,116]⟩,.int .i64 line,.int .i64 col,.string name,.int .i64 num,.slice ka kids.length kc] 30)=W:=⟨_,rfl⟩;simp only at h0;rw [hW] at h0;obtain ⟨s1,e1⟩:∃ x,Sh.tok s (dig num)=x:=⟨_,rfl⟩;have m1:s.bs.length<=s1.bs.length:=by rw [<- e1];exact Sh.tok_mono _ _
 have E:Sh.unary ms f dig ⟨⟨#[105,110,116]⟩,line,col,name,num,kids⟩ s=s1:=by rw [<- e1];kernel_rfl
 rw [E] at hl ⊢;have HP:=Lib.hid hP;have HW:=Lib.hid hW;have H0:=Lib.hid h0;have E1:=Lib.hid e1;clear hP hW h0 he hp ho E e1;unfold nval
 go_enter Tryz.func75,Tryz.ntmps75
 go_upto_region 1 with fail
 rw [HW.out];have c0:=H0.out.c0;simp only at c0;have c4:=H0.out.c4;simp only at c4
 go_wp2_with fail
 refine (Tryz.strconv_FormatInt_10 num hn0 hn1 _ H0.out.en.tab).mono ?_;rintro e wf ⟨rfl,kf,os,rfl⟩;have HF:=Lib.hid (H0.out.below (below_grown _ kf os));clear c4 H0;generalize Sort.grow (World.drewN _ kf) os=wf at *
 go_wp2_with fail
 refine (toks1 c wf s (dig num) HF.out.tk.pr (by rw [E1.out];omega)).mono ?_;rintro e w1 ⟨rfl,q⟩;have H1:=Lib.hid (HF.out.step (E1.out ▸ q));clear q c0  HF
 go_wp2
 go_end0
 exact ⟨rfl,H1.out.tk⟩
theorem unary_var (c:Pc)(bt:Nat)(ao:Option Addr)(cap:Nat)(ms:List Nd)(f:Nd->Sh.St->Sh.St)(line col num:Int)(name:ByteArray)(kids:List Int)(s:Sh.St)(w:World)(ka:Option Addr)(kc:Nat)
  (hP:PartsC c bt ao cap ms f ⟨⟨#[118,97,114]⟩,line,col,name,num,kids⟩) (he:En c bt ao cap ms w) (hp:Pr c w s) (ho:w.ownsRow 0 3 1 (.slice ka kids.length kc) kids.length (ints kids))
  (hl:(Sh.unary ms f dig ⟨⟨#[118,97,114]⟩,line,col,name,num,kids⟩ s).bs.length<=1000000000):
  Calls Tryz.prog 75 #[.pointer (some ⟨c.bp,0,none⟩),nval ⟨⟨#[118,97,114]⟩,line,col,name,num,kids⟩ ka kc] w (TksP c w (Sh.unary ms f dig ⟨⟨#[118,97,114]⟩,line,col,name,num,kids⟩ s)):=by
 have h0:=Nx.start (n:=⟨⟨#[118,97,114]⟩,line,col,name,num,kids⟩) he hp ho;obtain ⟨W,hW⟩:∃ W,w.alloc (.cells #[.string ⟨#[118,97,114]⟩,.int .i64 line,.int .i64 col,.string name,.int .i64 num,.slice ka kids.length kc] 30)=W:=⟨_,rfl⟩;simp only at h0;rw [hW] at h0;obtain ⟨s1,e1⟩:∃ x,Sh.tok s name=x:=⟨_,rfl⟩;have m1:s.bs.length<=s1.bs.length:=by rw [<- e1];exact Sh.tok_mono _ _
 have E:Sh.unary ms f dig ⟨⟨#[118,97,114]⟩,line,col,name,num,kids⟩ s=s1:=by rw [<- e1];kernel_rfl
 rw [E] at hl ⊢;have HP:=Lib.hid hP;have HW:=Lib.hid hW;have H0:=Lib.hid h0;have E1:=Lib.hid e1;clear hP hW h0 he hp ho E e1;unfold nval
 go_enter Tryz.func75,Tryz.ntmps75
 go_upto_region 1 with fail
 rw [HW.out];have c0:=H0.out.c0;simp only at c0;have c3:=H0.out.c3;simp only at c3
 go_wp2_with fail
 refine (toks1 c _ s _ H0.out.tk.pr (by rw [E1.out];omega)).mono ?_;rintro e w1 ⟨rfl,q⟩;have H1:=Lib.hid (H0.out.step (E1.out ▸ q));clear q c0 c3 H0
 go_wp2
 go_end0
 exact ⟨rfl,H1.out.tk⟩
theorem unary_call (c:Pc)(bt:Nat)(ao:Option Addr)(cap:Nat)(ms:List Nd)(f:Nd->Sh.St->Sh.St)(line col num:Int)(name:ByteArray)(kids:List Int)(s:Sh.St)(w:World)(ka:Option Addr)(kc:Nat)
  (hP:PartsC c bt ao cap ms f ⟨⟨#[99,97,108,108]⟩,line,col,name,num,kids⟩) (he:En c bt ao cap ms w) (hp:Pr c w s) (ho:w.ownsRow 0 3 1 (.slice ka kids.length kc) kids.length (ints kids))
  (hl:(Sh.unary ms f dig ⟨⟨#[99,97,108,108]⟩,line,col,name,num,kids⟩ s).bs.length<=1000000000):
  Calls Tryz.prog 75 #[.pointer (some ⟨c.bp,0,none⟩),nval ⟨⟨#[99,97,108,108]⟩,line,col,name,num,kids⟩ ka kc] w (TksP c w (Sh.unary ms f dig ⟨⟨#[99,97,108,108]⟩,line,col,name,num,kids⟩ s)):=by
 have h0:=Nx.start (n:=⟨⟨#[99,97,108,108]⟩,line,col,name,num,kids⟩) he hp ho;obtain ⟨W,hW⟩:∃ W,w.alloc (.cells #[.string ⟨#[99,97,108,108]⟩,.int .i64 line,.int .i64 col,.string name,.int .i64 num,.slice ka kids.length kc] 30)=W:=⟨_,rfl⟩;simp only at h0;rw [hW] at h0;obtain ⟨s1,e1⟩:∃ x,Sh.tok s name=x:=⟨_,rfl⟩;have m1:s.bs.length<=s1.bs.length:=by rw [<- e1];exact Sh.tok_mono _ _
 obtain ⟨s2,e2⟩:∃ x,Sh.St.mk s1.bs true=x:=⟨_,rfl⟩;have m2:s1.bs.length<=s2.bs.length:=by rw [<- e2];exact Nat.le_refl _
 obtain ⟨s3,e3⟩:∃ x,Sh.list ms f kids s2=x:=⟨_,rfl⟩;have m3:s2.bs.length<=s3.bs.length:=by rw [<- e3];exact Sh.list_mono hP.grows _ _
 have E:Sh.unary ms f dig ⟨⟨#[99,97,108,108]⟩,line,col,name,num,kids⟩ s=s3:=by rw [<- e3,<- e2,<- e1];kernel_rfl
 rw [E] at hl ⊢;have HP:=Lib.hid hP;have HW:=Lib.hid hW;have H0:=Lib.hid h0;have E1:=Lib.hid e1;have E2:=Lib.hid e2;have E3:=Lib.hid e3;clear hP hW h0 he hp ho E e1 e2 e3;unfold nval
 go_enter Tryz.func75,Tryz.ntmps75
 go_upto_region 1 with fail
 rw [HW.out];have c0:=H0.out.c0;simp only at c0;have c3:=H0.out.c3;simp only at c3
 go_wp2_with fail
 refine (toks1 c _ s _ H0.out.tk.pr (by rw [E1.out];omega)).mono ?_;rintro e w1 ⟨rfl,q⟩;have H1:=Lib.hid (H0.out.step (E1.out ▸ q));clear q c0 c3 H0;have t3:=H1.out.tk.pr.tg;have f3:=H1.out.tk.pr.fz 3;have c5:=H1.out.c5;simp only at c5
 go_upto_region 30 with fail
 have H2:=Lib.hid (H1.out.step ((H1.out.refl).tight true));rw [E2.out] at H2;clear t3 f3 c5 H1;generalize World.setCell _ _ (Value.bool true)=w2 at *;have c5:=H2.out.c5;simp only at c5
 go_wp2_with fail
 refine (list_any c bt ao cap ms f ⟨⟨#[99,97,108,108]⟩,line,col,name,num,kids⟩ s2 _ ka kc HP.out H2.out.en H2.out.tk.pr H2.out.own (by rw [E3.out];omega)).mono ?_;rintro e w3 ⟨rfl,q⟩;have H3:=Lib.hid (H2.out.step (E3.out ▸ q));clear q c5 H2
 go_wp2
 go_end0
 exact ⟨rfl,H3.out.tk⟩
end Go.Proofs.YtninlbknklbofaaGreatDoor
