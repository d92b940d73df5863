/- A part of the proof: A part of the proof. -/
import Derived.Test.YtninlbknklbofaaGreatDoorListS
import Derived.Test.YtninlbknklbofaaGreatDoorUnaryS
import Derived.Test.YtninlbknklbofaaGreatDoorLFloat
set_option linter.unusedSimpArgs false
set_option linter.unusedVariables false
set_option maxRecDepth 100000
set_option maxHeartbeats 4000000
namespace Go.Proofs.YtninlbknklbofaaGreatDoor
section
open Go.RowKit Go.Shelf Tn
theorem item_let (c:Pc)(bt:Nat)(ao:Option Addr)(cap:Nat)(ms:List Nd)(f:Nd->Sh.St->Sh.St)(line col num:Int)(name:ByteArray)(kids:List Int)(s:Sh.St)(w:World)(ka:Option Addr)(kc:Nat)
  (hP:PartsC c bt ao cap ms f ⟨⟨#[108,101,116]⟩,line,col,name,num,kids⟩) (he:En c bt ao cap ms w) (hp:Pr c w s) (ho:w.ownsRow 0 3 1 (.slice ka kids.length kc) kids.length (ints kids)) (hk:kids.length=2)
  (hl:(Sh.item ms f ⟨⟨#[108,101,116]⟩,line,col,name,num,kids⟩ s).bs.length<=1000000000):
  Calls Tryz.prog 73 #[.pointer (some ⟨c.bp,0,none⟩),nval ⟨⟨#[108,101,116]⟩,line,col,name,num,kids⟩ ka kc] w (TksP c w (Sh.item ms f ⟨⟨#[108,101,116]⟩,line,col,name,num,kids⟩ s)):=by
 have h0:=Nx.start (n:=⟨⟨#[108,101,116]⟩,line,col,name,num,kids⟩) he hp ho;obtain ⟨W,hW⟩:∃ W,w.alloc (.cells #[.string ⟨#[108,101,116]⟩,.int .i64 line,.int .i64 col,.string name,.int .i64 num,.slice ka kids.length kc] 30)=W:=⟨_,rfl⟩;simp only at h0;rw [hW] at h0;obtain ⟨g,rfl⟩:=h0.some (by show 0<kids.length;omega);obtain ⟨s1,e1⟩:∃ x,Sh.tokens s [⟨#[108,101,116]⟩,name,⟨#[61]⟩]=x:=⟨_,rfl⟩;have m1:s.bs.length<=s1.bs.length:=by rw [<- e1];exact Sh.tokens_le _ _
 obtain ⟨s2,e2⟩:∃ x,Sh.part ms f (kid kids 0) 0 s1=x:=⟨_,rfl⟩;have m2:s1.bs.length<=s2.bs.length:=by rw [<- e2];exact Sh.part_mono hP.grows _ _ _
 obtain ⟨s3,e3⟩:∃ x,Sh.tok s2 ⟨#[105,110]⟩=x:=⟨_,rfl⟩;have m3:s2.bs.length<=s3.bs.length:=by rw [<- e3];exact Sh.tok_mono _ _
 obtain ⟨s4,e4⟩:∃ x,Sh.part ms f (kid kids 1) 0 s3=x:=⟨_,rfl⟩;have m4:s3.bs.length<=s4.bs.length:=by rw [<- e4];exact Sh.part_mono hP.grows _ _ _
 have E:Sh.item ms f ⟨⟨#[108,101,116]⟩,line,col,name,num,kids⟩ s=s4:=by rw [<- e4,<- e3,<- e2,<- e1];kernel_rfl
 rw [E] at hl ⊢;have HP:=Lib.hid hP;have HW:=Lib.hid hW;have H0:=Lib.hid h0;have E1:=Lib.hid e1;have E2:=Lib.hid e2;have E3:=Lib.hid e3;have E4:=Lib.hid e4;have HK:=Lib.hid hk;clear hP hW h0 he hp ho E e1 e2 e3 e4 hk;unfold nval
 go_enter Tryz.func73,Tryz.ntmps73
 go_upto_region 1 with fail
 rw [HW.out];have c0:=H0.out.c0;simp only at c0;have c3:=H0.out.c3;simp only at c3
 go_wp2_with fail
 refine (toks3 c _ s _ _ _ H0.out.tk.pr (by rw [E1.out];omega)).mono ?_;rintro e w1 ⟨rfl,q⟩;have H1:=Lib.hid (H0.out.step (E1.out ▸ q));clear q c0 c3 H0;have c5:=H1.out.c5;have kk:=H1.out.kid rfl (j:=0) (by show _<kids.length;rw [HK.out];decide);simp only at c5 kk;rw [HK.out] at c5
 go_wp2_with fail
 refine (HP.out.part 0 (by show _<kids.length;rw [HK.out];decide) 0 s1 _ H1.out.en H1.out.tk.pr (by rw [E2.out];omega)).mono ?_;rintro e w2 ⟨rfl,q⟩;have H2:=Lib.hid (H1.out.step (E2.out ▸ q));clear q c5 kk H1
 go_wp2_with fail
 refine (toks1 c _ s2 _ H2.out.tk.pr (by rw [E3.out];omega)).mono ?_;rintro e w3 ⟨rfl,q⟩;have H3:=Lib.hid (H2.out.step (E3.out ▸ q));clear q  H2;have c5:=H3.out.c5;have kk:=H3.out.kid rfl (j:=1) (by show _<kids.length;rw [HK.out];decide);simp only at c5 kk;rw [HK.out] at c5
 go_wp2_with fail
 refine (HP.out.part 1 (by show _<kids.length;rw [HK.out];decide) 0 s3 _ H3.out.en H3.out.tk.pr (by rw [E4.out];omega)).mono ?_;rintro e w4 ⟨rfl,q⟩;have H4:=Lib.hid (H3.out.step (E4.out ▸ q));clear q c5 kk H3
 go_wp2
 go_end0
 exact ⟨rfl,H4.out.tk⟩
theorem item_if (c:Pc)(bt:Nat)(ao:Option Addr)(cap:Nat)(ms:List Nd)(f:Nd->Sh.St->Sh.St)(line col num:Int)(name:ByteArray)(kids:List Int)(s:Sh.St)(w:World)(ka:Option Addr)(kc:Nat)
  (hP:PartsC c bt ao cap ms f ⟨⟨#[105,102]⟩,line,col,name,num,kids⟩) (he:En c bt ao cap ms w) (hp:Pr c w s) (ho:w.ownsRow 0 3 1 (.slice ka kids.length kc) kids.length (ints kids)) (hk:kids.length=3)
  (hl:(Sh.item ms f ⟨⟨#[105,102]⟩,line,col,name,num,kids⟩ s).bs.length<=1000000000):
  Calls Tryz.prog 73 #[.pointer (some ⟨c.bp,0,none⟩),nval ⟨⟨#[105,102]⟩,line,col,name,num,kids⟩ ka kc] w (TksP c w (Sh.item ms f ⟨⟨#[105,102]⟩,line,col,name,num,kids⟩ s)):=by
 have h0:=Nx.start (n:=⟨⟨#[105,102]⟩,line,col,name,num,kids⟩) he hp ho;obtain ⟨W,hW⟩:∃ W,w.alloc (.cells #[.string ⟨#[105,102]⟩,.int .i64 line,.int .i64 col,.string name,.int .i64 num,.slice ka kids.length kc] 30)=W:=⟨_,rfl⟩;simp only at h0;rw [hW] at h0;obtain ⟨g,rfl⟩:=h0.some (by show 0<kids.length;omega);obtain ⟨s1,e1⟩:∃ x,Sh.tok s ⟨#[105,102]⟩=x:=⟨_,rfl⟩;have m1:s.bs.length<=s1.bs.length:=by rw [<- e1];exact Sh.tok_mono _ _
 obtain ⟨s2,e2⟩:∃ x,Sh.part ms f (kid kids 0) 0 s1=x:=⟨_,rfl⟩;have m2:s1.bs.length<=s2.bs.length:=by rw [<- e2];exact Sh.part_mono hP.grows _ _ _
 obtain ⟨s3,e3⟩:∃ x,Sh.tok s2 ⟨#[116,104,101,110]⟩=x:=⟨_,rfl⟩;have m3:s2.bs.length<=s3.bs.length:=by rw [<- e3];exact Sh.tok_mono _ _
 obtain ⟨s4,e4⟩:∃ x,Sh.part ms f (kid kids 1) 1 s3=x:=⟨_,rfl⟩;have m4:s3.bs.length<=s4.bs.length:=by rw [<- e4];exact Sh.part_mono hP.grows _ _ _
 obtain ⟨s5,e5⟩:∃ x,Sh.tok s4 ⟨#[101,108,115,101]⟩=x:=⟨_,rfl⟩;have m5:s4.bs.length<=s5.bs.length:=by rw [<- e5];exact Sh.tok_mono _ _
 obtain ⟨s6,e6⟩:∃ x,Sh.part ms f (kid kids 2) 1 s5=x:=⟨_,rfl⟩;have m6:s5.bs.length<=s6.bs.length:=by rw [<- e6];exact Sh.part_mono hP.grows _ _ _
 have E:Sh.item ms f ⟨⟨#[105,102]⟩,line,col,name,num,kids⟩ s=s6:=by rw [<- e6,<- e5,<- e4,<- e3,<- e2,<- e1];kernel_rfl
 rw [E] at hl ⊢;have HP:=Lib.hid hP;have HW:=Lib.hid hW;have H0:=Lib.hid h0;have E1:=Lib.hid e1;have E2:=Lib.hid e2;have E3:=Lib.hid e3;have E4:=Lib.hid e4;have E5:=Lib.hid e5;have E6:=Lib.hid e6;have HK:=Lib.hid hk;clear hP hW h0 he hp ho E e1 e2 e3 e4 e5 e6 hk;unfold nval
 go_enter Tryz.func73,Tryz.ntmps73
 go_upto_region 1 with fail
 rw [HW.out];have c0:=H0.out.c0;simp only at c0
 go_wp2_with fail
 refine (toks1 c _ s _ H0.out.tk.pr (by rw [E1.out];omega)).mono ?_;rintro e w1 ⟨rfl,q⟩;have H1:=Lib.hid (H0.out.step (E1.out ▸ q));clear q c0  H0;have c5:=H1.out.c5;have kk:=H1.out.kid rfl (j:=0) (by show _<kids.length;rw [HK.out];decide);simp only at c5 kk;rw [HK.out] at c5
 go_wp2_with fail
 refine (HP.out.part 0 (by show _<kids.length;rw [HK.out];decide) 0 s1 _ H1.out.en H1.out.tk.pr (by rw [E2.out];omega)).mono ?_;rintro e w2 ⟨rfl,q⟩;have H2:=Lib.hid (H1.out.step (E2.out ▸ q));clear q c5 kk H1
 go_wp2_with fail
 refine (toks1 c _ s2 _ H2.out.tk.pr (by rw [E3.out];omega)).mono ?_;rintro e w3 ⟨rfl,q⟩;have H3:=Lib.hid (H2.out.step (E3.out ▸ q));clear q  H2;have c5:=H3.out.c5;have kk:=H3.out.kid rfl (j:=1) (by show _<kids.length;rw [HK.out];decide);simp only at c5 kk;rw [HK.out] at c5
 go_wp2_with fail
 refine (HP.out.part 1 (by show _<kids.length;rw [HK.out];decide) 1 s3 _ H3.out.en H3.out.tk.pr (by rw [E4.out];omega)).mono ?_;rintro e w4 ⟨rfl,q⟩;have H4:=Lib.hid (H3.out.step (E4.out ▸ q));clear q c5 kk H3
 go_wp2_with fail
 refine (toks1 c _ s4 _ H4.out.tk.pr (by rw [E5.out];omega)).mono ?_;rintro e w5 ⟨rfl,q⟩;have H5:=Lib.hid (H4.out.step (E5.out ▸ q));clear q  H4;have c5:=H5.out.c5;have kk:=H5.out.kid rfl (j:=2) (by show _<kids.length;rw [HK.out];decide);simp only at c5 kk;rw [HK.out] at c5
 go_wp2_with fail
 refine (HP.out.part 2 (by show _<kids.length;rw [HK.out];decide) 1 s5 _ H5.out.en H5.out.tk.pr (by rw [E6.out];omega)).mono ?_;rintro e w6 ⟨rfl,q⟩;have H6:=Lib.hid (H5.out.step (E6.out ▸ q));clear q c5 kk H5
 go_wp2
 go_end0
 exact ⟨rfl,H6.out.tk⟩
theorem item_try (c:Pc)(bt:Nat)(ao:Option Addr)(cap:Nat)(ms:List Nd)(f:Nd->Sh.St->Sh.St)(line col num:Int)(name:ByteArray)(kids:List Int)(s:Sh.St)(w:World)(ka:Option Addr)(kc:Nat)
  (hP:PartsC c bt ao cap ms f ⟨⟨#[116,114,121]⟩,line,col,name,num,kids⟩) (he:En c bt ao cap ms w) (hp:Pr c w s) (ho:w.ownsRow 0 3 1 (.slice ka kids.length kc) kids.length (ints kids)) (hk:kids.length=2)
  (hl:(Sh.item ms f ⟨⟨#[116,114,121]⟩,line,col,name,num,kids⟩ s).bs.length<=1000000000):
  Calls Tryz.prog 73 #[.pointer (some ⟨c.bp,0,none⟩),nval ⟨⟨#[116,114,121]⟩,line,col,name,num,kids⟩ ka kc] w (TksP c w (Sh.item ms f ⟨⟨#[116,114,121]⟩,line,col,name,num,kids⟩ s)):=by
 have h0:=Nx.start (n:=⟨⟨#[116,114,121]⟩,line,col,name,num,kids⟩) he hp ho;obtain ⟨W,hW⟩:∃ W,w.alloc (.cells #[.string ⟨#[116,114,121]⟩,.int .i64 line,.int .i64 col,.string name,.int .i64 num,.slice ka kids.length kc] 30)=W:=⟨_,rfl⟩;simp only at h0;rw [hW] at h0;obtain ⟨g,rfl⟩:=h0.some (by show 0<kids.length;omega);obtain ⟨s1,e1⟩:∃ x,Sh.tok s ⟨#[116,114,121]⟩=x:=⟨_,rfl⟩;have m1:s.bs.length<=s1.bs.length:=by rw [<- e1];exact Sh.tok_mono _ _
 obtain ⟨s2,e2⟩:∃ x,Sh.part ms f (kid kids 0) 0 s1=x:=⟨_,rfl⟩;have m2:s1.bs.length<=s2.bs.length:=by rw [<- e2];exact Sh.part_mono hP.grows _ _ _
 obtain ⟨s3,e3⟩:∃ x,Sh.tokens s2 [⟨#[119,105,116,104]⟩,name,⟨#[45,62]⟩]=x:=⟨_,rfl⟩;have m3:s2.bs.length<=s3.bs.length:=by rw [<- e3];exact Sh.tokens_le _ _
 obtain ⟨s4,e4⟩:∃ x,Sh.part ms f (kid kids 1) 1 s3=x:=⟨_,rfl⟩;have m4:s3.bs.length<=s4.bs.length:=by rw [<- e4];exact Sh.part_mono hP.grows _ _ _
 have E:Sh.item ms f ⟨⟨#[116,114,121]⟩,line,col,name,num,kids⟩ s=s4:=by rw [<- e4,<- e3,<- e2,<- e1];kernel_rfl
 rw [E] at hl ⊢;have HP:=Lib.hid hP;have HW:=Lib.hid hW;have H0:=Lib.hid h0;have E1:=Lib.hid e1;have E2:=Lib.hid e2;have E3:=Lib.hid e3;have E4:=Lib.hid e4;have HK:=Lib.hid hk;clear hP hW h0 he hp ho E e1 e2 e3 e4 hk;unfold nval
 go_enter Tryz.func73,Tryz.ntmps73
 go_upto_region 1 with fail
 rw [HW.out];have c0:=H0.out.c0;simp only at c0
 go_wp2_with fail
 refine (toks1 c _ s _ H0.out.tk.pr (by rw [E1.out];omega)).mono ?_;rintro e w1 ⟨rfl,q⟩;have H1:=Lib.hid (H0.out.step (E1.out ▸ q));clear q c0  H0;have c5:=H1.out.c5;have kk:=H1.out.kid rfl (j:=0) (by show _<kids.length;rw [HK.out];decide);simp only at c5 kk;rw [HK.out] at c5
 go_wp2_with fail
 refine (HP.out.part 0 (by show _<kids.length;rw [HK.out];decide) 0 s1 _ H1.out.en H1.out.tk.pr (by rw [E2.out];omega)).mono ?_;rintro e w2 ⟨rfl,q⟩;have H2:=Lib.hid (H1.out.step (E2.out ▸ q));clear q c5 kk H1;have c3:=H2.out.c3;simp only at c3
 go_wp2_with fail
 refine (toks3 c _ s2 _ _ _ H2.out.tk.pr (by rw [E3.out];omega)).mono ?_;rintro e w3 ⟨rfl,q⟩;have H3:=Lib.hid (H2.out.step (E3.out ▸ q));clear q c3 H2;have c5:=H3.out.c5;have kk:=H3.out.kid rfl (j:=1) (by show _<kids.length;rw [HK.out];decide);simp only at c5 kk;rw [HK.out] at c5
 go_wp2_with fail
 refine (HP.out.part 1 (by show _<kids.length;rw [HK.out];decide) 1 s3 _ H3.out.en H3.out.tk.pr (by rw [E4.out];omega)).mono ?_;rintro e w4 ⟨rfl,q⟩;have H4:=Lib.hid (H3.out.step (E4.out ▸ q));clear q c5 kk H3
 go_wp2
 go_end0
 exact ⟨rfl,H4.out.tk⟩
theorem item_raise (c:Pc)(bt:Nat)(ao:Option Addr)(cap:Nat)(ms:List Nd)(f:Nd->Sh.St->Sh.St)(line col num:Int)(name:ByteArray)(kids:List Int)(s:Sh.St)(w:World)(ka:Option Addr)(kc:Nat)
  (hP:PartsC c bt ao cap ms f ⟨⟨#[114,97,105,115,101]⟩,line,col,name,num,kids⟩) (he:En c bt ao cap ms w) (hp:Pr c w s) (ho:w.ownsRow 0 3 1 (.slice ka kids.length kc) kids.length (ints kids))
  (hl:(Sh.item ms f ⟨⟨#[114,97,105,115,101]⟩,line,col,name,num,kids⟩ s).bs.length<=1000000000):
  Calls Tryz.prog 73 #[.pointer (some ⟨c.bp,0,none⟩),nval ⟨⟨#[114,97,105,115,101]⟩,line,col,name,num,kids⟩ ka kc] w (TksP c w (Sh.item ms f ⟨⟨#[114,97,105,115,101]⟩,line,col,name,num,kids⟩ s)):=by
 have h0:=Nx.start (n:=⟨⟨#[114,97,105,115,101]⟩,line,col,name,num,kids⟩) he hp ho;obtain ⟨W,hW⟩:∃ W,w.alloc (.cells #[.string ⟨#[114,97,105,115,101]⟩,.int .i64 line,.int .i64 col,.string name,.int .i64 num,.slice ka kids.length kc] 30)=W:=⟨_,rfl⟩;simp only at h0;rw [hW] at h0;obtain ⟨s1,e1⟩:∃ x,Sh.tokens s [⟨#[114,97,105,115,101]⟩,name]=x:=⟨_,rfl⟩;have m1:s.bs.length<=s1.bs.length:=by rw [<- e1];exact Sh.tokens_le _ _
 have E:Sh.item ms f ⟨⟨#[114,97,105,115,101]⟩,line,col,name,num,kids⟩ s=s1:=by rw [<- e1];kernel_rfl
 rw [E] at hl ⊢;have HP:=Lib.hid hP;have HW:=Lib.hid hW;have H0:=Lib.hid h0;have E1:=Lib.hid e1;clear hP hW h0 he hp ho E e1;unfold nval
 go_enter Tryz.func73,Tryz.ntmps73
 go_upto_region 1 with fail
 rw [HW.out];have c0:=H0.out.c0;simp only at c0;have c3:=H0.out.c3;simp only at c3
 go_wp2_with fail
 refine (toks2 c _ s _ _ H0.out.tk.pr (by rw [E1.out];omega)).mono ?_;rintro e w1 ⟨rfl,q⟩;have H1:=Lib.hid (H0.out.step (E1.out ▸ q));clear q c0 c3 H0
 go_wp2
 go_end0
 exact ⟨rfl,H1.out.tk⟩
theorem item_out (c:Pc)(bt:Nat)(ao:Option Addr)(cap:Nat)(ms:List Nd)(f:Nd->Sh.St->Sh.St)(line col num:Int)(name:ByteArray)(kids:List Int)(s:Sh.St)(w:World)(ka:Option Addr)(kc:Nat)
  (hP:PartsC c bt ao cap ms f ⟨⟨#[111,117,116]⟩,line,col,name,num,kids⟩) (he:En c bt ao cap ms w) (hp:Pr c w s) (ho:w.ownsRow 0 3 1 (.slice ka kids.length kc) kids.length (ints kids)) (hk:kids.length=1)
  (hl:(Sh.item ms f ⟨⟨#[111,117,116]⟩,line,col,name,num,kids⟩ s).bs.length<=1000000000):
  Calls Tryz.prog 73 #[.pointer (some ⟨c.bp,0,none⟩),nval ⟨⟨#[111,117,116]⟩,line,col,name,num,kids⟩ ka kc] w (TksP c w (Sh.item ms f ⟨⟨#[111,117,116]⟩,line,col,name,num,kids⟩ s)):=by
 have h0:=Nx.start (n:=⟨⟨#[111,117,116]⟩,line,col,name,num,kids⟩) he hp ho;obtain ⟨W,hW⟩:∃ W,w.alloc (.cells #[.string ⟨#[111,117,116]⟩,.int .i64 line,.int .i64 col,.string name,.int .i64 num,.slice ka kids.length kc] 30)=W:=⟨_,rfl⟩;simp only at h0;rw [hW] at h0;obtain ⟨g,rfl⟩:=h0.some (by show 0<kids.length;omega);obtain ⟨s1,e1⟩:∃ x,Sh.tokens s [⟨#[111,117,116]⟩,name]=x:=⟨_,rfl⟩;have m1:s.bs.length<=s1.bs.length:=by rw [<- e1];exact Sh.tokens_le _ _
 obtain ⟨s2,e2⟩:∃ x,Sh.part ms f (kid kids 0) 2 s1=x:=⟨_,rfl⟩;have m2:s1.bs.length<=s2.bs.length:=by rw [<- e2];exact Sh.part_mono hP.grows _ _ _
 have E:Sh.item ms f ⟨⟨#[111,117,116]⟩,line,col,name,num,kids⟩ s=s2:=by rw [<- e2,<- e1];kernel_rfl
 rw [E] at hl ⊢;have HP:=Lib.hid hP;have HW:=Lib.hid hW;have H0:=Lib.hid h0;have E1:=Lib.hid e1;have E2:=Lib.hid e2;have HK:=Lib.hid hk;clear hP hW h0 he hp ho E e1 e2 hk;unfold nval
 go_enter Tryz.func73,Tryz.ntmps73
 go_upto_region 1 with fail
 rw [HW.out];have c0:=H0.out.c0;simp only at c0;have c3:=H0.out.c3;simp only at c3
 go_wp2_with fail
 refine (toks2 c _ s _ _ H0.out.tk.pr (by rw [E1.out];omega)).mono ?_;rintro e w1 ⟨rfl,q⟩;have H1:=Lib.hid (H0.out.step (E1.out ▸ q));clear q c0 c3 H0;have c5:=H1.out.c5;have kk:=H1.out.kid rfl (j:=0) (by show _<kids.length;rw [HK.out];decide);simp only at c5 kk;rw [HK.out] at c5
 go_wp2_with fail
 refine (HP.out.part 0 (by show _<kids.length;rw [HK.out];decide) 2 s1 _ H1.out.en H1.out.tk.pr (by rw [E2.out];omega)).mono ?_;rintro e w2 ⟨rfl,q⟩;have H2:=Lib.hid (H1.out.step (E2.out ▸ q));clear q c5 kk H1
 go_wp2
 go_end0
 exact ⟨rfl,H2.out.tk⟩
theorem item_set (c:Pc)(bt:Nat)(ao:Option Addr)(cap:Nat)(ms:List Nd)(f:Nd->Sh.St->Sh.St)(line col num:Int)(name:ByteArray)(kids:List Int)(s:Sh.St)(w:World)(ka:Option Addr)(kc:Nat)
  (hP:PartsC c bt ao cap ms f ⟨⟨#[115,101,116]⟩,line,col,name,num,kids⟩) (he:En c bt ao cap ms w) (hp:Pr c w s) (ho:w.ownsRow 0 3 1 (.slice ka kids.length kc) kids.length (ints kids)) (hk:kids.length=1)
  (hl:(Sh.item ms f ⟨⟨#[115,101,116]⟩,line,col,name,num,kids⟩ s).bs.length<=1000000000):
  Calls Tryz.prog 73 #[.pointer (some ⟨c.bp,0,none⟩),nval ⟨⟨#[115,101,116]⟩,line,col,name,num,kids⟩ ka kc] w (TksP c w (Sh.item ms f ⟨⟨#[115,101,116]⟩,line,col,name,num,kids⟩ s)):=by
 have h0:=Nx.start (n:=⟨⟨#[115,101,116]⟩,line,col,name,num,kids⟩) he hp ho;obtain ⟨W,hW⟩:∃ W,w.alloc (.cells #[.string ⟨#[115,101,116]⟩,.int .i64 line,.int .i64 col,.string name,.int .i64 num,.slice ka kids.length kc] 30)=W:=⟨_,rfl⟩;simp only at h0;rw [hW] at h0;obtain ⟨g,rfl⟩:=h0.some (by show 0<kids.length;omega);obtain ⟨s1,e1⟩:∃ x,Sh.tokens s [name,⟨#[58,61]⟩]=x:=⟨_,rfl⟩;have m1:s.bs.length<=s1.bs.length:=by rw [<- e1];exact Sh.tokens_le _ _
 obtain ⟨s2,e2⟩:∃ x,Sh.part ms f (kid kids 0) 2 s1=x:=⟨_,rfl⟩;have m2:s1.bs.length<=s2.bs.length:=by rw [<- e2];exact Sh.part_mono hP.grows _ _ _
 have E:Sh.item ms f ⟨⟨#[115,101,116]⟩,line,col,name,num,kids⟩ s=s2:=by rw [<- e2,<- e1];kernel_rfl
 rw [E] at hl ⊢;have HP:=Lib.hid hP;have HW:=Lib.hid hW;have H0:=Lib.hid h0;have E1:=Lib.hid e1;have E2:=Lib.hid e2;have HK:=Lib.hid hk;clear hP hW h0 he hp ho E e1 e2 hk;unfold nval
 go_enter Tryz.func73,Tryz.ntmps73
 go_upto_region 1 with fail
 rw [HW.out];have c0:=H0.out.c0;simp only at c0;have c3:=H0.out.c3;simp only at c3
 go_wp2_with fail
 refine (toks2 c _ s _ _ H0.out.tk.pr (by rw [E1.out];omega)).mono ?_;rintro e w1 ⟨rfl,q⟩;have H1:=Lib.hid (H0.out.step (E1.out ▸ q));clear q c0 c3 H0;have c5:=H1.out.c5;have kk:=H1.out.kid rfl (j:=0) (by show _<kids.length;rw [HK.out];decide);simp only at c5 kk;rw [HK.out] at c5
 go_wp2_with fail
 refine (HP.out.part 0 (by show _<kids.length;rw [HK.out];decide) 2 s1 _ H1.out.en H1.out.tk.pr (by rw [E2.out];omega)).mono ?_;rintro e w2 ⟨rfl,q⟩;have H2:=Lib.hid (H1.out.step (E2.out ▸ q));clear q c5 kk H1
 go_wp2
 go_end0
 exact ⟨rfl,H2.out.tk⟩
end
section
open Go.RowKit Go.Shelf Tn
theorem sbetween_any (c:Pc)(bt:Nat)(ao:Option Addr)(cap:Nat)(ms:List Nd)(f:Nd->Sh.St->Sh.St)(n:Nd)(l r:Int)(s:Sh.St)(w:World)(ka:Option Addr)(kc:Nat)
  (hP:PartsC c bt ao cap ms f n) (he:En c bt ao cap ms w) (hp:Pr c w s) (ho:w.ownsRow 0 3 1 (.slice ka n.kids.length kc) n.kids.length (ints n.kids)) (hk:n.kids.length=2)
  (hl:(Sh.between ms f n l r s).bs.length<=1000000000):
  Calls Tryz.prog 74 #[.pointer (some ⟨c.bp,0,none⟩),nval n ka kc,.int .i64 l,.int .i64 r] w (TksP c w (Sh.between ms f n l r s)):=by
 have h0:=Nx.start he hp ho;obtain ⟨W,hW⟩:∃ W,w.alloc (.cells #[.string n.op,.int .i64 n.line,.int .i64 n.col,.string n.name,.int .i64 n.num,.slice ka n.kids.length kc] 30)=W:=⟨_,rfl⟩;rw [hW] at h0;obtain ⟨g,rfl⟩:=h0.some (by omega);obtain ⟨s1,e1⟩:∃ x,Sh.part ms f (kid n.kids 0) l s=x:=⟨_,rfl⟩;have m1:s.bs.length<=s1.bs.length:=by rw [<- e1];exact Sh.part_mono hP.grows _ _ _
 obtain ⟨s2,e2⟩:∃ x,Sh.tok s1 n.op=x:=⟨_,rfl⟩;have m2:s1.bs.length<=s2.bs.length:=by rw [<- e2];exact Sh.tok_mono _ _
 obtain ⟨s3,e3⟩:∃ x,Sh.part ms f (kid n.kids 1) r s2=x:=⟨_,rfl⟩;have m3:s2.bs.length<=s3.bs.length:=by rw [<- e3];exact Sh.part_mono hP.grows _ _ _
 have E:Sh.between ms f n l r s=s3:=by rw [<- e3,<- e2,<- e1];rfl
 rw [E] at hl ⊢;have HP:=Lib.hid hP;have HW:=Lib.hid hW;have H0:=Lib.hid h0;have E1:=Lib.hid e1;have E2:=Lib.hid e2;have E3:=Lib.hid e3;have HK:=Lib.hid hk;clear hP hW h0 e1 e2 e3 E he hp ho hk;unfold nval
 go_enter Tryz.func74,Tryz.ntmps74
 go_upto_region 1 with fail
 rw [HW.out];have c5:=H0.out.c5;have k0:=H0.out.kid rfl (j:=0) (by rw [HK.out];decide);rw [HK.out] at c5
 go_wp2_with fail
 refine (HP.out.part 0 (by rw [HK.out];decide) l s _ H0.out.en H0.out.tk.pr (by rw [E1.out];omega)).mono ?_;rintro e w1 ⟨rfl,q⟩;rw [E1.out] at q;have H1:=Lib.hid (H0.out.step q);clear q c5 k0 H0;have c0:=H1.out.c0
 go_wp2_with fail
 refine (toks1 c w1 s1 _ H1.out.tk.pr (by rw [E2.out];omega)).mono ?_;rintro e w2 ⟨rfl,q⟩;rw [E2.out] at q;have H2:=Lib.hid (H1.out.step q);clear q c0 H1;have c5:=H2.out.c5;have k1:=H2.out.kid rfl (j:=1) (by rw [HK.out];decide);rw [HK.out] at c5
 go_wp2_with fail
 refine (HP.out.part 1 (by rw [HK.out];decide) r s2 _ H2.out.en H2.out.tk.pr (by rw [E3.out];omega)).mono ?_;rintro e w3 ⟨rfl,q⟩;rw [E3.out] at q;have H3:=Lib.hid (H2.out.step q);clear q c5 k1 H2
 go_wp2
 go_end0
 exact ⟨rfl,H3.out.tk⟩
end
section
open Go.RowKit Go.Shelf Tn
theorem form_field0 (a b c:Value)(w:World):(Instr.field 95 (.agg #[a,b,c]) 0).run Tryz.prog w = .ok a w:=by kernel_rfl
attribute [local go_sem] form_field0
structure NodeC (c:Pc)(bt:Nat)(ao:Option Addr)(cap:Nat)(ms:List Nd)(n:Nd)(g:Sh.St->Sh.St):Prop where
 mono:∀ s,s.bs.length<=(g s).bs.length
 few:n.kids.length<=999000
 run:∀ (s:Sh.St) (w:World) (ka:Option Addr) (kc:Nat),En c bt ao cap ms w->Pr c w s->w.ownsRow 0 3 1 (.slice ka n.kids.length kc) n.kids.length (ints n.kids)->(g s).bs.length<=1000000000 ->
  Calls Tryz.prog 52 #[.pointer (some ⟨c.bp,0,none⟩),nval n ka kc] w (TksP c w (g s))
theorem brk_any (c:Pc)(bt:Nat)(ao:Option Addr)(cap:Nat)(ms:List Nd)(n:Nd)(g:Sh.St->Sh.St)(b:Bool)(s:Sh.St)(w:World)(ka:Option Addr)(kc:Nat)
  (hN:NodeC c bt ao cap ms n g) (he:En c bt ao cap ms w) (hp:Pr c w s) (ho:w.ownsRow 0 3 1 (.slice ka n.kids.length kc) n.kids.length (ints n.kids)) (hl:(Sh.brk g b s).bs.length<=1000000000):
  Calls Tryz.prog 32 #[.pointer (some ⟨c.bp,0,none⟩),nval n ka kc,.bool b] w (TksP c w (Sh.brk g b s)):=by
 have h0:=Nx.start he hp ho;obtain ⟨W,hW⟩:∃ W,w.alloc (.cells #[.string n.op,.int .i64 n.line,.int .i64 n.col,.string n.name,.int .i64 n.num,.slice ka n.kids.length kc] 30)=W:=⟨_,rfl⟩;rw [hW] at h0;have HN:=Lib.hid hN;have HW:=Lib.hid hW;have H0:=Lib.hid h0;clear hN hW h0 he hp ho
 cases b with
 | false =>
  have E:Sh.brk g false s=g s:=rfl;rw [E] at hl ⊢;clear E;unfold nval
  go_enter Tryz.func32,Tryz.ntmps32
  go_upto_region 1 with fail
  rw [HW.out];have c0:=H0.out.c0;have c1:=H0.out.c1;have c2:=H0.out.c2;have c3:=H0.out.c3;have c4:=H0.out.c4;have c5:=H0.out.c5
  go_wp2_with fail
  refine (HN.out.run s _ ka kc H0.out.en H0.out.tk.pr H0.out.own hl).mono ?_;rintro e w1 ⟨rfl,q⟩;have H1:=Lib.hid (H0.out.step q);clear q c0 c1 c2 c3 c4 c5 H0
  go_wp2
  go_end0
  exact ⟨rfl,H1.out.tk⟩
 | true =>
  obtain ⟨s1,e1⟩:∃ x,Sh.tok s Sh.opn=x:=⟨_,rfl⟩;have m1:s.bs.length<=s1.bs.length:=by rw [<- e1];exact Sh.tok_mono _ _
  obtain ⟨s2,e2⟩:∃ x,g s1=x:=⟨_,rfl⟩;have m2:s1.bs.length<=s2.bs.length:=by rw [<- e2];exact HN.out.mono _
  obtain ⟨s3,e3⟩:∃ x,Sh.tok s2 Sh.cls=x:=⟨_,rfl⟩;have m3:s2.bs.length<=s3.bs.length:=by rw [<- e3];exact Sh.tok_mono _ _
  have E:Sh.brk g true s=s3:=by rw [<- e3,<- e2,<- e1];rfl
  rw [E] at hl ⊢;have E1:=Lib.hid e1;have E2:=Lib.hid e2;have E3:=Lib.hid e3;clear E e1 e2 e3;unfold nval
  go_enter Tryz.func32,Tryz.ntmps32
  go_upto_region 1 with fail
  rw [HW.out]
  go_wp2_with fail
  refine (toks1 c _ s Sh.opn H0.out.tk.pr (by rw [E1.out];omega)).mono ?_;rintro e w1 ⟨rfl,q⟩;have H1:=Lib.hid (H0.out.step (E1.out ▸ q));clear q H0;have c0:=H1.out.c0;have c1:=H1.out.c1;have c2:=H1.out.c2;have c3:=H1.out.c3;have c4:=H1.out.c4;have c5:=H1.out.c5
  go_wp2_with fail
  refine (HN.out.run s1 _ ka kc H1.out.en H1.out.tk.pr H1.out.own (by rw [E2.out];omega)).mono ?_;rintro e w2 ⟨rfl,q⟩;have H2:=Lib.hid (H1.out.step (E2.out ▸ q));clear q c0 c1 c2 c3 c4 c5 H1
  go_wp2_with fail
  refine (toks1 c _ s2 Sh.cls H2.out.tk.pr (by rw [E3.out];omega)).mono ?_;rintro e w3 ⟨rfl,q⟩;have H3:=Lib.hid (H2.out.step (E3.out ▸ q));clear q H2
  go_wp2
  go_end0
  exact ⟨rfl,H3.out.tk⟩
theorem part_any (c:Pc)(bt:Nat)(ao:Option Addr)(cap:Nat)(ms:List Nd)(i:Nat)(g:Sh.St->Sh.St)(least:Int)(s:Sh.St)(w:World)
  (hi:i<ms.length) (hN:NodeC c bt ao cap ms (nd ms i) g) (he:En c bt ao cap ms w) (hp:Pr c w s) (hl:(Sh.brk g (decide ((Sh.formOf (nd ms i).op).level<least)) s).bs.length<=1000000000):
  Calls Tryz.prog 14 #[.pointer (some ⟨c.bp,0,none⟩),.int .i64 (i:Int),.int .i64 least] w (TksP c w (Sh.brk g (decide ((Sh.formOf (nd ms i).op).level<least)) s)):=by
 have hG:=get_yes c.N bt ao cap ms i w he.tree hp.hN hi hN.few;have ct:=hp.t;rw [he.tv] at ct;obtain ⟨n,hn⟩:∃ n,nd ms i=n:=⟨_,rfl⟩;rw [hn] at hN hG hl ⊢;have HN:=Lib.hid hN;have HE:=Lib.hid he;have HPR:=Lib.hid hp;have HG:=Lib.hid hG;clear hN he hp hG hi hn
 go_enter Tryz.func14,Tryz.ntmps14
 go_wp2_with fail
 refine HG.out.mono ?_;rintro e w1 ⟨ka,kc,rfl,hown,hb1⟩;have h0:=Nx.start (HE.out.below (hb1.mono HPR.out.hN)) (HPR.out.below hb1) (own_mono hown (Nat.zero_le _));obtain ⟨W,hW⟩:∃ W,w1.alloc (.cells #[.string n.op,.int .i64 n.line,.int .i64 n.col,.string n.name,.int .i64 n.num,.slice ka n.kids.length kc] 30)=W:=⟨_,rfl⟩;rw [hW] at h0;have HW:=Lib.hid hW;have H0:=Lib.hid h0;have HB1:=Lib.hid hb1;clear hW h0 hb1 hown ct HG;unfold nval
 go_wp2_with fail
 rw [HW.out];have y0:=fun x:Later W=>Later.cell H0.out.c0 x;have y1:=fun x:Later W=>Later.cell H0.out.c1 x;have y2:=fun x:Later W=>Later.cell H0.out.c2 x;have y3:=fun x:Later W=>Later.cell H0.out.c3 x;have y4:=fun x:Later W=>Later.cell H0.out.c4 x;have y5:=fun x:Later W=>Later.cell H0.out.c5 x;have k1:∀ x:Later W,Calls Tryz.prog 33 #[.string n.op] x.wx fun e w''=>e = .returned (fval (Sh.formOf n.op))/\∃ y:Later W,w''=y.wx:=fun x=>calls_later (form_any n.op x.wx);generalize Sh.formOf n.op=F at *;have K1:=Lib.hid k1;clear k1;unfold fval at K1;refine wp_region_later_tail 8 (by kernel_rfl) (by kernel_rfl) ?_;simp only [List.take_succ_cons,List.take_zero,List.drop_succ_cons,List.drop_zero]
 repeat (first | go_big_quiet_step (first | (go_at_call 33;with_reducible exact K1.out _)) | quiet_step (first | (go_at_call 33;with_reducible exact K1.out _)))
 refine wpQuiet_nil ?_;intro x;have HX:=Lib.hid (H0.out.below x.le);clear y0 y1 y2 y3 y4 y5 K1 H0;generalize x.wx=wx at *
 go_wp2_with fail
 refine (brk_any c bt ao cap ms n g _ s _ ka kc HN.out HX.out.en HX.out.tk.pr HX.out.own hl).mono ?_;rintro e w2 ⟨rfl,q⟩;have H2:=Lib.hid (HX.out.step q);clear q HX
 go_wp2
 go_end0
 exact ⟨rfl,TkP.of_below HB1.out H2.out.tk⟩
end
section
open Go.RowKit Go.Shelf Tn
structure NdOk (n:Nd):Prop where
 well:Sh.well n=true
 few:n.kids.length<=999000
 lo : -9223372036854775808<=n.num
 hi:n.num<=9223372036854775807
def Fit (ms:List Nd)(i:Nat):Prop:=∀ j∈Pl ms i,NdOk (nd ms j)
theorem Fit.self {ms:List Nd}(hw:WF ms){i:Nat}(hi:i<ms.length)(h:Fit ms i):NdOk (nd ms i):=h i (by rw [Pl_eq hw hi];exact List.mem_cons_self ..)
theorem Fit.kid {ms:List Nd}(hw:WF ms){i:Nat}(hi:i<ms.length)(h:Fit ms i){k:Int}(hk:k∈(nd ms i).kids):Fit ms k.toNat:=fun j hj=>h j (by
 rw [Pl_eq hw hi];refine List.mem_cons_of_mem _ ?_;rw [partPl,List.take_length];exact List.mem_flatMap.2 ⟨k,hk,hj⟩)
theorem well_kids {n:Nd}(h:Sh.well n=true){a b:Int}(hf:Sh.formOf n.op=⟨a,b,true⟩)(hb:b ≠ -1):(n.kids.length:Int)=b:=by
 unfold Sh.well at h;rw [hf] at h;simp only [Bool.true_and,Bool.or_eq_true,beq_iff_eq] at h;omega
end
end Go.Proofs.YtninlbknklbofaaGreatDoor
