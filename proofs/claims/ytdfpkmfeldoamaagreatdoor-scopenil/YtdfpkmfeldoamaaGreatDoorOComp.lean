/- A part of the proof: A part of the proof. -/
import Derived.Test.YtdfpkmfeldoamaaGreatDoorYall
import Derived.Test.YtdfpkmfeldoamaaGreatDoorFin
import Derived.Test.YtdfpkmfeldoamaaGreatDoorPf
import Derived.WalkKit
import Derived.Test.YtdfpkmfeldoamaaGreatDoorRows
import Derived.WalkSpells
import Derived.WalkLawsBesides
import Derived.Laws.BitsAllLaws
import Derived.Lib.Hide
import Derived.Deep.QuietTactic
import Derived.BigQuiet
import Derived.RegionTactic
import Derived.BigRegion
set_option linter.unusedSimpArgs false
set_option linter.unusedVariables false
set_option maxRecDepth 100000
set_option maxHeartbeats 4000000
namespace Go.Proofs.YtdfpkmfeldoamaaGreatDoor
open Go.RowKit Tn Lx
namespace Yf
def parse (l:B):Pg.R St:=match Lx.whole l with
 | .bad c p => .bad c p []
 | .ok ts=>all ts Ex.FU Ex.FU 0 st0 ⟨0,[]⟩
theorem st0_ok (ts:List Tok):StOk ts 0 0 0 st0:=⟨fun d h=>by simp [st0] at h,fun d h=>by simp [st0] at h,fun d h=>by simp [st0] at h,.inl rfl,fun d h=>by simp [st0] at h,by simp [st0],by simp [st0],by simp [st0]⟩
theorem all_end {l:B}{ts:List Tok}(h:Lx.whole l = .ok ts):Pf.RPost (all ts Ex.FU Ex.FU 0 st0 ⟨0,[]⟩) fun g s=>Ex.GoodS ts s/\StOk ts 100 s.p s.ns.length g/\g.att.text≠[]:=by
 have hl:=Lx.whole_len h;exact all_on Ex.FU 0 st0 ⟨0,[]⟩ (Ex.goodS_nil ts) (st0_ok ts) (by omega) (by unfold Ex.FU;simp only;omega) (by unfold Ex.FU;simp only;omega)
end Yf
def YParse5P (w:World)(l:B)(e:Ending)(w':World):Prop :=
 Below w.heap.size w w'/\((∃ g s c q pp U fs,Lx.whole l = .ok c.ts/\Yf.parse l = .ok g s/\e = .returned (.tuple #[.pointer (some ⟨q,0,none⟩),.nilIface])/\Rd c (fun _=>False) w' s/\Qm c q pp U fs w' g)\/(∃ cd p n,Yf.parse l = .bad cd p n/\e = .returned (.tuple #[.pointer none,dvalN cd p n])))
theorem yparse5_ok (s:ByteArray)(ts:List Tok)(w:World)(hs:s.size<=1000000000000)(hT:Lib.Utf8Tabs 2 3 w)(hg:ErrT w)(hw:Lx.whole s.data.toList = .ok ts):
  Calls Tryz.prog 7 #[.string s] w (YParse5P w s.data.toList):=by
 have hlt:=hg.lt;have hend:=Yf.all_end hw;have hlen:=Lx.whole_len hw;have hR:Yf.parse s.data.toList=Yf.all ts Ex.FU Ex.FU 0 Yf.st0 ⟨0,[]⟩:=by rw [Yf.parse,hw]
 have HA:=Lib.hid (new_ok s ts w hs hT hw);have HG:=Lib.hid hg;have HNE:=Lib.hid hend.not_out;have HR:=Lib.hid hR;have HW:=Lib.hid hw;clear hT hg hw hend hR
 go_enter Tryz.func7,Tryz.ntmps7
 go_wp2_with fail
 refine HA.out.mono ?_;rintro e w1 ⟨c,rfl,rfl,hRd,hb1,hcr,hcb,hcB⟩;have hs1:=hb1.size;have c0:=hRd.c0;obtain ⟨V,hV⟩:∃ V,(w1.alloc (.cells #[.pointer (some ⟨c.bt,0,none⟩),.slice none 0 0,.slice none 0 0,.slice none 0 0,.string ⟨#[]⟩,.int .i64 0,.int .i64 0,.slice none 0 0] 84)).alloc (.cells #[.pointer (some ⟨c.r,0,none⟩),.pointer (some ⟨w1.heap.size,0,none⟩)] 87)=V:=⟨_,rfl⟩;have hbV:Below w1.heap.size w1 V:=by rw [<- hV];exact ((Below.refl _ w1).alloc (Nat.le_refl _) _).alloc (by simp) _
 have kq:V.heap[w1.heap.size]? = some (.cells (polF c.bt (fun _ => .slice none 0 0) Pg.zn) 84 (0,0)):=by rw [<- hV];exact blk_alloc (blk_new w1 _) _
 have kp:V.heap[w1.heap.size+1]? = some (.cells (yparF c.r w1.heap.size) 87 (0,0)):=by
  rw [<- hV];have:=blk_new (w1.alloc (.cells #[.pointer (some ⟨c.bt,0,none⟩),.slice none 0 0,.slice none 0 0,.slice none 0 0,.string ⟨#[]⟩,.int .i64 0,.int .i64 0,.slice none 0 0] 84)) (.cells #[.pointer (some ⟨c.r,0,none⟩),.pointer (some ⟨w1.heap.size,0,none⟩)] 87);rwa [World.size_alloc] at this
 have hB1:=hRd.size;have hPm:Qm c w1.heap.size (w1.heap.size+1) (fun _ => .slice none 0 0) [] V Yf.st0 :=
  ⟨kp,kq,World.ownsRow_nil _ _ _ _,World.ownsRow_nil _ _ _ _,World.ownsRow_nil _ _ _ _,World.ownsRow_nil _ _ _ _,rfl,fun x hx=>(by simp at hx),fun k e=>(by cases e),fun x hx=>(by simp at hx),by omega,hB1⟩
 have hbW:Below w.heap.size w V:=hb1.trans (hbV.mono hb1.size);have hE:=yall5_any c (fun _=>False) V ⟨0,[]⟩ Ex.FU (by decide) (by unfold Ex.FU;omega) w1.heap.size (w1.heap.size+1) Ex.FU _ _ Yf.st0 (hRd.below hbV) hPm (HG.out.below hbW hlt) ⟨by omega,by omega,by omega⟩ ⟨Ex.goodS_nil _,Yf.st0_ok _⟩ HNE.out;have hRR:=HR.out;generalize Yf.all c.ts Ex.FU Ex.FU 0 Yf.st0 ⟨0,[]⟩=R at *;have HRR:=Lib.hid hRR;clear hRR HR;have HE:=Lib.hid hE;have HV:=Lib.hid hV;have HBW:=Lib.hid hbW;clear hE hV hbW hbV kq kp hPm hRd hb1 HA HNE
 go_wp2_with fail
 rw [HV.out];refine HE.out.mono ?_;rintro e w2 (⟨g,s2,U,fs,hE2,rfl,hR2,hP2,hK2⟩ | ⟨cd,p,nm,hE2,rfl,hK2⟩)
 ·have HB2:=Lib.hid (HBW.out.trans (hK2.below (N:=w.heap.size) HBW.out.size hcr hcb hcB hs1));have HP2:=Lib.hid hP2;have HE2:=Lib.hid hE2;have HR2:=Lib.hid hR2;clear hP2 hK2 hR2 hE2 HE
  go_wp2
  go_ret2
  exact ⟨HB2.out,.inl ⟨g,s2,c,_,_,U,fs,HW.out,HRR.out.trans HE2.out,rfl,HR2.out,HP2.out⟩⟩
 ·have HB2:=Lib.hid (HBW.out.trans (hK2.below (N:=w.heap.size) HBW.out.size hcr hcb hcB hs1));have HE2:=Lib.hid hE2;clear hK2 hE2 HE;unfold dvalN
  go_wp2
  go_ret2
  exact ⟨HB2.out,.inr ⟨cd,p,nm,HRR.out.trans HE2.out,rfl⟩⟩
theorem yparse5_bad (s:ByteArray)(cd:Int)(p:Pos)(w:World)(hs:s.size<=1000000000000)(hT:Lib.Utf8Tabs 2 3 w)(hw:Lx.whole s.data.toList = .bad cd p):
  Calls Tryz.prog 7 #[.string s] w (YParse5P w s.data.toList):=by
 have hR:Yf.parse s.data.toList = .bad cd p []:=by rw [Yf.parse,hw]
 have HA:=Lib.hid (new_bad s cd p w hs hT hw);have HR:=Lib.hid hR;clear hT hw hR
 go_enter Tryz.func7,Tryz.ntmps7
 go_wp2_with fail
 refine HA.out.mono ?_;rintro e w1 ⟨rfl,hb1⟩;have HB:=Lib.hid hb1;clear hb1 HA;unfold dval
 go_wp2
 go_ret2
 exact ⟨HB.out,.inr ⟨cd,p,[],HR.out,rfl⟩⟩
theorem yparse5_any (s:ByteArray)(w:World)(hs:s.size<=1000000000000)(hT:Lib.Utf8Tabs 2 3 w)(hg:ErrT w):
  Calls Tryz.prog 7 #[.string s] w (YParse5P w s.data.toList):=by
 cases hw:Lx.whole s.data.toList with
 | ok ts=>exact yparse5_ok s ts w hs hT hg hw
 | bad cd p=>exact yparse5_bad s cd p w hs hT hw
end Go.Proofs.YtdfpkmfeldoamaaGreatDoor
namespace Go.Proofs.YtdfpkmfeldoamaaGreatDoor.Yo.Py
open Lx (Tok Pos B)
open Ex (S tk at_)
abbrev Nm:=Pg.Nm
def zn:Nm:=⟨[],⟨0,0⟩⟩
structure St where
 conf:List Nm
 integ:List Nm
 ord:List (Nm × Nm)
 att:Nm
def st0:St:=⟨[],[],[],zn⟩
def tx (l:List Nm):List B:=l.map (·.text)
def txx (l:List (Nm × Nm)):List (B × B):=l.map fun p=>(p.1.text,p.2.text)
abbrev wConf:B:=[99,111,110,102]
abbrev wInteg:B:=[105,110,116,101,103]
abbrev wOrder:B:=[111,114,100,101,114]
abbrev wAtt:B:=[97,116,116,97,99,107,101,114]
section
variable (ts:List Tok)
end
end Go.Proofs.YtdfpkmfeldoamaaGreatDoor.Yo.Py
namespace Go.Proofs.YtdfpkmfeldoamaaGreatDoor.Od
namespace M
def findN (f:Nat->Nat)(x n:Nat):Int :=
 match (List.range n).find? (fun i=>f i==x) with
 | some i=>(i:Int)
 | none => -1
theorem findN_hit {f:Nat->Nat}{x n k:Nat}(h:∀ i,i<k->f i≠x)(hk:k<n)(he:f k=x):findN f x n=k:=by
 have:(List.range n).find? (fun i=>f i==x)=some k:=by
  rw [List.find?_range_eq_some];refine ⟨by simpa using he,by simpa using hk,fun j hj=>?_⟩
  simpa using h j hj
 unfold findN;rw [this]
theorem findN_miss {f:Nat->Nat}{x n:Nat}(h:∀ i,i<n->f i≠x):findN f x n = -1:=by
 have:(List.range n).find? (fun i=>f i==x)=none:=by
  rw [List.find?_eq_none];intro i hi
  simpa using h i (by simpa using hi)
 unfold findN;rw [this]
theorem findN_cases (f:Nat->Nat)(x n:Nat):
  (∃ p,p<n/\f p=x/\findN f x n=p/\∀ i,i<p->f i≠x)\/((∀ i,i<n->f i≠x)/\findN f x n = -1):=by
 cases h:(List.range n).find? (fun i=>f i==x) with
 | some p =>
  rw [List.find?_range_eq_some] at h;obtain ⟨h1,h2,h3⟩:=h;refine Or.inl ⟨p,by simpa using h2,by simpa using h1, ?_, ?_⟩
  ·exact findN_hit (fun i hi=>by simpa using h3 i hi) (by simpa using h2) (by simpa using h1)
  ·intro i hi;simpa using h3 i hi
 | none =>
  rw [List.find?_eq_none] at h;have h':∀ i,i<n->f i≠x:=fun i hi=>by simpa using h i (by simpa using hi)
  exact Or.inr ⟨h',findN_miss h'⟩
def bit (k:Nat):Nat:=2 ^ k
def full (n:Nat):Nat:=2 ^ n-1
theorem bit_lt32 {a:Nat}(h:a<32):bit a<4294967296:=by
 have:2 ^ a<2 ^ 32:=Nat.pow_lt_pow_right (by omega) h
 simpa [bit] using this
theorem testBit_bit (a i:Nat):(bit a).testBit i=decide (a=i):=by unfold bit;rw [Nat.testBit_two_pow]
theorem and_bit (s i:Nat):(s &&& bit i != 0)=s.testBit i:=by
 cases h:s.testBit i with
 | true =>
  have:(s &&& bit i).testBit i=true:=by rw [Nat.testBit_and,h,testBit_bit];simp
  rw [bne_iff_ne];intro e;rw [e] at this;simp at this
 | false =>
  have:s &&& bit i=0:=by
   apply Nat.eq_of_testBit_eq;intro j;rw [Nat.testBit_and,testBit_bit]
   by_cases e:i=j
   ·subst e;simp [h]
   ·simp [e]
  simp [this]
theorem mask_ext {n x y:Nat}(hx:x<2 ^ n)(hy:y<2 ^ n)(h:∀ i,i<n->x.testBit i=y.testBit i):x=y:=by
 apply Nat.eq_of_testBit_eq;intro i
 by_cases hi:i<n
 ·exact h i hi
 ·rw [Nat.testBit_lt_two_pow (Nat.lt_of_lt_of_le hx (Nat.pow_le_pow_right (by omega) (by omega))),
   Nat.testBit_lt_two_pow (Nat.lt_of_lt_of_le hy (Nat.pow_le_pow_right (by omega) (by omega)))]
theorem bit_lt {n x i:Nat}(hx:x<2 ^ n)(h:x.testBit i=true):i<n:=by
 apply Classical.byContradiction;intro hi;rw [Nat.testBit_lt_two_pow (Nat.lt_of_lt_of_le hx (Nat.pow_le_pow_right (by omega) (by omega)))] at h;exact absurd h (by simp)
def IsClosure (n:Nat)(r F:Nat->Nat->Prop):Prop :=
 (∀ a b,a<n->b<n->r a b->F a b)/\(∀ a b c,a<n->b<n->c<n->F a b->F b c->F a c) /\
 ∀ T:Nat->Nat->Prop,(∀ a b,a<n->b<n->r a b->T a b)->(∀ a b c,a<n->b<n->c<n->T a b->T b c->T a c)->∀ a b,a<n->b<n->F a b->T a b
theorem closure_unique {n:Nat}{r F G:Nat->Nat->Prop}(hF:IsClosure n r F)(hG:IsClosure n r G)(a b:Nat)(ha:a<n)(hb:b<n):F a b↔G a b :=
 ⟨hF.2.2 G hG.1 hG.2.1 a b ha hb,hG.2.2 F hF.1 hF.2.1 a b ha hb⟩
structure Lat (n:Nat)(f u:Nat->Nat):Prop where
 pos:0<n
 lim:∀ i,i<n->f i<2 ^ n
 ulim:∀ i,i<n->u i<2 ^ n
 refl:∀ i,i<n->(f i).testBit i=true
 trans:∀ a b c,a<n->b<n->c<n->(f a).testBit b=true->(f b).testBit c=true->(f a).testBit c=true
 rev:∀ a b,a<n->b<n->(u b).testBit a=(f a).testBit b
 inj:∀ a b,a<n->b<n->f a=f b->a=b
 join:∀ a b,a<n->b<n->∃ p,p<n/\f p=f a &&& f b
 meet:∀ a b,a<n->b<n->∃ p,p<n/\u p=u a &&& u b
namespace Lat
variable {n:Nat} {f u:Nat->Nat} (L:Lat n f u)
include L
theorem sub {a b:Nat}(ha:a<n)(hb:b<n)(h:(f a).testBit b=true):f a &&& f b=f b:=by
 apply Nat.eq_of_testBit_eq;intro i;rw [Nat.testBit_and]
 by_cases hi:(f b).testBit i=true
 ·have:=bit_lt (L.lim b hb) hi;rw [hi,L.trans a b i ha hb this h hi];rfl
 ·simp at hi;rw [hi];simp
end Lat
end M
end Go.Proofs.YtdfpkmfeldoamaaGreatDoor.Od
namespace Go.Proofs.YtdfpkmfeldoamaaGreatDoor.Od
open Go.RowKit
theorem pow_nat (a:Nat):((2:Int) ^ a)=(M.bit a:Int):=by simp [M.bit]
theorem ret_int {k:IntKind}{a b:Int}(h:a=b):Ending.returned (.int k a) = .returned (.int k b):=by rw [h]
theorem ret_bool {a b:Bool}(h:a=b):Ending.returned (.bool a) = .returned (.bool b):=by rw [h]
theorem only_any (a:Int)(w:World)(h0:0<=a)(h1:a<32):
  Calls Tryz.prog 141 #[.int .i64 a] w fun e w'=>e = .returned (.int .u32 (M.bit a.toNat:Int))/\w=w':=by
 go_enter Tryz.func141,Tryz.ntmps141
 go_wp2
 go_ret
 refine ⟨ret_int ?_,rfl⟩;have:=M.bit_lt32 (a:=a.toNat) (by omega);rw [pow_nat];omega
theorem all_any (a:Int)(w:World)(h0:0<=a)(h1:a<=32):
  Calls Tryz.prog 154 #[.int .i64 a] w fun e w'=>e = .returned (.int .u32 (M.full a.toNat:Int))/\w=w':=by
 go_enter Tryz.func154,Tryz.ntmps154
 go_wp2
 go_ret
 refine ⟨ret_int ?_,rfl⟩;have hp:0<M.bit a.toNat:=Nat.two_pow_pos a.toNat;have hf:M.full a.toNat=M.bit a.toNat-1:=rfl;rw [pow_nat]
 by_cases h:a.toNat<32
 ·have:=M.bit_lt32 h;omega
 ·have e:a.toNat=32:=by omega
  rw [e];rfl
theorem contains_any (s:Nat)(a:Int)(w:World)(hs:s<4294967296)(h0:0<=a)(h1:a<32):
  Calls Tryz.prog 171 #[.int .u32 (s:Int),.int .i64 a] w fun e w'=>e = .returned (.bool (s.testBit a.toNat))/\w=w':=by
 have hl:=M.bit_lt32 (a:=a.toNat) (by omega)
 go_enter Tryz.func171,Tryz.ntmps171
 go_wp2_with fail
 refine (only_any _ _ (by omega) (by omega)).mono ?_;rintro e w' ⟨rfl,rfl⟩
 go_wp2
 go_ret
 refine ⟨ret_bool ?_,rfl⟩;rw [u32_and_nat s _ hs hl,<- M.and_bit];rw [Bool.eq_iff_iff];simp
def RowAt (w:World)(b n:Nat)(f:Nat->Nat):Prop:=∀ i,i<n->w.cell? ⟨b,i,none⟩=some (.int .u32 (f i:Int))
theorem find_any (b n x:Nat)(f:Nat->Nat)(w:World)(hn:n<=32)(hr:RowAt w b n f):
  Calls Tryz.prog 153 #[.slice (some ⟨b,0,none⟩) n n,.int .u32 (x:Int)] w fun e w'=>e = .returned (.int .i64 (M.findN f x n))/\w=w':=by
 go_enter Tryz.func153,Tryz.ntmps153
 go_wp2
 go_loop [9] (fun i=>∃ k:Nat,k<=n/\i = .int .i64 k/\∀ j,j<k->f j≠x) (fun i=>n-(intOf i).toNat)
 case atStart=>exact ⟨0,Nat.zero_le _,rfl,by intro j hj;omega⟩
 case round =>
  obtain ⟨k,hk,rfl,hno⟩:=hrel;have HNO:=Lib.hid hno;clear hno
  by_cases hlt:k<n
  ·have hc:=hr k hlt
   by_cases he:f k=x
   ·have HE:=Lib.hid he;have hb:((f k:Int)==(x:Int))=true:=by simp [he]
    clear he
    go_wp2
    go_ret
    exact ⟨ret_int (M.findN_hit HNO.out hlt HE.out).symm,rfl⟩
   ·have hb:((f k:Int)==(x:Int))=false:=by simp;omega
    have HE:=Lib.hid he;clear he
    go_wp2
    go_round
    case rel =>
     refine ⟨k+1,by omega,by go_num, ?_⟩;intro j hj
     by_cases hjk:j=k
     ·subst hjk;exact HE.out
     ·exact HNO.out j (by omega)
    case measure=>simp [intOf];omega
  ·have:k=n:=by omega
   subst this
   go_wp2
   go_ret
   exact ⟨ret_int (M.findN_miss HNO.out).symm,rfl⟩
end Go.Proofs.YtdfpkmfeldoamaaGreatDoor.Od
namespace Go.Proofs.YtdfpkmfeldoamaaGreatDoor.Od
open Go.RowKit
structure OrdAt (w:World)(o n ba bu:Nat)(f u:Nat->Nat):Prop where
 n32:n<=32
 c0:w.cell? ⟨o,0,none⟩=some (.slice (some ⟨ba,0,none⟩) n n)
 c1:w.cell? ⟨o,1,none⟩=some (.slice (some ⟨bu,0,none⟩) n n)
 ra:RowAt w ba n f
 ru:RowAt w bu n u
 fl:∀ i,i<n->f i<4294967296
 ul:∀ i,i<n->u i<4294967296
theorem RowAt.drewN {w:World}{b n:Nat}{f:Nat->Nat}(h:RowAt w b n f)(k:Nat):RowAt (w.drewN k) b n f:=fun i hi=>by
 simpa using h i hi
theorem OrdAt.drewN {w:World}{o n ba bu:Nat}{f u:Nat->Nat}(h:OrdAt w o n ba bu f u)(k:Nat):OrdAt (w.drewN k) o n ba bu f u :=
 ⟨h.n32,by simpa using h.c0,by simpa using h.c1,h.ra.drewN k,h.ru.drewN k,h.fl,h.ul⟩
theorem len_any (w:World)(o n ba:Nat)(h:w.cell? ⟨o,0,none⟩=some (.slice (some ⟨ba,0,none⟩) n n)):
  Calls Tryz.prog 170 #[.pointer (some ⟨o,0,none⟩)] w fun e w'=>e = .returned (.int .i64 n)/\w=w':=by
 go_enter Tryz.func170,Tryz.ntmps170
 go_wp2
 go_ret
 exact ⟨rfl,rfl⟩
def hasB (n:Nat)(a:Int):Bool:=decide (0<=a/\a<(n:Int))
theorem hasB_true {n:Nat}{a:Int}(h0:0<=a)(h1:a<(n:Int)):hasB n a=true:=by simp [hasB,h0,h1]
theorem hasB_false {n:Nat}{a:Int}(h:a<0\/(n:Int)<=a):hasB n a=false:=by simp [hasB];omega
theorem of_hasB {n:Nat}{a:Int}(h:hasB n a=true):0<=a/\a<(n:Int):=by simpa [hasB] using h
theorem has_any (w:World)(o n ba:Nat)(a:Int)(h:w.cell? ⟨o,0,none⟩=some (.slice (some ⟨ba,0,none⟩) n n)):
  Calls Tryz.prog 142 #[.pointer (some ⟨o,0,none⟩),.int .i64 a] w fun e w'=>e = .returned (.bool (hasB n a))/\w=w':=by
 by_cases h0:0<=a
 ·by_cases h1:a<(n:Int)
  ·rw [hasB_true h0 h1]
   go_enter Tryz.func142,Tryz.ntmps142
   go_wp2_with fail
   refine (len_any _ o n ba h).mono ?_;rintro e w' ⟨rfl,rfl⟩
   go_wp2
   go_ret
   exact ⟨rfl,rfl⟩
  ·rw [hasB_false (Or.inr (by omega))];have h1':decide (a<(n:Int))=false:=by simp;omega
   go_enter Tryz.func142,Tryz.ntmps142
   go_wp2_with fail
   refine (len_any _ o n ba h).mono ?_;rintro e w' ⟨rfl,rfl⟩
   go_wp2
   go_ret
   exact ⟨rfl,rfl⟩
 ·rw [hasB_false (Or.inl (by omega))];have h0':decide (0<=a)=false:=by simp;omega
  go_enter Tryz.func142,Tryz.ntmps142
  go_wp2
  go_ret
  exact ⟨rfl,rfl⟩
theorem join_in (w:World)(o n ba bu:Nat)(f u:Nat->Nat)(a b:Int)(h:OrdAt w o n ba bu f u)(ha0:0<=a)(ha1:a<(n:Int))(hb0:0<=b)(hb1:b<(n:Int)):
  Calls Tryz.prog 122 #[.pointer (some ⟨o,0,none⟩),.int .i64 a,.int .i64 b] w fun e w'=>e = .returned (.int .i64 (M.findN f (f a.toNat &&& f b.toNat) n))/\∃ k,w'=w.drewN k:=by
 have hn:=h.n32;have hc0:=h.c0;have hra:=h.ra;have hca:=h.ra a.toNat (by omega);have hcb:=h.ra b.toNat (by omega);have hfa:=h.fl a.toNat (by omega);have hfb:=h.fl b.toNat (by omega);have ea:=hasB_true ha0 ha1;have eb:=hasB_true hb0 hb1;have hand:=u32_and_nat (f a.toNat) (f b.toNat) hfa hfb
 go_enter Tryz.func122,Tryz.ntmps122
 go_wp2_with fail
 refine (has_any _ o n ba a hc0).mono ?_;rintro e w' ⟨rfl,rfl⟩;rw [ea]
 go_wp2_with fail
 refine (has_any _ o n ba b hc0).mono ?_;rintro e w' ⟨rfl,rfl⟩;rw [eb]
 go_wp2_with fail
 go_quiet ((go_at_call 153;exact Calls.quiet_of_same ((find_any ba n _ f _ hn (hra.drewN _)).mono fun e w' ⟨he,hw⟩=>⟨he,hw.symm⟩)))
 go_wp2
 go_ret
 exact ⟨rfl,_,rfl⟩
theorem meet_in (w:World)(o n ba bu:Nat)(f u:Nat->Nat)(a b:Int)(h:OrdAt w o n ba bu f u)(ha0:0<=a)(ha1:a<(n:Int))(hb0:0<=b)(hb1:b<(n:Int)):
  Calls Tryz.prog 172 #[.pointer (some ⟨o,0,none⟩),.int .i64 a,.int .i64 b] w fun e w'=>e = .returned (.int .i64 (M.findN u (u a.toNat &&& u b.toNat) n))/\∃ k,w'=w.drewN k:=by
 have hn:=h.n32;have hc0:=h.c0;have hc1:=h.c1;have hra:=h.ru;have hca:=h.ru a.toNat (by omega);have hcb:=h.ru b.toNat (by omega);have hfa:=h.ul a.toNat (by omega);have hfb:=h.ul b.toNat (by omega);have ea:=hasB_true ha0 ha1;have eb:=hasB_true hb0 hb1;have hand:=u32_and_nat (u a.toNat) (u b.toNat) hfa hfb
 go_enter Tryz.func172,Tryz.ntmps172
 go_wp2_with fail
 refine (has_any _ o n ba a hc0).mono ?_;rintro e w' ⟨rfl,rfl⟩;rw [ea]
 go_wp2_with fail
 refine (has_any _ o n ba b hc0).mono ?_;rintro e w' ⟨rfl,rfl⟩;rw [eb]
 go_wp2_with fail
 go_quiet ((go_at_call 153;exact Calls.quiet_of_same ((find_any bu n _ u _ hn (hra.drewN _)).mono fun e w' ⟨he,hw⟩=>⟨he,hw.symm⟩)))
 go_wp2
 go_ret
 exact ⟨rfl,_,rfl⟩
end Go.Proofs.YtdfpkmfeldoamaaGreatDoor.Od
namespace Go.Proofs.YtdfpkmfeldoamaaGreatDoor.Od
open Go.RowKit
structure Only (B:Nat)(w w':World):Prop where
 os:w'.os=w.os
 tape:w'.tape=w.tape
 output:w'.output=w.output
 size:w'.heap.size=w.heap.size
 block:∀ k,k≠B->w'.heap[k]? = w.heap[k]?
 frozen:∀ p,w'.frozen? p=w.frozen? p
theorem Only.refl (B:Nat)(w:World):Only B w w:=⟨rfl,rfl,rfl,rfl,fun _ _=>rfl,fun _=>rfl⟩
theorem Only.trans {B:Nat}{a b c:World}(h:Only B a b)(k:Only B b c):Only B a c :=
 ⟨k.os.trans h.os,k.tape.trans h.tape,k.output.trans h.output,k.size.trans h.size,fun i hi=>(k.block i hi).trans (h.block i hi),fun p=>(k.frozen p).trans (h.frozen p)⟩
theorem Only.drew {B:Nat}{a w:World}(h:Only B a w):Only B a w.drew:=⟨h.os,h.tape,h.output,h.size,h.block,h.frozen⟩
theorem Only.drewN {B:Nat}{a w:World}(h:Only B a w)(n:Nat):Only B a (w.drewN n):=⟨h.os,h.tape,h.output,h.size,h.block,h.frozen⟩
theorem Only.setCell {B:Nat}{a w:World}(h:Only B a w)(i:Nat)(v:Value):Only B a (w.setCell ⟨B,i,none⟩ v) :=
 h.trans ⟨rfl,rfl,rfl,by simp,fun k hk=>Below.heap_setCell _ _ _ _ (by simpa using hk),fun p=>by simp⟩
theorem Only.cell {B:Nat}{w w':World}(h:Only B w w'){b i:Nat}(hp:b≠B):w'.cell? ⟨b,i,none⟩=w.cell? ⟨b,i,none⟩ :=
 World.cell?_of_block (w:=w) (h.block b hp)
theorem Only.row {B:Nat}{w w':World}(h:Only B w w'){b n:Nat}{f:Nat->Nat}(hp:b≠B)(hr:RowAt w b n f):RowAt w' b n f :=
 fun i hi=>by rw [h.cell hp];exact hr i hi
theorem Only.below {B B':Nat}{w w':World}(h:Only B w w')(hB:B'<=B):Below B' w w' :=
 ⟨h.os,h.tape,h.output,by rw [h.size];omega,fun k hk=>h.block k (by omega)⟩
theorem RowAt.congr {w:World}{b n:Nat}{f g:Nat->Nat}(h:RowAt w b n f)(e:∀ i,i<n->f i=g i):RowAt w b n g :=
 fun i hi=>by rw [<- e i hi];exact h i hi
theorem RowAt.drew {w:World}{b n:Nat}{f:Nat->Nat}(h:RowAt w b n f):RowAt w.drew b n f:=fun i hi=>by simpa using h i hi
theorem RowAt.set {w:World}{b n j x:Nat}{f:Nat->Nat}(h:RowAt w b n f):RowAt (w.setCell ⟨b,j,none⟩ (.int .u32 (x:Int))) b n (fun i=>if i=j then x else f i):=by
 intro i hi
 by_cases e:i=j
 ·subst e;simp only [if_true];exact World.cell?_setCell_same _ _ _ (h i hi)
 ·have hne:(⟨b,j,none⟩:Addr)≠⟨b,i,none⟩:=by intro hh;simp only [Addr.mk.injEq] at hh;omega
  rw [World.cell?_setCell_other _ _ _ _ hne];simp only [e,if_false];exact h i hi
namespace M
structure CInv (n:Nat)(f:Nat->Nat)(k:Nat)(g:Nat->Nat):Prop where
 lim:∀ a,a<n->g a<2 ^ n
 has:∀ a b,a<n->b<n->(f a).testBit b=true->(g a).testBit b=true
 thru:∀ m a b,m<k->m<n->a<n->b<n->(g a).testBit m=true->(g m).testBit b=true->(g a).testBit b=true
 least:∀ T:Nat->Nat->Prop,(∀ a b,a<n->b<n->(f a).testBit b=true->T a b)->(∀ a b c,a<n->b<n->c<n->T a b->T b c->T a c)->∀ a b,a<n->b<n->(g a).testBit b=true->T a b
theorem CInv.start {n:Nat}{f:Nat->Nat}(h:∀ a,a<n->f a<2 ^ n):CInv n f 0 f :=
 ⟨h,fun _ _ _ _ h=>h,fun _ _ _ h=>by omega,fun T h1 _ a b ha hb h=>h1 a b ha hb h⟩
def stepTo (g:Nat->Nat)(m j:Nat)(a:Nat):Nat:=if a<j/\(g a).testBit m=true then g a ||| g m else g a
theorem stepTo_zero (g:Nat->Nat)(m a:Nat):stepTo g m 0 a=g a:=by simp [stepTo]
theorem stepTo_at (g:Nat->Nat)(m j:Nat):stepTo g m j j=g j:=by simp [stepTo]
theorem stepTo_mid (g:Nat->Nat)(m j:Nat):stepTo g m j m=g m:=by simp [stepTo]
theorem stepTo_yes (g:Nat->Nat)(m j a:Nat)(h:(g j).testBit m=true):stepTo g m (j+1) a=if a=j then g j ||| g m else stepTo g m j a:=by
 unfold stepTo
 by_cases e:a=j
 ·subst e;simp [h]
 ·have:a<j+1↔a<j:=by omega
  simp [e,this]
theorem stepTo_no (g:Nat->Nat)(m j a:Nat)(h:(g j).testBit m=false):stepTo g m (j+1) a=stepTo g m j a:=by
 unfold stepTo
 by_cases e:a=j
 ·subst e;simp [h]
 ·have:a<j+1↔a<j:=by omega
  simp [this]
theorem stepTo_bit (g:Nat->Nat)(m n a b:Nat)(ha:a<n):(stepTo g m n a).testBit b=((g a).testBit b || ((g a).testBit m && (g m).testBit b)):=by
 unfold stepTo
 by_cases h:(g a).testBit m=true
 ·simp [ha,h]
 ·simp at h;simp [h]
theorem CInv.step {n k:Nat}{f g:Nat->Nat}(h:CInv n f k g)(hk:k<n):CInv n f (k+1) (stepTo g k n) where
 lim a ha:=by
  unfold stepTo
  split
  ·exact Nat.or_lt_two_pow (h.lim a ha) (h.lim k hk)
  ·exact h.lim a ha
 has a b ha hb hf:=by rw [stepTo_bit g k n a b ha,h.has a b ha hb hf];rfl
 thru m a b hm hmn ha hb h1 h2:=by
  rw [stepTo_bit g k n _ _ ha] at h1 ⊢;rw [stepTo_bit g k n _ _ hmn] at h2;simp only [Bool.or_eq_true,Bool.and_eq_true] at h1 h2 ⊢
  by_cases e:m=k
  ·subst e
   rcases h1 with h1 | ⟨h1,_⟩ <;> rcases h2 with h2 | ⟨_,h2⟩ <;> exact Or.inr ⟨h1,h2⟩
  ·have t:=h.thru m
   rcases h1 with h1 | ⟨h1,h1'⟩ <;> rcases h2 with h2 | ⟨h2,h2'⟩
   ·exact Or.inl (t a b (by omega) hmn ha hb h1 h2)
   ·exact Or.inr ⟨t a k (by omega) hmn ha hk h1 h2,h2'⟩
   ·exact Or.inr ⟨h1,t k b (by omega) hmn hk hb h1' h2⟩
   ·exact Or.inr ⟨h1,h2'⟩
 least T h1 h2 a b ha hb hs:=by
  rw [stepTo_bit g k n a b ha] at hs;simp only [Bool.or_eq_true,Bool.and_eq_true] at hs
  rcases hs with hs | ⟨hs,hs'⟩
  ·exact h.least T h1 h2 a b ha hb hs
  ·exact h2 a k b ha hk hb (h.least T h1 h2 a k ha hk hs) (h.least T h1 h2 k b hk hb hs')
theorem CInv.closure {n:Nat}{f g:Nat->Nat}(h:CInv n f n g):IsClosure n (fun a b=>(f a).testBit b=true) (fun a b=>(g a).testBit b=true) :=
 ⟨h.has,fun a b c ha hb hc h1 h2=>h.thru b a c hb hb ha hc h1 h2,h.least⟩
end M
end Go.Proofs.YtdfpkmfeldoamaaGreatDoor.Od
namespace Go.Proofs.YtdfpkmfeldoamaaGreatDoor.Od
open Go.RowKit
theorem lt32 {n x:Nat}(hn:n<=32)(h:x<2 ^ n):x<4294967296:=by
 have:2 ^ n<=2 ^ 32:=Nat.pow_le_pow_right (by omega) hn;omega
theorem complete_any (w:World)(o n ba:Nat)(f:Nat->Nat)(hn:n<=32)(hc0:w.cell? ⟨o,0,none⟩=some (.slice (some ⟨ba,0,none⟩) n n))(hra:RowAt w ba n f)(hob:o≠ba)
  (hfl:∀ a,a<n->f a<2 ^ n) (hfz:∀ i,i<n->w.frozen? ⟨ba,i,none⟩=false):
  Calls Tryz.prog 143 #[.pointer (some ⟨o,0,none⟩)] w fun e w'=>e = .returned (.tuple #[])/\∃ g,M.CInv n f n g/\RowAt w' ba n g/\Only ba w w':=by
 have HRA:=Lib.hid hra;clear hra;have HFL:=Lib.hid hfl;clear hfl;have HFZ:=Lib.hid hfz;clear hfz
 go_enter Tryz.func143,Tryz.ntmps143
 go_wp2
 go_loopw [9] (fun i wr=>∃ (k:Nat) (g:Nat->Nat),k<=n/\i = .int .i64 k/\M.CInv n f k g/\RowAt wr ba n g/\Only ba w wr) (fun i _=>n-(intOf i).toNat)
 case atStart=>exact ⟨0,f,Nat.zero_le _,rfl,M.CInv.start HFL.out,HRA.out,Only.refl _ _⟩
 case round =>
  obtain ⟨k,g,hk,rfl,hci,hrow,hon⟩:=hrel;have hcr:wr.cell? ⟨o,0,none⟩=some (.slice (some ⟨ba,0,none⟩) n n):=by rw [hon.cell hob];exact hc0
  by_cases hlt:k<n
  ·go_wp2
   go_loopw [17] (fun i ws=>∃ (j:Nat),j<=n/\i = .int .i64 j/\RowAt ws ba n (M.stepTo g k j)/\Only ba w ws) (fun i _=>n-(intOf i).toNat)
   case atStart=>exact ⟨0,Nat.zero_le _,rfl,hrow.congr (fun i _=>(M.stepTo_zero g k i).symm),hon⟩
   case round =>
    obtain ⟨j,hj,rfl,hrow',hon'⟩:=hrel;clear hrow hon hcr;have hcr:wr.cell? ⟨o,0,none⟩=some (.slice (some ⟨ba,0,none⟩) n n):=by rw [hon'.cell hob];exact hc0
    by_cases hlj:j<n
    ·have hfj:wr.frozen? ⟨ba,j,none⟩=false:=by rw [hon'.frozen];exact HFZ.out j hlj
     have hcj:wr.cell? ⟨ba,j,none⟩=some (.int .u32 (g j:Int)):=by rw [hrow' j hlj,M.stepTo_at]
     have hck:wr.cell? ⟨ba,k,none⟩=some (.int .u32 (g k:Int)):=by rw [hrow' k hlt,M.stepTo_mid]
     have gj:=lt32 hn (hci.lim j hlj);have gk:=lt32 hn (hci.lim k hlt);have hor:=u32_or_nat (g j) (g k) gj gk
     go_wp2_with fail
     refine (contains_any (g j) k _ gj (by omega) (by omega)).mono ?_;rintro e w' ⟨rfl,rfl⟩;simp only [Int.toNat_natCast]
     cases hb:(g j).testBit k with
     | true =>
      have HB:=Lib.hid hb;clear hb
      go_wp2
      go_region
      all_goals
       go_wp2
       go_roundw
       case rel=>exact ⟨j+1,by omega,by go_num,((hrow'.set (j:=j) (x:=g j ||| g k)).drew).congr (fun i _=>(M.stepTo_yes g k j i HB.out).symm),(hon'.setCell j _).drew⟩
       case measure=>simp [intOf];omega
     | false =>
      have HB:=Lib.hid hb;clear hb
      go_wp2
      go_roundw
      case rel=>exact ⟨j+1,by omega,by go_num,hrow'.congr (fun i _=>(M.stepTo_no g k j i HB.out).symm),hon'⟩
      case measure=>simp [intOf];omega
    ·have hjn:j=n:=by omega
     subst hjn
     go_wp2
     go_roundw
     case rel=>exact ⟨k+1,_,by omega,by go_num,hci.step hlt,hrow',hon'⟩
     case measure=>simp [intOf];omega
  ·have hkn:k=n:=by omega
   subst hkn
   go_wp2
   go_end0
   exact ⟨rfl,g,hci,hrow,hon⟩
end Go.Proofs.YtdfpkmfeldoamaaGreatDoor.Od
