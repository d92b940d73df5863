/- A part of the proof: A parser and its whole policy in memory. -/
import Derived.Test.YtdfpkmfeldoamaaGreatDoorYf
import Derived.Test.YtdfpkmfeldoamaaGreatDoorParams
set_option linter.unusedSimpArgs false
set_option linter.unusedVariables false
namespace Go.Proofs.YtdfpkmfeldoamaaGreatDoor
open Go.RowKit Tn Lx
structure HtV where
 h:Yf.Ht
 pa:Option Addr
 pc:Nat
def prCell (p:Pg.Nm × Pg.Nm):List Value:=[.string ⟨p.1.text.toArray⟩,.int .i64 p.1.at_.line,.int .i64 p.1.at_.col,.string ⟨p.2.text.toArray⟩,.int .i64 p.2.at_.line,.int .i64 p.2.at_.col]
def prsCells (l:List (Pg.Nm × Pg.Nm)):List Value:=l.flatMap prCell
theorem prsCells_snoc (l:List (Pg.Nm × Pg.Nm))(d:Pg.Nm × Pg.Nm):prsCells (l++[d])=prsCells l++prCell d:=by simp [prsCells]
def htCell (x:HtV):List Value:=[.string ⟨x.h.name.text.toArray⟩,.int .i64 x.h.name.at_.line,.int .i64 x.h.name.at_.col,.int .i64 x.h.body,.string ⟨x.h.dst.text.toArray⟩,.int .i64 x.h.dst.at_.line,.int .i64 x.h.dst.at_.col,.slice x.pa x.h.inn.length x.pc]
def htsCells (l:List HtV):List Value:=l.flatMap htCell
theorem htsCells_snoc (l:List HtV)(x:HtV):htsCells (l++[x])=htsCells l++htCell x:=by simp [htsCells]
def innV (x:HtV):Value := .slice x.pa x.h.inn.length x.pc
def nmV (n:Pg.Nm):Value := .agg #[.string ⟨n.text.toArray⟩,.int .i64 n.at_.line,.int .i64 n.at_.col]
def polF (bt:Nat)(V:Nat->Value)(a:Pg.Nm):Array Value:=#[.pointer (some ⟨bt,0,none⟩),V 1,V 2,V 3,.string ⟨a.text.toArray⟩,.int .i64 a.at_.line,.int .i64 a.at_.col,V 7]
def yparF (r q:Nat):Array Value:=#[.pointer (some ⟨r,0,none⟩),.pointer (some ⟨q,0,none⟩)]
theorem polF_put {bt:Nat}{V:Nat->Value}{a:Pg.Nm}{i:Nat}{v:Value}(hi:i=1\/i=2\/i=3\/i=7):(polF bt V a).setIfInBounds i v=polF bt (Vup V i v) a:=by
 rcases hi with rfl | rfl | rfl | rfl <;> rfl
theorem polF_get {bt:Nat}{V:Nat->Value}{a:Pg.Nm}{i:Nat}(hi:i=1\/i=2\/i=3\/i=7):(polF bt V a)[i]? = some (V i):=by
 rcases hi with rfl | rfl | rfl | rfl <;> rfl
structure Qm (c:Cx)(q pp:Nat)(V:Nat->Value)(fs:List HtV)(w:World)(g:Yf.St):Prop where
 par:w.heap[pp]? = some (.cells (yparF c.r q) 87 (0,0))
 pol:w.heap[q]? = some (.cells (polF c.bt V g.att) 84 (0,0))
 conf:w.ownsRow c.B 49 3 (V 1) g.conf.length (nmsCells g.conf)
 integ:w.ownsRow c.B 49 3 (V 2) g.integ.length (nmsCells g.integ)
 ord:w.ownsRow c.B 195 6 (V 3) g.ord.length (prsCells g.ord)
 hat:w.ownsRow c.B 56 8 (V 7) fs.length (htsCells fs)
 ish:fs.map (·.h)=g.hat
 ins:∀ x∈fs,w.ownsRow c.B 49 3 (innV x) x.h.inn.length (nmsCells x.h.inn)
 apart:∀ k,(V 1).ownBlock=some k->(V 2).ownBlock≠some k
 apart1:∀ x∈fs,∀ k,(innV x).ownBlock=some k->(V 1).ownBlock≠some k/\(V 2).ownBlock≠some k
 ppB:c.B<=pp
 qB:c.B<=q
section
variable {c:Cx} {q pp:Nat} {V:Nat->Value} {fs:List HtV} {w w':World} {g:Yf.St}
theorem Qm.p0 (h:Qm c q pp V fs w g):w.cell? ⟨pp,0,none⟩=some (.pointer (some ⟨c.r,0,none⟩)):=(blk_cell h.par 0).trans rfl
theorem Qm.p1 (h:Qm c q pp V fs w g):w.cell? ⟨pp,1,none⟩=some (.pointer (some ⟨q,0,none⟩)):=(blk_cell h.par 1).trans rfl
theorem Qm.gv (h:Qm c q pp V fs w g){i:Nat}(hi:i=1\/i=2\/i=3\/i=7):w.cell? ⟨q,i,none⟩=some (V i):=(blk_cell h.pol i).trans (polF_get hi)
theorem Qm.g0 (h:Qm c q pp V fs w g):w.cell? ⟨q,0,none⟩=some (.pointer (some ⟨c.bt,0,none⟩)):=(blk_cell h.pol 0).trans rfl
theorem Qm.g4 (h:Qm c q pp V fs w g):w.cell? ⟨q,4,none⟩=some (.string ⟨g.att.text.toArray⟩):=(blk_cell h.pol 4).trans rfl
theorem Qm.g5 (h:Qm c q pp V fs w g):w.cell? ⟨q,5,none⟩=some (.int .i64 g.att.at_.line):=(blk_cell h.pol 5).trans rfl
theorem Qm.g6 (h:Qm c q pp V fs w g):w.cell? ⟨q,6,none⟩=some (.int .i64 g.att.at_.col):=(blk_cell h.pol 6).trans rfl
theorem Qm.gf (h:Qm c q pp V fs w g)(i:Nat):w.frozen? ⟨q,i,none⟩=false:=blk_frozen h.pol i
theorem Qm.qp (h:Qm c q pp V fs w g):q≠pp:=fun e=>by
 have h1:=h.par;have h2:=h.pol;rw [e,h1] at h2;injection h2 with h2;injection h2 with _ h2;exact absurd h2 (by decide)
theorem Qm.but (h:Qm c q pp V fs w g){p:Nat->Prop}(hb:But p w w')(h1:¬ p pp)(h2:¬ p q)(h3:∀ k cs t fr,w.heap[k]? = some (.cells cs t fr)->c.B<=k->(t=49\/t=195\/t=56)->((V 7).ownBlock=some k\/t≠56)->¬ p k):Qm c q pp V fs w' g :=
 ⟨hb.heap h.par h1,hb.heap h.pol h2,hb.own h.conf (fun k hk=>by obtain ⟨e0,cur,e⟩:=own_tag h.conf hk;exact h3 k _ _ _ e e0 (.inl rfl) (.inr (by decide))),hb.own h.integ (fun k hk=>by obtain ⟨e0,cur,e⟩:=own_tag h.integ hk;exact h3 k _ _ _ e e0 (.inl rfl) (.inr (by decide))),
  hb.own h.ord (fun k hk=>by obtain ⟨e0,cur,e⟩:=own_tag h.ord hk;exact h3 k _ _ _ e e0 (.inr (.inl rfl)) (.inr (by decide))),hb.own h.hat (fun k hk=>by obtain ⟨e0,cur,e⟩:=own_tag h.hat hk;exact h3 k _ _ _ e e0 (.inr (.inr rfl)) (.inl hk)),h.ish,
  fun x hx=>hb.own (h.ins x hx) (fun k hk=>by obtain ⟨e0,cur,e⟩:=own_tag (h.ins x hx) hk;exact h3 k _ _ _ e e0 (.inl rfl) (.inr (by decide))),h.apart,h.apart1,h.ppB,h.qB⟩
theorem Qm.below (h:Qm c q pp V fs w g)(hb:Below w.heap.size w w'):Qm c q pp V fs w' g:=h.but (p:=fun _=>False) (But.of_below hb) (fun e=>e) (fun e=>e) (fun _ _ _ _ _ _ _ _ e=>e)
theorem Qm.kp (h:Qm c q pp V fs w g)(hr:c.r<c.B)(hb:c.bt<c.B)(hk:Kp c w w'):Qm c q pp V fs w' g:=by
 have hp:=h.ppB;have hq:=h.qB;refine h.but hk ?_ ?_ ?_
 ·rintro (e | e | ⟨_,cs,fr,e⟩)
  ·omega
  ·omega
  ·rw [h.par] at e;injection e with e;injection e with _ e;exact absurd e (by decide)
 ·rintro (e | e | ⟨_,cs,fr,e⟩)
  ·omega
  ·omega
  ·rw [h.pol] at e;injection e with e;injection e with _ e;exact absurd e (by decide)
 ·intro k cs t fr hk1 hB ht _;rintro (e | e | ⟨_,cs',fr',e⟩)
  ·omega
  ·omega
  ·rw [hk1] at e;injection e with e;injection e with _ e
   rcases ht with ht | ht | ht <;> (rw [ht] at e;exact absurd e (by decide))
theorem Qm.freeD {bd:Nat}{cs:Array Value}{fr:Nat × Nat}(h:Qm c q pp V fs w g)(hr:c.r<c.B)(hb:c.bt<c.B)(hd:w.heap[bd]? = some (.cells cs 56 fr))(hn:(V 7).ownBlock≠some bd)(hk:But (FreeD c bd w) w w'):Qm c q pp V fs w' g:=by
 have hp:=h.ppB;have hq:=h.qB;refine h.but hk ?_ ?_ ?_
 ·rintro ((e | e | ⟨_,cs,fr,e⟩) | e)
  ·omega
  ·omega
  ·rw [h.par] at e;injection e with e;injection e with _ e;exact absurd e (by decide)
  ·rw [<- e,h.par] at hd;injection hd with e;injection e with _ e;exact absurd e (by decide)
 ·rintro ((e | e | ⟨_,cs,fr,e⟩) | e)
  ·omega
  ·omega
  ·rw [h.pol] at e;injection e with e;injection e with _ e;exact absurd e (by decide)
  ·rw [<- e,h.pol] at hd;injection hd with e;injection e with _ e;exact absurd e (by decide)
 ·intro k cs t fr hk1 hB ht ho;rintro ((e | e | ⟨_,cs',fr',e⟩) | e)
  ·omega
  ·omega
  ·rw [hk1] at e;injection e with e;injection e with _ e
   rcases ht with ht | ht | ht <;> (rw [ht] at e;exact absurd e (by decide))
  ·rcases ho with ho | ho
   ·exact hn (e ▸ ho)
   ·rw [e,hd] at hk1;injection hk1 with e1;injection e1 with _ e1;exact ho e1.symm
end
def FreeY (c:Cx)(q:Nat)(w:World)(k:Nat):Prop:=k=c.r\/k=c.bt\/k=q\/(c.B<=k/\∃ cs t fr,w.heap[k]? = some (.cells cs t fr)/\(t=165\/t=49\/t=195\/t=56))
def Ky (c:Cx)(q:Nat)(w w':World):Prop:=But (FreeY c q w) w w'
theorem Ky.of_kp {c:Cx}{q:Nat}{w w':World}(h:Kp c w w'):Ky c q w w':=But.mono h fun k _ e=>by
 rcases e with e | e | ⟨e,cs,fr,e1⟩
 ·exact .inl e
 ·exact .inr (.inl e)
 ·exact .inr (.inr (.inr ⟨e,cs,_,fr,e1,.inl rfl⟩))
theorem Ky.refl (c:Cx)(q:Nat)(w:World):Ky c q w w:=But.refl _ _
theorem Ky.trans {c:Cx}{q:Nat}{a b d:World}(h:Ky c q a b)(k:Ky c q b d):Ky c q a d :=
 ⟨k.os.trans h.os,k.tape.trans h.tape,k.output.trans h.output,Nat.le_trans h.size k.size,fun i hi hp=>by
  have e:=h.block i hi hp;refine (k.block i (Nat.lt_of_lt_of_le hi h.size) ?_).trans e;rintro (e1 | e1 | e1 | ⟨e1,cs,t,fr,e2,e3⟩)
  ·exact hp (.inl e1)
  ·exact hp (.inr (.inl e1))
  ·exact hp (.inr (.inr (.inl e1)))
  ·exact hp (.inr (.inr (.inr ⟨e1,cs,t,fr,e ▸ e2,e3⟩)))⟩
theorem Ky.size {c:Cx}{q:Nat}{a b:World}(h:Ky c q a b):a.heap.size<=b.heap.size:=But.size h
theorem Ky.then_below {c:Cx}{q:Nat}{a b d:World}(h:Ky c q a b)(k:Below b.heap.size b d):Ky c q a d:=h.trans (Ky.of_kp (Kp.of_below k))
theorem Ky.below {c:Cx}{q N:Nat}{a b:World}(h:Ky c q a b)(hN:N<=a.heap.size)(h1:N<=c.r)(h2:N<=c.bt)(h3:N<=c.B)(h4:N<=q):Below N a b :=
 But.below h hN (fun k hk=>by
  rcases hk with e | e | e | ⟨e,_⟩ <;> omega)
theorem Ky.map {c:Cx}{q:Nat}{a b:World}(h:Ky c q a b){k cl:Nat}{es:Array MapEntry}(hk:a.heap[k]? = some (.map es cl))(h1:k≠c.r)(h2:k≠c.bt)(h3:k≠q):b.heap[k]? = some (.map es cl) :=
 (h.block k (lt_of_heap hk) (by
  rintro (e | e | e | ⟨_,cs,t,fr,e,_⟩)
  ·exact h1 e
  ·exact h2 e
  ·exact h3 e
  ·rw [hk] at e;cases e)).trans hk
theorem freeL_ky {c:Cx}{q:Nat}{v:Value}{w w':World}{n z:Nat}{t:TypeId}{xs:List Value}(h:But (FreeL c q v w) w w')(ho:w.ownsRow c.B t z v n xs)(ht:t=49\/t=195\/t=56):Ky c q w w':=But.mono h fun k _ e=>by
 rcases e with (e | e | ⟨e,cs,fr,e1⟩) | e | e
 ·exact .inl e
 ·exact .inr (.inl e)
 ·exact .inr (.inr (.inr ⟨e,cs,_,fr,e1,.inl rfl⟩))
 ·exact .inr (.inr (.inl e))
 ·obtain ⟨e0,cur,e1⟩:=own_tag ho e;exact .inr (.inr (.inr ⟨e0,cur,_,_,e1,.inr ht⟩))
theorem row_other5 {c:Cx}{q:Nat}{v u:Value}{w w':World}{cs:Array Value}{t:TypeId}{z m:Nat}{ys:List Value}(hr:c.r<c.B)(hb:c.bt<c.B)(hq:w.heap[q]? = some (.cells cs 84 (0,0)))(hu:w.ownsRow c.B t z u m ys)(ht:t≠165/\t≠84)(hB:But (FreeL c q v w) w w')(ha:∀ k,u.ownBlock=some k->v.ownBlock≠some k):w'.ownsRow c.B t z u m ys :=
 hB.own hu (fun k hk e=>by
  obtain ⟨e0,cur,e1⟩:=own_tag hu hk
  rcases e with (e | e | ⟨_,cs,fr,e⟩) | e | e
  ·omega
  ·omega
  ·rw [e1] at e;injection e with e;injection e with _ e;exact ht.1 e
  ·rw [e,hq] at e1;injection e1 with e1;injection e1 with _ e1;exact ht.2 e1.symm
  ·exact ha k hk e)
theorem own_apart5 {w:World}{B t1 t2 z1 z2:Nat}{v u:Value}{n m:Nat}{xs ys:List Value}(h1:w.ownsRow B t1 z1 v n xs)(h2:w.ownsRow B t2 z2 u m ys)(ht:t1≠t2):∀ k,u.ownBlock=some k->v.ownBlock≠some k:=fun k hk e=>by
 obtain ⟨_,c1,e1⟩:=own_tag h1 e;obtain ⟨_,c2,e2⟩:=own_tag h2 hk;rw [e1] at e2;injection e2 with e2;injection e2 with _ e2;exact ht e2
theorem apart_new5 {w:World}{B t z m:Nat}{v v' u:Value}{ys:List Value}(hv:v'.ownBlock=v.ownBlock\/∃ g,v'.ownBlock=some g/\w.heap.size<=g)(hu:w.ownsRow B t z u m ys)(ha:∀ k,v.ownBlock=some k->u.ownBlock≠some k):∀ k,v'.ownBlock=some k->u.ownBlock≠some k:=fun k hk e=>by
 rcases hv with h | ⟨g,h,hg⟩
 ·rw [h] at hk;exact ha k hk e
 ·rw [h] at hk;injection hk with hk
  obtain ⟨_,cur,e1⟩:=own_tag hu e;have:=lt_of_heap e1;omega
def ReadQ (c:Cx)(X:Nat->Prop)(w:World)(q pp:Nat)(R:Pg.R Yf.St)(e:Ending)(w':World):Prop :=
 (∃ g s V fs,R = .ok g s/\e = .returned .nilIface/\Rd c X w' s/\Qm c q pp V fs w' g/\Ky c q w w')\/(∃ cd p n,R = .bad cd p n/\e = .returned (dvalN cd p n)/\Ky c q w w')
def NmP (c:Cx)(X:Nat->Prop)(w:World)(R:Ex.Res Pg.Nm)(e:Ending)(w':World):Prop :=
 (∃ n s,R = .ok n s/\e = .returned (.tuple #[nmV n,.nilIface])/\Rd c X w' s/\Kp c w w')\/(∃ cd p n,R = .bad cd p/\e = .returned (.tuple #[nmV n,dval cd p])/\Kp c w w')
end Go.Proofs.YtdfpkmfeldoamaaGreatDoor
