/- A part of the proof: Names that are declared: each is put into a map, or told. -/
import Derived.Test.YtdfpkmfeldoamaaGreatDoorSa
set_option linter.unusedSimpArgs false
set_option linter.unusedVariables false
set_option maxRecDepth 100000
set_option maxHeartbeats 8000000
namespace Go.Proofs.YtdfpkmfeldoamaaGreatDoor
open Go.RowKit Tn Lx
theorem flat_get {α:Type}(f:α->List Value)(z:Nat)(hz:∀ a,(f a).length=z):∀ (l:List α) (j t:Nat) (a:α),l[j]? = some a->t<z->(l.flatMap f)[j*z+t]? = (f a)[t]?
 | [],j,_,_,h,_=>by simp at h
 | b :: l,0,t,a,h,ht=>by
  simp at h;subst h;rw [List.flatMap_cons,Nat.zero_mul,Nat.zero_add,List.getElem?_append_left (by rw [hz];exact ht)]
 | b :: l,j+1,t,a,h,ht=>by
  rw [List.flatMap_cons,List.getElem?_append_right (by rw [hz,Nat.add_mul];omega),hz,show (j+1)*z+t-z=j*z+t by rw [Nat.add_mul];omega];exact flat_get f z hz l j t a (by simpa using h) ht
theorem own_form5 {w:World}{base:Nat}{e:TypeId}{size:Nat}{v:Value}{n:Nat}{xs:List Value}(h:w.ownsRow base e size v n xs):∃ ua uc,v = .slice ua n uc/\(0<n->∃ g,ua=some ⟨g,0,none⟩):=by
 rcases h.2 with ⟨rfl,e⟩ | ⟨g,cap,cur,rfl,_⟩
 ·exact ⟨none,0,by rw [e],fun h=>by omega⟩
 ·exact ⟨_,_,rfl,fun _=>⟨g,rfl⟩⟩
theorem But.more {p q:Nat->Prop}{a b d:World}(h:But p a b)(k:But q b d)(hq:∀ j,j<a.heap.size->q j->p j):But p a d :=
 ⟨k.os.trans h.os,k.tape.trans h.tape,k.output.trans h.output,Nat.le_trans h.size k.size,fun i hi hn=>(k.block i (Nat.lt_of_lt_of_le hi h.size) (fun e=>hn (hq i hi e))).trans (h.block i hi hn)⟩
def FrR (c:Nat)(r:Value)(j:Nat):Prop:=j=c\/r.ownBlock=some j
def Same (a:World)(r r':Value):Prop:=r'.ownBlock=r.ownBlock\/∃ g,r'.ownBlock=some g/\a.heap.size<=g
theorem Same.trans {a b:World}{r r' r'':Value}(h:Same a r r')(hs:a.heap.size<=b.heap.size)(k:Same b r' r''):Same a r r'':=by
 rcases k with e | ⟨g,e,hg⟩
 ·rcases h with h | ⟨g,h,hg⟩
  ·exact .inl (e.trans h)
  ·exact .inr ⟨g,e.trans h,hg⟩
 ·exact .inr ⟨g,e,Nat.le_trans hs hg⟩
theorem fr_more {c:Nat}{r r':Value}{a b d:World}(h:But (FrR c r) a b)(hs:Same a r r')(k:But (FrR c r') b d):But (FrR c r) a d :=
 h.more k fun j hj e=>by
  rcases e with e | e
  ·exact .inl e
  ·rcases hs with hs | ⟨g,hs,hg⟩
   ·exact .inr (hs ▸ e)
   ·rw [hs] at e;injection e with e;omega
theorem fr_row {B c base z n:Nat}{t:TypeId}{cs:Array Value}{r v:Value}{l xs:List Value}{m:Nat}{a b:World}(h:But (FrR c r) a b)(hc:a.heap[c]? = some (.cells cs 147 (0,0)))(ho:a.ownsRow B 228 5 r m l)(hv:a.ownsRow base t z v n xs)(ht:t≠147/\t≠228):b.ownsRow base t z v n xs :=
 h.own hv fun g hg e=>by
  obtain ⟨_,cur,e1⟩:=own_tag hv hg
  rcases e with e | e
  ·rw [e,hc] at e1;injection e1 with e1;injection e1 with _ e1;exact ht.1 e1.symm
  ·obtain ⟨_,cur',e2⟩:=own_tag ho e;rw [e2] at e1;injection e1 with e1;injection e1 with _ e1;exact ht.2 e1.symm
namespace Sp
theorem decl_snoc (k:Nat)(l:List Fd)(ns:List Pg.Nm)(n:Pg.Nm):decl k l (ns++[n])=step k (decl k l ns) n:=by simp [decl,List.foldl_append]
theorem fold_le (k:Nat):∀ (ns:List Pg.Nm) (s:De),s.l.length<=(ns.foldl (step k) s).l.length
 | [],s=>Nat.le_refl _
 | n :: ns,s=>Nat.le_trans (by unfold step;split <;> simp) (fold_le k ns (step k s n))
theorem fold_i (k:Nat):∀ (ns:List Pg.Nm) (s:De),(ns.foldl (step k) s).i=s.i+ns.length
 | [],s=>rfl
 | n :: ns,s=>by
  rw [List.foldl_cons,fold_i k ns,List.length_cons];have:(step k s n).i=s.i+1:=by unfold step;split <;> rfl
  rw [this];omega
theorem decl_i (k:Nat)(l:List Fd)(ns:List Pg.Nm):(decl k l ns).i=ns.length:=by rw [decl,fold_i];simp
theorem decl_take_le (k:Nat)(l:List Fd)(ns:List Pg.Nm)(j:Nat):(decl k l (ns.take j)).l.length<=(decl k l ns).l.length:=by
 have h:decl k l ns=(ns.drop j).foldl (step k) (decl k l (ns.take j)):=by rw [decl,decl,<- List.foldl_append,List.take_append_drop]
 rw [h];exact fold_le k _ _
theorem decl_ge (k:Nat)(l:List Fd)(ns:List Pg.Nm):l.length<=(decl k l ns).l.length:=fold_le k ns ⟨0,[],l⟩
end Sp
theorem take_next5 {α:Type}{l:List α}{k:Nat}{t:α}(h:l[k]? = some t):l.take (k+1)=l.take k++[t]:=by
 rw [List.take_add_one,h];rfl
structure DSt (B c i k mb:Nat)(cs:Array Value)(r:Value)(l:List Sp.Fd)(ns:List Pg.Nm)(w wr:World):Prop where
 st:∃ r',wr.heap[c]? = some (.cells (cs.setIfInBounds i r') 147 (0,0))/\wr.ownsRow B 228 5 r' (Sp.decl k l ns).l.length (fdsCells (Sp.decl k l ns).l)/\Same w r r'
 fr:But (FrR c r) w wr
 mp:MpAt wr mb (Sp.decl k l ns).m
 mbn:w.heap.size<=mb
theorem DSt.below {B c i k mb:Nat}{cs:Array Value}{r:Value}{l:List Sp.Fd}{ns:List Pg.Nm}{w wr X:World}(h:DSt B c i k mb cs r l ns w wr)(hb:Below wr.heap.size wr X):DSt B c i k mb cs r l ns w X:=by
 obtain ⟨r',h1,h2,h3⟩:=h.st;exact ⟨⟨r',(hb.block _ (lt_of_heap h1)).trans h1,own_below h2 hb,h3⟩,h.fr.trans (But.of_below hb),h.mp.below hb,h.mbn⟩
theorem DSt.put {B c i k mb q:Nat}{cs cs0:Array Value}{r:Value}{l:List Sp.Fd}{ns ns':List Pg.Nm}{w X:World}{t:Lx.B}{v:Int}(hc:w.heap[c]? = some (.cells cs0 147 (0,0)))(h:DSt B c i k mb cs r l ns w X)(hsn:Sp.decl k l ns'=⟨q,Sp.put (Sp.decl k l ns).m t v,(Sp.decl k l ns).l⟩):
  DSt B c i k mb cs r l ns' w { X with heap:=X.heap.setIfInBounds mb (.map (ents 0 (Sp.put (Sp.decl k l ns).m t v)).toArray (Sp.put (Sp.decl k l ns).m t v).length) } := by
 obtain ⟨r',h1,h2,h3⟩:=h.st;obtain ⟨m1,m2⟩:=mp_set (m':=Sp.put (Sp.decl k l ns).m t v) h.mp;have hlt:=lt_of_heap hc;have hmn:=h.mbn;have hmp:=h.mp;unfold MpAt at hmp;refine ⟨⟨r',m2.heap h1 (fun e=>by omega), ?_,h3⟩,h.fr.more m2 (fun q hq e=>by omega), ?_,hmn⟩
 ·rw [hsn];exact m2.own h2 (fun g hg e=>by obtain ⟨_,cur,e3⟩:=own_tag h2 hg;rw [e,hmp] at e3;cases e3)
 ·rw [hsn];exact m1
def DeP (B c i k:Nat)(cs:Array Value)(r:Value)(l:List Sp.Fd)(ns:List Pg.Nm)(w:World)(e:Ending)(w':World):Prop:=∃ mb,e = .returned (.map (some mb))/\DSt B c i k mb cs r l ns w w'
theorem declName_any (d:Pg.Dc)(w:World):Calls Tryz.prog 57 #[.agg #[.string ⟨d.name.text.toArray⟩,.int .i64 d.name.at_.line,.int .i64 d.name.at_.col,.string ⟨d.conf.text.toArray⟩,.int .i64 d.conf.at_.line,.int .i64 d.conf.at_.col,.string ⟨d.integ.text.toArray⟩,.int .i64 d.integ.at_.line,.int .i64 d.integ.at_.col,.int .i64 d.int]] w fun e w'=>e = .returned (.agg #[.string ⟨d.name.text.toArray⟩,.int .i64 d.name.at_.line,.int .i64 d.name.at_.col])/\Below w.heap.size w w':=by
 have kR:((w.alloc (.cells #[.string ⟨d.name.text.toArray⟩,.int .i64 d.name.at_.line,.int .i64 d.name.at_.col,.string ⟨d.conf.text.toArray⟩,.int .i64 d.conf.at_.line,.int .i64 d.conf.at_.col,.string ⟨d.integ.text.toArray⟩,.int .i64 d.integ.at_.line,.int .i64 d.integ.at_.col,.int .i64 d.int] 152)).alloc (.cells #[.string ⟨d.name.text.toArray⟩,.int .i64 d.name.at_.line,.int .i64 d.name.at_.col] 49)).heap[w.heap.size+1]? = some (.cells #[.string ⟨d.name.text.toArray⟩,.int .i64 d.name.at_.line,.int .i64 d.name.at_.col] 49 (0,0)):=by
  have:=blk_new (w.alloc (.cells #[.string ⟨d.name.text.toArray⟩,.int .i64 d.name.at_.line,.int .i64 d.name.at_.col,.string ⟨d.conf.text.toArray⟩,.int .i64 d.conf.at_.line,.int .i64 d.conf.at_.col,.string ⟨d.integ.text.toArray⟩,.int .i64 d.integ.at_.line,.int .i64 d.integ.at_.col,.int .i64 d.int] 152)) (.cells #[.string ⟨d.name.text.toArray⟩,.int .i64 d.name.at_.line,.int .i64 d.name.at_.col] 49);rwa [World.size_alloc] at this
 have r0:=(blk_cell kR 0).trans rfl;have r1:=(blk_cell kR 1).trans rfl;have r2:=(blk_cell kR 2).trans rfl
 go_enter Tryz.func57,Tryz.ntmps57
 go_wp2
 refine bodyPost_ret (v := .agg #[.string ⟨d.name.text.toArray⟩,.int .i64 d.name.at_.line,.int .i64 d.name.at_.col]) (by simp [results,Tryz.results57,go_sem,r0,r1,r2]) rfl ⟨rfl,((Below.refl _ w).alloc (Nat.le_refl _) _).alloc (by simp) _⟩
theorem decDecl_any (B c i k base:Nat)(hk:k<22)(cs:Array Value)(r u:Value)(l:List Sp.Fd)(ds:List Pg.Dc)(w:World)(hc:w.heap[c]? = some (.cells cs 147 (0,0)))(hi:cs[i]? = some r)(ho:w.ownsRow B 228 5 r l.length (fdsCells l))(hB:B<=w.heap.size)(hu:w.ownsRow base 152 10 u ds.length (cells10 ds))(hn:ds.length<=1000000000)(hl:(Sp.decl k l (ds.map (·.name))).l.length<=1000000000):
  Calls Tryz.prog 101 #[.pointer (some ⟨c,i,none⟩),.int .i64 k,u,.func (.func 57) #[] #[]] w (DeP B c i k cs r l (ds.map (·.name)) w):=by
 obtain ⟨ua,uc,rfl,hua⟩:=own_form5 hu;obtain ⟨n,hN⟩:∃ n,ds.length=n:=⟨_,rfl⟩;obtain ⟨ns,hns⟩:∃ ns,ds.map (·.name)=ns:=⟨_,rfl⟩;have hnl:ns.length=n:=by rw [<- hns,List.length_map,hN]
 have hng:∀ (j:Nat) (d:Pg.Dc),ds[j]? = some d->ns[j]? = some (d.name):=fun j d h=>by rw [<- hns,List.getElem?_map,h];rfl
 rw [hN] at hua hn;rw [hN] at hu;have hu':=hu;rw [hN];rw [hns] at hl ⊢;obtain ⟨W,hW⟩:∃ W,w.alloc (.map #[] 0)=W:=⟨_,rfl⟩;have hbW:Below w.heap.size w W:=by rw [<- hW];exact (Below.refl _ w).alloc (Nat.le_refl _) _
 have hmW:MpAt W w.heap.size []:=by rw [<- hW];exact mp_new w
 have mk:=pl_make w;rw [hW] at mk;have hst:DSt B c i k w.heap.size cs r l (ns.take 0) w W:=⟨⟨r,by rw [setp_same hi];exact (hbW.block _ (lt_of_heap hc)).trans hc,own_below ho hbW,.inl rfl⟩,But.of_below hbW,hmW,Nat.le_refl _⟩;have HST:=Lib.hid hst;have HL:=Lib.hid hl;have HNG:=Lib.hid hng;have HU:=Lib.hid hu';have HUA:=Lib.hid hua;have HC:=Lib.hid hc;have HO:=Lib.hid ho;have HNL:=Lib.hid hnl;have HNN:=Lib.hid hN;clear hst hl hng hu hu' hua hc ho hnl hW hbW hmW hns hN
 go_enter Tryz.func101,Tryz.ntmps101
 go_wp2_with fail
 go_loopw [16] (fun v wr=>∃ j:Nat,j<=n/\v = .int .i64 (j:Int)/\DSt B c i k w.heap.size cs r l (ns.take j) w wr) (fun v _=>n-(intOf v).toNat)
 case atStart=>exact ⟨0,Nat.zero_le _,rfl,HST.out⟩
 case round =>
  obtain ⟨j,hj,rfl,hs⟩:=hrel
  by_cases hlt:j<n
  ·obtain ⟨d,hd⟩:∃ d,ds[j]? = some d:=⟨_,List.getElem?_eq_getElem (by rw [HNN.out];exact hlt)⟩;obtain ⟨g,rfl⟩:=HUA.out (by omega);have hnj:=HNG.out j d hd;have hro:=fr_row hs.fr HC.out HO.out HU.out ⟨by decide,by decide⟩;have x0:wr.cell? ⟨g,j*10,none⟩=some (.string ⟨d.name.text.toArray⟩):=own_cell hro (by rw [show j*10=j*10+0 from rfl,show cells10 ds=ds.flatMap cell10 from rfl];exact (flat_get cell10 10 (fun _=>rfl) ds j 0 d hd (by omega)).trans rfl);have x1:wr.cell? ⟨g,j*10+1,none⟩=some (.int .i64 d.name.at_.line):=own_cell hro (by rw [show cells10 ds=ds.flatMap cell10 from rfl];exact (flat_get cell10 10 (fun _=>rfl) ds j 1 d hd (by omega)).trans rfl);have x2:wr.cell? ⟨g,j*10+2,none⟩=some (.int .i64 d.name.at_.col):=own_cell hro (by rw [show cells10 ds=ds.flatMap cell10 from rfl];exact (flat_get cell10 10 (fun _=>rfl) ds j 2 d hd (by omega)).trans rfl);have x3:wr.cell? ⟨g,j*10+3,none⟩=some (.string ⟨d.conf.text.toArray⟩):=own_cell hro (by rw [show cells10 ds=ds.flatMap cell10 from rfl];exact (flat_get cell10 10 (fun _=>rfl) ds j 3 d hd (by omega)).trans rfl);have x4:wr.cell? ⟨g,j*10+4,none⟩=some (.int .i64 d.conf.at_.line):=own_cell hro (by rw [show cells10 ds=ds.flatMap cell10 from rfl];exact (flat_get cell10 10 (fun _=>rfl) ds j 4 d hd (by omega)).trans rfl);have x5:wr.cell? ⟨g,j*10+5,none⟩=some (.int .i64 d.conf.at_.col):=own_cell hro (by rw [show cells10 ds=ds.flatMap cell10 from rfl];exact (flat_get cell10 10 (fun _=>rfl) ds j 5 d hd (by omega)).trans rfl);have x6:wr.cell? ⟨g,j*10+6,none⟩=some (.string ⟨d.integ.text.toArray⟩):=own_cell hro (by rw [show cells10 ds=ds.flatMap cell10 from rfl];exact (flat_get cell10 10 (fun _=>rfl) ds j 6 d hd (by omega)).trans rfl);have x7:wr.cell? ⟨g,j*10+7,none⟩=some (.int .i64 d.integ.at_.line):=own_cell hro (by rw [show cells10 ds=ds.flatMap cell10 from rfl];exact (flat_get cell10 10 (fun _=>rfl) ds j 7 d hd (by omega)).trans rfl);have x8:wr.cell? ⟨g,j*10+8,none⟩=some (.int .i64 d.integ.at_.col):=own_cell hro (by rw [show cells10 ds=ds.flatMap cell10 from rfl];exact (flat_get cell10 10 (fun _=>rfl) ds j 8 d hd (by omega)).trans rfl);have x9:wr.cell? ⟨g,j*10+9,none⟩=some (.int .i64 d.int):=own_cell hro (by rw [show cells10 ds=ds.flatMap cell10 from rfl];exact (flat_get cell10 10 (fun _=>rfl) ds j 9 d hd (by omega)).trans rfl);obtain ⟨V,hV⟩:∃ V,wr.alloc (.cells #[.string ⟨d.name.text.toArray⟩,.int .i64 d.name.at_.line,.int .i64 d.name.at_.col,.string ⟨d.conf.text.toArray⟩,.int .i64 d.conf.at_.line,.int .i64 d.conf.at_.col,.string ⟨d.integ.text.toArray⟩,.int .i64 d.integ.at_.line,.int .i64 d.integ.at_.col,.int .i64 d.int] 152)=V:=⟨_,rfl⟩;have hbV:Below wr.heap.size wr V:=by rw [<- hV];exact (Below.refl _ wr).alloc (Nat.le_refl _) _
   have hkV:V.heap[wr.heap.size]? = some (.cells #[.string ⟨d.name.text.toArray⟩,.int .i64 d.name.at_.line,.int .i64 d.name.at_.col,.string ⟨d.conf.text.toArray⟩,.int .i64 d.conf.at_.line,.int .i64 d.conf.at_.col,.string ⟨d.integ.text.toArray⟩,.int .i64 d.integ.at_.line,.int .i64 d.integ.at_.col,.int .i64 d.int] 152 (0,0)):=by rw [<- hV];exact blk_new wr _
   have v0:V.cell? ⟨wr.heap.size,0,none⟩=some (.string ⟨d.name.text.toArray⟩):=(blk_cell hkV 0).trans rfl;have v1:V.cell? ⟨wr.heap.size,1,none⟩=some (.int .i64 d.name.at_.line):=(blk_cell hkV 1).trans rfl;have v2:V.cell? ⟨wr.heap.size,2,none⟩=some (.int .i64 d.name.at_.col):=(blk_cell hkV 2).trans rfl;have v3:V.cell? ⟨wr.heap.size,3,none⟩=some (.string ⟨d.conf.text.toArray⟩):=(blk_cell hkV 3).trans rfl;have v4:V.cell? ⟨wr.heap.size,4,none⟩=some (.int .i64 d.conf.at_.line):=(blk_cell hkV 4).trans rfl;have v5:V.cell? ⟨wr.heap.size,5,none⟩=some (.int .i64 d.conf.at_.col):=(blk_cell hkV 5).trans rfl;have v6:V.cell? ⟨wr.heap.size,6,none⟩=some (.string ⟨d.integ.text.toArray⟩):=(blk_cell hkV 6).trans rfl;have v7:V.cell? ⟨wr.heap.size,7,none⟩=some (.int .i64 d.integ.at_.line):=(blk_cell hkV 7).trans rfl;have v8:V.cell? ⟨wr.heap.size,8,none⟩=some (.int .i64 d.integ.at_.col):=(blk_cell hkV 8).trans rfl;have v9:V.cell? ⟨wr.heap.size,9,none⟩=some (.int .i64 d.int):=(blk_cell hkV 9).trans rfl;have hms:n-(intOf (Value.int IntKind.i64 ((j:Int)+1))).toNat<n-(intOf (Value.int IntKind.i64 (j:Int))).toNat:=by simp [intOf];omega
   have HMS:=Lib.hid hms;have HS:=Lib.hid hs;have HD:=Lib.hid (declName_any d V);have HBV:=Lib.hid hbV;have HV:=Lib.hid hV;have HNJ:=Lib.hid hnj;clear hms hs hbV hkV hV hnj hd hro
   go_wp2_with fail
   rw [HV.out];refine HD.out.mono ?_;rintro e w2 ⟨rfl,hb2⟩;obtain ⟨X,hX⟩:∃ X,w2.alloc (.cells #[.string ⟨d.name.text.toArray⟩,.int .i64 d.name.at_.line,.int .i64 d.name.at_.col] 49)=X:=⟨_,rfl⟩;have hbX:Below w2.heap.size w2 X:=by rw [<- hX];exact (Below.refl _ w2).alloc (Nat.le_refl _) _
   have hkX:X.heap[w2.heap.size]? = some (.cells #[.string ⟨d.name.text.toArray⟩,.int .i64 d.name.at_.line,.int .i64 d.name.at_.col] 49 (0,0)):=by rw [<- hX];exact blk_new w2 _
   have y0:=(blk_cell hkX 0).trans rfl;have y1:=(blk_cell hkX 1).trans rfl;have y2:=(blk_cell hkX 2).trans rfl;have hbr:Below wr.heap.size wr X:=HBV.out.trans ((hb2.trans (hbX.mono hb2.size)).mono HBV.out.size);have hmX:=HS.out.mp.below hbr;have hH:=has5_any w.heap.size _ (d.name).text X hmX;obtain ⟨r',hcr,hor,hsr⟩:=HS.out.st;have hcX:=(hbr.block _ (lt_of_heap hcr)).trans hcr;have hoX:=own_below hor hbr;have hfX:=HS.out.fr.trans (But.of_below hbr);have hsn:=Sp.decl_snoc k l (ns.take j) (d.name);rw [<- take_next5 HNJ.out] at hsn;have hle:=Sp.decl_take_le k l ns j;have hlim:=HL.out;have hBX:B<=X.heap.size:=Nat.le_trans hB (Nat.le_trans HS.out.fr.size hbr.size);have hsz:=hfX.size;have hci:i<cs.size:=by
    rcases Nat.lt_or_ge i cs.size with e | e
    ·exact e
    ·rw [Array.getElem?_eq_none e] at hi;cases hi
   cases hh:Sp.has (Sp.decl k l (ns.take j)).m (d.name).text with
   | true =>
    rw [hh] at hH;rw [Sp.step,if_pos hh] at hsn;have hA:=addF_any B c i k hk _ r' _ (d.name) X hcX (by rw [Array.getElem?_setIfInBounds_self_of_lt hci]) hoX hBX (by omega);unfold nmV at hA;have HH:=Lib.hid hH;have HA:=Lib.hid hA;have HX:=Lib.hid hX;have HSN:=Lib.hid hsn;have HFX:=Lib.hid hfX;have HSR:=Lib.hid hsr;have HMX:=Lib.hid hmX;have HOX:=Lib.hid hoX;clear hH hA hX hbX hkX hbr hmX hcr hor hsr hcX hoX hfX hsn hle hlim hh hb2
    go_wp2_with fail
    rw [HX.out];refine HH.out.mono ?_;rintro e w3 ⟨rfl,rfl⟩
    go_wp2_with fail
    refine HA.out.mono ?_;rintro e w4 ⟨r'',rfl,h1,h2,h3,h4⟩;have hst4:DSt B c i k w.heap.size cs r l (ns.take (j+1)) w w4:=by
     refine ⟨⟨r'',by rw [setp_set] at h1;exact h1,by rw [HSN.out];exact h2,HSR.out.trans hsz h4⟩,fr_more HFX.out HSR.out h3, ?_,Nat.le_refl _⟩;rw [HSN.out];refine (HMX.out).but h3 ?_;rintro (e | e)
     ·have:=lt_of_heap HC.out;omega
     ·obtain ⟨_,cur,e3⟩:=own_tag HOX.out e;have e4:=HMX.out;unfold MpAt at e4;rw [e4] at e3;cases e3
    have HS4:=Lib.hid hst4;clear hst4 h1 h2 h3 h4
    go_wp2
    exact ⟨⟨j+1,by omega,by go_num,HS4.out⟩,HMS.out⟩
   | false =>
    rw [hh] at hH;rw [Sp.step,if_neg (by rw [hh];decide)] at hsn;have hP:=fun v=>pl_put (t:=(d.name).text) hmX v;have hdi:(Sp.decl k l (ns.take j)).i=j:=by rw [Sp.decl_i,List.length_take,HNL.out];omega
    rw [hdi] at hsn;have hst4:=(HS.out.below hbr).put HC.out hsn;have HH:=Lib.hid hH;have HX:=Lib.hid hX;have HP:=Lib.hid (hP (j:Int));have HS4:=Lib.hid hst4;clear hH hX hbX hkX hbr hmX hcr hor hsr hcX hoX hfX hsn hle hlim hh hb2 hP hst4 hdi
    go_wp2_with fail
    rw [HX.out];refine HH.out.mono ?_;rintro e w3 ⟨rfl,rfl⟩;have hp:=HP.out
    go_wp2
    exact ⟨⟨j+1,by omega,by go_num,HS4.out⟩,HMS.out⟩
  ·obtain rfl:j=n:=by omega
   have hf:ns.take j=ns:=List.take_of_length_le (by rw [HNL.out];exact Nat.le_refl _);rw [hf] at hs;have HS:=Lib.hid hs;clear hs
   go_wp2
   go_ret
   exact ⟨_,rfl,HS.out⟩
theorem funName_any (d:FnV)(w:World):Calls Tryz.prog 27 #[.agg #[.string ⟨d.f.name.text.toArray⟩,.int .i64 d.f.name.at_.line,.int .i64 d.f.name.at_.col,.slice d.pa d.f.params.length d.pc,.int .i64 d.f.body]] w fun e w'=>e = .returned (.agg #[.string ⟨d.f.name.text.toArray⟩,.int .i64 d.f.name.at_.line,.int .i64 d.f.name.at_.col])/\Below w.heap.size w w':=by
 have kR:((w.alloc (.cells #[.string ⟨d.f.name.text.toArray⟩,.int .i64 d.f.name.at_.line,.int .i64 d.f.name.at_.col,.slice d.pa d.f.params.length d.pc,.int .i64 d.f.body] 52)).alloc (.cells #[.string ⟨d.f.name.text.toArray⟩,.int .i64 d.f.name.at_.line,.int .i64 d.f.name.at_.col] 49)).heap[w.heap.size+1]? = some (.cells #[.string ⟨d.f.name.text.toArray⟩,.int .i64 d.f.name.at_.line,.int .i64 d.f.name.at_.col] 49 (0,0)):=by
  have:=blk_new (w.alloc (.cells #[.string ⟨d.f.name.text.toArray⟩,.int .i64 d.f.name.at_.line,.int .i64 d.f.name.at_.col,.slice d.pa d.f.params.length d.pc,.int .i64 d.f.body] 52)) (.cells #[.string ⟨d.f.name.text.toArray⟩,.int .i64 d.f.name.at_.line,.int .i64 d.f.name.at_.col] 49);rwa [World.size_alloc] at this
 have r0:=(blk_cell kR 0).trans rfl;have r1:=(blk_cell kR 1).trans rfl;have r2:=(blk_cell kR 2).trans rfl
 go_enter Tryz.func27,Tryz.ntmps27
 go_wp2
 refine bodyPost_ret (v := .agg #[.string ⟨d.f.name.text.toArray⟩,.int .i64 d.f.name.at_.line,.int .i64 d.f.name.at_.col]) (by simp [results,Tryz.results27,go_sem,r0,r1,r2]) rfl ⟨rfl,((Below.refl _ w).alloc (Nat.le_refl _) _).alloc (by simp) _⟩
theorem decFun_any (B c i k base:Nat)(hk:k<22)(cs:Array Value)(r u:Value)(l:List Sp.Fd)(ds:List FnV)(w:World)(hc:w.heap[c]? = some (.cells cs 147 (0,0)))(hi:cs[i]? = some r)(ho:w.ownsRow B 228 5 r l.length (fdsCells l))(hB:B<=w.heap.size)(hu:w.ownsRow base 52 5 u ds.length (fnsCells ds))(hn:ds.length<=1000000000)(hl:(Sp.decl k l (ds.map (·.f.name))).l.length<=1000000000):
  Calls Tryz.prog 102 #[.pointer (some ⟨c,i,none⟩),.int .i64 k,u,.func (.func 27) #[] #[]] w (DeP B c i k cs r l (ds.map (·.f.name)) w):=by
 obtain ⟨ua,uc,rfl,hua⟩:=own_form5 hu;obtain ⟨n,hN⟩:∃ n,ds.length=n:=⟨_,rfl⟩;obtain ⟨ns,hns⟩:∃ ns,ds.map (·.f.name)=ns:=⟨_,rfl⟩;have hnl:ns.length=n:=by rw [<- hns,List.length_map,hN]
 have hng:∀ (j:Nat) (d:FnV),ds[j]? = some d->ns[j]? = some (d.f.name):=fun j d h=>by rw [<- hns,List.getElem?_map,h];rfl
 rw [hN] at hua hn;rw [hN] at hu;have hu':=hu;rw [hN];rw [hns] at hl ⊢;obtain ⟨W,hW⟩:∃ W,w.alloc (.map #[] 0)=W:=⟨_,rfl⟩;have hbW:Below w.heap.size w W:=by rw [<- hW];exact (Below.refl _ w).alloc (Nat.le_refl _) _
 have hmW:MpAt W w.heap.size []:=by rw [<- hW];exact mp_new w
 have mk:=pl_make w;rw [hW] at mk;have hst:DSt B c i k w.heap.size cs r l (ns.take 0) w W:=⟨⟨r,by rw [setp_same hi];exact (hbW.block _ (lt_of_heap hc)).trans hc,own_below ho hbW,.inl rfl⟩,But.of_below hbW,hmW,Nat.le_refl _⟩;have HST:=Lib.hid hst;have HL:=Lib.hid hl;have HNG:=Lib.hid hng;have HU:=Lib.hid hu';have HUA:=Lib.hid hua;have HC:=Lib.hid hc;have HO:=Lib.hid ho;have HNL:=Lib.hid hnl;have HNN:=Lib.hid hN;clear hst hl hng hu hu' hua hc ho hnl hW hbW hmW hns hN
 go_enter Tryz.func102,Tryz.ntmps102
 go_wp2_with fail
 go_loopw [16] (fun v wr=>∃ j:Nat,j<=n/\v = .int .i64 (j:Int)/\DSt B c i k w.heap.size cs r l (ns.take j) w wr) (fun v _=>n-(intOf v).toNat)
 case atStart=>exact ⟨0,Nat.zero_le _,rfl,HST.out⟩
 case round =>
  obtain ⟨j,hj,rfl,hs⟩:=hrel
  by_cases hlt:j<n
  ·obtain ⟨d,hd⟩:∃ d,ds[j]? = some d:=⟨_,List.getElem?_eq_getElem (by rw [HNN.out];exact hlt)⟩;obtain ⟨g,rfl⟩:=HUA.out (by omega);have hnj:=HNG.out j d hd;have hro:=fr_row hs.fr HC.out HO.out HU.out ⟨by decide,by decide⟩;have x0:wr.cell? ⟨g,j*5,none⟩=some (.string ⟨d.f.name.text.toArray⟩):=own_cell hro (by rw [show j*5=j*5+0 from rfl,show fnsCells ds=ds.flatMap fnCell from rfl];exact (flat_get fnCell 5 (fun _=>rfl) ds j 0 d hd (by omega)).trans rfl);have x1:wr.cell? ⟨g,j*5+1,none⟩=some (.int .i64 d.f.name.at_.line):=own_cell hro (by rw [show fnsCells ds=ds.flatMap fnCell from rfl];exact (flat_get fnCell 5 (fun _=>rfl) ds j 1 d hd (by omega)).trans rfl);have x2:wr.cell? ⟨g,j*5+2,none⟩=some (.int .i64 d.f.name.at_.col):=own_cell hro (by rw [show fnsCells ds=ds.flatMap fnCell from rfl];exact (flat_get fnCell 5 (fun _=>rfl) ds j 2 d hd (by omega)).trans rfl);have x3:wr.cell? ⟨g,j*5+3,none⟩=some (.slice d.pa d.f.params.length d.pc):=own_cell hro (by rw [show fnsCells ds=ds.flatMap fnCell from rfl];exact (flat_get fnCell 5 (fun _=>rfl) ds j 3 d hd (by omega)).trans rfl);have x4:wr.cell? ⟨g,j*5+4,none⟩=some (.int .i64 d.f.body):=own_cell hro (by rw [show fnsCells ds=ds.flatMap fnCell from rfl];exact (flat_get fnCell 5 (fun _=>rfl) ds j 4 d hd (by omega)).trans rfl);obtain ⟨V,hV⟩:∃ V,wr.alloc (.cells #[.string ⟨d.f.name.text.toArray⟩,.int .i64 d.f.name.at_.line,.int .i64 d.f.name.at_.col,.slice d.pa d.f.params.length d.pc,.int .i64 d.f.body] 52)=V:=⟨_,rfl⟩;have hbV:Below wr.heap.size wr V:=by rw [<- hV];exact (Below.refl _ wr).alloc (Nat.le_refl _) _
   have hkV:V.heap[wr.heap.size]? = some (.cells #[.string ⟨d.f.name.text.toArray⟩,.int .i64 d.f.name.at_.line,.int .i64 d.f.name.at_.col,.slice d.pa d.f.params.length d.pc,.int .i64 d.f.body] 52 (0,0)):=by rw [<- hV];exact blk_new wr _
   have v0:V.cell? ⟨wr.heap.size,0,none⟩=some (.string ⟨d.f.name.text.toArray⟩):=(blk_cell hkV 0).trans rfl;have v1:V.cell? ⟨wr.heap.size,1,none⟩=some (.int .i64 d.f.name.at_.line):=(blk_cell hkV 1).trans rfl;have v2:V.cell? ⟨wr.heap.size,2,none⟩=some (.int .i64 d.f.name.at_.col):=(blk_cell hkV 2).trans rfl;have v3:V.cell? ⟨wr.heap.size,3,none⟩=some (.slice d.pa d.f.params.length d.pc):=(blk_cell hkV 3).trans rfl;have v4:V.cell? ⟨wr.heap.size,4,none⟩=some (.int .i64 d.f.body):=(blk_cell hkV 4).trans rfl;have hms:n-(intOf (Value.int IntKind.i64 ((j:Int)+1))).toNat<n-(intOf (Value.int IntKind.i64 (j:Int))).toNat:=by simp [intOf];omega
   have HMS:=Lib.hid hms;have HS:=Lib.hid hs;have HD:=Lib.hid (funName_any d V);have HBV:=Lib.hid hbV;have HV:=Lib.hid hV;have HNJ:=Lib.hid hnj;clear hms hs hbV hkV hV hnj hd hro
   go_wp2_with fail
   rw [HV.out];refine HD.out.mono ?_;rintro e w2 ⟨rfl,hb2⟩;obtain ⟨X,hX⟩:∃ X,w2.alloc (.cells #[.string ⟨d.f.name.text.toArray⟩,.int .i64 d.f.name.at_.line,.int .i64 d.f.name.at_.col] 49)=X:=⟨_,rfl⟩;have hbX:Below w2.heap.size w2 X:=by rw [<- hX];exact (Below.refl _ w2).alloc (Nat.le_refl _) _
   have hkX:X.heap[w2.heap.size]? = some (.cells #[.string ⟨d.f.name.text.toArray⟩,.int .i64 d.f.name.at_.line,.int .i64 d.f.name.at_.col] 49 (0,0)):=by rw [<- hX];exact blk_new w2 _
   have y0:=(blk_cell hkX 0).trans rfl;have y1:=(blk_cell hkX 1).trans rfl;have y2:=(blk_cell hkX 2).trans rfl;have hbr:Below wr.heap.size wr X:=HBV.out.trans ((hb2.trans (hbX.mono hb2.size)).mono HBV.out.size);have hmX:=HS.out.mp.below hbr;have hH:=has5_any w.heap.size _ (d.f.name).text X hmX;obtain ⟨r',hcr,hor,hsr⟩:=HS.out.st;have hcX:=(hbr.block _ (lt_of_heap hcr)).trans hcr;have hoX:=own_below hor hbr;have hfX:=HS.out.fr.trans (But.of_below hbr);have hsn:=Sp.decl_snoc k l (ns.take j) (d.f.name);rw [<- take_next5 HNJ.out] at hsn;have hle:=Sp.decl_take_le k l ns j;have hlim:=HL.out;have hBX:B<=X.heap.size:=Nat.le_trans hB (Nat.le_trans HS.out.fr.size hbr.size);have hsz:=hfX.size;have hci:i<cs.size:=by
    rcases Nat.lt_or_ge i cs.size with e | e
    ·exact e
    ·rw [Array.getElem?_eq_none e] at hi;cases hi
   cases hh:Sp.has (Sp.decl k l (ns.take j)).m (d.f.name).text with
   | true =>
    rw [hh] at hH;rw [Sp.step,if_pos hh] at hsn;have hA:=addF_any B c i k hk _ r' _ (d.f.name) X hcX (by rw [Array.getElem?_setIfInBounds_self_of_lt hci]) hoX hBX (by omega);unfold nmV at hA;have HH:=Lib.hid hH;have HA:=Lib.hid hA;have HX:=Lib.hid hX;have HSN:=Lib.hid hsn;have HFX:=Lib.hid hfX;have HSR:=Lib.hid hsr;have HMX:=Lib.hid hmX;have HOX:=Lib.hid hoX;clear hH hA hX hbX hkX hbr hmX hcr hor hsr hcX hoX hfX hsn hle hlim hh hb2
    go_wp2_with fail
    rw [HX.out];refine HH.out.mono ?_;rintro e w3 ⟨rfl,rfl⟩
    go_wp2_with fail
    refine HA.out.mono ?_;rintro e w4 ⟨r'',rfl,h1,h2,h3,h4⟩;have hst4:DSt B c i k w.heap.size cs r l (ns.take (j+1)) w w4:=by
     refine ⟨⟨r'',by rw [setp_set] at h1;exact h1,by rw [HSN.out];exact h2,HSR.out.trans hsz h4⟩,fr_more HFX.out HSR.out h3, ?_,Nat.le_refl _⟩;rw [HSN.out];refine (HMX.out).but h3 ?_;rintro (e | e)
     ·have:=lt_of_heap HC.out;omega
     ·obtain ⟨_,cur,e3⟩:=own_tag HOX.out e;have e4:=HMX.out;unfold MpAt at e4;rw [e4] at e3;cases e3
    have HS4:=Lib.hid hst4;clear hst4 h1 h2 h3 h4
    go_wp2
    exact ⟨⟨j+1,by omega,by go_num,HS4.out⟩,HMS.out⟩
   | false =>
    rw [hh] at hH;rw [Sp.step,if_neg (by rw [hh];decide)] at hsn;have hP:=fun v=>pl_put (t:=(d.f.name).text) hmX v;have hdi:(Sp.decl k l (ns.take j)).i=j:=by rw [Sp.decl_i,List.length_take,HNL.out];omega
    rw [hdi] at hsn;have hst4:=(HS.out.below hbr).put HC.out hsn;have HH:=Lib.hid hH;have HX:=Lib.hid hX;have HP:=Lib.hid (hP (j:Int));have HS4:=Lib.hid hst4;clear hH hX hbX hkX hbr hmX hcr hor hsr hcX hoX hfX hsn hle hlim hh hb2 hP hst4 hdi
    go_wp2_with fail
    rw [HX.out];refine HH.out.mono ?_;rintro e w3 ⟨rfl,rfl⟩;have hp:=HP.out
    go_wp2
    exact ⟨⟨j+1,by omega,by go_num,HS4.out⟩,HMS.out⟩
  ·obtain rfl:j=n:=by omega
   have hf:ns.take j=ns:=List.take_of_length_le (by rw [HNL.out];exact Nat.le_refl _);rw [hf] at hs;have HS:=Lib.hid hs;clear hs
   go_wp2
   go_ret
   exact ⟨_,rfl,HS.out⟩
theorem hatName_any (d:HtV)(w:World):Calls Tryz.prog 61 #[.agg #[.string ⟨d.h.name.text.toArray⟩,.int .i64 d.h.name.at_.line,.int .i64 d.h.name.at_.col,.int .i64 d.h.body,.string ⟨d.h.dst.text.toArray⟩,.int .i64 d.h.dst.at_.line,.int .i64 d.h.dst.at_.col,.slice d.pa d.h.inn.length d.pc]] w fun e w'=>e = .returned (.agg #[.string ⟨d.h.name.text.toArray⟩,.int .i64 d.h.name.at_.line,.int .i64 d.h.name.at_.col])/\Below w.heap.size w w':=by
 have kR:((w.alloc (.cells #[.string ⟨d.h.name.text.toArray⟩,.int .i64 d.h.name.at_.line,.int .i64 d.h.name.at_.col,.int .i64 d.h.body,.string ⟨d.h.dst.text.toArray⟩,.int .i64 d.h.dst.at_.line,.int .i64 d.h.dst.at_.col,.slice d.pa d.h.inn.length d.pc] 56)).alloc (.cells #[.string ⟨d.h.name.text.toArray⟩,.int .i64 d.h.name.at_.line,.int .i64 d.h.name.at_.col] 49)).heap[w.heap.size+1]? = some (.cells #[.string ⟨d.h.name.text.toArray⟩,.int .i64 d.h.name.at_.line,.int .i64 d.h.name.at_.col] 49 (0,0)):=by
  have:=blk_new (w.alloc (.cells #[.string ⟨d.h.name.text.toArray⟩,.int .i64 d.h.name.at_.line,.int .i64 d.h.name.at_.col,.int .i64 d.h.body,.string ⟨d.h.dst.text.toArray⟩,.int .i64 d.h.dst.at_.line,.int .i64 d.h.dst.at_.col,.slice d.pa d.h.inn.length d.pc] 56)) (.cells #[.string ⟨d.h.name.text.toArray⟩,.int .i64 d.h.name.at_.line,.int .i64 d.h.name.at_.col] 49);rwa [World.size_alloc] at this
 have r0:=(blk_cell kR 0).trans rfl;have r1:=(blk_cell kR 1).trans rfl;have r2:=(blk_cell kR 2).trans rfl
 go_enter Tryz.func61,Tryz.ntmps61
 go_wp2
 refine bodyPost_ret (v := .agg #[.string ⟨d.h.name.text.toArray⟩,.int .i64 d.h.name.at_.line,.int .i64 d.h.name.at_.col]) (by simp [results,Tryz.results61,go_sem,r0,r1,r2]) rfl ⟨rfl,((Below.refl _ w).alloc (Nat.le_refl _) _).alloc (by simp) _⟩
theorem decHat_any (B c i k base:Nat)(hk:k<22)(cs:Array Value)(r u:Value)(l:List Sp.Fd)(ds:List HtV)(w:World)(hc:w.heap[c]? = some (.cells cs 147 (0,0)))(hi:cs[i]? = some r)(ho:w.ownsRow B 228 5 r l.length (fdsCells l))(hB:B<=w.heap.size)(hu:w.ownsRow base 56 8 u ds.length (htsCells ds))(hn:ds.length<=1000000000)(hl:(Sp.decl k l (ds.map (·.h.name))).l.length<=1000000000):
  Calls Tryz.prog 100 #[.pointer (some ⟨c,i,none⟩),.int .i64 k,u,.func (.func 61) #[] #[]] w (DeP B c i k cs r l (ds.map (·.h.name)) w):=by
 obtain ⟨ua,uc,rfl,hua⟩:=own_form5 hu;obtain ⟨n,hN⟩:∃ n,ds.length=n:=⟨_,rfl⟩;obtain ⟨ns,hns⟩:∃ ns,ds.map (·.h.name)=ns:=⟨_,rfl⟩;have hnl:ns.length=n:=by rw [<- hns,List.length_map,hN]
 have hng:∀ (j:Nat) (d:HtV),ds[j]? = some d->ns[j]? = some (d.h.name):=fun j d h=>by rw [<- hns,List.getElem?_map,h];rfl
 rw [hN] at hua hn;rw [hN] at hu;have hu':=hu;rw [hN];rw [hns] at hl ⊢;obtain ⟨W,hW⟩:∃ W,w.alloc (.map #[] 0)=W:=⟨_,rfl⟩;have hbW:Below w.heap.size w W:=by rw [<- hW];exact (Below.refl _ w).alloc (Nat.le_refl _) _
 have hmW:MpAt W w.heap.size []:=by rw [<- hW];exact mp_new w
 have mk:=pl_make w;rw [hW] at mk;have hst:DSt B c i k w.heap.size cs r l (ns.take 0) w W:=⟨⟨r,by rw [setp_same hi];exact (hbW.block _ (lt_of_heap hc)).trans hc,own_below ho hbW,.inl rfl⟩,But.of_below hbW,hmW,Nat.le_refl _⟩;have HST:=Lib.hid hst;have HL:=Lib.hid hl;have HNG:=Lib.hid hng;have HU:=Lib.hid hu';have HUA:=Lib.hid hua;have HC:=Lib.hid hc;have HO:=Lib.hid ho;have HNL:=Lib.hid hnl;have HNN:=Lib.hid hN;clear hst hl hng hu hu' hua hc ho hnl hW hbW hmW hns hN
 go_enter Tryz.func100,Tryz.ntmps100
 go_wp2_with fail
 go_loopw [16] (fun v wr=>∃ j:Nat,j<=n/\v = .int .i64 (j:Int)/\DSt B c i k w.heap.size cs r l (ns.take j) w wr) (fun v _=>n-(intOf v).toNat)
 case atStart=>exact ⟨0,Nat.zero_le _,rfl,HST.out⟩
 case round =>
  obtain ⟨j,hj,rfl,hs⟩:=hrel
  by_cases hlt:j<n
  ·obtain ⟨d,hd⟩:∃ d,ds[j]? = some d:=⟨_,List.getElem?_eq_getElem (by rw [HNN.out];exact hlt)⟩;obtain ⟨g,rfl⟩:=HUA.out (by omega);have hnj:=HNG.out j d hd;have hro:=fr_row hs.fr HC.out HO.out HU.out ⟨by decide,by decide⟩;have x0:wr.cell? ⟨g,j*8,none⟩=some (.string ⟨d.h.name.text.toArray⟩):=own_cell hro (by rw [show j*8=j*8+0 from rfl,show htsCells ds=ds.flatMap htCell from rfl];exact (flat_get htCell 8 (fun _=>rfl) ds j 0 d hd (by omega)).trans rfl);have x1:wr.cell? ⟨g,j*8+1,none⟩=some (.int .i64 d.h.name.at_.line):=own_cell hro (by rw [show htsCells ds=ds.flatMap htCell from rfl];exact (flat_get htCell 8 (fun _=>rfl) ds j 1 d hd (by omega)).trans rfl);have x2:wr.cell? ⟨g,j*8+2,none⟩=some (.int .i64 d.h.name.at_.col):=own_cell hro (by rw [show htsCells ds=ds.flatMap htCell from rfl];exact (flat_get htCell 8 (fun _=>rfl) ds j 2 d hd (by omega)).trans rfl);have x3:wr.cell? ⟨g,j*8+3,none⟩=some (.int .i64 d.h.body):=own_cell hro (by rw [show htsCells ds=ds.flatMap htCell from rfl];exact (flat_get htCell 8 (fun _=>rfl) ds j 3 d hd (by omega)).trans rfl);have x4:wr.cell? ⟨g,j*8+4,none⟩=some (.string ⟨d.h.dst.text.toArray⟩):=own_cell hro (by rw [show htsCells ds=ds.flatMap htCell from rfl];exact (flat_get htCell 8 (fun _=>rfl) ds j 4 d hd (by omega)).trans rfl);have x5:wr.cell? ⟨g,j*8+5,none⟩=some (.int .i64 d.h.dst.at_.line):=own_cell hro (by rw [show htsCells ds=ds.flatMap htCell from rfl];exact (flat_get htCell 8 (fun _=>rfl) ds j 5 d hd (by omega)).trans rfl);have x6:wr.cell? ⟨g,j*8+6,none⟩=some (.int .i64 d.h.dst.at_.col):=own_cell hro (by rw [show htsCells ds=ds.flatMap htCell from rfl];exact (flat_get htCell 8 (fun _=>rfl) ds j 6 d hd (by omega)).trans rfl);have x7:wr.cell? ⟨g,j*8+7,none⟩=some (.slice d.pa d.h.inn.length d.pc):=own_cell hro (by rw [show htsCells ds=ds.flatMap htCell from rfl];exact (flat_get htCell 8 (fun _=>rfl) ds j 7 d hd (by omega)).trans rfl);obtain ⟨V,hV⟩:∃ V,wr.alloc (.cells #[.string ⟨d.h.name.text.toArray⟩,.int .i64 d.h.name.at_.line,.int .i64 d.h.name.at_.col,.int .i64 d.h.body,.string ⟨d.h.dst.text.toArray⟩,.int .i64 d.h.dst.at_.line,.int .i64 d.h.dst.at_.col,.slice d.pa d.h.inn.length d.pc] 56)=V:=⟨_,rfl⟩;have hbV:Below wr.heap.size wr V:=by rw [<- hV];exact (Below.refl _ wr).alloc (Nat.le_refl _) _
   have hkV:V.heap[wr.heap.size]? = some (.cells #[.string ⟨d.h.name.text.toArray⟩,.int .i64 d.h.name.at_.line,.int .i64 d.h.name.at_.col,.int .i64 d.h.body,.string ⟨d.h.dst.text.toArray⟩,.int .i64 d.h.dst.at_.line,.int .i64 d.h.dst.at_.col,.slice d.pa d.h.inn.length d.pc] 56 (0,0)):=by rw [<- hV];exact blk_new wr _
   have v0:V.cell? ⟨wr.heap.size,0,none⟩=some (.string ⟨d.h.name.text.toArray⟩):=(blk_cell hkV 0).trans rfl;have v1:V.cell? ⟨wr.heap.size,1,none⟩=some (.int .i64 d.h.name.at_.line):=(blk_cell hkV 1).trans rfl;have v2:V.cell? ⟨wr.heap.size,2,none⟩=some (.int .i64 d.h.name.at_.col):=(blk_cell hkV 2).trans rfl;have v3:V.cell? ⟨wr.heap.size,3,none⟩=some (.int .i64 d.h.body):=(blk_cell hkV 3).trans rfl;have v4:V.cell? ⟨wr.heap.size,4,none⟩=some (.string ⟨d.h.dst.text.toArray⟩):=(blk_cell hkV 4).trans rfl;have v5:V.cell? ⟨wr.heap.size,5,none⟩=some (.int .i64 d.h.dst.at_.line):=(blk_cell hkV 5).trans rfl;have v6:V.cell? ⟨wr.heap.size,6,none⟩=some (.int .i64 d.h.dst.at_.col):=(blk_cell hkV 6).trans rfl;have v7:V.cell? ⟨wr.heap.size,7,none⟩=some (.slice d.pa d.h.inn.length d.pc):=(blk_cell hkV 7).trans rfl;have hms:n-(intOf (Value.int IntKind.i64 ((j:Int)+1))).toNat<n-(intOf (Value.int IntKind.i64 (j:Int))).toNat:=by simp [intOf];omega
   have HMS:=Lib.hid hms;have HS:=Lib.hid hs;have HD:=Lib.hid (hatName_any d V);have HBV:=Lib.hid hbV;have HV:=Lib.hid hV;have HNJ:=Lib.hid hnj;clear hms hs hbV hkV hV hnj hd hro
   go_wp2_with fail
   rw [HV.out];refine HD.out.mono ?_;rintro e w2 ⟨rfl,hb2⟩;obtain ⟨X,hX⟩:∃ X,w2.alloc (.cells #[.string ⟨d.h.name.text.toArray⟩,.int .i64 d.h.name.at_.line,.int .i64 d.h.name.at_.col] 49)=X:=⟨_,rfl⟩;have hbX:Below w2.heap.size w2 X:=by rw [<- hX];exact (Below.refl _ w2).alloc (Nat.le_refl _) _
   have hkX:X.heap[w2.heap.size]? = some (.cells #[.string ⟨d.h.name.text.toArray⟩,.int .i64 d.h.name.at_.line,.int .i64 d.h.name.at_.col] 49 (0,0)):=by rw [<- hX];exact blk_new w2 _
   have y0:=(blk_cell hkX 0).trans rfl;have y1:=(blk_cell hkX 1).trans rfl;have y2:=(blk_cell hkX 2).trans rfl;have hbr:Below wr.heap.size wr X:=HBV.out.trans ((hb2.trans (hbX.mono hb2.size)).mono HBV.out.size);have hmX:=HS.out.mp.below hbr;have hH:=has5_any w.heap.size _ (d.h.name).text X hmX;obtain ⟨r',hcr,hor,hsr⟩:=HS.out.st;have hcX:=(hbr.block _ (lt_of_heap hcr)).trans hcr;have hoX:=own_below hor hbr;have hfX:=HS.out.fr.trans (But.of_below hbr);have hsn:=Sp.decl_snoc k l (ns.take j) (d.h.name);rw [<- take_next5 HNJ.out] at hsn;have hle:=Sp.decl_take_le k l ns j;have hlim:=HL.out;have hBX:B<=X.heap.size:=Nat.le_trans hB (Nat.le_trans HS.out.fr.size hbr.size);have hsz:=hfX.size;have hci:i<cs.size:=by
    rcases Nat.lt_or_ge i cs.size with e | e
    ·exact e
    ·rw [Array.getElem?_eq_none e] at hi;cases hi
   cases hh:Sp.has (Sp.decl k l (ns.take j)).m (d.h.name).text with
   | true =>
    rw [hh] at hH;rw [Sp.step,if_pos hh] at hsn;have hA:=addF_any B c i k hk _ r' _ (d.h.name) X hcX (by rw [Array.getElem?_setIfInBounds_self_of_lt hci]) hoX hBX (by omega);unfold nmV at hA;have HH:=Lib.hid hH;have HA:=Lib.hid hA;have HX:=Lib.hid hX;have HSN:=Lib.hid hsn;have HFX:=Lib.hid hfX;have HSR:=Lib.hid hsr;have HMX:=Lib.hid hmX;have HOX:=Lib.hid hoX;clear hH hA hX hbX hkX hbr hmX hcr hor hsr hcX hoX hfX hsn hle hlim hh hb2
    go_wp2_with fail
    rw [HX.out];refine HH.out.mono ?_;rintro e w3 ⟨rfl,rfl⟩
    go_wp2_with fail
    refine HA.out.mono ?_;rintro e w4 ⟨r'',rfl,h1,h2,h3,h4⟩;have hst4:DSt B c i k w.heap.size cs r l (ns.take (j+1)) w w4:=by
     refine ⟨⟨r'',by rw [setp_set] at h1;exact h1,by rw [HSN.out];exact h2,HSR.out.trans hsz h4⟩,fr_more HFX.out HSR.out h3, ?_,Nat.le_refl _⟩;rw [HSN.out];refine (HMX.out).but h3 ?_;rintro (e | e)
     ·have:=lt_of_heap HC.out;omega
     ·obtain ⟨_,cur,e3⟩:=own_tag HOX.out e;have e4:=HMX.out;unfold MpAt at e4;rw [e4] at e3;cases e3
    have HS4:=Lib.hid hst4;clear hst4 h1 h2 h3 h4
    go_wp2
    exact ⟨⟨j+1,by omega,by go_num,HS4.out⟩,HMS.out⟩
   | false =>
    rw [hh] at hH;rw [Sp.step,if_neg (by rw [hh];decide)] at hsn;have hP:=fun v=>pl_put (t:=(d.h.name).text) hmX v;have hdi:(Sp.decl k l (ns.take j)).i=j:=by rw [Sp.decl_i,List.length_take,HNL.out];omega
    rw [hdi] at hsn;have hst4:=(HS.out.below hbr).put HC.out hsn;have HH:=Lib.hid hH;have HX:=Lib.hid hX;have HP:=Lib.hid (hP (j:Int));have HS4:=Lib.hid hst4;clear hH hX hbX hkX hbr hmX hcr hor hsr hcX hoX hfX hsn hle hlim hh hb2 hP hst4 hdi
    go_wp2_with fail
    rw [HX.out];refine HH.out.mono ?_;rintro e w3 ⟨rfl,rfl⟩;have hp:=HP.out
    go_wp2
    exact ⟨⟨j+1,by omega,by go_num,HS4.out⟩,HMS.out⟩
  ·obtain rfl:j=n:=by omega
   have hf:ns.take j=ns:=List.take_of_length_le (by rw [HNL.out];exact Nat.le_refl _);rw [hf] at hs;have HS:=Lib.hid hs;clear hs
   go_wp2
   go_ret
   exact ⟨_,rfl,HS.out⟩
theorem parName_any (d:Pg.Nm)(w:World):Calls Tryz.prog 108 #[.agg #[.string ⟨d.text.toArray⟩,.int .i64 d.at_.line,.int .i64 d.at_.col]] w fun e w'=>e = .returned (.agg #[.string ⟨d.text.toArray⟩,.int .i64 d.at_.line,.int .i64 d.at_.col])/\Below w.heap.size w w':=by
 have kR:((w.alloc (.cells #[.string ⟨d.text.toArray⟩,.int .i64 d.at_.line,.int .i64 d.at_.col] 49)).alloc (.cells #[.string ⟨d.text.toArray⟩,.int .i64 d.at_.line,.int .i64 d.at_.col] 49)).heap[w.heap.size+1]? = some (.cells #[.string ⟨d.text.toArray⟩,.int .i64 d.at_.line,.int .i64 d.at_.col] 49 (0,0)):=by
  have:=blk_new (w.alloc (.cells #[.string ⟨d.text.toArray⟩,.int .i64 d.at_.line,.int .i64 d.at_.col] 49)) (.cells #[.string ⟨d.text.toArray⟩,.int .i64 d.at_.line,.int .i64 d.at_.col] 49);rwa [World.size_alloc] at this
 have r0:=(blk_cell kR 0).trans rfl;have r1:=(blk_cell kR 1).trans rfl;have r2:=(blk_cell kR 2).trans rfl
 go_enter Tryz.func108,Tryz.ntmps108
 go_wp2
 refine bodyPost_ret (v := .agg #[.string ⟨d.text.toArray⟩,.int .i64 d.at_.line,.int .i64 d.at_.col]) (by simp [results,Tryz.results108,go_sem,r0,r1,r2]) rfl ⟨rfl,((Below.refl _ w).alloc (Nat.le_refl _) _).alloc (by simp) _⟩
theorem decName_any (B c i k base:Nat)(hk:k<22)(cs:Array Value)(r u:Value)(l:List Sp.Fd)(ds:List Pg.Nm)(w:World)(hc:w.heap[c]? = some (.cells cs 147 (0,0)))(hi:cs[i]? = some r)(ho:w.ownsRow B 228 5 r l.length (fdsCells l))(hB:B<=w.heap.size)(hu:w.ownsRow base 49 3 u ds.length (nmsCells ds))(hn:ds.length<=1000000000)(hl:(Sp.decl k l (ds.map id)).l.length<=1000000000):
  Calls Tryz.prog 107 #[.pointer (some ⟨c,i,none⟩),.int .i64 k,u,.func (.func 108) #[] #[]] w (DeP B c i k cs r l (ds.map id) w):=by
 obtain ⟨ua,uc,rfl,hua⟩:=own_form5 hu;obtain ⟨n,hN⟩:∃ n,ds.length=n:=⟨_,rfl⟩;obtain ⟨ns,hns⟩:∃ ns,ds.map id=ns:=⟨_,rfl⟩;have hnl:ns.length=n:=by rw [<- hns,List.length_map,hN]
 have hng:∀ (j:Nat) (d:Pg.Nm),ds[j]? = some d->ns[j]? = some (d):=fun j d h=>by rw [<- hns,List.getElem?_map,h];rfl
 rw [hN] at hua hn;rw [hN] at hu;have hu':=hu;rw [hN];rw [hns] at hl ⊢;obtain ⟨W,hW⟩:∃ W,w.alloc (.map #[] 0)=W:=⟨_,rfl⟩;have hbW:Below w.heap.size w W:=by rw [<- hW];exact (Below.refl _ w).alloc (Nat.le_refl _) _
 have hmW:MpAt W w.heap.size []:=by rw [<- hW];exact mp_new w
 have mk:=pl_make w;rw [hW] at mk;have hst:DSt B c i k w.heap.size cs r l (ns.take 0) w W:=⟨⟨r,by rw [setp_same hi];exact (hbW.block _ (lt_of_heap hc)).trans hc,own_below ho hbW,.inl rfl⟩,But.of_below hbW,hmW,Nat.le_refl _⟩;have HST:=Lib.hid hst;have HL:=Lib.hid hl;have HNG:=Lib.hid hng;have HU:=Lib.hid hu';have HUA:=Lib.hid hua;have HC:=Lib.hid hc;have HO:=Lib.hid ho;have HNL:=Lib.hid hnl;have HNN:=Lib.hid hN;clear hst hl hng hu hu' hua hc ho hnl hW hbW hmW hns hN
 go_enter Tryz.func107,Tryz.ntmps107
 go_wp2_with fail
 go_loopw [16] (fun v wr=>∃ j:Nat,j<=n/\v = .int .i64 (j:Int)/\DSt B c i k w.heap.size cs r l (ns.take j) w wr) (fun v _=>n-(intOf v).toNat)
 case atStart=>exact ⟨0,Nat.zero_le _,rfl,HST.out⟩
 case round =>
  obtain ⟨j,hj,rfl,hs⟩:=hrel
  by_cases hlt:j<n
  ·obtain ⟨d,hd⟩:∃ d,ds[j]? = some d:=⟨_,List.getElem?_eq_getElem (by rw [HNN.out];exact hlt)⟩;obtain ⟨g,rfl⟩:=HUA.out (by omega);have hnj:=HNG.out j d hd;have hro:=fr_row hs.fr HC.out HO.out HU.out ⟨by decide,by decide⟩;have x0:wr.cell? ⟨g,j*3,none⟩=some (.string ⟨d.text.toArray⟩):=own_cell hro (by rw [show j*3=j*3+0 from rfl,show nmsCells ds=ds.flatMap nmCell from rfl];exact (flat_get nmCell 3 (fun _=>rfl) ds j 0 d hd (by omega)).trans rfl);have x1:wr.cell? ⟨g,j*3+1,none⟩=some (.int .i64 d.at_.line):=own_cell hro (by rw [show nmsCells ds=ds.flatMap nmCell from rfl];exact (flat_get nmCell 3 (fun _=>rfl) ds j 1 d hd (by omega)).trans rfl);have x2:wr.cell? ⟨g,j*3+2,none⟩=some (.int .i64 d.at_.col):=own_cell hro (by rw [show nmsCells ds=ds.flatMap nmCell from rfl];exact (flat_get nmCell 3 (fun _=>rfl) ds j 2 d hd (by omega)).trans rfl);obtain ⟨V,hV⟩:∃ V,wr.alloc (.cells #[.string ⟨d.text.toArray⟩,.int .i64 d.at_.line,.int .i64 d.at_.col] 49)=V:=⟨_,rfl⟩;have hbV:Below wr.heap.size wr V:=by rw [<- hV];exact (Below.refl _ wr).alloc (Nat.le_refl _) _
   have hkV:V.heap[wr.heap.size]? = some (.cells #[.string ⟨d.text.toArray⟩,.int .i64 d.at_.line,.int .i64 d.at_.col] 49 (0,0)):=by rw [<- hV];exact blk_new wr _
   have v0:V.cell? ⟨wr.heap.size,0,none⟩=some (.string ⟨d.text.toArray⟩):=(blk_cell hkV 0).trans rfl;have v1:V.cell? ⟨wr.heap.size,1,none⟩=some (.int .i64 d.at_.line):=(blk_cell hkV 1).trans rfl;have v2:V.cell? ⟨wr.heap.size,2,none⟩=some (.int .i64 d.at_.col):=(blk_cell hkV 2).trans rfl;have hms:n-(intOf (Value.int IntKind.i64 ((j:Int)+1))).toNat<n-(intOf (Value.int IntKind.i64 (j:Int))).toNat:=by simp [intOf];omega
   have HMS:=Lib.hid hms;have HS:=Lib.hid hs;have HD:=Lib.hid (parName_any d V);have HBV:=Lib.hid hbV;have HV:=Lib.hid hV;have HNJ:=Lib.hid hnj;clear hms hs hbV hkV hV hnj hd hro
   go_wp2_with fail
   rw [HV.out];refine HD.out.mono ?_;rintro e w2 ⟨rfl,hb2⟩;obtain ⟨X,hX⟩:∃ X,w2.alloc (.cells #[.string ⟨d.text.toArray⟩,.int .i64 d.at_.line,.int .i64 d.at_.col] 49)=X:=⟨_,rfl⟩;have hbX:Below w2.heap.size w2 X:=by rw [<- hX];exact (Below.refl _ w2).alloc (Nat.le_refl _) _
   have hkX:X.heap[w2.heap.size]? = some (.cells #[.string ⟨d.text.toArray⟩,.int .i64 d.at_.line,.int .i64 d.at_.col] 49 (0,0)):=by rw [<- hX];exact blk_new w2 _
   have y0:=(blk_cell hkX 0).trans rfl;have y1:=(blk_cell hkX 1).trans rfl;have y2:=(blk_cell hkX 2).trans rfl;have hbr:Below wr.heap.size wr X:=HBV.out.trans ((hb2.trans (hbX.mono hb2.size)).mono HBV.out.size);have hmX:=HS.out.mp.below hbr;have hH:=has5_any w.heap.size _ (d).text X hmX;obtain ⟨r',hcr,hor,hsr⟩:=HS.out.st;have hcX:=(hbr.block _ (lt_of_heap hcr)).trans hcr;have hoX:=own_below hor hbr;have hfX:=HS.out.fr.trans (But.of_below hbr);have hsn:=Sp.decl_snoc k l (ns.take j) (d);rw [<- take_next5 HNJ.out] at hsn;have hle:=Sp.decl_take_le k l ns j;have hlim:=HL.out;have hBX:B<=X.heap.size:=Nat.le_trans hB (Nat.le_trans HS.out.fr.size hbr.size);have hsz:=hfX.size;have hci:i<cs.size:=by
    rcases Nat.lt_or_ge i cs.size with e | e
    ·exact e
    ·rw [Array.getElem?_eq_none e] at hi;cases hi
   cases hh:Sp.has (Sp.decl k l (ns.take j)).m (d).text with
   | true =>
    rw [hh] at hH;rw [Sp.step,if_pos hh] at hsn;have hA:=addF_any B c i k hk _ r' _ (d) X hcX (by rw [Array.getElem?_setIfInBounds_self_of_lt hci]) hoX hBX (by omega);unfold nmV at hA;have HH:=Lib.hid hH;have HA:=Lib.hid hA;have HX:=Lib.hid hX;have HSN:=Lib.hid hsn;have HFX:=Lib.hid hfX;have HSR:=Lib.hid hsr;have HMX:=Lib.hid hmX;have HOX:=Lib.hid hoX;clear hH hA hX hbX hkX hbr hmX hcr hor hsr hcX hoX hfX hsn hle hlim hh hb2
    go_wp2_with fail
    rw [HX.out];refine HH.out.mono ?_;rintro e w3 ⟨rfl,rfl⟩
    go_wp2_with fail
    refine HA.out.mono ?_;rintro e w4 ⟨r'',rfl,h1,h2,h3,h4⟩;have hst4:DSt B c i k w.heap.size cs r l (ns.take (j+1)) w w4:=by
     refine ⟨⟨r'',by rw [setp_set] at h1;exact h1,by rw [HSN.out];exact h2,HSR.out.trans hsz h4⟩,fr_more HFX.out HSR.out h3, ?_,Nat.le_refl _⟩;rw [HSN.out];refine (HMX.out).but h3 ?_;rintro (e | e)
     ·have:=lt_of_heap HC.out;omega
     ·obtain ⟨_,cur,e3⟩:=own_tag HOX.out e;have e4:=HMX.out;unfold MpAt at e4;rw [e4] at e3;cases e3
    have HS4:=Lib.hid hst4;clear hst4 h1 h2 h3 h4
    go_wp2
    exact ⟨⟨j+1,by omega,by go_num,HS4.out⟩,HMS.out⟩
   | false =>
    rw [hh] at hH;rw [Sp.step,if_neg (by rw [hh];decide)] at hsn;have hP:=fun v=>pl_put (t:=(d).text) hmX v;have hdi:(Sp.decl k l (ns.take j)).i=j:=by rw [Sp.decl_i,List.length_take,HNL.out];omega
    rw [hdi] at hsn;have hst4:=(HS.out.below hbr).put HC.out hsn;have HH:=Lib.hid hH;have HX:=Lib.hid hX;have HP:=Lib.hid (hP (j:Int));have HS4:=Lib.hid hst4;clear hH hX hbX hkX hbr hmX hcr hor hsr hcX hoX hfX hsn hle hlim hh hb2 hP hst4 hdi
    go_wp2_with fail
    rw [HX.out];refine HH.out.mono ?_;rintro e w3 ⟨rfl,rfl⟩;have hp:=HP.out
    go_wp2
    exact ⟨⟨j+1,by omega,by go_num,HS4.out⟩,HMS.out⟩
  ·obtain rfl:j=n:=by omega
   have hf:ns.take j=ns:=List.take_of_length_le (by rw [HNL.out];exact Nat.le_refl _);rw [hf] at hs;have HS:=Lib.hid hs;clear hs
   go_wp2
   go_ret
   exact ⟨_,rfl,HS.out⟩
end Go.Proofs.YtdfpkmfeldoamaaGreatDoor
