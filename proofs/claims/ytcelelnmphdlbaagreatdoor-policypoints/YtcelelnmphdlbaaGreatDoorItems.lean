/- How points, pairs and attackers are read. -/
import Derived.Test.YtcelelnmphdlbaaGreatDoorList
namespace Go.Proofs.YtcelelnmphdlbaaGreatDoor
open Go.RowKit Tn Lx
attribute [local go_sem] tok_field0 tok_field1 tok_field3

theorem own_apart {w : World} {B t1 t2 z1 z2 : Nat} {v u : Value} {n m : Nat} {xs ys : List Value} (h1 : w.ownsRow B t1 z1 v n xs) (h2 : w.ownsRow B t2 z2 u m ys) (ht : t1 ≠ t2) : ∀ k, u.ownBlock = some k → v.ownBlock ≠ some k := fun k hk e => by
  obtain ⟨_, c1, e1⟩ := own_tag h1 e
  obtain ⟨_, c2, e2⟩ := own_tag h2 hk
  rw [e1] at e2; injection e2 with e2; injection e2 with _ e2; exact ht e2
theorem own_none {w : World} {base : Nat} {t t' : TypeId} {z : Nat} {v : Value} {n : Nat} {xs : List Value} (h : w.ownsRow base t z v n xs) {k : Nat} {cs : Array Value} {fr : Nat × Nat} (hk : w.heap[k]? = some (.cells cs t' fr)) (ht : t' ≠ t) : v.ownBlock ≠ some k := fun e => by
  obtain ⟨_, cur, e1⟩ := own_tag h e
  rw [hk] at e1; injection e1 with e1; injection e1 with _ e1; exact ht e1
section
variable {c : Cx} {q : Nat} {v u : Value} {w w' : World} {cs : Array Value} {t : TypeId} {z n m : Nat} {xs ys : List Value}
/-- no other row of the policy's turns -/
theorem row_other (hr : c.r < c.B) (hb : c.bt < c.B) (hq : w.heap[q]? = some (.cells cs 53 (0, 0))) (hu : w.ownsRow c.B t z u m ys) (ht : t ≠ 189 ∧ t ≠ 53) (hB : But (FreeL c q v w) w w') (ha : ∀ k, u.ownBlock = some k → v.ownBlock ≠ some k) : w'.ownsRow c.B t z u m ys :=
  hB.own hu (fun k hk e => by
    obtain ⟨e0, cur, e1⟩ := own_tag hu hk
    rcases e with (e | e | ⟨_, cs, fr, e⟩) | e | e
    · omega
    · omega
    · rw [e1] at e; injection e with e; injection e with _ e; exact ht.1 e
    · rw [e, hq] at e1; injection e1 with e1; injection e1 with _ e1; exact ht.2 e1.symm
    · exact ha k hk e)
theorem freeL_kr (h : But (FreeL c q v w) w w') (ho : w.ownsRow c.B t z v n xs) (ht : t = 50 ∨ t = 100) : Kr c q w w' := But.mono h fun k _ e => by
  rcases e with (e | e | ⟨e, cs, fr, e1⟩) | e | e
  · exact .inl e
  · exact .inr (.inl e)
  · exact .inr (.inr (.inr ⟨e, cs, _, fr, e1, .inl rfl⟩))
  · exact .inr (.inr (.inl e))
  · obtain ⟨e0, cur, e1⟩ := own_tag ho e
    exact .inr (.inr (.inr ⟨e0, cur, _, _, e1, .inr ht⟩))
end
/-- apart still, where the one is as before, or new -/
theorem apart_new {w : World} {B t z m : Nat} {v v' u : Value} {ys : List Value} (hv : v'.ownBlock = v.ownBlock ∨ ∃ g, v'.ownBlock = some g ∧ w.heap.size ≤ g) (hu : w.ownsRow B t z u m ys) (ha : ∀ k, v.ownBlock = some k → u.ownBlock ≠ some k) : ∀ k, v'.ownBlock = some k → u.ownBlock ≠ some k := fun k hk e => by
  rcases hv with h | ⟨g, h, hg⟩
  · rw [h] at hk; exact ha k hk e
  · rw [h] at hk; injection hk with hk
    obtain ⟨_, cur, e1⟩ := own_tag hu e
    have := lt_of_heap e1; omega

set_option maxRecDepth 100000 in
set_option maxHeartbeats 4000000 in
theorem conf_ok (c : Cx) (X : Nat → Prop) (w : World) (s s1 : Ex.S) (q pp n : Nat) (v1 v2 v3 : Value) (g : Py.St) (l : List Py.Nm) (h : Rd c X w s) (hP : Pm c q pp v1 v2 v3 w g) (hr : Py.listO c.ts n g.conf s = some (l, s1)) (hf : g.conf.length + n ≤ 2000) :
    Calls Tryz.prog 44 #[.pointer (some ⟨pp, 0, none⟩)] w (ReadY c X w q pp ⟨l, g.integ, g.ord, g.att⟩ s1) := by
  have hr1 := h.rlt; have hb1 := h.blt
  have p1 := hP.p1
  have hL := list_ok c X w s q pp 1 n _ v1 g.conf (l, s1) h hP.par hP.ppB hP.qB hP.pol rfl hP.conf hr hf
  have HL := Lib.hid hL; have HP := Lib.hid hP
  clear hL hP h hr
  go_enter Tryz.func44, Tryz.ntmps44
  go_wp2_with fail
  refine HL.out.mono ?_
  rintro e w1 ⟨v', rfl, hR1, hp, hq, ho, hB, hv⟩
  have hM : Pm c q pp v' v2 v3 w1 ⟨l, g.integ, g.ord, g.att⟩ :=
    ⟨hp, hq, ho, row_other hr1 hb1 HP.out.pol HP.out.integ ⟨by decide, by decide⟩ hB (fun k hk e => HP.out.apart k e hk), row_other hr1 hb1 HP.out.pol HP.out.ord ⟨by decide, by decide⟩ hB (own_apart HP.out.conf HP.out.ord (by decide)), apart_new hv HP.out.integ HP.out.apart, HP.out.ppB, HP.out.qB⟩
  have HM := Lib.hid hM; have HR := Lib.hid hR1; have HK := Lib.hid (freeL_kr hB HP.out.conf (.inl rfl))
  clear hM hR1 hp hq ho hB hv HL
  go_wp2
  go_ret
  exact ⟨_, _, _, rfl, HR.out, HM.out, HK.out⟩

set_option maxRecDepth 100000 in
set_option maxHeartbeats 4000000 in
theorem integ_ok (c : Cx) (X : Nat → Prop) (w : World) (s s1 : Ex.S) (q pp n : Nat) (v1 v2 v3 : Value) (g : Py.St) (l : List Py.Nm) (h : Rd c X w s) (hP : Pm c q pp v1 v2 v3 w g) (hr : Py.listO c.ts n g.integ s = some (l, s1)) (hf : g.integ.length + n ≤ 2000) :
    Calls Tryz.prog 47 #[.pointer (some ⟨pp, 0, none⟩)] w (ReadY c X w q pp ⟨g.conf, l, g.ord, g.att⟩ s1) := by
  have hr1 := h.rlt; have hb1 := h.blt
  have p1 := hP.p1
  have hL := list_ok c X w s q pp 2 n _ v2 g.integ (l, s1) h hP.par hP.ppB hP.qB hP.pol rfl hP.integ hr hf
  have HL := Lib.hid hL; have HP := Lib.hid hP
  clear hL hP h hr
  go_enter Tryz.func47, Tryz.ntmps47
  go_wp2_with fail
  refine HL.out.mono ?_
  rintro e w1 ⟨v', rfl, hR1, hp, hq, ho, hB, hv⟩
  have hM : Pm c q pp v1 v' v3 w1 ⟨g.conf, l, g.ord, g.att⟩ :=
    ⟨hp, hq, row_other hr1 hb1 HP.out.pol HP.out.conf ⟨by decide, by decide⟩ hB HP.out.apart, ho, row_other hr1 hb1 HP.out.pol HP.out.ord ⟨by decide, by decide⟩ hB (own_apart HP.out.integ HP.out.ord (by decide)), (fun k hk e => apart_new hv HP.out.conf (fun k hk e => HP.out.apart k e hk) k e hk), HP.out.ppB, HP.out.qB⟩
  have HM := Lib.hid hM; have HR := Lib.hid hR1; have HK := Lib.hid (freeL_kr hB HP.out.integ (.inl rfl))
  clear hM hR1 hp hq ho hB hv HL
  go_wp2
  go_ret
  exact ⟨_, _, _, rfl, HR.out, HM.out, HK.out⟩

set_option maxHeartbeats 1000000 in
theorem hasAtt_any (c : Cx) (w : World) (q pp : Nat) (v1 v2 v3 : Value) (g : Py.St) (hP : Pm c q pp v1 v2 v3 w g) : Calls Tryz.prog 35 #[.pointer (some ⟨pp, 0, none⟩)] w fun e w' => e = .returned (.bool (!g.att.text.isEmpty)) ∧ w = w' := by
  have p1 := hP.p1; have g4 := hP.g4
  clear hP
  go_enter Tryz.func35, Tryz.ntmps35
  go_wp2
  go_ret
  exact ⟨rfl, rfl⟩

set_option maxRecDepth 100000 in
set_option maxHeartbeats 4000000 in
theorem behind_ok (c : Cx) (X : Nat → Prop) (w : World) (s s1 s2 : Ex.S) (pp q : Nat) (m : B) (n : Py.Nm) (h : Rd c X w s) (hpp : w.heap[pp]? = some (.cells (parCells c.r q) 66 (0, 0))) (hpB : c.B ≤ pp) (ht : Py.takeO c.ts m s = some s1) (hn : Py.nameO c.ts s1 = some (n, s2)) :
    Calls Tryz.prog 63 #[.pointer (some ⟨pp, 0, none⟩), .string ⟨m.toArray⟩] w fun e w' => e = .returned (.tuple #[yval n, .nilIface]) ∧ Rd c X w' s2 ∧ Kp c w w' := by
  have hr1 := h.rlt; have hb1 := h.blt; have hg1 := h.glt; have hsz := h.size
  have p00 : w.cell? ⟨pp, 0, none⟩ = some (.pointer (some ⟨c.r, 0, none⟩)) := (blk_cell hpp 0).trans rfl
  have p0 := fun o => (World.cell?_alloc_lt w o _ (World.block_lt_of_cell? _ _ p00)).trans p00
  obtain ⟨V, hV⟩ : ∃ V, (w.alloc (.cells #[.string ⟨#[]⟩, .int .i64 0, .int .i64 0] 50)).alloc (.cells #[.string ⟨m.toArray⟩] 9) = V := ⟨_, rfl⟩
  have hbV : Below w.heap.size w V := by rw [← hV]; exact ((Below.refl _ w).alloc (Nat.le_refl _) _).alloc (by simp) _
  have kr : V.heap[w.heap.size]? = some (.cells #[.string ⟨#[]⟩, .int .i64 0, .int .i64 0] 50 (0, 0)) := by rw [← hV]; exact blk_alloc (blk_new w _) _
  have ks : V.cell? ⟨w.heap.size + 1, 0, none⟩ = some (.string ⟨m.toArray⟩) := by
    rw [← hV]; have := (blk_cell (blk_new (w.alloc (.cells #[.string ⟨#[]⟩, .int .i64 0, .int .i64 0] 50)) (.cells #[.string ⟨m.toArray⟩] 9)) 0).trans rfl
    rwa [World.size_alloc] at this
  have hT := take_ok c X V s s1 m (w.heap.size + 1) (h.below hbV) ks ht
  have hpV := (hbV.block pp (lt_of_heap hpp)).trans hpp
  have HT := Lib.hid hT; have HV := Lib.hid hV; have HB := Lib.hid hbV; have HKR := Lib.hid kr; have HPV := Lib.hid hpV; have HN := Lib.hid hn
  clear hT hV hbV kr ks hpV h hpp hn ht p00
  go_enter Tryz.func63, Tryz.ntmps63
  go_wp2_with fail
  rw [HV.out]
  refine HT.out.mono ?_
  rintro e w1 ⟨rfl, hR1, hK1⟩
  have hp1 := hK1.heap HPV.out (by omega) (by omega) (by decide)
  have hk1 := hK1.heap HKR.out (by omega) (by omega) (by decide)
  have hA := yname_ok c X w1 s1 s2 pp q n hR1 hp1 hpB HN.out
  have HA := Lib.hid hA; have HK1 := Lib.hid (Below.then_kp HB.out hK1); have HKR1 := Lib.hid hk1
  clear hA hp1 hk1 hR1 hK1 HT HV HB HKR HPV HN p0
  go_wp2_with fail
  refine HA.out.mono ?_
  rintro e w2 ⟨rfl, hR2, hK2⟩
  have hk2 := hK2.heap HKR1.out (by omega) (by omega) (by decide)
  have x0 : w2.cell? ⟨w.heap.size, 0, none⟩ = some (.string ⟨#[]⟩) := (blk_cell hk2 0).trans rfl
  have x1 : w2.cell? ⟨w.heap.size, 1, none⟩ = some (.int .i64 0) := (blk_cell hk2 1).trans rfl
  have x2 : w2.cell? ⟨w.heap.size, 2, none⟩ = some (.int .i64 0) := (blk_cell hk2 2).trans rfl
  have xf : ∀ i, w2.frozen? ⟨w.heap.size, i, none⟩ = false := fun i => blk_frozen hk2 i
  have HR2 := Lib.hid hR2; have HK2 := Lib.hid (HK1.out.trans hK2); have HKR2 := Lib.hid hk2
  clear hR2 hK2 hk2 HA HK1 HKR1
  unfold yval
  go_wp2
  have hr3 := blk_set (blk_set (blk_set HKR2.out 0 (.string ⟨n.text.toArray⟩)) 1 (.int .i64 n.at_.line)) 2 (.int .i64 n.at_.col)
  have r0 := (blk_cell hr3 0).trans rfl
  have r1 := (blk_cell hr3 1).trans rfl
  have r2 := (blk_cell hr3 2).trans rfl
  refine bodyPost_ret (v := .tuple #[.agg #[.string ⟨n.text.toArray⟩, .int .i64 n.at_.line, .int .i64 n.at_.col], .nilIface]) (by simp [results, Tryz.results63, go_sem, r0, r1, r2]) rfl ⟨rfl, ?_, ?_⟩
  · exact HR2.out.but (but_three w2 w.heap.size 0 _ _ _) (fun e => by omega) (fun e => by omega) (fun e => by omega) (fun k e => .inr (by subst e; exact ⟨_, _, _, HKR2.out, by decide, by decide⟩))
  · exact HK2.out.new (but_three w2 w.heap.size 0 _ _ _) (fun k e => by omega)

set_option maxRecDepth 100000 in
set_option maxHeartbeats 4000000 in
theorem att_ok (c : Cx) (X : Nat → Prop) (w : World) (s s1 : Ex.S) (q pp : Nat) (v1 v2 v3 : Value) (g : Py.St) (m : Py.Nm) (h : Rd c X w s) (hP : Pm c q pp v1 v2 v3 w g) (hn : Py.nameO c.ts s = some (m, s1)) (hg : g.att.text = []) :
    Calls Tryz.prog 49 #[.pointer (some ⟨pp, 0, none⟩)] w (ReadY c X w q pp ⟨g.conf, g.integ, g.ord, m⟩ s1) := by
  have hr1 := h.rlt; have hb1 := h.blt; have hg1 := h.glt; have hsz := h.size
  have hA := yname_ok c X w s s1 pp q m h hP.par hP.ppB hn
  have HA := Lib.hid hA; have HP := Lib.hid hP; have HG := Lib.hid hg
  clear hA hP h hn hg
  go_enter Tryz.func49, Tryz.ntmps49
  go_wp2_with fail
  refine HA.out.mono ?_
  rintro e w1 ⟨rfl, hR1, hK1⟩
  unfold yval
  obtain ⟨V, hV⟩ : ∃ V, w1.alloc (.cells #[.string ⟨m.text.toArray⟩, .int .i64 m.at_.line, .int .i64 m.at_.col] 50) = V := ⟨_, rfl⟩
  have hbV : Below w1.heap.size w1 V := by rw [← hV]; exact (Below.refl _ w1).alloc (Nat.le_refl _) _
  have kV : V.heap[w1.heap.size]? = some (.cells #[.string ⟨m.text.toArray⟩, .int .i64 m.at_.line, .int .i64 m.at_.col] 50 (0, 0)) := by rw [← hV]; exact blk_new w1 _
  have hKV := hK1.then_below hbV
  have hRV := hR1.below hbV
  have hPV := HP.out.kp hr1 hb1 hKV
  have hH := hasAtt_any c V q pp v1 v2 v3 g hPV
  rw [HG.out] at hH
  have HH := Lib.hid hH; have HV := Lib.hid hV; have HKV := Lib.hid hKV; have HRV := Lib.hid hRV; have HPV := Lib.hid hPV; have HNV := Lib.hid kV
  clear hH hV hKV hRV hPV kV hbV hR1 hK1 HA
  go_wp2_with fail
  rw [HV.out]
  refine HH.out.mono ?_
  rintro e w2 ⟨rfl, rfl⟩
  have p1 := HPV.out.p1; have g4 := HPV.out.g4; have g5 := HPV.out.g5; have g6 := HPV.out.g6; have gf := HPV.out.gf
  have y0 : V.cell? ⟨w1.heap.size, 0, none⟩ = some (.string ⟨m.text.toArray⟩) := (blk_cell HNV.out 0).trans rfl
  have y1 : V.cell? ⟨w1.heap.size, 1, none⟩ = some (.int .i64 m.at_.line) := (blk_cell HNV.out 1).trans rfl
  have y2 : V.cell? ⟨w1.heap.size, 2, none⟩ = some (.int .i64 m.at_.col) := (blk_cell HNV.out 2).trans rfl
  clear HH HV
  go_wp2_with fail
  go_region
  go_wp2
  go_ret
  have hPd := HPV.out.below (Below.refl _ V).drew
  have hS := but_three V.drew q 4 (.string ⟨m.text.toArray⟩) (.int .i64 m.at_.line) (.int .i64 m.at_.col)
  refine ⟨v1, v2, v3, rfl, ?_, ?_, ?_⟩
  · exact HRV.out.drew.but hS (fun e => by have := hPd.qB; omega) (fun e => by have := hPd.qB; omega) (fun e => by have := hPd.qB; omega) (fun k e => .inr (by subst e; exact ⟨_, _, _, hPd.pol, by decide, by decide⟩))
  · exact ⟨hS.heap hPd.par (fun e => hPd.qp e.symm), (blk_set (blk_set (blk_set hPd.pol 4 _) 5 _) 6 _), hS.own hPd.conf (fun k hk e => own_none hPd.conf hPd.pol (by decide) (e ▸ hk)), hS.own hPd.integ (fun k hk e => own_none hPd.integ hPd.pol (by decide) (e ▸ hk)), hS.own hPd.ord (fun k hk e => own_none hPd.ord hPd.pol (by decide) (e ▸ hk)), hPd.apart, hPd.ppB, hPd.qB⟩
  · exact (Kr.of_kp HKV.out.drew).trans (But.mono hS fun k _ e => .inr (.inr (.inl e)))
end Go.Proofs.YtcelelnmphdlbaaGreatDoor
