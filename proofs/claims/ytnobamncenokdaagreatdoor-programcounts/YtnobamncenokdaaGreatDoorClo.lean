/- How inputs and exceptions are read. -/
import Derived.Test.YtnobamncenokdaaGreatDoorDeclPt
namespace Go.Proofs.YtnobamncenokdaaGreatDoor
open Go.RowKit Tn Lx

theorem own_none {w : World} {base : Nat} {t t' : TypeId} {z : Nat} {v : Value} {n : Nat} {xs : List Value} (h : w.ownsRow base t z v n xs) {k : Nat} {cs : Array Value} {fr : Nat × Nat} (hk : w.heap[k]? = some (.cells cs t' fr)) (ht : t' ≠ t) : v.ownBlock ≠ some k := fun e => by
  obtain ⟨_, cur, e1⟩ := own_tag h e
  rw [hk] at e1; injection e1 with e1; injection e1 with _ e1; exact ht e1
theorem freeL_kr {c : Cx} {q : Nat} {v : Value} {w w' : World} {n : Nat} {xs : List Value} (h : But (FreeL c q v w) w w') (ho : w.ownsRow c.B 46 10 v n xs) : Kr c q w w' := But.mono h fun k _ e => by
  rcases e with (e | e | ⟨e, cs, fr, e1⟩) | e | e
  · exact .inl e
  · exact .inr (.inl e)
  · exact .inr (.inr (.inr ⟨e, cs, _, fr, e1, .inl rfl⟩))
  · exact .inr (.inr (.inl e))
  · obtain ⟨e0, cur, e1⟩ := own_tag ho e
    exact .inr (.inr (.inr ⟨e0, cur, _, _, e1, .inr rfl⟩))
section
variable {c : Cx} {X : Nat → Prop} {q pp : Nat} {v1 v4 : Value} {w w' : World} {g : Pg.St}
/-- no other row of the program's turns -/
theorem Pm.other {v u : Value} {m : Nat} {ys : List Value} (hr : c.r < c.B) (hb : c.bt < c.B) (hq : w.heap[q]? = some (.cells (progCells c.bt v1 v4 g) 42 (0, 0))) (hu : w.ownsRow c.B 46 10 u m ys) (hB : But (FreeL c q v w) w w') (ha : ∀ k, u.ownBlock = some k → v.ownBlock ≠ some k) : w'.ownsRow c.B 46 10 u m ys :=
  hB.own hu (fun k hk e => by
    obtain ⟨e0, cur, e1⟩ := own_tag hu hk
    rcases e with (e | e | ⟨_, cs, fr, e⟩) | e | e
    · omega
    · omega
    · rw [e1] at e; injection e with e; injection e with _ e; exact absurd e (by decide)
    · rw [e, hq] at e1; injection e1 with e1; injection e1 with _ e1; exact absurd e1 (by decide)
    · exact ha k hk e)
theorem Pm.par' {v : Value} {n : Nat} {xs : List Value} (h : Pm c q pp v1 v4 w g) (hr : c.r < c.B) (hb : c.bt < c.B) (hv : w.ownsRow c.B 46 10 v n xs) (hB : But (FreeL c q v w) w w') : w'.heap[pp]? = some (.cells #[.pointer (some ⟨c.r, 0, none⟩), .pointer (some ⟨q, 0, none⟩)] 55 (0, 0)) :=
  hB.heap h.par (by
    have := h.ppB
    rintro ((e | e | ⟨_, cs, fr, e⟩) | e | e)
    · omega
    · omega
    · rw [h.par] at e; injection e with e; injection e with _ e; exact absurd e (by decide)
    · exact h.qp e.symm
    · exact own_none hv h.par (by decide) e)
theorem Pm.exn {d : Pg.Dc} {v' : Value} (h : Pm c q pp v1 v4 w g) (hr : c.r < c.B) (hb : c.bt < c.B) (ho : w'.ownsRow c.B 46 10 v' (g.exns ++ [d]).length (cells10 (g.exns ++ [d]))) (hq : w'.heap[q]? = some (.cells ((progCells c.bt v1 v4 g).setIfInBounds 4 v') 42 (0, 0))) (hB : But (FreeL c q v4 w) w w') (hv : v'.ownBlock = v4.ownBlock ∨ ∃ k, v'.ownBlock = some k ∧ w.heap.size ≤ k) :
    Pm c q pp v1 v' w' ⟨g.ins, g.exns ++ [d], g.mt, g.mp, g.mb⟩ :=
  ⟨h.par' hr hb h.exns hB, hq, Pm.other hr hb h.prog h.ins hB h.apart, ho, fun k hk => by
    rcases hv with e | ⟨k', e, e1⟩
    · rw [e]; exact h.apart k hk
    · rw [e]; intro e2; injection e2 with e2
      obtain ⟨_, cur, e3⟩ := own_tag h.ins hk
      have := lt_of_heap e3; omega, h.ppB, h.qB⟩
theorem Pm.inp {d : Pg.Dc} {v' : Value} (h : Pm c q pp v1 v4 w g) (hr : c.r < c.B) (hb : c.bt < c.B) (ho : w'.ownsRow c.B 46 10 v' (g.ins ++ [d]).length (cells10 (g.ins ++ [d]))) (hq : w'.heap[q]? = some (.cells ((progCells c.bt v1 v4 g).setIfInBounds 1 v') 42 (0, 0))) (hB : But (FreeL c q v1 w) w w') (hv : v'.ownBlock = v1.ownBlock ∨ ∃ k, v'.ownBlock = some k ∧ w.heap.size ≤ k) :
    Pm c q pp v' v4 w' ⟨g.ins ++ [d], g.exns, g.mt, g.mp, g.mb⟩ :=
  ⟨h.par' hr hb h.ins hB, hq, ho, Pm.other hr hb h.prog h.exns hB (fun k hk e => h.apart k e hk), fun k hk => by
    rcases hv with e | ⟨k', e, e1⟩
    · rw [e] at hk; exact h.apart k hk
    · intro e2
      rw [e] at hk; injection hk with hk
      obtain ⟨_, cur, e3⟩ := own_tag h.exns e2
      have := lt_of_heap e3; omega, h.ppB, h.qB⟩
end

/-- an exception -/
def exnF (ts : List Tok) (g : Pg.St) (s : Ex.S) : Pg.R Pg.St := (Pg.lift (Pg.decl0 ts Pg.wExn s)).bind fun d s1 => .ok ⟨g.ins, g.exns ++ [d], g.mt, g.mp, g.mb⟩ s1
/-- an input -/
def inpF (ts : List Tok) (g : Pg.St) (s : Ex.S) : Pg.R Pg.St := (Pg.lift (Pg.declP ts Pg.wInput s)).bind fun d s1 => .ok ⟨g.ins ++ [d], g.exns, g.mt, g.mp, g.mb⟩ s1

set_option maxRecDepth 100000 in
set_option maxHeartbeats 4000000 in
theorem exn_any (c : Cx) (X : Nat → Prop) (w : World) (s : Ex.S) (q pp : Nat) (v1 v4 : Value) (g : Pg.St) (h : Rd c X w s) (hP : Pm c q pp v1 v4 w g) (hf : g.exns.length ≤ 200) :
    Calls Tryz.prog 34 #[.pointer (some ⟨pp, 0, none⟩)] w (ReadP c X w q pp (exnF c.ts g s)) := by
  have hr := h.rlt; have hb := h.blt
  have p1 := hP.p1
  have hD := decl_none c X w s q pp 4 _ v4 Pg.wExn g.exns _ h hP.par hP.ppB hP.qB hP.prog rfl hP.exns hf
  have hE : exnF c.ts g s = (Pg.lift (Pg.decl0 c.ts Pg.wExn s)).bind fun d s1 => .ok ⟨g.ins, g.exns ++ [d], g.mt, g.mp, g.mb⟩ s1 := rfl
  generalize Pg.decl0 c.ts Pg.wExn s = R at *
  have HD := Lib.hid hD; have HP := Lib.hid hP; have HE := Lib.hid hE
  clear hD hP h hE
  go_enter Tryz.func34, Tryz.ntmps34
  go_wp2_with fail
  refine HD.out.mono ?_
  rintro e w1 (⟨d, s1, v', rfl, rfl, hR1, ho, hq, hB, hv⟩ | ⟨cd, p, rfl, rfl, hK⟩)
  · have HR := Lib.hid hR1; have HM := Lib.hid (HP.out.exn hr hb ho hq hB hv); have HK := Lib.hid (freeL_kr hB HP.out.exns)
    clear hR1 ho hq hB hv
    go_wp2
    go_ret
    exact .inl ⟨_, _, _, _, HE.out, rfl, HR.out, HM.out, HK.out⟩
  · have HK := Lib.hid (Kr.of_kp (q := q) hK)
    clear hK
    unfold dval
    go_wp2
    go_ret
    exact .inr ⟨cd, p, [], HE.out, rfl, HK.out⟩

set_option maxRecDepth 100000 in
set_option maxHeartbeats 4000000 in
theorem inp_any (c : Cx) (X : Nat → Prop) (w : World) (s : Ex.S) (q pp : Nat) (v1 v4 : Value) (g : Pg.St) (h : Rd c X w s) (hP : Pm c q pp v1 v4 w g) (hf : g.ins.length ≤ 200) :
    Calls Tryz.prog 28 #[.pointer (some ⟨pp, 0, none⟩)] w (ReadP c X w q pp (inpF c.ts g s)) := by
  have hr := h.rlt; have hb := h.blt; have hsz := h.size
  have p1 := hP.p1
  obtain ⟨V, hV⟩ : ∃ V, w.alloc (.cells #[.func (.func 30) #[] #[]] 95) = V := ⟨_, rfl⟩
  have hbV : Below w.heap.size w V := by rw [← hV]; exact (Below.refl _ w).alloc (Nat.le_refl _) _
  have kp : V.heap[w.heap.size]? = some (.cells #[.func (.func 30) #[] #[]] 95 (0, 0)) := by rw [← hV]; exact blk_new w _
  have hPV := hP.below hbV
  have hD := decl_points c X V s q pp 1 _ v1 Pg.wInput g.ins _ w.heap.size (h.below hbV) hPV.par hPV.ppB hPV.qB hPV.prog rfl hPV.ins hf kp hsz
  have hE : inpF c.ts g s = (Pg.lift (Pg.declP c.ts Pg.wInput s)).bind fun d s1 => .ok ⟨g.ins ++ [d], g.exns, g.mt, g.mp, g.mb⟩ s1 := rfl
  generalize Pg.declP c.ts Pg.wInput s = R at *
  have HD := Lib.hid hD; have HP := Lib.hid hPV; have HE := Lib.hid hE; have HV := Lib.hid hV; have HB := Lib.hid (Kr.of_kp (q := q) (Kp.of_below (c := c) hbV))
  clear hD hP h hE hV hbV kp hPV
  go_enter Tryz.func28, Tryz.ntmps28
  go_wp2_with fail
  rw [HV.out]
  refine HD.out.mono ?_
  rintro e w1 (⟨d, s1, v', rfl, rfl, hR1, ho, hq, hB, hv⟩ | ⟨cd, p, rfl, rfl, hK⟩)
  · have HR := Lib.hid hR1; have HM := Lib.hid (HP.out.inp hr hb ho hq hB hv); have HK := Lib.hid (HB.out.trans (freeL_kr hB HP.out.ins))
    clear hR1 ho hq hB hv
    go_wp2
    go_ret
    exact .inl ⟨_, _, _, _, HE.out, rfl, HR.out, HM.out, HK.out⟩
  · have HK := Lib.hid (HB.out.trans (Kr.of_kp (q := q) hK))
    clear hK
    unfold dval
    go_wp2
    go_ret
    exact .inr ⟨cd, p, [], HE.out, rfl, HK.out⟩
end Go.Proofs.YtnobamncenokdaaGreatDoor
