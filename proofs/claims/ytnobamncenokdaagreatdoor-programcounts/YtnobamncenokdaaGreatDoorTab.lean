import Derived.Test.YtnobamncenokdaaGreatDoorClo
import Derived.Test.YtnobamncenokdaaGreatDoorExpr

/- The main expression. -/
namespace Go.Proofs.YtnobamncenokdaaGreatDoor
open Go.RowKit Tn Lx
attribute [local go_sem] tok_field0 tok_field1 tok_field3

/-- what errors.As asks for -/
def ErrT (w : World) : Prop := w.cell? ⟨0, 0, none⟩ = some (.iface 101 (.agg #[.pointer (some ⟨9, 25, none⟩)]))
theorem ErrT.lt {w : World} (h : ErrT w) : 0 < w.heap.size := World.block_lt_of_cell? _ _ h
theorem ErrT.below {w w' : World} {N : Nat} (h : ErrT w) (hb : Below N w w') (hN : 0 < N) : ErrT w' := (World.cell?_of_block (hb.block 0 hN)).trans h

set_option maxHeartbeats 1000000 in
theorem hasMain_any (c : Cx) (w : World) (q pp : Nat) (v1 v4 : Value) (g : Pg.St) (hP : Pm c q pp v1 v4 w g) : Calls Tryz.prog 16 #[.pointer (some ⟨pp, 0, none⟩)] w fun e w' => e = .returned (.bool (g.mt == Pg.wMain)) ∧ w = w' := by
  have p1 := hP.p1; have g6 := hP.g6
  clear hP
  go_enter Tryz.func16, Tryz.ntmps16
  go_wp2
  all_goals
    go_ret
    refine ⟨ret_bool ?_, rfl⟩
    simp [Pg.wMain]

set_option maxRecDepth 100000 in
set_option maxHeartbeats 4000000 in
theorem wrongMain_any (c : Cx) (X : Nat → Prop) (w : World) (s : Ex.S) (q pp : Nat) (cd : Int) (v1 v4 : Value) (g : Pg.St) (h : Rd c X w s) (hP : Pm c q pp v1 v4 w g) (hg : ErrT w) : Calls Tryz.prog 17 #[.pointer (some ⟨pp, 0, none⟩), .int .i64 cd] w fun e w' => e = .returned (dvalN cd (Ex.at_ c.ts s) Pg.wMain) ∧ Below w.heap.size w w' := by
  have p0 := hP.p0
  have hW := wrong_at c X w s cd h
  have hlt := hg.lt
  generalize Ex.at_ c.ts s = p at *
  have HW := Lib.hid hW; have HG := Lib.hid hg
  clear hW hg hP h
  go_enter Tryz.func17, Tryz.ntmps17
  go_wp2_with fail
  refine HW.out.mono ?_
  rintro e w1 ⟨rfl, hb1⟩
  obtain ⟨V, hV⟩ : ∃ V, w1.alloc (.cells #[.int .i64 0, .int .i64 0, .int .i64 0, .string ⟨#[]⟩] 32) = V := ⟨_, rfl⟩
  have hbV : Below w1.heap.size w1 V := by rw [← hV]; exact (Below.refl _ w1).alloc (Nat.le_refl _) _
  have hD : DiagAt w1.heap.size V := by rw [← hV]; exact ⟨by simp [go_sem], by simp [go_sem], by simp [go_sem], by simp [go_sem], fun i => by simp [go_sem]⟩
  have hbW : Below w.heap.size w V := hb1.trans (hbV.mono hb1.size)
  have hgV : ErrT V := HG.out.below hbW hlt
  have hs1 := hb1.size
  have HV := Lib.hid hV; have HD := Lib.hid hD; have HGV := Lib.hid hgV; have HBW := Lib.hid hbW
  clear hV hD hgV hbW hbV hb1 HW HG
  unfold dval
  go_wp2_with fail
  rw [HV.out]
  refine (as_hit_fz cd p.line p.col ⟨#[]⟩ w1.heap.size _ _ _ _ V HGV.out HD.out.d0 HD.out.d1 HD.out.d2 HD.out.d3 HD.out.df).mono ?_
  rintro e w2 ⟨rfl, hN, ⟨d0, d1, d2, d3⟩, df⟩
  have hb2 : Below w.heap.size w w2 := HBW.out.trans (hN.to_below (by omega) HBW.out.size)
  have hl2 := hb2.size
  have HB2 := Lib.hid hb2; have HN := Lib.hid hN
  clear hb2 hN
  go_wp2
  go_ret
  exact ⟨rfl, HB2.out.setCell (by omega) _⟩

/-- the expression behind the mark, into a variable f of a function; or what is wrong -/
def BodyP (c : Cx) (X : Nat → Prop) (w : World) (bf : Nat) (cs : Array Value) (R : Ex.Res Nat) (e : Ending) (w' : World) : Prop :=
  (∃ i s, R = .ok i s ∧ e = .returned .nilIface ∧ Rd c X w' s ∧ But (FreeD c bf w) w w' ∧ w'.heap[bf]? = some (.cells (cs.setIfInBounds 4 (.int .i64 (i : Int))) 40 (0, 0))) ∨ (∃ cd p, R = .bad cd p ∧ e = .returned (dval cd p) ∧ But (FreeD c bf w) w w')

set_option maxRecDepth 100000 in
set_option maxHeartbeats 4000000 in
theorem body_any (c : Cx) (X : Nat → Prop) (w : World) (s : Ex.S) (n : Nat) (hn : n ≤ 900000) (pp bf : Nat) (cs : Array Value) (x : Value) (h : Rd c X w s) (hpp : w.heap[pp]? = some (.cells #[.pointer (some ⟨c.r, 0, none⟩), x] 55 (0, 0))) (hbf : w.heap[bf]? = some (.cells cs 40 (0, 0))) (hcs : 4 < cs.size) (hbB : c.B ≤ bf) (hpB : c.B ≤ pp)
    (hg : ErrT w) (hG : 0 < c.r ∧ 0 < c.bt ∧ 0 < c.B) (hne : Pg.bodyF c.ts n s ≠ .out) :
    Calls Tryz.prog 52 #[.pointer (some ⟨pp, 0, none⟩), .pointer (some ⟨bf, 0, none⟩)] w (BodyP c X w bf cs (Pg.bodyF c.ts n s)) := by
  have hr1 := h.rlt; have hb1 := h.blt; have hg1 := h.glt; have hsz := h.size
  have p0 : w.cell? ⟨pp, 0, none⟩ = some (.pointer (some ⟨c.r, 0, none⟩)) := (blk_cell hpp 0).trans rfl
  obtain ⟨V, hV⟩ : ∃ V, w.alloc (.cells #[.string ⟨#[61]⟩] 9) = V := ⟨_, rfl⟩
  have hbV : Below w.heap.size w V := by rw [← hV]; exact (Below.refl _ w).alloc (Nat.le_refl _) _
  have ks : V.cell? ⟨w.heap.size, 0, none⟩ = some (.string ⟨#[61]⟩) := by rw [← hV]; exact (blk_cell (blk_new w _) 0).trans rfl
  have hT := take_any c X V s [61] w.heap.size (h.below hbV) ks
  have hE : Pg.bodyF c.ts n s = (Ex.take c.ts [61] s).bind fun _ s1 => Ex.rec_ c.ts n .all 0 s1 := rfl
  generalize Pg.bodyF c.ts n s = R at *
  have HE := Lib.hid hE; have HT := Lib.hid hT; have HV := Lib.hid hV; have HB := Lib.hid hbV; have HP := Lib.hid hpp; have HF := Lib.hid hbf; have HG := Lib.hid hg; have HNE := Lib.hid hne
  clear hE hT hV hbV ks h hpp hbf hg hne
  go_enter Tryz.func52, Tryz.ntmps52
  go_wp2_with fail
  rw [HV.out]
  refine HT.out.mono ?_
  rintro e w1 (⟨s1, hE1, rfl, hR1, hK1⟩ | ⟨cd, p1, hE1, rfl, hK1⟩)
  rotate_left
  · have hF : R = .bad cd p1 := by rw [HE.out, hE1]; rfl
    have HFF := Lib.hid hF; have HK := Lib.hid (Below.then_kp HB.out hK1)
    clear hF hK1 hE1
    unfold dval
    go_wp2
    go_ret
    exact .inr ⟨cd, p1, HFF.out, rfl, FreeD.of_kp HK.out⟩
  have hK := Below.then_kp HB.out hK1
  have hF : R = Ex.rec_ c.ts n .all 0 s1 := by rw [HE.out, hE1]; rfl
  have hp1 := hK.heap HP.out (by omega) (by omega) (fun e => absurd e (by decide))
  have hf1 := hK.heap HF.out (by omega) (by omega) (fun e => absurd e (by decide))
  have p01 : w1.cell? ⟨pp, 0, none⟩ = some (.pointer (some ⟨c.r, 0, none⟩)) := (blk_cell hp1 0).trans rfl
  have hg1' : ErrT w1 := (World.cell?_of_block (hK.old (k := 0) HG.out.lt hG.2.2 (by omega) (by omega))).trans HG.out
  have hA := expr_any c X w1 s1 n hn hR1 hg1' hG (by rw [← hF]; exact HNE.out)
  rw [← hF] at hA
  have HA := Lib.hid hA; have HK := Lib.hid hK; have HF1 := Lib.hid hf1
  clear hA hK hF hp1 hf1 hg1' hE1 hK1 hR1 HE HT HV HB HP HF HNE p0
  go_wp2_with fail
  refine HA.out.mono ?_
  rintro e w2 (⟨i, s2, hE2, rfl, hR2, hK2⟩ | ⟨cd, p2, hE2, rfl, hK2⟩)
  · have hf2 := hK2.heap HF1.out (by omega) (by omega) (fun e => absurd e (by decide))
    have hS : But (fun k => k = bf) w2 (w2.setCell ⟨bf, 4, none⟩ (.int .i64 (i : Int))) := But.setCell (p := fun k => k = bf) w2 rfl 4 _
    have hR3 := hR2.but hS (fun e => by omega) (fun e => by omega) (fun e => by omega) (fun k e => .inr (by subst e; exact ⟨_, _, _, hf2, by decide, by decide⟩))
    have hK3 := freeD_but (HK.out.trans hK2) hS
    have hf3 := blk_set hf2 4 (.int .i64 (i : Int))
    obtain ⟨x4, hx4⟩ : ∃ x4, w2.cell? ⟨bf, 4, none⟩ = some x4 := ⟨cs[4], by rw [blk_cell hf2 4]; exact Array.getElem?_eq_getElem hcs⟩
    have xf : w2.frozen? ⟨bf, 4, none⟩ = false := blk_frozen hf2 4
    have HE2 := Lib.hid hE2; have HR3 := Lib.hid hR3; have HK3 := Lib.hid hK3; have HF3 := Lib.hid hf3
    clear hf2 hS hR3 hK3 hf3 hE2 hR2 hK2 HA HK HF1 p01
    go_wp2
    go_ret
    exact .inl ⟨i, s2, HE2.out, rfl, HR3.out, HK3.out, HF3.out⟩
  · have hf2 := hK2.heap HF1.out (by omega) (by omega) (fun e => absurd e (by decide))
    have hS : But (fun k => k = bf) w2 (w2.setCell ⟨bf, 4, none⟩ (.int .i64 0)) := But.setCell (p := fun k => k = bf) w2 rfl 4 _
    have hK3 := freeD_but (HK.out.trans hK2) hS
    obtain ⟨x4, hx4⟩ : ∃ x4, w2.cell? ⟨bf, 4, none⟩ = some x4 := ⟨cs[4], by rw [blk_cell hf2 4]; exact Array.getElem?_eq_getElem hcs⟩
    have xf : w2.frozen? ⟨bf, 4, none⟩ = false := blk_frozen hf2 4
    obtain ⟨D, hD⟩ : ∃ D, dval cd p2 = D := ⟨_, rfl⟩
    rw [hD]
    have HE2 := Lib.hid hE2; have HK3 := Lib.hid hK3; have HDD := Lib.hid hD
    clear hf2 hS hK3 hE2 hK2 HA HK HF1 p01 hD
    go_wp2
    go_ret
    exact .inr ⟨cd, p2, HE2.out, by rw [HDD.out]; rfl, HK3.out⟩
end Go.Proofs.YtnobamncenokdaaGreatDoor


/- A main, read. -/
namespace Go.Proofs.YtnobamncenokdaaGreatDoor
open Go.RowKit Tn Lx
attribute [local go_sem] tok_field0 tok_field1 tok_field3

/-- a main -/
def mnF (ts : List Tok) (n : Nat) (g : Pg.St) (s : Ex.S) : Pg.R Pg.St := if (g.mt == Pg.wMain) = true then .bad 8 (Ex.at_ ts s) Pg.wMain else (Pg.lift (Pg.mainF ts n s)).bind fun i s1 => .ok ⟨g.ins, g.exns, Pg.wMain, Ex.at_ ts s, i⟩ s1

/-- the program's main is set -/
theorem Pm.main {c : Cx} {X : Nat → Prop} {q pp : Nat} {v1 v4 : Value} {w : World} {g : Pg.St} {s : Ex.S} (h : Pm c q pp v1 v4 w g) (hR : Rd c X w s) (p : Pos) (i : Nat) :
    Pm c q pp v1 v4 (((((w.setCell ⟨q, 6, none⟩ (.string ⟨Pg.wMain.toArray⟩)).setCell ⟨q, 7, none⟩ (.int .i64 p.line)).setCell ⟨q, 8, none⟩ (.int .i64 p.col)).setCell ⟨q, 9, none⟩ (.slice none 0 0)).setCell ⟨q, 10, none⟩ (.int .i64 (i : Int))) ⟨g.ins, g.exns, Pg.wMain, p, i⟩ ∧
    Rd c X (((((w.setCell ⟨q, 6, none⟩ (.string ⟨Pg.wMain.toArray⟩)).setCell ⟨q, 7, none⟩ (.int .i64 p.line)).setCell ⟨q, 8, none⟩ (.int .i64 p.col)).setCell ⟨q, 9, none⟩ (.slice none 0 0)).setCell ⟨q, 10, none⟩ (.int .i64 (i : Int))) s ∧
    Kr c q w (((((w.setCell ⟨q, 6, none⟩ (.string ⟨Pg.wMain.toArray⟩)).setCell ⟨q, 7, none⟩ (.int .i64 p.line)).setCell ⟨q, 8, none⟩ (.int .i64 p.col)).setCell ⟨q, 9, none⟩ (.slice none 0 0)).setCell ⟨q, 10, none⟩ (.int .i64 (i : Int))) := by
  have hr := hR.rlt; have hb := hR.blt; have hg := hR.glt; have hqB := h.qB
  have hS : But (fun k => k = q) w (((((w.setCell ⟨q, 6, none⟩ (.string ⟨Pg.wMain.toArray⟩)).setCell ⟨q, 7, none⟩ (.int .i64 p.line)).setCell ⟨q, 8, none⟩ (.int .i64 p.col)).setCell ⟨q, 9, none⟩ (.slice none 0 0)).setCell ⟨q, 10, none⟩ (.int .i64 (i : Int))) :=
    ((((But.setCell (p := fun k => k = q) w rfl 6 _).trans (But.setCell (p := fun k => k = q) _ rfl 7 _)).trans (But.setCell (p := fun k => k = q) _ rfl 8 _)).trans (But.setCell (p := fun k => k = q) _ rfl 9 _)).trans (But.setCell (p := fun k => k = q) _ rfl 10 _)
  refine ⟨⟨hS.heap h.par (fun e => h.qp e.symm), ?_, hS.own h.ins (fun k hk e => own_none h.ins h.prog (by decide) (by rw [← e]; exact hk)), hS.own h.exns (fun k hk e => own_none h.exns h.prog (by decide) (by rw [← e]; exact hk)), h.apart, h.ppB, h.qB⟩, ?_, ?_⟩
  · exact (blk_set (blk_set (blk_set (blk_set (blk_set h.prog 6 _) 7 _) 8 _) 9 _) 10 _).trans rfl
  · exact hR.but hS (fun e => by omega) (fun e => by omega) (fun e => by omega) (fun k e => .inr (by subst e; exact ⟨_, _, _, h.prog, by decide, by decide⟩))
  · exact hS.mono fun k _ e => .inr (.inr (.inl e))

set_option maxRecDepth 100000 in
set_option maxHeartbeats 4000000 in
theorem main_any (c : Cx) (X : Nat → Prop) (w : World) (s : Ex.S) (n : Nat) (hn : n ≤ 900000) (q pp : Nat) (v1 v4 : Value) (g : Pg.St) (h : Rd c X w s) (hP : Pm c q pp v1 v4 w g) (hg : ErrT w) (hG : 0 < c.r ∧ 0 < c.bt ∧ 0 < c.B) (hne : mnF c.ts n g s ≠ .out) :
    Calls Tryz.prog 36 #[.pointer (some ⟨pp, 0, none⟩)] w (ReadP c X w q pp (mnF c.ts n g s)) := by
  have hr := h.rlt; have hb := h.blt; have hgl := h.glt; have hsz := h.size
  have hpB := hP.ppB; have hqB := hP.qB
  have hH := hasMain_any c w q pp v1 v4 g hP
  have hE : mnF c.ts n g s = if (g.mt == Pg.wMain) = true then .bad 8 (Ex.at_ c.ts s) Pg.wMain else (Pg.lift (Pg.mainF c.ts n s)).bind fun i s1 => .ok ⟨g.ins, g.exns, Pg.wMain, Ex.at_ c.ts s, i⟩ s1 := rfl
  generalize mnF c.ts n g s = R at *
  cases hm : (g.mt == Pg.wMain) with
  | true =>
    rw [hm] at hH
    rw [hm, if_pos rfl] at hE
    have hW := wrongMain_any c X w s q pp 8 v1 v4 g h hP hg
    generalize Ex.at_ c.ts s = p at *
    have HH := Lib.hid hH; have HE := Lib.hid hE; have HW := Lib.hid hW
    clear hH hE hW h hP hg hne hm
    go_enter Tryz.func36, Tryz.ntmps36
    go_wp2_with fail
    refine HH.out.mono ?_
    rintro e w1 ⟨rfl, rfl⟩
    go_wp2_with fail
    refine HW.out.mono ?_
    rintro e w2 ⟨rfl, hb2⟩
    have HB := Lib.hid (Kr.of_kp (q := q) (Kp.of_below (c := c) hb2))
    clear hb2
    unfold dvalN
    go_wp2
    go_ret
    exact .inr ⟨8, p, Pg.wMain, HE.out, rfl, HB.out⟩
  | false =>
    rw [hm] at hH
    rw [hm, if_neg (by decide)] at hE
    have p0 := hP.p0
    have hN := next_any c X w s h
    have hat : Ex.at_ c.ts s = (Ex.tk c.ts s.p).at_ := rfl
    generalize Ex.tk c.ts s.p = t at *
    generalize Ex.at_ c.ts s = p at *
    have HH := Lib.hid hH; have HE := Lib.hid hE; have HN := Lib.hid hN; have HR := Lib.hid h; have HP := Lib.hid hP; have HG := Lib.hid hg; have HNE := Lib.hid hne; have HAT := Lib.hid hat
    clear hH hE hN h hP hg hne hm hat
    go_enter Tryz.func36, Tryz.ntmps36
    go_wp2_with fail
    refine HH.out.mono ?_
    rintro e w0 ⟨rfl, rfl⟩
    go_wp2_with fail
    refine HN.out.mono ?_
    rintro e w1 ⟨rfl, hb1⟩
    have hs1 := hb1.size
    obtain ⟨V, hV⟩ : ∃ V, (w1.alloc (.cells #[.string ⟨#[109, 97, 105, 110]⟩, .int .i64 t.at_.line, .int .i64 t.at_.col, .slice none 0 0, .int .i64 0] 40)).alloc (.cells #[.string ⟨#[109, 97, 105, 110]⟩] 9) = V := ⟨_, rfl⟩
    have hbV : Below w1.heap.size w1 V := by rw [← hV]; exact ((Below.refl _ w1).alloc (Nat.le_refl _) _).alloc (by simp) _
    have kf : V.heap[w1.heap.size]? = some (.cells #[.string ⟨#[109, 97, 105, 110]⟩, .int .i64 t.at_.line, .int .i64 t.at_.col, .slice none 0 0, .int .i64 0] 40 (0, 0)) := by rw [← hV]; exact blk_alloc (blk_new w1 _) _
    have ks : V.heap[w1.heap.size + 1]? = some (.cells #[.string ⟨#[109, 97, 105, 110]⟩] 9 (0, 0)) := by
      rw [← hV]; have := blk_new (w1.alloc (.cells #[.string ⟨#[109, 97, 105, 110]⟩, .int .i64 t.at_.line, .int .i64 t.at_.col, .slice none 0 0, .int .i64 0] 40)) (.cells #[.string ⟨#[109, 97, 105, 110]⟩] 9); rwa [World.size_alloc] at this
    have hbW : Below w.heap.size w V := hb1.trans (hbV.mono hb1.size)
    have hRV := HR.out.below hbW
    have hPV := HP.out.below hbW
    have p01 : ∀ o, (w1.alloc o).cell? ⟨pp, 0, none⟩ = some (.pointer (some ⟨c.r, 0, none⟩)) := fun o => (World.cell?_alloc_lt _ _ _ (World.block_lt_of_cell? _ _ (HP.out.below hb1).p0)).trans (HP.out.below hb1).p0
    have hgV : ErrT V := HG.out.below hbW HG.out.lt
    have hT := take_any c X V s Pg.wMain (w1.heap.size + 1) hRV ((blk_cell ks 0).trans rfl)
    have HV := Lib.hid hV; have HT := Lib.hid hT; have HPV := Lib.hid hPV; have HGV := Lib.hid hgV; have HBW := Lib.hid hbW; have HKF := Lib.hid kf
    clear hV hT hPV hgV hbW hbV kf ks hRV hb1 HH HN HR HP HG p0
    unfold tval
    go_wp2_with fail
    rw [HV.out]
    refine HT.out.mono ?_
    rintro e w2 (⟨s2, hE2, rfl, hR2, hK2⟩ | ⟨cd, p2, hE2, rfl, hK2⟩)
    rotate_left
    · have hF : R = .bad cd p2 [] := by rw [HE.out, Pg.mainF, hE2]; rfl
      have HF := Lib.hid hF; have HK := Lib.hid (Kr.of_kp (q := q) (Below.then_kp (c := c) HBW.out hK2))
      clear hF hK2 hE2
      unfold dval
      go_wp2
      go_ret
      exact .inr ⟨cd, p2, [], HF.out, rfl, HK.out⟩
    have hP2 := HPV.out.kp hr hb hK2
    have kf2 := hK2.heap HKF.out (by omega) (by omega) (fun e => absurd e (by decide))
    have hg2 : ErrT w2 := (World.cell?_of_block (hK2.old (k := 0) HGV.out.lt hG.2.2 (by omega) (by omega))).trans HGV.out
    have hF : R = (Pg.lift (Pg.bodyF c.ts n s2)).bind fun i s1 => .ok ⟨g.ins, g.exns, Pg.wMain, p, i⟩ s1 := by rw [HE.out, Pg.mainF, hE2]; rfl
    have hA := body_any c X w2 s2 n hn pp w1.heap.size _ _ hR2 hP2.par kf2 (by simp) (by omega) hpB hg2 hG (fun e => HNE.out (by rw [hF, e]; rfl))
    have hP2q : w1.heap.size ≠ q := fun e => by
      have := lt_of_heap HPV.out.prog
      have h1 := HKF.out
      rw [e, HPV.out.prog] at h1; injection h1 with h1; injection h1 with _ h1; exact absurd h1 (by decide)
    have hP2p : w1.heap.size ≠ pp := fun e => by
      have h1 := HKF.out
      rw [e, HPV.out.par] at h1; injection h1 with h1; injection h1 with _ h1; exact absurd h1 (by decide)
    have hP2r : ∀ k, (v1.ownBlock = some k ∨ v4.ownBlock = some k) → k ≠ w1.heap.size := fun k hk e => by
      rcases hk with hk | hk
      · exact own_none HPV.out.ins HKF.out (by decide) (by rw [← e]; exact hk)
      · exact own_none HPV.out.exns HKF.out (by decide) (by rw [← e]; exact hk)
    generalize Pg.bodyF c.ts n s2 = RB at *
    have HF := Lib.hid hF; have HA := Lib.hid hA; have HP2 := Lib.hid hP2; have HK2 := Lib.hid (Below.then_kp (c := c) HBW.out hK2)
    clear hF hA hP2 kf2 hg2 hK2 hE2 hR2 HE HT HV HPV HGV HNE
    go_wp2_with fail
    refine HA.out.mono ?_
    rintro e w3 (⟨i, s3, rfl, rfl, hR3, hB3, kf3⟩ | ⟨cd, p3, rfl, rfl, hB3⟩)
    rotate_left
    · have HK := Lib.hid (Kr.of_kp (q := q) (freeD_old (by omega) HK2.out hB3))
      clear hB3
      unfold dval
      go_wp2
      go_ret
      exact .inr ⟨cd, p3, [], HF.out, rfl, HK.out⟩
    have hP3 := HP2.out.freeD hr hb hP2p hP2q hP2r hB3
    have q1 := hP3.p1
    have z0 : w3.cell? ⟨w1.heap.size, 0, none⟩ = some (.string ⟨#[109, 97, 105, 110]⟩) := (blk_cell kf3 0).trans rfl
    have z1 : w3.cell? ⟨w1.heap.size, 1, none⟩ = some (.int .i64 t.at_.line) := (blk_cell kf3 1).trans rfl
    have z2 : w3.cell? ⟨w1.heap.size, 2, none⟩ = some (.int .i64 t.at_.col) := (blk_cell kf3 2).trans rfl
    have z3 : w3.cell? ⟨w1.heap.size, 3, none⟩ = some (.slice none 0 0) := (blk_cell kf3 3).trans rfl
    have z4 : w3.cell? ⟨w1.heap.size, 4, none⟩ = some (.int .i64 (i : Int)) := (blk_cell kf3 4).trans rfl
    have c6 := hP3.g6
    have c7 : w3.cell? ⟨q, 7, none⟩ = some (.int .i64 g.mp.line) := (blk_cell hP3.prog 7).trans rfl
    have c8 : w3.cell? ⟨q, 8, none⟩ = some (.int .i64 g.mp.col) := (blk_cell hP3.prog 8).trans rfl
    have c9 : w3.cell? ⟨q, 9, none⟩ = some (.slice none 0 0) := (blk_cell hP3.prog 9).trans rfl
    have c10 : w3.cell? ⟨q, 10, none⟩ = some (.int .i64 g.mb) := (blk_cell hP3.prog 10).trans rfl
    have cf := hP3.gf
    have hM := hP3.main hR3 t.at_ i
    have HM := Lib.hid hM; have HK := Lib.hid ((Kr.of_kp (q := q) (freeD_old (by omega) HK2.out hB3)).trans hM.2.2)
    clear hM hP3 hR3 hB3 kf3 HA HP2 HK2 HKF p01
    go_upto_region 10 with fail
    go_region
    all_goals
      go_wp2
      go_ret
      exact .inl ⟨_, _, _, _, HF.out, rfl, HM.out.2.1.drew, by rw [HAT.out]; exact HM.out.1.below (Below.refl _ _).drew, HK.out.trans (Kr.of_kp (Kp.of_below (Below.refl _ _).drew))⟩
end Go.Proofs.YtnobamncenokdaaGreatDoor


/- The table of the declarations' readers. -/
namespace Go.Proofs.YtnobamncenokdaaGreatDoor
open Go.RowKit Tn Lx

section
variable (w : World)
theorem map_make : (Instr.makeMap 65 none).run Tryz.prog w = .ok (.map (some w.heap.size)) (w.alloc (.map #[] 0)) := rfl
theorem alloc_set (a b : Obj) : { (w.alloc a) with heap := (w.alloc a).heap.setIfInBounds w.heap.size b } = w.alloc b := by
  have e : (w.heap.push a).setIfInBounds w.heap.size b = w.heap.push b := by
    apply Array.ext'
    rw [Array.toList_setIfInBounds, Array.toList_push, Array.toList_push, List.set_append_right _ _ (by simp)]
    simp
  show { w with heap := (w.heap.push a).setIfInBounds w.heap.size b } = { w with heap := w.heap.push b }
  rw [e]
theorem obj_get {r : Nat} {es : Array MapEntry} {cl : Nat} {W : World} (h : W.heap[r]? = some (.map es cl)) : (getObj r).run Tryz.prog W = .ok (.map es cl) W := by simp [getObj, Sem.run, h]
theorem obj_set {r : Nat} {es : Array MapEntry} {cl : Nat} {W : World} (o : Obj) (h : W.heap[r]? = some (.map es cl)) : (setObj r o).run Tryz.prog W = .ok () { W with heap := W.heap.setIfInBounds r o } := by simp [setObj, Sem.run, h]
theorem key_check (e : Bool) (k : ByteArray) (W : World) : (Instr.checkKey e 10000 9 (.string k)).run Tryz.prog W = .ok () W := by
  rw [show (10000 : Nat) = 9999 + 1 from rfl, Instr.checkKey]
  simp [Sem.run_bind, run_underlying Tryz.underlying9, Result.andThen]
theorem key_find (k : ByteArray) (es : List MapEntry) (r : Option (Nat × Value)) (W : World) (h : Instr.findNow .string (.string k) es 0 = some r) : (Instr.findKey 9 (.string k) es).run Tryz.prog W = .ok r W := by
  rw [Instr.findKey]
  simp [Sem.run_bind, run_underlying Tryz.underlying9, Result.andThen, h]
theorem map_up (es : Array MapEntry) (cl : Nat) (k : ByteArray) (v : Value) (h : Instr.findNow .string (.string k) es.toList 0 = some none) : (Instr.mapUpdate 65 (.map (some w.heap.size)) (.string k) v).run Tryz.prog (w.alloc (.map es cl)) = .ok () (w.alloc (.map (es.push ⟨.string k, v, cl⟩) (cl + 1))) := by
  have hb : (w.alloc (.map es cl)).heap[w.heap.size]? = some (.map es cl) := by unfold World.alloc; simp
  rw [Instr.mapUpdate]
  simp only [Sem.run_bind, run_underlying Tryz.underlying65, Result.andThen, obj_get hb, key_check, key_find k es.toList none _ h, obj_set _ hb, alloc_set]
theorem map_look {r : Nat} {es : Array MapEntry} {cl i : Nat} {v : Value} {k : ByteArray} {W : World} (hb : W.heap[r]? = some (.map es cl)) (h : Instr.findNow .string (.string k) es.toList 0 = some (some (i, v))) : (Instr.lookup 65 (.map (some r)) (.string k) true).run Tryz.prog W = .ok (.tuple #[v, .bool true]) W := by
  rw [Instr.lookup]
  simp only [Sem.run_bind, run_underlying Tryz.underlying65, Result.andThen, obj_get hb, key_check, key_find k es.toList _ _ h, Sem.run_pure, if_true]
end
theorem blk_new_map (w : World) {es : Array MapEntry} {cl : Nat} : (w.alloc (.map es cl)).heap[w.heap.size]? = some (.map es cl) := by unfold World.alloc; simp
/-- the readers -/
def tabE : Array MapEntry := #[⟨.string ⟨#[105, 110, 112, 117, 116]⟩, .func (.func 28) #[] #[], 0⟩, ⟨.string ⟨#[103, 108, 111, 98, 97, 108]⟩, .func (.func 31) #[] #[], 1⟩, ⟨.string ⟨#[99, 104, 97, 110, 110, 101, 108]⟩, .func (.func 33) #[] #[], 2⟩, ⟨.string ⟨#[101, 120, 99, 101, 112, 116, 105, 111, 110]⟩, .func (.func 34) #[] #[], 3⟩, ⟨.string ⟨#[102, 117, 110]⟩, .func (.func 35) #[] #[], 4⟩, ⟨.string ⟨#[109, 97, 105, 110]⟩, .func (.func 36) #[] #[], 5⟩]

set_option maxRecDepth 100000 in
set_option maxHeartbeats 4000000 in
theorem decls_any (w : World) : Calls Tryz.prog 12 #[] w fun e w' => e = .returned (.map (some w.heap.size)) ∧ w' = w.alloc (.map tabE 6) := by
  have h0 := map_make w
  have h1 := map_up w #[] 0 ⟨#[105, 110, 112, 117, 116]⟩ (.func (.func 28) #[] #[]) (by rfl)
  have h2 := map_up w #[⟨.string ⟨#[105, 110, 112, 117, 116]⟩, .func (.func 28) #[] #[], 0⟩] 1 ⟨#[103, 108, 111, 98, 97, 108]⟩ (.func (.func 31) #[] #[]) (by kernel_rfl)
  have h3 := map_up w #[⟨.string ⟨#[105, 110, 112, 117, 116]⟩, .func (.func 28) #[] #[], 0⟩, ⟨.string ⟨#[103, 108, 111, 98, 97, 108]⟩, .func (.func 31) #[] #[], 1⟩] 2 ⟨#[99, 104, 97, 110, 110, 101, 108]⟩ (.func (.func 33) #[] #[]) (by kernel_rfl)
  have h4 := map_up w #[⟨.string ⟨#[105, 110, 112, 117, 116]⟩, .func (.func 28) #[] #[], 0⟩, ⟨.string ⟨#[103, 108, 111, 98, 97, 108]⟩, .func (.func 31) #[] #[], 1⟩, ⟨.string ⟨#[99, 104, 97, 110, 110, 101, 108]⟩, .func (.func 33) #[] #[], 2⟩] 3 ⟨#[101, 120, 99, 101, 112, 116, 105, 111, 110]⟩ (.func (.func 34) #[] #[]) (by kernel_rfl)
  have h5 := map_up w #[⟨.string ⟨#[105, 110, 112, 117, 116]⟩, .func (.func 28) #[] #[], 0⟩, ⟨.string ⟨#[103, 108, 111, 98, 97, 108]⟩, .func (.func 31) #[] #[], 1⟩, ⟨.string ⟨#[99, 104, 97, 110, 110, 101, 108]⟩, .func (.func 33) #[] #[], 2⟩, ⟨.string ⟨#[101, 120, 99, 101, 112, 116, 105, 111, 110]⟩, .func (.func 34) #[] #[], 3⟩] 4 ⟨#[102, 117, 110]⟩ (.func (.func 35) #[] #[]) (by kernel_rfl)
  have h6 := map_up w #[⟨.string ⟨#[105, 110, 112, 117, 116]⟩, .func (.func 28) #[] #[], 0⟩, ⟨.string ⟨#[103, 108, 111, 98, 97, 108]⟩, .func (.func 31) #[] #[], 1⟩, ⟨.string ⟨#[99, 104, 97, 110, 110, 101, 108]⟩, .func (.func 33) #[] #[], 2⟩, ⟨.string ⟨#[101, 120, 99, 101, 112, 116, 105, 111, 110]⟩, .func (.func 34) #[] #[], 3⟩, ⟨.string ⟨#[102, 117, 110]⟩, .func (.func 35) #[] #[], 4⟩] 5 ⟨#[109, 97, 105, 110]⟩ (.func (.func 36) #[] #[]) (by kernel_rfl)
  simp only [List.push_toArray, List.nil_append, List.cons_append, Nat.reduceAdd] at h1 h2 h3 h4 h5 h6
  go_enter Tryz.func12, Tryz.ntmps12
  go_wp2
  go_ret
  exact ⟨rfl, rfl⟩
theorem look_exn {r : Nat} {W : World} (hb : W.heap[r]? = some (.map tabE 6)) : (Instr.lookup 65 (.map (some r)) (.string ⟨Pg.wExn.toArray⟩) true).run Tryz.prog W = .ok (.tuple #[.func (.func 34) #[] #[], .bool true]) W := map_look hb (i := 3) (by kernel_rfl)
theorem look_inp {r : Nat} {W : World} (hb : W.heap[r]? = some (.map tabE 6)) : (Instr.lookup 65 (.map (some r)) (.string ⟨Pg.wInput.toArray⟩) true).run Tryz.prog W = .ok (.tuple #[.func (.func 28) #[] #[], .bool true]) W := map_look hb (i := 0) (by kernel_rfl)
theorem look_main {r : Nat} {W : World} (hb : W.heap[r]? = some (.map tabE 6)) : (Instr.lookup 65 (.map (some r)) (.string ⟨Pg.wMain.toArray⟩) true).run Tryz.prog W = .ok (.tuple #[.func (.func 36) #[] #[], .bool true]) W := map_look hb (i := 5) (by kernel_rfl)
end Go.Proofs.YtnobamncenokdaaGreatDoor
