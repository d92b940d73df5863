import Derived.Test.YtdkhkemllmegfaaGreatDoorAhead
import Derived.Deep.Light
import Derived.Deep.DeepCutAuto

/- What comes: a mark, or a word; what is wrong there; what is passed over. -/
namespace Go.Proofs.YtdkhkemllmegfaaGreatDoor
open Go.RowKit Tn Lx

theorem tok_field0 (a b c d e : Value) (w : World) : (Instr.field 53 (.agg #[a, b, c, d, e]) 0).run Tryz.prog w = .ok a w := by kernel_rfl
theorem tok_field1 (a b c d e : Value) (w : World) : (Instr.field 53 (.agg #[a, b, c, d, e]) 1).run Tryz.prog w = .ok b w := by kernel_rfl
theorem tok_field3 (a b c d e : Value) (w : World) : (Instr.field 53 (.agg #[a, b, c, d, e]) 3).run Tryz.prog w = .ok (.agg #[d, e]) w := by kernel_rfl
attribute [local go_sem] tok_field0 tok_field1 tok_field3

set_option maxHeartbeats 1000000 in
theorem mark_any (t : Tok) (m : B) (w : World) : Calls Tryz.prog 90 #[tval t, .string ⟨m.toArray⟩] w fun e w' => e = .returned (.bool (Ex.isT t m)) ∧ Below w.heap.size w w' := by
  have hb : ∀ o, Below w.heap.size w (w.alloc o) := fun o => (Below.refl _ w).alloc (Nat.le_refl _) o
  have HB := Lib.hid hb
  clear hb
  unfold tval
  go_enter Tryz.func90, Tryz.ntmps90
  go_wp2
  all_goals
    go_ret
    exact ⟨ret_bool (by simp [Ex.isT, *]), HB.out _⟩

set_option maxRecDepth 100000 in
set_option maxHeartbeats 1000000 in
theorem begins_any (t : Tok) (w : World) : Calls Tryz.prog 60 #[tval t] w fun e w' => e = .returned (.bool (Ex.begins t)) ∧ Below w.heap.size w w' := by
  have hb : ∀ o, Below w.heap.size w (w.alloc o) := fun o => (Below.refl _ w).alloc (Nat.le_refl _) o
  have HB := Lib.hid hb
  clear hb
  unfold tval
  go_enter Tryz.func60, Tryz.ntmps60
  go_wp2
  all_goals
    go_ret
    refine ⟨ret_bool ?_, HB.out _⟩
    clear HB
    go_light
    simp_all [Ex.begins]

set_option maxRecDepth 100000 in
set_option maxHeartbeats 1000000 in
theorem next_any (c : Cx) (X : Nat → Prop) (w : World) (s : Ex.S) (h : Rd c X w s) : Calls Tryz.prog 14 #[.pointer (some ⟨c.r, 0, none⟩)] w (AheadP w (Ex.tk c.ts s.p)) := by
  obtain ⟨W, hW⟩ : ∃ W, w.alloc (.cells #[.int .i64 0, .string ⟨#[]⟩, .int .i64 0, .int .i64 0, .int .i64 0] 53) = W := ⟨_, rfl⟩
  have hb : Below w.heap.size w W := by rw [← hW]; exact (Below.refl _ w).alloc (Nat.le_refl _) _
  have hz : Five W w.heap.size (.int .i64 0) (.string ⟨#[]⟩) (.int .i64 0) (.int .i64 0) (.int .i64 0) := ⟨by rw [← hW]; exact blk_new w _⟩
  have hA := ahead0_any c X W s (h.below hb)
  generalize Ex.tk c.ts s.p = t at *
  have HA := Lib.hid hA; have HW := Lib.hid hW; have HB := Lib.hid hb; have HZ := Lib.hid hz
  clear hW hb hz h hA
  go_enter Tryz.func14, Tryz.ntmps14
  go_wp2_with fail
  rw [HW.out]
  refine HA.out.mono ?_
  rintro e w1 ⟨rfl, hb1⟩
  have HF1 := Lib.hid (HZ.out.below hb1)
  have HB2 := Lib.hid (HB.out.trans (hb1.mono HB.out.size))
  have z0 := HF1.out.c0; have z1 := HF1.out.c1; have z2 := HF1.out.c2; have z3 := HF1.out.c3; have z4 := HF1.out.c4; have zf := HF1.out.fz
  clear hb1
  unfold tval
  go_wp2
  have T := HF1.out.store (.int .i64 t.kind) (.string ⟨t.text.toArray⟩) (.int .i64 t.int) (.int .i64 t.at_.line) (.int .i64 t.at_.col)
  exact bodyPost_ret (v := tval t) (by simp [results, Tryz.results14, go_sem, T.c0, T.c1, T.c2, T.c3, T.c4, tval]) rfl ⟨rfl, below_five HB2.out (Nat.le_refl _) _ _ _ _ _⟩

set_option maxHeartbeats 1000000 in
theorem is_any (c : Cx) (X : Nat → Prop) (w : World) (s : Ex.S) (m : B) (h : Rd c X w s) : Calls Tryz.prog 59 #[.pointer (some ⟨c.r, 0, none⟩), .string ⟨m.toArray⟩] w fun e w' => e = .returned (.bool (Ex.is c.ts s m)) ∧ Below w.heap.size w w' := by
  have HR := Lib.hid h
  clear h
  go_enter Tryz.func59, Tryz.ntmps59
  go_wp2_with fail
  refine (next_any c X _ s HR.out).mono ?_
  rintro e w1 ⟨rfl, hb1⟩
  go_wp2_with fail
  refine (mark_any (Ex.tk c.ts s.p) m _).mono ?_
  rintro e w2 ⟨rfl, hb2⟩
  go_wp2
  go_ret
  exact ⟨rfl, hb1.trans (hb2.mono hb1.size)⟩

/-- what is wrong, as an error -/
def dval (cd : Int) (p : Pos) : Value := .iface 85 (.agg #[.int .i64 cd, .int .i64 p.line, .int .i64 p.col, .string ⟨#[]⟩])

set_option maxRecDepth 100000 in
set_option maxHeartbeats 1000000 in
theorem wrong_at (c : Cx) (X : Nat → Prop) (w : World) (s : Ex.S) (cd : Int) (h : Rd c X w s) : Calls Tryz.prog 15 #[.pointer (some ⟨c.r, 0, none⟩), .int .i64 cd] w fun e w' => e = .returned (dval cd (Ex.at_ c.ts s)) ∧ Below w.heap.size w w' := by
  have HR := Lib.hid h
  clear h
  go_enter Tryz.func15, Tryz.ntmps15
  go_wp2_with fail
  refine (next_any c X _ s HR.out).mono ?_
  rintro e w1 ⟨rfl, hb1⟩
  unfold tval
  go_wp2
  go_ret
  exact ⟨rfl, hb1⟩
set_option maxHeartbeats 1000000 in
theorem wrong_nil (cd : Int) (w : World) : Calls Tryz.prog 15 #[.pointer none, .int .i64 cd] w fun e w' => e = .returned (dval 1 ⟨0, 0⟩) ∧ Below w.heap.size w w' := by
  go_enter Tryz.func15, Tryz.ntmps15
  go_wp2
  go_ret
  exact ⟨rfl, Below.refl _ _⟩

/-- it has passed over the token -/
def SkipP (c : Cx) (X : Nat → Prop) (w : World) (s : Ex.S) (t : Tok) (e : Ending) (w' : World) : Prop := e = .returned (tval t) ∧ Rd c X w' s.skip ∧ Kp c w w'

theorem Five.but {w w' : World} {b : Nat} {v0 v1 v2 v3 v4 : Value} (h : Five w b v0 v1 v2 v3 v4) {p : Nat → Prop} (hb : But p w w') (hp : ¬ p b) : Five w' b v0 v1 v2 v3 v4 := ⟨hb.heap h.blk hp⟩
theorem Five.kp {c : Cx} {w w' : World} {b : Nat} {v0 v1 v2 v3 v4 : Value} (h : Five w b v0 v1 v2 v3 v4) (hk : Kp c w w') (h1 : b ≠ c.r) (h2 : b ≠ c.bt) : Five w' b v0 v1 v2 v3 v4 := ⟨hk.heap h.blk h1 h2 (fun e => absurd e (by decide))⟩
theorem but_five (w : World) (b : Nat) (u0 u1 u2 u3 u4 : Value) : But (fun k => k = b) w (((((w.setCell ⟨b, 0, none⟩ u0).setCell ⟨b, 1, none⟩ u1).setCell ⟨b, 2, none⟩ u2).setCell ⟨b, 3, none⟩ u3).setCell ⟨b, 4, none⟩ u4) :=
  ((((But.setCell (p := fun k => k = b) w rfl 0 u0).trans (But.setCell (p := fun k => k = b) _ rfl 1 u1)).trans (But.setCell (p := fun k => k = b) _ rfl 2 u2)).trans (But.setCell (p := fun k => k = b) _ rfl 3 u3)).trans (But.setCell (p := fun k => k = b) _ rfl 4 u4)
theorem Rd.five {c : Cx} {X : Nat → Prop} {w : World} {s : Ex.S} (h : Rd c X w s) {b : Nat} {v0 v1 v2 v3 v4 : Value} (hF : Five w b v0 v1 v2 v3 v4) (hb : c.B ≤ b) (u0 u1 u2 u3 u4 : Value) :
    Rd c X (((((w.setCell ⟨b, 0, none⟩ u0).setCell ⟨b, 1, none⟩ u1).setCell ⟨b, 2, none⟩ u2).setCell ⟨b, 3, none⟩ u3).setCell ⟨b, 4, none⟩ u4) s :=
  h.but (but_five w b u0 u1 u2 u3 u4) (fun e => by have := h.rlt; omega) (fun e => by have := h.blt; omega) (fun e => by have := h.glt; omega) (fun k e => .inr (by subst e; exact ⟨_, _, _, hF.blk, by decide, by decide⟩))

set_option maxRecDepth 100000 in
set_option maxHeartbeats 2000000 in
theorem skip_any (c : Cx) (X : Nat → Prop) (w : World) (s : Ex.S) (h : Rd c X w s) (hp : s.p < c.ts.length) : Calls Tryz.prog 61 #[.pointer (some ⟨c.r, 0, none⟩)] w (SkipP c X w s (Ex.tk c.ts s.p)) := by
  obtain ⟨W, hW⟩ : ∃ W, w.alloc (.cells #[.int .i64 0, .string ⟨#[]⟩, .int .i64 0, .int .i64 0, .int .i64 0] 53) = W := ⟨_, rfl⟩
  have hb : Below w.heap.size w W := by rw [← hW]; exact (Below.refl _ w).alloc (Nat.le_refl _) _
  have hz : Five W w.heap.size (.int .i64 0) (.string ⟨#[]⟩) (.int .i64 0) (.int .i64 0) (.int .i64 0) := ⟨by rw [← hW]; exact blk_new w _⟩
  have hA := next_any c X W s (h.below hb)
  generalize Ex.tk c.ts s.p = t at *
  have HR := Lib.hid (h.below hb); have HW := Lib.hid hW; have HB := Lib.hid hb; have HZ := Lib.hid hz; have HA := Lib.hid hA
  have few := h.few
  have hlt := h.lt
  have hs := h.size
  have hr1 := h.rlt; have hb1 := h.blt; have hg1 := h.glt
  clear hW hb hz h hA
  go_enter Tryz.func61, Tryz.ntmps61
  go_wp2_with fail
  rw [HW.out]
  refine HA.out.mono ?_
  rintro e w1 ⟨rfl, hb1⟩
  have hR1 := HR.out.below hb1
  have hF1 := HZ.out.below hb1
  have hB1 := HB.out.trans (hb1.mono HB.out.size)
  have hne : w.heap.size < w1.heap.size := lt_of_heap hF1.blk
  obtain ⟨V, hV⟩ : ∃ V, w1.alloc (.cells #[.int .i64 t.kind, .string ⟨t.text.toArray⟩, .int .i64 t.int, .int .i64 t.at_.line, .int .i64 t.at_.col] 53) = V := ⟨_, rfl⟩
  have hbV : Below w1.heap.size w1 V := by rw [← hV]; exact (Below.refl _ w1).alloc (Nat.le_refl _) _
  have hG : Five V w1.heap.size (.int .i64 t.kind) (.string ⟨t.text.toArray⟩) (.int .i64 t.int) (.int .i64 t.at_.line) (.int .i64 t.at_.col) := ⟨by rw [← hV]; exact blk_new w1 _⟩
  have hR2 := hR1.below hbV
  have hF2 := hF1.below hbV
  have hB2 := hB1.trans (hbV.mono hB1.size)
  have HR2 := Lib.hid hR2; have HF2 := Lib.hid hF2; have HB2 := Lib.hid hB2; have HG := Lib.hid hG; have HV := Lib.hid hV
  clear hb1 hR1 hF1 hB1 HR HB HZ HW hR2 hF2 hB2 hG hV hbV
  unfold tval
  go_upto_region 2 with fail
  rw [HV.out]
  have c2 := HR2.out.c2; have cf := HR2.out.fz
  go_upto_region 3 with fail
  clear c2 cf
  obtain ⟨V2, hV2⟩ : ∃ V2, V.setCell ⟨c.r, 2, none⟩ (.int .i64 ((s.p : Int) + 1)) = V2 := ⟨_, rfl⟩
  obtain ⟨hR3, hK3⟩ := HR2.out.skip hp
  rw [hV2] at hR3 hK3
  have hG3 := HG.out.kp hK3 (by omega) (by omega)
  have hF3 := HF2.out.kp hK3 (by omega) (by omega)
  have hK4 := Below.then_kp HB2.out hK3
  have HV2 := Lib.hid hV2
  have HR3 := Lib.hid hR3; have HF3 := Lib.hid hF3; have HK4 := Lib.hid hK4; have HG3 := Lib.hid hG3
  clear hV2 hR3 hK3 hG3 hF3 hK4 HR2 HF2 HB2 HG
  rw [HV2.out]
  have z0 := HF3.out.c0; have z1 := HF3.out.c1; have z2 := HF3.out.c2; have z3 := HF3.out.c3; have z4 := HF3.out.c4; have zf := HF3.out.fz
  have y0 := HG3.out.c0; have y1 := HG3.out.c1; have y2 := HG3.out.c2; have y3 := HG3.out.c3; have y4 := HG3.out.c4
  go_wp2
  have T := HF3.out.store (.int .i64 t.kind) (.string ⟨t.text.toArray⟩) (.int .i64 t.int) (.int .i64 t.at_.line) (.int .i64 t.at_.col)
  refine bodyPost_ret (v := tval t) (by simp [results, Tryz.results61, go_sem, T.c0, T.c1, T.c2, T.c3, T.c4, tval]) rfl ⟨rfl, ?_, ?_⟩
  · exact HR3.out.five HF3.out (by omega) _ _ _ _ _
  · exact HK4.out.new (but_five _ _ _ _ _ _ _) (fun k e => by omega)
end Go.Proofs.YtdkhkemllmegfaaGreatDoor


/- What must come: a name, a mark; else all ends. How deep it is. -/
namespace Go.Proofs.YtdkhkemllmegfaaGreatDoor
open Go.RowKit Tn Lx
attribute [local go_sem] tok_field0 tok_field1 tok_field3

/-- how a part of the reading ends: with a value, or all of it by a panic -/
def PostV {α : Type} (enc : α → Value) (c : Cx) (X : Nat → Prop) (w : World) (R : Ex.Res α) (e : Ending) (w' : World) : Prop :=
  (∃ a s, R = .ok a s ∧ e = .returned (enc a) ∧ Rd c X w' s ∧ Kp c w w') ∨ (∃ cd p, R = .bad cd p ∧ e = .panicked [{ v := dval cd p, recovered := false }] ∧ Kp c w w')
def Post (c : Cx) (X : Nat → Prop) (w : World) (R : Ex.Res Nat) (e : Ending) (w' : World) : Prop := PostV (fun i : Nat => .int .i64 (i : Int)) c X w R e w'

theorem need_ok (w : World) : Calls Tryz.prog 91 #[.nilIface] w fun e w' => e = .returned (.tuple #[]) ∧ w = w' := by
  go_enter Tryz.func91, Tryz.ntmps91
  go_wp2
  go_end0
  exact ⟨rfl, rfl⟩
theorem need_bad (cd : Int) (p : Pos) (w : World) : Calls Tryz.prog 91 #[dval cd p] w fun e w' => e = .panicked [{ v := dval cd p, recovered := false }] ∧ w = w' := by
  unfold dval
  go_enter Tryz.func91, Tryz.ntmps91
  go_wp2
  exact ⟨rfl, rfl, rfl⟩

set_option maxRecDepth 100000 in
set_option maxHeartbeats 1000000 in
theorem enter_any (c : Cx) (X : Nat → Prop) (w : World) (s : Ex.S) (d : Nat) (h : Rd c X w s) (hd : d ≤ 64) : Calls Tryz.prog 83 #[.pointer (some ⟨c.r, 0, none⟩), .int .i64 (d : Int)] w (PostV (fun i : Nat => .int .i64 (i : Int)) c X w (Ex.enter c.ts d s)) := by
  have HR := Lib.hid h
  clear h
  by_cases h64 : 64 ≤ d
  · have hR : Ex.enter c.ts d s = .bad 6 (Ex.at_ c.ts s) := by rw [Ex.enter, if_pos h64]; rfl
    have HE := Lib.hid hR; clear hR
    go_enter Tryz.func83, Tryz.ntmps83
    go_wp2_with fail
    refine (wrong_at c X _ s 6 HR.out).mono ?_
    rintro e w1 ⟨rfl, hb1⟩
    unfold dval
    go_wp2
    exact ⟨rfl, .inr ⟨_, _, HE.out, rfl, Kp.of_below hb1⟩⟩
  · have hR : Ex.enter c.ts d s = .ok (d + 1) s := by rw [Ex.enter, if_neg h64]
    have HE := Lib.hid hR; clear hR
    go_enter Tryz.func83, Tryz.ntmps83
    go_wp2
    go_ret
    exact .inl ⟨_, _, HE.out, rfl, HR.out, Kp.refl _ _⟩
end Go.Proofs.YtdkhkemllmegfaaGreatDoor


/- A name, or a mark, that must come. -/
namespace Go.Proofs.YtdkhkemllmegfaaGreatDoor
open Go.RowKit Tn Lx
attribute [local go_sem] tok_field0 tok_field1 tok_field3

theorem below_in {a w : World} (h : Below a.heap.size a w) {p : Nat} (hp : p < a.heap.size) : p < w.heap.size := Nat.lt_of_lt_of_le hp h.size

/-- a token of a kind, and no error; or none, and what is wrong -/
def OneP (c : Cx) (X : Nat → Prop) (w : World) (k : Int) (s : Ex.S) (t : Tok) (p : Pos) (e : Ending) (w' : World) : Prop :=
  (t.kind = k ∧ e = .returned (.tuple #[tval t, .nilIface]) ∧ Rd c X w' s.skip ∧ Kp c w w') ∨ (t.kind ≠ k ∧ e = .returned (.tuple #[tval Ex.zt, dval 5 p]) ∧ Rd c X w' s ∧ Kp c w w')

set_option maxRecDepth 100000 in
set_option maxHeartbeats 2000000 in
theorem one_any (c : Cx) (X : Nat → Prop) (w : World) (s : Ex.S) (k : Int) (h : Rd c X w s) (hk : k ≠ 0) : Calls Tryz.prog 134 #[.pointer (some ⟨c.r, 0, none⟩), .int .i64 k] w (OneP c X w k s (Ex.tk c.ts s.p) (Ex.at_ c.ts s)) := by
  obtain ⟨W, hW⟩ : ∃ W, w.alloc (.cells #[.int .i64 0, .string ⟨#[]⟩, .int .i64 0, .int .i64 0, .int .i64 0] 53) = W := ⟨_, rfl⟩
  have hb : Below w.heap.size w W := by rw [← hW]; exact (Below.refl _ w).alloc (Nat.le_refl _) _
  have hz : Five W w.heap.size (.int .i64 0) (.string ⟨#[]⟩) (.int .i64 0) (.int .i64 0) (.int .i64 0) := ⟨by rw [← hW]; exact blk_new w _⟩
  have hR0 := h.below hb
  have hA := next_any c X W s hR0
  have hS := fun w1 (hR : Rd c X w1 s) => wrong_at c X w1 s 5 hR
  have hT := fun w1 (hR : Rd c X w1 s) (hp : s.p < c.ts.length) => skip_any c X w1 s hR hp
  have hkl : (Ex.tk c.ts s.p).kind = k → s.p < c.ts.length := fun e => Ex.kind_lt (by rw [e]; exact hk)
  have hlt := h.lt; have hs := h.size; have hr1 := h.rlt; have hb1 := h.blt; have hg1 := h.glt
  generalize Ex.tk c.ts s.p = t at *
  generalize Ex.at_ c.ts s = p at *
  have HR := Lib.hid hR0; have HW := Lib.hid hW; have HB := Lib.hid hb; have HZ := Lib.hid hz; have HA := Lib.hid hA; have HS := Lib.hid hS; have HT := Lib.hid hT; have HL := Lib.hid hkl
  clear hW hb hz h hA hS hT hkl hR0
  by_cases hk1 : t.kind = k
  · have hk2 : (t.kind != k) = false := by simp [hk1]
    have HK := Lib.hid hk1
    clear hk1
    go_enter Tryz.func134, Tryz.ntmps134
    go_wp2_with fail
    rw [HW.out]
    refine HA.out.mono ?_
    rintro e w1 ⟨rfl, hb1⟩
    have HR1 := Lib.hid (HR.out.below hb1); have HZ1 := Lib.hid (HZ.out.below hb1); have HB1 := Lib.hid (HB.out.trans (hb1.mono HB.out.size))
    clear hb1 HR HZ HB HW
    unfold tval
    go_wp2_with fail
    refine (HT.out _ HR1.out (HL.out HK.out)).mono ?_
    rintro e w2 ⟨rfl, hR2, hK2⟩
    have HF := Lib.hid (HZ1.out.kp hK2 (by omega) (by omega)); have HR2 := Lib.hid hR2; have HK2 := Lib.hid (Below.then_kp HB1.out hK2)
    clear hR2 hK2 HR1 HZ1 HB1
    unfold tval
    have z0 := HF.out.c0; have z1 := HF.out.c1; have z2 := HF.out.c2; have z3 := HF.out.c3; have z4 := HF.out.c4; have zf := HF.out.fz
    go_wp2
    have T := HF.out.store (.int .i64 t.kind) (.string ⟨t.text.toArray⟩) (.int .i64 t.int) (.int .i64 t.at_.line) (.int .i64 t.at_.col)
    refine bodyPost_ret (v := .tuple #[tval t, .nilIface]) (by simp [results, Tryz.results134, go_sem, T.c0, T.c1, T.c2, T.c3, T.c4, tval]) rfl (.inl ⟨HK.out, rfl, ?_, ?_⟩)
    · exact HR2.out.five HF.out (by omega) _ _ _ _ _
    · exact HK2.out.new (but_five _ _ _ _ _ _ _) (fun k e => by omega)
  · have hk2 : (t.kind != k) = true := by simp [hk1]
    have HK := Lib.hid hk1
    clear hk1
    go_enter Tryz.func134, Tryz.ntmps134
    go_wp2_with fail
    rw [HW.out]
    refine HA.out.mono ?_
    rintro e w1 ⟨rfl, hb1⟩
    have HR1 := Lib.hid (HR.out.below hb1); have HZ1 := Lib.hid (HZ.out.below hb1); have HB1 := Lib.hid (HB.out.trans (hb1.mono HB.out.size))
    clear hb1 HR HZ HB HW
    unfold tval
    go_wp2_with fail
    refine (HS.out _ HR1.out).mono ?_
    rintro e w2 ⟨rfl, hb2⟩
    have HF := Lib.hid (HZ1.out.below hb2); have HR2 := Lib.hid (HR1.out.below hb2); have HK2 := Lib.hid (Kp.of_below (c := c) (HB1.out.trans (hb2.mono HB1.out.size)))
    clear hb2 HR1 HZ1 HB1
    have z0 := HF.out.c0; have z1 := HF.out.c1; have z2 := HF.out.c2; have z3 := HF.out.c3; have z4 := HF.out.c4; have zf := HF.out.fz
    obtain ⟨D, hD⟩ : ∃ D, dval 5 p = D := ⟨_, rfl⟩
    rw [hD]
    have HD := Lib.hid hD; clear hD
    go_wp2
    have T := HF.out.store (.int .i64 0) (.string ⟨#[]⟩) (.int .i64 0) (.int .i64 0) (.int .i64 0)
    refine bodyPost_ret (v := .tuple #[tval Ex.zt, D]) (by simp [results, Tryz.results134, go_sem, T.c0, T.c1, T.c2, T.c3, T.c4, tval, Ex.zt]) rfl (.inr ⟨HK.out, by rw [HD.out], ?_, ?_⟩)
    · exact HR2.out.five HF.out (by omega) _ _ _ _ _
    · exact HK2.out.new (but_five _ _ _ _ _ _ _) (fun k e => by omega)

set_option maxRecDepth 100000 in
set_option maxHeartbeats 2000000 in
theorem name_any (c : Cx) (X : Nat → Prop) (w : World) (s : Ex.S) (h : Rd c X w s) : Calls Tryz.prog 115 #[.pointer (some ⟨c.r, 0, none⟩)] w (OneP c X w 1 s (Ex.tk c.ts s.p) (Ex.at_ c.ts s)) := by
  obtain ⟨W, hW⟩ : ∃ W, w.alloc (.cells #[.int .i64 0, .string ⟨#[]⟩, .int .i64 0, .int .i64 0, .int .i64 0] 53) = W := ⟨_, rfl⟩
  have hb : Below w.heap.size w W := by rw [← hW]; exact (Below.refl _ w).alloc (Nat.le_refl _) _
  have hz : Five W w.heap.size (.int .i64 0) (.string ⟨#[]⟩) (.int .i64 0) (.int .i64 0) (.int .i64 0) := ⟨by rw [← hW]; exact blk_new w _⟩
  have hA := one_any c X W s 1 (h.below hb) (by decide)
  have hlt := h.lt; have hs := h.size; have hr1 := h.rlt; have hb1 := h.blt; have hg1 := h.glt
  generalize Ex.tk c.ts s.p = t at *
  generalize Ex.at_ c.ts s = p at *
  have HW := Lib.hid hW; have HB := Lib.hid hb; have HZ := Lib.hid hz; have HA := Lib.hid hA
  clear hW hb hz h hA
  go_enter Tryz.func115, Tryz.ntmps115
  go_wp2_with fail
  rw [HW.out]
  refine HA.out.mono ?_
  rintro e w1 (⟨hk, rfl, hR1, hK1⟩ | ⟨hk, rfl, hR1, hK1⟩)
  · have HF := Lib.hid (HZ.out.kp hK1 (by omega) (by omega)); have HR1 := Lib.hid hR1; have HK1 := Lib.hid (Below.then_kp HB.out hK1); have HK := Lib.hid hk
    clear hR1 hK1 HB HZ HW HA hk
    unfold tval
    have z0 := HF.out.c0; have z1 := HF.out.c1; have z2 := HF.out.c2; have z3 := HF.out.c3; have z4 := HF.out.c4; have zf := HF.out.fz
    go_wp2
    have T := HF.out.store (.int .i64 t.kind) (.string ⟨t.text.toArray⟩) (.int .i64 t.int) (.int .i64 t.at_.line) (.int .i64 t.at_.col)
    refine bodyPost_ret (v := .tuple #[tval t, .nilIface]) (by simp [results, Tryz.results115, go_sem, T.c0, T.c1, T.c2, T.c3, T.c4, tval]) rfl (.inl ⟨HK.out, rfl, ?_, ?_⟩)
    · exact HR1.out.five HF.out (by omega) _ _ _ _ _
    · exact HK1.out.new (but_five _ _ _ _ _ _ _) (fun k e => by omega)
  · have HF := Lib.hid (HZ.out.kp hK1 (by omega) (by omega)); have HR1 := Lib.hid hR1; have HK1 := Lib.hid (Below.then_kp HB.out hK1); have HK := Lib.hid hk
    clear hR1 hK1 HB HZ HW HA hk
    unfold tval Ex.zt
    have z0 := HF.out.c0; have z1 := HF.out.c1; have z2 := HF.out.c2; have z3 := HF.out.c3; have z4 := HF.out.c4; have zf := HF.out.fz
    obtain ⟨D, hD⟩ : ∃ D, dval 5 p = D := ⟨_, rfl⟩
    rw [hD]
    have HD := Lib.hid hD; clear hD
    go_wp2
    have T := HF.out.store (.int .i64 0) (.string ⟨#[]⟩) (.int .i64 0) (.int .i64 0) (.int .i64 0)
    refine bodyPost_ret (v := .tuple #[tval Ex.zt, D]) (by simp [results, Tryz.results115, go_sem, T.c0, T.c1, T.c2, T.c3, T.c4, tval, Ex.zt]) rfl (.inr ⟨HK.out, by rw [HD.out], ?_, ?_⟩)
    · exact HR1.out.five HF.out (by omega) _ _ _ _ _
    · exact HK1.out.new (but_five _ _ _ _ _ _ _) (fun k e => by omega)

def strV (b : B) : Value := .string ⟨b.toArray⟩

set_option maxRecDepth 100000 in
set_option maxHeartbeats 2000000 in
theorem needName_any (c : Cx) (X : Nat → Prop) (w : World) (s : Ex.S) (h : Rd c X w s) : Calls Tryz.prog 88 #[.pointer (some ⟨c.r, 0, none⟩)] w (PostV strV c X w (Ex.name c.ts s)) := by
  have hA := name_any c X w s h
  have hE : Ex.name c.ts s = if ((Ex.tk c.ts s.p).kind == 1) = true then .ok (Ex.tk c.ts s.p).text s.skip else .bad 5 (Ex.at_ c.ts s) := rfl
  generalize Ex.tk c.ts s.p = t at *
  generalize Ex.at_ c.ts s = p at *
  have HA := Lib.hid hA; have HE0 := Lib.hid hE
  clear hA hE h
  go_enter Tryz.func88, Tryz.ntmps88
  go_wp2_with fail
  refine HA.out.mono ?_
  rintro e w1 (⟨hk, rfl, hR1, hK1⟩ | ⟨hk, rfl, hR1, hK1⟩)
  · obtain ⟨V, hV⟩ : ∃ V, w1.alloc (.cells #[.int .i64 t.kind, .string ⟨t.text.toArray⟩, .int .i64 t.int, .int .i64 t.at_.line, .int .i64 t.at_.col] 53) = V := ⟨_, rfl⟩
    have hbV : Below w1.heap.size w1 V := by rw [← hV]; exact (Below.refl _ w1).alloc (Nat.le_refl _) _
    have hG : Five V w1.heap.size (.int .i64 t.kind) (.string ⟨t.text.toArray⟩) (.int .i64 t.int) (.int .i64 t.at_.line) (.int .i64 t.at_.col) := ⟨by rw [← hV]; exact blk_new w1 _⟩
    have hR : Ex.name c.ts s = .ok t.text s.skip := by rw [HE0.out, if_pos (by simp [hk])]
    have HV := Lib.hid hV; have HR1 := Lib.hid (hR1.below hbV); have HK1 := Lib.hid (hK1.then_below hbV); have HG := Lib.hid hG; have HE := Lib.hid hR
    clear hV hR1 hK1 hG hbV hR hk HA
    unfold tval
    go_wp2_with fail
    rw [HV.out]
    refine (need_ok _).mono ?_
    rintro e w2 ⟨rfl, rfl⟩
    have y1 := HG.out.c1
    go_wp2
    go_ret
    exact .inl ⟨_, _, HE.out, rfl, HR1.out, HK1.out⟩
  · obtain ⟨V, hV⟩ : ∃ V, w1.alloc (.cells #[.int .i64 0, .string ⟨#[]⟩, .int .i64 0, .int .i64 0, .int .i64 0] 53) = V := ⟨_, rfl⟩
    have hbV : Below w1.heap.size w1 V := by rw [← hV]; exact (Below.refl _ w1).alloc (Nat.le_refl _) _
    have hR : Ex.name c.ts s = .bad 5 p := by rw [HE0.out, if_neg (by simp [hk])]
    have HV := Lib.hid hV; have HK1 := Lib.hid (hK1.then_below hbV); have HE := Lib.hid hR
    clear hV hR1 hK1 hbV hR hk HA
    unfold tval Ex.zt
    go_wp2_with fail
    rw [HV.out]
    refine (need_bad 5 p _).mono ?_
    rintro e w2 ⟨rfl, rfl⟩
    exact ⟨rfl, .inr ⟨_, _, HE.out, rfl, HK1.out⟩⟩

/-- a mark, or a word, is passed over; else what is wrong is told -/
def TakeP (c : Cx) (X : Nat → Prop) (w : World) (R : Ex.Res Unit) (e : Ending) (w' : World) : Prop :=
  (∃ s, R = .ok () s ∧ e = .returned .nilIface ∧ Rd c X w' s ∧ Kp c w w') ∨ (∃ cd p, R = .bad cd p ∧ e = .returned (dval cd p) ∧ Kp c w w')

set_option maxRecDepth 100000 in
set_option maxHeartbeats 2000000 in
theorem take_any (c : Cx) (X : Nat → Prop) (w : World) (s : Ex.S) (m : B) (b : Nat) (h : Rd c X w s) (hc : w.cell? ⟨b, 0, none⟩ = some (.string ⟨m.toArray⟩)) : Calls Tryz.prog 92 #[.pointer (some ⟨c.r, 0, none⟩), .slice (some ⟨b, 0, none⟩) 1 1] w (TakeP c X w (Ex.take c.ts m s)) := by
  have hI := is_any c X w s m h
  have hS := fun w1 (hR : Rd c X w1 s) => wrong_at c X w1 s 5 hR
  have hT := fun w1 (hR : Rd c X w1 s) (hp : s.p < c.ts.length) => skip_any c X w1 s hR hp
  by_cases hm : Ex.is c.ts s m = true
  · rw [hm] at hI
    have hE : Ex.take c.ts m s = .ok () s.skip := by rw [Ex.take, if_pos hm]
    have hp := Ex.is_lt hm
    have HI := Lib.hid hI; have HT := Lib.hid hT; have HE := Lib.hid hE; have HR := Lib.hid h
    clear hI hS hT hE h hm
    go_enter Tryz.func92, Tryz.ntmps92
    go_wp2_with fail
    refine wp_loop_rounds 2 ?_
    rw [rounds_succ]
    go_wp2_with fail
    refine HI.out.mono ?_
    rintro e w1 ⟨rfl, hb1⟩
    go_wp2_with fail
    refine (HT.out _ (HR.out.below hb1) hp).mono ?_
    rintro e w2 ⟨rfl, hR2, hK2⟩
    have HR2 := Lib.hid hR2; have HK2 := Lib.hid (Below.then_kp hb1 hK2)
    clear hb1 hR2 hK2
    go_wp2_with fail
    rw [rounds_succ]
    go_wp2
    go_ret
    exact .inl ⟨_, HE.out, rfl, HR2.out, HK2.out⟩
  · have hm' : Ex.is c.ts s m = false := by simpa using hm
    rw [hm'] at hI
    have hE : Ex.take c.ts m s = .bad 5 (Ex.at_ c.ts s) := by rw [Ex.take, if_neg hm]; rfl
    have HI := Lib.hid hI; have HS := Lib.hid hS; have HE := Lib.hid hE; have HR := Lib.hid h
    clear hI hS hT hE h hm hm'
    go_enter Tryz.func92, Tryz.ntmps92
    go_wp2_with fail
    refine wp_loop_rounds 1 ?_
    rw [rounds_succ]
    go_wp2_with fail
    refine HI.out.mono ?_
    rintro e w1 ⟨rfl, hb1⟩
    go_wp2_with fail
    refine (HS.out _ (HR.out.below hb1)).mono ?_
    rintro e w2 ⟨rfl, hb2⟩
    have HK2 := Lib.hid (Kp.of_below (c := c) (hb1.trans (hb2.mono hb1.size)))
    clear hb1 hb2
    go_wp2
    go_ret
    exact .inr ⟨_, _, HE.out, rfl, HK2.out⟩
end Go.Proofs.YtdkhkemllmegfaaGreatDoor
