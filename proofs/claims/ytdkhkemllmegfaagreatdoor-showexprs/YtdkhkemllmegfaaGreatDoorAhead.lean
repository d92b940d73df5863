/- The token that comes, and the one behind it. -/
import Derived.Test.YtdkhkemllmegfaaGreatDoorRd
import Derived.Deep.RegionHeld3
import Derived.BigRegion
import Derived.BigQuiet
import Derived.StillTailTactics
import Derived.IntWalk
namespace Go.Proofs.YtdkhkemllmegfaaGreatDoor
open Go.RowKit Tn Lx

/-- the token q places on -/
def AheadP (w : World) (t : Tok) (e : Ending) (w' : World) : Prop := e = .returned (tval t) ∧ Below w.heap.size w w'

/-- a token's block -/
structure Five (w : World) (b : Nat) (v0 v1 v2 v3 v4 : Value) : Prop where
  blk : w.heap[b]? = some (.cells #[v0, v1, v2, v3, v4] 53 (0, 0))
theorem Five.c0 {w : World} {b : Nat} {v0 v1 v2 v3 v4 : Value} (h : Five w b v0 v1 v2 v3 v4) : w.cell? ⟨b, 0, none⟩ = some v0 := (blk_cell h.blk 0).trans rfl
theorem Five.c1 {w : World} {b : Nat} {v0 v1 v2 v3 v4 : Value} (h : Five w b v0 v1 v2 v3 v4) : w.cell? ⟨b, 1, none⟩ = some v1 := (blk_cell h.blk 1).trans rfl
theorem Five.c2 {w : World} {b : Nat} {v0 v1 v2 v3 v4 : Value} (h : Five w b v0 v1 v2 v3 v4) : w.cell? ⟨b, 2, none⟩ = some v2 := (blk_cell h.blk 2).trans rfl
theorem Five.c3 {w : World} {b : Nat} {v0 v1 v2 v3 v4 : Value} (h : Five w b v0 v1 v2 v3 v4) : w.cell? ⟨b, 3, none⟩ = some v3 := (blk_cell h.blk 3).trans rfl
theorem Five.c4 {w : World} {b : Nat} {v0 v1 v2 v3 v4 : Value} (h : Five w b v0 v1 v2 v3 v4) : w.cell? ⟨b, 4, none⟩ = some v4 := (blk_cell h.blk 4).trans rfl
theorem Five.fz {w : World} {b : Nat} {v0 v1 v2 v3 v4 : Value} (h : Five w b v0 v1 v2 v3 v4) (i : Nat) : w.frozen? ⟨b, i, none⟩ = false := blk_frozen h.blk i
theorem Five.below {w w' : World} {b : Nat} {v0 v1 v2 v3 v4 : Value} (h : Five w b v0 v1 v2 v3 v4) (hb : Below w.heap.size w w') : Five w' b v0 v1 v2 v3 v4 := ⟨(hb.block b (lt_of_heap h.blk)).trans h.blk⟩
theorem Five.store {w : World} {b : Nat} {v0 v1 v2 v3 v4 : Value} (h : Five w b v0 v1 v2 v3 v4) (u0 u1 u2 u3 u4 : Value) :
    Five (((((w.setCell ⟨b, 0, none⟩ u0).setCell ⟨b, 1, none⟩ u1).setCell ⟨b, 2, none⟩ u2).setCell ⟨b, 3, none⟩ u3).setCell ⟨b, 4, none⟩ u4) b u0 u1 u2 u3 u4 :=
  ⟨(blk_set (blk_set (blk_set (blk_set (blk_set h.blk 0 u0) 1 u1) 2 u2) 3 u3) 4 u4).trans rfl⟩
theorem below_five {N : Nat} {w w' : World} {b : Nat} (h : Below N w w') (hb : N ≤ b) (u0 u1 u2 u3 u4 : Value) :
    Below N w (((((w'.setCell ⟨b, 0, none⟩ u0).setCell ⟨b, 1, none⟩ u1).setCell ⟨b, 2, none⟩ u2).setCell ⟨b, 3, none⟩ u3).setCell ⟨b, 4, none⟩ u4) :=
  ((((h.setCell hb _).setCell hb _).setCell hb _).setCell hb _).setCell hb _
theorem Rd.drewN {c : Cx} {X : Nat → Prop} {w : World} {s : Ex.S} (h : Rd c X w s) (n : Nat) : Rd c X (w.drewN n) s := h.below (below_drewN (Below.refl _ _) n)

set_option maxRecDepth 100000 in
set_option maxHeartbeats 2000000 in
theorem ahead0_in (c : Cx) (X : Nat → Prop) (w : World) (s : Ex.S) (h : Rd c X w s) (hp : s.p < c.ts.length) : Calls Tryz.prog 34 #[.pointer (some ⟨c.r, 0, none⟩), .int .i64 0] w (AheadP w (Ex.tk c.ts s.p)) := by
  obtain ⟨W, hW⟩ : ∃ W, w.alloc (.cells #[.int .i64 0, .string ⟨#[]⟩, .int .i64 0, .int .i64 0, .int .i64 0] 53) = W := ⟨_, rfl⟩
  have hb : Below w.heap.size w W := by rw [← hW]; exact (Below.refl _ w).alloc (Nat.le_refl _) _
  have hz : Five W w.heap.size (.int .i64 0) (.string ⟨#[]⟩) (.int .i64 0) (.int .i64 0) (.int .i64 0) := ⟨by rw [← hW]; exact blk_new w _⟩
  have hR := h.below hb
  have few := h.few; have room := h.room
  have c1 := hR.c1; have c2 := hR.c2
  have HW := Lib.hid hW; have HB := Lib.hid hb; have HZ := Lib.hid hz; have HR := Lib.hid hR
  clear hW hb hz h hR
  go_enter Tryz.func34, Tryz.ntmps34
  go_upto_region 1 with fail
  rw [HW.out]
  go_quiet (fail)
  go_wp2
  clear c1 c2
  have hbV : Below W.heap.size W (W.drewN nq) := below_drewN (Below.refl _ _) nq
  have HV := Lib.hid hbV; clear hbV
  generalize W.drewN nq = V at *
  have hR := HR.out.below HV.out
  have hF := HZ.out.below HV.out
  have hB := HB.out.trans (HV.out.mono HB.out.size)
  have c1 := hR.c1; have c2 := hR.c2
  have k0 := hR.tk hp 0 (by omega) rfl; have k1 := hR.tk hp 1 (by omega) rfl; have k2 := hR.tk hp 2 (by omega) rfl; have k3 := hR.tk hp 3 (by omega) rfl; have k4 := hR.tk hp 4 (by omega) rfl
  rw [Nat.add_zero] at k0
  have HP := Lib.hid hp
  generalize hk : Ex.tk c.ts s.p = t at *
  have HF := Lib.hid hF; have HB1 := Lib.hid hB
  have wr : IntKind.i64.wrap (s.p : Int) = (s.p : Int) := IntWalk.i64_in _ (by omega)
  clear hk hR hF hB HR HZ HB HV
  go_still_tail 12, (by kernel_rfl)
  change wpList _ _ _ _ _ V.drew
  have hF1 : Five V.drew w.heap.size _ _ _ _ _ := ⟨HF.out.blk⟩
  have hB1 : Below w.heap.size w V.drew := HB1.out.drew
  have HF1 := Lib.hid hF1; have HB2 := Lib.hid hB1
  clear hF1 hB1
  generalize V.drew = V1 at *
  have z0 := HF1.out.c0; have z1 := HF1.out.c1; have z2 := HF1.out.c2; have z3 := HF1.out.c3; have z4 := HF1.out.c4; have zf := HF1.out.fz
  clear k0 k1 k2 k3 k4 c1 c2
  go_wp2
  have T := HF1.out.store (.int .i64 t.kind) (.string ⟨t.text.toArray⟩) (.int .i64 t.int) (.int .i64 t.at_.line) (.int .i64 t.at_.col)
  exact bodyPost_ret (v := tval t) (by simp [results, Tryz.results34, go_sem, T.c0, T.c1, T.c2, T.c3, T.c4, tval]) rfl ⟨rfl, below_five HB2.out (Nat.le_refl _) _ _ _ _ _⟩
set_option maxRecDepth 100000 in
set_option maxHeartbeats 2000000 in
theorem ahead1_in (c : Cx) (X : Nat → Prop) (w : World) (s : Ex.S) (h : Rd c X w s) (hp : s.p + 1 < c.ts.length) : Calls Tryz.prog 34 #[.pointer (some ⟨c.r, 0, none⟩), .int .i64 1] w (AheadP w (Ex.tk c.ts (s.p + 1))) := by
  obtain ⟨W, hW⟩ : ∃ W, w.alloc (.cells #[.int .i64 0, .string ⟨#[]⟩, .int .i64 0, .int .i64 0, .int .i64 0] 53) = W := ⟨_, rfl⟩
  have hb : Below w.heap.size w W := by rw [← hW]; exact (Below.refl _ w).alloc (Nat.le_refl _) _
  have hz : Five W w.heap.size (.int .i64 0) (.string ⟨#[]⟩) (.int .i64 0) (.int .i64 0) (.int .i64 0) := ⟨by rw [← hW]; exact blk_new w _⟩
  have hR := h.below hb
  have few := h.few; have room := h.room
  have c1 := hR.c1; have c2 := hR.c2
  have HW := Lib.hid hW; have HB := Lib.hid hb; have HZ := Lib.hid hz; have HR := Lib.hid hR
  clear hW hb hz h hR
  go_enter Tryz.func34, Tryz.ntmps34
  go_upto_region 1 with fail
  rw [HW.out]
  go_quiet (fail)
  go_wp2
  clear c1 c2
  have hbV : Below W.heap.size W (W.drewN nq) := below_drewN (Below.refl _ _) nq
  have HV := Lib.hid hbV; clear hbV
  generalize W.drewN nq = V at *
  have hR := HR.out.below HV.out
  have hF := HZ.out.below HV.out
  have hB := HB.out.trans (HV.out.mono HB.out.size)
  have c1 := hR.c1; have c2 := hR.c2
  have k0 := hR.tk hp 0 (by omega) rfl; have k1 := hR.tk hp 1 (by omega) rfl; have k2 := hR.tk hp 2 (by omega) rfl; have k3 := hR.tk hp 3 (by omega) rfl; have k4 := hR.tk hp 4 (by omega) rfl
  rw [Nat.add_zero] at k0
  have HP := Lib.hid hp
  generalize hk : Ex.tk c.ts (s.p + 1) = t at *
  have HF := Lib.hid hF; have HB1 := Lib.hid hB
  have wr : IntKind.i64.wrap ((s.p : Int) + 1) = (s.p : Int) + 1 := IntWalk.i64_in _ (by omega)
  have wn : ((s.p : Int) + 1).toNat = s.p + 1 := by omega
  have w0 : (0 : Int) ≤ (s.p : Int) + 1 := by omega
  have w1 : (s.p : Int) + 1 < (c.ts.length : Int) := by omega
  clear hk hR hF hB HR HZ HB HV
  go_still_tail 12, (by kernel_rfl)
  change wpList _ _ _ _ _ V.drew
  have hF1 : Five V.drew w.heap.size _ _ _ _ _ := ⟨HF.out.blk⟩
  have hB1 : Below w.heap.size w V.drew := HB1.out.drew
  have HF1 := Lib.hid hF1; have HB2 := Lib.hid hB1
  clear hF1 hB1
  generalize V.drew = V1 at *
  have z0 := HF1.out.c0; have z1 := HF1.out.c1; have z2 := HF1.out.c2; have z3 := HF1.out.c3; have z4 := HF1.out.c4; have zf := HF1.out.fz
  clear k0 k1 k2 k3 k4 c1 c2
  go_wp2
  have T := HF1.out.store (.int .i64 t.kind) (.string ⟨t.text.toArray⟩) (.int .i64 t.int) (.int .i64 t.at_.line) (.int .i64 t.at_.col)
  exact bodyPost_ret (v := tval t) (by simp [results, Tryz.results34, go_sem, T.c0, T.c1, T.c2, T.c3, T.c4, tval]) rfl ⟨rfl, below_five HB2.out (Nat.le_refl _) _ _ _ _ _⟩

set_option maxRecDepth 100000 in
set_option maxHeartbeats 2000000 in
theorem ahead0_out (c : Cx) (X : Nat → Prop) (w : World) (s : Ex.S) (h : Rd c X w s) (hp : c.ts.length ≤ s.p) : Calls Tryz.prog 34 #[.pointer (some ⟨c.r, 0, none⟩), .int .i64 0] w (AheadP w (Ex.tk c.ts s.p)) := by
  have ht : Ex.tk c.ts s.p = Ex.zt := by rw [Ex.tk, List.getD_eq_getElem?_getD, List.getElem?_eq_none hp]; rfl
  rw [ht]
  obtain ⟨W, hW⟩ : ∃ W, w.alloc (.cells #[.int .i64 0, .string ⟨#[]⟩, .int .i64 0, .int .i64 0, .int .i64 0] 53) = W := ⟨_, rfl⟩
  have hb : Below w.heap.size w W := by rw [← hW]; exact (Below.refl _ w).alloc (Nat.le_refl _) _
  have hz : Five W w.heap.size (.int .i64 0) (.string ⟨#[]⟩) (.int .i64 0) (.int .i64 0) (.int .i64 0) := ⟨by rw [← hW]; exact blk_new w _⟩
  have hR := h.below hb
  have few := h.few; have room := h.room; have hp0 := h.p
  have c1 := hR.c1; have c2 := hR.c2
  have HW := Lib.hid hW; have HB := Lib.hid hb; have HZ := Lib.hid hz
  clear hW hb hz h hR ht
  go_enter Tryz.func34, Tryz.ntmps34
  go_upto_region 1 with fail
  rw [HW.out]
  go_quiet (fail)
  clear c1 c2
  have hbV : Below W.heap.size W (W.drewN nq) := below_drewN (Below.refl _ _) nq
  have HV := Lib.hid hbV; clear hbV
  generalize W.drewN nq = V at *
  have HF1 := Lib.hid (HZ.out.below HV.out)
  have HB2 := Lib.hid (HB.out.trans (HV.out.mono HB.out.size))
  have z0 := HF1.out.c0; have z1 := HF1.out.c1; have z2 := HF1.out.c2; have z3 := HF1.out.c3; have z4 := HF1.out.c4; have zf := HF1.out.fz
  go_wp2
  have T := HF1.out.store (.int .i64 0) (.string ⟨#[]⟩) (.int .i64 0) (.int .i64 0) (.int .i64 0)
  exact bodyPost_ret (v := tval Ex.zt) (by simp [results, Tryz.results34, go_sem, T.c0, T.c1, T.c2, T.c3, T.c4, tval, Ex.zt]) rfl ⟨rfl, below_five HB2.out (Nat.le_refl _) _ _ _ _ _⟩

set_option maxRecDepth 100000 in
set_option maxHeartbeats 2000000 in
theorem ahead1_out (c : Cx) (X : Nat → Prop) (w : World) (s : Ex.S) (h : Rd c X w s) (hp : c.ts.length ≤ (s.p + 1)) : Calls Tryz.prog 34 #[.pointer (some ⟨c.r, 0, none⟩), .int .i64 1] w (AheadP w (Ex.tk c.ts (s.p + 1))) := by
  have ht : Ex.tk c.ts (s.p + 1) = Ex.zt := by rw [Ex.tk, List.getD_eq_getElem?_getD, List.getElem?_eq_none hp]; rfl
  rw [ht]
  obtain ⟨W, hW⟩ : ∃ W, w.alloc (.cells #[.int .i64 0, .string ⟨#[]⟩, .int .i64 0, .int .i64 0, .int .i64 0] 53) = W := ⟨_, rfl⟩
  have hb : Below w.heap.size w W := by rw [← hW]; exact (Below.refl _ w).alloc (Nat.le_refl _) _
  have hz : Five W w.heap.size (.int .i64 0) (.string ⟨#[]⟩) (.int .i64 0) (.int .i64 0) (.int .i64 0) := ⟨by rw [← hW]; exact blk_new w _⟩
  have hR := h.below hb
  have few := h.few; have room := h.room; have hp0 := h.p
  have c1 := hR.c1; have c2 := hR.c2
  have HW := Lib.hid hW; have HB := Lib.hid hb; have HZ := Lib.hid hz
  clear hW hb hz h hR ht
  go_enter Tryz.func34, Tryz.ntmps34
  go_upto_region 1 with fail
  rw [HW.out]
  go_quiet (fail)
  clear c1 c2
  have hbV : Below W.heap.size W (W.drewN nq) := below_drewN (Below.refl _ _) nq
  have HV := Lib.hid hbV; clear hbV
  generalize W.drewN nq = V at *
  have HF1 := Lib.hid (HZ.out.below HV.out)
  have HB2 := Lib.hid (HB.out.trans (HV.out.mono HB.out.size))
  have z0 := HF1.out.c0; have z1 := HF1.out.c1; have z2 := HF1.out.c2; have z3 := HF1.out.c3; have z4 := HF1.out.c4; have zf := HF1.out.fz
  go_wp2
  have T := HF1.out.store (.int .i64 0) (.string ⟨#[]⟩) (.int .i64 0) (.int .i64 0) (.int .i64 0)
  exact bodyPost_ret (v := tval Ex.zt) (by simp [results, Tryz.results34, go_sem, T.c0, T.c1, T.c2, T.c3, T.c4, tval, Ex.zt]) rfl ⟨rfl, below_five HB2.out (Nat.le_refl _) _ _ _ _ _⟩

theorem ahead0_any (c : Cx) (X : Nat → Prop) (w : World) (s : Ex.S) (h : Rd c X w s) : Calls Tryz.prog 34 #[.pointer (some ⟨c.r, 0, none⟩), .int .i64 0] w (AheadP w (Ex.tk c.ts s.p)) := by
  rcases Nat.lt_or_ge s.p c.ts.length with hp | hp
  · exact ahead0_in c X w s h hp
  · exact ahead0_out c X w s h hp
theorem ahead1_any (c : Cx) (X : Nat → Prop) (w : World) (s : Ex.S) (h : Rd c X w s) : Calls Tryz.prog 34 #[.pointer (some ⟨c.r, 0, none⟩), .int .i64 1] w (AheadP w (Ex.tk c.ts (s.p + 1))) := by
  rcases Nat.lt_or_ge (s.p + 1) c.ts.length with hp | hp
  · exact ahead1_in c X w s h hp
  · exact ahead1_out c X w s h hp
end Go.Proofs.YtdkhkemllmegfaaGreatDoor
