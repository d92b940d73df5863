/- No reader. -/
import Derived.Test.YteknddfpdpaodaaGreatDoorParse
namespace Go.Proofs.YteknddfpdpaodaaGreatDoor
open Go.RowKit Tn Lx
attribute [local go_sem] tok_field0 tok_field1 tok_field3

set_option maxRecDepth 100000 in
set_option maxHeartbeats 2000000 in
theorem ahead_nil (w : World) : Calls Tryz.prog 29 #[.pointer none, .int .i64 0] w (AheadP w Ex.zt) := by
  obtain ⟨W, hW⟩ : ∃ W, w.alloc (.cells #[.int .i64 0, .string ⟨#[]⟩, .int .i64 0, .int .i64 0, .int .i64 0] 35) = W := ⟨_, rfl⟩
  have hb : Below w.heap.size w W := by rw [← hW]; exact (Below.refl _ w).alloc (Nat.le_refl _) _
  have hz : Five W w.heap.size (.int .i64 0) (.string ⟨#[]⟩) (.int .i64 0) (.int .i64 0) (.int .i64 0) := ⟨by rw [← hW]; exact blk_new w _⟩
  have HW := Lib.hid hW; have HB := Lib.hid hb; have HZ := Lib.hid hz
  clear hW hb hz
  go_enter Tryz.func29, Tryz.ntmps29
  go_upto_region 1 with fail
  rw [HW.out]
  go_quiet (fail)
  have hbV : Below W.heap.size W (W.drewN nq) := below_drewN (Below.refl _ _) nq
  have HV := Lib.hid hbV; clear hbV
  generalize W.drewN nq = V at *
  have HF1 := Lib.hid (HZ.out.below HV.out)
  have HB2 := Lib.hid (HB.out.trans (HV.out.mono HB.out.size))
  have z0 := HF1.out.c0; have z1 := HF1.out.c1; have z2 := HF1.out.c2; have z3 := HF1.out.c3; have z4 := HF1.out.c4; have zf := HF1.out.fz
  go_wp2
  have T := HF1.out.store (.int .i64 0) (.string ⟨#[]⟩) (.int .i64 0) (.int .i64 0) (.int .i64 0)
  exact bodyPost_ret (v := tval Ex.zt) (by simp [results, Tryz.results29, go_sem, T.c0, T.c1, T.c2, T.c3, T.c4, tval, Ex.zt]) rfl ⟨rfl, below_five HB2.out (Nat.le_refl _) _ _ _ _ _⟩

set_option maxRecDepth 100000 in
set_option maxHeartbeats 1000000 in
theorem next_nil (w : World) : Calls Tryz.prog 15 #[.pointer none] w (AheadP w Ex.zt) := by
  obtain ⟨W, hW⟩ : ∃ W, w.alloc (.cells #[.int .i64 0, .string ⟨#[]⟩, .int .i64 0, .int .i64 0, .int .i64 0] 35) = W := ⟨_, rfl⟩
  have hb : Below w.heap.size w W := by rw [← hW]; exact (Below.refl _ w).alloc (Nat.le_refl _) _
  have hz : Five W w.heap.size (.int .i64 0) (.string ⟨#[]⟩) (.int .i64 0) (.int .i64 0) (.int .i64 0) := ⟨by rw [← hW]; exact blk_new w _⟩
  have HW := Lib.hid hW; have HB := Lib.hid hb; have HZ := Lib.hid hz
  clear hW hb hz
  go_enter Tryz.func15, Tryz.ntmps15
  go_wp2_with fail
  rw [HW.out]
  refine (ahead_nil _).mono ?_
  rintro e w1 ⟨rfl, hb1⟩
  have HF1 := Lib.hid (HZ.out.below hb1)
  have HB2 := Lib.hid (HB.out.trans (hb1.mono HB.out.size))
  have z0 := HF1.out.c0; have z1 := HF1.out.c1; have z2 := HF1.out.c2; have z3 := HF1.out.c3; have z4 := HF1.out.c4; have zf := HF1.out.fz
  clear hb1
  unfold tval Ex.zt
  go_wp2
  have T := HF1.out.store (.int .i64 0) (.string ⟨#[]⟩) (.int .i64 0) (.int .i64 0) (.int .i64 0)
  exact bodyPost_ret (v := tval Ex.zt) (by simp [results, Tryz.results15, go_sem, T.c0, T.c1, T.c2, T.c3, T.c4, tval, Ex.zt]) rfl ⟨rfl, below_five HB2.out (Nat.le_refl _) _ _ _ _ _⟩

set_option maxHeartbeats 1000000 in
theorem is_nil (w : World) : Calls Tryz.prog 10 #[.pointer none, .string ⟨#[]⟩] w fun e w' => e = .returned (.bool false) ∧ Below w.heap.size w w' := by
  go_enter Tryz.func10, Tryz.ntmps10
  go_wp2_with fail
  refine (next_nil _).mono ?_
  rintro e w1 ⟨rfl, hb1⟩
  go_wp2_with fail
  refine (mark_any Ex.zt [] _).mono ?_
  rintro e w2 ⟨rfl, hb2⟩
  go_wp2
  go_ret
  exact ⟨rfl, hb1.trans (hb2.mono hb1.size)⟩

set_option maxRecDepth 100000 in
set_option maxHeartbeats 1000000 in
theorem take_nil (v : Value) (w : World) : Calls Tryz.prog 9 #[.pointer none, v] w fun e w' => e = .returned (dval 1 ⟨0, 0⟩) ∧ Below w.heap.size w w' := by
  go_enter Tryz.func9, Tryz.ntmps9
  go_wp2_with fail
  refine (wrong_nil 1 _).mono ?_
  rintro e w1 ⟨rfl, hb1⟩
  go_wp2
  go_ret
  exact ⟨rfl, hb1⟩

set_option maxRecDepth 100000 in
set_option maxHeartbeats 2000000 in
theorem one_nil (k : Int) (w : World) : Calls Tryz.prog 20 #[.pointer none, .int .i64 k] w fun e w' => e = .returned (.tuple #[tval Ex.zt, dval 1 ⟨0, 0⟩]) ∧ Below w.heap.size w w' := by
  obtain ⟨W, hW⟩ : ∃ W, w.alloc (.cells #[.int .i64 0, .string ⟨#[]⟩, .int .i64 0, .int .i64 0, .int .i64 0] 35) = W := ⟨_, rfl⟩
  have hb : Below w.heap.size w W := by rw [← hW]; exact (Below.refl _ w).alloc (Nat.le_refl _) _
  have hz : Five W w.heap.size (.int .i64 0) (.string ⟨#[]⟩) (.int .i64 0) (.int .i64 0) (.int .i64 0) := ⟨by rw [← hW]; exact blk_new w _⟩
  have HW := Lib.hid hW; have HB := Lib.hid hb; have HZ := Lib.hid hz
  clear hW hb hz
  go_enter Tryz.func20, Tryz.ntmps20
  go_wp2_with fail
  rw [HW.out]
  refine (wrong_nil 5 _).mono ?_
  rintro e w1 ⟨rfl, hb1⟩
  have HF := Lib.hid (HZ.out.below hb1)
  have HB2 := Lib.hid (HB.out.trans (hb1.mono HB.out.size))
  have z0 := HF.out.c0; have z1 := HF.out.c1; have z2 := HF.out.c2; have z3 := HF.out.c3; have z4 := HF.out.c4; have zf := HF.out.fz
  clear hb1
  obtain ⟨D, hD⟩ : ∃ D, dval 1 ⟨0, 0⟩ = D := ⟨_, rfl⟩
  rw [hD]
  have HD := Lib.hid hD; clear hD
  go_wp2
  have T := HF.out.store (.int .i64 0) (.string ⟨#[]⟩) (.int .i64 0) (.int .i64 0) (.int .i64 0)
  exact bodyPost_ret (v := .tuple #[tval Ex.zt, D]) (by simp [results, Tryz.results20, go_sem, T.c0, T.c1, T.c2, T.c3, T.c4, tval, Ex.zt]) rfl ⟨by rw [HD.out], below_five HB2.out (Nat.le_refl _) _ _ _ _ _⟩

set_option maxRecDepth 100000 in
set_option maxHeartbeats 2000000 in
theorem name_nil (w : World) : Calls Tryz.prog 7 #[.pointer none] w fun e w' => e = .returned (.tuple #[tval Ex.zt, dval 1 ⟨0, 0⟩]) ∧ Below w.heap.size w w' := by
  obtain ⟨W, hW⟩ : ∃ W, w.alloc (.cells #[.int .i64 0, .string ⟨#[]⟩, .int .i64 0, .int .i64 0, .int .i64 0] 35) = W := ⟨_, rfl⟩
  have hb : Below w.heap.size w W := by rw [← hW]; exact (Below.refl _ w).alloc (Nat.le_refl _) _
  have hz : Five W w.heap.size (.int .i64 0) (.string ⟨#[]⟩) (.int .i64 0) (.int .i64 0) (.int .i64 0) := ⟨by rw [← hW]; exact blk_new w _⟩
  have HW := Lib.hid hW; have HB := Lib.hid hb; have HZ := Lib.hid hz
  clear hW hb hz
  go_enter Tryz.func7, Tryz.ntmps7
  go_wp2_with fail
  rw [HW.out]
  refine (one_nil 1 _).mono ?_
  rintro e w1 ⟨rfl, hb1⟩
  have HF := Lib.hid (HZ.out.below hb1)
  have HB2 := Lib.hid (HB.out.trans (hb1.mono HB.out.size))
  have z0 := HF.out.c0; have z1 := HF.out.c1; have z2 := HF.out.c2; have z3 := HF.out.c3; have z4 := HF.out.c4; have zf := HF.out.fz
  clear hb1
  obtain ⟨D, hD⟩ : ∃ D, dval 1 ⟨0, 0⟩ = D := ⟨_, rfl⟩
  rw [hD]
  have HD := Lib.hid hD; clear hD
  unfold tval Ex.zt
  go_wp2
  have T := HF.out.store (.int .i64 0) (.string ⟨#[]⟩) (.int .i64 0) (.int .i64 0) (.int .i64 0)
  exact bodyPost_ret (v := .tuple #[tval Ex.zt, D]) (by simp [results, Tryz.results7, go_sem, T.c0, T.c1, T.c2, T.c3, T.c4, tval, Ex.zt]) rfl ⟨by rw [HD.out], below_five HB2.out (Nat.le_refl _) _ _ _ _ _⟩

set_option maxRecDepth 100000 in
set_option maxHeartbeats 2000000 in
theorem expr_nil (w : World) : Calls Tryz.prog 6 #[.pointer none] w fun e w' => e = .returned (.tuple #[.int .i64 0, dval 1 ⟨0, 0⟩]) ∧ Below w.heap.size w w' := by
  obtain ⟨V, hV⟩ : ∃ V, (w.alloc (.cells #[.int .i64 0] 3)).alloc (.cells #[.nilIface] 25) = V := ⟨_, rfl⟩
  have hbV : Below w.heap.size w V := by rw [← hV]; exact ((Below.refl _ w).alloc (Nat.le_refl _) _).alloc (by simp) _
  have k2 : V.heap[w.heap.size]? = some (.cells #[.int .i64 0] 3 (0, 0)) := by rw [← hV]; exact blk_alloc (blk_new w _) _
  have k3 : V.heap[w.heap.size + 1]? = some (.cells #[.nilIface] 25 (0, 0)) := by
    rw [← hV]; have := blk_new (w.alloc (.cells #[.int .i64 0] 3)) (.cells #[.nilIface] 25); rwa [World.size_alloc] at this
  have HV := Lib.hid hV; have HB := Lib.hid hbV; have K2 := Lib.hid k2; have K3 := Lib.hid k3
  clear hV hbV k2 k3
  go_enter_defers Tryz.func6, Tryz.ntmps6
  go_wp2_with fail
  rw [HV.out]
  refine (wrong_nil 1 _).mono ?_
  rintro e w1 ⟨rfl, hb1⟩
  unfold dval
  have k2 := (hb1.block _ (lt_of_heap K2.out)).trans K2.out
  have k3 := (hb1.block _ (lt_of_heap K3.out)).trans K3.out
  have c2 : w1.cell? ⟨w.heap.size, 0, none⟩ = some (.int .i64 0) := (blk_cell k2 0).trans rfl
  have f2 : w1.frozen? ⟨w.heap.size, 0, none⟩ = false := blk_frozen k2 0
  have c3 : (w1.setCell ⟨w.heap.size, 0, none⟩ (.int .i64 0)).cell? ⟨w.heap.size + 1, 0, none⟩ = some .nilIface := (blk_cell ((blk_other (by omega) _ _).trans k3) 0).trans rfl
  have f3 : (w1.setCell ⟨w.heap.size, 0, none⟩ (.int .i64 0)).frozen? ⟨w.heap.size + 1, 0, none⟩ = false := blk_frozen ((blk_other (by omega) _ _).trans k3) 0
  have z2 : ((w1.setCell ⟨w.heap.size, 0, none⟩ (.int .i64 0)).setCell ⟨w.heap.size + 1, 0, none⟩ (.iface 41 (.agg #[.int .i64 1, .int .i64 0, .int .i64 0, .string ⟨#[]⟩]))).cell? ⟨w.heap.size, 0, none⟩ = some (.int .i64 0) := (blk_cell ((blk_other (by omega) _ _).trans (blk_set k2 0 _)) 0).trans rfl
  have z3 : ((w1.setCell ⟨w.heap.size, 0, none⟩ (.int .i64 0)).setCell ⟨w.heap.size + 1, 0, none⟩ (.iface 41 (.agg #[.int .i64 1, .int .i64 0, .int .i64 0, .string ⟨#[]⟩]))).cell? ⟨w.heap.size + 1, 0, none⟩ = some (.iface 41 (.agg #[.int .i64 1, .int .i64 0, .int .i64 0, .string ⟨#[]⟩])) := (blk_cell (blk_set ((blk_other (by omega) _ _).trans k3) 0 _) 0).trans rfl
  have hbF : Below w.heap.size w ((w1.setCell ⟨w.heap.size, 0, none⟩ (.int .i64 0)).setCell ⟨w.heap.size + 1, 0, none⟩ (.iface 41 (.agg #[.int .i64 1, .int .i64 0, .int .i64 0, .string ⟨#[]⟩]))) := ((HB.out.trans (hb1.mono HB.out.size)).setCell (by simp) _).setCell (by simp) _
  have Z2 := Lib.hid z2; have Z3 := Lib.hid z3; have HBF := Lib.hid hbF
  clear hb1 k2 k3 z2 z3 hbF
  go_wp2
  refine ⟨.tuple #[.int .i64 0, (.iface 41 (.agg #[.int .i64 1, .int .i64 0, .int .i64 0, .string ⟨#[]⟩]))], by simp [results, Tryz.results6, go_sem, Z2.out, Z3.out], ?_⟩
  exact ⟨rfl, HBF.out⟩
end Go.Proofs.YteknddfpdpaodaaGreatDoor
