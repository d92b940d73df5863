/- A name of a policy's text. -/
import Derived.Test.YtcelelnmphdlbaaGreatDoorMem7
namespace Go.Proofs.YtcelelnmphdlbaaGreatDoor
open Go.RowKit Tn Lx
attribute [local go_sem] tok_field0 tok_field1 tok_field3

theorem take_ok (c : Cx) (X : Nat → Prop) (w : World) (s s1 : Ex.S) (m : B) (b : Nat) (h : Rd c X w s) (hc : w.cell? ⟨b, 0, none⟩ = some (.string ⟨m.toArray⟩)) (ht : Py.takeO c.ts m s = some s1) :
    Calls Tryz.prog 52 #[.pointer (some ⟨c.r, 0, none⟩), .slice (some ⟨b, 0, none⟩) 1 1] w fun e w' => e = .returned .nilIface ∧ Rd c X w' s1 ∧ Kp c w w' := by
  rw [Py.takeO] at ht
  split at ht
  · rename_i hi
    injection ht with ht; subst ht
    refine (take_any c X w s m b h hc).mono ?_
    rintro e w' (⟨s2, h2, rfl, hR, hK⟩ | ⟨cd, p, h2, _⟩)
    · rw [Ex.take, if_pos hi] at h2; injection h2 with _ h2; subst h2; exact ⟨rfl, hR, hK⟩
    · rw [Ex.take, if_pos hi] at h2; cases h2
  · cases ht

theorem but_three (w : World) (b o : Nat) (u0 u1 u2 : Value) : But (fun k => k = b) w (((w.setCell ⟨b, o, none⟩ u0).setCell ⟨b, o + 1, none⟩ u1).setCell ⟨b, o + 2, none⟩ u2) :=
  ((But.setCell (p := fun k => k = b) w rfl o u0).trans (But.setCell (p := fun k => k = b) _ rfl (o + 1) u1)).trans (But.setCell (p := fun k => k = b) _ rfl (o + 2) u2)

set_option maxRecDepth 100000 in
set_option maxHeartbeats 4000000 in
theorem yname_ok (c : Cx) (X : Nat → Prop) (w : World) (s s1 : Ex.S) (pp q : Nat) (n : Py.Nm) (h : Rd c X w s) (hpp : w.heap[pp]? = some (.cells (parCells c.r q) 66 (0, 0))) (hpB : c.B ≤ pp) (hn : Py.nameO c.ts s = some (n, s1)) :
    Calls Tryz.prog 46 #[.pointer (some ⟨pp, 0, none⟩)] w fun e w' => e = .returned (.tuple #[yval n, .nilIface]) ∧ Rd c X w' s1 ∧ Kp c w w' := by
  have hr1 := h.rlt; have hb1 := h.blt; have hg1 := h.glt; have hsz := h.size
  obtain ⟨V, hV⟩ : ∃ V, w.alloc (.cells #[.string ⟨#[]⟩, .int .i64 0, .int .i64 0] 50) = V := ⟨_, rfl⟩
  have hbV : Below w.heap.size w V := by rw [← hV]; exact (Below.refl _ w).alloc (Nat.le_refl _) _
  have p00 : w.cell? ⟨pp, 0, none⟩ = some (.pointer (some ⟨c.r, 0, none⟩)) := (blk_cell hpp 0).trans rfl
  have p0 := fun o => (World.cell?_alloc_lt w o _ (World.block_lt_of_cell? _ _ p00)).trans p00
  have hA := name_any c X V s (h.below hbV)
  have hkV : V.heap[w.heap.size]? = some (.cells #[.string ⟨#[]⟩, .int .i64 0, .int .i64 0] 50 (0, 0)) := by rw [← hV]; exact blk_new w _
  have hk : (Ex.tk c.ts s.p).kind = 1 ∧ n = ⟨(Ex.tk c.ts s.p).text, (Ex.tk c.ts s.p).at_⟩ ∧ s1 = s.skip := by
    rw [Py.nameO] at hn
    split at hn
    · rename_i hk
      injection hn with hn; injection hn with h1 h2
      exact ⟨by simpa using hk, h1.symm, h2.symm⟩
    · cases hn
  obtain ⟨hk, rfl, rfl⟩ := hk
  generalize Ex.tk c.ts s.p = tk at *
  generalize Ex.at_ c.ts s = p at *
  have HA := Lib.hid hA; have HV := Lib.hid hV; have HB := Lib.hid hbV; have HKV := Lib.hid hkV; have HKK := Lib.hid hk
  clear hA hV hbV hkV hn h hpp hk
  go_enter Tryz.func46, Tryz.ntmps46
  go_wp2_with fail
  rw [HV.out]
  refine HA.out.mono ?_
  rintro e w2 (⟨hk, rfl, hR2, hK2⟩ | ⟨hk, rfl, hR2, hK2⟩)
  rotate_left
  · exact absurd HKK.out hk
  have hd2 := hK2.heap HKV.out (by omega) (by omega) (by decide)
  have hK3 := Below.then_kp HB.out hK2
  have HR2 := Lib.hid hR2; have HK3 := Lib.hid hK3; have HD2 := Lib.hid hd2
  clear hR2 hK2 hK3 hd2 hk HA HV HB HKV
  unfold tval
  obtain ⟨V2, hV2⟩ : ∃ V, w2.alloc (.cells #[.int .i64 tk.kind, .string ⟨tk.text.toArray⟩, .int .i64 tk.int, .int .i64 tk.at_.line, .int .i64 tk.at_.col] 92) = V := ⟨_, rfl⟩
  have hbV2 : Below w2.heap.size w2 V2 := by rw [← hV2]; exact (Below.refl _ w2).alloc (Nat.le_refl _) _
  have hG : Five V2 w2.heap.size (.int .i64 tk.kind) (.string ⟨tk.text.toArray⟩) (.int .i64 tk.int) (.int .i64 tk.at_.line) (.int .i64 tk.at_.col) := ⟨by rw [← hV2]; exact blk_new w2 _⟩
  have hdV : V2.heap[w.heap.size]? = some (.cells #[.string ⟨#[]⟩, .int .i64 0, .int .i64 0] 50 (0, 0)) := (hbV2.block _ (lt_of_heap HD2.out)).trans HD2.out
  have hRV := HR2.out.below hbV2
  have hKV := HK3.out.then_below hbV2
  have HV2 := Lib.hid hV2; have HG := Lib.hid hG; have HDV := Lib.hid hdV; have HRV := Lib.hid hRV; have HKV := Lib.hid hKV
  clear hV2 hbV2 hG hdV hRV hKV HR2 HK3 HD2 p0 p00
  have y1 := HG.out.c1; have y3 := HG.out.c3; have y4 := HG.out.c4
  have x0 : V2.cell? ⟨w.heap.size, 0, none⟩ = some (.string ⟨#[]⟩) := (blk_cell HDV.out 0).trans rfl
  have x1 : V2.cell? ⟨w.heap.size, 1, none⟩ = some (.int .i64 0) := (blk_cell HDV.out 1).trans rfl
  have x2 : V2.cell? ⟨w.heap.size, 2, none⟩ = some (.int .i64 0) := (blk_cell HDV.out 2).trans rfl
  have xf : ∀ i, V2.frozen? ⟨w.heap.size, i, none⟩ = false := fun i => blk_frozen HDV.out i
  go_upto_region 2 with fail
  rw [HV2.out]
  go_wp2
  have hr3 := blk_set (blk_set (blk_set HDV.out 0 (.string ⟨tk.text.toArray⟩)) 1 (.int .i64 tk.at_.line)) 2 (.int .i64 tk.at_.col)
  have r0 := (blk_cell hr3 0).trans rfl
  have r1 := (blk_cell hr3 1).trans rfl
  have r2 := (blk_cell hr3 2).trans rfl
  refine bodyPost_ret (v := .tuple #[.agg #[.string ⟨tk.text.toArray⟩, .int .i64 tk.at_.line, .int .i64 tk.at_.col], .nilIface]) (by simp [results, Tryz.results46, go_sem, r0, r1, r2]) rfl ⟨rfl, ?_, ?_⟩
  · exact HRV.out.but (but_three V2 w.heap.size 0 _ _ _) (fun e => by omega) (fun e => by omega) (fun e => by omega) (fun k e => .inr (by subst e; exact ⟨_, _, _, HDV.out, by decide, by decide⟩))
  · exact HKV.out.new (but_three V2 w.heap.size 0 _ _ _) (fun k e => by omega)
end Go.Proofs.YtcelelnmphdlbaaGreatDoor
