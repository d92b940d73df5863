import Derived.Test.YtdkhkemllmegfaaGreatDoorAll
import Derived.Test.YtdkhkemllmegfaaGreatDoorLevels
import Derived.Test.YtdkhkemllmegfaaGreatDoorLWrong
import Derived.Recover

/- The whole reading does what the plain functions say. -/
namespace Go.Proofs.YtdkhkemllmegfaaGreatDoor
open Go.RowKit Tn Lx

/-- with fuel that fits in memory -/
theorem spec_rec (c : Cx) : ∀ n, n ≤ 900000 → Spec c (Ex.rec_ c.ts n)
  | 0, _ => ⟨fun _ _ _ _ _ _ h => absurd rfl h, fun _ _ _ _ _ _ h => absurd rfl h, fun _ _ _ _ _ _ h => absurd rfl h, fun _ _ _ _ _ _ h => absurd rfl h, fun _ _ _ _ _ _ h => absurd rfl h, fun _ _ _ _ _ _ h => absurd rfl h, fun _ _ _ _ _ _ h => absurd rfl h, fun _ _ _ _ _ _ h => absurd rfl h⟩
  | n + 1, hn =>
    have ih := spec_rec c n (by omega)
    have hm : n ≤ 900000 := by omega
    ⟨fun d s X w hd h hne => all_any c X w s (Ex.rec_ c.ts n) d n ih hd hm h hne,
     fun d s X w hd h hne => item_any c X w s (Ex.rec_ c.ts n) d ih hd h hne,
     fun d s X w hd h hne => or_any c X w s (Ex.rec_ c.ts n) d n ih hd h hne,
     fun d s X w hd h hne => and_any c X w s (Ex.rec_ c.ts n) d n ih hd h hne,
     fun d s X w hd h hne => test_any c X w s (Ex.rec_ c.ts n) d ih hd h hne,
     fun d s X w hd h hne => sum_any c X w s (Ex.rec_ c.ts n) d n ih hd h hne,
     fun d s X w hd h hne => times_any c X w s (Ex.rec_ c.ts n) d n ih hd h hne,
     fun d s X w hd h hne => unary_any c X w s (Ex.rec_ c.ts n) d n ih hd hm h hne⟩
end Go.Proofs.YtdkhkemllmegfaaGreatDoor


/- What is caught when the reading has ended by a panic. -/
namespace Go.Proofs.YtdkhkemllmegfaaGreatDoor
open Go.RowKit Tn Lx

theorem Tryz.isError (v : Value) (xT : TypeId) (w : World) : (Instr.typeAssert (.iface 85 v) xT 25 true).run Tryz.prog w = .ok (.tuple #[.iface 85 v, .bool true]) w := run_typeAssert_hasB Tryz.underlying25 (by kernel_rfl) v xT w

/-- nothing to catch -/
theorem catch_idle (p q : Addr) (w : World) : CallsD Tryz.prog 31 #[.pointer (some p), .pointer (some q)] .returning w fun e u' w' => e = .returned (.tuple #[]) ∧ u' = .returning ∧ w' = w := by
  refine callsD_of_wpS Tryz.func31 rfl fun c₀ cs hu => ?_
  apply wpS_seq
  apply wpS_region
  simp [wpOpsS, go_sem, recoverD, hu, Tryz.ntmps31, Exit.thenS]
  apply wpS_seq
  apply wpS_seq
  apply wpS_region
  simp [wpOpsS, go_sem, Exit.thenS]
  refine wpS_cond (t := true) (by simp [Act.eval, Array.replicate]) ?_
  simp only [if_true]
  refine wpS_of_wp (wp_ret ?_)
  cases c₀
  simp_all [bodyPostS, results, Tryz.results31, Exit.thenS]

/-- what is wrong is caught, and told -/
def CaughtP (b2 b3 : Nat) (cd : Int) (p : Pos) (older : List PanicEntry) (w : World) (e : Ending) (u' : FrameMode) (w' : World) : Prop :=
  e = .returned (.tuple #[]) ∧ u' = .panicking ({ v := dval cd p, recovered := true } :: older) ∧ w'.cell? ⟨b2, 0, none⟩ = some (.int .i64 0) ∧ w'.cell? ⟨b3, 0, none⟩ = some (dval cd p) ∧ But (fun k => k = b2 ∨ k = b3) w w'

set_option maxRecDepth 100000 in
set_option maxHeartbeats 4000000 in
theorem catch_panic (b2 b3 : Nat) (cd : Int) (p : Pos) (older : List PanicEntry) (x y : Value) (w : World) (h2 : w.heap[b2]? = some (.cells #[x] 3 (0, 0))) (h3 : w.heap[b3]? = some (.cells #[y] 25 (0, 0)))
    (hg : w.cell? ⟨0, 0, none⟩ = some (.iface 158 (.agg #[.pointer (some ⟨9, 25, none⟩)]))) :
    CallsD Tryz.prog 31 #[.pointer (some ⟨b2, 0, none⟩), .pointer (some ⟨b3, 0, none⟩)] (.panicking ({ v := dval cd p, recovered := false } :: older)) w (CaughtP b2 b3 cd p older w) := by
  have hie := Tryz.isError
  obtain ⟨V, hV⟩ : ∃ V, w.alloc (.cells #[.int .i64 0, .int .i64 0, .int .i64 0, .string ⟨#[]⟩] 85) = V := ⟨_, rfl⟩
  have hbV : Below w.heap.size w V := by rw [← hV]; exact (Below.refl _ w).alloc (Nat.le_refl _) _
  have hD : DiagAt w.heap.size V := by rw [← hV]; exact ⟨by simp [go_sem], by simp [go_sem], by simp [go_sem], by simp [go_sem], fun i => by simp [go_sem]⟩
  have hgV := (hbV.cell (p := ⟨0, 0, none⟩) (World.block_lt_of_cell? _ _ hg)).trans hg
  have l2 := lt_of_heap h2; have l3 := lt_of_heap h3
  have HV := Lib.hid hV; have HB := Lib.hid hbV; have HD := Lib.hid hD; have HG := Lib.hid hgV; have H2 := Lib.hid h2; have H3 := Lib.hid h3
  clear hV hbV hD hgV hg h2 h3
  unfold dval
  refine callsD_of_wpS Tryz.func31 rfl fun c₀ cs hu => ?_
  apply wpS_seq
  apply wpS_region
  simp [wpOpsS, go_sem, recoverD, hu, Tryz.ntmps31, Exit.thenS]
  refine wpS_of_wp ?_
  simp only [Array.replicate_succ, Array.replicate_zero, List.push_toArray, List.append_toArray, List.nil_append, List.cons_append, List.setIfInBounds_toArray, List.set_cons_zero, List.set_cons_succ]
  go_wp2_with fail
  rw [HV.out]
  refine (as_hit cd p.line p.col ⟨#[]⟩ w.heap.size _ _ _ _ V HG.out HD.out.d0 HD.out.d1 HD.out.d2 HD.out.d3 HD.out.df).mono ?_
  rintro e w2 ⟨rfl, hN, d0, d1, d2, d3⟩
  have hVl := HB.out.size
  have k2 : w2.heap[b2]? = some (.cells #[x] 3 (0, 0)) := ((hN.block b2 (by omega) (by omega)).trans (HB.out.block b2 l2)).trans H2.out
  have k3 : w2.heap[b3]? = some (.cells #[y] 25 (0, 0)) := ((hN.block b3 (by omega) (by omega)).trans (HB.out.block b3 l3)).trans H3.out
  have hne : b2 ≠ b3 := fun e => by subst e; rw [k2] at k3; injection k3 with k3; injection k3 with _ k3; exact absurd k3 (by decide)
  have hBut : But (fun k => k = b2 ∨ k = b3) w w2 := ⟨hN.os.trans HB.out.os, hN.tape.trans HB.out.tape, hN.output.trans HB.out.output, Nat.le_trans HB.out.size hN.size, fun k hk _ => (hN.block k (by omega) (by omega)).trans (HB.out.block k hk)⟩
  have c2 : w2.cell? ⟨b2, 0, none⟩ = some x := (blk_cell k2 0).trans rfl
  have c3 : w2.cell? ⟨b3, 0, none⟩ = some y := (blk_cell k3 0).trans rfl
  have f2 : w2.frozen? ⟨b2, 0, none⟩ = false := blk_frozen k2 0
  have f3 : w2.frozen? ⟨b3, 0, none⟩ = false := blk_frozen k3 0
  have g3 : (w2.setCell ⟨b2, 0, none⟩ (.int .i64 0)).cell? ⟨b3, 0, none⟩ = some y := (blk_cell ((blk_other (Ne.symm hne) _ _).trans k3) 0).trans rfl
  have g3f : (w2.setCell ⟨b2, 0, none⟩ (.int .i64 0)).frozen? ⟨b3, 0, none⟩ = false := blk_frozen ((blk_other (Ne.symm hne) _ _).trans k3) 0
  have z2 : ∀ v, ((w2.setCell ⟨b2, 0, none⟩ (.int .i64 0)).setCell ⟨b3, 0, none⟩ v).cell? ⟨b2, 0, none⟩ = some (.int .i64 0) := fun v => (blk_cell ((blk_other hne _ _).trans (blk_set k2 0 _)) 0).trans rfl
  have z3 : ∀ v, ((w2.setCell ⟨b2, 0, none⟩ (.int .i64 0)).setCell ⟨b3, 0, none⟩ v).cell? ⟨b3, 0, none⟩ = some v := fun v => (blk_cell (blk_set ((blk_other (Ne.symm hne) _ _).trans k3) 0 _) 0).trans rfl
  have zb : ∀ v, But (fun k => k = b2 ∨ k = b3) w ((w2.setCell ⟨b2, 0, none⟩ (.int .i64 0)).setCell ⟨b3, 0, none⟩ v) := fun v => (hBut.trans (But.setCell (p := fun k => k = b2 ∨ k = b3) w2 (.inl rfl) 0 _)).trans (But.setCell (p := fun k => k = b2 ∨ k = b3) _ (.inr rfl) 0 _)
  have Z2 := Lib.hid z2; have Z3 := Lib.hid z3; have ZB := Lib.hid zb
  clear hN k2 k3 hBut z2 z3 zb HV HB HD HG H2 H3
  go_wp2
  exact ⟨rfl, _, rfl, .tuple #[], by simp [results, Tryz.results31, go_sem], rfl, rfl, Z2.out _, Z3.out _, ZB.out _⟩
end Go.Proofs.YtdkhkemllmegfaaGreatDoor


/- An expression: its number, or what is wrong first. -/
namespace Go.Proofs.YtdkhkemllmegfaaGreatDoor
open Go.RowKit Tn Lx

/-- the number, and no error; or what is wrong -/
def ExprP (c : Cx) (X : Nat → Prop) (w : World) (R : Ex.Res Nat) (e : Ending) (w' : World) : Prop :=
  (∃ i s, R = .ok i s ∧ e = .returned (.tuple #[.int .i64 (i : Int), .nilIface]) ∧ Rd c X w' s ∧ Kp c w w') ∨ (∃ cd p, R = .bad cd p ∧ e = .returned (.tuple #[.int .i64 0, dval cd p]) ∧ Kp c w w')

set_option maxRecDepth 100000 in
set_option maxHeartbeats 4000000 in
theorem expr_any (c : Cx) (X : Nat → Prop) (w : World) (s : Ex.S) (n : Nat) (hn : n ≤ 900000) (h : Rd c X w s) (hg : w.cell? ⟨0, 0, none⟩ = some (.iface 158 (.agg #[.pointer (some ⟨9, 25, none⟩)]))) (hG : 0 < c.r ∧ 0 < c.bt ∧ 0 < c.B)
    (hne : Ex.rec_ c.ts n .all 0 s ≠ .out) : Calls Tryz.prog 13 #[.pointer (some ⟨c.r, 0, none⟩)] w (ExprP c X w (Ex.rec_ c.ts n .all 0 s)) := by
  have hmf : ∀ (fn : Fn) (first cap : Array Value) (w : World), (Instr.makeFunc fn first cap).run Tryz.prog w = .ok (.func fn first cap) w := fun _ _ _ _ => rfl
  obtain ⟨V, hV⟩ : ∃ V, (w.alloc (.cells #[.int .i64 0] 3)).alloc (.cells #[.nilIface] 25) = V := ⟨_, rfl⟩
  have hbV : Below w.heap.size w V := by rw [← hV]; exact ((Below.refl _ w).alloc (Nat.le_refl _) _).alloc (by simp) _
  have hVs : V.heap.size = w.heap.size + 2 := by rw [← hV]; simp
  have k2 : V.heap[w.heap.size]? = some (.cells #[.int .i64 0] 3 (0, 0)) := by rw [← hV]; exact blk_alloc (blk_new w _) _
  have k3 : V.heap[w.heap.size + 1]? = some (.cells #[.nilIface] 25 (0, 0)) := by
    rw [← hV]; have := blk_new (w.alloc (.cells #[.int .i64 0] 3)) (.cells #[.nilIface] 25); rwa [World.size_alloc] at this
  have hgV := (hbV.cell (p := ⟨0, 0, none⟩) (World.block_lt_of_cell? _ _ hg)).trans hg
  have hglt := World.block_lt_of_cell? _ _ hg
  have hR1 : Rd c (fun k => X k ∨ k = w.heap.size) V s := h.more hbV _ (fun k hk => by
    rcases hk with hk | hk
    · exact .inl hk
    · exact .inr (by omega))
  have hr1 := h.rlt; have hb1 := h.blt; have hsz := h.size
  have hA := (spec_rec c n hn).all 0 s _ V (by omega) hR1 hne
  generalize Ex.rec_ c.ts n .all 0 s = R at *
  have HV := Lib.hid hV; have HB := Lib.hid hbV; have K2 := Lib.hid k2; have K3 := Lib.hid k3; have HGV := Lib.hid hgV; have HA := Lib.hid hA; have HVS := Lib.hid hVs
  clear hV hbV k2 k3 hgV hA hR1 h hg hne hVs
  go_enter_defers Tryz.func13, Tryz.ntmps13
  go_wp2_with fail
  rw [HV.out]
  refine HA.out.mono ?_
  rintro e w1 (⟨a1, s1, hE1, rfl, hR1, hK1⟩ | ⟨cd, p1, hE1, rfl, hK1⟩)
  · have k2 := hK1.heap K2.out (by omega) (by omega) (fun e => absurd e (by decide))
    have k3 := hK1.heap K3.out (by omega) (by omega) (fun e => absurd e (by decide))
    have hRF : Rd c X ((w1.setCell ⟨w.heap.size, 0, none⟩ (.int .i64 (a1 : Int))).setCell ⟨w.heap.size + 1, 0, none⟩ .nilIface) s1 :=
      ((hR1.but (But.setCell (p := fun k => k = w.heap.size) w1 rfl 0 _) (fun e => by omega) (fun e => by omega) (fun e => by have := hR1.glt; omega) (fun k e => .inl (.inr e))).but (But.setCell (p := fun k => k = w.heap.size + 1) _ rfl 0 _) (fun e => by omega) (fun e => by omega) (fun e => by have := hR1.glt; omega) (fun k e => .inr (by subst e; exact ⟨_, _, _, (blk_other (by omega) _ _).trans k3, by decide, by decide⟩))).less (fun k hk => .inl hk)
    have hKF : Kp c w ((w1.setCell ⟨w.heap.size, 0, none⟩ (.int .i64 (a1 : Int))).setCell ⟨w.heap.size + 1, 0, none⟩ .nilIface) :=
      ((Below.then_kp HB.out hK1).new (But.setCell (p := fun k => k = w.heap.size) w1 rfl 0 _) (fun k e => by omega)).new (But.setCell (p := fun k => k = w.heap.size + 1) _ rfl 0 _) (fun k e => by omega)
    have z2 : ((w1.setCell ⟨w.heap.size, 0, none⟩ (.int .i64 (a1 : Int))).setCell ⟨w.heap.size + 1, 0, none⟩ .nilIface).cell? ⟨w.heap.size, 0, none⟩ = some (.int .i64 (a1 : Int)) := (blk_cell ((blk_other (by omega) _ _).trans (blk_set k2 0 _)) 0).trans rfl
    have z3 : ((w1.setCell ⟨w.heap.size, 0, none⟩ (.int .i64 (a1 : Int))).setCell ⟨w.heap.size + 1, 0, none⟩ .nilIface).cell? ⟨w.heap.size + 1, 0, none⟩ = some .nilIface := (blk_cell (blk_set ((blk_other (by omega) _ _).trans k3) 0 _) 0).trans rfl
    have c2 : w1.cell? ⟨w.heap.size, 0, none⟩ = some (.int .i64 0) := (blk_cell k2 0).trans rfl
    have f2 : w1.frozen? ⟨w.heap.size, 0, none⟩ = false := blk_frozen k2 0
    have c3 : (w1.setCell ⟨w.heap.size, 0, none⟩ (.int .i64 (a1 : Int))).cell? ⟨w.heap.size + 1, 0, none⟩ = some .nilIface := (blk_cell ((blk_other (by omega) _ _).trans k3) 0).trans rfl
    have f3 : (w1.setCell ⟨w.heap.size, 0, none⟩ (.int .i64 (a1 : Int))).frozen? ⟨w.heap.size + 1, 0, none⟩ = false := blk_frozen ((blk_other (by omega) _ _).trans k3) 0
    have HRF := Lib.hid hRF; have HKF := Lib.hid hKF; have Z2 := Lib.hid z2; have Z3 := Lib.hid z3; have HE1 := Lib.hid hE1
    clear hRF hKF z2 z3 hE1 hR1 hK1 k2 k3 HA HV HB K2 K3 HGV
    go_wp2
    refine leaves_cons (f := 31) (args := #[.pointer (some ⟨w.heap.size, 0, none⟩), .pointer (some ⟨w.heap.size + 1, 0, none⟩)]) (by simp) (by simp [go_sem]) ?_
    refine (catch_idle ⟨w.heap.size, 0, none⟩ ⟨w.heap.size + 1, 0, none⟩ _).mono ?_
    rintro e u' w2 ⟨rfl, rfl, rfl⟩
    refine ⟨.tuple #[.int .i64 (a1 : Int), .nilIface], by simp [results, Tryz.results13, go_sem, Z2.out, Z3.out], ?_⟩
    exact .inl ⟨a1, s1, HE1.out, rfl, HRF.out, HKF.out⟩
  · have k2 := hK1.heap K2.out (by omega) (by omega) (fun e => absurd e (by decide))
    have k3 := hK1.heap K3.out (by omega) (by omega) (fun e => absurd e (by decide))
    have hg1 : w1.cell? ⟨0, 0, none⟩ = some (.iface 158 (.agg #[.pointer (some ⟨9, 25, none⟩)])) := (World.cell?_of_block (hK1.old (k := 0) (by have := HVS.out; omega) hG.2.2 (by omega) (by omega))).trans HGV.out
    refine leaves_cons (f := 31) (args := #[.pointer (some ⟨w.heap.size, 0, none⟩), .pointer (some ⟨w.heap.size + 1, 0, none⟩)]) (by simp) (by simp [go_sem]) ?_
    refine (catch_panic w.heap.size (w.heap.size + 1) cd p1 [] _ _ w1 k2 k3 hg1).mono ?_
    rintro e u' w2 ⟨rfl, rfl, c2, c3, hB2⟩
    have hKF : Kp c w w2 := (Below.then_kp HB.out hK1).new hB2 (fun k e => by omega)
    refine ⟨.tuple #[.int .i64 0, dval cd p1], by simp [results, Tryz.results13, go_sem, c2, c3], ?_⟩
    exact .inr ⟨cd, p1, hE1, rfl, hKF⟩
end Go.Proofs.YtdkhkemllmegfaaGreatDoor
