/- The marks of a sequence, from behind. -/
import Derived.Test.YtdkhkemllmegfaaGreatDoorRangeP
import Derived.Test.YtdkhkemllmegfaaGreatDoorArgs
import Derived.Test.YtdkhkemllmegfaaGreatDoorWalk3
namespace Go.Proofs.YtdkhkemllmegfaaGreatDoor
open Go.RowKit Go.Shelf Tn Lx
attribute [local go_sem] Oper.semAt_some

def posCells (ps : List Pos) : List Value := ps.flatMap fun p => [.int .i64 p.line, .int .i64 p.col]
theorem posCells_snoc (ps : List Pos) (p : Pos) : posCells (ps ++ [p]) = posCells ps ++ [.int .i64 p.line, .int .i64 p.col] := by simp [posCells]
theorem posCells_get {ps : List Pos} {k : Nat} {p : Pos} (h : ps[k]? = some p) : (posCells ps)[k * 2]? = some (.int .i64 p.line) ∧ (posCells ps)[k * 2 + 1]? = some (.int .i64 p.col) := by
  induction ps generalizing k with
  | nil => simp at h
  | cons q r ih =>
    have e : posCells (q :: r) = [.int .i64 q.line, .int .i64 q.col] ++ posCells r := rfl
    cases k with
    | zero => simp at h; subst h; exact ⟨rfl, rfl⟩
    | succ k =>
      rw [e, List.getElem?_append_right (by simp; omega), List.getElem?_append_right (by simp; omega)]
      have e1 : (k + 1) * 2 - [Value.int .i64 q.line, Value.int .i64 q.col].length = k * 2 := by simp; omega
      have e2 : (k + 1) * 2 + 1 - [Value.int .i64 q.line, Value.int .i64 q.col].length = k * 2 + 1 := by simp; omega
      rw [e1, e2]; exact ih (by simpa using h)

/-- these places lie there, in a row of places -/
def MarksAt (W : World) (ao : Option Addr) (ps : List Pos) : Prop := ∀ k p, ps[k]? = some p → ∃ g cur, ao = some ⟨g, 0, none⟩ ∧ W.heap[g]? = some (.cells cur 37 (0, 0)) ∧ cur[k * 2]? = some (.int .i64 p.line) ∧ cur[k * 2 + 1]? = some (.int .i64 p.col)

theorem own_marks {w : World} {base : Nat} {ao : Option Addr} {n c : Nat} {ps : List Pos} (h : w.ownsRow base 37 2 (.slice ao n c) n (posCells ps)) : MarksAt w ao ps := by
  intro k p hk
  obtain ⟨h1, h2⟩ := posCells_get hk
  rcases h.2 with ⟨e, h0⟩ | ⟨g', cap, cur, hv, _, hg, _, _, hs, ht⟩
  · have hl := h.1
    simp only [h0, Nat.zero_mul] at hl
    rw [List.eq_nil_of_length_eq_zero hl] at h1; simp at h1
  · cases hv
    refine ⟨g', cur, rfl, hg, ?_, ?_⟩
    · rw [← ht, List.getElem?_take] at h1
      split at h1
      · simpa using h1
      · cases h1
    · rw [← ht, List.getElem?_take] at h2
      split at h2
      · simpa using h2
      · cases h2

theorem backward_pos (ao : Option Addr) (n c : Nat) (w : World) : Calls Tryz.prog 62 #[.slice ao n c] w fun e w' => e = .returned (.func (.func 93) #[] #[.pointer (some ⟨w.heap.size, 0, none⟩)]) ∧ w' = w.alloc (.cells #[.slice ao n c] 140) := by
  go_enter Tryz.func62, Tryz.ntmps62
  go_wp2
  go_ret
  exact ⟨rfl, rfl⟩

def encP (x : Nat × Pos) : Array Value := #[.int .i64 (x.1 : Int), .agg #[.int .i64 x.2.line, .int .i64 x.2.col]]
/-- what comes: from behind -/
structure ComesP (ps : List Pos) (pre : List (Nat × Pos)) (x : Nat × Pos) : Prop where
  at_ : pre.length + x.1 + 1 = ps.length
  val : ps[x.1]? = some x.2

set_option maxRecDepth 100000 in
set_option maxHeartbeats 2000000 in
theorem back1P (ps : List Pos) (n l N B : Nat) (M : Nat → TypeId → Prop) (ao : Option Addr) (cap : Nat) (W : World) (hn : ps.length = n) (hn2 : n ≤ 1000000) (hm : MarksAt W ao ps) (hM : ∀ g cur, W.heap[g]? = some (.cells cur 37 (0, 0)) → ¬ M g 37) (hc : W.heap[B]? = some (.cells #[.slice ao n cap] 140 (0, 0))) (hB : ¬ M B 140) :
    IteratesP Tryz.prog 93 #[.pointer (some ⟨B, 0, none⟩)] l encP (fun _ pre x _ => ComesP ps pre x) N M (fun xs => xs.length = n) (fun _ => True) W := by
  intro J Jx Jp hJ hJx hY h0
  have HY := Lib.hid hY; have H0 := Lib.hid h0; have HM := Lib.hid hm; have HC := Lib.hid hc; have HN := Lib.hid hn; have HMM := Lib.hid hM
  have c0 : W.cell? ⟨B, 0, none⟩ = some (.slice ao n cap) := (blk_cell hc 0).trans rfl
  clear hJ hJx hY h0 hm hc hn hM
  refine callsIn_of_wp Tryz.func93 rfl trivial ?_ rfl
  simp only [Tryz.ntmps93, List.size_toArray, List.length_cons, List.length_nil, Nat.reduceAdd, Nat.reduceSub, Array.replicate_succ, Array.replicate_zero, List.push_toArray, List.append_toArray, List.nil_append, List.cons_append]
  gi_wp2
  gi_loopw [3] (fun i wr => ∃ (pre : List (Nat × Pos)) (k : Nat), pre.length + k = n ∧ i = .int .i64 ((k : Int) - 1) ∧ J pre wr ∧ KeptW N M W wr) (fun i _ => (intOf i + 1).toNat)
  case atStart => exact ⟨[], n, by simp, rfl, H0.out, KeptW.refl _ _ _⟩
  case round =>
    obtain ⟨pre, k, hk, rfl, hj, hkp⟩ := hrel
    have HJ := Lib.hid hj; have HKP := Lib.hid hkp; have HK := Lib.hid hk
    have hb := hkp.same B _ _ _ hB HC.out
    have d0 : wr.cell? ⟨B, 0, none⟩ = some (.slice ao n cap) := (blk_cell hb 0).trans rfl
    cases k with
    | zero =>
      clear hj hkp hk hb
      gi_wp2
      go_end0
      exact .inl ⟨⟨_, rfl⟩, .inl ⟨pre, by have := HK.out; omega, HJ.out⟩⟩
    | succ k =>
      have hkn : k < n := by omega
      obtain ⟨p, hp⟩ : ∃ p, ps[k]? = some p := ⟨_, List.getElem?_eq_getElem (by rw [HN.out]; exact hkn)⟩
      obtain ⟨g, cur, rfl, hg, h1, h2⟩ := HM.out k p hp
      have hg' := hkp.same g _ _ _ (HMM.out g cur hg) hg
      have c1 : wr.cell? ⟨g, k * 2, none⟩ = some (.int .i64 p.line) := (blk_cell hg' _).trans h1
      have c2 : wr.cell? ⟨g, k * 2 + 1, none⟩ = some (.int .i64 p.col) := (blk_cell hg' _).trans h2
      obtain ⟨fn, tmps, assign, body, hy, hR⟩ := HY.out pre (k, p) wr wr hj (Below.refl _ _) ⟨by simp only; rw [HN.out]; omega, hp⟩
      have HR := Lib.hid hR
      have ek : ((k + 1 : Nat) : Int) - 1 = (k : Int) := by omega
      rw [ek]
      have hk' : (k : Int) < (n : Int) := by omega
      have hk2 : k ≤ 1000000 := by omega
      simp only [encP] at hy
      clear hj hkp hk hb hR ek hg hg' h1 h2 hp
      gi_wp2_with fail
      refine ⟨rfl, HR.out.mono ?_⟩
      clear hy
      rintro e W3 (⟨rfl, hj3, hk3, _⟩ | ⟨rfl, hx3, _⟩ | ⟨ch, rfl, hp3⟩)
      · have HJ3 := Lib.hid hj3; have HK3 := Lib.hid hk3
        clear hj3 hk3 c0 c1 c2 d0
        gi_wp2
        go_roundw
        case rel => exact ⟨pre ++ [(k, p)], k, by have := HK.out; simp; omega, by first | rfl | (congr 1), HJ3.out, HKP.out.trans HK3.out⟩
        case measure => simp [intOf]
      · have HX3 := Lib.hid hx3
        clear hx3 c0 c1 c2 d0
        gi_wp2
        refine bodyPost_ret (results_none rfl _ _ _) rfl ?_
        exact .inl ⟨⟨_, rfl⟩, .inr ⟨_, trivial, HX3.out⟩⟩
      · exact ⟨rfl, .inr ⟨ch, rfl, hp3⟩⟩
end Go.Proofs.YtdkhkemllmegfaaGreatDoor
