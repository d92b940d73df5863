/- The iterators: Each, once, slices.Backward. -/
import Derived.Test.YtdflonniicnndaaVisit
namespace Go.Proofs.Ytdflonniicnndaa
open Go.RowKit Go.Shelf Tn

attribute [local go_sem] Oper.semAt_some

structure EachP (w : World) (bt : Nat) (at_ : Int) (there : Bool) (e : Ending) (w' : World) : Prop where
  val : e = .returned (.func (.func 21) #[] #[.pointer (some ⟨w.heap.size + 2, 0, none⟩), .pointer (some ⟨w.heap.size, 0, none⟩), .pointer (some ⟨w.heap.size + 1, 0, none⟩)])
  c0 : w'.cell? ⟨w.heap.size, 0, none⟩ = some (.pointer (some ⟨bt, 0, none⟩))
  c1 : w'.cell? ⟨w.heap.size + 1, 0, none⟩ = some (.int .i64 at_)
  c2 : w'.cell? ⟨w.heap.size + 2, 0, none⟩ = some (.bool there)
  below : Below w.heap.size w w'

set_option maxHeartbeats 1000000 in
theorem each_any (bt : Nat) (ao : Option Addr) (len cap : Nat) (i : Int) (w : World) (hc : w.cell? ⟨bt, 0, none⟩ = some (.slice ao len cap)) :
    Calls Try.prog 9 #[.pointer (some ⟨bt, 0, none⟩), .int .i64 i] w (EachP w bt i (decide (0 ≤ i) && decide (i < (len : Int)))) := by
  obtain ⟨W, hW⟩ : ∃ W, (w.alloc (.cells #[.pointer (some ⟨bt, 0, none⟩)] 26)).alloc (.cells #[.int .i64 i] 3) = W := ⟨_, rfl⟩
  have hb : Below w.heap.size w W := by rw [← hW]; exact ((Below.refl _ w).alloc (Nat.le_refl _) _).alloc (by simp) _
  have hcW : W.cell? ⟨bt, 0, none⟩ = some (.slice ao len cap) := (hb.cell (p := ⟨bt, 0, none⟩) (World.block_lt_of_cell? _ _ hc)).trans hc
  have hs : W.heap.size = w.heap.size + 2 := by rw [← hW]; simp
  have e0 : W.heap[w.heap.size]? = some (.cells #[.pointer (some ⟨bt, 0, none⟩)] 26 (0, 0)) := by rw [← hW]; exact blk_alloc (blk_new w _) _
  have e1 : W.heap[w.heap.size + 1]? = some (.cells #[.int .i64 i] 3 (0, 0)) := by
    rw [← hW]; have := blk_new (w.alloc (.cells #[.pointer (some ⟨bt, 0, none⟩)] 26)) (.cells #[.int .i64 i] 3); rwa [World.size_alloc] at this
  have HW := Lib.hid hW; have HC := Lib.hid hcW; have HS := Lib.hid hs; have E0 := Lib.hid e0; have E1 := Lib.hid e1
  clear hW hcW hs e0 e1 hc
  go_enter Try.func9, Try.ntmps9
  go_wp2_with fail
  rw [HW.out]
  refine (has_any bt ao len cap i W HC.out).mono ?_
  rintro e w' ⟨rfl, rfl⟩
  generalize hq : (decide (0 ≤ i) && decide (i < (len : Int))) = q
  have HQ := Lib.hid hq; clear hq
  go_wp2
  go_ret
  have e2 : (W.alloc (.cells #[.bool q] 4)).heap[w.heap.size + 2]? = some (.cells #[.bool q] 4 (0, 0)) := by rw [← HS.out]; exact blk_new W _
  refine ⟨?_, (blk_cell (blk_alloc E0.out _) 0).trans rfl, (blk_cell (blk_alloc E1.out _) 0).trans rfl, (blk_cell e2 0).trans (by rw [HQ.out]; rfl), hb.alloc hb.size _⟩
  have := HS.out
  simp [this]

structure OnceP (w : World) (bt : Nat) (at_ : Int) (e : Ending) (w' : World) : Prop where
  val : e = .returned (.func (.func 29) #[] #[.pointer (some ⟨w.heap.size + 1, 0, none⟩), .pointer (some ⟨w.heap.size, 0, none⟩)])
  b0 : w'.heap[w.heap.size]? = some (.cells #[.pointer (some ⟨bt, 0, none⟩)] 26 (0, 0))
  b1 : w'.heap[w.heap.size + 1]? = some (.cells #[.int .i64 at_] 3 (0, 0))
  below : Below w.heap.size w w'

theorem once_any (bt : Nat) (i : Int) (w : World) : Calls Try.prog 28 #[.pointer (some ⟨bt, 0, none⟩), .int .i64 i] w (OnceP w bt i) := by
  go_enter Try.func28, Try.ntmps28
  go_wp2
  go_ret
  refine ⟨rfl, blk_alloc (blk_new w _) _, ?_, ((Below.refl _ w).alloc (Nat.le_refl _) _).alloc (by simp) _⟩
  have := blk_new (w.alloc (.cells #[.pointer (some ⟨bt, 0, none⟩)] 26)) (.cells #[.int .i64 i] 3); rwa [World.size_alloc] at this

theorem backward_any (v : Value) (ao : Option Addr) (n c : Nat) (hv : v = .slice ao n c) (w : World) : Calls Try.prog 30 #[v] w fun e w' => e = .returned (.func (.func 31) #[] #[.pointer (some ⟨w.heap.size, 0, none⟩)]) ∧ w' = w.alloc (.cells #[v] 22) := by
  subst hv
  go_enter Try.func30, Try.ntmps30
  go_wp2
  go_ret
  exact ⟨rfl, rfl⟩

/-- no such expression: nothing comes -/
theorem each1_no (ms : List Nd) (full : List Nat) (l N : Nat) (B2 B0 B1 : Nat) (W : World) (hc : W.cell? ⟨B2, 0, none⟩ = some (.bool false)) :
    Iterates Try.prog 21 #[.pointer (some ⟨B2, 0, none⟩), .pointer (some ⟨B0, 0, none⟩), .pointer (some ⟨B1, 0, none⟩)] l enc2 (Comes ms full) N NoNode (fun xs => xs = []) (fun _ => False) W := by
  intro J Jx _ _ _ h0
  have H0 := Lib.hid h0; clear h0
  refine callsIn_of_wp Try.func21 rfl trivial ?_ rfl
  simp only [Try.ntmps21, List.size_toArray, List.length_cons, List.length_nil, Nat.reduceAdd, Nat.reduceSub, Array.replicate_succ, Array.replicate_zero, List.push_toArray, List.append_toArray, List.nil_append, List.cons_append]
  gi_wp2
  go_end0
  exact ⟨⟨_, rfl⟩, .inl ⟨[], rfl, H0.out⟩⟩

theorem each1_yes (ms : List Nd) (i : Nat) (l N bt : Nat) (ao : Option Addr) (cap : Nat) (B2 B0 B1 : Nat) (W : World) (hw : WF ms) (hf : ∀ i, i < ms.length → (nd ms i).kids.length ≤ 2000) (hi : i < ms.length) (ht : TreeAt N W bt ao cap ms) (hN : N ≤ W.heap.size)
    (c0 : W.cell? ⟨B0, 0, none⟩ = some (.pointer (some ⟨bt, 0, none⟩))) (c1 : W.cell? ⟨B1, 0, none⟩ = some (.int .i64 (i : Int))) (c2 : W.cell? ⟨B2, 0, none⟩ = some (.bool true)) :
    Iterates Try.prog 21 #[.pointer (some ⟨B2, 0, none⟩), .pointer (some ⟨B0, 0, none⟩), .pointer (some ⟨B1, 0, none⟩)] l enc2 (Comes ms (Pl ms i)) N NoNode (fun xs => xs.map (·.1) = Pl ms i) (fun pre => pre.map (·.1) <+: Pl ms i) W := by
  intro J Jx hJ hJx hY h0
  have hv := visit_in l N bt ao cap ms (Pl ms i) J Jx hw hf (fun pre x W0 W1 h hb hg => (hY pre x W0 W1 h hb hg).mono fun e W' he => he.elim (fun q => .inl ⟨q.1, q.2.1, q.2.2.1⟩) (fun q => .inr ⟨q.1, q.2.1⟩)) i hi [] W ht hN h0 (List.prefix_refl _)
  have HV := Lib.hid hv
  clear hw hf ht hJ hJx hY h0 hv
  refine callsIn_of_wp Try.func21 rfl trivial ?_ rfl
  simp only [Try.ntmps21, List.size_toArray, List.length_cons, List.length_nil, Nat.reduceAdd, Nat.reduceSub, Array.replicate_succ, Array.replicate_zero, List.push_toArray, List.append_toArray, List.nil_append, List.cons_append]
  gi_wp2_with fail
  refine ⟨trivial, rfl, HV.out.mono ?_⟩
  rintro e W1 (⟨rfl, xs, hxs, hj, _⟩ | ⟨rfl, xs, hxs, hx⟩)
  · have HX := Lib.hid hxs; have HJ := Lib.hid hj
    clear hxs hj
    gi_wp2
    go_end0
    exact ⟨⟨_, rfl⟩, .inl ⟨xs, HX.out, HJ.out⟩⟩
  · have HX := Lib.hid hxs; have HJ := Lib.hid hx
    clear hxs hx
    gi_wp2
    go_end0
    exact ⟨⟨_, rfl⟩, .inr ⟨xs, HX.out, HJ.out⟩⟩

/-- from behind -/
structure ComesB (N : Nat) (ms : List Nd) (n : Nat) (pre : List (Nat × Value)) (x : Nat × Value) (W : World) : Prop where
  at_ : pre.length + x.1 + 1 = n
  val : ∃ ka kc, x.2 = nval (nd ms x.1) ka kc ∧ IntsAt N W ka (nd ms x.1).kids

set_option maxRecDepth 100000 in
set_option maxHeartbeats 2000000 in
theorem back1 (ms : List Nd) (n : Nat) (l N Bo B : Nat) (ao : Option Addr) (cap : Nat) (W : World) (hn : n ≤ ms.length) (hn2 : n ≤ 1000000) (hm : NodesAt N W ao ms) (hc : W.heap[B]? = some (.cells #[.slice ao n cap] 22 (0, 0))) (hne : B ≠ Bo) :
    Iterates Try.prog 31 #[.pointer (some ⟨B, 0, none⟩)] l enc2 (fun _ => ComesB N ms n) N (fun b _ => b = Bo) (fun xs => xs.length = n) (fun _ => True) W := by
  intro J Jx hJ hJx hY h0
  have HY := Lib.hid hY; have H0 := Lib.hid h0; have HM := Lib.hid hm; have HC := Lib.hid hc
  have c0 : W.cell? ⟨B, 0, none⟩ = some (.slice ao n cap) := (blk_cell hc 0).trans rfl
  clear hJ hJx hY h0 hm hc
  refine callsIn_of_wp Try.func31 rfl trivial ?_ rfl
  simp only [Try.ntmps31, List.size_toArray, List.length_cons, List.length_nil, Nat.reduceAdd, Nat.reduceSub, Array.replicate_succ, Array.replicate_zero, List.push_toArray, List.append_toArray, List.nil_append, List.cons_append]
  gi_wp2
  gi_loopw [3] (fun i wr => ∃ (pre : List (Nat × Value)) (k : Nat), pre.length + k = n ∧ i = .int .i64 ((k : Int) - 1) ∧ J pre wr ∧ Kept N (fun b _ => b = Bo) W wr) (fun i _ => (intOf i + 1).toNat)
  case atStart => exact ⟨[], n, by simp, rfl, H0.out, Kept.refl _ _ _⟩
  case round =>
    obtain ⟨pre, k, hk, rfl, hj, hkp⟩ := hrel
    have HJ := Lib.hid hj; have HKP := Lib.hid hkp; have HK := Lib.hid hk
    have hb := hkp.same B _ _ _ hne HC.out
    have d0 : wr.cell? ⟨B, 0, none⟩ = some (.slice ao n cap) := (blk_cell hb 0).trans rfl
    cases k with
    | zero =>
      clear hj hkp hk hb
      gi_wp2
      go_end0
      exact ⟨⟨_, rfl⟩, .inl ⟨pre, by have := HK.out; omega, HJ.out⟩⟩
    | succ k =>
      have hkn : k < n := by omega
      obtain ⟨b, o, ka, kc, rfl, hnd⟩ := (HM.out.below hkp.below) k (by omega)
      have c0 := hnd.c0; have c1 := hnd.c1; have c2 := hnd.c2; have c3 := hnd.c3; have c4 := hnd.c4; have c5 := hnd.c5
      obtain ⟨fn, tmps, assign, body, hy, hR⟩ := HY.out pre (k, nval (nd ms k) ka kc) wr wr hj (Below.refl _ _) ⟨by simp only; omega, ka, kc, rfl, hnd.kids⟩
      have HR := Lib.hid hR
      have ek : ((k + 1 : Nat) : Int) - 1 = (k : Int) := by omega
      rw [ek]
      have hk' : (k : Int) < (n : Int) := by omega
      have hk2 : k ≤ 1000000 := by omega
      simp only [enc2, nval] at hy
      clear hj hkp hk hb hR hnd ek
      gi_wp2_with fail
      refine ⟨rfl, HR.out.mono ?_⟩
      clear hy
      rintro e W3 (⟨rfl, hj3, hk3, _⟩ | ⟨rfl, hx3, _⟩)
      · have HJ3 := Lib.hid hj3; have HK3 := Lib.hid hk3
        clear hj3 hk3 c0 c1 c2 c3 c4 c5 d0
        gi_wp2
        go_roundw
        case rel => exact ⟨pre ++ [(k, nval (nd ms k) ka kc)], k, by have := HK.out; simp; omega, by first | rfl | (congr 1), HJ3.out, HKP.out.trans HK3.out⟩
        case measure => simp [intOf]
      · have HX3 := Lib.hid hx3
        clear hx3 c0 c1 c2 c3 c4 c5 d0
        gi_wp2
        refine bodyPost_ret (results_none rfl _ _ _) rfl ?_
        exact ⟨⟨_, rfl⟩, .inr ⟨_, trivial, HX3.out⟩⟩
end Go.Proofs.Ytdflonniicnndaa
