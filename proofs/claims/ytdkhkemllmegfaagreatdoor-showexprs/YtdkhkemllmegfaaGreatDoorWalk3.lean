import Derived.Test.YtdkhkemllmegfaaGreatDoorTAdd
import Derived.Test.YtdkhkemllmegfaaGreatDoorTKept
import Derived.Shelf.Abstract
import Derived.Shelf.RegionOpen
import Derived.OwnWalkIn
import Derived.TacticsInMore
import Derived.LoopNIn
import Derived.LoopIn
import Derived.Test.YtdkhkemllmegfaaGreatDoorTInRound
import Derived.Deep.OwnRows
import Derived.Sort.CutIn

/- The walk through an expression's nodes: visit, Each. -/
namespace Go.Proofs.YtdkhkemllmegfaaGreatDoor
open Go.RowKit Go.Shelf Tn

attribute [local go_sem] Oper.semAt_some

/-- a node, and its number, as they are handed to a body -/
def enc2 (x : Nat × Value) : Array Value := #[.int .i64 (x.1 : Int), x.2]

/-- what a body may take for granted of what comes -/
structure Comes (ms : List Nd) (full : List Nat) (W0 : World) (pre : List (Nat × Value)) (x : Nat × Value) (W : World) : Prop where
  lt : x.1 < ms.length
  val : ∃ ka kc, x.2 = nval (nd ms x.1) ka kc ∧ IntsAt W.heap.size W ka (nd ms x.1).kids ∧ ∀ a, ka = some a → W0.heap.size ≤ a.block
  order : (pre.map (·.1) ++ [x.1]) <+: full

/-- a body leaves nodes alone -/
abbrev NoNode : Nat → TypeId → Prop := fun _ t => t ≠ 40

def VisitP (N : Nat) (l : List Nat) (J Jx : List (Nat × Value) → World → Prop) (pre : List (Nat × Value)) (W : World) (e : Ending) (W' : World) : Prop :=
  (e = .returned (.bool true) ∧ ∃ xs : List (Nat × Value), xs.map (·.1) = l ∧ J (pre ++ xs) W' ∧ Kept N NoNode W W') ∨
  (e = .returned (.bool false) ∧ ∃ xs : List (Nat × Value), xs.map (·.1) <+: l ∧ Jx (pre ++ xs) W')

theorem partPl_pre (ms : List Nd) (ks : List Int) (j : Nat) : partPl ms ks j <+: partPl ms ks ks.length := by
  refine ⟨(ks.drop j).flatMap fun k => Pl ms k.toNat, ?_⟩
  simp only [partPl, List.take_length]
  rw [← List.flatMap_append, List.take_append_drop]

theorem Six.kept {N : Nat} {W W' : World} {b : Nat} {v0 v1 v2 v3 v4 v5 : Value} (h : Six W b 40 v0 v1 v2 v3 v4 v5) (k : Kept N NoNode W W') : Six W' b 40 v0 v1 v2 v3 v4 v5 := ⟨k.same b _ 40 _ (fun e => e rfl) h.blk⟩

theorem own_from {w : World} {base : Nat} {t : TypeId} {z : Nat} {a : Addr} {n c : Nat} {xs : List Value} (h : w.ownsRow base t z (.slice (some a) n c) n xs) : base ≤ a.block := by
  rcases h.2 with ⟨e, _⟩ | ⟨g, cap, cur, e, hb, _⟩
  · cases e
  · cases e; exact hb

set_option maxRecDepth 100000 in
set_option maxHeartbeats 4000000 in
theorem visit_in (l N bt : Nat) (ao : Option Addr) (cap : Nat) (ms : List Nd) (full : List Nat) (J Jx : List (Nat × Value) → World → Prop)
    (hw : WF ms) (hf : ∀ i, i < ms.length → (nd ms i).kids.length ≤ 999000)
    (hY : ∀ pre x W0 W1, J pre W0 → Below W0.heap.size W0 W1 → Comes ms full W0 pre x W1 → YieldAt Fence.wide 0 Tryz.prog l (enc2 x) W1 fun e W' => (e = .returned (.bool true) ∧ J (pre ++ [x]) W' ∧ Kept N NoNode W1 W') ∨ (e = .returned (.bool false) ∧ Jx (pre ++ [x]) W'))
    (i : Nat) : i < ms.length → ∀ (pre : List (Nat × Value)) (W : World), TreeAt N W bt ao cap ms → N ≤ W.heap.size → J pre W → (pre.map (·.1) ++ Pl ms i) <+: full →
      CallsIn Fence.wide 0 Tryz.prog 65 #[.pointer (some ⟨bt, 0, none⟩), .int .i64 (i : Int), .func (.yield l) #[] #[]] W (VisitP N (Pl ms i) J Jx pre W) := by
  have HW := Lib.hid hw; have HF := Lib.hid hf; have HY := Lib.hid hY
  have hdd : ∀ k : Nat, (Fence.wide.depth.isSome = true → 1 ≤ k) := fun k h => by cases h
  clear hw hf hY
  induction i using Nat.strongRecOn with
  | _ i ih =>
    intro hi pre W ht hN hj hord
    have IH := Lib.hid ih
    obtain ⟨b, o, ka, kc, rfl, hn⟩ := ht.nodes i hi
    have hcell := ht.cell
    have hkl := HF.out i hi
    have c0 := hn.c0; have c1 := hn.c1; have c2 := hn.c2; have c3 := hn.c3; have c4 := hn.c4; have c5 := hn.c5
    have HT := Lib.hid ht; have HN := Lib.hid hn; have HJJ := Lib.hid hj; have HO := Lib.hid hord
    have hi' : (i : Int) < (ms.length : Int) := by omega
    clear ih ht hn hj hord
    refine callsIn_of_wp Tryz.func65 rfl trivial ?_ rfl
    simp only [Tryz.ntmps65, List.size_toArray, List.length_cons, List.length_nil, Nat.reduceAdd, Nat.reduceSub, Array.replicate_succ, Array.replicate_zero, List.push_toArray, List.append_toArray, List.nil_append, List.cons_append]
    gi_wp2_with fail
    obtain ⟨W1, hW1⟩ : ∃ W1, W.alloc (.cells #[.string (nd ms i).op, .int .i64 (nd ms i).line, .int .i64 (nd ms i).col, .string (nd ms i).name, .int .i64 (nd ms i).num, .slice ka (nd ms i).kids.length kc] 40) = W1 := ⟨_, rfl⟩
    have hb1 : Below W.heap.size W W1 := by rw [← hW1]; exact (Below.refl _ _).alloc (Nat.le_refl _) _
    have s1 : Six W1 W.heap.size 40 (.string (nd ms i).op) (.int .i64 (nd ms i).line) (.int .i64 (nd ms i).col) (.string (nd ms i).name) (.int .i64 (nd ms i).num) (.slice ka (nd ms i).kids.length kc) := ⟨by rw [← hW1]; exact blk_new _ _⟩
    rw [hW1]
    clear hW1 c0 c1 c2 c3 c4 c5 hcell
    refine ⟨trivial, rfl, (callsIn_wide.2 (sep_any N (nd ms i) ka kc W1 (HN.out.kids.below (hb1.mono hN)) HN.out.nil hkl)).mono ?_⟩
    rintro e W2 ⟨ka1, kc1, rfl, hown, hb2⟩
    have hsz1 := hb1.size
    have hB2 : Below W.heap.size W W2 := hb1.trans (hb2.mono hsz1)
    have s2 := s1.below hb2 (lt_of_heap s1.blk)
    have hcm : Comes ms full W pre (i, nval (nd ms i) ka1 kc1) W2 := ⟨hi, ⟨ka1, kc1, rfl, own_ints hown, fun a e => by subst e; have := own_from hown; omega⟩, by
      refine List.IsPrefix.trans ?_ HO.out
      rw [Pl_eq HW.out hi]
      exact ⟨partPl ms (nd ms i).kids (nd ms i).kids.length, by simp⟩⟩
    obtain ⟨fn, tmps, assign, body, hy, hR⟩ := HY.out pre (i, nval (nd ms i) ka1 kc1) W W2 HJJ.out hB2 hcm
    have HR := Lib.hid hR
    have HB2 := Lib.hid hB2
    simp only [enc2, nval] at hy ⊢
    clear hR hown hb2 hb1 s1 hcm hB2
    gi_wp2_with fail
    refine ⟨rfl, HR.out.mono ?_⟩
    clear hy
    rintro e W3 (⟨rfl, hj3, hk3⟩ | ⟨rfl, hx3⟩)
    · have s3 := s2.kept hk3
      have hK3 : Kept N NoNode W W3 := ((Still.of_below HB2.out hN).kept NoNode).trans hk3
      have d5 := s3.c5
      have HJ3 := Lib.hid hj3; have HK3 := Lib.hid hK3
      clear hj3 hK3 hk3 s2
      gi_wp2_with fail
      gi_loopw [26] (fun k wr => ∃ (j : Nat) (xs : List (Nat × Value)), j ≤ (nd ms i).kids.length ∧ k = .int .i64 j ∧ xs.map (·.1) = i :: partPl ms (nd ms i).kids j ∧ J (pre ++ xs) wr ∧ Kept N NoNode W wr) (fun k _ => (nd ms i).kids.length - (intOf k).toNat)
      case atStart => exact ⟨0, [(i, nval (nd ms i) ka1 kc1)], Nat.zero_le _, rfl, rfl, HJ3.out, HK3.out⟩
      case round =>
        obtain ⟨j, xs, hj, rfl, hxs, hjw, hkw⟩ := hrel
        have HXS := Lib.hid hxs; have HJW := Lib.hid hjw; have HKW := Lib.hid hkw
        have hsz := hkw.size
        by_cases hjl : j < (nd ms i).kids.length
        · obtain ⟨b2, o2, rfl, _, hc2⟩ := (HN.out.kids.below hkw.below) j hjl
          have hkm := kid_lt HW.out hi (kid_mem hjl)
          obtain ⟨q, hq⟩ : ∃ q : Nat, kid (nd ms i).kids j = (q : Int) := ⟨(kid (nd ms i).kids j).toNat, hkm.2.symm⟩
          have hqi : q < i := by omega
          have hs := partPl_succ ms hjl
          rw [hq] at hc2 hs
          rw [Int.toNat_natCast] at hs
          have hpre : i :: partPl ms (nd ms i).kids (j + 1) <+: Pl ms i := by
            rw [Pl_eq HW.out hi]; exact List.cons_prefix_cons.2 ⟨rfl, partPl_pre _ _ _⟩
          have hord2 : ((pre ++ xs).map (·.1) ++ Pl ms q) <+: full := by
            refine List.IsPrefix.trans ?_ HO.out
            rw [List.map_append, HXS.out, List.append_assoc, List.cons_append, ← hs]
            exact (List.prefix_append_right_inj _).2 hpre
          have HS := Lib.hid hs; have HP := Lib.hid hpre; have HO2 := Lib.hid hord2
          clear hs hq hkm hpre hord2 hxs hjw hkw
          gi_wp2_with fail
          refine ⟨trivial, rfl, (IH.out q hqi (by omega) (pre ++ xs) wr (HT.out.below HKW.out.below) (by omega) HJW.out HO2.out).mono ?_⟩
          rintro e W4 (⟨rfl, ys, hys, hj4, hk4⟩ | ⟨rfl, ys, hys, hx4⟩)
          · have HYS := Lib.hid hys; have HJ4 := Lib.hid hj4; have HK4 := Lib.hid hk4
            clear hys hj4 hk4
            gi_wp2
            go_roundw
            case rel => exact ⟨j + 1, xs ++ ys, by omega, by go_num, by rw [List.map_append, HXS.out, HYS.out, HS.out, List.cons_append], by rw [← List.append_assoc]; exact HJ4.out, HKW.out.trans HK4.out⟩
            case measure => simp [intOf]; omega
          · have HYS := Lib.hid hys; have HX4 := Lib.hid hx4
            clear hys hx4
            gi_wp2
            go_ret
            refine .inr ⟨rfl, xs ++ ys, ?_, by rw [← List.append_assoc]; exact HX4.out⟩
            refine List.IsPrefix.trans ?_ HP.out
            rw [List.map_append, HXS.out, HS.out, List.cons_append]
            exact List.cons_prefix_cons.2 ⟨rfl, (List.prefix_append_right_inj _).2 HYS.out⟩
        · obtain rfl : j = (nd ms i).kids.length := by omega
          clear hxs hjw hkw
          gi_wp2
          go_ret
          exact .inl ⟨rfl, xs, by rw [HXS.out, Pl_eq HW.out hi], HJW.out, HKW.out⟩
    · have HX3 := Lib.hid hx3
      clear hx3
      gi_wp2
      go_ret
      refine .inr ⟨rfl, [(i, nval (nd ms i) ka1 kc1)], ?_, HX3.out⟩
      rw [Pl_eq HW.out hi]
      exact ⟨partPl ms (nd ms i).kids (nd ms i).kids.length, rfl⟩
end Go.Proofs.YtdkhkemllmegfaaGreatDoor


/- The iterators: Each, once, slices.Backward. -/
namespace Go.Proofs.YtdkhkemllmegfaaGreatDoor
open Go.RowKit Go.Shelf Tn

attribute [local go_sem] Oper.semAt_some

structure EachP (w : World) (bt : Nat) (at_ : Int) (there : Bool) (e : Ending) (w' : World) : Prop where
  val : e = .returned (.func (.func 64) #[] #[.pointer (some ⟨w.heap.size + 2, 0, none⟩), .pointer (some ⟨w.heap.size, 0, none⟩), .pointer (some ⟨w.heap.size + 1, 0, none⟩)])
  c0 : w'.cell? ⟨w.heap.size, 0, none⟩ = some (.pointer (some ⟨bt, 0, none⟩))
  c1 : w'.cell? ⟨w.heap.size + 1, 0, none⟩ = some (.int .i64 at_)
  c2 : w'.cell? ⟨w.heap.size + 2, 0, none⟩ = some (.bool there)
  below : Below w.heap.size w w'

set_option maxHeartbeats 1000000 in
theorem each_any (bt : Nat) (ao : Option Addr) (len cap : Nat) (i : Int) (w : World) (hc : w.cell? ⟨bt, 0, none⟩ = some (.slice ao len cap)) :
    Calls Tryz.prog 35 #[.pointer (some ⟨bt, 0, none⟩), .int .i64 i] w (EachP w bt i (decide (0 ≤ i) && decide (i < (len : Int)))) := by
  obtain ⟨W, hW⟩ : ∃ W, (w.alloc (.cells #[.pointer (some ⟨bt, 0, none⟩)] 23)).alloc (.cells #[.int .i64 i] 3) = W := ⟨_, rfl⟩
  have hb : Below w.heap.size w W := by rw [← hW]; exact ((Below.refl _ w).alloc (Nat.le_refl _) _).alloc (by simp) _
  have hcW : W.cell? ⟨bt, 0, none⟩ = some (.slice ao len cap) := (hb.cell (p := ⟨bt, 0, none⟩) (World.block_lt_of_cell? _ _ hc)).trans hc
  have hs : W.heap.size = w.heap.size + 2 := by rw [← hW]; simp
  have e0 : W.heap[w.heap.size]? = some (.cells #[.pointer (some ⟨bt, 0, none⟩)] 23 (0, 0)) := by rw [← hW]; exact blk_alloc (blk_new w _) _
  have e1 : W.heap[w.heap.size + 1]? = some (.cells #[.int .i64 i] 3 (0, 0)) := by
    rw [← hW]; have := blk_new (w.alloc (.cells #[.pointer (some ⟨bt, 0, none⟩)] 23)) (.cells #[.int .i64 i] 3); rwa [World.size_alloc] at this
  have HW := Lib.hid hW; have HC := Lib.hid hcW; have HS := Lib.hid hs; have E0 := Lib.hid e0; have E1 := Lib.hid e1
  clear hW hcW hs e0 e1 hc
  go_enter Tryz.func35, Tryz.ntmps35
  go_wp2_with fail
  rw [HW.out]
  refine (has_any bt ao len cap i W HC.out).mono ?_
  rintro e w' ⟨rfl, rfl⟩
  generalize hq : (decide (0 ≤ i) && decide (i < (len : Int))) = q
  have HQ := Lib.hid hq; clear hq
  go_wp2
  go_ret
  have e2 : (W.alloc (.cells #[.bool q] 4)).heap[w.heap.size + 2]? = some (.cells #[.bool q] 4 (0, 0)) := by rw [← HS.out]; exact blk_new W _
  refine ⟨?_, (blk_cell (blk_alloc E0.out _) 0).trans rfl, (blk_cell (blk_alloc E1.out _) 0).trans rfl, (blk_cell e2 0).trans (by rw [HQ.out]; rfl), hb.alloc hb.size _⟩
  have := HS.out
  simp [this]

/-- no such expression: nothing comes -/
theorem each1_no (ms : List Nd) (full : List Nat) (l N : Nat) (B2 B0 B1 : Nat) (W : World) (hc : W.cell? ⟨B2, 0, none⟩ = some (.bool false)) :
    Iterates Tryz.prog 64 #[.pointer (some ⟨B2, 0, none⟩), .pointer (some ⟨B0, 0, none⟩), .pointer (some ⟨B1, 0, none⟩)] l enc2 (Comes ms full) N NoNode (fun xs => xs = []) (fun _ => False) W := by
  intro J Jx _ _ _ h0
  have H0 := Lib.hid h0; clear h0
  refine callsIn_of_wp Tryz.func64 rfl trivial ?_ rfl
  simp only [Tryz.ntmps64, List.size_toArray, List.length_cons, List.length_nil, Nat.reduceAdd, Nat.reduceSub, Array.replicate_succ, Array.replicate_zero, List.push_toArray, List.append_toArray, List.nil_append, List.cons_append]
  gi_wp2
  go_end0
  exact ⟨⟨_, rfl⟩, .inl ⟨[], rfl, H0.out⟩⟩

theorem each1_yes (ms : List Nd) (i : Nat) (l N bt : Nat) (ao : Option Addr) (cap : Nat) (B2 B0 B1 : Nat) (W : World) (hw : WF ms) (hf : ∀ i, i < ms.length → (nd ms i).kids.length ≤ 999000) (hi : i < ms.length) (ht : TreeAt N W bt ao cap ms) (hN : N ≤ W.heap.size)
    (c0 : W.cell? ⟨B0, 0, none⟩ = some (.pointer (some ⟨bt, 0, none⟩))) (c1 : W.cell? ⟨B1, 0, none⟩ = some (.int .i64 (i : Int))) (c2 : W.cell? ⟨B2, 0, none⟩ = some (.bool true)) :
    Iterates Tryz.prog 64 #[.pointer (some ⟨B2, 0, none⟩), .pointer (some ⟨B0, 0, none⟩), .pointer (some ⟨B1, 0, none⟩)] l enc2 (Comes ms (Pl ms i)) N NoNode (fun xs => xs.map (·.1) = Pl ms i) (fun pre => pre.map (·.1) <+: Pl ms i) W := by
  intro J Jx hJ hJx hY h0
  have hv := visit_in l N bt ao cap ms (Pl ms i) J Jx hw hf (fun pre x W0 W1 h hb hg => (hY pre x W0 W1 h hb hg).mono fun e W' he => he.elim (fun q => .inl ⟨q.1, q.2.1, q.2.2.1⟩) (fun q => .inr ⟨q.1, q.2.1⟩)) i hi [] W ht hN h0 (List.prefix_refl _)
  have HV := Lib.hid hv
  clear hw hf ht hJ hJx hY h0 hv
  refine callsIn_of_wp Tryz.func64 rfl trivial ?_ rfl
  simp only [Tryz.ntmps64, List.size_toArray, List.length_cons, List.length_nil, Nat.reduceAdd, Nat.reduceSub, Array.replicate_succ, Array.replicate_zero, List.push_toArray, List.append_toArray, List.nil_append, List.cons_append]
  gi_wp2_with fail
  refine ⟨trivial, rfl, HV.out.mono ?_⟩
  rintro e W1 (⟨rfl, xs, hxs, hj, _⟩ | ⟨rfl, xs, hxs, hx⟩)
  · have HX := Lib.hid hxs; have HJ := Lib.hid hj
    clear hxs hj
    gi_wp2
    go_end0
    exact ⟨⟨_, rfl⟩, .inl ⟨xs, HX.out, HJ.out⟩⟩
  · have HX := Lib.hid hxs; have HJ := Lib.hid hx
    clear hxs hx
    gi_wp2
    go_end0
    exact ⟨⟨_, rfl⟩, .inr ⟨xs, HX.out, HJ.out⟩⟩

/-- from behind -/
structure ComesB (N : Nat) (ms : List Nd) (n : Nat) (pre : List (Nat × Value)) (x : Nat × Value) (W : World) : Prop where
  at_ : pre.length + x.1 + 1 = n
  val : ∃ ka kc, x.2 = nval (nd ms x.1) ka kc ∧ IntsAt N W ka (nd ms x.1).kids

end Go.Proofs.YtdkhkemllmegfaaGreatDoor


/- What the walks of a range over a function lean on. -/
namespace Go.Proofs.YtdkhkemllmegfaaGreatDoor
end Go.Proofs.YtdkhkemllmegfaaGreatDoor
