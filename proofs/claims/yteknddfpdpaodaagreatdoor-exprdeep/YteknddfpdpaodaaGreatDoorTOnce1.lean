/- Each node once, behind its parts: once's iterator. -/
import Derived.Test.YteknddfpdpaodaaGreatDoorTIter
import Derived.Test.YteknddfpdpaodaaGreatDoorTInRound
import Derived.Deep.OwnRows
import Derived.Sort.CutIn
namespace Go.Proofs.YteknddfpdpaodaaGreatDoor
open Go.RowKit Go.Shelf Tn

attribute [local go_sem] Oper.semAt_some

theorem Tryz.info4 : (Tryz.prog.info? 4).map (fun i => (i.zero, i.size, i.bytes)) = some (some (.bool false), 1, 1) := by kernel_rfl

def tr (os : List Bool) (j : Nat) : Bool := os.getD j false
def bl (os : List Bool) : Array Value := (os.map Value.bool).toArray
theorem bl_get {os : List Bool} {j : Nat} (h : j < os.length) : (bl os)[j]? = some (.bool (tr os j)) := by simp [bl, tr, h]
theorem bl_set (os : List Bool) (j : Nat) (b : Bool) : (bl os).setIfInBounds j (.bool b) = bl (os.set j b) := by simp [bl, List.map_set]
theorem bl_made (n : Nat) : madeCells #[Value.bool false] n = bl (List.replicate n false) := by
  apply Array.ext
  · simp [madeCells, bl]
  · intro i h1 h2
    simp [madeCells, bl, Nat.mod_one]
theorem tr_set_same {os : List Bool} {j : Nat} (h : j < os.length) (b : Bool) : tr (os.set j b) j = b := by simp [tr, h]
theorem tr_set_other {os : List Bool} {j q : Nat} (h : q ≠ j) (b : Bool) : tr (os.set j b) q = tr os q := by simp [tr, List.getElem?_set_ne (Ne.symm h)]

/-- these truths lie there -/
structure OccAt (W : World) (Bo : Nat) (os : List Bool) : Prop where
  blk : W.heap[Bo]? = some (.cells (bl os) 4 (0, 0))
theorem OccAt.cell {W : World} {Bo : Nat} {os : List Bool} (h : OccAt W Bo os) {j : Nat} (hj : j < os.length) : W.cell? ⟨Bo, j, none⟩ = some (.bool (tr os j)) := (blk_cell h.blk j).trans (bl_get hj)
theorem OccAt.fz {W : World} {Bo : Nat} {os : List Bool} (h : OccAt W Bo os) (j : Nat) : W.frozen? ⟨Bo, j, none⟩ = false := blk_frozen h.blk j
theorem OccAt.set {W : World} {Bo : Nat} {os : List Bool} (h : OccAt W Bo os) (j : Nat) (b : Bool) : OccAt (W.setCell ⟨Bo, j, none⟩ (.bool b)) Bo (os.set j b) := ⟨by rw [blk_set h.blk, bl_set]⟩

/-- from m on, the parts of what occurs occur -/
def Closed (ms : List Nd) (i m : Nat) (os : List Bool) : Prop := ∀ j, m ≤ j → j ≤ i → tr os j = true → ∀ q ∈ (nd ms j).kids, tr os q.toNat = true

/-- what a body may take for granted of what comes -/
structure ComesO (N : Nat) (ms : List Nd) (i : Nat) (pre : List (Nat × Value)) (x : Nat × Value) (W : World) : Prop where
  le : x.1 ≤ i
  lt : ∀ p ∈ pre.map (·.1), p < x.1
  kids : ∀ q ∈ (nd ms x.1).kids, q.toNat ∈ pre.map (·.1)
  val : ∃ ka kc, x.2 = nval (nd ms x.1) ka kc ∧ IntsAt N W ka (nd ms x.1).kids

/-- once's frame where the truths are being laid -/
def fr29 (l B1 B0 Bo bt : Nat) (ao : Option Addr) (i len cap B : Nat) (v5 v6 v25 v26 : Value) : Array Value :=
  #[.func (.yield l) #[] #[], .pointer (some ⟨B1, 0, none⟩), .pointer (some ⟨B0, 0, none⟩), undef, .pointer (some ⟨Bo + 1, 0, none⟩), v5, v6, undef, undef, undef, undef, .int .i64 (i : Int), .int .i64 ((i : Int) + 1),
    .slice (some ⟨Bo, 0, none⟩) (i + 1) (i + 1), .slice (some ⟨Bo, 0, none⟩) (i + 1) (i + 1), .int .i64 (i : Int), .pointer (some ⟨Bo, i, none⟩), .pointer (some ⟨bt, 0, none⟩), .pointer (some ⟨bt, 0, none⟩), .pointer (some ⟨bt, 0, none⟩),
    .slice ao len cap, .int .i64 (i : Int), .int .i64 ((i : Int) + 1), .slice ao (i + 1) cap, .func (.func 70) #[] #[.pointer (some ⟨B, 0, none⟩)], v25, v26, undef, undef, undef, undef, undef, undef, undef, undef, undef, undef, undef, undef, undef, undef, undef, undef, undef, undef, undef, undef, undef, undef, undef, undef, undef, undef, undef, undef, undef, undef, undef, undef, undef, undef, undef, undef, undef, undef, undef, undef, undef, undef, undef, undef, undef, undef]

/-- what is in memory between two rounds -/
structure OMem (W0 : World) (ms : List Nd) (i Bo m : Nat) (os : List Bool) (W : World) : Prop where
  len : os.length = i + 1
  top : tr os i = true
  closed : Closed ms i m os
  occ : OccAt W Bo os
  box : W.heap[Bo + 1]? = some (.cells #[.slice (some ⟨Bo, 0, none⟩) (i + 1) (i + 1)] 125 (0, 0))
  below : Below Bo W0 W
theorem OMem.still {W0 : World} {ms : List Nd} {i Bo m : Nat} {os : List Bool} {A B : World} (h : OMem W0 ms i Bo m os A) (hs : Still Bo A B) : OMem W0 ms i Bo m os B :=
  ⟨h.len, h.top, h.closed, ⟨hs.same _ _ _ _ (fun e => e) h.occ.blk⟩, hs.same _ _ _ _ (fun e => e) h.box, h.below.trans hs.below⟩

/-- in a round: of the node's parts t are through -/
structure OIn (Wb : World) (ms : List Nd) (i Bo k t : Nat) (os0 os : List Bool) (W : World) : Prop where
  len : os.length = i + 1
  high : ∀ j, k ≤ j → tr os j = tr os0 j
  more : ∀ j, tr os0 j = true → tr os j = true
  done : ∀ s, s < t → tr os0 k = true → tr os (kid (nd ms k).kids s).toNat = true
  occ : OccAt W Bo os
  others : KeepsOthers Wb W
  kept : Kept Bo (fun b _ => b = Bo) Wb W

theorem OIn.step {Wb : World} {ms : List Nd} {i Bo k t q : Nat} {os0 os : List Bool} {W W' : World} (h : OIn Wb ms i Bo k t os0 os W) (hq : (kid (nd ms k).kids t).toNat = q) (hqk : q < k) (hki : k ≤ i) (hb : Below W.heap.size W W') (b : Bool) (hbv : b = (tr os q || tr os k)) :
    OIn Wb ms i Bo k (t + 1) os0 (os.set q b) (W'.setCell ⟨Bo, q, none⟩ (.bool b)) := by
  have hocc : OccAt W' Bo os := ⟨(hb.block Bo (lt_of_heap h.occ.blk)).trans h.occ.blk⟩
  have hlen := h.len
  have hm : ∀ j, tr os j = true → tr (os.set q b) j = true := fun j hj => by
    by_cases e : j = q
    · subst e; rw [tr_set_same (by omega), hbv, hj]; rfl
    · rw [tr_set_other e]; exact hj
  refine ⟨by simpa using hlen, fun j hj => by rw [tr_set_other (by omega)]; exact h.high j hj, fun j hj => hm j (h.more j hj), fun s hs h0 => ?_, hocc.set q b, h.others.trans ((others_of_below hb).trans (KeepsOthers.setCell _ _ _)), h.kept.trans ?_⟩
  · by_cases e : s = t
    · subst e
      rw [hq, tr_set_same (by omega), hbv, h.high k (Nat.le_refl _), h0]; simp
    · exact hm _ (h.done s (by omega) h0)
  · refine Kept.trans ((Still.of_below hb (Nat.le_refl _)).mono (by have := lt_of_heap h.occ.blk; omega) (fun _ _ e => e.elim)) ?_
    exact ⟨(Below.refl _ _).setCell (p := ⟨Bo, q, none⟩) (Nat.le_refl _) _, fun b' c t r hne hb' => (blk_other hne _ _).trans hb'⟩

theorem OIn.end {Wb W0 : World} {ms : List Nd} {i Bo k : Nat} {os0 os : List Bool} {W : World} (h : OIn Wb ms i Bo k (nd ms k).kids.length os0 os W) (h0 : OMem W0 ms i Bo (k + 1) os0 Wb) (hki : k ≤ i) : OMem W0 ms i Bo k os W := by
  refine ⟨h.len, by rw [h.high i hki]; exact h0.top, fun j hj hji hjt q hq => ?_, h.occ, h.kept.same _ _ _ _ (by omega) h0.box, h0.below.trans h.kept.below⟩
  rw [h.high j hj] at hjt
  by_cases e : j = k
  · subst e
    obtain ⟨s, hs, rfl⟩ := mem_kid hq
    exact h.done s hs hjt
  · exact h.more _ (h0.closed j (by omega) hji hjt q hq)

/-- while what occurs is told: the first j are through -/
structure ORun (W5 : World) (N Bf D j : Nat) (os : List Bool) (J : List (Nat × Value) → World → Prop) (pre : List (Nat × Value)) (W : World) : Prop where
  nums : pre.map (·.1) = (List.range j).filter (tr os)
  inv : J pre W
  kept : Kept N (fun b _ => b = Bf) W5 W
  defs : W.heap[D]? = some (.deferred (some []))

theorem ORun.skip {W5 : World} {N Bf D j : Nat} {os : List Bool} {J : List (Nat × Value) → World → Prop} {pre : List (Nat × Value)} {W : World} (h : ORun W5 N Bf D j os J pre W) (hf : tr os j = false) : ORun W5 N Bf D (j + 1) os J pre W :=
  ⟨by rw [List.range_succ, List.filter_append, h.nums]; simp [hf], h.inv, h.kept, h.defs⟩
theorem ORun.later {W5 : World} {N Bf D j n : Nat} {os : List Bool} {J : List (Nat × Value) → World → Prop} {pre : List (Nat × Value)} {W W' : World} (h : ORun W5 N Bf D j os J pre W) (hJ : ∀ s A B, J s A → Still n A B → J s B) (hb : Below W.heap.size W W') (hn : n ≤ W.heap.size) (hN : N ≤ W.heap.size) : ORun W5 N Bf D j os J pre W' :=
  ⟨h.nums, hJ _ _ _ h.inv (Still.of_below hb hn), h.kept.trans ((Still.of_below hb hN).kept _), (hb.block _ (lt_of_heap h.defs)).trans h.defs⟩
theorem ORun.tell {W5 : World} {N Bf D j : Nat} {os : List Bool} {J : List (Nat × Value) → World → Prop} {pre : List (Nat × Value)} {W W' : World} (h : ORun W5 N Bf D j os J pre W) (ht : tr os j = true) (v : Value) (hj : J (pre ++ [(j, v)]) W') (hk : Kept N (fun b _ => b = Bf) W W') (hd : Defs W W') : ORun W5 N Bf D (j + 1) os J (pre ++ [(j, v)]) W' :=
  ⟨by rw [List.range_succ, List.filter_append, List.map_append, h.nums]; simp [ht], hj, h.kept.trans hk, hd _ _ h.defs⟩

theorem make_truths (i : Nat) (hi : i ≤ 1000000) (w : World) : (Instr.makeSlice 125 (.int .i64 ((i : Int) + 1)) (.int .i64 ((i : Int) + 1))).run Tryz.prog w = .ok (.slice (some ⟨w.heap.size, 0, none⟩) (i + 1) (i + 1)) (w.alloc (.cells (bl (List.replicate (i + 1) false)) 4)) := by
  have := run_make_row' (P := Tryz.prog) 125 4 (.bool false) 1 Tryz.underlying125 Tryz.info4 rfl .i64 .i64 (i + 1) (by omega) (by omega) w
  rw [bl_made] at this
  simpa using this

set_option maxRecDepth 100000 in
set_option maxHeartbeats 4000000 in
theorem once1 (ms : List Nd) (i l N bt : Nat) (ao : Option Addr) (cap : Nat) (B0 B1 Bf : Nat) (W : World) (hw : WF ms) (hf : ∀ i, i < ms.length → (nd ms i).kids.length ≤ 999000) (hi : i < ms.length) (hl : ms.length ≤ 1000000) (ht : TreeAt N W bt ao cap ms) (hN : N ≤ W.heap.size) (hBf : Bf < W.heap.size)
    (c0 : W.cell? ⟨B0, 0, none⟩ = some (.pointer (some ⟨bt, 0, none⟩))) (c1 : W.cell? ⟨B1, 0, none⟩ = some (.int .i64 (i : Int))) :
    Iterates Tryz.prog 58 #[.pointer (some ⟨B1, 0, none⟩), .pointer (some ⟨B0, 0, none⟩)] l enc2 (fun _ => ComesO N ms i) N (fun b _ => b = Bf) (fun xs => i ∈ xs.map (·.1)) (fun _ => True) W := by
  intro J Jx hJ hJx hY h0
  have hmk := make_truths i (by omega)
  have HW := Lib.hid hw; have HF := Lib.hid hf; have HT := Lib.hid ht; have HJ := Lib.hid hJ; have HJX := Lib.hid hJx; have HY := Lib.hid hY; have H0 := Lib.hid h0
  clear hw hf ht hJ hJx hY h0
  refine callsIn_of_wp_marks Tryz.func58 rfl trivial ?_ rfl
  simp only [Tryz.ntmps58, List.size_toArray, List.length_cons, List.length_nil, Nat.reduceAdd, Nat.reduceSub, Array.replicate_succ, Array.replicate_zero, List.push_toArray, List.append_toArray, List.nil_append, List.cons_append]
  gi_upto_region 1 with fail
  obtain ⟨Bo, hBo⟩ : ∃ Bo, W.heap.size = Bo := ⟨_, rfl⟩
  have hocc1 : OccAt ((W.alloc (.cells (bl (List.replicate (i + 1) false)) 4)).alloc (.cells #[.slice (some ⟨W.heap.size, 0, none⟩) (i + 1) (i + 1)] 125)) Bo (List.replicate (i + 1) false) := ⟨by rw [← hBo]; exact blk_alloc (blk_new W _) _⟩
  have hbx1 : ((W.alloc (.cells (bl (List.replicate (i + 1) false)) 4)).alloc (.cells #[.slice (some ⟨W.heap.size, 0, none⟩) (i + 1) (i + 1)] 125)).heap[Bo + 1]? = some (.cells #[.slice (some ⟨Bo, 0, none⟩) (i + 1) (i + 1)] 125 (0, 0)) := by
    rw [← hBo]; have := blk_new (W.alloc (.cells (bl (List.replicate (i + 1) false)) 4)) (.cells #[.slice (some ⟨W.heap.size, 0, none⟩) (i + 1) (i + 1)] 125); rwa [World.size_alloc] at this
  have hb1 : Below Bo W ((W.alloc (.cells (bl (List.replicate (i + 1) false)) 4)).alloc (.cells #[.slice (some ⟨W.heap.size, 0, none⟩) (i + 1) (i + 1)] 125)) := by rw [← hBo]; exact ((Below.refl _ W).alloc (Nat.le_refl _) _).alloc (by simp) _
  generalize (W.alloc (.cells (bl (List.replicate (i + 1) false)) 4)).alloc (.cells #[.slice (some ⟨W.heap.size, 0, none⟩) (i + 1) (i + 1)] 125) = W1 at *
  rw [hBo]
  have d1 : W1.cell? ⟨B1, 0, none⟩ = some (.int .i64 (i : Int)) := (hb1.cell (p := ⟨B1, 0, none⟩) (by rw [← hBo]; exact World.block_lt_of_cell? _ _ c1)).trans c1
  have x1 : W1.cell? ⟨Bo + 1, 0, none⟩ = some (.slice (some ⟨Bo, 0, none⟩) (i + 1) (i + 1)) := (blk_cell hbx1 0).trans rfl
  have o1 := hocc1.cell (j := i) (by simp)
  have f1 := hocc1.fz i
  gi_upto_region 2 with fail
  have hocc2 := hocc1.set i true
  have hbx2 : (W1.setCell ⟨Bo, i, none⟩ (.bool true)).heap[Bo + 1]? = some (.cells #[.slice (some ⟨Bo, 0, none⟩) (i + 1) (i + 1)] 125 (0, 0)) := (blk_other (by omega) _ _).trans hbx1
  have hb2 : Below Bo W (W1.setCell ⟨Bo, i, none⟩ (.bool true)) := hb1.setCell (p := ⟨Bo, i, none⟩) (Nat.le_refl _) _
  generalize W1.setCell ⟨Bo, i, none⟩ (.bool true) = W2 at *
  have ht2 := HT.out.below (hb2.mono (by omega))
  have e0 : W2.cell? ⟨B0, 0, none⟩ = some (.pointer (some ⟨bt, 0, none⟩)) := (hb2.cell (p := ⟨B0, 0, none⟩) (by rw [← hBo]; exact World.block_lt_of_cell? _ _ c0)).trans c0
  have e1 : W2.cell? ⟨B1, 0, none⟩ = some (.int .i64 (i : Int)) := (hb2.cell (p := ⟨B1, 0, none⟩) (by rw [← hBo]; exact World.block_lt_of_cell? _ _ c1)).trans c1
  have et := ht2.cell
  have hroom := ht2.room
  have hic : i + 1 ≤ cap := by omega
  have HO2 := Lib.hid hocc2; have HB2 := Lib.hid hb2; have HX2 := Lib.hid hbx2; have HT2 := Lib.hid ht2
  clear hocc1 hbx1 hb1 d1 x1 o1 f1 hocc2 hb2 hbx2 ht2
  have y0 := fun x : Later W2 => Later.cell e0 x
  have y1 := fun x : Later W2 => Later.cell e1 x
  have y2 := fun x : Later W2 => Later.cell et x
  refine wpIn_wide.2 (wp_region_later_tail 7 (by kernel_rfl) (by kernel_rfl) ?_)
  simp only [List.take_succ_cons, List.take_zero, List.drop_succ_cons, List.drop_zero]
  repeat (go_big_quiet_step (fail))
  refine wpQuiet_nil ?_
  intro x
  clear y0 y1 y2 e0 e1 et
  have hbx := x.le
  generalize x.wx = W3 at *
  go_wp2_with (go_at_call 59; refine (backward_any _ ao (i + 1) cap rfl _).mono ?_; rintro e w' ⟨rfl, rfl⟩)
  have hb3 : Below W2.heap.size W2 (W3.alloc (.cells #[.slice ao (i + 1) cap] 68)) := hbx.alloc hbx.size _
  have hB3 : (W3.alloc (.cells #[.slice ao (i + 1) cap] 68)).heap[W3.heap.size]? = some (.cells #[.slice ao (i + 1) cap] 68 (0, 0)) := blk_new W3 _
  have hs2 : Bo + 1 < W2.heap.size := lt_of_heap HX2.out
  have hs3 := hbx.size
  have hM : OMem W ms i Bo (i + 1) ((List.replicate (i + 1) false).set i true) (W3.alloc (.cells #[.slice ao (i + 1) cap] 68)) :=
    ⟨by simp, tr_set_same (by simp) true, fun j h1 h2 => by omega, ⟨(hb3.block _ (by omega)).trans HO2.out.blk⟩, (hb3.block _ (by omega)).trans HX2.out, HB2.out.trans (hb3.mono (by omega))⟩
  generalize W3.alloc (.cells #[.slice ao (i + 1) cap] 68) = W4 at *
  generalize W3.heap.size = B at *
  refine wpIn_block ?_
  have HM := Lib.hid hM; have HB3 := Lib.hid hB3; have H3 := Lib.hid hb3
  clear hM hB3 hb3 hbx
  refine wp_range (gf := 70) (lb := #[.pointer (some ⟨B, 0, none⟩)]) rfl (enters_of Tryz.func70 (by kernel_rfl) rfl) (encs := enc2) (fun _ => rfl) (G := fun _ => ComesB Bo ms (i + 1)) (N := Bo) (M := fun b _ => b = Bo) (S := fun xs => xs.length = i + 1) (Sp := fun _ => True) ?hN ?hseq
    (fun pre W' => ∃ os, OMem W ms i Bo (i + 1 - pre.length) os W') (fun _ _ _ => False)
    (fun _ x a C => ∃ Bn ka kc, Bo + 1 < Bn ∧ x.2 = nval (nd ms x.1) ka kc ∧ Six C Bn 47 (.string (nd ms x.1).op) (.int .i64 (nd ms x.1).line) (.int .i64 (nd ms x.1).col) (.string (nd ms x.1).name) (.int .i64 (nd ms x.1).num) (.slice ka (nd ms x.1).kids.length kc) ∧
      a = { tmps := fr29 l B1 B0 Bo bt ao i ms.length cap B (.int .i64 (x.1 : Int)) (.pointer (some ⟨Bn, 0, none⟩)) (.int .i64 (x.1 : Int)) x.2, defers := [] })
    (fun _ A B h hs => h.elim fun os h => ⟨os, h.still hs⟩) (fun _ _ _ _ h _ => h) (fun _ s x A B h hs => ⟨h.at_, h.val.elim fun ka h => h.elim fun kc h => ⟨ka, kc, h.1, h.2.below hs.below⟩⟩)
    (fun s x a C B h hs => h.elim fun Bn h => h.elim fun ka h => h.elim fun kc h => ⟨Bn, ka, kc, h.1, h.2.1, ⟨hs.same _ _ _ _ (fun e => e) h.2.2.1.blk⟩, h.2.2.2⟩) ⟨_, HM.out⟩ ?assign ?body ?done ?stop
  case hN => have := H3.out.size; omega
  case hseq =>
    intro l' W' hb'
    have hb4 : Below Bo W W' := HM.out.below.trans (hb'.mono (by have := H3.out.size; omega))
    exact back1 ms (i + 1) l' Bo Bo B ao cap W' (by omega) (by omega) ((HT.out.nodes.below (hb4.mono (by omega))).mono (by omega)) ((hb'.block B (lt_of_heap HB3.out)).trans HB3.out) (by omega)
  case assign =>
    rintro l' pre ⟨k, v⟩ W0' W' ⟨os, hm0⟩ hst hg
    have hm := hm0.still hst
    clear hm0 hst
    obtain ⟨ka, kc, hv, hk⟩ := hg.val
    have hv : v = nval (nd ms k) ka kc := hv
    subst hv
    have hx := lt_of_heap hm.box
    have HMM := Lib.hid hm
    clear hm hg hk
    simp only [enc2, nval]
    gi_wp2
    exact ⟨KeepsOthers.alloc _ _, Still.alloc _ _ _ (by omega), W'.heap.size, hx, ka, kc, ⟨rfl, rfl⟩, ⟨blk_new _ _⟩, rfl⟩
  case body =>
    rintro l' pre ⟨k, v⟩ a₁ W0' W' ⟨os0, hm0⟩ hst hg ⟨Bn, ka, kc, hBn, hv, hs6, rfl⟩
    have hm := hm0.still hst
    clear hm0 hst
    obtain ⟨ka', kc', hv', hk⟩ := hg.val
    have hat : pre.length + k + 1 = i + 1 := hg.at_
    have hv : v = nval (nd ms k) ka kc := hv
    have hv' : v = nval (nd ms k) ka' kc' := hv'
    obtain ⟨rfl, rfl⟩ : ka' = ka ∧ kc' = kc := by
      rw [hv] at hv'; simp [nval] at hv'; exact ⟨hv'.1.symm, hv'.2.symm⟩
    subst hv
    have hm' : OMem W ms i Bo (k + 1) os0 W' := by rw [show k + 1 = i + 1 - pre.length by omega]; exact hm
    have hkids : IntsAt Bo W' ka' (nd ms k).kids := hk
    have hlen := hm'.len
    have hin : OIn W' ms i Bo k 0 os0 os0 W' := ⟨hm'.len, fun _ _ => rfl, fun _ h => h, fun s hs => by omega, hm'.occ, KeepsOthers.refl _, Kept.refl _ _ _⟩
    have hkl := HF.out k (by omega)
    have hki : k ≤ i := by omega
    have hks : k < ms.length := by omega
    have d5 := hs6.c5
    have HIN := Lib.hid hin; have HM' := Lib.hid hm'; have HK := Lib.hid hkids; have HS6 := Lib.hid hs6; have HAT := Lib.hid hat
    clear hm hg hk hv' hm' hkids hin hs6 hat
    simp only [fr29]
    gi_wp2
    gi_loopw [30] (fun t wr => ∃ (tn : Nat) (os : List Bool), tn ≤ (nd ms k).kids.length ∧ t = .int .i64 tn ∧ OIn W' ms i Bo k tn os0 os wr) (fun t _ => (nd ms k).kids.length - (intOf t).toNat)
    case atStart => exact ⟨0, os0, Nat.zero_le _, rfl, HIN.out⟩
    case round =>
      obtain ⟨tn, os, htn, rfl, hoi⟩ := hrel
      have HOI := Lib.hid hoi
      clear hoi
      by_cases htl : tn < (nd ms k).kids.length
      · obtain ⟨b2, o2, rfl, hb2, hc2⟩ := (HK.out.below HOI.out.kept.below) tn htl
        have hkm := kid_lt HW.out hks (kid_mem htl)
        obtain ⟨q, hq⟩ : ∃ q : Nat, kid (nd ms k).kids tn = (q : Int) := ⟨(kid (nd ms k).kids tn).toNat, hkm.2.symm⟩
        have hqk : q < k := by omega
        rw [hq] at hc2
        have HQ := Lib.hid hq
        clear hq hkm
        gi_upto_region 8 with fail
        have hol := HOI.out.len
        have y0 := fun x : Later wr => Later.cell ((blk_cell (HOI.out.kept.same (Bo + 1) _ _ _ (by omega) HM'.out.box) 0).trans rfl) x
        have y1 := fun x : Later wr => Later.cell (HOI.out.occ.cell (j := q) (by omega)) x
        have y2 := fun x : Later wr => Later.cell (HOI.out.occ.cell (j := k) (by omega)) x
        have hfin : ∀ (x : Later wr) (b : Bool), b = (tr os q || tr os k) → OIn W' ms i Bo k (tn + 1) os0 (os.set q b) (x.wx.setCell ⟨Bo, q, none⟩ (.bool b)) := fun x b hb => HOI.out.step (by rw [HQ.out]; rfl) hqk hki x.le b hb
        have hfz : ∀ x : Later wr, x.wx.frozen? ⟨Bo, q, none⟩ = false := fun x => by rw [x.le.frozen (lt_of_heap HOI.out.occ.blk)]; exact HOI.out.occ.fz q
        have HFIN := Lib.hid hfin; have HFZ := Lib.hid hfz
        clear hfin hfz hc2
        generalize tr os q = bq at *
        generalize tr os k = bk at *
        cases bq with
        | false =>
          refine in_region_later_tail 13 (fun ⟨_, _, h⟩ => h) (by kernel_rfl) (by kernel_rfl) (by kernel_rfl) ?_
          simp only [List.take_succ_cons, List.take_zero, List.drop_succ_cons, List.drop_zero]
          repeat (go_big_quiet_step (fail))
          refine wpQuiet_nil ?_
          intro x
          have hfz := HFZ.out x
          have hf2 := HFIN.out x bk (by simp)
          have y1 := y1 x
          clear y0 y2 HFIN HFZ
          generalize x.wx = W6 at *
          go_wp2_with fail
          gi_wp2
          go_roundw
          case rel => exact ⟨tn + 1, _, by omega, by go_num, hf2⟩
          case measure => simp [intOf]; omega
        | true =>
          refine in_region_later_tail 13 (fun ⟨_, _, h⟩ => h) (by kernel_rfl) (by kernel_rfl) (by kernel_rfl) ?_
          simp only [List.take_succ_cons, List.take_zero, List.drop_succ_cons, List.drop_zero]
          repeat (go_big_quiet_step (fail))
          refine wpQuiet_nil ?_
          intro x
          have hfz := HFZ.out x
          have hf2 := HFIN.out x true (by simp)
          have y1 := y1 x
          clear y0 y2 HFIN HFZ
          generalize x.wx = W6 at *
          go_wp2_with fail
          gi_wp2
          go_roundw
          case rel => exact ⟨tn + 1, _, by omega, by go_num, hf2⟩
          case measure => simp [intOf]; omega
      · obtain rfl : tn = (nd ms k).kids.length := by omega
        have hend := HOI.out.end HM'.out hki
        have ho := HOI.out.others; have hkp := HOI.out.kept
        have HE := Lib.hid hend; have HO := Lib.hid ho; have HKP := Lib.hid hkp
        clear hend ho hkp
        gi_wp2
        exact ⟨HO.out, HKP.out, os, by rw [List.length_append, List.length_singleton, show i + 1 - (pre.length + 1) = k by have := HAT.out; omega]; exact HE.out⟩
  case stop => rintro D c pre W' _ _ h; exact h.elim
  case done =>
    rintro D xs W5 hD hxs ⟨os, hm⟩ hdef
    rw [hxs, Nat.sub_self] at hm
    have hbw := hm.below
    have hs5 : Bo + 1 < W5.heap.size := lt_of_heap hm.box
    have ht5 := HT.out.below (hbw.mono (by omega))
    have e0 : W5.cell? ⟨B0, 0, none⟩ = some (.pointer (some ⟨bt, 0, none⟩)) := (hbw.cell (p := ⟨B0, 0, none⟩) (by rw [← hBo]; exact World.block_lt_of_cell? _ _ c0)).trans c0
    have e1 : W5.cell? ⟨B1, 0, none⟩ = some (.int .i64 (i : Int)) := (hbw.cell (p := ⟨B1, 0, none⟩) (by rw [← hBo]; exact World.block_lt_of_cell? _ _ c1)).trans c1
    have et := ht5.cell
    have h0 : ORun W5 N Bf D 0 os J [] W5 := ⟨rfl, HJ.out _ _ _ H0.out (Still.of_below (by rw [hBo]; exact hbw) (Nat.le_refl _)), Kept.refl _ _ _, hdef⟩
    have hDB : Bo ≤ D := by have := H3.out.size; omega
    have HM5 := Lib.hid hm; have HT5 := Lib.hid ht5; have HR0 := Lib.hid h0
    clear hm hbw ht5 h0 hdef HM HB3 H3 HO2 HB2 HX2 HT2 hmk
    simp only []
    gi_upto_region 10 with fail
    have y0 := fun x : Later W5 => Later.cell e0 x
    have y1 := fun x : Later W5 => Later.cell e1 x
    have y2 := fun x : Later W5 => Later.cell et x
    refine wpIn_wide.2 (wp_region_later (by kernel_rfl) (by kernel_rfl) ?_)
    repeat (go_big_quiet_step (fail))
    refine wpQuiet_nil ?_
    rintro _ ⟨x, rfl⟩
    clear y0 y1 y2 e0 e1 et
    have h0 := HR0.out.later HJ.out x.le (by omega) (by omega)
    have HR1 := Lib.hid h0
    clear h0 HR0
    generalize x.wx = W6 at *
    gi_wp2_with fail
    gi_loopw [56] (fun t wr => ∃ (j : Nat) (pre : List (Nat × Value)), j ≤ i + 1 ∧ t = .int .i64 j ∧ ORun W5 N Bf D j os J pre wr) (fun t _ => i + 1 - (intOf t).toNat)
    case atStart => exact ⟨0, [], Nat.zero_le _, rfl, HR1.out⟩
    case round =>
      obtain ⟨j, pre, hj, rfl, hr⟩ := hrel
      have HR := Lib.hid hr
      clear hr HR1
      have hsz := HR.out.kept.size
      by_cases hji : j < i + 1
      · obtain ⟨b, o, ka, kc, rfl, hnd⟩ := (HT5.out.nodes.below HR.out.kept.below) j (by omega)
        have c0 := hnd.c0; have c1 := hnd.c1; have c2 := hnd.c2; have c3 := hnd.c3; have c4 := hnd.c4; have c5 := hnd.c5
        have hkids := hnd.kids
        have HKD := Lib.hid hkids
        clear hnd hkids
        gi_upto_region 13 with fail
        obtain ⟨w1, hw1⟩ : ∃ w1, wr.alloc (.cells #[.string (nd ms j).op, .int .i64 (nd ms j).line, .int .i64 (nd ms j).col, .string (nd ms j).name, .int .i64 (nd ms j).num, .slice ka (nd ms j).kids.length kc] 47) = w1 := ⟨_, rfl⟩
        have hb1 : Below wr.heap.size wr w1 := by rw [← hw1]; exact (Below.refl _ _).alloc (Nat.le_refl _) _
        have s1 : Six w1 wr.heap.size 47 (.string (nd ms j).op) (.int .i64 (nd ms j).line) (.int .i64 (nd ms j).col) (.string (nd ms j).name) (.int .i64 (nd ms j).num) (.slice ka (nd ms j).kids.length kc) := ⟨by rw [← hw1]; exact blk_new _ _⟩
        rw [hw1]
        clear hw1 c0 c1 c2 c3 c4 c5
        have hr1 := HR.out.later HJ.out hb1 (by omega) (by omega)
        have hk1 : IntsAt N w1 ka (nd ms j).kids := HKD.out.below (hb1.mono (by omega))
        have hx : w1.cell? ⟨Bo + 1, 0, none⟩ = some (.slice (some ⟨Bo, 0, none⟩) (i + 1) (i + 1)) := (blk_cell (hr1.kept.same _ _ _ _ (by omega) HM5.out.box) 0).trans rfl
        have ho : OccAt w1 Bo os := ⟨hr1.kept.same _ _ _ _ (by omega) HM5.out.occ.blk⟩
        have hoc := ho.cell (j := j) (by rw [HM5.out.len]; exact hji)
        have HR1 := Lib.hid hr1; have HK1 := Lib.hid hk1
        clear hr1 hk1 ho HKD hb1
        cases hb : tr os j with
        | false =>
          rw [hb] at hoc
          have hnext := HR1.out.skip hb
          have HNX := Lib.hid hnext
          clear hnext hb
          refine wpIn_wide.2 ?_
          go_wp2_with fail
          gi_wp2
          go_roundw
          case rel => exact ⟨j + 1, pre, by omega, by go_num, HNX.out⟩
          case measure => simp [intOf]; omega
        | true =>
          rw [hb] at hoc
          have hcm : ComesO N ms i pre (j, nval (nd ms j) ka kc) w1 := ⟨by simp only; omega, fun p hp => by rw [HR1.out.nums] at hp; simp at hp; exact hp.1, fun q hq => by
            have hq' := kid_lt HW.out (show j < ms.length by omega) hq
            rw [HR1.out.nums]
            simp only [List.mem_filter, List.mem_range]
            exact ⟨hq'.1, HM5.out.closed j (Nat.zero_le _) (by omega) hb q hq⟩, ka, kc, rfl, HK1.out⟩
          obtain ⟨fn, tmps, assign, body, hy, hR⟩ := HY.out pre (j, nval (nd ms j) ka kc) w1 w1 HR1.out.inv (Below.refl _ _) hcm
          have HRR := Lib.hid hR; have HB := Lib.hid hb
          simp only [enc2, nval] at hy
          have c0 := s1.c0; have c1 := s1.c1; have c2 := s1.c2; have c3 := s1.c3; have c4 := s1.c4; have c5 := s1.c5
          clear hR hcm hb s1
          gi_wp2_with fail
          refine ⟨rfl, HRR.out.mono ?_⟩
          clear hy
          rintro e W3 (⟨rfl, hj3, hk3, hd3⟩ | ⟨rfl, hx3, hd3⟩)
          · have hnext := HR1.out.tell HB.out _ hj3 hk3 hd3
            have HNX := Lib.hid hnext
            clear hnext hj3 hk3 hd3 c0 c1 c2 c3 c4 c5 hx hoc
            gi_wp2
            go_roundw
            case rel => exact ⟨j + 1, _, by omega, by go_num, HNX.out⟩
            case measure => simp [intOf]; omega
          · have hdd := hd3 _ _ HR1.out.defs
            have HX3 := Lib.hid hx3; have HDD := Lib.hid hdd
            clear hx3 hd3 hdd c0 c1 c2 c3 c4 c5 hx hoc
            gi_wp2
            refine ⟨by simp, .inl ⟨_, _, rfl, run_takeDeferred HDD.out, ?_⟩⟩
            exact ⟨_, results_none rfl _ _ _, ⟨_, rfl⟩, .inr ⟨_, trivial, HJX.out _ _ _ HX3.out (Still.putObj _ (by omega) HDD.out rfl)⟩⟩
      · obtain rfl : j = i + 1 := by omega
        gi_wp2
        refine ⟨by simp, .inl ⟨_, _, rfl, run_takeDeferred HR.out.defs, ?_⟩⟩
        refine ⟨_, results_none rfl _ _ _, ⟨_, rfl⟩, .inl ⟨pre, ?_, HJ.out _ _ _ HR.out.inv (Still.putObj _ (by omega) HR.out.defs rfl)⟩⟩
        rw [HR.out.nums]
        simp only [List.mem_filter, List.mem_range]
        exact ⟨by omega, HM5.out.top⟩

end Go.Proofs.YteknddfpdpaodaaGreatDoor
