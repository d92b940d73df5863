/- What an expression comes to: measure, and with it Size and Deep. -/
import Derived.Test.YteknddfpdpaodaaGreatDoorTOnce1
namespace Go.Proofs.YteknddfpdpaodaaGreatDoor
open Go.RowKit Go.Shelf Tn

attribute [local go_sem] Oper.semAt_some

def fc (fs : List Int) : Array Value := (ints fs).toArray
theorem fc_get {fs : List Int} {j : Nat} (h : j < fs.length) : (fc fs)[j]? = some (.int .i64 (kid fs j)) := by simp [fc, ints_get h]
theorem fc_set (fs : List Int) (j : Nat) (v : Int) : (fc fs).setIfInBounds j (.int .i64 v) = fc (fs.set j v) := by simp [fc, ints, List.map_set]
theorem fc_made (n : Nat) : madeCells #[Value.int .i64 0] n = fc (List.replicate n 0) := by
  apply Array.ext
  · simp [madeCells, fc, ints]
  · intro i h1 h2
    simp [madeCells, fc, ints, Nat.mod_one]
theorem kid_set_same {fs : List Int} {j : Nat} (h : j < fs.length) (v : Int) : kid (fs.set j v) j = v := by simp [kid, h]
theorem kid_set_other {fs : List Int} {j q : Nat} (h : q ≠ j) (v : Int) : kid (fs.set j v) q = kid fs q := by simp [kid, List.getElem?_set_ne (Ne.symm h)]

/-- these numbers lie there -/
structure FAt (W : World) (Bf : Nat) (fs : List Int) : Prop where
  blk : W.heap[Bf]? = some (.cells (fc fs) 3 (0, 0))
theorem FAt.cell {W : World} {Bf : Nat} {fs : List Int} (h : FAt W Bf fs) {j : Nat} (hj : j < fs.length) : W.cell? ⟨Bf, j, none⟩ = some (.int .i64 (kid fs j)) := (blk_cell h.blk j).trans (fc_get hj)
theorem FAt.fz {W : World} {Bf : Nat} {fs : List Int} (h : FAt W Bf fs) (j : Nat) : W.frozen? ⟨Bf, j, none⟩ = false := blk_frozen h.blk j
theorem FAt.set {W : World} {Bf : Nat} {fs : List Int} (h : FAt W Bf fs) (j : Nat) (v : Int) : FAt (W.setCell ⟨Bf, j, none⟩ (.int .i64 v)) Bf (fs.set j v) := ⟨by rw [blk_set h.blk, fc_set]⟩

theorem make_ints (i : Nat) (hi : i ≤ 1000000) (w : World) : (Instr.makeSlice 45 (.int .i64 ((i : Int) + 1)) (.int .i64 ((i : Int) + 1))).run Tryz.prog w = .ok (.slice (some ⟨w.heap.size, 0, none⟩) (i + 1) (i + 1)) (w.alloc (.cells (fc (List.replicate (i + 1) 0)) 3)) := by
  have := run_make_row' (P := Tryz.prog) 45 3 (.int .i64 0) 8 Tryz.underlying45 Tryz.info3 rfl .i64 .i64 (i + 1) (by omega) (by omega) w
  rw [fc_made] at this
  simpa using this

section
variable (f : Int → Int → Int) (ms : List Nd) (i : Nat)

/-- what is in memory when these nodes have come: b0 the join's box, b0 + 1 what was found, b0 + 2 its box -/
structure FMem (w : World) (fj b0 : Nat) (nums : List Nat) (fs : List Int) (W : World) : Prop where
  len : fs.length = i + 1
  come : ∀ j ∈ nums, kid fs j = M f ms j
  none : ∀ j, j ∉ nums → kid fs j = 0
  row : FAt W (b0 + 1) fs
  box : W.heap[b0 + 2]? = some (.cells #[.slice (some ⟨b0 + 1, 0, Option.none⟩) (i + 1) (i + 1)] 45 (0, 0))
  fn : W.heap[b0]? = some (.cells #[.func (.func fj) #[] #[]] 72 (0, 0))
  below : Below b0 w W

/-- in a round: of the node's parts t are through -/
structure FIn (Wb : World) (b0 k t : Nat) (fs0 fs : List Int) (W : World) : Prop where
  len : fs.length = i + 1
  same : ∀ j, j ≠ k → kid fs j = kid fs0 j
  at_ : kid fs k = upto f ms (nd ms k).kids t
  row : FAt W (b0 + 1) fs
  others : KeepsOthers Wb W
  kept : Kept b0 (fun b _ => b = b0 + 1) Wb W
end

section
variable {f : Int → Int → Int} {ms : List Nd} {i : Nat}

theorem FMem.still {w : World} {fj b0 : Nat} {nums : List Nat} {fs : List Int} {A B : World} (h : FMem f ms i w fj b0 nums fs A) (hs : Still b0 A B) : FMem f ms i w fj b0 nums fs B :=
  ⟨h.len, h.come, h.none, ⟨hs.same _ _ _ _ (fun e => e) h.row.blk⟩, hs.same _ _ _ _ (fun e => e) h.box, hs.same _ _ _ _ (fun e => e) h.fn, h.below.trans hs.below⟩

theorem kept_set {A B : World} {b0 k : Nat} {v : Value} (hb : Below A.heap.size A B) (hs : b0 + 1 < A.heap.size) : Kept b0 (fun b _ => b = b0 + 1) A (B.setCell ⟨b0 + 1, k, none⟩ v) := by
  refine Kept.trans ((Still.of_below hb (Nat.le_refl _)).mono (by omega) (fun _ _ e => e.elim)) ?_
  exact ⟨(Below.refl _ _).setCell (p := ⟨b0 + 1, k, none⟩) (by simp) _, fun b' c t r hne hb' => (blk_other hne _ _).trans hb'⟩

theorem FIn.step {Wb : World} {b0 k t : Nat} {fs0 fs : List Int} {W W' : World} (h : FIn f ms i Wb b0 k t fs0 fs W) (hki : k ≤ i) (hb : Below W.heap.size W W') (v : Int) (hv : v = upto f ms (nd ms k).kids (t + 1)) :
    FIn f ms i Wb b0 k (t + 1) fs0 (fs.set k v) (W'.setCell ⟨b0 + 1, k, none⟩ (.int .i64 v)) := by
  have hrow : FAt W' (b0 + 1) fs := ⟨(hb.block (b0 + 1) (lt_of_heap h.row.blk)).trans h.row.blk⟩
  have hlen := h.len
  exact ⟨by simpa using hlen, fun j hj => by rw [kid_set_other hj]; exact h.same j hj, by rw [kid_set_same (by omega)]; exact hv, hrow.set k v, h.others.trans ((others_of_below hb).trans (KeepsOthers.setCell _ _ _)), h.kept.trans (kept_set hb (lt_of_heap h.row.blk))⟩

theorem FIn.end {Wb w : World} {fj b0 k : Nat} {nums : List Nat} {fs0 fs : List Int} {W W' : World} (h : FIn f ms i Wb b0 k (nd ms k).kids.length fs0 fs W) (h0 : FMem f ms i w fj b0 nums fs0 Wb) (hw : WF ms) (hks : k < ms.length) (hki : k ≤ i) (hnew : k ∉ nums) (hb : Below W.heap.size W W') (v : Int) (hv : v = upto f ms (nd ms k).kids (nd ms k).kids.length + 1) :
    KeepsOthers Wb (W'.setCell ⟨b0 + 1, k, none⟩ (.int .i64 v)) ∧ Kept b0 (fun b _ => b = b0 + 1) Wb (W'.setCell ⟨b0 + 1, k, none⟩ (.int .i64 v)) ∧ FMem f ms i w fj b0 (nums ++ [k]) (fs.set k v) (W'.setCell ⟨b0 + 1, k, none⟩ (.int .i64 v)) := by
  have hrow : FAt W' (b0 + 1) fs := ⟨(hb.block (b0 + 1) (lt_of_heap h.row.blk)).trans h.row.blk⟩
  have hlen := h.len
  have hkp := h.kept.trans (kept_set (k := k) (v := .int .i64 v) hb (lt_of_heap h.row.blk))
  refine ⟨h.others.trans ((others_of_below hb).trans (KeepsOthers.setCell _ _ _)), hkp, by simpa using hlen, ?_, ?_, hrow.set k v, hkp.same _ _ _ _ (by omega) h0.box, hkp.same _ _ _ _ (by omega) h0.fn, h0.below.trans hkp.below⟩
  · intro j hj
    by_cases e : j = k
    · subst e; rw [kid_set_same (by omega), hv, M_eq f hw hks]
    · rw [kid_set_other e, h.same j e]
      refine h0.come j ?_
      rcases List.mem_append.1 hj with hj | hj
      · exact hj
      · simp at hj; exact absurd hj e
  · intro j hj
    have hj' : j ∉ nums ∧ j ≠ k := by simpa using hj
    rw [kid_set_other hj'.2, h.same j hj'.2]
    exact h0.none j hj'.1
end

theorem join24 (a b : Int) (w : World) (h0 : 0 ≤ a) (h1 : a ≤ 1000000) (h2 : 0 ≤ b) (h3 : b ≤ 1000000) : Calls Tryz.prog 27 #[.int .i64 a, .int .i64 b] w fun e w' => e = .returned (.int .i64 ((fun x y : Int => x + y) a b)) ∧ w = w' := size1_any a b w h0 h1 h2 h3
/-- measure's frame where the numbers are being found -/
def fr23 (bt : Nat) (i fj b0 s2 : Nat) (v8 v9 v22 v23 : Value) : Array Value :=
  #[.pointer (some ⟨bt, 0, none⟩), .int .i64 (i : Int), .func (.func fj) #[] #[], undef, undef, .pointer (some ⟨b0, 0, none⟩), .int .i64 0, .pointer (some ⟨b0 + 2, 0, none⟩), v8, v9, undef, undef,
    .pointer (some ⟨bt, 0, none⟩), .int .i64 (i : Int), .bool true, .bool false, .int .i64 (i : Int), .int .i64 ((i : Int) + 1), .slice (some ⟨b0 + 1, 0, none⟩) (i + 1) (i + 1), .pointer (some ⟨bt, 0, none⟩), .int .i64 (i : Int),
    .func (.func 58) #[] #[.pointer (some ⟨s2 + 1, 0, none⟩), .pointer (some ⟨s2, 0, none⟩)], v22, v23, undef, undef, undef, undef, undef, undef, undef, undef, undef, undef, undef, undef, undef, undef, undef, undef, undef, undef, undef, undef, undef, undef, undef, undef, undef, undef, undef, undef, undef, undef, undef]

set_option maxRecDepth 100000 in
set_option maxHeartbeats 4000000 in
theorem measure24_any (N bt : Nat) (ao : Option Addr) (cap : Nat) (ms : List Nd) (i : Nat) (w : World) (hw : WF ms) (hf : ∀ i, i < ms.length → (nd ms i).kids.length ≤ 999000) (hi : i < ms.length) (hl : ms.length ≤ 1000000) (ht : TreeAt N w bt ao cap ms) (hN : N ≤ w.heap.size)
    (hbd : ∀ k, k < ms.length → ∀ j, j ≤ (nd ms k).kids.length → 0 ≤ upto (· + ·) ms (nd ms k).kids j ∧ upto (· + ·) ms (nd ms k).kids j ≤ 999000) :
    Calls Tryz.prog 26 #[.pointer (some ⟨bt, 0, none⟩), .int .i64 (i : Int), .func (.func 27) #[] #[]] w fun e w' => e = .returned (.int .i64 (M (· + ·) ms i)) ∧ Below w.heap.size w w' := by
  have hmk := make_ints i (by omega)
  have HW := Lib.hid hw; have HF := Lib.hid hf; have HT := Lib.hid ht; have HBD := Lib.hid hbd
  clear hw hf ht hbd
  refine (callsIn_wide (n := 0)).1 ?_
  refine callsIn_of_wp_marks Tryz.func26 rfl trivial ?_ rfl
  simp only [Tryz.ntmps26, List.size_toArray, List.length_cons, List.length_nil, Nat.reduceAdd, Nat.reduceSub, Array.replicate_succ, Array.replicate_zero, List.push_toArray, List.append_toArray, List.nil_append, List.cons_append]
  obtain ⟨b0, hb0⟩ : ∃ b0, w.heap.size = b0 := ⟨_, rfl⟩
  have hb1 : Below b0 w (w.alloc (.cells #[.func (.func 27) #[] #[]] 72)) := by rw [← hb0]; exact (Below.refl _ w).alloc (Nat.le_refl _) _
  have hf1 : (w.alloc (.cells #[.func (.func 27) #[] #[]] 72)).heap[b0]? = some (.cells #[.func (.func 27) #[] #[]] 72 (0, 0)) := by rw [← hb0]; exact blk_new w _
  have hs1 : (w.alloc (.cells #[.func (.func 27) #[] #[]] 72)).heap.size = b0 + 1 := by rw [← hb0]; simp
  refine wpIn_wide.2 ?_
  go_upto_region 1 with fail
  generalize w.alloc (.cells #[.func (.func 27) #[] #[]] 72) = w1 at *
  have ht1 := HT.out.below (hb1.mono (by omega))
  have hc1 := ht1.cell
  have HC1 := Lib.hid hc1; have HT1 := Lib.hid ht1; have HS1 := Lib.hid hs1
  clear hc1 ht1 hs1
  go_upto_region 4 with (go_at_call 24; refine (has_yes bt ao ms.length cap i w1 HC1.out (by omega) (by omega)).mono ?_; rintro e w' ⟨rfl, rfl⟩)
  have hs1 := HS1.out
  have hrow2 : FAt ((w1.alloc (.cells (fc (List.replicate (i + 1) 0)) 3)).alloc (.cells #[.slice (some ⟨w1.heap.size, 0, none⟩) (i + 1) (i + 1)] 45)) (b0 + 1) (List.replicate (i + 1) 0) := ⟨by rw [← hs1]; exact blk_alloc (blk_new w1 _) _⟩
  have hbx2 : ((w1.alloc (.cells (fc (List.replicate (i + 1) 0)) 3)).alloc (.cells #[.slice (some ⟨w1.heap.size, 0, none⟩) (i + 1) (i + 1)] 45)).heap[b0 + 2]? = some (.cells #[.slice (some ⟨b0 + 1, 0, none⟩) (i + 1) (i + 1)] 45 (0, 0)) := by
    rw [show b0 + 2 = w1.heap.size + 1 by omega, ← hs1]; have := blk_new (w1.alloc (.cells (fc (List.replicate (i + 1) 0)) 3)) (.cells #[.slice (some ⟨w1.heap.size, 0, none⟩) (i + 1) (i + 1)] 45); rwa [World.size_alloc] at this
  have hb2 : Below (b0 + 1) w1 ((w1.alloc (.cells (fc (List.replicate (i + 1) 0)) 3)).alloc (.cells #[.slice (some ⟨w1.heap.size, 0, none⟩) (i + 1) (i + 1)] 45)) := by rw [← hs1]; exact ((Below.refl _ w1).alloc (Nat.le_refl _) _).alloc (by simp) _
  generalize (w1.alloc (.cells (fc (List.replicate (i + 1) 0)) 3)).alloc (.cells #[.slice (some ⟨w1.heap.size, 0, none⟩) (i + 1) (i + 1)] 45) = w2 at *
  have hs2 := lt_of_heap hbx2
  rw [hs1]
  have hf2 := (hb2.block b0 (by omega)).trans hf1
  have hB2 := hb1.trans (hb2.mono (by omega))
  have H2 := Lib.hid hb2
  clear hb1 hb2 hf1 HC1
  go_wp2_with (go_at_call 41; refine (once_any bt (i : Int) w2).mono ?_; rintro e w3 ⟨rfl, hx0, hx1, hb3⟩)
  have hM : FMem (· + ·) ms i w 27 b0 [] (List.replicate (i + 1) 0) w3 :=
    ⟨by simp, fun j hj => by simp at hj, fun j _ => by simp [kid, List.getElem?_replicate]; split <;> rfl, ⟨(hb3.block _ (by omega)).trans hrow2.blk⟩, (hb3.block _ (by omega)).trans hbx2, (hb3.block _ (by omega)).trans hf2, hB2.trans (hb3.mono (by omega))⟩
  have hs3 := lt_of_heap hx1
  have HM := Lib.hid hM; have HX0 := Lib.hid hx0; have HX1 := Lib.hid hx1
  clear hM hx0 hx1 hrow2 hbx2 hf2 hB2 hmk hb3
  obtain ⟨s2, hs2'⟩ : ∃ s2, w2.heap.size = s2 := ⟨_, rfl⟩
  rw [hs2'] at HX0 HX1 hs2 hs3 ⊢
  clear hs2' H2
  refine (wpIn_wide (n := 0)).1 (wp_range (gf := 58) (lb := #[.pointer (some ⟨s2 + 1, 0, none⟩), .pointer (some ⟨s2, 0, none⟩)]) rfl (enters_of Tryz.func58 (by kernel_rfl) rfl) (encs := enc2) (fun _ => rfl) (G := fun _ => ComesO b0 ms i) (N := b0) (M := fun b _ => b = b0 + 1) (S := fun xs => i ∈ xs.map (·.1)) (Sp := fun _ => True) ?hN ?hseq
    (fun pre W' => ∃ fs, FMem (· + ·) ms i w 27 b0 (pre.map fun p : Nat × Value => p.1) fs W') (fun _ _ _ => False)
    (fun _ x a C => ∃ Bn ka kc, b0 + 2 < Bn ∧ x.2 = nval (nd ms x.1) ka kc ∧ Six C Bn 47 (.string (nd ms x.1).op) (.int .i64 (nd ms x.1).line) (.int .i64 (nd ms x.1).col) (.string (nd ms x.1).name) (.int .i64 (nd ms x.1).num) (.slice ka (nd ms x.1).kids.length kc) ∧
      a = { tmps := fr23 bt i 27 b0 s2 (.int .i64 (x.1 : Int)) (.pointer (some ⟨Bn, 0, none⟩)) (.int .i64 (x.1 : Int)) x.2, defers := [] })
    (fun _ A B h hs => h.elim fun fs h => ⟨fs, h.still hs⟩) (fun _ _ _ _ h _ => h) (fun _ s x A B h hs => ⟨h.le, h.lt, h.kids, h.val.elim fun ka h => h.elim fun kc h => ⟨ka, kc, h.1, h.2.below hs.below⟩⟩)
    (fun s x a C B h hs => h.elim fun Bn h => h.elim fun ka h => h.elim fun kc h => ⟨Bn, ka, kc, h.1, h.2.1, ⟨hs.same _ _ _ _ (fun e => e) h.2.2.1.blk⟩, h.2.2.2⟩) ⟨_, HM.out⟩ ?assign ?body ?done ?stop)
  case hN => omega
  case hseq =>
    intro l' W' hb'
    have hb4 : Below b0 w W' := HM.out.below.trans (hb'.mono (by omega))
    have q0 := (hb'.block _ (lt_of_heap HX0.out)).trans HX0.out
    have q1 := (hb'.block _ (lt_of_heap HX1.out)).trans HX1.out
    have := hb'.size
    exact once1 ms i l' b0 bt ao cap s2 (s2 + 1) (b0 + 1) W' HW.out HF.out hi hl ((HT.out.below (hb4.mono (by omega))).mono (by omega)) (by omega) (by omega) ((blk_cell q0 0).trans rfl) ((blk_cell q1 0).trans rfl)
  case stop => rintro D c pre W' _ _ h; exact h.elim
  case assign =>
    rintro l' pre ⟨k, v⟩ W0' W' ⟨fs, hm0⟩ hst hg
    have hm := hm0.still hst
    clear hm0 hst
    obtain ⟨ka, kc, hv, hk⟩ := hg.val
    have hv : v = nval (nd ms k) ka kc := hv
    subst hv
    have hx := lt_of_heap hm.box
    have HMM := Lib.hid hm
    clear hm hg hk
    simp only [enc2, nval]
    gi_wp2
    exact ⟨KeepsOthers.alloc _ _, Still.alloc _ _ _ (by omega), W'.heap.size, hx, ka, kc, ⟨rfl, rfl⟩, ⟨blk_new _ _⟩, rfl⟩
  case done =>
    rintro D xs W5 hD hxs ⟨fs, hm⟩ hdef
    have e1 := hm.come i hxs
    have hlen := hm.len
    have c1 := hm.row.cell (j := i) (by omega)
    rw [e1] at c1
    have c2 : W5.cell? ⟨b0 + 2, 0, none⟩ = some (.slice (some ⟨b0 + 1, 0, none⟩) (i + 1) (i + 1)) := (blk_cell hm.box 0).trans rfl
    have hbw := hm.below
    have HDF := Lib.hid hdef; have HBW := Lib.hid hbw
    clear hm hdef hbw e1
    simp only []
    go_wp2
    refine ⟨by simp, .inl ⟨_, _, rfl, run_takeDeferred HDF.out, ?_⟩⟩
    refine ⟨_, results_tmp rfl _ _ _, rfl, ?_⟩
    rw [hb0]
    exact HBW.out.trans (Still.putObj _ (by omega) HDF.out rfl).below
  case body =>
    rintro l' pre ⟨k, v⟩ a₁ W0' W' ⟨fs0, hm0⟩ hst hg ⟨Bn, ka, kc, hBn, hv, hs6, rfl⟩
    have hm := hm0.still hst
    clear hm0 hst
    obtain ⟨ka', kc', hv', hk⟩ := hg.val
    have hki : k ≤ i := hg.le
    have hlt := hg.lt
    have hgk := hg.kids
    have hv : v = nval (nd ms k) ka kc := hv
    have hv' : v = nval (nd ms k) ka' kc' := hv'
    obtain ⟨rfl, rfl⟩ : ka' = ka ∧ kc' = kc := by
      rw [hv] at hv'; simp [nval] at hv'; exact ⟨hv'.1.symm, hv'.2.symm⟩
    subst hv
    have hkids : IntsAt b0 W' ka' (nd ms k).kids := hk
    have hnew : k ∉ pre.map (·.1) := fun h => Nat.lt_irrefl _ (hlt k h)
    have hin : FIn (· + ·) ms i W' b0 k 0 fs0 fs0 W' := ⟨hm.len, fun _ _ => rfl, (hm.none k hnew).trans rfl, hm.row, KeepsOthers.refl _, Kept.refl _ _ _⟩
    have hkl := HF.out k (by omega)
    have hks : k < ms.length := by omega
    have d5 := hs6.c5
    have HIN := Lib.hid hin; have HM' := Lib.hid hm; have HK := Lib.hid hkids; have HS6 := Lib.hid hs6; have HNEW := Lib.hid hnew; have HGK := Lib.hid hgk
    clear hm hg hk hv' hkids hin hs6 hlt hgk hnew
    simp only [fr23]
    gi_wp2
    gi_loopw [27] (fun t wr => ∃ (tn : Nat) (fs : List Int), tn ≤ (nd ms k).kids.length ∧ t = .int .i64 tn ∧ FIn (· + ·) ms i W' b0 k tn fs0 fs wr) (fun t _ => (nd ms k).kids.length - (intOf t).toNat)
    case atStart => exact ⟨0, fs0, Nat.zero_le _, rfl, HIN.out⟩
    case round =>
      obtain ⟨tn, fs, htn, rfl, hfi⟩ := hrel
      have HFI := Lib.hid hfi
      have hfl := hfi.len
      obtain ⟨hu0, hu1⟩ := HBD.out k hks tn htn
      have hrow := hfi.row.cell (j := k) (by omega)
      rw [hfi.at_] at hrow
      have hbox : wr.cell? ⟨b0 + 2, 0, none⟩ = some (.slice (some ⟨b0 + 1, 0, none⟩) (i + 1) (i + 1)) := (blk_cell (hfi.kept.same (b0 + 2) _ _ _ (by omega) HM'.out.box) 0).trans rfl
      have hfz := hfi.row.fz k
      by_cases htl : tn < (nd ms k).kids.length
      · obtain ⟨b2, o2, rfl, hb2, hc2⟩ := (HK.out.below hfi.kept.below) tn htl
        have hmem := HGK.out _ (kid_mem htl)
        have hkm := kid_lt HW.out hks (kid_mem htl)
        obtain ⟨q, hq⟩ : ∃ q : Nat, kid (nd ms k).kids tn = (q : Int) := ⟨(kid (nd ms k).kids tn).toNat, hkm.2.symm⟩
        have hqk : q < k := by omega
        rw [hq, Int.toNat_natCast] at hmem
        rw [hq] at hc2
        have hs := upto_succ (· + ·) ms htl
        rw [hq, Int.toNat_natCast] at hs
        have hrq := hfi.row.cell (j := q) (by omega)
        rw [hfi.same q (by omega), HM'.out.come q hmem] at hrq
        have hMq := M_eq (· + ·) HW.out (show q < ms.length by omega)
        obtain ⟨hm0, hm1⟩ := HBD.out q (by omega) _ (Nat.le_refl _)
        have hM0 : 0 ≤ M (· + ·) ms q := by rw [hMq]; omega
        have hM1 : M (· + ·) ms q ≤ 999001 := by rw [hMq]; omega
        have hfn : wr.cell? ⟨b0, 0, none⟩ = some (.func (.func 27) #[] #[]) := (blk_cell (hfi.kept.same b0 _ _ _ (by omega) HM'.out.fn) 0).trans rfl
        have y0 := fun x : Later wr => Later.cell hbox x
        have y1 := fun x : Later wr => Later.cell hrow x
        have y2 := fun x : Later wr => Later.cell hrq x
        have y3 := fun x : Later wr => Later.cell hfn x
        have k1 : ∀ x : Later wr, Calls Tryz.prog 27 #[.int .i64 (upto (· + ·) ms (nd ms k).kids tn), .int .i64 (M (· + ·) ms q)] x.wx fun e w'' => e = .returned (.int .i64 (upto (· + ·) ms (nd ms k).kids (tn + 1))) ∧ ∃ y : Later wr, w'' = y.wx := fun x => by rw [hs]; exact calls_later_same (join24 _ _ x.wx hu0 (by omega) hM0 (by omega))
        have K1 := Lib.hid k1
        have hfin : ∀ x : Later wr, FIn (· + ·) ms i W' b0 k (tn + 1) fs0 (fs.set k (upto (· + ·) ms (nd ms k).kids (tn + 1))) (x.wx.setCell ⟨b0 + 1, k, none⟩ (.int .i64 (upto (· + ·) ms (nd ms k).kids (tn + 1)))) := fun x => hfi.step hki x.le _ rfl
        have hfzx : ∀ x : Later wr, x.wx.frozen? ⟨b0 + 1, k, none⟩ = false := fun x => by rw [x.le.frozen (lt_of_heap hfi.row.blk)]; exact hfz
        have HFIN := Lib.hid hfin; have HFZ := Lib.hid hfzx
        clear hfin hfzx hfi hs hMq hmem hkm hq k1 hM0 hM1 hm0 hm1
        gi_upto_region 10 with fail
        clear hc2 hbox hrow hrq hfn hfz
        refine in_region_later_tail 13 (fun ⟨_, _, h⟩ => h) (by kernel_rfl) (by kernel_rfl) (by kernel_rfl) ?_
        simp only [List.take_succ_cons, List.take_zero, List.drop_succ_cons, List.drop_zero]
        repeat (go_big_quiet_step (first | (go_at_call 27; with_reducible exact K1.out _)))
        refine wpQuiet_nil ?_
        intro x
        have hfz := HFZ.out x
        have hf2 := HFIN.out x
        have y1 := y1 x
        clear y0 y2 y3 HFIN HFZ K1
        generalize x.wx = W6 at *
        go_wp2_with fail
        gi_wp2
        go_roundw
        case rel => exact ⟨tn + 1, _, by omega, by go_num, hf2⟩
        case measure => simp [intOf]; omega
      · obtain rfl : tn = (nd ms k).kids.length := by omega
        have hend := hfi.end HM'.out HW.out hks hki HNEW.out (Below.refl _ _) (upto (· + ·) ms (nd ms k).kids (nd ms k).kids.length + 1) rfl
        have HE := Lib.hid hend
        clear hend hfi
        gi_wp2
        obtain ⟨e1, e2, e3⟩ := HE.out
        exact ⟨e1, e2, _, by rw [List.map_append]; exact e3⟩

/-- no such expression -/
theorem measure_no (bt : Nat) (ao : Option Addr) (len cap fj : Nat) (i : Int) (w : World) (hc : w.cell? ⟨bt, 0, none⟩ = some (.slice ao len cap)) (h : ¬ (0 ≤ i ∧ i < (len : Int))) :
    Calls Tryz.prog 26 #[.pointer (some ⟨bt, 0, none⟩), .int .i64 i, .func (.func fj) #[] #[]] w fun e w' => e = .returned (.int .i64 0) ∧ Below w.heap.size w w' := by
  have hb1 : Below w.heap.size w (w.alloc (.cells #[.func (.func fj) #[] #[]] 72)) := (Below.refl _ w).alloc (Nat.le_refl _) _
  have hc1 : (w.alloc (.cells #[.func (.func fj) #[] #[]] 72)).cell? ⟨bt, 0, none⟩ = some (.slice ao len cap) := (hb1.cell (p := ⟨bt, 0, none⟩) (World.block_lt_of_cell? _ _ hc)).trans hc
  have HC := Lib.hid hc1; have HN := Lib.hid h; have HB := Lib.hid hb1
  clear hc1 h hb1 hc
  refine (callsIn_wide (n := 0)).1 ?_
  refine callsIn_of_wp_marks Tryz.func26 rfl trivial ?_ rfl
  simp only [Tryz.ntmps26, List.size_toArray, List.length_cons, List.length_nil, Nat.reduceAdd, Nat.reduceSub, Array.replicate_succ, Array.replicate_zero, List.push_toArray, List.append_toArray, List.nil_append, List.cons_append]
  refine wpIn_wide.2 ?_
  go_wp2_with (go_at_call 24; refine (has_no bt ao len cap i _ HC.out HN.out).mono ?_; rintro e w' ⟨rfl, rfl⟩)
  exact ⟨_, results_tmp rfl _ _ _, rfl, HB.out⟩

theorem bounds_plus {ms : List Nd} (hw : WF ms) (hg : Tn.Good ms) : ∀ k, k < ms.length → ∀ j, j ≤ (nd ms k).kids.length → 0 ≤ upto (· + ·) ms (nd ms k).kids j ∧ upto (· + ·) ms (nd ms k).kids j ≤ 999000 := fun k hk j hj => by
  rw [upto_len (fun q hq => M_len hw _ (by have := kid_lt hw hk hq; omega)) j hj]
  have h2 := partPl_le ms (nd ms k).kids hj
  have h3 := hg.2 k hk
  rw [Pl_eq hw hk, List.length_cons] at h3
  omega
theorem bounds_max {ms : List Nd} (hw : WF ms) (hg : Tn.Good ms) : ∀ k, k < ms.length → ∀ j, j ≤ (nd ms k).kids.length → 0 ≤ upto max ms (nd ms k).kids j ∧ upto max ms (nd ms k).kids j ≤ 999000 := fun k hk j hj => by
  have h1 := upto_max (ms := ms) (ks := (nd ms k).kids) (fun q hq => M_max hw _ (by have := kid_lt hw hk hq; omega)) j hj
  have h2 := partPl_le ms (nd ms k).kids hj
  have h3 := hg.2 k hk
  rw [Pl_eq hw hk, List.length_cons] at h3
  omega

theorem size_any (N bt : Nat) (ao : Option Addr) (cap : Nat) (ms : List Nd) (i : Nat) (w : World) (hw : WF ms) (hf : ∀ i, i < ms.length → (nd ms i).kids.length ≤ 999000) (hg : Tn.Good ms) (hi : i < ms.length) (ht : TreeAt N w bt ao cap ms) (hN : N ≤ w.heap.size) :
    Calls Tryz.prog 13 #[.pointer (some ⟨bt, 0, none⟩), .int .i64 (i : Int)] w fun e w' => e = .returned (.int .i64 (M (· + ·) ms i)) ∧ Below w.heap.size w w' := by
  have h := measure24_any N bt ao cap ms i w hw hf hi (by have := hg.1; omega) ht hN (bounds_plus hw hg)
  have H := Lib.hid h
  clear h hw hf hg ht
  go_enter Tryz.func13, Tryz.ntmps13
  go_wp2_with (go_at_call 26; refine H.out.mono ?_; rintro e w' ⟨rfl, hb⟩)
  go_ret
  exact ⟨rfl, hb⟩
theorem size_no (bt : Nat) (ao : Option Addr) (len cap : Nat) (i : Int) (w : World) (hc : w.cell? ⟨bt, 0, none⟩ = some (.slice ao len cap)) (h : ¬ (0 ≤ i ∧ i < (len : Int))) :
    Calls Tryz.prog 13 #[.pointer (some ⟨bt, 0, none⟩), .int .i64 i] w fun e w' => e = .returned (.int .i64 0) ∧ Below w.heap.size w w' := by
  have H := Lib.hid (measure_no bt ao len cap 27 i w hc h)
  clear hc h
  go_enter Tryz.func13, Tryz.ntmps13
  go_wp2_with (go_at_call 26; refine H.out.mono ?_; rintro e w' ⟨rfl, hb⟩)
  go_ret
  exact ⟨rfl, hb⟩
end Go.Proofs.YteknddfpdpaodaaGreatDoor
