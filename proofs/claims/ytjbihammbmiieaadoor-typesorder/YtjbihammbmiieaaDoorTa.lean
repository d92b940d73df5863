/- Types: made, asked, read. -/
import Derived.Test.YtjbihammbmiieaaDoorTb
import Derived.Deep.QuietTactic
import Derived.Deep.DeepCutAuto
import Derived.Deep.RegionWith
import Derived.Deep.RegionLaw
import Derived.BigRegion
namespace Go.Proofs.YtjbihammbmiieaaDoor
open Go.RowKit Un

theorem tnew_any (B : Nat) (w : World) (hB : B ≤ w.heap.size) : Calls Tryd.prog 7 #[] w fun e w' => e = .returned (.pointer (some ⟨w.heap.size, 0, none⟩)) ∧ TabAt B w' w.heap.size [] (.slice none 0 0) ∧ Below w.heap.size w w' := by
  go_enter Tryd.func7, Tryd.ntmps7
  go_wp2
  go_ret
  exact ⟨rfl, ⟨by simp; omega, hB, blk_new w _, ⟨rfl, .inl ⟨rfl, rfl⟩⟩, by simp⟩, (Below.refl _ w).alloc (Nat.le_refl _) _⟩

theorem has_any (B bt : Nat) (R : List Nx) (v : Value) (x : Int) (w : World) (h : TabAt B w bt R v) (h0 : -1000000 ≤ x) (h1 : x ≤ 1000000) : Calls Tryd.prog 23 #[.pointer (some ⟨bt, 0, none⟩), .int .i64 x] w fun e w' => e = .returned (.bool (decide (0 ≤ x ∧ x < R.length + 3))) ∧ w = w' := by
  obtain ⟨ao, cap, rfl, _⟩ := h.slice
  have hc := h.cell
  have hf := h.few
  clear h
  by_cases hx : 0 ≤ x
  · by_cases hx2 : x < R.length + 3
    · go_enter Tryd.func23, Tryd.ntmps23
      go_wp2
      go_ret
      exact ⟨ret_bool (by rw [decide_eq_true (show 0 ≤ x ∧ x < R.length + 3 from ⟨hx, hx2⟩), decide_eq_true_iff]; omega), rfl⟩
    · go_enter Tryd.func23, Tryd.ntmps23
      go_wp2
      go_ret
      exact ⟨ret_bool (by simp; omega), rfl⟩
  · go_enter Tryd.func23, Tryd.ntmps23
    go_wp2
    go_ret
    exact ⟨ret_bool (by simp; omega), rfl⟩
theorem has_nil (x : Int) (w : World) : Calls Tryd.prog 23 #[.pointer none, .int .i64 x] w fun e w' => e = .returned (.bool false) ∧ w = w' := by
  go_enter Tryd.func23, Tryd.ntmps23
  go_wp2
  go_ret
  exact ⟨rfl, rfl⟩


theorem four_set (w : World) (b : Nat) {t : TypeId} {u0 u1 u2 u3 : Value} (h : w.heap[b]? = some (.cells #[u0, u1, u2, u3] t (0, 0))) (v0 v1 v2 v3 : Value) :
    ((((w.setCell ⟨b, 0, none⟩ v0).setCell ⟨b, 1, none⟩ v1).setCell ⟨b, 2, none⟩ v2).setCell ⟨b, 3, none⟩ v3).heap[b]? = some (.cells #[v0, v1, v2, v3] t (0, 0)) :=
  (blk_set (blk_set (blk_set (blk_set h 0 v0) 1 v1) 2 v2) 3 v3).trans rfl
theorem below_four {N : Nat} {a w : World} (h : Below N a w) {b : Nat} (hb : N ≤ b) (v0 v1 v2 v3 : Value) : Below N a ((((w.setCell ⟨b, 0, none⟩ v0).setCell ⟨b, 1, none⟩ v1).setCell ⟨b, 2, none⟩ v2).setCell ⟨b, 3, none⟩ v3) :=
  (((h.setCell (p := ⟨b, 0, none⟩) hb _).setCell (p := ⟨b, 1, none⟩) hb _).setCell (p := ⟨b, 2, none⟩) hb _).setCell (p := ⟨b, 3, none⟩) hb _
def GetP (w : World) (n : Nx) (e : Ending) (w' : World) : Prop := e = .returned (nval n) ∧ Below w.heap.size w w'

set_option maxRecDepth 100000 in
theorem get_any (B bt : Nat) (R : List Nx) (v : Value) (x : Nat) (w : World) (h : TabAt B w bt R v) (hx : x < R.length + 3) : Calls Tryd.prog 31 #[.pointer (some ⟨bt, 0, none⟩), .int .i64 x] w (GetP w (nx R x)) := by
  by_cases h3 : x < 3
  · rw [nx_low h3]
    clear h
    go_enter Tryd.func31, Tryd.ntmps31
    go_wp2
    refine bodyPost_ret (v := nval ⟨0, false, 0, 0⟩) (by simp [results, Tryd.results31, go_sem, nval]) rfl ⟨rfl, (Below.refl _ w).alloc (Nat.le_refl _) _⟩
  · have F : ∀ o, TabAt B (w.alloc o) bt R v := fun o => h.below ((Below.refl _ w).alloc (Nat.le_refl _) o)
    obtain ⟨g, cap, rfl, hg, hne, hcap⟩ := h.row (by omega)
    obtain ⟨y, rfl⟩ : ∃ y, x = y + 3 := ⟨x - 3, by omega⟩
    have e3 : y + 3 - 3 = y := by omega
    have c0 : ∀ o, (w.alloc o).cell? ⟨g, y * 4, none⟩ = some (.int .u8 (nx R (y + 3)).k) := fun o => by have := ((F o).node (x := y + 3) (by omega) hx).1; rwa [e3] at this
    have c1 : ∀ o, (w.alloc o).cell? ⟨g, y * 4 + 1, none⟩ = some (.bool (nx R (y + 3)).s) := fun o => by have := ((F o).node (x := y + 3) (by omega) hx).2.1; rwa [e3] at this
    have c2 : ∀ o, (w.alloc o).cell? ⟨g, y * 4 + 2, none⟩ = some (.int .i64 (nx R (y + 3)).f) := fun o => by have := ((F o).node (x := y + 3) (by omega) hx).2.2.1; rwa [e3] at this
    have c3 : ∀ o, (w.alloc o).cell? ⟨g, y * 4 + 3, none⟩ = some (.int .i64 (nx R (y + 3)).g) := fun o => by have := ((F o).node (x := y + 3) (by omega) hx).2.2.2; rwa [e3] at this
    have hc : ∀ o, (w.alloc o).cell? ⟨bt, 0, none⟩ = some (.slice (some ⟨g, 0, none⟩) R.length cap) := fun o => (F o).cell
    have hf := h.few
    have hy : y < R.length := by omega
    generalize nx R (y + 3) = n at c0 c1 c2 c3 ⊢
    generalize R.length = L at *
    clear h F
    go_enter Tryd.func31, Tryd.ntmps31
    go_wp2
    refine bodyPost_ret (v := nval n) (by simp [results, Tryd.results31, go_sem, nval]) rfl ⟨rfl, (Below.refl _ w).alloc (Nat.le_refl _) _⟩

/-- a node, put where another one was -/
def SetP (B bt : Nat) (R : List Nx) (v : Value) (w : World) (e : Ending) (w' : World) : Prop := e = .returned (.tuple #[]) ∧ TabAt B w' bt R v ∧ Ow v w w'

set_option maxRecDepth 100000 in
theorem set_any (B bt : Nat) (R : List Nx) (v : Value) (x : Nat) (n : Nx) (w : World) (h : TabAt B w bt R v) (h3 : 3 ≤ x) (hx : x < R.length + 3) : Calls Tryd.prog 38 #[.pointer (some ⟨bt, 0, none⟩), .int .i64 x, nval n] w (SetP B bt (R.set (x - 3) n) v w) := by
  obtain ⟨g, cap, rfl, hg, hne, hcap⟩ := h.row (by omega)
  obtain ⟨y, rfl⟩ : ∃ y, x = y + 3 := ⟨x - 3, by omega⟩
  have e3 : y + 3 - 3 = y := by omega
  generalize hW : w.alloc (.cells #[.int .u8 n.k, .bool n.s, .int .i64 n.f, .int .i64 n.g] 66) = W
  have hbW : Below w.heap.size w W := by rw [← hW]; exact (Below.refl _ w).alloc (Nat.le_refl _) _
  have hsW : W.heap[w.heap.size]? = some (.cells #[.int .u8 n.k, .bool n.s, .int .i64 n.f, .int .i64 n.g] 66 (0, 0)) := by rw [← hW]; exact blk_new w _
  have H := h.below hbW
  have hc := H.cell
  have c0 := (H.node (x := y + 3) (by omega) hx).1
  have c1 := (H.node (x := y + 3) (by omega) hx).2.1
  have c2 := (H.node (x := y + 3) (by omega) hx).2.2.1
  have c3 := (H.node (x := y + 3) (by omega) hx).2.2.2
  have hfz := H.frozen
  rw [e3] at c0 c1 c2 c3
  have s4 := H.set4 (x := y + 3) n (by omega) hx
  rw [e3] at s4 ⊢
  have n0 : W.cell? ⟨w.heap.size, 0, none⟩ = some (.int .u8 n.k) := (blk_cell hsW 0).trans rfl
  have n1 : W.cell? ⟨w.heap.size, 1, none⟩ = some (.bool n.s) := (blk_cell hsW 1).trans rfl
  have n2 : W.cell? ⟨w.heap.size, 2, none⟩ = some (.int .i64 n.f) := (blk_cell hsW 2).trans rfl
  have n3 : W.cell? ⟨w.heap.size, 3, none⟩ = some (.int .i64 n.g) := (blk_cell hsW 3).trans rfl
  have hf := h.few
  have hy : y < R.length := by omega
  have S4 := Lib.hid s4; have HW := Lib.hid hW; have HB := Lib.hid hbW
  clear h H hW s4 hbW hsW
  generalize R.length = L at *
  unfold nval
  go_enter Tryd.func38, Tryd.ntmps38
  go_wp2
  rw [HW.out]
  go_region
  all_goals
    go_wp2
    go_end0
    refine ⟨rfl, S4.out.1.below (Below.drew (Below.refl _ _)), ((Ow.of_below HB.out).trans S4.out.2).drew⟩

/-- told to be another one -/
theorem become_any (B bt : Nat) (R : List Nx) (v : Value) (x y : Nat) (w : World) (h : TabAt B w bt R v) (h3 : 3 ≤ x) (hx : x < R.length + 3) : Calls Tryd.prog 32 #[.pointer (some ⟨bt, 0, none⟩), .int .i64 x, .int .i64 y] w (SetP B bt (R.set (x - 3) ⟨3, false, y, 0⟩) v w) := by
  have H := Lib.hid h
  clear h
  go_enter Tryd.func32, Tryd.ntmps32
  go_wp2_with fail
  refine (set_any B bt R v x ⟨3, false, y, 0⟩ w H.out h3 hx).mono ?_
  rintro e w1 ⟨rfl, hT, hF⟩
  have HT := Lib.hid hT; have HF := Lib.hid hF
  clear hT hF
  go_wp2
  go_end0
  exact ⟨rfl, HT.out, HF.out⟩

theorem Tryd.info66 : (Tryd.prog.info? 66).map (fun i => (i.zero, i.size, i.bytes)) = some (some (.agg #[.int .u8 0, .bool false, .int .i64 0, .int .i64 0]), 4, 24) := by kernel_rfl
theorem TabAt.grow {B : Nat} {w w2 : World} {bt : Nat} {R : List Nx} {v v' : Value} {n : Nx} (h : TabAt B w bt R v) (hl : R.length < 100000) (ho : w2.ownsRow B 66 4 v' (R.length + 1) (cells4 R ++ cell4 n)) (hg : w.grownBy w2 v.ownBlock) :
    TabAt B (w2.setCell ⟨bt, 0, none⟩ v') bt (R ++ [n]) v' ∧ w2.heap[bt]? = some (.cells #[v] 60 (0, 0)) ∧ Fr (FT B) w (w2.setCell ⟨bt, 0, none⟩ v') := by
  have hb : w2.heap[bt]? = some (.cells #[v] 60 (0, 0)) := (hg.block bt h.lt (fun e => h.ne e.symm)).trans h.blk
  have hf : Fr (FT B) w (w2.setCell ⟨bt, 0, none⟩ v') := (Fr.grown h.own hg (fun g cs hg => ft_node B hg cs)).trans (Fr.set hb (ft_types B h.lo _) 0 v')
  refine ⟨⟨Nat.le_trans h.hB hf.size, h.lo, (blk_set hb 0 v').trans rfl, ?_, by simp; omega⟩, hb, hf⟩
  rw [cells4_snoc, List.length_append]
  refine (Fr.set (p := fun k o => k = bt ∧ ∃ cs, o = .cells cs 60 (0, 0)) hb ⟨rfl, _, rfl⟩ 0 v').own ho ?_
  rintro k cs _ ⟨_, cs', e⟩
  injection e with _ e; exact absurd e (by decide)
/-- one more -/
def AddP (B bt : Nat) (R : List Nx) (w : World) (e : Ending) (w' : World) : Prop := e = .returned (.int .i64 (R.length + 2 : Nat)) ∧ Tab B w' bt R ∧ Fr (FT B) w w'

set_option maxRecDepth 100000 in
set_option maxHeartbeats 1000000 in
theorem add_any (B bt : Nat) (R : List Nx) (v : Value) (n : Nx) (w : World) (h : TabAt B w bt R v) (hl : R.length < 100000) : Calls Tryd.prog 22 #[.pointer (some ⟨bt, 0, none⟩), nval n] w (AddP B bt (R ++ [n]) w) := by
  generalize hW : w.alloc (.cells #[.int .u8 n.k, .bool n.s, .int .i64 n.f, .int .i64 n.g] 66) = W
  have hbW : Below w.heap.size w W := by rw [← hW]; exact (Below.refl _ w).alloc (Nat.le_refl _) _
  have hsW : W.heap[w.heap.size]? = some (.cells #[.int .u8 n.k, .bool n.s, .int .i64 n.f, .int .i64 n.g] 66 (0, 0)) := by rw [← hW]; exact blk_new w _
  have H := h.below hbW
  obtain ⟨ao, cap, rfl, hcap⟩ := h.slice
  have n0 : W.cell? ⟨w.heap.size, 0, none⟩ = some (.int .u8 n.k) := (blk_cell hsW 0).trans rfl
  have n1 : W.cell? ⟨w.heap.size, 1, none⟩ = some (.bool n.s) := (blk_cell hsW 1).trans rfl
  have n2 : W.cell? ⟨w.heap.size, 2, none⟩ = some (.int .i64 n.f) := (blk_cell hsW 2).trans rfl
  have n3 : W.cell? ⟨w.heap.size, 3, none⟩ = some (.int .i64 n.g) := (blk_cell hsW 3).trans rfl
  have hc := H.cell
  have hfz := H.fz
  obtain ⟨i0, hi, hz0, hz1, hz2⟩ := info_parts Tryd.info66
  have HI := Lib.hid hi; have HZ := Lib.hid hz0; have HZ1 := Lib.hid hz1; have HZ2 := Lib.hid hz2
  have HH := Lib.hid H; have HW := Lib.hid hW; have HB := Lib.hid hbW
  clear hi hz0 hz1 hz2 h H hW hbW
  unfold nval
  go_enter Tryd.func22, Tryd.ntmps22
  have hc2 : ∀ X, (W.alloc X).cell? ⟨bt, 0, none⟩ = some (.slice ao R.length cap) := fun X => (HH.out.below ((Below.refl _ W).alloc (Nat.le_refl _) X)).cell
  go_wp2
  rw [HW.out]
  go_region_law (refine step_append_lies _ (by rfl) (.tmp 9) (.tmp 11) 58 (by rfl) B 66 i0 _ 4 24 Tryd.underlying58 HI.out HZ.out HZ1.out HZ2.out rfl (by omega) (.slice ao R.length cap) R.length (cells4 R) (by rfl) ((HH.out.below ((Below.refl _ W).alloc (Nat.le_refl _) _)).below (Below.drew (Below.refl _ _))).own ⟨W.heap.size, 0, none⟩ 1 1 (cell4 n) (by rfl) (by rfl) (World.news_of_block (cs := #[.int .u8 n.k, .bool n.s, .int .i64 n.f, .int .i64 n.g]) (t := 66) (fr := (0, 0)) (heap_alloc_new W _)) (by intro x hx; simp only [cell4, List.mem_cons, List.not_mem_nil, or_false] at hx; rcases hx with rfl | rfl | rfl | rfl <;> rfl) (by omega) (by unfold maxLen; omega) (by omega) (by have := HH.out.hB; simp; omega) (W.heap.size + 1) (by simp) ?_; intro g cap' w2 hown2 hgrow2 hat2 hlt2; have hG := ((HH.out.below ((Below.refl _ W).alloc (Nat.le_refl _) (.cells #[.int .u8 n.k, .bool n.s, .int .i64 n.f, .int .i64 n.g] 66))).below (Below.drew (Below.refl _ _))).grow hl hown2 hgrow2; have hc3 : w2.cell? ⟨bt, 0, none⟩ = some (.slice ao R.length cap) := (blk_cell hG.2.1 0).trans rfl; have hf3 : w2.frozen? ⟨bt, 0, none⟩ = false := blk_frozen hG.2.1 0)
  all_goals
    have hG1 := hG.1; have hG3 := hG.2.2
    have HG1 := Lib.hid hG1; have HG3 := Lib.hid hG3
    have hc4 := hG1.cell
    clear hG1 hG3 hG hown2 hgrow2 hat2 hlt2 hc hfz hc2 n0 n1 n2 n3 hsW
    go_wp2
    go_ret
    refine ⟨ret_int (by simp; omega), ⟨_, HG1.out⟩, (Fr.of_below HB.out).trans (((Fr.of_below (Below.drew ((Below.refl _ W).alloc (Nat.le_refl _) _))).trans HG3.out))⟩
end Go.Proofs.YtjbihammbmiieaaDoor
