/- Two rows of tokens that hold the same are told to be the same. -/
import Derived.Test.YtoeljmiefbaajaaDoorRToks
namespace Go.Proofs.YtoeljmiefbaajaaDoor
open Go.RowKit

theorem tokCells_get {ts : List Lx.Tok} {k : Nat} {t : Lx.Tok} (h : ts[k]? = some t) (j : Nat) (hj : j < 5) : (tokCells ts)[k * 5 + j]? = (tokCell t)[j]? := by
  induction ts generalizing k with
  | nil => simp at h
  | cons q r ih =>
    have e : tokCells (q :: r) = tokCell q ++ tokCells r := rfl
    have hl : (tokCell q).length = 5 := rfl
    cases k with
    | zero =>
      simp at h; subst h
      rw [e, Nat.zero_mul, Nat.zero_add, List.getElem?_append_left (by omega)]
    | succ k =>
      rw [e, List.getElem?_append_right (by rw [hl]; omega), hl]
      have : (k + 1) * 5 + j - 5 = k * 5 + j := by omega
      rw [this]; exact ih (by simpa using h)

set_option maxRecDepth 100000 in
set_option maxHeartbeats 4000000 in
theorem same_any (w : World) (ts : List Lx.Tok) (n g1 cap1 g2 cap2 : Nat) (hn : ts.length = n) (hs : n ≤ 9223372036854775807) (_hc1 : n ≤ cap1) (_hc2 : n ≤ cap2)
    (h1 : ∀ j u, (tokCells ts)[j]? = some u → w.cell? ⟨g1, j, none⟩ = some u) (h2 : ∀ j u, (tokCells ts)[j]? = some u → w.cell? ⟨g2, j, none⟩ = some u) :
    Calls Tryd.prog 9 #[.slice (some ⟨g1, 0, none⟩) n cap1, .slice (some ⟨g2, 0, none⟩) n cap2] w fun e w' => e = .returned (.bool true) ∧ Below w.heap.size w w' := by
  have H1 := Lib.hid h1; have H2 := Lib.hid h2; have HN := Lib.hid hn
  clear h1 h2 hn
  go_enter Tryd.func9, Tryd.ntmps9
  go_wp2
  go_loopw [14] (fun i wr => ∃ k : Nat, k ≤ n ∧ i = .int .i64 (k : Int) ∧ Below w.heap.size w wr) (fun i _ => n - (intOf i).toNat)
  case atStart => exact ⟨0, Nat.zero_le _, rfl, Below.refl _ _⟩
  case round =>
    obtain ⟨k, hk, rfl, hb⟩ := hrel
    by_cases hlt : k < n
    · obtain ⟨t, ht⟩ : ∃ t, ts[k]? = some t := ⟨_, List.getElem?_eq_getElem (by rw [HN.out]; exact hlt)⟩
      have c1 : ∀ j u, (tokCell t)[j]? = some u → j < 5 → w.cell? ⟨g1, k * 5 + j, none⟩ = some u := fun j u hu hj => H1.out _ _ (by rw [tokCells_get ht j hj]; exact hu)
      have c2 : ∀ j u, (tokCell t)[j]? = some u → j < 5 → w.cell? ⟨g2, k * 5 + j, none⟩ = some u := fun j u hu hj => H2.out _ _ (by rw [tokCells_get ht j hj]; exact hu)
      have l1 : g1 < w.heap.size := World.block_lt_of_cell? _ _ (c1 0 _ rfl (by omega))
      have l2 : g2 < w.heap.size := World.block_lt_of_cell? _ _ (c2 0 _ rfl (by omega))
      have d1 : ∀ j u, (tokCell t)[j]? = some u → j < 5 → wr.cell? ⟨g1, k * 5 + j, none⟩ = some u := fun j u hu hj => (hb.cell (p := ⟨g1, k * 5 + j, none⟩) l1).trans (c1 j u hu hj)
      have d2 : ∀ j u, (tokCell t)[j]? = some u → j < 5 → wr.cell? ⟨g2, k * 5 + j, none⟩ = some u := fun j u hu hj => (hb.cell (p := ⟨g2, k * 5 + j, none⟩) l2).trans (c2 j u hu hj)
      have a0 : wr.cell? ⟨g1, k * 5, none⟩ = some (.int .i64 t.kind) := d1 0 _ rfl (by omega)
      have a1 := d1 1 _ rfl (by omega); have a2 := d1 2 _ rfl (by omega); have a3 := d1 3 _ rfl (by omega); have a4 := d1 4 _ rfl (by omega)
      have l2r : g2 < wr.heap.size := Nat.lt_of_lt_of_le l2 hb.size
      have b : ∀ j u, (tokCell t)[j]? = some u → j < 5 → (wr.alloc (.cells #[.int .i64 t.kind, .string ⟨t.text.toArray⟩, .int .i64 t.int, .int .i64 t.at_.line, .int .i64 t.at_.col] 41)).cell? ⟨g2, k * 5 + j, none⟩ = some u := fun j u hu hj => by
        rw [World.cell?_alloc_lt _ _ ⟨g2, k * 5 + j, none⟩ l2r]; exact d2 j u hu hj
      have b0 : (wr.alloc (.cells #[.int .i64 t.kind, .string ⟨t.text.toArray⟩, .int .i64 t.int, .int .i64 t.at_.line, .int .i64 t.at_.col] 41)).cell? ⟨g2, k * 5, none⟩ = some (.int .i64 t.kind) := b 0 _ rfl (by omega)
      have b1 := b 1 _ rfl (by omega); have b2 := b 2 _ rfl (by omega); have b3 := b 3 _ rfl (by omega); have b4 := b 4 _ rfl (by omega)
      have t0 : (wr.alloc (.cells #[.int .i64 t.kind, .string ⟨t.text.toArray⟩, .int .i64 t.int, .int .i64 t.at_.line, .int .i64 t.at_.col] 41)).cell? ⟨wr.heap.size, 0, none⟩ = some (.int .i64 t.kind) := by rw [World.cell?_alloc_new]; rfl
      have t1 : (wr.alloc (.cells #[.int .i64 t.kind, .string ⟨t.text.toArray⟩, .int .i64 t.int, .int .i64 t.at_.line, .int .i64 t.at_.col] 41)).cell? ⟨wr.heap.size, 1, none⟩ = some (.string ⟨t.text.toArray⟩) := by rw [World.cell?_alloc_new]; rfl
      have t2 : (wr.alloc (.cells #[.int .i64 t.kind, .string ⟨t.text.toArray⟩, .int .i64 t.int, .int .i64 t.at_.line, .int .i64 t.at_.col] 41)).cell? ⟨wr.heap.size, 2, none⟩ = some (.int .i64 t.int) := by rw [World.cell?_alloc_new]; rfl
      have t3 : (wr.alloc (.cells #[.int .i64 t.kind, .string ⟨t.text.toArray⟩, .int .i64 t.int, .int .i64 t.at_.line, .int .i64 t.at_.col] 41)).cell? ⟨wr.heap.size, 3, none⟩ = some (.int .i64 t.at_.line) := by rw [World.cell?_alloc_new]; rfl
      have t4 : (wr.alloc (.cells #[.int .i64 t.kind, .string ⟨t.text.toArray⟩, .int .i64 t.int, .int .i64 t.at_.line, .int .i64 t.at_.col] 41)).cell? ⟨wr.heap.size, 4, none⟩ = some (.int .i64 t.at_.col) := by rw [World.cell?_alloc_new]; rfl
      have hb2 : Below w.heap.size w (wr.alloc (.cells #[.int .i64 t.kind, .string ⟨t.text.toArray⟩, .int .i64 t.int, .int .i64 t.at_.line, .int .i64 t.at_.col] 41)) := hb.alloc hb.size _
      have hms : n - (intOf (Value.int IntKind.i64 ((k : Int) + 1))).toNat < n - (intOf (Value.int IntKind.i64 (k : Int))).toNat := by simp [intOf]; omega
      have HMS := Lib.hid hms; clear hms
      clear c1 c2 d1 d2 b hb l1 l2 l2r ht H1 H2 HN
      generalize (⟨t.text.toArray⟩ : ByteArray) = TX at *
      go_upto_region 6 with fail
      clear a0 a1 a2 a3 a4
      generalize wr.alloc (.cells #[.int .i64 t.kind, .string TX, .int .i64 t.int, .int .i64 t.at_.line, .int .i64 t.at_.col] 41) = w2 at *
      generalize wr.heap.size = Y at *
      go_quiet (fail)
      go_wp2
      exact ⟨⟨k + 1, by omega, cast_succ k, below_drewN hb2 _⟩, HMS.out⟩
    · go_wp2
      go_ret
      exact ⟨rfl, hb⟩
end Go.Proofs.YtoeljmiefbaajaaDoor
