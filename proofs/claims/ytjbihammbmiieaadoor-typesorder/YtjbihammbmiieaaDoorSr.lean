/- A slice of pairs of bytes, turned round: the same pairs. -/
import Derived.Test.YtjbihammbmiieaaDoorSc
namespace Go.Proofs.YtjbihammbmiieaaDoor
open Go.RowKit Un

theorem cells2_set (x : Nat × Nat) : ∀ (L : List (Nat × Nat)) (i : Nat), i < L.length → ((cells2 L).set (i * 2) (.int .u8 (x.1 : Nat))).set (i * 2 + 1) (.int .u8 (x.2 : Nat)) = cells2 (L.set i x)
  | [], i, h => by simp at h
  | p :: L, 0, _ => by simp [cells2, cell2]
  | p :: L, i + 1, h => by
    have h1 := cells2_set x L i (by simpa using h)
    rw [show (i + 1) * 2 = i * 2 + 2 by omega]
    simpa [cells2, cell2] using h1
theorem swap_mem {L : List (Nat × Nat)} {i j : Nat} (hi : i < L.length) (hj : j < L.length) (p : Nat × Nat) : p ∈ (L.set i (L.getD j (0, 0))).set j (L.getD i (0, 0)) ↔ p ∈ L := by
  have ei : L.getD i (0, 0) = L[i] := by simp [hi]
  have ej : L.getD j (0, 0) = L[j] := by simp [hj]
  rw [ei, ej]
  constructor
  · intro h
    rcases List.mem_or_eq_of_mem_set h with h | rfl
    · rcases List.mem_or_eq_of_mem_set h with h | rfl
      · exact h
      · exact List.getElem_mem hj
    · exact List.getElem_mem hi
  · intro h
    obtain ⟨x, hx, rfl⟩ := List.getElem_of_mem h
    by_cases e1 : x = i
    · subst e1
      exact List.mem_of_getElem? (i := j) (by simp [hj])
    · by_cases e2 : x = j
      · subst e2
        by_cases e3 : i = x
        · omega
        · exact List.mem_of_getElem? (i := i) (by rw [List.getElem?_set_ne (by omega), List.getElem?_set_self hi])
      · exact List.mem_of_getElem? (i := x) (by rw [List.getElem?_set_ne (by omega), List.getElem?_set_ne (by omega), List.getElem?_eq_getElem hx])
theorem own_swap {w : World} {base g cap : Nat} {L : List (Nat × Nat)} (h : w.ownsRow base 51 2 (.slice (some ⟨g, 0, none⟩) L.length cap) L.length (cells2 L)) {i j : Nat} (hi : i < L.length) (hj : j < L.length) (a b : Nat × Nat) :
    ((((w.setCell ⟨g, i * 2, none⟩ (.int .u8 (a.1 : Nat))).setCell ⟨g, i * 2 + 1, none⟩ (.int .u8 (a.2 : Nat))).setCell ⟨g, j * 2, none⟩ (.int .u8 (b.1 : Nat))).setCell ⟨g, j * 2 + 1, none⟩ (.int .u8 (b.2 : Nat))).ownsRow base 51 2 (.slice (some ⟨g, 0, none⟩) L.length cap) L.length (cells2 ((L.set i a).set j b)) := by
  have h1 := ((((h.stored (i * 2) (.int .u8 (a.1 : Nat))).1.stored (i * 2 + 1) (.int .u8 (a.2 : Nat))).1.stored (j * 2) (.int .u8 (b.1 : Nat))).1.stored (j * 2 + 1) (.int .u8 (b.2 : Nat))).1
  rw [cells2_set a L i hi, cells2_set b _ j (by simpa using hj)] at h1
  exact h1
theorem below_set4 {w : World} {N g : Nat} (hN : N ≤ w.heap.size) (hg : N ≤ g) (i0 i1 i2 i3 : Nat) (v0 v1 v2 v3 : Value) : Below N w ((((w.setCell ⟨g, i0, none⟩ v0).setCell ⟨g, i1, none⟩ v1).setCell ⟨g, i2, none⟩ v2).setCell ⟨g, i3, none⟩ v3) :=
  But.below ((((But.setCell (p := fun q => q = g) w rfl i0 v0).trans (But.setCell (p := fun q => q = g) _ rfl i1 v1)).trans (But.setCell (p := fun q => q = g) _ rfl i2 v2)).trans (But.setCell (p := fun q => q = g) _ rfl i3 v3)) hN (fun k e => by rw [e]; exact hg)
structure RvAt (base g cap : Nat) (L : List (Nat × Nat)) (w : World) (K : List (Nat × Nat)) (wr : World) : Prop where
  own : wr.ownsRow base 51 2 (.slice (some ⟨g, 0, none⟩) L.length cap) L.length (cells2 K)
  len : K.length = L.length
  mem : ∀ p, p ∈ K ↔ p ∈ L
  below : Below base w wr
set_option maxRecDepth 100000 in
set_option maxHeartbeats 1000000 in
theorem reverse_any (base g cap : Nat) (L : List (Nat × Nat)) (w : World) (h : w.ownsRow base 51 2 (.slice (some ⟨g, 0, none⟩) L.length cap) L.length (cells2 L)) (hb : base ≤ w.heap.size) (hp : 0 < L.length) (hl : L.length ≤ 10) :
    Calls Tryd.prog 21 #[.slice (some ⟨g, 0, none⟩) L.length cap] w fun e w' => e = .returned (.tuple #[]) ∧ ∃ K, RvAt base g cap L w K w' := by
  have hg := (own_tag h (g := g) rfl).1
  have hst : RvAt base g cap L w L w := ⟨h, rfl, fun p => Iff.rfl, Below.refl _ _⟩
  have ST := Lib.hid hst
  clear hst h
  generalize hn : L.length = n at hp hl ⊢
  have HN := Lib.hid hn
  clear hn
  go_enter Tryd.func21, Tryd.ntmps21
  go_wp2
  go_loopw [2, 3] (fun iv jv wr => ∃ (i j : Nat) (K : List (Nat × Nat)), i + j + 1 = n ∧ iv = .int .i64 i ∧ jv = .int .i64 j ∧ RvAt base g cap L w K wr) (fun iv _ _ => n - (intOf iv).toNat)
  case atStart => exact ⟨0, n - 1, L, by omega, rfl, by go_num, ST.out⟩
  case round =>
    obtain ⟨i, j, K, hij, rfl, rfl, hs⟩ := hrel
    by_cases hlt : i < j
    · have own := hs.own
      rw [← hs.len] at own
      have hki : i < K.length := by rw [hs.len, HN.out]; omega
      have hkj : j < K.length := by rw [hs.len, HN.out]; omega
      have c0 := own_cell own (cells2_get hki).1
      have c1 := own_cell own (cells2_get hki).2
      have c2 := own_cell own (cells2_get hkj).1
      have c3 := own_cell own (cells2_get hkj).2
      have s1 := own_swap own hki hkj (K.getD j (0, 0)) (K.getD i (0, 0))
      obtain ⟨a, ha⟩ : ∃ a, a = K.getD i (0, 0) := ⟨_, rfl⟩
      obtain ⟨b, hb2⟩ : ∃ b, b = K.getD j (0, 0) := ⟨_, rfl⟩
      rw [← ha] at c0 c1 s1
      rw [← hb2] at c2 c3 s1
      have hii : i < n := by omega
      have hjj : j < n := by omega
      have hfz : ∀ x, wr.frozen? ⟨g, x, none⟩ = false := fun x => by
        obtain ⟨_, cur, hc⟩ := own_tag own (g := g) rfl
        exact blk_frozen hc x
      have OWN := Lib.hid own; have HS := Lib.hid hs; have HA := Lib.hid ha; have HB := Lib.hid hb2; have S1 := Lib.hid s1; have KI := Lib.hid hki; have KJ := Lib.hid hkj
      clear own hs ha hb2 s1 hki hkj
      go_upto_region 3 with fail
      go_region
      all_goals
        have hk' : RvAt base g cap L w ((K.set i b).set j a) ((((wr.setCell ⟨g, i * 2, none⟩ (.int .u8 (b.1 : Nat))).setCell ⟨g, i * 2 + 1, none⟩ (.int .u8 (b.2 : Nat))).setCell ⟨g, j * 2, none⟩ (.int .u8 (a.1 : Nat))).setCell ⟨g, j * 2 + 1, none⟩ (.int .u8 (a.2 : Nat))).drew := by
          have h1 := own_below S1.out (Below.refl _ _).drew
          rw [HS.out.len] at h1
          refine ⟨h1, by simpa using HS.out.len, fun p => ?_, HS.out.below.trans ((below_set4 (Nat.le_trans hb HS.out.below.size) hg _ _ _ _ _ _ _ _).trans (Below.drew (Below.refl _ _)))⟩
          rw [HA.out, HB.out, swap_mem KI.out KJ.out]
          exact HS.out.mem p
        have HK := Lib.hid hk'
        clear hk' c0 c1 c2 c3 hfz
        go_wp2
        go_roundw
        case rel => exact ⟨i + 1, j - 1, _, by omega, by go_num, by go_num, HK.out⟩
        case measure => simp [intOf]; omega
    · have HS := Lib.hid hs
      clear hs
      go_wp2
      go_end0
      exact ⟨rfl, K, HS.out⟩
end Go.Proofs.YtjbihammbmiieaaDoor
