/- Slices of pairs of bytes: copied, put together, turned. -/
import Derived.Test.YtjbihammbmiieaaDoorMb
import Derived.Lib.SliceRun
namespace Go.Proofs.YtjbihammbmiieaaDoor
open Go.RowKit Un

def cell2 (p : Nat × Nat) : List Value := [.int .u8 (p.1 : Nat), .int .u8 (p.2 : Nat)]
def cells2 (L : List (Nat × Nat)) : List Value := L.flatMap cell2
theorem cells2_len (L : List (Nat × Nat)) : (cells2 L).length = L.length * 2 := by
  induction L with
  | nil => rfl
  | cons p L ih => rw [cells2, List.flatMap_cons, List.length_append, List.length_cons, ← cells2, ih]; simp only [cell2, List.length_cons, List.length_nil]; omega
theorem cells2_app (L K : List (Nat × Nat)) : cells2 (L ++ K) = cells2 L ++ cells2 K := by simp [cells2]
theorem cells2_at {u : Value} : ∀ (L : List (Nat × Nat)) (j : Nat), (cells2 L)[j]? = some u → ∃ i, i < L.length ∧ ((j = i * 2 ∧ u = .int .u8 ((L.getD i (0, 0)).1 : Nat)) ∨ (j = i * 2 + 1 ∧ u = .int .u8 ((L.getD i (0, 0)).2 : Nat)))
  | [], j, h => by simp [cells2] at h
  | p :: L, 0, h => ⟨0, by simp, .inl ⟨rfl, by simpa [cells2, cell2] using h.symm⟩⟩
  | p :: L, 1, h => ⟨0, by simp, .inr ⟨rfl, by simpa [cells2, cell2] using h.symm⟩⟩
  | p :: L, j + 2, h => by
    have h1 : (cells2 L)[j]? = some u := by simpa [cells2, cell2] using h
    obtain ⟨i, hi, r⟩ := cells2_at L j h1
    refine ⟨i + 1, by simp; omega, ?_⟩
    rcases r with ⟨r1, r2⟩ | ⟨r1, r2⟩
    · exact .inl ⟨by omega, by simpa using r2⟩
    · exact .inr ⟨by omega, by simpa using r2⟩
theorem cells2_get {L : List (Nat × Nat)} {i : Nat} (h : i < L.length) : (cells2 L)[i * 2]? = some (.int .u8 ((L.getD i (0, 0)).1 : Nat)) ∧ (cells2 L)[i * 2 + 1]? = some (.int .u8 ((L.getD i (0, 0)).2 : Nat)) := by
  induction L generalizing i with
  | nil => simp at h
  | cons p L ih =>
    cases i with
    | zero => exact ⟨by simp [cells2, cell2], by simp [cells2, cell2]⟩
    | succ i =>
      have h1 := ih (i := i) (by simpa using h)
      rw [show (i + 1) * 2 = i * 2 + 2 by omega]
      exact ⟨by simpa [cells2, cell2] using h1.1, by simpa [cells2, cell2] using h1.2⟩
/-- all are bytes -/
def Bytes2 (L : List (Nat × Nat)) : Prop := ∀ i, i < L.length → (L.getD i (0, 0)).1 < 256 ∧ (L.getD i (0, 0)).2 < 256
theorem P2At.bytes {N : Nat} {w : World} {ao : Option Addr} {L : List (Nat × Nat)} (h : P2At N w ao L) : Bytes2 L := fun i hi => by
  obtain ⟨b, o, _, _, _, _, h1, h2⟩ := h i hi
  exact ⟨h1, h2⟩
theorem P2At.cell {N : Nat} {w : World} {b o : Nat} {L : List (Nat × Nat)} (h : P2At N w (some ⟨b, o, none⟩) L) {j : Nat} {u : Value} (hj : (cells2 L)[j]? = some u) : w.cell? ⟨b, o + j, none⟩ = some u := by
  obtain ⟨i, hi, r⟩ := cells2_at L j hj
  obtain ⟨b', o', e, _, h1, h2, _⟩ := h i hi
  injection e with e; injection e with e1 e2; subst e1 e2
  rcases r with ⟨rfl, rfl⟩ | ⟨rfl, rfl⟩
  · exact h1
  · rw [← Nat.add_assoc]; exact h2
theorem own_p2 {w : World} {base : Nat} {v : Value} {L : List (Nat × Nat)} (h : w.ownsRow base 51 2 v L.length (cells2 L)) (hb : Bytes2 L) : ∃ ao cap, v = .slice ao L.length cap ∧ P2At w.heap.size w ao L := by
  rcases h.2 with ⟨rfl, h0⟩ | ⟨g, cap, cur, rfl, hg, hw, _⟩
  · exact ⟨none, 0, by rw [h0], fun i hi => by omega⟩
  · refine ⟨_, _, rfl, fun i hi => ⟨g, 0, rfl, (Array.getElem?_eq_some_iff.1 hw).1, ?_, ?_, (hb i hi).1, (hb i hi).2⟩⟩
    · have := own_cell h (cells2_get hi).1
      simpa using this
    · have := own_cell h (cells2_get hi).2
      simpa using this
theorem Tryd.info51 : (Tryd.prog.info? 51).map (fun i => (i.zero, i.size, i.bytes)) = some (some (.agg #[.int .u8 0, .int .u8 0]), 2, 2) := by kernel_rfl
set_option maxRecDepth 100000 in
theorem clone_any (N : Nat) (ao : Option Addr) (cap : Nat) (L : List (Nat × Nat)) (w : World) (h : P2At N w ao L) (hN : N ≤ w.heap.size) (hl : L.length ≤ 10) :
    Calls Tryd.prog 19 #[.slice ao L.length cap] w fun e w' => ∃ v', e = .returned v' ∧ w'.ownsRow w.heap.size 51 2 v' L.length (cells2 L) ∧ Below w.heap.size w w' := by
  have q : ∀ (w : World) (a : Option Addr) (n c n' c' : Nat), (binOp .eql 50 (.slice a n c) (.slice none n' c')).run Tryd.prog w = .ok (.bool a.isNone) w := fun w a n c n' c' => Lib.run_eql_slice_nil w _ _ a n c n' c' Tryd.underlying50
  have H := Lib.hid h
  clear h
  cases ao with
  | none =>
    have h0 : L = [] := by
      cases L with
      | nil => rfl
      | cons p L => obtain ⟨b, o, e, _⟩ := H.out 0 (by simp); cases e
    subst h0
    go_enter Tryd.func19, Tryd.ntmps19
    go_wp2
    go_ret
    exact ⟨_, rfl, World.ownsRow_nil _ _ _ _, Below.refl _ _⟩
  | some ad =>
    have hnews : ∀ j u, (cells2 L)[j]? = some u → w.cell? (ad.add j) = some u := fun j u hj => by
      obtain ⟨i, hi, _⟩ := cells2_at L j hj
      obtain ⟨b, o, e, _⟩ := H.out i hi
      injection e with e; subst e
      rw [Go.WideShapes.add_plain]
      exact H.out.cell hj
    have HNE := Lib.hid hnews
    obtain ⟨i0, hi, hz0, hz1, hz2⟩ := info_parts Tryd.info51
    have HI := Lib.hid hi; have HZ := Lib.hid hz0; have HZ1 := Lib.hid hz1; have HZ2 := Lib.hid hz2
    clear hnews hi hz0 hz1 hz2
    go_enter Tryd.func19, Tryd.ntmps19
    go_wp2_with (at_builtin; refine wpList_append_own _ rfl _ _ 50 rfl w.heap.size 51 i0 _ 2 2 Tryd.underlying50 HI.out HZ.out HZ1.out HZ2.out rfl (by decide) _ 0 [] rfl (World.ownsRow_made w #[] 0 (Nat.le_refl _) (Nat.zero_le _) rfl) ad L.length cap (cells2 L) rfl ?c1 ?c2 ?c3 ?c4 ?c5 ?c6 ?_)
    case c1 => exact cells2_len L
    case c2 => intro j u hj; exact Lib.cell?_alloc_some _ (HNE.out j u hj)
    case c3 => intro u hu; obtain ⟨j, hj⟩ := List.getElem?_of_mem hu; obtain ⟨i, _, ⟨_, rfl⟩ | ⟨_, rfl⟩⟩ := cells2_at L j hj <;> rfl
    case c4 => unfold maxLen; omega
    case c5 => omega
    case c6 => simp
    intro v' w1 hown hgrow _
    have hb1 : Below w.heap.size w w1 := ((Below.refl _ w).alloc (Nat.le_refl _) _).grown hgrow (by simp) (by intro k hk; simp [Value.ownBlock] at hk; omega)
    have HO := Lib.hid hown; have HB := Lib.hid hb1
    clear hown hgrow hb1
    go_wp2
    go_ret
    exact ⟨v', rfl, HO.out, HB.out⟩
end Go.Proofs.YtjbihammbmiieaaDoor
