/- A slice of pairs of bytes, opened. -/
import Derived.Test.YtjbihammbmiieaaDoorSc
import Derived.ProofKit
import Derived.OpenShut
import Derived.Deep.Slices
namespace Go.Proofs.YtjbihammbmiieaaDoor
open Go.ChangeShapes Go.WideShapes Go.ChangeAt Go.RowKit Go.Deep Un

theorem Tryd.cells51 : Tryd.prog.cellsOf 51 = 2 := by kernel_rfl
theorem Tryd.cellsu5 : Tryd.prog.cellsOf 5 = 1 := by kernel_rfl
theorem Tryd.bytes51 : Tryd.prog.bytesOf 51 = 2 := by kernel_rfl

section
variable {H : Type} {enc : TypeId × Value → H} {w : World} {base : Nat} {spare : Nat → Bool} {held : Bool}

set_option maxRecDepth 100000 in
theorem open_pair2 {fuel : Nat} {cs : List Value} {x : DataW H × List MemPlace} (h : DataW.trod enc Tryd.prog w base spare held fuel 51 cs = some x) : ∃ p : Nat × Nat, cs = cell2 p ∧ p.1 < 256 ∧ p.2 < 256 := by
  obtain ⟨xs, m, _, _, hcl, hxl, hf⟩ := DataW.trod_array Tryd.underlying51 h
  rw [Tryd.cells51] at hcl
  match cs, hcl with
  | [c0, c1], _ =>
    match xs, hxl with
    | [x0, x1], _ =>
      have e0 := hf 0 (by omega)
      have e1 := hf 1 (by omega)
      rw [Tryd.cellsu5] at e0 e1
      simp at e0 e1
      obtain ⟨a, ha, _, w0⟩ := DataW.trod_int Tryd.underlying5 e0
      obtain ⟨b, hb, _, w1⟩ := DataW.trod_int Tryd.underlying5 e1
      simp at ha hb
      have b0 := bounds_u8 w0
      have b1 := bounds_u8 w1
      refine ⟨(a.toNat, b.toNat), ?_, ?_, ?_⟩
      · have e0 : ((a.toNat : Nat) : Int) = a := by omega
        have e1 : ((b.toNat : Nat) : Int) = b := by omega
        simp only [cell2, e0, e1]
        rw [ha, hb]
      · show a.toNat < 256
        omega
      · show b.toNat < 256
        omega

set_option maxRecDepth 100000 in
theorem open_pairs2 {fuel : Nat} {ao : Option Addr} {len cap : Nat} {x : DataW H × List MemPlace} (h : DataW.trod enc Tryd.prog w base spare held fuel 50 [.slice ao len cap] = some x) :
    ∃ L : List (Nat × Nat), L.length = len ∧ P2At w.heap.size w ao L ∧ ∀ B, (∀ n ∈ x.1.weights Tryd.prog 50, n ≤ B) → len ≤ B := by
  rcases open_slice Tryd.underlying50 h with ⟨hcs, _⟩ | ⟨a, l, c, m, n, D, Pl, hcs, hb, hl, hm, hmm, hx, hi⟩
  · simp at hcs
    obtain ⟨rfl, rfl, rfl⟩ := hcs
    exact ⟨[], rfl, fun i hi => by simp at hi, fun B _ => Nat.zero_le _⟩
  · simp at hcs
    obtain ⟨rfl, rfl, rfl⟩ := hcs
    have hle : len ≤ m := by rw [hmm]; split <;> omega
    have hspot : ∀ i, i < len → a.spot = none := by
      intro i hil
      obtain ⟨cs', hc, ht⟩ := hi 0 (by omega)
      obtain ⟨q, rfl, _⟩ := open_pair2 ht
      rw [Tryd.cells51] at hc
      have h0 := (World.cells?_some hc).2.2 0 (by omega)
      have := World.cell?_spot (by simpa [cell2] using h0)
      simpa [Addr.add] using this
    have key : ∀ i, i < len → ∃ q : Nat × Nat, ∃ b off, a = ⟨b, off, none⟩ ∧ b < w.heap.size ∧ w.cell? ⟨b, off + i * 2, none⟩ = some (.int .u8 (q.1 : Nat)) ∧ w.cell? ⟨b, off + i * 2 + 1, none⟩ = some (.int .u8 (q.2 : Nat)) ∧ q.1 < 256 ∧ q.2 < 256 := by
      intro i hil
      obtain ⟨cs', hc, ht⟩ := hi i (by omega)
      obtain ⟨q, rfl, hq⟩ := open_pair2 ht
      rw [Tryd.cells51] at hc
      obtain ⟨_, _, hat⟩ := World.cells?_some hc
      have h0 := hat 0 (by omega)
      have h1 := hat 1 (by omega)
      simp [cell2] at h0 h1
      obtain ⟨b, off, spot⟩ := a
      rw [add_add] at h0 h1
      have hs' : spot = none := hspot i hil
      subst hs'
      refine ⟨q, b, off, rfl, ?_, ?_, ?_, hq⟩
      · have := World.block_lt_of_cell? _ _ h1
        simpa [Addr.add] using this
      · simpa [add_plain] using h0
      · simpa [add_plain, Nat.add_assoc] using h1
    obtain ⟨F, hF⟩ := choose_lt key
    refine ⟨(List.range len).map F, by simp, fun i hi => ?_, fun B hB => ?_⟩
    · have hil : i < len := by simpa using hi
      have e : ((List.range len).map F).getD i (0, 0) = F i := by simp [hil]
      obtain ⟨b, off, h0, h1, h2⟩ := hF i hil
      rw [e]
      exact ⟨b, off, by rw [h0], h1, h2⟩
    · rw [hx] at hB
      have := hB ((len + (m - len)) * 2) (by simp [DataW.weights, Tryd.underlying50, Tryd.bytes51])
      omega
end
end Go.Proofs.YtjbihammbmiieaaDoor
