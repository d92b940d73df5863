/- A slice of pairs of numbers, opened. -/
import Derived.Test.YtjcdopgefcmbpaaNew0
import Derived.ProofKit
import Derived.OpenShut
import Derived.Deep.Slices
namespace Go.Proofs.Ytjcdopgefcmbpaa
open Go.ChangeShapes Go.WideShapes Go.ChangeAt Go.RowKit Go.Deep

theorem Try.cells54 : Try.prog.cellsOf 54 = 2 := by kernel_rfl
theorem Try.cells3 : Try.prog.cellsOf 3 = 1 := by kernel_rfl
theorem Try.own : ownKnob Try.prog.godebug = none := by kernel_rfl
theorem Try.laidOut : laidOutB Try.prog = true := by kernel_rfl

section
variable {H : Type} {enc : TypeId × Value → H} {w : World} {base : Nat} {spare : Nat → Bool} {held : Bool}

theorem open_pair {fuel : Nat} {cs : List Value} {x : DataW H × List MemPlace} (h : DataW.trod enc Try.prog w base spare held fuel 54 cs = some x) : ∃ a b : Int, cs = [.int .i64 a, .int .i64 b] := by
  obtain ⟨xs, m, _, _, hcl, hxl, hf⟩ := DataW.trod_array Try.underlying54 h
  rw [Try.cells54] at hcl
  match cs, hcl with
  | [c0, c1], _ =>
    match xs, hxl with
    | [x0, x1], _ =>
      have e0 := hf 0 (by omega)
      have e1 := hf 1 (by omega)
      rw [Try.cells3] at e0 e1
      simp at e0 e1
      obtain ⟨a, ha, _⟩ := DataW.trod_int Try.underlying3 e0
      obtain ⟨b, hb, _⟩ := DataW.trod_int Try.underlying3 e1
      simp at ha hb
      exact ⟨a, b, by rw [ha, hb]⟩

theorem open_pairs {fuel : Nat} {ao : Option Addr} {len cap : Nat} {x : DataW H × List MemPlace} (h : DataW.trod enc Try.prog w base spare held fuel 23 [.slice ao len cap] = some x) : ∃ p q, PairsAt w ao len p q := by
  rcases open_slice Try.underlying23 h with ⟨hcs, _⟩ | ⟨a, l, c, m, n, D, Pl, hcs, hb, hl, hm, hmm, hx, hi⟩
  · simp at hcs
    obtain ⟨rfl, rfl, rfl⟩ := hcs
    exact ⟨fun _ => 0, fun _ => 0, fun i hi => by omega⟩
  · simp at hcs
    obtain ⟨rfl, rfl, rfl⟩ := hcs
    have hle : len ≤ m := by rw [hmm]; split <;> omega
    have hspot : ∀ i, i < len → a.spot = none := by
      intro i hil
      obtain ⟨cs', hc, ht⟩ := hi 0 (by omega)
      obtain ⟨u, v, rfl⟩ := open_pair ht
      rw [Try.cells54] at hc
      have h0 := (World.cells?_some hc).2.2 0 (by omega)
      have := World.cell?_spot (by simpa using h0)
      simpa [Addr.add] using this
    have key : ∀ i, i < len → ∃ pq : Int × Int, ∃ b off, a = ⟨b, off, none⟩ ∧ b < w.heap.size ∧ w.cell? ⟨b, off + i * 2, none⟩ = some (.int .i64 pq.1) ∧ w.cell? ⟨b, off + i * 2 + 1, none⟩ = some (.int .i64 pq.2) := by
      intro i hil
      obtain ⟨cs', hc, ht⟩ := hi i (by omega)
      obtain ⟨u, v, rfl⟩ := open_pair ht
      rw [Try.cells54] at hc
      obtain ⟨_, _, hat⟩ := World.cells?_some hc
      have h0 := hat 0 (by omega)
      have h1 := hat 1 (by omega)
      simp at h0 h1
      obtain ⟨b, off, spot⟩ := a
      rw [add_add] at h0 h1
      have hs' : spot = none := hspot i hil
      subst hs'
      refine ⟨(u, v), b, off, rfl, ?_, ?_, ?_⟩
      · have := World.block_lt_of_cell? _ _ h1
        simpa [Addr.add] using this
      · simpa [add_plain] using h0
      · simpa [add_plain, Nat.add_assoc] using h1
    obtain ⟨F, hF⟩ := choose_lt key
    refine ⟨fun i => (F i).1, fun i => (F i).2, fun i hil => ?_⟩
    obtain ⟨b, off, e, h1, h2, h3⟩ := hF i hil
    exact ⟨b, off, by rw [e], h1, h2, h3⟩

end
end Go.Proofs.Ytjcdopgefcmbpaa
