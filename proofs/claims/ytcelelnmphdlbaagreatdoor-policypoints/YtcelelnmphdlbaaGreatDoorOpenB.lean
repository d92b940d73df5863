/- A slice of pairs of bytes, opened. -/
import Derived.Test.YtcelelnmphdlbaaGreatDoorLawPts
import Derived.ProofKit
import Derived.OpenShut
import Derived.Deep.Slices
namespace Go.Proofs.YtcelelnmphdlbaaGreatDoor
open Go.ChangeShapes Go.WideShapes Go.ChangeAt Go.RowKit Go.Deep

theorem Tryz.cells26 : Tryz.prog.cellsOf 26 = 2 := by kernel_rfl
theorem Tryz.cells5 : Tryz.prog.cellsOf 5 = 1 := by kernel_rfl
theorem Tryz.own : ownKnob Tryz.prog.godebug = none := by kernel_rfl
theorem Tryz.laidOut : laidOutB Tryz.prog = true := by kernel_rfl

section
variable {H : Type} {enc : TypeId × Value → H} {w : World} {base : Nat} {spare : Nat → Bool} {held : Bool}

set_option maxRecDepth 100000 in
theorem open_bpair {fuel : Nat} {cs : List Value} {x : DataW H × List MemPlace} (h : DataW.trod enc Tryz.prog w base spare held fuel 26 cs = some x) : ∃ a b : Nat, cs = [.int .u8 (a : Int), .int .u8 (b : Int)] ∧ a ≤ 255 ∧ b ≤ 255 := by
  obtain ⟨xs, m, _, _, hcl, hxl, hf⟩ := DataW.trod_array Tryz.underlying26 h
  rw [Tryz.cells26] at hcl
  match cs, hcl with
  | [c0, c1], _ =>
    match xs, hxl with
    | [x0, x1], _ =>
      have e0 := hf 0 (by omega)
      have e1 := hf 1 (by omega)
      rw [Tryz.cells5] at e0 e1
      simp at e0 e1
      obtain ⟨a, ha, _, wa⟩ := DataW.trod_int Tryz.underlying5 e0
      obtain ⟨b, hb, _, wb⟩ := DataW.trod_int Tryz.underlying5 e1
      simp at ha hb
      have ba := bounds_u8 wa
      have bb := bounds_u8 wb
      obtain ⟨n, rfl⟩ : ∃ n : Nat, a = (n : Int) := ⟨a.toNat, by omega⟩
      obtain ⟨k, rfl⟩ : ∃ n : Nat, b = (n : Int) := ⟨b.toNat, by omega⟩
      exact ⟨n, k, by rw [ha, hb], by omega, by omega⟩

set_option maxRecDepth 100000 in
theorem open_bytes {fuel : Nat} {ao : Option Addr} {len cap : Nat} {x : DataW H × List MemPlace} (h : DataW.trod enc Tryz.prog w base spare held fuel 22 [.slice ao len cap] = some x) : ∃ l : List (Nat × Nat), l.length = len ∧ BytesAt w ao l := by
  rcases open_slice Tryz.underlying22 h with ⟨hcs, _⟩ | ⟨a, l, c, m, n, D, Pl, hcs, hb, hl, hm, hmm, hx, hi⟩
  · simp at hcs
    obtain ⟨rfl, rfl, rfl⟩ := hcs
    exact ⟨[], rfl, fun i p hi => by simp at hi⟩
  · simp at hcs
    obtain ⟨rfl, rfl, rfl⟩ := hcs
    have hle : len ≤ m := by rw [hmm]; split <;> omega
    have hspot : ∀ i, i < len → a.spot = none := by
      intro i hil
      obtain ⟨cs', hc, ht⟩ := hi 0 (by omega)
      obtain ⟨u, v, rfl, _⟩ := open_bpair ht
      rw [Tryz.cells26] at hc
      have h0 := (World.cells?_some hc).2.2 0 (by omega)
      have := World.cell?_spot (by simpa using h0)
      simpa [Addr.add] using this
    have key : ∀ i, i < len → ∃ pq : Nat × Nat, ∃ b off, a = ⟨b, off, none⟩ ∧ w.cell? ⟨b, off + i * 2, none⟩ = some (.int .u8 (pq.1 : Int)) ∧ w.cell? ⟨b, off + i * 2 + 1, none⟩ = some (.int .u8 (pq.2 : Int)) ∧ pq.1 ≤ 255 ∧ pq.2 ≤ 255 := by
      intro i hil
      obtain ⟨cs', hc, ht⟩ := hi i (by omega)
      obtain ⟨u, v, rfl, hu, hv⟩ := open_bpair ht
      rw [Tryz.cells26] at hc
      obtain ⟨_, _, hat⟩ := World.cells?_some hc
      have h0 := hat 0 (by omega)
      have h1 := hat 1 (by omega)
      simp at h0 h1
      obtain ⟨b, off, spot⟩ := a
      rw [add_add] at h0 h1
      have hs' : spot = none := hspot i hil
      subst hs'
      refine ⟨(u, v), b, off, rfl, ?_, ?_, hu, hv⟩
      · simpa [add_plain] using h0
      · simpa [add_plain, Nat.add_assoc] using h1
    obtain ⟨F, hF⟩ := choose_lt key
    refine ⟨(List.range len).map F, by simp, fun i p hp => ?_⟩
    have hil : i < len := by
      have := (List.getElem?_eq_some_iff.1 hp).1
      simpa using this
    have e : F i = p := by simpa [hil] using hp
    subst e
    obtain ⟨b, off, e, h2, h3, h4⟩ := hF i hil
    exact ⟨b, off, by rw [e], h2, h3, h4⟩
end
end Go.Proofs.YtcelelnmphdlbaaGreatDoor
