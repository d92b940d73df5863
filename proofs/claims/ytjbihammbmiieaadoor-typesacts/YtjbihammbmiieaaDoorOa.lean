/- A slice of acts, opened. -/
import Derived.Test.YtjbihammbmiieaaDoorLa
import Derived.ProofKit
import Derived.OpenShut
import Derived.Deep.Slices
import Derived.Deep.Strs
namespace Go.Proofs.YtjbihammbmiieaaDoor
open Go.ChangeShapes Go.WideShapes Go.ChangeAt Go.RowKit Go.Deep Un

theorem Tryd.cells31 : Tryd.prog.cellsOf 31 = 3 := by kernel_rfl
theorem Tryd.cells5 : Tryd.prog.cellsOf 5 = 1 := by kernel_rfl
theorem Tryd.cells29 : Tryd.prog.cellsOf 29 = 1 := by kernel_rfl
theorem Tryd.bytes31 : Tryd.prog.bytesOf 31 = 3 := by kernel_rfl

section
variable {H : Type} {enc : TypeId × Value → H} {w : World} {base : Nat} {spare : Nat → Bool} {held : Bool}

set_option maxRecDepth 100000 in
theorem open_act {fuel : Nat} {cs : List Value} {x : DataW H × List MemPlace} (h : DataW.trod enc Tryd.prog w base spare held fuel 31 cs = some x) :
    ∃ a : Ac, cs = [.int .u8 a.kind, .int .i8 a.a, .int .i8 a.b] ∧ a.kind < 256 ∧ -128 ≤ a.a ∧ a.a ≤ 127 ∧ -128 ≤ a.b ∧ a.b ≤ 127 := by
  obtain ⟨y0, y1, y2, m, _, hcl, e0, e1, e2⟩ := trod_struct3 Tryd.underlying31 h
  rw [Tryd.cells31] at hcl
  match cs, hcl with
  | [c0, c1, c2], _ =>
    simp only [Tryd.cells5, Tryd.cells29] at e0 e1 e2
    simp at e0 e1 e2
    obtain ⟨k, hk, _, w0⟩ := DataW.trod_int Tryd.underlying5 e0
    obtain ⟨a, ha, _, w1⟩ := DataW.trod_int Tryd.underlying29 e1
    obtain ⟨b, hb, _, w2⟩ := DataW.trod_int Tryd.underlying29 e2
    simp at hk ha hb
    have b0 := bounds_u8 w0
    have b1 := bounds_i8 w1
    have b2 := bounds_i8 w2
    refine ⟨⟨k.toNat, a, b⟩, ?_, ?_, b1.1, b1.2, b2.1, b2.2⟩
    · have : ((k.toNat : Nat) : Int) = k := by omega
      simp only [this]
      rw [hk, ha, hb]
    · show k.toNat < 256
      omega

set_option maxRecDepth 100000 in
theorem open_acts {fuel : Nat} {ao : Option Addr} {len cap : Nat} {x : DataW H × List MemPlace} (h : DataW.trod enc Tryd.prog w base spare held fuel 22 [.slice ao len cap] = some x) :
    ∃ A : List Ac, A.length = len ∧ ActsAt w.heap.size w ao A ∧ ∀ B, (∀ n ∈ x.1.weights Tryd.prog 22, n ≤ B) → len ≤ B := by
  rcases open_slice Tryd.underlying22 h with ⟨hcs, _⟩ | ⟨a, l, c, m, n, D, Pl, hcs, hb, hl, hm, hmm, hx, hi⟩
  · simp at hcs
    obtain ⟨rfl, rfl, rfl⟩ := hcs
    exact ⟨[], rfl, fun i hi => by simp at hi, fun B _ => Nat.zero_le _⟩
  · simp at hcs
    obtain ⟨rfl, rfl, rfl⟩ := hcs
    have hle : len ≤ m := by rw [hmm]; split <;> omega
    have hspot : ∀ i, i < len → a.spot = none := by
      intro i hil
      obtain ⟨cs', hc, ht⟩ := hi 0 (by omega)
      obtain ⟨q, rfl, _⟩ := open_act ht
      rw [Tryd.cells31] at hc
      have h0 := (World.cells?_some hc).2.2 0 (by omega)
      have := World.cell?_spot (by simpa using h0)
      simpa [Addr.add] using this
    have key : ∀ i, i < len → ∃ q : Ac, ∃ b off, a = ⟨b, off, none⟩ ∧ b < w.heap.size ∧ w.cell? ⟨b, off + i * 3, none⟩ = some (.int .u8 q.kind) ∧ w.cell? ⟨b, off + i * 3 + 1, none⟩ = some (.int .i8 q.a) ∧ w.cell? ⟨b, off + i * 3 + 2, none⟩ = some (.int .i8 q.b) ∧ q.kind < 256 ∧ -128 ≤ q.a ∧ q.a ≤ 127 ∧ -128 ≤ q.b ∧ q.b ≤ 127 := by
      intro i hil
      obtain ⟨cs', hc, ht⟩ := hi i (by omega)
      obtain ⟨q, rfl, hq⟩ := open_act ht
      rw [Tryd.cells31] at hc
      obtain ⟨_, _, hat⟩ := World.cells?_some hc
      have h0 := hat 0 (by omega)
      have h1 := hat 1 (by omega)
      have h2 := hat 2 (by omega)
      simp at h0 h1 h2
      obtain ⟨b, off, spot⟩ := a
      rw [add_add] at h0 h1 h2
      have hs' : spot = none := hspot i hil
      subst hs'
      refine ⟨q, b, off, rfl, ?_, ?_, ?_, ?_, hq⟩
      · have := World.block_lt_of_cell? _ _ h1
        simpa [Addr.add] using this
      · simpa [add_plain] using h0
      · simpa [add_plain, Nat.add_assoc] using h1
      · simpa [add_plain, Nat.add_assoc] using h2
    have : Inhabited Ac := ⟨⟨0, 0, 0⟩⟩
    obtain ⟨F, hF⟩ := choose_lt key
    refine ⟨(List.range len).map F, by simp, fun i hi => ?_, fun B hB => ?_⟩
    · have hil : i < len := by simpa using hi
      have e : ac ((List.range len).map F) i = F i := by simp [ac, hil]
      obtain ⟨b, off, h0, h1, h2⟩ := hF i hil
      rw [e]
      exact ⟨b, off, by rw [h0], h1, h2⟩
    · rw [hx] at hB
      have := hB ((len + (m - len)) * 3) (by simp [DataW.weights, Tryd.underlying22, Tryd.bytes31])
      omega
end
end Go.Proofs.YtjbihammbmiieaaDoor
