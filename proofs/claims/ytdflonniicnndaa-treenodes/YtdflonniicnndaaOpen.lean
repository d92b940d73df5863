/- A slice of nodes, opened: what lies in memory, and how long its parts are. -/
import Derived.Test.YtdflonniicnndaaLaw
import Derived.ProofKit
import Derived.OpenShut
import Derived.Deep.Slices
import Derived.Lib.SmallJoins
import Derived.SizedLaws
namespace Go.Proofs.Ytdflonniicnndaa
open Go.ChangeShapes Go.WideShapes Go.ChangeAt Go.RowKit Go.Deep Tn

theorem Try.cells3 : Try.prog.cellsOf 3 = 1 := by kernel_rfl
theorem Try.cells2 : Try.prog.cellsOf 2 = 1 := by kernel_rfl
theorem Try.cells9 : Try.prog.cellsOf 9 = 1 := by kernel_rfl
theorem Try.cells30 : Try.prog.cellsOf 30 = 2 := by kernel_rfl
theorem Try.cells31 : Try.prog.cellsOf 31 = 1 := by kernel_rfl
theorem Try.cells33 : Try.prog.cellsOf 33 = 6 := by kernel_rfl
theorem Try.bytes3 : Try.prog.bytesOf 3 = 8 := by kernel_rfl
theorem Try.bytes33 : Try.prog.bytesOf 33 = 80 := by kernel_rfl
theorem Try.own : ownKnob Try.prog.godebug = none := by kernel_rfl
theorem Try.laidOut : laidOutB Try.prog = true := by kernel_rfl

theorem weights_mem_all {H : Type} {P : Program} {e : TypeId} : ∀ {ds : List (DataW H)} {d : DataW H}, d ∈ ds → ∀ n ∈ d.weights P e, n ∈ DataW.weightsAll P e ds
  | d0 :: ds, d, hd, n, hn => by
    simp only [DataW.weightsAll, List.mem_append]
    rcases List.mem_cons.1 hd with rfl | hd
    · exact .inl hn
    · exact .inr (weights_mem_all hd n hn)
  | [], _, hd, _, _ => by cases hd

section
variable {H : Type} {enc : TypeId × Value → H} {w : World} {base : Nat} {spare : Nat → Bool} {held : Bool}

/-- numbers -/
theorem open_nums {fuel : Nat} {ao : Option Addr} {len cap : Nat} {x : DataW H × List MemPlace} (h : DataW.trod enc Try.prog w base spare held fuel 31 [.slice ao len cap] = some x) :
    ∃ ks : List Int, ks.length = len ∧ IntsAt w.heap.size w ao ks ∧ (ao = none → cap = 0) ∧ ∀ B, (∀ n ∈ x.1.weights Try.prog 31, n ≤ B) → len ≤ B := by
  rcases open_slice1 Try.underlying31 Try.cells3 h with ⟨hcs, _⟩ | ⟨a, l, c, m, n, V, D, Pl, hcs, hb, hl, hm, hmm, hx, hi⟩
  · simp at hcs
    obtain ⟨rfl, rfl, rfl⟩ := hcs
    exact ⟨[], rfl, fun i hi => by simp at hi, fun _ => rfl, fun B _ => Nat.zero_le _⟩
  · simp at hcs
    obtain ⟨rfl, rfl, rfl⟩ := hcs
    have hle : len ≤ m := by rw [hmm]; split <;> omega
    have key : ∀ i, i < len → ∃ u : Int, ∃ b off, a = ⟨b, off, none⟩ ∧ b < w.heap.size ∧ w.cell? ⟨b, off + i, none⟩ = some (.int .i64 u) := by
      intro i hil
      obtain ⟨hc, ht⟩ := hi i (by omega)
      obtain ⟨u, hu, _⟩ := DataW.trod_int Try.underlying3 ht
      simp at hu
      rw [hu] at hc
      obtain ⟨b, off, spot⟩ := a
      have hs : spot = none := by
        obtain ⟨h0, t0⟩ := hi 0 (by omega)
        obtain ⟨u0, hu0, _⟩ := DataW.trod_int Try.underlying3 t0
        simp at hu0
        rw [hu0] at h0
        have := World.cell?_spot h0
        simpa [Addr.add] using this
      subst hs
      rw [add_plain] at hc
      exact ⟨u, b, off, rfl, World.block_lt_of_cell? _ _ hc, hc⟩
    obtain ⟨F, hF⟩ := choose_lt key
    refine ⟨(List.range len).map F, by simp, fun i hi => ?_, (fun e => by cases e), fun B hB => ?_⟩
    · have hil : i < len := by simpa using hi
      obtain ⟨b, off, e, h1, h2⟩ := hF i hil
      exact ⟨b, off, by rw [e], h1, by simpa [kid, hil] using h2⟩
    · rw [hx] at hB
      have := hB ((len + (m - len)) * 8) (by simp [DataW.weights, Try.underlying31, Try.bytes3])
      omega

/-- a node -/
theorem open_node {fuel : Nat} {cs : List Value} {x : DataW H × List MemPlace} (h : DataW.trod enc Try.prog w base spare held fuel 33 cs = some x) :
    ∃ s : SN, cs = cell6 s ∧ IntsAt w.heap.size w s.ka s.n.kids ∧ (s.ka = none → s.kc = 0) ∧ ∀ B, (∀ n ∈ x.1.weights Try.prog 33, n ≤ B) → s.n.op.size ≤ B ∧ s.n.name.size ≤ B ∧ s.n.kids.length ≤ B := by
  obtain ⟨xs, n, _, rfl, hl, hlen, hf⟩ := DataW.trod_struct Try.underlying33 h
  rw [Try.cells33] at hl
  match cs, hl, xs, hlen with
  | [c0, c1, c2, c3, c4, c5], _, [y0, y1, y2, y3, y4], _ =>
    have e0 := hf 0 _ rfl
    have e1 := hf 1 _ rfl
    have e2 := hf 2 _ rfl
    have e3 := hf 3 _ rfl
    have e4 := hf 4 _ rfl
    simp [Try.cells9, Try.cells30, Try.cells2, Try.cells31] at e0 e1 e2 e3 e4
    obtain ⟨s0, h0, d0, _⟩ := DataW.trod_string Try.underlying9 e0
    obtain ⟨s2, h2, d2, _⟩ := DataW.trod_string Try.underlying9 e2
    obtain ⟨k3, h3, d3, _⟩ := DataW.trod_int Try.underlying2 e3
    obtain ⟨ka, kl, kc, h4⟩ := Joins.slice_form Try.underlying31 e4
    obtain ⟨z0, z1, m, _, hcl, g0, g1⟩ := trod_struct2 Try.underlying30 e1
    simp only [Try.cells3] at g0 g1
    simp at g0 g1
    obtain ⟨a, ha, _⟩ := DataW.trod_int Try.underlying3 g0
    obtain ⟨b, hb, _⟩ := DataW.trod_int Try.underlying3 g1
    simp at h0 h2 h3 h4 ha hb
    subst h0 h2 h3 h4 ha hb
    obtain ⟨ks, rfl, hk, hnil, hw⟩ := open_nums e4
    refine ⟨⟨⟨s0, a, b, s2, k3, ks⟩, ka, kc⟩, rfl, hk, hnil, fun B hB => ?_⟩
    have q : ∀ (j : Nat) (t : TypeId) (d : DataW H), ([9, 30, 9, 2, 31] : List TypeId)[j]? = some t → [y0.1, y1.1, y2.1, y3.1, y4.1][j]? = some d → ∀ n ∈ d.weights Try.prog t, n ≤ B := fun j t d ht hd n hn => hB n (by
      have := DataW.weights_mem_each (P := Try.prog) ht hd n hn
      simpa [DataW.weights, Try.underlying33] using this)
    refine ⟨?_, ?_, hw B (fun n hn => q 4 31 y4.1 rfl rfl n hn)⟩
    · have := q 0 9 y0.1 rfl rfl s0.size (by rw [d0]; simp [DataW.weights])
      exact this
    · have := q 2 9 y2.1 rfl rfl s2.size (by rw [d2]; simp [DataW.weights])
      exact this

/-- nodes -/
theorem open_nodes {fuel : Nat} {ao : Option Addr} {len cap : Nat} {x : DataW H × List MemPlace} (h : DataW.trod enc Try.prog w base spare held fuel 22 [.slice ao len cap] = some x) :
    ∃ L : List Nd, L.length = len ∧ NodesAt w.heap.size w ao L ∧ ∀ B, (∀ n ∈ x.1.weights Try.prog 22, n ≤ B) → len ≤ B ∧ ∀ i, i < len → (nd L i).op.size ≤ B ∧ (nd L i).name.size ≤ B ∧ (nd L i).kids.length ≤ B := by
  rcases open_slice Try.underlying22 h with ⟨hcs, _⟩ | ⟨a, l, c, m, n, D, Pl, hcs, hb, hl, hm, hmm, hx, hi⟩
  · simp at hcs
    obtain ⟨rfl, rfl, rfl⟩ := hcs
    exact ⟨[], rfl, fun i hi => by simp at hi, fun B _ => ⟨Nat.zero_le _, fun i hi => by omega⟩⟩
  · simp at hcs
    obtain ⟨rfl, rfl, rfl⟩ := hcs
    have hle : len ≤ m := by rw [hmm]; split <;> omega
    have key : ∀ i, i < len → ∃ nn : Nd, (∃ b off ka kc, a = ⟨b, off, none⟩ ∧ NodeAt w.heap.size w b (off + i * 6) nn ka kc) ∧ ∀ B, (∀ n ∈ (D i).weights Try.prog 33, n ≤ B) → nn.op.size ≤ B ∧ nn.name.size ≤ B ∧ nn.kids.length ≤ B := by
      intro i hil
      obtain ⟨cs', hc, ht⟩ := hi i (by omega)
      obtain ⟨s, rfl, hk, hnil, hw⟩ := open_node ht
      rw [Try.cells33] at hc
      obtain ⟨_, _, hat⟩ := World.cells?_some hc
      obtain ⟨b, off, spot⟩ := a
      have hs : spot = none := by
        obtain ⟨cs0, hc0, t0⟩ := hi 0 (by omega)
        obtain ⟨s0, rfl, _⟩ := open_node t0
        rw [Try.cells33] at hc0
        have h0 := (World.cells?_some hc0).2.2 0 (by omega)
        have := World.cell?_spot (by simpa [cell6] using h0)
        simpa [Addr.add] using this
      subst hs
      have at_ : ∀ j, j < 6 → ∀ u, (cell6 s)[j]? = some u → w.cell? ⟨b, off + i * 6 + j, none⟩ = some u := fun j hj u hu => by
        have h0 := hat j hj
        rw [hu, add_add, add_plain] at h0
        rw [Nat.add_assoc]
        exact h0
      have hlt := World.block_lt_of_cell? _ _ (at_ 0 (by omega) _ rfl)
      exact ⟨s.n, ⟨b, off, s.ka, s.kc, rfl, hlt, at_ 0 (by omega) _ rfl, at_ 1 (by omega) _ rfl, at_ 2 (by omega) _ rfl, at_ 3 (by omega) _ rfl, at_ 4 (by omega) _ rfl, at_ 5 (by omega) _ rfl, hk, hnil⟩, hw⟩
    obtain ⟨F, hF⟩ := choose_lt key
    have hnd : ∀ i, i < len → nd ((List.range len).map F) i = F i := fun i hi => by simp [nd, hi]
    refine ⟨(List.range len).map F, by simp, fun i hi => ?_, fun B hB => ?_⟩
    · have hil : i < len := by simpa using hi
      obtain ⟨⟨b, off, ka, kc, e, hn⟩, _⟩ := hF i hil
      rw [hnd i hil]
      exact ⟨b, off, ka, kc, by rw [e], hn⟩
    · rw [hx] at hB
      refine ⟨?_, fun i hi => ?_⟩
      · have := hB ((len + (m - len)) * 80) (by simp [DataW.weights, Try.underlying22, Try.bytes33])
        omega
      · rw [hnd i hi]
        refine (hF i hi).2 B fun n hn => hB n ?_
        have := weights_mem_all (P := Try.prog) (e := 33) (ds := (List.range len).map D) (d := D i) (List.mem_map.2 ⟨i, List.mem_range.2 hi, rfl⟩) n hn
        simp only [DataW.weights, Try.underlying22, List.mem_cons, List.mem_append]
        exact .inr (.inl this)
end
end Go.Proofs.Ytdflonniicnndaa
