/- What New answers for some pairs hangs on these alone. -/
import Derived.Test.YtcelelnmphdlbaaGreatDoorOLat
namespace Go.Proofs.YtcelelnmphdlbaaGreatDoor.Od
open Go.RowKit

namespace M
theorem closure_congr {n : Nat} {r r' F : Nat → Nat → Prop} (h : IsClosure n r F) (e : ∀ a b, a < n → b < n → (r a b ↔ r' a b)) : IsClosure n r' F :=
  ⟨fun a b ha hb hr => h.1 a b ha hb ((e a b ha hb).2 hr), h.2.1, fun T h1 h2 => h.2.2 T (fun a b ha hb hr => h1 a b ha hb ((e a b ha hb).1 hr)) h2⟩
theorem findN_congr {f g : Nat → Nat} {n : Nat} (h : ∀ i, i < n → f i = g i) (x : Nat) : findN f x n = findN g x n := by
  rcases findN_cases f x n with ⟨p, hp, e, e1, e2⟩ | ⟨e, e1⟩
  · rw [e1, findN_hit (fun i hi => by rw [← h i (by omega)]; exact e2 i hi) hp (by rw [← h p hp]; exact e)]
  · rw [e1, findN_miss (fun i hi => by rw [← h i hi]; exact e i hi)]
theorem latOK_congr {n : Nat} {f g u v : Nat → Nat} (h : ∀ i, i < n → f i = g i) (k : ∀ i, i < n → u i = v i) (hl : LatOK n f u) : LatOK n g v := fun b hb a ha => by
  obtain ⟨h1, h2, h3⟩ := hl b hb a ha
  refine ⟨?_, ?_, ?_⟩
  · rw [← h a (by omega), ← h b hb]; exact h1
  · rw [← h a (by omega), ← h b hb, ← findN_congr h]; exact h2
  · rw [← k a (by omega), ← k b hb, ← findN_congr k]; exact h3
end M
theorem built_unique {N len : Nat} {p q : Nat → Int} {f u f' u' : Nat → Nat} (h : Built N p q len f u) (h' : Built N p q len f' u') : (∀ i, i < N → f i = f' i) ∧ (∀ i, i < N → u i = u' i) := by
  obtain ⟨f0, hp, hc, hr⟩ := h
  obtain ⟨f0', hp', hc', hr'⟩ := h'
  have hcl := M.closure_congr hc.closure (r' := fun a b => (f0' a).testBit b = true) (fun a b ha hb => (hp.bits a b ha hb).trans (hp'.bits a b ha hb).symm)
  have hun := M.closure_unique hcl hc'.closure
  have hf : ∀ i, i < N → f i = f' i := fun i hi => M.mask_ext (hc.lim i hi) (hc'.lim i hi) (fun j hj => Bool.eq_iff_iff.2 (hun i j hi hj))
  exact ⟨hf, fun i hi => M.mask_ext (hr.lim i hi) (hr'.lim i hi) (fun j hj => by rw [hr.done j i hj hi, hr'.done j i hj hi, hf j hj])⟩

def pf (l : List (Nat × Nat)) (i : Nat) : Int := ((l.getD i (0, 0)).1 : Int)
def qf (l : List (Nat × Nat)) (i : Nat) : Int := ((l.getD i (0, 0)).2 : Int)
/-- these pairs make a lattice -/
def Good (N : Nat) (l : List (Nat × Nat)) : Prop := (∀ i, i < l.length → PairIn N (pf l i) (qf l i)) ∧ ∃ f u, Built N (pf l) (qf l) l.length f u ∧ M.LatOK N f u
/-- what New answers -/
def NewG (w : World) (N : Nat) (l : List (Nat × Nat)) (e : Ending) (w' : World) : Prop :=
  Below w.heap.size w w' ∧ ((¬ Good N l ∧ ∃ c : Int, c ≠ 0 ∧ e = .returned (.tuple #[.pointer none, .int .i64 c])) ∨
    (Good N l ∧ ∃ o ba bu f u, e = .returned (.tuple #[.pointer (some ⟨o, 0, none⟩), .int .i64 0]) ∧ OrdAt w' o N ba bu f u ∧ Built N (pf l) (qf l) l.length f u))
theorem new_good (w : World) (N : Nat) (ao : Option Addr) (cap : Nat) (l : List (Nat × Nat)) (h1 : 1 ≤ N) (h32 : N ≤ 32) (hlen : l.length ≤ 1000) (hps : PairsAt w ao l.length (pf l) (qf l)) :
    Calls Tryz.prog 8 #[.int .i64 (N : Int), .slice ao l.length cap] w (NewG w N l) := by
  refine (new_any w N ao l.length cap (pf l) (qf l) h1 h32 (by omega) hps).mono ?_
  rintro e w' ⟨hb, ⟨rfl, i, hi, hn⟩ | ⟨hin, f, u, hB, ⟨rfl, hn⟩ | ⟨hok, o, ba, bu, rfl, _, _, ho⟩⟩⟩
  · exact ⟨hb, .inl ⟨fun hg => hn (hg.1 i hi), 1, by decide, rfl⟩⟩
  · refine ⟨hb, .inl ⟨fun ⟨_, f', u', hB', hok⟩ => ?_, 2, by decide, rfl⟩⟩
    have := built_unique hB' hB
    exact hn (M.latOK_congr this.1 this.2 hok)
  · exact ⟨hb, .inr ⟨⟨hin, f, u, hB, hok⟩, o, ba, bu, f, u, rfl, ho, hB⟩⟩
theorem OrdAt.below {w w' : World} {o n ba bu : Nat} {f u : Nat → Nat} (h : OrdAt w o n ba bu f u) (hn : 1 ≤ n) (hb : Below w.heap.size w w') : OrdAt w' o n ba bu f u :=
  have k : ∀ {b i : Nat} {v : Value}, w.cell? ⟨b, i, none⟩ = some v → w'.cell? ⟨b, i, none⟩ = some v := fun {b i v} e => (hb.cell (p := ⟨b, i, none⟩) (World.block_lt_of_cell? _ _ e)).trans e
  ⟨h.n32, k h.c0, k h.c1, fun i hi => k (h.ra i hi), fun i hi => k (h.ru i hi), h.fl, h.ul⟩
end Go.Proofs.YtcelelnmphdlbaaGreatDoor.Od
