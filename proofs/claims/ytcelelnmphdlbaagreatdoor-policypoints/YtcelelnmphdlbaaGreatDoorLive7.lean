/- A policy that was parsed, to be read; the chapter's example. -/
import Derived.Test.YtcelelnmphdlbaaGreatDoorYParse
import Derived.Test.YtcelelnmphdlbaaGreatDoorLattice
namespace Go.Proofs.YtcelelnmphdlbaaGreatDoor
open Go.RowKit Tn Lx

theorem cells3_get : ∀ (l : List Py.Nm) (i : Nat) (n : Py.Nm), l[i]? = some n → (cells3 l)[i * 3]? = some (.string ⟨n.text.toArray⟩) ∧ (cells3 l)[i * 3 + 1]? = some (.int .i64 n.at_.line) ∧ (cells3 l)[i * 3 + 2]? = some (.int .i64 n.at_.col)
  | m :: l, 0, n, h => by
    obtain rfl : m = n := by simpa using h
    exact ⟨rfl, rfl, rfl⟩
  | m :: l, i + 1, n, h => by
    have := cells3_get l i n (by simpa using h)
    have e : cells3 (m :: l) = .string ⟨m.text.toArray⟩ :: .int .i64 m.at_.line :: .int .i64 m.at_.col :: cells3 l := rfl
    rw [e, show (i + 1) * 3 = i * 3 + 3 by omega, show i * 3 + 3 + 1 = i * 3 + 1 + 3 by omega, show i * 3 + 3 + 2 = i * 3 + 2 + 3 by omega]
    exact this
theorem cellsP_get : ∀ (l : List (Py.Nm × Py.Nm)) (i : Nat) (p : Py.Nm × Py.Nm), l[i]? = some p → (cellsP l)[i * 6]? = some (.string ⟨p.1.text.toArray⟩) ∧ (cellsP l)[i * 6 + 1]? = some (.int .i64 p.1.at_.line) ∧ (cellsP l)[i * 6 + 2]? = some (.int .i64 p.1.at_.col) ∧ (cellsP l)[i * 6 + 3]? = some (.string ⟨p.2.text.toArray⟩) ∧ (cellsP l)[i * 6 + 4]? = some (.int .i64 p.2.at_.line) ∧ (cellsP l)[i * 6 + 5]? = some (.int .i64 p.2.at_.col)
  | m :: l, 0, p, h => by
    obtain rfl : m = p := by simpa using h
    exact ⟨rfl, rfl, rfl, rfl, rfl, rfl⟩
  | m :: l, i + 1, p, h => by
    have := cellsP_get l i p (by simpa using h)
    have e : cellsP (m :: l) = .string ⟨m.1.text.toArray⟩ :: .int .i64 m.1.at_.line :: .int .i64 m.1.at_.col :: .string ⟨m.2.text.toArray⟩ :: .int .i64 m.2.at_.line :: .int .i64 m.2.at_.col :: cellsP l := rfl
    rw [e, show (i + 1) * 6 = i * 6 + 6 by omega, show i * 6 + 6 + 1 = i * 6 + 1 + 6 by omega, show i * 6 + 6 + 2 = i * 6 + 2 + 6 by omega, show i * 6 + 6 + 3 = i * 6 + 3 + 6 by omega, show i * 6 + 6 + 4 = i * 6 + 4 + 6 by omega, show i * 6 + 6 + 5 = i * 6 + 5 + 6 by omega]
    exact this
theorem names_of_own {w : World} {base : Nat} {t : TypeId} {v : Value} {l : List Py.Nm} (h : w.ownsRow base t 3 v l.length (cells3 l)) (hl : 1 ≤ l.length) : ∃ b cap, v = .slice (some ⟨b, 0, none⟩) l.length cap ∧ NamesAt w b l := by
  obtain ⟨g, cap, e, _, _, hx⟩ := own_slice2 h hl
  refine ⟨g, cap, e, fun i n hi => ?_⟩
  obtain ⟨h0, h1, h2⟩ := cells3_get l i n hi
  exact ⟨hx _ _ h0, hx _ _ h1, hx _ _ h2⟩
theorem pairsN_of_own {w : World} {base : Nat} {t : TypeId} {v : Value} {l : List (Py.Nm × Py.Nm)} (h : w.ownsRow base t 6 v l.length (cellsP l)) : ∃ ao cap, v = .slice ao l.length cap ∧ PairsN w ao l := by
  obtain ⟨ao, cap, rfl⟩ := own_form h
  refine ⟨ao, cap, rfl, fun i p hi => ?_⟩
  have hlt := (List.getElem?_eq_some_iff.1 hi).1
  obtain ⟨g, cap', e, _, _, hx⟩ := own_slice2 h (by omega)
  injection e with e _ _
  obtain ⟨h0, h1, h2, h3, h4, h5⟩ := cellsP_get l i p hi
  exact ⟨g, e, hx _ _ h0, hx _ _ h1, hx _ _ h2, hx _ _ h3, hx _ _ h4, hx _ _ h5⟩
theorem Pm.at_ {c : Cx} {q pp : Nat} {v1 v2 v3 : Value} {w : World} {g : Py.St} (h : Pm c q pp v1 v2 v3 w g) (h1 : 1 ≤ g.conf.length) (h2 : 1 ≤ g.integ.length) (k1 : g.conf.length ≤ 1000) (k2 : g.integ.length ≤ 1000) (k3 : g.ord.length ≤ 1000) : ∃ b1 c1 b2 c2 ao c3, PolAt w q b1 c1 b2 c2 ao c3 g := by
  obtain ⟨b1, c1, rfl, n1⟩ := names_of_own h.conf h1
  obtain ⟨b2, c2, rfl, n2⟩ := names_of_own h.integ h2
  obtain ⟨ao, c3, rfl, n3⟩ := pairsN_of_own h.ord
  exact ⟨b1, c1, b2, c2, ao, c3, h.g1, h.g2, h.g3, h.g4, h.g5, h.g6, n1, n2, n3, k1, k2, k3⟩

/-- one pair of two points makes a lattice -/
def twoF (a : Nat) : Nat := if a = 0 then 3 else 2
def twoU (a : Nat) : Nat := if a = 0 then 1 else 3
theorem two_cases {p : Nat → Nat → Prop} (h00 : p 0 0) (h01 : p 0 1) (h10 : p 1 0) (h11 : p 1 1) : ∀ a b, a < 2 → b < 2 → p a b := fun a b ha hb => by
  obtain rfl | rfl : a = 0 ∨ a = 1 := by omega
  all_goals
    obtain rfl | rfl : b = 0 ∨ b = 1 := by omega
    all_goals assumption
theorem two_built : Od.Built 2 (Od.pf [(0, 1)]) (Od.qf [(0, 1)]) 1 twoF twoU := by
  have bits : ∀ a b, a < 2 → b < 2 → ((twoF a).testBit b = true ↔ (a = b ∨ (a = 0 ∧ b = 1))) := two_cases (by decide) (by decide) (by decide) (by decide)
  refine ⟨twoF, ⟨?_, ?_⟩, ⟨?_, ?_, ?_, ?_⟩, ⟨?_, ?_⟩⟩
  · intro a ha; obtain rfl | rfl : a = 0 ∨ a = 1 := by omega
    all_goals decide
  · intro a b ha hb
    rw [bits a b ha hb]
    constructor
    · rintro (h | ⟨rfl, rfl⟩)
      · exact .inl h
      · exact .inr ⟨0, by omega, rfl, rfl⟩
    · rintro (h | ⟨i, hi, h1, h2⟩)
      · exact .inl h
      · obtain rfl : i = 0 := by omega
        have h1' : (0 : Int) = a := h1
        have h2' : (1 : Int) = b := h2
        exact .inr ⟨by omega, by omega⟩
  · intro a ha; obtain rfl | rfl : a = 0 ∨ a = 1 := by omega
    all_goals decide
  · exact fun _ _ _ _ h => h
  · intro m a b _ hm ha hb h1 h2
    rw [bits a m ha hm] at h1
    rw [bits m b hm hb] at h2
    rw [bits a b ha hb]
    omega
  · exact fun T h1 _ a b ha hb h => h1 a b ha hb h
  · intro a ha; obtain rfl | rfl : a = 0 ∨ a = 1 := by omega
    all_goals decide
  · exact two_cases (by decide) (by decide) (by decide) (by decide)
theorem two_good : Od.Good 2 [(0, 1)] := by
  refine ⟨fun i hi => ?_, twoF, twoU, two_built, ?_⟩
  · obtain rfl : i = 0 := by simpa using hi
    exact ⟨by decide, by decide, by decide, by decide⟩
  · intro b hb a ha
    obtain ⟨rfl, rfl⟩ : a = 0 ∧ b = 1 := by omega
    exact ⟨by decide, by decide, by decide⟩

abbrev lText : ByteArray := ⟨#[99, 111, 110, 102, 32, 108, 111, 119, 44, 32, 104, 105, 103, 104, 59, 32, 111, 114, 100, 101, 114, 32, 108, 111, 119, 32, 60, 32, 104, 105, 103, 104, 59, 32, 105, 110, 116, 101, 103, 32, 111, 107, 44, 32, 98, 97, 100, 59, 32, 111, 114, 100, 101, 114, 32, 111, 107, 32, 60, 32, 98, 97, 100, 59, 32, 97, 116, 116, 97, 99, 107, 101, 114, 32, 98, 97, 100, 59]⟩
def lToks : List Tok := match Lx.whole lText.data.toList with
  | .ok ts => ts
  | .bad _ _ => []
def lPol : Py.St := ⟨[⟨[108, 111, 119], ⟨1, 6⟩⟩, ⟨[104, 105, 103, 104], ⟨1, 11⟩⟩], [⟨[111, 107], ⟨1, 41⟩⟩, ⟨[98, 97, 100], ⟨1, 45⟩⟩], [(⟨[108, 111, 119], ⟨1, 23⟩⟩, ⟨[104, 105, 103, 104], ⟨1, 29⟩⟩), (⟨[111, 107], ⟨1, 56⟩⟩, ⟨[98, 97, 100], ⟨1, 61⟩⟩)], ⟨[98, 97, 100], ⟨1, 75⟩⟩⟩
theorem l_whole : Lx.whole lText.data.toList = .ok lToks := by kernel_rfl
theorem l_all : Py.allO lToks 5 10 0 Py.st0 ⟨0, []⟩ = some lPol := by kernel_rfl
end Go.Proofs.YtcelelnmphdlbaaGreatDoor
