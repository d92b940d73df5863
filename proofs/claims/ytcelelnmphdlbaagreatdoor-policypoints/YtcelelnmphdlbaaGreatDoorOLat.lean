import Derived.Test.YtcelelnmphdlbaaGreatDoorONew

/- The walk of New where the number of points is none. -/
namespace Go.Proofs.YtcelelnmphdlbaaGreatDoor.Od
open Go.RowKit

theorem new_out (w : World) (n : Int) (ao : Option Addr) (len cap : Nat) (h : n < 1 ∨ 32 < n) :
    Calls Tryz.prog 8 #[.int .i64 n, .slice ao len cap] w fun e w' => e = .returned (.tuple #[.pointer none, .int .i64 1]) ∧ w = w' := by
  rcases h with h | h
  · go_enter Tryz.func8, Tryz.ntmps8
    go_wp2
    go_ret2
    exact ⟨rfl, rfl⟩
  · have t1 : decide (n < 1) = false := by simp; omega
    go_enter Tryz.func8, Tryz.ntmps8
    go_wp2
    go_ret2
    exact ⟨rfl, rfl⟩
end Go.Proofs.YtcelelnmphdlbaaGreatDoor.Od


/- The calls of an order that is a lattice: joins, meets, the least and the greatest point exist. -/
namespace Go.Proofs.YtcelelnmphdlbaaGreatDoor.Od
open Go.RowKit

theorem lat_of {N len : Nat} {p q : Nat → Int} {f u : Nat → Nat} (h1 : 1 ≤ N) (hb : Built N p q len f u) (hok : M.LatOK N f u) : M.Lat N f u := by
  obtain ⟨f0, hp, hc, hr⟩ := hb
  have ex : ∀ (g : Nat → Nat) (x : Nat), M.findN g x N ≠ -1 → ∃ p, p < N ∧ g p = x := by
    intro g x h
    rcases M.findN_cases g x N with ⟨p, hp, he, _⟩ | ⟨_, h'⟩
    · exact ⟨p, hp, he⟩
    · exact absurd h' h
  refine ⟨by omega, hc.lim, hr.lim, fun i hi => hc.has i i hi hi ((hp.bits i i hi hi).2 (Or.inl rfl)), hc.closure.2.1, fun a b ha hb => hr.done a b ha hb, ?_, ?_, ?_⟩
  · intro a b ha hb he
    rcases Nat.lt_trichotomy a b with h | h | h
    · exact absurd he (hok b hb a h).1
    · exact h
    · exact absurd he.symm (hok a ha b h).1
  · intro a b ha hb
    rcases Nat.lt_trichotomy a b with h | h | h
    · exact ex f _ (hok b hb a h).2.1
    · subst h; exact ⟨a, ha, by rw [Nat.and_self]⟩
    · rw [Nat.and_comm]; exact ex f _ (hok a ha b h).2.1
  · intro a b ha hb
    rcases Nat.lt_trichotomy a b with h | h | h
    · exact ex u _ (hok b hb a h).2.2
    · subst h; exact ⟨a, ha, by rw [Nat.and_self]⟩
    · rw [Nat.and_comm]; exact ex u _ (hok a ha b h).2.2

/-- a point with such a mask is handed back; nothing turns but draws -/
def PointOf (g : Nat → Nat) (n x : Nat) (w : World) (e : Ending) (w' : World) : Prop := ∃ p : Nat, p < n ∧ g p = x ∧ e = .returned (.int .i64 (p : Int)) ∧ ∃ k, w' = w.drewN k

theorem findN_point {g : Nat → Nat} {n x : Nat} (h : ∃ p, p < n ∧ g p = x) : ∃ p : Nat, p < n ∧ g p = x ∧ M.findN g x n = p := by
  rcases M.findN_cases g x n with ⟨p, hp, he, hf, _⟩ | ⟨h', _⟩
  · exact ⟨p, hp, he, hf⟩
  · obtain ⟨p, hp, he⟩ := h; exact absurd he (h' p hp)

theorem join_lat (w : World) (o n ba bu : Nat) (f u : Nat → Nat) (a b : Nat) (h : OrdAt w o n ba bu f u) (L : M.Lat n f u) (ha : a < n) (hb : b < n) :
    Calls Tryz.prog 38 #[.pointer (some ⟨o, 0, none⟩), .int .i64 (a : Int), .int .i64 (b : Int)] w (PointOf f n (f a &&& f b) w) := by
  refine (join_in w o n ba bu f u a b h (by omega) (by omega) (by omega) (by omega)).mono ?_
  rintro e w' ⟨rfl, hk⟩
  obtain ⟨p, hp, he, hf⟩ := findN_point (L.join a b ha hb)
  exact ⟨p, hp, he, by simp only [Int.toNat_natCast]; rw [hf], hk⟩

theorem meet_lat (w : World) (o n ba bu : Nat) (f u : Nat → Nat) (a b : Nat) (h : OrdAt w o n ba bu f u) (L : M.Lat n f u) (ha : a < n) (hb : b < n) :
    Calls Tryz.prog 39 #[.pointer (some ⟨o, 0, none⟩), .int .i64 (a : Int), .int .i64 (b : Int)] w (PointOf u n (u a &&& u b) w) := by
  refine (meet_in w o n ba bu f u a b h (by omega) (by omega) (by omega) (by omega)).mono ?_
  rintro e w' ⟨rfl, hk⟩
  obtain ⟨p, hp, he, hf⟩ := findN_point (L.meet a b ha hb)
  exact ⟨p, hp, he, by simp only [Int.toNat_natCast]; rw [hf], hk⟩

theorem bottom_lat (w : World) (o n ba bu : Nat) (f u : Nat → Nat) (h : OrdAt w o n ba bu f u) (L : M.Lat n f u) :
    Calls Tryz.prog 11 #[.pointer (some ⟨o, 0, none⟩)] w (PointOf f n (M.full n) w) := by
  refine (bottom_any w o n ba bu f u h).mono ?_
  rintro e w' ⟨rfl, hk⟩
  obtain ⟨p, hp, he, hf⟩ := findN_point L.bottom_ex
  exact ⟨p, hp, he, by rw [hf], hk⟩

theorem top_lat (w : World) (o n ba bu : Nat) (f u : Nat → Nat) (h : OrdAt w o n ba bu f u) (L : M.Lat n f u) :
    Calls Tryz.prog 12 #[.pointer (some ⟨o, 0, none⟩)] w (PointOf u n (M.full n) w) := by
  refine (top_any w o n ba bu f u h).mono ?_
  rintro e w' ⟨rfl, hk⟩
  obtain ⟨p, hp, he, hf⟩ := findN_point L.top_ex
  exact ⟨p, hp, he, by rw [hf], hk⟩

theorem below_lat (w : World) (o n ba bu : Nat) (f u : Nat → Nat) (a b : Nat) (h : OrdAt w o n ba bu f u) (ha : a < n) (hb : b < n) :
    Calls Tryz.prog 9 #[.pointer (some ⟨o, 0, none⟩), .int .i64 (a : Int), .int .i64 (b : Int)] w fun e w' => e = .returned (.bool ((f a).testBit b)) ∧ w = w' := by
  refine (below_in w o n ba bu f u a b h (by omega) (by omega) (by omega) (by omega)).mono ?_
  rintro e w' ⟨rfl, rfl⟩
  exact ⟨by simp only [Int.toNat_natCast], rfl⟩

theorem PairsAt.below {w w' : World} {ao : Option Addr} {len : Nat} {p q : Nat → Int} (h : PairsAt w ao len p q) (hb : Below w.heap.size w w') : PairsAt w' ao len p q := by
  intro i hi
  obtain ⟨b, off, e, hlt, h1, h2⟩ := h i hi
  exact ⟨b, off, e, by have := hb.size; omega, by rw [hb.cell hlt]; exact h1, by rw [hb.cell hlt]; exact h2⟩
end Go.Proofs.YtcelelnmphdlbaaGreatDoor.Od
