/- The walks of package label: Right, Below, Trusted, Bottom, Top, Join. -/
import Derived.Test.YtjcdopgefcmbpaaTail
import Derived.Test.YtjcdopgefcmbpaaOf
namespace Go.Proofs.Ytjcdopgefcmbpaa
open Go.RowKit

/-- is a below b: of whatever numbers -/
def belowI (n : Nat) (f : Nat → Nat) (a b : Int) : Bool := hasB n a && hasB n b && (f a.toNat).testBit b.toNat
/-- the join, of whatever numbers -/
def joinI (n : Nat) (f : Nat → Nat) (a b : Int) : Int := if hasB n a && hasB n b then M.findN f (f a.toNat &&& f b.toNat) n else -1
/-- the join of the first k ones, behind the least one -/
def joinsI (n : Nat) (f : Nat → Nat) (x : Nat → Int) : Nat → Int
  | 0 => M.findN f (M.full n) n
  | k + 1 => joinI n f (joinsI n f x k) (x k)

theorem below_tot (w : World) (o n ba bu : Nat) (f u : Nat → Nat) (a b : Int) (h : OrdAt w o n ba bu f u) :
    Calls Try.prog 20 #[.pointer (some ⟨o, 0, none⟩), .int .i64 a, .int .i64 b] w fun e w' => e = .returned (.bool (belowI n f a b)) ∧ w = w' := by
  unfold belowI
  cases ha : hasB n a with
  | false => simpa using below_out w o n ba bu f u a b h (Or.inl ha)
  | true =>
    cases hb : hasB n b with
    | false => simpa using below_out w o n ba bu f u a b h (Or.inr hb)
    | true =>
      obtain ⟨a0, a1⟩ := of_hasB ha
      obtain ⟨b0, b1⟩ := of_hasB hb
      simpa using below_in w o n ba bu f u a b h a0 a1 b0 b1

theorem join_tot (w : World) (o n ba bu : Nat) (f u : Nat → Nat) (a b : Int) (h : OrdAt w o n ba bu f u) :
    Calls Try.prog 23 #[.pointer (some ⟨o, 0, none⟩), .int .i64 a, .int .i64 b] w fun e w' => e = .returned (.int .i64 (joinI n f a b)) ∧ ∃ k, w' = w.drewN k := by
  unfold joinI
  cases ha : hasB n a with
  | false => simpa using (join_out w o n ba bu f u a b h (Or.inl ha)).mono fun e w' ⟨he, hw⟩ => ⟨he, 0, hw.symm⟩
  | true =>
    cases hb : hasB n b with
    | false => simpa using (join_out w o n ba bu f u a b h (Or.inr hb)).mono fun e w' ⟨he, hw⟩ => ⟨he, 0, hw.symm⟩
    | true =>
      obtain ⟨a0, a1⟩ := of_hasB ha
      obtain ⟨b0, b1⟩ := of_hasB hb
      simpa using join_in w o n ba bu f u a b h a0 a1 b0 b1

theorem isPoint_any (w : World) (o n ba bu : Nat) (f u : Nat → Nat) (a : Int) (h : OrdAt w o n ba bu f u) :
    Calls Try.prog 19 #[.pointer (some ⟨o, 0, none⟩), .int .i64 a] w fun e w' => e = .returned (.bool (hasB n a)) ∧ w = w' := by
  have hc0 := h.c0
  by_cases h0 : 0 ≤ a
  · have t0 : decide (0 ≤ a) = true := by simpa using h0
    have e1 : hasB n a = decide (a < (n : Int)) := by simp [hasB, h0]
    rw [e1]
    go_enter Try.func19, Try.ntmps19
    go_wp2_with fail
    refine (len_any w o n ba hc0).mono ?_
    rintro e w' ⟨rfl, rfl⟩
    go_wp2
    go_ret
    exact ⟨rfl, rfl⟩
  · have t0 : decide (0 ≤ a) = false := by simpa using h0
    have e1 : hasB n a = false := hasB_false (by omega)
    rw [e1]
    go_enter Try.func19, Try.ntmps19
    go_wp2
    go_ret
    exact ⟨rfl, rfl⟩

/-- two orders at hand -/
structure TwoAt (w : World) (o1 n1 a1 u1 : Nat) (f1 g1 : Nat → Nat) (o2 n2 a2 u2 : Nat) (f2 g2 : Nat → Nat) : Prop where
  l : OrdAt w o1 n1 a1 u1 f1 g1
  r : OrdAt w o2 n2 a2 u2 f2 g2

theorem TwoAt.below {w w' : World} {o1 n1 a1 u1 : Nat} {f1 g1 : Nat → Nat} {o2 n2 a2 u2 : Nat} {f2 g2 : Nat → Nat} (h : TwoAt w o1 n1 a1 u1 f1 g1 o2 n2 a2 u2 f2 g2) (hb : Below w.heap.size w w') : TwoAt w' o1 n1 a1 u1 f1 g1 o2 n2 a2 u2 f2 g2 := ⟨h.l.below hb, h.r.below hb⟩

section
variable (w : World) (o1 n1 a1 u1 : Nat) (f1 g1 : Nat → Nat) (o2 n2 a2 u2 : Nat) (f2 g2 : Nat → Nat)

theorem right_any (c i : Int) (h : TwoAt w o1 n1 a1 u1 f1 g1 o2 n2 a2 u2 f2 g2) :
    Calls Try.prog 6 #[.agg #[.pointer (some ⟨o1, 0, none⟩), .pointer (some ⟨o2, 0, none⟩)], .agg #[.int .i64 c, .int .i64 i]] w fun e w' => e = .returned (.bool (hasB n1 c && hasB n2 i)) ∧ Below w.heap.size w w' := by
  have hbl : Below w.heap.size w ((w.alloc (.cells #[.pointer (some ⟨o1, 0, none⟩), .pointer (some ⟨o2, 0, none⟩)] 30)).alloc (.cells #[.int .i64 c, .int .i64 i] 39)) := ((Below.refl _ _).alloc (Nat.le_refl _) _).alloc (by simp) _
  have h2 := h.below hbl
  go_enter Try.func6, Try.ntmps6
  go_wp2_with fail
  refine (isPoint_any _ o1 n1 a1 u1 f1 g1 c h2.l).mono ?_
  rintro e w' ⟨rfl, rfl⟩
  cases e1 : hasB n1 c with
  | true =>
    have E1 := Lib.hid e1; clear e1
    go_wp2_with fail
    refine (isPoint_any _ o2 n2 a2 u2 f2 g2 i h2.r).mono ?_
    rintro e w' ⟨rfl, rfl⟩
    go_wp2
    go_ret
    exact ⟨by rw [E1.out]; rfl, hbl⟩
  | false =>
    have E1 := Lib.hid e1; clear e1
    go_wp2
    go_ret
    exact ⟨by rw [E1.out]; rfl, hbl⟩

theorem lbelow_any (c i c' i' : Int) (h : TwoAt w o1 n1 a1 u1 f1 g1 o2 n2 a2 u2 f2 g2) :
    Calls Try.prog 8 #[.agg #[.pointer (some ⟨o1, 0, none⟩), .pointer (some ⟨o2, 0, none⟩)], .agg #[.int .i64 c, .int .i64 i], .agg #[.int .i64 c', .int .i64 i']] w fun e w' => e = .returned (.bool (belowI n1 f1 c c' && belowI n2 f2 i i')) ∧ Below w.heap.size w w' := by
  have hbl : Below w.heap.size w (((w.alloc (.cells #[.pointer (some ⟨o1, 0, none⟩), .pointer (some ⟨o2, 0, none⟩)] 30)).alloc (.cells #[.int .i64 c, .int .i64 i] 39)).alloc (.cells #[.int .i64 c', .int .i64 i'] 39)) := (((Below.refl _ _).alloc (Nat.le_refl _) _).alloc (by simp) _).alloc (by simp; omega) _
  have h2 := h.below hbl
  go_enter Try.func8, Try.ntmps8
  go_wp2_with fail
  refine (below_tot _ o1 n1 a1 u1 f1 g1 c c' h2.l).mono ?_
  rintro e w' ⟨rfl, rfl⟩
  cases e1 : belowI n1 f1 c c' with
  | true =>
    have E1 := Lib.hid e1; clear e1
    go_wp2_with fail
    refine (below_tot _ o2 n2 a2 u2 f2 g2 i i' h2.r).mono ?_
    rintro e w' ⟨rfl, rfl⟩
    go_wp2
    go_ret
    exact ⟨by rw [E1.out]; rfl, hbl⟩
  | false =>
    have E1 := Lib.hid e1; clear e1
    go_wp2
    go_ret
    exact ⟨by rw [E1.out]; rfl, hbl⟩

theorem trusted_any (c i t : Int) (h : TwoAt w o1 n1 a1 u1 f1 g1 o2 n2 a2 u2 f2 g2) :
    Calls Try.prog 10 #[.agg #[.pointer (some ⟨o1, 0, none⟩), .pointer (some ⟨o2, 0, none⟩)], .agg #[.int .i64 c, .int .i64 i], .int .i64 t] w fun e w' => e = .returned (.bool (!belowI n2 f2 t i)) ∧ Below w.heap.size w w' := by
  have hbl : Below w.heap.size w ((w.alloc (.cells #[.pointer (some ⟨o1, 0, none⟩), .pointer (some ⟨o2, 0, none⟩)] 30)).alloc (.cells #[.int .i64 c, .int .i64 i] 39)) := ((Below.refl _ _).alloc (Nat.le_refl _) _).alloc (by simp) _
  have h2 := h.below hbl
  go_enter Try.func10, Try.ntmps10
  go_wp2_with fail
  refine (below_tot _ o2 n2 a2 u2 f2 g2 t i h2.r).mono ?_
  rintro e w' ⟨rfl, rfl⟩
  go_wp2
  go_ret
  exact ⟨rfl, hbl⟩

set_option maxHeartbeats 400000 in
theorem lbottom_any (h : TwoAt w o1 n1 a1 u1 f1 g1 o2 n2 a2 u2 f2 g2) :
    Calls Try.prog 13 #[.agg #[.pointer (some ⟨o1, 0, none⟩), .pointer (some ⟨o2, 0, none⟩)]] w fun e w' => e = .returned (.agg #[.int .i64 (M.findN f1 (M.full n1) n1), .int .i64 (M.findN f2 (M.full n2) n2)]) ∧ Below w.heap.size w w' := by
  have hbl : Below w.heap.size w ((w.alloc (.cells #[.pointer (some ⟨o1, 0, none⟩), .pointer (some ⟨o2, 0, none⟩)] 30)).alloc (.cells #[.int .i64 0, .int .i64 0] 39)) := ((Below.refl _ _).alloc (Nat.le_refl _) _).alloc (by simp) _
  have h2 := h.below hbl
  have c0 : ((w.alloc (.cells #[.pointer (some ⟨o1, 0, none⟩), .pointer (some ⟨o2, 0, none⟩)] 30)).alloc (.cells #[.int .i64 0, .int .i64 0] 39)).cell? ⟨w.heap.size, 0, none⟩ = some (.pointer (some ⟨o1, 0, none⟩)) := by simp [go_sem]
  have c1 : ((w.alloc (.cells #[.pointer (some ⟨o1, 0, none⟩), .pointer (some ⟨o2, 0, none⟩)] 30)).alloc (.cells #[.int .i64 0, .int .i64 0] 39)).cell? ⟨w.heap.size, 1, none⟩ = some (.pointer (some ⟨o2, 0, none⟩)) := by simp [go_sem]
  have r0 : ((w.alloc (.cells #[.pointer (some ⟨o1, 0, none⟩), .pointer (some ⟨o2, 0, none⟩)] 30)).alloc (.cells #[.int .i64 0, .int .i64 0] 39)).cell? ⟨w.heap.size + 1, 0, none⟩ = some (.int .i64 0) := by simp [go_sem]
  have r1 : ((w.alloc (.cells #[.pointer (some ⟨o1, 0, none⟩), .pointer (some ⟨o2, 0, none⟩)] 30)).alloc (.cells #[.int .i64 0, .int .i64 0] 39)).cell? ⟨w.heap.size + 1, 1, none⟩ = some (.int .i64 0) := by simp [go_sem]
  have z : ∀ i, ((w.alloc (.cells #[.pointer (some ⟨o1, 0, none⟩), .pointer (some ⟨o2, 0, none⟩)] 30)).alloc (.cells #[.int .i64 0, .int .i64 0] 39)).frozen? ⟨w.heap.size + 1, i, none⟩ = false := fun i => by simp [go_sem]
  go_enter Try.func13, Try.ntmps13
  go_upto_region 1 with fail
  generalize (w.alloc (.cells #[.pointer (some ⟨o1, 0, none⟩), .pointer (some ⟨o2, 0, none⟩)] 30)).alloc (.cells #[.int .i64 0, .int .i64 0] 39) = w1 at *
  have hsz : w.heap.size + 1 < w1.heap.size := World.block_lt_of_cell? _ _ r0
  have y0 := fun x : Later w1 => Later.cell c0 x
  have y1 := fun x : Later w1 => Later.cell c1 x
  have k1 : ∀ x : Later w1, Calls Try.prog 21 #[.pointer (some ⟨o1, 0, none⟩)] x.wx fun e w'' => e = .returned (.int .i64 (M.findN f1 (M.full n1) n1)) ∧ ∃ y : Later w1, w'' = y.wx := fun x => calls_later_drew (bottom_any x.wx o1 n1 a1 u1 f1 g1 (h2.l.below x.le))
  have k2 : ∀ x : Later w1, Calls Try.prog 21 #[.pointer (some ⟨o2, 0, none⟩)] x.wx fun e w'' => e = .returned (.int .i64 (M.findN f2 (M.full n2) n2)) ∧ ∃ y : Later w1, w'' = y.wx := fun x => calls_later_drew (bottom_any x.wx o2 n2 a2 u2 f2 g2 (h2.r.below x.le))
  have K1 := Lib.hid k1; clear k1
  have K2 := Lib.hid k2; clear k2
  refine wp_region_later_tail 7 (by kernel_rfl) (by kernel_rfl) ?_
  simp only [List.take_succ_cons, List.take_zero, List.drop_succ_cons, List.drop_zero]
  repeat (go_big_quiet_step (first | (go_at_call 21; with_reducible exact K1.out _) | (go_at_call 21; with_reducible exact K2.out _)))
  refine wpQuiet_nil ?_
  intro x
  have s0 := Later.cell r0 x
  have s1 := Later.cell r1 x
  have z0 : x.wx.frozen? ⟨w.heap.size + 1, 0, none⟩ = false := by rw [x.le.frozen hsz]; exact z 0
  have z1 : x.wx.frozen? ⟨w.heap.size + 1, 1, none⟩ = false := by rw [x.le.frozen hsz]; exact z 1
  have hx : Below w.heap.size w x.wx := hbl.trans (x.le.mono hbl.size)
  clear y0 y1 c0 c1 r0 r1 z
  generalize x.wx = wx at *
  go_wp2
  have t := set_two wx (w.heap.size + 1) (.int .i64 (M.findN f1 (M.full n1) n1)) (.int .i64 (M.findN f2 (M.full n2) n2)) _ _ s0 s1
  exact bodyPost_ret (v := .agg #[.int .i64 (M.findN f1 (M.full n1) n1), .int .i64 (M.findN f2 (M.full n2) n2)]) (by simp [results, Try.results13, go_sem, t.1, t.2]) rfl ⟨rfl, (hx.setCell (by simp) _).setCell (by simp) _⟩

set_option maxHeartbeats 400000 in
theorem ltop_any (h : TwoAt w o1 n1 a1 u1 f1 g1 o2 n2 a2 u2 f2 g2) :
    Calls Try.prog 14 #[.agg #[.pointer (some ⟨o1, 0, none⟩), .pointer (some ⟨o2, 0, none⟩)]] w fun e w' => e = .returned (.agg #[.int .i64 (M.findN g1 (M.full n1) n1), .int .i64 (M.findN g2 (M.full n2) n2)]) ∧ Below w.heap.size w w' := by
  have hbl : Below w.heap.size w ((w.alloc (.cells #[.pointer (some ⟨o1, 0, none⟩), .pointer (some ⟨o2, 0, none⟩)] 30)).alloc (.cells #[.int .i64 0, .int .i64 0] 39)) := ((Below.refl _ _).alloc (Nat.le_refl _) _).alloc (by simp) _
  have h2 := h.below hbl
  have c0 : ((w.alloc (.cells #[.pointer (some ⟨o1, 0, none⟩), .pointer (some ⟨o2, 0, none⟩)] 30)).alloc (.cells #[.int .i64 0, .int .i64 0] 39)).cell? ⟨w.heap.size, 0, none⟩ = some (.pointer (some ⟨o1, 0, none⟩)) := by simp [go_sem]
  have c1 : ((w.alloc (.cells #[.pointer (some ⟨o1, 0, none⟩), .pointer (some ⟨o2, 0, none⟩)] 30)).alloc (.cells #[.int .i64 0, .int .i64 0] 39)).cell? ⟨w.heap.size, 1, none⟩ = some (.pointer (some ⟨o2, 0, none⟩)) := by simp [go_sem]
  have r0 : ((w.alloc (.cells #[.pointer (some ⟨o1, 0, none⟩), .pointer (some ⟨o2, 0, none⟩)] 30)).alloc (.cells #[.int .i64 0, .int .i64 0] 39)).cell? ⟨w.heap.size + 1, 0, none⟩ = some (.int .i64 0) := by simp [go_sem]
  have r1 : ((w.alloc (.cells #[.pointer (some ⟨o1, 0, none⟩), .pointer (some ⟨o2, 0, none⟩)] 30)).alloc (.cells #[.int .i64 0, .int .i64 0] 39)).cell? ⟨w.heap.size + 1, 1, none⟩ = some (.int .i64 0) := by simp [go_sem]
  have z : ∀ i, ((w.alloc (.cells #[.pointer (some ⟨o1, 0, none⟩), .pointer (some ⟨o2, 0, none⟩)] 30)).alloc (.cells #[.int .i64 0, .int .i64 0] 39)).frozen? ⟨w.heap.size + 1, i, none⟩ = false := fun i => by simp [go_sem]
  go_enter Try.func14, Try.ntmps14
  go_upto_region 1 with fail
  generalize (w.alloc (.cells #[.pointer (some ⟨o1, 0, none⟩), .pointer (some ⟨o2, 0, none⟩)] 30)).alloc (.cells #[.int .i64 0, .int .i64 0] 39) = w1 at *
  have hsz : w.heap.size + 1 < w1.heap.size := World.block_lt_of_cell? _ _ r0
  have y0 := fun x : Later w1 => Later.cell c0 x
  have y1 := fun x : Later w1 => Later.cell c1 x
  have k1 : ∀ x : Later w1, Calls Try.prog 22 #[.pointer (some ⟨o1, 0, none⟩)] x.wx fun e w'' => e = .returned (.int .i64 (M.findN g1 (M.full n1) n1)) ∧ ∃ y : Later w1, w'' = y.wx := fun x => calls_later_drew (top_any x.wx o1 n1 a1 u1 f1 g1 (h2.l.below x.le))
  have k2 : ∀ x : Later w1, Calls Try.prog 22 #[.pointer (some ⟨o2, 0, none⟩)] x.wx fun e w'' => e = .returned (.int .i64 (M.findN g2 (M.full n2) n2)) ∧ ∃ y : Later w1, w'' = y.wx := fun x => calls_later_drew (top_any x.wx o2 n2 a2 u2 f2 g2 (h2.r.below x.le))
  have K1 := Lib.hid k1; clear k1
  have K2 := Lib.hid k2; clear k2
  refine wp_region_later_tail 7 (by kernel_rfl) (by kernel_rfl) ?_
  simp only [List.take_succ_cons, List.take_zero, List.drop_succ_cons, List.drop_zero]
  repeat (go_big_quiet_step (first | (go_at_call 22; with_reducible exact K1.out _) | (go_at_call 22; with_reducible exact K2.out _)))
  refine wpQuiet_nil ?_
  intro x
  have s0 := Later.cell r0 x
  have s1 := Later.cell r1 x
  have z0 : x.wx.frozen? ⟨w.heap.size + 1, 0, none⟩ = false := by rw [x.le.frozen hsz]; exact z 0
  have z1 : x.wx.frozen? ⟨w.heap.size + 1, 1, none⟩ = false := by rw [x.le.frozen hsz]; exact z 1
  have hx : Below w.heap.size w x.wx := hbl.trans (x.le.mono hbl.size)
  clear y0 y1 c0 c1 r0 r1 z
  generalize x.wx = wx at *
  go_wp2
  have t := set_two wx (w.heap.size + 1) (.int .i64 (M.findN g1 (M.full n1) n1)) (.int .i64 (M.findN g2 (M.full n2) n2)) _ _ s0 s1
  exact bodyPost_ret (v := .agg #[.int .i64 (M.findN g1 (M.full n1) n1), .int .i64 (M.findN g2 (M.full n2) n2)]) (by simp [results, Try.results14, go_sem, t.1, t.2]) rfl ⟨rfl, (hx.setCell (by simp) _).setCell (by simp) _⟩

theorem joinsI_step (n : Nat) (f : Nat → Nat) (x : Nat → Int) (k : Nat) : joinsI n f x (k + 1) = joinI n f (joinsI n f x k) (x k) := rfl

set_option maxHeartbeats 2000000 in
theorem ljoin_any (ao : Option Addr) (len cap : Nat) (p q : Nat → Int) (hlen : len ≤ 140737488351232) (hps : PairsAt w ao len p q) (h : TwoAt w o1 n1 a1 u1 f1 g1 o2 n2 a2 u2 f2 g2) :
    Calls Try.prog 15 #[.agg #[.pointer (some ⟨o1, 0, none⟩), .pointer (some ⟨o2, 0, none⟩)], .slice ao len cap] w fun e w' => e = .returned (.agg #[.int .i64 (joinsI n1 f1 p len), .int .i64 (joinsI n2 f2 q len)]) ∧ Below w.heap.size w w' := by
  have hbl : Below w.heap.size w ((w.alloc (.cells #[.pointer (some ⟨o1, 0, none⟩), .pointer (some ⟨o2, 0, none⟩)] 30)).alloc (.cells #[.int .i64 0, .int .i64 0] 39)) := ((Below.refl _ _).alloc (Nat.le_refl _) _).alloc (by simp) _
  have h2 := h.below hbl
  have hp2 := hps.below hbl
  have c0 : ((w.alloc (.cells #[.pointer (some ⟨o1, 0, none⟩), .pointer (some ⟨o2, 0, none⟩)] 30)).alloc (.cells #[.int .i64 0, .int .i64 0] 39)).cell? ⟨w.heap.size, 0, none⟩ = some (.pointer (some ⟨o1, 0, none⟩)) := by simp [go_sem]
  have c1 : ((w.alloc (.cells #[.pointer (some ⟨o1, 0, none⟩), .pointer (some ⟨o2, 0, none⟩)] 30)).alloc (.cells #[.int .i64 0, .int .i64 0] 39)).cell? ⟨w.heap.size, 1, none⟩ = some (.pointer (some ⟨o2, 0, none⟩)) := by simp [go_sem]
  have r0 : ((w.alloc (.cells #[.pointer (some ⟨o1, 0, none⟩), .pointer (some ⟨o2, 0, none⟩)] 30)).alloc (.cells #[.int .i64 0, .int .i64 0] 39)).cell? ⟨w.heap.size + 1, 0, none⟩ = some (.int .i64 0) := by simp [go_sem]
  have r1 : ((w.alloc (.cells #[.pointer (some ⟨o1, 0, none⟩), .pointer (some ⟨o2, 0, none⟩)] 30)).alloc (.cells #[.int .i64 0, .int .i64 0] 39)).cell? ⟨w.heap.size + 1, 1, none⟩ = some (.int .i64 0) := by simp [go_sem]
  have z : ∀ i, ((w.alloc (.cells #[.pointer (some ⟨o1, 0, none⟩), .pointer (some ⟨o2, 0, none⟩)] 30)).alloc (.cells #[.int .i64 0, .int .i64 0] 39)).frozen? ⟨w.heap.size + 1, i, none⟩ = false := fun i => by simp [go_sem]
  have R0 := Lib.hid r0; clear r0
  have R1 := Lib.hid r1; clear r1
  have Z := Lib.hid z; clear z
  go_enter Try.func15, Try.ntmps15
  go_wp2_with fail
  generalize (w.alloc (.cells #[.pointer (some ⟨o1, 0, none⟩), .pointer (some ⟨o2, 0, none⟩)] 30)).alloc (.cells #[.int .i64 0, .int .i64 0] 39) = w1 at *
  have hsz : w.heap.size + 1 < w1.heap.size := World.block_lt_of_cell? _ _ R0.out
  refine (lbottom_any _ o1 n1 a1 u1 f1 g1 o2 n2 a2 u2 f2 g2 h2).mono ?_
  rintro e w2 ⟨rfl, hb2⟩
  have d0 : w2.cell? ⟨w.heap.size, 0, none⟩ = some (.pointer (some ⟨o1, 0, none⟩)) := by rw [hb2.cell (show w.heap.size < _ by omega)]; exact c0
  have d1 : w2.cell? ⟨w.heap.size, 1, none⟩ = some (.pointer (some ⟨o2, 0, none⟩)) := by rw [hb2.cell (show w.heap.size < _ by omega)]; exact c1
  have e0 : w2.cell? ⟨w.heap.size + 1, 0, none⟩ = some (.int .i64 0) := by rw [hb2.cell hsz]; exact R0.out
  have e1 : w2.cell? ⟨w.heap.size + 1, 1, none⟩ = some (.int .i64 0) := by rw [hb2.cell hsz]; exact R1.out
  have y : ∀ i, w2.frozen? ⟨w.heap.size + 1, i, none⟩ = false := fun i => by rw [hb2.frozen hsz]; exact Z.out i
  have hw2 : Below w.heap.size w w2 := hbl.trans (hb2.mono hbl.size)
  have hs2 : w.heap.size + 1 < w2.heap.size := by have := hb2.size; omega
  have h4 := h2.below hb2
  have hp4 := hp2.below hb2
  clear c0 c1 R0 R1 Z h2 hp2 h hps hb2 hbl hsz w1
  have D0 := Lib.hid d0; clear d0
  have D1 := Lib.hid d1; clear d1
  have E0 := Lib.hid e0; clear e0
  have E1 := Lib.hid e1; clear e1
  have Y := Lib.hid y; clear y
  have HP := Lib.hid hp4; clear hp4
  go_wp2
  go_loopw [12] (fun i wr => ∃ k : Nat, k ≤ len ∧ i = .int .i64 (k : Int) ∧ Below w2.heap.size w2 wr ∧ wr.cell? ⟨w2.heap.size, 0, none⟩ = some (.int .i64 (joinsI n1 f1 p k)) ∧ wr.cell? ⟨w2.heap.size, 1, none⟩ = some (.int .i64 (joinsI n2 f2 q k)) ∧ ∀ i, wr.frozen? ⟨w2.heap.size, i, none⟩ = false) (fun i _ => len - (intOf i).toNat)
  case atStart =>
    exact ⟨0, Nat.zero_le _, rfl, (Below.refl _ _).alloc (Nat.le_refl _) _, by rw [World.cell?_alloc_new]; rfl, by rw [World.cell?_alloc_new]; rfl, fun i => World.frozen?_alloc_new _ _ _ _⟩
  case round =>
    obtain ⟨k, hk, rfl, hbr, s0, s1, sf⟩ := hrel
    have S0 := Lib.hid s0
    have S1 := Lib.hid s1
    have hB : w2.heap.size < wr.heap.size := World.block_lt_of_cell? _ _ s0
    clear s0 s1
    by_cases hlt : k < len
    · obtain ⟨b, off, rfl, hb, hcp, hcq⟩ := HP.out k hlt
      have hcp' : wr.cell? ⟨b, off + k * 2, none⟩ = some (.int .i64 (p k)) := by rw [hbr.cell hb]; exact hcp
      have hcq' : wr.cell? ⟨b, off + k * 2 + 1, none⟩ = some (.int .i64 (q k)) := by rw [hbr.cell hb]; exact hcq
      clear hcp hcq
      go_upto_region 5 with fail
      have hb3 : Below w2.heap.size w2 (wr.alloc (.cells #[.int .i64 (p k), .int .i64 (q k)] 39)) := hbr.alloc hbr.size _
      have hr3 : Below wr.heap.size wr (wr.alloc (.cells #[.int .i64 (p k), .int .i64 (q k)] 39)) := (Below.refl _ _).alloc (Nat.le_refl _) _
      have x0 : (wr.alloc (.cells #[.int .i64 (p k), .int .i64 (q k)] 39)).cell? ⟨wr.heap.size, 0, none⟩ = some (.int .i64 (p k)) := by rw [World.cell?_alloc_new]; rfl
      have x1 : (wr.alloc (.cells #[.int .i64 (p k), .int .i64 (q k)] 39)).cell? ⟨wr.heap.size, 1, none⟩ = some (.int .i64 (q k)) := by rw [World.cell?_alloc_new]; rfl
      generalize wr.alloc (.cells #[.int .i64 (p k), .int .i64 (q k)] 39) = w3 at *
      have s0 : w3.cell? ⟨w2.heap.size, 0, none⟩ = some (.int .i64 (joinsI n1 f1 p k)) := by rw [hr3.cell hB]; exact S0.out
      have s1 : w3.cell? ⟨w2.heap.size, 1, none⟩ = some (.int .i64 (joinsI n2 f2 q k)) := by rw [hr3.cell hB]; exact S1.out
      have z : ∀ i, w3.frozen? ⟨w2.heap.size, i, none⟩ = false := fun i => by rw [hr3.frozen hB]; exact sf i
      have z0 := z 0
      have z1 := z 1
      have l0 : w3.cell? ⟨w.heap.size, 0, none⟩ = some (.pointer (some ⟨o1, 0, none⟩)) := by rw [hb3.cell (show w.heap.size < _ by omega)]; exact D0.out
      have l1 : w3.cell? ⟨w.heap.size, 1, none⟩ = some (.pointer (some ⟨o2, 0, none⟩)) := by rw [hb3.cell (show w.heap.size < _ by omega)]; exact D1.out
      clear hcp' hcq' sf hr3 S0 S1
      have Z := Lib.hid z; clear z
      go_wp2_with fail
      refine (join_tot _ o1 n1 a1 u1 f1 g1 _ _ (h4.below hb3).l).mono ?_
      rintro e w' ⟨rfl, k1, rfl⟩
      go_upto_region 6 with fail
      have hb4 : Below w2.heap.size w2 ((w3.drewN k1).setCell ⟨w2.heap.size, 0, none⟩ (.int .i64 (joinI n1 f1 (joinsI n1 f1 p k) (p k)))) := (below_drewN hb3 _).setCell (by simp) _
      have on4 : Only w2.heap.size w3 ((w3.drewN k1).setCell ⟨w2.heap.size, 0, none⟩ (.int .i64 (joinI n1 f1 (joinsI n1 f1 p k) (p k)))) := ((Only.refl _ w3).drewN _).setCell 0 _
      have v0 : ((w3.drewN k1).setCell ⟨w2.heap.size, 0, none⟩ (.int .i64 (joinI n1 f1 (joinsI n1 f1 p k) (p k)))).cell? ⟨w2.heap.size, 0, none⟩ = some (.int .i64 (joinsI n1 f1 p (k + 1))) := World.cell?_setCell_same _ _ _ (by simpa using s0)
      have v1 : ((w3.drewN k1).setCell ⟨w2.heap.size, 0, none⟩ (.int .i64 (joinI n1 f1 (joinsI n1 f1 p k) (p k)))).cell? ⟨w2.heap.size, 1, none⟩ = some (.int .i64 (joinsI n2 f2 q k)) := by
        rw [World.cell?_setCell_other _ _ _ _ (by intro hh; simp at hh)]; simpa using s1
      generalize (w3.drewN k1).setCell ⟨w2.heap.size, 0, none⟩ (.int .i64 (joinI n1 f1 (joinsI n1 f1 p k) (p k))) = w5 at *
      have x5 : w5.cell? ⟨wr.heap.size, 1, none⟩ = some (.int .i64 (q k)) := by rw [on4.cell (by omega)]; exact x1
      have l5 : w5.cell? ⟨w.heap.size, 1, none⟩ = some (.pointer (some ⟨o2, 0, none⟩)) := by rw [on4.cell (by omega)]; exact l1
      have z5 : w5.frozen? ⟨w2.heap.size, 1, none⟩ = false := by rw [on4.frozen]; exact z1
      have V0 := Lib.hid v0; clear v0
      clear s0 s1 z0 z1 x0 x1 l0 l1
      go_wp2_with fail
      refine (join_tot _ o2 n2 a2 u2 f2 g2 _ _ (h4.below hb4).r).mono ?_
      rintro e w' ⟨rfl, k2, rfl⟩
      go_wp2
      go_roundw
      case rel =>
        refine ⟨k + 1, by omega, by go_num, (below_drewN hb4 _).setCell (by simp) _, ?_, World.cell?_setCell_same _ _ _ (by simpa using v1), ?_⟩
        · rw [World.cell?_setCell_other _ _ _ _ (by intro hh; simp at hh)]; simpa using V0.out
        · intro i
          rw [(((Only.refl w2.heap.size w5).drewN k2).setCell 1 _).frozen, on4.frozen]; exact Z.out i
      case measure => simp [intOf]; omega
    · have hkn : k = len := by omega
      subst hkn
      have s0 := S0.out
      have s1 := S1.out
      have e0 : wr.cell? ⟨w.heap.size + 1, 0, none⟩ = some (.int .i64 0) := by rw [hbr.cell hs2]; exact E0.out
      have e1 : wr.cell? ⟨w.heap.size + 1, 1, none⟩ = some (.int .i64 0) := by rw [hbr.cell hs2]; exact E1.out
      have z0 : wr.frozen? ⟨w.heap.size + 1, 0, none⟩ = false := by rw [hbr.frozen hs2]; exact Y.out 0
      have z1 : wr.frozen? ⟨w.heap.size + 1, 1, none⟩ = false := by rw [hbr.frozen hs2]; exact Y.out 1
      go_wp2
      have t := set_two wr (w.heap.size + 1) (.int .i64 (joinsI n1 f1 p k)) (.int .i64 (joinsI n2 f2 q k)) _ _ e0 e1
      have hx : Below w.heap.size w wr := hw2.trans (hbr.mono hw2.size)
      exact bodyPost_ret (v := .agg #[.int .i64 (joinsI n1 f1 p k), .int .i64 (joinsI n2 f2 q k)]) (by simp [results, Try.results15, go_sem, t.1, t.2]) rfl ⟨rfl, (hx.setCell (by simp) _).setCell (by simp) _⟩
end
end Go.Proofs.Ytjcdopgefcmbpaa
