/- The walks of the document's own Meet, Bottom and Top. -/
import Derived.Test.YtjcdopgefcmbpaaRef1
namespace Go.Proofs.Ytjcdopgefcmbpaa
open Go.RowKit

set_option maxHeartbeats 1000000 in
theorem rmeet_any (w : World) (bb n cap : Nat) (rows : Nat → Nat) (R : Nat → Nat → Bool) (a b : Nat) (h : GridAt w bb n rows R) (ha : a < n) (hb : b < n) :
    Calls Try.prog 39 #[.agg #[.int .i64 (n : Int), .slice (some ⟨bb, 0, none⟩) n cap], .int .i64 (a : Int), .int .i64 (b : Int)] w fun e w' => e = .returned (.int .i64 (M.meetR n R a b)) ∧ Below w.heap.size w w' := by
  have hn := h.n32
  have hbl : Below w.heap.size w (w.alloc (.cells #[.int .i64 (n : Int), .slice (some ⟨bb, 0, none⟩) n cap] 33)) := (Below.refl _ _).alloc (Nat.le_refl _) _
  have hg := h.below hbl
  have c0 : (w.alloc (.cells #[.int .i64 (n : Int), .slice (some ⟨bb, 0, none⟩) n cap] 33)).cell? ⟨w.heap.size, 0, none⟩ = some (.int .i64 (n : Int)) := by rw [World.cell?_alloc_new]; rfl
  have c1 : (w.alloc (.cells #[.int .i64 (n : Int), .slice (some ⟨bb, 0, none⟩) n cap] 33)).cell? ⟨w.heap.size, 1, none⟩ = some (.slice (some ⟨bb, 0, none⟩) n cap) := by rw [World.cell?_alloc_new]; rfl
  go_enter Try.func39, Try.ntmps39
  go_wp2
  generalize w.alloc (.cells #[.int .i64 (n : Int), .slice (some ⟨bb, 0, none⟩) n cap] 33) = w1 at *
  have HBL := Lib.hid hbl; clear hbl
  go_loop [7] (fun i => ∃ k : Nat, k ≤ n ∧ i = .int .i64 (k : Int) ∧ ∀ c, c < k → M.jTo (M.flipR R) a b c n = false) (fun i => n - (intOf i).toNat)
  case atStart => exact ⟨0, Nat.zero_le _, rfl, fun c hc => by omega⟩
  case round =>
    obtain ⟨k, hk, rfl, hno⟩ := hrel
    have HNO := Lib.hid hno; clear hno
    by_cases hlt : k < n
    · have chk := hg.head k hlt
      have r1 := hg.row k a hlt ha
      have r2 := hg.row k b hlt hb
      have st : M.jTo (M.flipR R) a b k 0 = (R k a && R k b) := by simp [M.jTo, M.allB, M.flipR]
      have ST := Lib.hid st; clear st
      cases e1 : R k a
      all_goals cases e2 : R k b
      all_goals
        rw [e1] at r1
        rw [e2] at r2
        have E1 := Lib.hid e1; clear e1
        have E2 := Lib.hid e2; clear e2
        go_wp2
        clear r1 r2
        go_loop [8, 9] (fun s i => ∃ j : Nat, j ≤ n ∧ i = .int .i64 (j : Int) ∧ s = .bool (M.jTo (M.flipR R) a b k j)) (fun _ i => n - (intOf i).toNat)
        case atStart => exact ⟨0, Nat.zero_le _, rfl, by rw [ST.out, E1.out, E2.out]; rfl⟩
        case round =>
          obtain ⟨j, hj, rfl, rfl⟩ := hrel
          by_cases hlj : j < n
          · have chj := hg.head j hlj
            have r1 := hg.row j a hlj ha
            have r2 := hg.row j b hlj hb
            have r3 := hg.row j k hlj hlt
            have js := M.jTo_succ (M.flipR R) a b k j
            have jo : M.jOne (M.flipR R) a b k j = !(R j a && R j b && !R j k) := rfl
            rw [jo] at js
            clear jo
            have JS := Lib.hid js; clear js
            cases f1 : R j a
            all_goals cases f2 : R j b
            all_goals cases f3 : R j k
            all_goals
              rw [f1] at r1
              rw [f2] at r2
              rw [f3] at r3
              have F1 := Lib.hid f1; clear f1
              have F2 := Lib.hid f2; clear f2
              have F3 := Lib.hid f3; clear f3
              go_wp2
              go_round
              case rel => exact ⟨j + 1, by omega, by go_num, by rw [JS.out, F1.out, F2.out, F3.out]; simp⟩
              case measure => simp [intOf]; omega
          · have hjn : n = j := by omega
            subst hjn
            cases hr : M.jTo (M.flipR R) a b k n with
            | true =>
              have HR := Lib.hid hr; clear hr
              go_wp2
              go_ret
              exact ⟨ret_int (M.findP_hit HNO.out hlt HR.out).symm, HBL.out⟩
            | false =>
              have HR := Lib.hid hr; clear hr
              go_wp2
              go_round
              case rel =>
                refine ⟨k + 1, by omega, by go_num, ?_⟩
                intro c hc
                by_cases e : c = k
                · subst e; exact HR.out
                · exact HNO.out c (by omega)
              case measure => simp [intOf]; omega
    · have hkn : n = k := by omega
      subst hkn
      go_wp2
      go_ret
      exact ⟨ret_int (M.findP_miss HNO.out).symm, HBL.out⟩

set_option maxHeartbeats 1000000 in
theorem rbottom_any (w : World) (bb n cap : Nat) (rows : Nat → Nat) (R : Nat → Nat → Bool) (h : GridAt w bb n rows R) :
    Calls Try.prog 11 #[.agg #[.int .i64 (n : Int), .slice (some ⟨bb, 0, none⟩) n cap]] w fun e w' => e = .returned (.int .i64 (M.bottomR n R)) ∧ Below w.heap.size w w' := by
  have hn := h.n32
  have hbl : Below w.heap.size w (w.alloc (.cells #[.int .i64 (n : Int), .slice (some ⟨bb, 0, none⟩) n cap] 33)) := (Below.refl _ _).alloc (Nat.le_refl _) _
  have hg := h.below hbl
  have c0 : (w.alloc (.cells #[.int .i64 (n : Int), .slice (some ⟨bb, 0, none⟩) n cap] 33)).cell? ⟨w.heap.size, 0, none⟩ = some (.int .i64 (n : Int)) := by rw [World.cell?_alloc_new]; rfl
  have c1 : (w.alloc (.cells #[.int .i64 (n : Int), .slice (some ⟨bb, 0, none⟩) n cap] 33)).cell? ⟨w.heap.size, 1, none⟩ = some (.slice (some ⟨bb, 0, none⟩) n cap) := by rw [World.cell?_alloc_new]; rfl
  go_enter Try.func11, Try.ntmps11
  go_wp2
  generalize w.alloc (.cells #[.int .i64 (n : Int), .slice (some ⟨bb, 0, none⟩) n cap] 33) = w1 at *
  have HBL := Lib.hid hbl; clear hbl
  go_loop [3] (fun i => ∃ k : Nat, k ≤ n ∧ i = .int .i64 (k : Int) ∧ ∀ c, c < k → M.allB (R c) n = false) (fun i => n - (intOf i).toNat)
  case atStart => exact ⟨0, Nat.zero_le _, rfl, fun c hc => by omega⟩
  case round =>
    obtain ⟨k, hk, rfl, hno⟩ := hrel
    have HNO := Lib.hid hno; clear hno
    by_cases hlt : k < n
    · have chk := hg.head k hlt
      go_wp2
      go_loop [4, 5] (fun s i => ∃ j : Nat, j ≤ n ∧ i = .int .i64 (j : Int) ∧ s = .bool (M.allB (R k) j)) (fun _ i => n - (intOf i).toNat)
      case atStart => exact ⟨0, Nat.zero_le _, rfl, rfl⟩
      case round =>
        obtain ⟨j, hj, rfl, rfl⟩ := hrel
        by_cases hlj : j < n
        · have r1 := hg.row k j hlt hlj
          have js : M.allB (R k) (j + 1) = (M.allB (R k) j && R k j) := rfl
          have JS := Lib.hid js; clear js
          cases f1 : M.allB (R k) j
          all_goals
            have F1 := Lib.hid f1; clear f1
            go_wp2
            go_round
            case rel => exact ⟨j + 1, by omega, by go_num, by rw [JS.out, F1.out]; simp⟩
            case measure => simp [intOf]; omega
        · have hjn : n = j := by omega
          subst hjn
          cases hr : M.allB (R k) n with
          | true =>
            have HR := Lib.hid hr; clear hr
            go_wp2
            go_ret
            exact ⟨ret_int (M.findP_hit HNO.out hlt HR.out).symm, HBL.out⟩
          | false =>
            have HR := Lib.hid hr; clear hr
            go_wp2
            go_round
            case rel =>
              refine ⟨k + 1, by omega, by go_num, ?_⟩
              intro c hc
              by_cases e : c = k
              · subst e; exact HR.out
              · exact HNO.out c (by omega)
            case measure => simp [intOf]; omega
    · have hkn : n = k := by omega
      subst hkn
      go_wp2
      go_ret
      exact ⟨ret_int (M.findP_miss HNO.out).symm, HBL.out⟩

set_option maxHeartbeats 1000000 in
theorem rtop_any (w : World) (bb n cap : Nat) (rows : Nat → Nat) (R : Nat → Nat → Bool) (h : GridAt w bb n rows R) :
    Calls Try.prog 12 #[.agg #[.int .i64 (n : Int), .slice (some ⟨bb, 0, none⟩) n cap]] w fun e w' => e = .returned (.int .i64 (M.topR n R)) ∧ Below w.heap.size w w' := by
  have hn := h.n32
  have hbl : Below w.heap.size w (w.alloc (.cells #[.int .i64 (n : Int), .slice (some ⟨bb, 0, none⟩) n cap] 33)) := (Below.refl _ _).alloc (Nat.le_refl _) _
  have hg := h.below hbl
  have c0 : (w.alloc (.cells #[.int .i64 (n : Int), .slice (some ⟨bb, 0, none⟩) n cap] 33)).cell? ⟨w.heap.size, 0, none⟩ = some (.int .i64 (n : Int)) := by rw [World.cell?_alloc_new]; rfl
  have c1 : (w.alloc (.cells #[.int .i64 (n : Int), .slice (some ⟨bb, 0, none⟩) n cap] 33)).cell? ⟨w.heap.size, 1, none⟩ = some (.slice (some ⟨bb, 0, none⟩) n cap) := by rw [World.cell?_alloc_new]; rfl
  go_enter Try.func12, Try.ntmps12
  go_wp2
  generalize w.alloc (.cells #[.int .i64 (n : Int), .slice (some ⟨bb, 0, none⟩) n cap] 33) = w1 at *
  have HBL := Lib.hid hbl; clear hbl
  go_loop [3] (fun i => ∃ k : Nat, k ≤ n ∧ i = .int .i64 (k : Int) ∧ ∀ c, c < k → M.allB (M.flipR R c) n = false) (fun i => n - (intOf i).toNat)
  case atStart => exact ⟨0, Nat.zero_le _, rfl, fun c hc => by omega⟩
  case round =>
    obtain ⟨k, hk, rfl, hno⟩ := hrel
    have HNO := Lib.hid hno; clear hno
    by_cases hlt : k < n
    · go_wp2
      go_loop [4, 5] (fun s i => ∃ j : Nat, j ≤ n ∧ i = .int .i64 (j : Int) ∧ s = .bool (M.allB (M.flipR R k) j)) (fun _ i => n - (intOf i).toNat)
      case atStart => exact ⟨0, Nat.zero_le _, rfl, rfl⟩
      case round =>
        obtain ⟨j, hj, rfl, rfl⟩ := hrel
        by_cases hlj : j < n
        · have chj := hg.head j hlj
          have r1 := hg.row j k hlj hlt
          have js : M.allB (M.flipR R k) (j + 1) = (M.allB (M.flipR R k) j && R j k) := rfl
          have JS := Lib.hid js; clear js
          cases f1 : M.allB (M.flipR R k) j
          all_goals
            have F1 := Lib.hid f1; clear f1
            go_wp2
            go_round
            case rel => exact ⟨j + 1, by omega, by go_num, by rw [JS.out, F1.out]; simp⟩
            case measure => simp [intOf]; omega
        · have hjn : n = j := by omega
          subst hjn
          cases hr : M.allB (M.flipR R k) n with
          | true =>
            have HR := Lib.hid hr; clear hr
            go_wp2
            go_ret
            exact ⟨ret_int (M.findP_hit HNO.out hlt HR.out).symm, HBL.out⟩
          | false =>
            have HR := Lib.hid hr; clear hr
            go_wp2
            go_round
            case rel =>
              refine ⟨k + 1, by omega, by go_num, ?_⟩
              intro c hc
              by_cases e : c = k
              · subst e; exact HR.out
              · exact HNO.out c (by omega)
            case measure => simp [intOf]; omega
    · have hkn : n = k := by omega
      subst hkn
      go_wp2
      go_ret
      exact ⟨ret_int (M.findP_miss HNO.out).symm, HBL.out⟩

end Go.Proofs.Ytjcdopgefcmbpaa
