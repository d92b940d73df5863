import Derived.Test.YtdkhkemllmegfaaGreatDoorLToks
import Derived.Test.YtdkhkemllmegfaaGreatDoorRows
import Derived.Test.YtdkhkemllmegfaaGreatDoorTTn
import Derived.Test.YtdkhkemllmegfaaGreatDoorTKept
import Derived.WalkKit
import Derived.WalkSpells
import Derived.WalkLawsBesides
import Derived.Lib.Hide

/- Nodes in memory: a slice of ints, a slice of nodes, a tree. -/
namespace Go.Proofs.YtdkhkemllmegfaaGreatDoor
open Go.RowKit Tn

/-- these ints lie there, below N -/
def IntsAt (N : Nat) (w : World) (ao : Option Addr) (ks : List Int) : Prop :=
  ∀ i, i < ks.length → ∃ b o, ao = some ⟨b, o, none⟩ ∧ b < N ∧ w.cell? ⟨b, o + i, none⟩ = some (.int .i64 (kid ks i))

/-- a node lies there, below N; its Kids' slice is (ka, kc) -/
structure NodeAt (N : Nat) (w : World) (b o : Nat) (n : Nd) (ka : Option Addr) (kc : Nat) : Prop where
  lt : b < N
  c0 : w.cell? ⟨b, o, none⟩ = some (.string n.op)
  c1 : w.cell? ⟨b, o + 1, none⟩ = some (.int .i64 n.line)
  c2 : w.cell? ⟨b, o + 2, none⟩ = some (.int .i64 n.col)
  c3 : w.cell? ⟨b, o + 3, none⟩ = some (.string n.name)
  c4 : w.cell? ⟨b, o + 4, none⟩ = some (.int .i64 n.num)
  c5 : w.cell? ⟨b, o + 5, none⟩ = some (.slice ka n.kids.length kc)
  kids : IntsAt N w ka n.kids
  nil : ka = none → kc = 0

/-- a node as a value -/
def nval (n : Nd) (ka : Option Addr) (kc : Nat) : Value :=
  .agg #[.string n.op, .int .i64 n.line, .int .i64 n.col, .string n.name, .int .i64 n.num, .slice ka n.kids.length kc]

/-- these nodes lie there, below N -/
def NodesAt (N : Nat) (w : World) (ao : Option Addr) (ms : List Nd) : Prop :=
  ∀ i, i < ms.length → ∃ b o ka kc, ao = some ⟨b, o, none⟩ ∧ NodeAt N w b (o + i * 6) (nd ms i) ka kc

/-- a tree of these nodes -/
structure TreeAt (N : Nat) (w : World) (bt : Nat) (ao : Option Addr) (cap : Nat) (ms : List Nd) : Prop where
  lt : bt < N
  cell : w.cell? ⟨bt, 0, none⟩ = some (.slice ao ms.length cap)
  nodes : NodesAt N w ao ms
  room : ms.length ≤ cap

theorem IntsAt.below {N : Nat} {w w' : World} {ao : Option Addr} {ks : List Int} (h : IntsAt N w ao ks) (hb : Below N w w') : IntsAt N w' ao ks := by
  intro i hi
  obtain ⟨b, o, e, hlt, hc⟩ := h i hi
  exact ⟨b, o, e, hlt, (hb.cell (p := ⟨b, o + i, none⟩) hlt).trans hc⟩
theorem NodeAt.below {N : Nat} {w w' : World} {b o : Nat} {n : Nd} {ka : Option Addr} {kc : Nat} (h : NodeAt N w b o n ka kc) (hb : Below N w w') : NodeAt N w' b o n ka kc :=
  ⟨h.lt, (hb.cell (p := ⟨b, o, none⟩) h.lt).trans h.c0, (hb.cell (p := ⟨b, o + 1, none⟩) h.lt).trans h.c1, (hb.cell (p := ⟨b, o + 2, none⟩) h.lt).trans h.c2, (hb.cell (p := ⟨b, o + 3, none⟩) h.lt).trans h.c3,
    (hb.cell (p := ⟨b, o + 4, none⟩) h.lt).trans h.c4, (hb.cell (p := ⟨b, o + 5, none⟩) h.lt).trans h.c5, h.kids.below hb, h.nil⟩
theorem NodesAt.below {N : Nat} {w w' : World} {ao : Option Addr} {ms : List Nd} (h : NodesAt N w ao ms) (hb : Below N w w') : NodesAt N w' ao ms := by
  intro i hi
  obtain ⟨b, o, ka, kc, e, hn⟩ := h i hi
  exact ⟨b, o, ka, kc, e, hn.below hb⟩
theorem TreeAt.below {N : Nat} {w w' : World} {bt : Nat} {ao : Option Addr} {cap : Nat} {ms : List Nd} (h : TreeAt N w bt ao cap ms) (hb : Below N w w') : TreeAt N w' bt ao cap ms :=
  ⟨h.lt, (hb.cell (p := ⟨bt, 0, none⟩) h.lt).trans h.cell, h.nodes.below hb, h.room⟩

theorem IntsAt.mono {N N' : Nat} {w : World} {ao : Option Addr} {ks : List Int} (h : IntsAt N w ao ks) (hN : N ≤ N') : IntsAt N' w ao ks := by
  intro i hi
  obtain ⟨b, o, e, hlt, hc⟩ := h i hi
  exact ⟨b, o, e, by omega, hc⟩
theorem NodeAt.mono {N N' : Nat} {w : World} {b o : Nat} {n : Nd} {ka : Option Addr} {kc : Nat} (h : NodeAt N w b o n ka kc) (hN : N ≤ N') : NodeAt N' w b o n ka kc :=
  ⟨by have := h.lt; omega, h.c0, h.c1, h.c2, h.c3, h.c4, h.c5, h.kids.mono hN, h.nil⟩
theorem NodesAt.mono {N N' : Nat} {w : World} {ao : Option Addr} {ms : List Nd} (h : NodesAt N w ao ms) (hN : N ≤ N') : NodesAt N' w ao ms := by
  intro i hi
  obtain ⟨b, o, ka, kc, e, hn⟩ := h i hi
  exact ⟨b, o, ka, kc, e, hn.mono hN⟩
theorem TreeAt.mono {N N' : Nat} {w : World} {bt : Nat} {ao : Option Addr} {cap : Nat} {ms : List Nd} (h : TreeAt N w bt ao cap ms) (hN : N ≤ N') : TreeAt N' w bt ao cap ms :=
  ⟨by have := h.lt; omega, h.cell, h.nodes.mono hN, h.room⟩
end Go.Proofs.YtdkhkemllmegfaaGreatDoor


/- The small functions: Len, has, hasAll, In, the two joins. -/
namespace Go.Proofs.YtdkhkemllmegfaaGreatDoor
open Go.RowKit Tn

theorem len_any (bt : Nat) (ao : Option Addr) (len cap : Nat) (w : World) (hc : w.cell? ⟨bt, 0, none⟩ = some (.slice ao len cap)) :
    Calls Tryz.prog 23 #[.pointer (some ⟨bt, 0, none⟩)] w fun e w' => e = .returned (.int .i64 len) ∧ w = w' := by
  go_enter Tryz.func23, Tryz.ntmps23
  go_wp2
  go_ret
  exact ⟨rfl, rfl⟩

theorem has_any (bt : Nat) (ao : Option Addr) (len cap : Nat) (i : Int) (w : World) (hc : w.cell? ⟨bt, 0, none⟩ = some (.slice ao len cap)) :
    Calls Tryz.prog 19 #[.pointer (some ⟨bt, 0, none⟩), .int .i64 i] w fun e w' => e = .returned (.bool (decide (0 ≤ i) && decide (i < (len : Int)))) ∧ w = w' := by
  go_enter Tryz.func19, Tryz.ntmps19
  go_wp2_with (go_at_call 23; refine (len_any bt ao len cap _ hc).mono ?_; rintro e w' ⟨rfl, rfl⟩)
  all_goals (go_ret; refine ⟨ret_bool ?_, rfl⟩; simp [*] <;> omega)

theorem in_any (ao : Option Addr) (len cap : Nat) (i : Int) (w : World) :
    Calls Tryz.prog 24 #[.slice ao len cap, .int .i64 i] w fun e w' => e = .returned (.bool (decide (0 ≤ i) && decide (i < (len : Int)))) ∧ w = w' := by
  go_enter Tryz.func24, Tryz.ntmps24
  go_wp2
  all_goals (go_ret; refine ⟨ret_bool ?_, rfl⟩; simp [*] <;> omega)

/-- as a test: has, where it says yes, and no -/
theorem has_yes (bt : Nat) (ao : Option Addr) (len cap : Nat) (i : Int) (w : World) (hc : w.cell? ⟨bt, 0, none⟩ = some (.slice ao len cap)) (h0 : 0 ≤ i) (h1 : i < (len : Int)) :
    Calls Tryz.prog 19 #[.pointer (some ⟨bt, 0, none⟩), .int .i64 i] w fun e w' => e = .returned (.bool true) ∧ w = w' :=
  (has_any bt ao len cap i w hc).mono fun _ _ ⟨he, hw⟩ => ⟨by rw [he]; simp [h0, h1], hw⟩
theorem has_no (bt : Nat) (ao : Option Addr) (len cap : Nat) (i : Int) (w : World) (hc : w.cell? ⟨bt, 0, none⟩ = some (.slice ao len cap)) (h : ¬ (0 ≤ i ∧ i < (len : Int))) :
    Calls Tryz.prog 19 #[.pointer (some ⟨bt, 0, none⟩), .int .i64 i] w fun e w' => e = .returned (.bool false) ∧ w = w' :=
  (has_any bt ao len cap i w hc).mono fun _ _ ⟨he, hw⟩ => ⟨by rw [he]; congr 2; rw [← Bool.not_eq_true]; simpa using h, hw⟩
theorem in_yes (ao : Option Addr) (len cap : Nat) (i : Int) (w : World) (h0 : 0 ≤ i) (h1 : i < (len : Int)) :
    Calls Tryz.prog 24 #[.slice ao len cap, .int .i64 i] w fun e w' => e = .returned (.bool true) ∧ w = w' :=
  (in_any ao len cap i w).mono fun _ _ ⟨he, hw⟩ => ⟨by rw [he]; simp [h0, h1], hw⟩
theorem in_no (ao : Option Addr) (len cap : Nat) (i : Int) (w : World) (h : ¬ (0 ≤ i ∧ i < (len : Int))) :
    Calls Tryz.prog 24 #[.slice ao len cap, .int .i64 i] w fun e w' => e = .returned (.bool false) ∧ w = w' :=
  (in_any ao len cap i w).mono fun _ _ ⟨he, hw⟩ => ⟨by rw [he]; congr 2; rw [← Bool.not_eq_true]; simpa using h, hw⟩

/-- every one of these is there -/
theorem hasAll_any (bt : Nat) (ao : Option Addr) (len cap : Nat) (N : Nat) (ka : Option Addr) (n : Nd) (kc : Nat) (w : World) (hc : w.cell? ⟨bt, 0, none⟩ = some (.slice ao len cap)) (hk : IntsAt N w ka n.kids) (hl : n.kids.length ≤ 999000) :
    Calls Tryz.prog 40 #[.pointer (some ⟨bt, 0, none⟩), .slice ka n.kids.length kc] w fun e w' => e = .returned (.bool (fits len n)) ∧ w = w' := by
  go_enter Tryz.func40, Tryz.ntmps40
  go_wp2
  go_loop [9] (fun i => ∃ k : Nat, k ≤ n.kids.length ∧ i = .int .i64 k ∧ ∀ j, j < k → 0 ≤ kid n.kids j ∧ kid n.kids j < (len : Int)) (fun i => n.kids.length - (intOf i).toNat)
  case atStart => exact ⟨0, Nat.zero_le _, rfl, by intro j hj; omega⟩
  case round =>
    obtain ⟨k, hk', rfl, hall⟩ := hrel
    have HA := Lib.hid hall; clear hall
    by_cases hlt : k < n.kids.length
    · obtain ⟨b, o, rfl, hb, hcell⟩ := hk k hlt
      have HK := Lib.hid hk; clear hk
      by_cases hin : 0 ≤ kid n.kids k ∧ kid n.kids k < (len : Int)
      · obtain ⟨h0, h1⟩ := hin
        go_wp2_with (go_at_call 19; refine (has_yes bt ao len cap _ _ hc h0 h1).mono ?_; rintro e w' ⟨rfl, rfl⟩)
        go_round
        case rel =>
          refine ⟨k + 1, by omega, by go_num, ?_⟩
          intro j hj
          by_cases hjk : j = k
          · subst hjk; exact ⟨h0, h1⟩
          · exact HA.out j (by omega)
        case measure => simp [intOf]; omega
      · have HN := Lib.hid hin; clear hin
        go_wp2_with (go_at_call 19; refine (has_no bt ao len cap _ _ hc HN.out).mono ?_; rintro e w' ⟨rfl, rfl⟩)
        go_ret
        refine ⟨ret_bool ?_, rfl⟩
        symm
        rw [← Bool.not_eq_true, fits_at]
        exact fun h => HN.out (h k hlt)
    · have : k = n.kids.length := by omega
      subst this
      have HK := Lib.hid hk; clear hk
      go_wp2
      go_ret
      refine ⟨ret_bool ?_, rfl⟩
      symm
      rw [fits_at]
      exact fun i hi => HA.out i hi
end Go.Proofs.YtdkhkemllmegfaaGreatDoor
