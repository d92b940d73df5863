/- A map from types to the numbers that they came at. -/
import Derived.Test.YtjbihammbmiieaaDoorPw
import Derived.ChangeKeysEq
namespace Go.Proofs.YtjbihammbmiieaaDoor
open Go.RowKit Un

theorem obj_get {r : Nat} {es : Array MapEntry} {cl : Nat} {W : World} (h : W.heap[r]? = some (.map es cl)) : (getObj r).run Tryd.prog W = .ok (.map es cl) W := by simp [getObj, Sem.run, h]
theorem obj_set {r : Nat} {es : Array MapEntry} {cl : Nat} {W : World} (o : Obj) (h : W.heap[r]? = some (.map es cl)) : (setObj r o).run Tryd.prog W = .ok () { W with heap := W.heap.setIfInBounds r o } := by simp [setObj, Sem.run, h]
theorem num_under : Tryd.prog.underlying 35 = some (.int .i64) := by kernel_rfl
theorem nums_under : Tryd.prog.underlying 74 = some (.map 35 3) := by kernel_rfl
theorem num_check (e : Bool) (k : Int) (W : World) : (Instr.checkKey e 10000 35 (.int .i64 k)).run Tryd.prog W = .ok () W := by
  rw [show (10000 : Nat) = 9999 + 1 from rfl, Instr.checkKey]
  simp [Sem.run_bind, run_underlying num_under, Result.andThen]
theorem num_find (k : Int) (es : List MapEntry) (r : Option (Nat × Value)) (W : World) (h : Instr.findNow (.int .i64) (.int .i64 k) es 0 = some r) : (Instr.findKey 35 (.int .i64 k) es).run Tryd.prog W = .ok r W := by
  rw [Instr.findKey]
  simp [Sem.run_bind, run_underlying num_under, Result.andThen, h]
def nents : Nat → List Nat → List MapEntry
  | _, [] => []
  | i, t :: l => ⟨.int .i64 (t : Int), .int .i64 (i : Int), i⟩ :: nents (i + 1) l
theorem nents_snoc (t : Nat) : ∀ (i : Nat) (l : List Nat), nents i (l ++ [t]) = nents i l ++ [⟨.int .i64 (t : Int), .int .i64 ((i + l.length : Nat) : Int), i + l.length⟩]
  | i, [] => rfl
  | i, a :: l => by
    show ⟨_, _, _⟩ :: nents (i + 1) (l ++ [t]) = _
    rw [nents_snoc t (i + 1) l, List.length_cons, show i + 1 + l.length = i + (l.length + 1) by omega]; rfl
theorem nents_len : ∀ (i : Nat) (l : List Nat), (nents i l).length = l.length
  | _, [] => rfl
  | i, _ :: l => by rw [nents, List.length_cons, nents_len, List.length_cons]
theorem same_num (a b : Nat) : Instr.sameNow (.int .i64) (.int .i64 (a : Int)) (.int .i64 (b : Int)) = some (decide (a = b)) := by
  show some ((a : Int) == (b : Int)) = _
  congr 1
  rw [Bool.eq_iff_iff, beq_iff_eq, decide_eq_true_iff]; omega
theorem nfind (t : Nat) : ∀ (l : List Nat) (i j : Nat), Instr.findNow (.int .i64) (.int .i64 (t : Int)) (nents i l) j = some ((ix t l).map fun q => (j + q, .int .i64 ((i + q : Nat) : Int)))
  | [], _, _ => rfl
  | a :: l, i, j => by
    rw [nents, Instr.findNow, same_num, ix]
    by_cases h : t = a
    · subst h; rw [decide_eq_true rfl, if_pos rfl]; rfl
    · rw [decide_eq_false h, if_neg (fun e => h e.symm)]
      show Instr.findNow (.int .i64) (.int .i64 (t : Int)) (nents (i + 1) l) (j + 1) = _
      rw [nfind t l (i + 1) (j + 1), Option.map_map]
      congr 1
      apply Option.map_congr
      intro q _
      simp only [Function.comp]
      congr 1
      · omega
      · congr 2; omega
/-- the numbers that were given -/
def NumsAt (W : World) (r : Nat) (l : List Nat) : Prop := W.heap[r]? = some (.map (nents 0 l).toArray l.length)
theorem nums_make (w : World) : (Instr.makeMap 74 none).run Tryd.prog w = .ok (.map (some w.heap.size)) (w.alloc (.map #[] 0)) := rfl
theorem int_zero (W : World) : (zeroValue 3).run Tryd.prog W = .ok (.int .i64 0) W := by kernel_rfl
theorem nums_look {r t : Nat} {l : List Nat} {W : World} (hb : NumsAt W r l) : (Instr.lookup 74 (.map (some r)) (.int .i64 (t : Int)) true).run Tryd.prog W = .ok (match ix t l with | some q => .tuple #[.int .i64 (q : Int), .bool true] | none => .tuple #[.int .i64 0, .bool false]) W := by
  have hf := nfind t l 0 0
  rw [Instr.lookup]
  simp only [Sem.run_bind, run_underlying nums_under, Result.andThen, obj_get hb, num_check, num_find _ _ _ _ hf, Sem.run_pure, if_true]
  cases ix t l with
  | none => simp only [Option.map_none, int_zero, Sem.run_bind, Sem.run_pure, Result.andThen]
  | some q => simp only [Option.map_some, Nat.zero_add, Sem.run_pure, Sem.run_bind, Result.andThen]
theorem nums_put {r t : Nat} {l : List Nat} {W : World} (hb : NumsAt W r l) (h : ix t l = none) : (Instr.mapUpdate 74 (.map (some r)) (.int .i64 (t : Int)) (.int .i64 (l.length : Int))).run Tryd.prog W = .ok () { W with heap := W.heap.setIfInBounds r (.map (nents 0 (l ++ [t])).toArray (l ++ [t]).length) } := by
  have hf := nfind t l 0 0
  rw [h] at hf
  rw [Instr.mapUpdate]
  simp only [Sem.run_bind, run_underlying nums_under, Result.andThen, obj_get hb, num_check, num_find _ _ none _ hf, obj_set _ hb]
  rw [nents_snoc, List.length_append]
  simp
end Go.Proofs.YtjbihammbmiieaaDoor
