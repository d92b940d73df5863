/- The text of a type that is no pair. -/
import Derived.Test.YtjbihammbmiieaaDoorIt
namespace Go.Proofs.YtjbihammbmiieaaDoor
open Go.RowKit Un

theorem ix_mem {n : Nat} : ∀ {l : List Nat}, ix n l = none → n ∉ l
  | [], _ => by simp
  | m :: l, h => by
    rw [ix] at h
    by_cases e : m = n
    · rw [if_pos e] at h; cases h
    · rw [if_neg e] at h
      have := ix_mem (l := l) (by cases hq : ix n l with
        | none => rfl
        | some q => rw [hq] at h; cases h)
      intro hm
      rcases List.mem_cons.1 hm with hm | hm
      · exact e hm.symm
      · exact this hm
theorem ix_lt {n q : Nat} : ∀ {l : List Nat}, ix n l = some q → q < l.length
  | [], h => by cases h
  | m :: l, h => by
    rw [ix] at h
    by_cases e : m = n
    · rw [if_pos e] at h; injection h with h; subst h; simp
    · rw [if_neg e] at h
      cases hq : ix n l with
      | none => rw [hq] at h; cases h
      | some r => rw [hq] at h; injection h with h; subst h; have := ix_lt hq; simpa using this
theorem _root_.Go.Proofs.YtjbihammbmiieaaDoor.Un.Val.occ_lt {T : Ts} (hT : WF T) {x : Nat} {t : Ty} (h : Val T x t) (hx : x < T.length) {q : Nat} (hq : t.Occ q) : q < T.length := by
  induction h with
  | is_ h1 _ ih => exact ih (hT.is_ _ _ hx h1).2 hq
  | var _ _ => have e : q = _ := hq; rw [e]; exact hx
  | int _ _ => exact hq.elim
  | bool _ _ => exact hq.elim
  | unit _ _ => exact hq.elim
  | pair _ k _ _ ih1 ih2 =>
    rcases hq with hq | hq
    · exact ih1 (hT.parts _ hx k).1 hq
    · exact ih2 (hT.parts _ hx k).2 hq
/-- no more than there are -/
def Slim (N : Nat) (nums : List Nat) : Prop := nums.length + (List.range N).countP (fun x => !nums.contains x) ≤ N
theorem Slim.nil (N : Nat) : Slim N [] := by simp [Slim]
theorem Slim.le {N : Nat} {nums : List Nat} (h : Slim N nums) : nums.length ≤ N := by unfold Slim at h; omega
theorem Slim.add {N : Nat} {nums : List Nat} {x : Nat} (h : Slim N nums) (hx : x < N) (hn : x ∉ nums) : Slim N (nums ++ [x]) := by
  have := countP_lt (l := List.range N) (p := fun y => !(nums ++ [x]).contains y) (q := fun y => !nums.contains y) (fun y _ hy => by
    simp only [Bool.not_eq_true', List.contains_eq_mem, decide_eq_false_iff_not] at hy ⊢
    exact fun e => hy (List.mem_append_left _ e)) ⟨x, List.mem_range.2 hx, by simp, by simpa using hn⟩
  unfold Slim at h ⊢
  rw [List.length_append, List.length_singleton]
  omega
theorem Slim.txt {N : Nat} : ∀ (t : Ty) {nums : List Nat}, Slim N nums → (∀ n, t.Occ n → n < N) → Slim N (txt t nums).2
  | .var n, nums, h, ho => by
    rw [Un.txt]
    cases hi : ix n nums with
    | some q => exact h
    | none => exact h.add (ho n rfl) (ix_mem hi)
  | .int, _, h, _ => h
  | .bool, _, h, _ => h
  | .unit, _, h, _ => h
  | .pair a b, nums, h, ho => by
    rw [Un.txt]
    exact Slim.txt b (Slim.txt a h (fun n hn => ho n (.inl hn))) (fun n hn => ho n (.inr hn))
theorem dec_small {n : Nat} (h : n < 100) : (dec n).length ≤ 2 := by
  rw [dec]
  split
  · simp
  · rw [dec, if_pos (by omega)]; simp
theorem txt_len {N : Nat} (hN : N ≤ 99) : ∀ (t : Ty) {nums : List Nat}, Slim N nums → (∀ n, t.Occ n → n < N) → (txt t nums).1.length + 4 ≤ 8 * t.size
  | .var n, nums, h, ho => by
    have hl := h.le
    rw [Un.txt]
    cases hi : ix n nums with
    | some q =>
      have := dec_small (n := q) (by have := ix_lt hi; omega)
      simp only [List.length_cons, Ty.size]; omega
    | none =>
      have := dec_small (n := nums.length) (by omega)
      simp only [List.length_cons, Ty.size]; omega
  | .int, _, _, _ => by simp [Un.txt, Ty.size]
  | .bool, _, _, _ => by simp [Un.txt, Ty.size]
  | .unit, _, _, _ => by simp [Un.txt, Ty.size]
  | .pair a b, nums, h, ho => by
    have h1 := txt_len hN a h (fun n hn => ho n (.inl hn))
    have h2 := txt_len hN b (Slim.txt a h (fun n hn => ho n (.inl hn))) (fun n hn => ho n (.inr hn))
    rw [Un.txt, Ty.size]
    simp only [List.length_cons, List.length_append, List.length_nil]
    omega

def NameP (B bt : Nat) (c : Pc) (mb : Nat) (R : List Nx) (v : Value) (s : List UInt8) (nums : List Nat) (t : Ty) (w : World) (e : Ending) (w' : World) : Prop :=
  e = .returned (.string ⟨(txt t nums).1.toArray⟩) ∧ ShowAt B bt c mb R v s (txt t nums).2 w' ∧ Fr (FS c mb v) w w'
theorem name_low (B bt : Nat) (c : Pc) (mb : Nat) (R : List Nx) (v : Value) (s : List UInt8) (nums : List Nat) (a : Nat) (t : Ty) (w : World) (h : ShowAt B bt c mb R v s nums w) (ha : a < 3) (hv : Val (abs R) a t) :
    Calls Tryd.prog 43 #[.pointer (some ⟨c.bp, 0, none⟩), .int .i64 a] w (NameP B bt c mb R v s nums t w) := by
  have H := Lib.hid h
  clear h
  have e := abs_low (R := R) ha
  rcases (show a = 0 ∨ a = 1 ∨ a = 2 by omega) with rfl | rfl | rfl
  · obtain rfl : t = .int := hv.same (.int (by rw [e]) (by rw [e]))
    go_enter Tryd.func43, Tryd.ntmps43
    go_wp2
    go_ret
    exact ⟨rfl, H.out, Fr.refl _ _⟩
  · obtain rfl : t = .bool := hv.same (.bool (by rw [e]) (by rw [e]))
    go_enter Tryd.func43, Tryd.ntmps43
    go_wp2
    go_ret
    exact ⟨rfl, H.out, Fr.refl _ _⟩
  · obtain rfl : t = .unit := hv.same (.unit (by rw [e]) (by rw [e]))
    go_enter Tryd.func43, Tryd.ntmps43
    go_wp2
    go_ret
    exact ⟨rfl, H.out, Fr.refl _ _⟩
theorem name_open (B bt : Nat) (c : Pc) (mb : Nat) (R : List Nx) (v : Value) (s : List UInt8) (nums : List Nat) (a : Nat) (w : World) (h : ShowAt B bt c mb R v s nums w) (ha : 3 ≤ a) (ha2 : a ≤ 1000000) (hn : nums.length ≤ 99) :
    Calls Tryd.prog 43 #[.pointer (some ⟨c.bp, 0, none⟩), .int .i64 a] w (NameP B bt c mb R v s nums (.var a) w) := by
  have H := Lib.hid h
  clear h
  have ha3 : ¬ a = 0 := by omega
  have ha4 : ¬ a = 1 := by omega
  have ha5 : ¬ a = 2 := by omega
  go_enter Tryd.func43, Tryd.ntmps43
  go_wp2_with fail
  refine (number_any B bt c mb R v s nums a w H.out (by omega)).mono ?_
  rintro e w1 ⟨rfl, hs, hf⟩
  have hq : (ix a nums).getD nums.length < 100 := by
    cases hi : ix a nums with
    | some q => have := ix_lt hi; simp; omega
    | none => simp; omega
  have HS := Lib.hid hs; have HF := Lib.hid hf
  clear hs hf
  go_wp2_with fail
  refine (itoa_any _ hq w1).mono ?_
  rintro e w2 ⟨rfl, rfl⟩
  have hd := dec_small hq
  go_wp2
  go_ret
  have h1 := HS.out
  cases hi : ix a nums with
  | some q =>
    rw [hi] at h1
    refine ⟨?_, by rw [Un.txt, hi]; exact h1, HF.out⟩
    rw [Un.txt, hi]
    exact congrArg (fun t => Ending.returned (.string t)) (by apply ByteArray.ext; simp)
  | none =>
    rw [hi] at h1
    refine ⟨?_, by rw [Un.txt, hi]; exact h1, HF.out⟩
    rw [Un.txt, hi]
    exact congrArg (fun t => Ending.returned (.string t)) (by apply ByteArray.ext; simp)
end Go.Proofs.YtjbihammbmiieaaDoor
