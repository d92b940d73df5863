/- Nodes and their expressions, as plain lists: which can be added, which nodes an expression has, how much it comes to. -/
namespace Go.Proofs.YtdkhkemllmegfaaGreatDoor.Tn

structure Nd where
  op : ByteArray
  line : Int
  col : Int
  name : ByteArray
  num : Int
  kids : List Int

instance : Inhabited Nd := ⟨⟨ByteArray.mk #[], 0, 0, ByteArray.mk #[], 0, []⟩⟩

def nd (ms : List Nd) (i : Nat) : Nd := ms.getD i default
def kid (ks : List Int) (i : Nat) : Int := ks.getD i 0

/-- its parts are there -/
def fits (len : Nat) (n : Nd) : Bool := n.kids.all fun k => decide (0 ≤ k) && decide (k < (len : Int))
def add (ms : List Nd) (n : Nd) : List Nd := if fits ms.length n = true then ms ++ [n] else ms
def build (l : List Nd) : List Nd := l.foldl add []

/-- the parts of each stand ahead of it -/
def WF (ms : List Nd) : Prop := ∀ i, i < ms.length → ∀ k ∈ (nd ms i).kids, 0 ≤ k ∧ k < (i : Int)

theorem nd_lt (ms : List Nd) (n : Nd) {i : Nat} (h : i < ms.length) : nd (ms ++ [n]) i = nd ms i := by
  simp [nd, List.getElem?_append_left h]
theorem nd_last (ms : List Nd) (n : Nd) : nd (ms ++ [n]) ms.length = n := by simp [nd]

theorem kid_mem {ks : List Int} {i : Nat} (h : i < ks.length) : kid ks i ∈ ks := by
  simp only [kid, List.getD_eq_getElem?_getD, List.getElem?_eq_getElem h, Option.getD_some]
  exact List.getElem_mem h
theorem mem_kid {ks : List Int} {k : Int} (h : k ∈ ks) : ∃ i, i < ks.length ∧ kid ks i = k := by
  obtain ⟨i, hi, e⟩ := List.mem_iff_getElem.1 h
  exact ⟨i, hi, by rw [kid, List.getD_eq_getElem?_getD, List.getElem?_eq_getElem hi]; exact e⟩

theorem fits_iff {len : Nat} {n : Nd} : fits len n = true ↔ ∀ k ∈ n.kids, 0 ≤ k ∧ k < (len : Int) := by simp [fits]
theorem fits_at {len : Nat} {n : Nd} : fits len n = true ↔ ∀ i, i < n.kids.length → 0 ≤ kid n.kids i ∧ kid n.kids i < (len : Int) := by
  rw [fits_iff]
  constructor
  · intro h i hi; exact h _ (kid_mem hi)
  · intro h k hk; obtain ⟨i, hi, rfl⟩ := mem_kid hk; exact h i hi

theorem WF.nil : WF [] := fun i h => by simp at h
theorem WF.snoc {ms : List Nd} {n : Nd} (h : WF ms) (hf : fits ms.length n = true) : WF (ms ++ [n]) := by
  intro i hi k hk
  by_cases e : i < ms.length
  · rw [nd_lt ms n e] at hk; exact h i e k hk
  · obtain rfl : i = ms.length := by simp at hi; omega
    rw [nd_last] at hk; exact fits_iff.1 hf k hk
theorem WF.add {ms : List Nd} {n : Nd} (h : WF ms) : WF (add ms n) := by
  unfold Tn.add; split
  · exact h.snoc ‹_›
  · exact h
theorem build_snoc (l : List Nd) (n : Nd) : build (l ++ [n]) = add (build l) n := by simp [build]
theorem build_nil : build [] = [] := rfl
theorem WF.ofBuild (l : List Nd) : WF (build l) := by
  suffices ∀ ms, WF ms → WF (l.foldl Tn.add ms) from this [] WF.nil
  induction l with
  | nil => intro ms h; exact h
  | cons n l ih => intro ms h; exact ih _ h.add
theorem add_len (ms : List Nd) (n : Nd) : (add ms n).length ≤ ms.length + 1 := by unfold add; split <;> simp
theorem build_len (l : List Nd) : (build l).length ≤ l.length := by
  suffices ∀ ms, (l.foldl add ms).length ≤ ms.length + l.length from by simpa [build] using this []
  induction l with
  | nil => intro ms; simp
  | cons n l ih => intro ms; have := ih (add ms n); have := add_len ms n; simp only [List.foldl_cons, List.length_cons]; omega

/-- what an expression comes to, its parts joined by f -/
def meas (f : Int → Int → Int) (ms : List Nd) : Nat → Nat → Int
  | 0, _ => 0
  | u + 1, i => (nd ms i).kids.foldl (fun a k => f a (meas f ms u k.toNat)) 0 + 1
def M (f : Int → Int → Int) (ms : List Nd) (i : Nat) : Int := meas f ms (i + 1) i
/-- an expression's nodes, each ahead of its parts -/
def places (ms : List Nd) : Nat → Nat → List Nat
  | 0, _ => []
  | u + 1, i => i :: (nd ms i).kids.flatMap fun k => places ms u k.toNat
def Pl (ms : List Nd) (i : Nat) : List Nat := places ms (i + 1) i

theorem foldl_congr {β : Type} {f g : β → Int → β} (l : List Int) (h : ∀ a, ∀ k ∈ l, f a k = g a k) (a : β) : l.foldl f a = l.foldl g a := by
  induction l generalizing a with
  | nil => rfl
  | cons k l ih =>
    simp only [List.foldl_cons]
    rw [h a k (by simp)]
    exact ih (fun a k hk => h a k (by simp [hk])) _
theorem flatMap_congr {β : Type} {f g : Int → List β} (l : List Int) (h : ∀ k ∈ l, f k = g k) : l.flatMap f = l.flatMap g := by
  induction l with
  | nil => rfl
  | cons k l ih =>
    simp only [List.flatMap_cons]
    rw [h k (by simp), ih fun k hk => h k (by simp [hk])]

theorem kid_lt {ms : List Nd} (hw : WF ms) {i : Nat} (hi : i < ms.length) {k : Int} (hk : k ∈ (nd ms i).kids) : k.toNat < i ∧ ((k.toNat : Nat) : Int) = k := by
  have := hw i hi k hk
  omega

theorem meas_fuel (f : Int → Int → Int) {ms : List Nd} (hw : WF ms) (u : Nat) : ∀ v i, i < ms.length → i < u → i < v → meas f ms u i = meas f ms v i := by
  induction u with
  | zero => intro v i _ h; omega
  | succ u ih =>
    intro v i hi hu hv
    obtain ⟨v, rfl⟩ : ∃ v', v = v' + 1 := ⟨v - 1, by omega⟩
    simp only [meas]
    rw [foldl_congr]
    intro a k hk
    have := kid_lt hw hi hk
    rw [ih v k.toNat (by omega) (by omega) (by omega)]
theorem places_fuel {ms : List Nd} (hw : WF ms) (u : Nat) : ∀ v i, i < ms.length → i < u → i < v → places ms u i = places ms v i := by
  induction u with
  | zero => intro v i _ h; omega
  | succ u ih =>
    intro v i hi hu hv
    obtain ⟨v, rfl⟩ : ∃ v', v = v' + 1 := ⟨v - 1, by omega⟩
    simp only [places]
    rw [flatMap_congr]
    intro k hk
    have := kid_lt hw hi hk
    rw [ih v k.toNat (by omega) (by omega) (by omega)]

/-- what is known of the first so many parts -/
def upto (f : Int → Int → Int) (ms : List Nd) (ks : List Int) (j : Nat) : Int := (ks.take j).foldl (fun a k => f a (M f ms k.toNat)) 0
theorem M_eq (f : Int → Int → Int) {ms : List Nd} (hw : WF ms) {i : Nat} (hi : i < ms.length) : M f ms i = upto f ms (nd ms i).kids (nd ms i).kids.length + 1 := by
  simp only [M, meas, upto, List.take_length]
  rw [foldl_congr]
  intro a k hk
  have := kid_lt hw hi hk
  rw [meas_fuel f hw i (k.toNat + 1) k.toNat (by omega) (by omega) (by omega)]; rfl
theorem upto_zero (f : Int → Int → Int) (ms : List Nd) (ks : List Int) : upto f ms ks 0 = 0 := rfl
theorem take_succ_kid {ks : List Int} {j : Nat} (h : j < ks.length) : ks.take (j + 1) = ks.take j ++ [kid ks j] := by
  rw [List.take_succ_eq_append_getElem h]; simp [kid, h]
theorem upto_succ (f : Int → Int → Int) (ms : List Nd) {ks : List Int} {j : Nat} (h : j < ks.length) : upto f ms ks (j + 1) = f (upto f ms ks j) (M f ms (kid ks j).toNat) := by
  simp only [upto, take_succ_kid h, List.foldl_append, List.foldl_cons, List.foldl_nil]

def partPl (ms : List Nd) (ks : List Int) (j : Nat) : List Nat := (ks.take j).flatMap fun k => Pl ms k.toNat
theorem Pl_eq {ms : List Nd} (hw : WF ms) {i : Nat} (hi : i < ms.length) : Pl ms i = i :: partPl ms (nd ms i).kids (nd ms i).kids.length := by
  simp only [Pl, places, partPl, List.take_length]
  rw [flatMap_congr]
  intro k hk
  have := kid_lt hw hi hk
  rw [places_fuel hw i (k.toNat + 1) k.toNat (by omega) (by omega) (by omega)]; rfl
theorem partPl_zero (ms : List Nd) (ks : List Int) : partPl ms ks 0 = [] := rfl
theorem partPl_succ (ms : List Nd) {ks : List Int} {j : Nat} (h : j < ks.length) : partPl ms ks (j + 1) = partPl ms ks j ++ Pl ms (kid ks j).toNat := by
  simp only [partPl, take_succ_kid h, List.flatMap_append, List.flatMap_cons, List.flatMap_nil, List.append_nil]

theorem upto_len {ms : List Nd} {ks : List Int} (h : ∀ k ∈ ks, M (· + ·) ms k.toNat = (Pl ms k.toNat).length) (j : Nat) (hj : j ≤ ks.length) : upto (· + ·) ms ks j = ((partPl ms ks j).length : Int) := by
  induction j with
  | zero => rfl
  | succ j ih =>
    rw [upto_succ _ _ (by omega), partPl_succ _ (by omega), ih (by omega), List.length_append, h _ (kid_mem (by omega))]
    omega
/-- how many nodes an expression has -/
theorem M_len {ms : List Nd} (hw : WF ms) (i : Nat) : i < ms.length → M (· + ·) ms i = ((Pl ms i).length : Int) := by
  induction i using Nat.strongRecOn with
  | _ i ih =>
    intro hi
    rw [M_eq _ hw hi, Pl_eq hw hi, upto_len (fun k hk => ih _ (kid_lt hw hi hk).1 (by have := kid_lt hw hi hk; omega)) _ (Nat.le_refl _), List.length_cons]
    omega

theorem partPl_le (ms : List Nd) (ks : List Int) {j : Nat} (hj : j ≤ ks.length) : (partPl ms ks j).length ≤ (partPl ms ks ks.length).length := by
  obtain ⟨d, hd⟩ : ∃ d, ks.length = j + d := ⟨_, (Nat.add_sub_cancel' hj).symm⟩
  have : ∀ d, j + d ≤ ks.length → (partPl ms ks j).length ≤ (partPl ms ks (j + d)).length := by
    intro d
    induction d with
    | zero => intro _; exact Nat.le_refl _
    | succ d ih =>
      intro h
      have := ih (by omega)
      rw [← Nat.add_assoc, partPl_succ _ (by omega), List.length_append]
      omega
  rw [hd]; exact this d (by omega)

/-- no deeper than it has nodes -/
theorem upto_max {ms : List Nd} {ks : List Int} (h : ∀ k ∈ ks, 1 ≤ M max ms k.toNat ∧ M max ms k.toNat ≤ (Pl ms k.toNat).length) (j : Nat) (hj : j ≤ ks.length) : 0 ≤ upto max ms ks j ∧ upto max ms ks j ≤ ((partPl ms ks j).length : Int) := by
  induction j with
  | zero => exact ⟨Int.le_refl _, Int.le_refl _⟩
  | succ j ih =>
    have := ih (by omega)
    have := h _ (kid_mem (show j < ks.length by omega))
    rw [upto_succ _ _ (by omega), partPl_succ _ (by omega), List.length_append]
    omega
theorem M_max {ms : List Nd} (hw : WF ms) (i : Nat) : i < ms.length → 1 ≤ M max ms i ∧ M max ms i ≤ ((Pl ms i).length : Int) := by
  induction i using Nat.strongRecOn with
  | _ i ih =>
    intro hi
    have := upto_max (ms := ms) (ks := (nd ms i).kids) (fun k hk => ih _ (kid_lt hw hi hk).1 (by have := kid_lt hw hi hk; omega)) _ (Nat.le_refl _)
    rw [M_eq _ hw hi, Pl_eq hw hi, List.length_cons]
    omega

/-- one more node changes nothing of the others -/
theorem Pl_lt {ms : List Nd} (hw : WF ms) (n : Nd) (hf : fits ms.length n = true) (i : Nat) : i < ms.length → Pl (ms ++ [n]) i = Pl ms i := by
  have hw' := hw.snoc hf
  induction i using Nat.strongRecOn with
  | _ i ih =>
    intro hi
    rw [Pl_eq hw hi, Pl_eq hw' (by simp; omega), nd_lt ms n hi]
    congr 1
    simp only [partPl, List.take_length]
    refine flatMap_congr _ fun k hk => ?_
    have := kid_lt hw hi hk
    exact ih _ this.1 (by omega)

/-- few nodes, and no expression has many -/
def Good (ms : List Nd) : Prop := ms.length ≤ 999000 ∧ ∀ i, i < ms.length → (Pl ms i).length ≤ 999000

theorem Good.nil : Good [] := ⟨by simp, fun i h => by simp at h⟩
end Go.Proofs.YtdkhkemllmegfaaGreatDoor.Tn
