/- How many bytes come that are blanks, that are of a name, that are of a number: the program's loops and the document's. -/
import Derived.Test.YtoeljmiefbaajaaDoorLeaf
import Derived.WalkSpells
import Derived.WalkLawsBesides
namespace Go.Proofs.YtoeljmiefbaajaaDoor
open Go.RowKit
theorem byte_at (s : ByteArray) (k : Nat) (h : k < s.size) : ∃ c : UInt8, s[k]'h = c ∧ s.data.toList.drop k = c :: s.data.toList.drop (k + 1) := by
  refine ⟨_, rfl, ?_⟩
  have h' : k < s.data.toList.length := by rw [Array.length_toList]; exact h
  rw [List.drop_eq_getElem_cons h']
  rfl
theorem size_len (s : ByteArray) : s.size = s.data.toList.length := by rw [Array.length_toList]; rfl
theorem drop_end (s : ByteArray) (k : Nat) (h : ¬ k < s.size) : s.data.toList.drop k = [] := by
  rw [size_len] at h; exact List.drop_eq_nil_of_le (by omega)
theorem cast_succ (k : Nat) : Value.int .i64 ((k : Int) + 1) = .int .i64 ((k + 1 : Nat) : Int) := by push_cast; rfl
theorem ret_int {k : IntKind} {a b : Int} (h : a = b) : Ending.returned (.int k a) = .returned (.int k b) := by rw [h]

set_option maxHeartbeats 1000000 in
theorem blanks_any (s : ByteArray) (w : World) (hs : s.size ≤ 1000000000000) : Calls Tryd.prog 14 #[.string s] w fun e w' => e = .returned (.int .i64 (Lx.blanks false s.data.toList : Int)) ∧ w = w' := by
  generalize hA : Lx.blanks false s.data.toList = A
  have HA := Lib.hid hA; clear hA
  go_enter Tryd.func14, Tryd.ntmps14
  go_wp2
  go_loopw [3, 4] (fun i b wr => ∃ (k : Nat) (note : Bool), k ≤ s.size ∧ i = .int .i64 (k : Int) ∧ b = .bool note ∧ A = k + Lx.blanks note (s.data.toList.drop k) ∧ w = wr) (fun i _ _ => s.size - (intOf i).toNat)
  case atStart => exact ⟨0, false, Nat.zero_le _, rfl, rfl, by simpa using HA.out.symm, rfl⟩
  case round =>
    obtain ⟨k, note, hk, rfl, rfl, hA, rfl⟩ := hrel
    clear HA
    by_cases hlt : k < s.size
    · obtain ⟨c, hc, hd⟩ := byte_at s k hlt
      rw [hd, Lx.blanks] at hA
      have hm : s.size - (intOf (Value.int IntKind.i64 ((k : Int) + 1))).toNat < s.size - (intOf (Value.int IntKind.i64 (k : Int))).toNat := by simp [intOf]; omega
      have HM := Lib.hid hm; clear hm hd
      cases h1 : (c.toNat : Int) == 10
      · cases h2 : (c.toNat : Int) == 35
        · cases h3 : Lx.blankZ (c.toNat : Int)
          · cases note
            · have hE : A = k := by rw [hA]; simp [h1, h2, h3, Lx.blank]
              subst hE; clear hA
              go_wp2_with (go_at_call 21; refine (isBlank_any _ _).mono ?_; rintro e w' ⟨rfl, rfl⟩)
              go_ret; exact ⟨rfl, rfl⟩
            · have hE : A = (k + 1) + Lx.blanks true (s.data.toList.drop (k + 1)) := by rw [hA]; simp [h1, h2, h3, Lx.blank]; omega
              have HE := Lib.hid hE; clear hA hE
              go_wp2_with (go_at_call 21; refine (isBlank_any _ _).mono ?_; rintro e w' ⟨rfl, rfl⟩)
              exact ⟨⟨k + 1, true, by omega, cast_succ k, rfl, HE.out, trivial⟩, HM.out⟩
          · cases note
            · have hE : A = (k + 1) + Lx.blanks false (s.data.toList.drop (k + 1)) := by rw [hA]; simp [h1, h2, h3, Lx.blank]; omega
              have HE := Lib.hid hE; clear hA hE
              go_wp2_with (go_at_call 21; refine (isBlank_any _ _).mono ?_; rintro e w' ⟨rfl, rfl⟩)
              exact ⟨⟨k + 1, false, by omega, cast_succ k, rfl, HE.out, trivial⟩, HM.out⟩
            · have hE : A = (k + 1) + Lx.blanks true (s.data.toList.drop (k + 1)) := by rw [hA]; simp [h1, h2, h3, Lx.blank]; omega
              have HE := Lib.hid hE; clear hA hE
              go_wp2_with (go_at_call 21; refine (isBlank_any _ _).mono ?_; rintro e w' ⟨rfl, rfl⟩)
              exact ⟨⟨k + 1, true, by omega, cast_succ k, rfl, HE.out, trivial⟩, HM.out⟩
        · have hE : A = (k + 1) + Lx.blanks true (s.data.toList.drop (k + 1)) := by rw [hA]; simp [h1, h2]; omega
          have HE := Lib.hid hE; clear hA hE
          go_wp2
          exact ⟨⟨k + 1, true, by omega, cast_succ k, rfl, HE.out, trivial⟩, HM.out⟩
      · have hE : A = (k + 1) + Lx.blanks false (s.data.toList.drop (k + 1)) := by rw [hA]; simp [h1]; omega
        have HE := Lib.hid hE; clear hA hE
        go_wp2
        exact ⟨⟨k + 1, false, by omega, cast_succ k, rfl, HE.out, trivial⟩, HM.out⟩
    · have hE : A = k := by rw [hA, drop_end s k hlt]; rfl
      subst hE; clear hA
      go_wp2
      go_ret; exact ⟨rfl, rfl⟩

set_option maxHeartbeats 1000000 in
theorem lengthOf_digit (s : ByteArray) (w : World) (hs : s.size ≤ 1000000000000) : Calls Tryd.prog 39 #[.string s, .func (.func 22) #[] #[]] w fun e w' => e = .returned (.int .i64 (Lx.span false s.data.toList : Int)) ∧ w = w' := by
  generalize hA : Lx.span false s.data.toList = A
  have HA := Lib.hid hA; clear hA
  go_enter Tryd.func39, Tryd.ntmps39
  go_wp2
  go_loopw [5] (fun i wr => ∃ (k : Nat), k ≤ s.size ∧ i = .int .i64 (k : Int) ∧ A = k + Lx.span false (s.data.toList.drop k) ∧ w = wr) (fun i _ => s.size - (intOf i).toNat)
  case atStart => exact ⟨0, Nat.zero_le _, rfl, by simpa using HA.out.symm, rfl⟩
  case round =>
    obtain ⟨k, hk, rfl, hA, rfl⟩ := hrel
    clear HA
    by_cases hlt : k < s.size
    · obtain ⟨c, hc, hd⟩ := byte_at s k hlt
      rw [hd, Lx.span] at hA
      have hm : s.size - (intOf (Value.int IntKind.i64 ((k : Int) + 1))).toNat < s.size - (intOf (Value.int IntKind.i64 (k : Int))).toNat := by simp [intOf]; omega
      have HM := Lib.hid hm; clear hm hd
      cases h1 : Lx.digitZ (c.toNat : Int)
      · have hE : A = k := by rw [hA]; simp [h1, Lx.digit]
        subst hE; clear hA
        go_wp2_with (go_at_call 22; refine (isDigit_any _ _).mono ?_; rintro e w' ⟨rfl, rfl⟩)
        go_ret; exact ⟨rfl, rfl⟩
      · have hE : A = (k + 1) + Lx.span false (s.data.toList.drop (k + 1)) := by rw [hA]; simp [h1, Lx.digit]; omega
        have HE := Lib.hid hE; clear hA hE
        go_wp2_with (go_at_call 22; refine (isDigit_any _ _).mono ?_; rintro e w' ⟨rfl, rfl⟩)
        exact ⟨⟨k + 1, by omega, cast_succ k, HE.out, trivial⟩, HM.out⟩
    · have hE : A = k := by rw [hA, drop_end s k hlt]; rfl
      subst hE; clear hA
      go_wp2
      go_ret; exact ⟨rfl, rfl⟩
set_option maxHeartbeats 1000000 in
theorem lengthOf_word (s : ByteArray) (w : World) (hs : s.size ≤ 1000000000000) : Calls Tryd.prog 39 #[.string s, .func (.func 41) #[] #[]] w fun e w' => e = .returned (.int .i64 (Lx.span true s.data.toList : Int)) ∧ w = w' := by
  generalize hA : Lx.span true s.data.toList = A
  have HA := Lib.hid hA; clear hA
  go_enter Tryd.func39, Tryd.ntmps39
  go_wp2
  go_loopw [5] (fun i wr => ∃ (k : Nat), k ≤ s.size ∧ i = .int .i64 (k : Int) ∧ A = k + Lx.span true (s.data.toList.drop k) ∧ w = wr) (fun i _ => s.size - (intOf i).toNat)
  case atStart => exact ⟨0, Nat.zero_le _, rfl, by simpa using HA.out.symm, rfl⟩
  case round =>
    obtain ⟨k, hk, rfl, hA, rfl⟩ := hrel
    clear HA
    by_cases hlt : k < s.size
    · obtain ⟨c, hc, hd⟩ := byte_at s k hlt
      rw [hd, Lx.span] at hA
      have hm : s.size - (intOf (Value.int IntKind.i64 ((k : Int) + 1))).toNat < s.size - (intOf (Value.int IntKind.i64 (k : Int))).toNat := by simp [intOf]; omega
      have HM := Lib.hid hm; clear hm hd
      cases h1 : (Lx.letterZ (c.toNat : Int) || Lx.digitZ (c.toNat : Int))
      · have hE : A = k := by rw [hA]; simp only [Bool.or_eq_false_iff] at h1; simp [h1, Lx.digit, Lx.letter]
        subst hE; clear hA
        go_wp2_with (go_at_call 41; refine (isWord_any _ _).mono ?_; rintro e w' ⟨rfl, rfl⟩)
        go_ret; exact ⟨rfl, rfl⟩
      · have hE : A = (k + 1) + Lx.span true (s.data.toList.drop (k + 1)) := by rw [hA, if_pos (by rw [Bool.or_comm] at h1; simpa [Lx.digit, Lx.letter] using h1)]; omega
        have HE := Lib.hid hE; clear hA hE
        go_wp2_with (go_at_call 41; refine (isWord_any _ _).mono ?_; rintro e w' ⟨rfl, rfl⟩)
        exact ⟨⟨k + 1, by omega, cast_succ k, HE.out, trivial⟩, HM.out⟩
    · have hE : A = k := by rw [hA, drop_end s k hlt]; rfl
      subst hE; clear hA
      go_wp2
      go_ret; exact ⟨rfl, rfl⟩

set_option maxHeartbeats 1000000 in
theorem rlong_any (s : ByteArray) (name : Bool) (w : World) (hs : s.size ≤ 1000000000000) : Calls Tryd.prog 30 #[.string s, .bool name] w fun e w' => e = .returned (.int .i64 (Lx.span name s.data.toList : Int)) ∧ w = w' := by
  generalize hA : Lx.span name s.data.toList = A
  have HA := Lib.hid hA; clear hA
  go_enter Tryd.func30, Tryd.ntmps30
  go_wp2
  go_loopw [5] (fun i wr => ∃ (k : Nat), k ≤ s.size ∧ i = .int .i64 (k : Int) ∧ A = k + Lx.span name (s.data.toList.drop k) ∧ w = wr) (fun i _ => s.size - (intOf i).toNat)
  case atStart => exact ⟨0, Nat.zero_le _, rfl, by simpa using HA.out.symm, rfl⟩
  case round =>
    obtain ⟨k, hk, rfl, hA, rfl⟩ := hrel
    clear HA
    by_cases hlt : k < s.size
    · obtain ⟨c, hc, hd⟩ := byte_at s k hlt
      rw [hd, Lx.span] at hA
      have hm : s.size - (intOf (Value.int IntKind.i64 ((k : Int) + 1))).toNat < s.size - (intOf (Value.int IntKind.i64 (k : Int))).toNat := by simp [intOf]; omega
      have HM := Lib.hid hm; clear hm hd
      cases h1 : Lx.letterZ (c.toNat : Int)
      · cases h2 : Lx.digitZ (c.toNat : Int)
        · have hE : A = k := by rw [hA]; simp [h1, h2, Lx.digit, Lx.letter]
          subst hE; clear hA
          cases name
          all_goals
            go_wp2_with (first | (go_at_call 28; refine (rletter_any _ _).mono ?_; rintro e w' ⟨rfl, rfl⟩) | (go_at_call 29; refine (rdigit_any _ _).mono ?_; rintro e w' ⟨rfl, rfl⟩))
            go_ret; exact ⟨rfl, rfl⟩
        · have hE : A = (k + 1) + Lx.span name (s.data.toList.drop (k + 1)) := by rw [hA]; simp [h1, h2, Lx.digit, Lx.letter]; omega
          have HE := Lib.hid hE; clear hA hE
          cases name
          all_goals
            go_wp2_with (first | (go_at_call 28; refine (rletter_any _ _).mono ?_; rintro e w' ⟨rfl, rfl⟩) | (go_at_call 29; refine (rdigit_any _ _).mono ?_; rintro e w' ⟨rfl, rfl⟩))
            exact ⟨⟨k + 1, by omega, cast_succ k, HE.out, trivial⟩, HM.out⟩
      · cases h2 : Lx.digitZ (c.toNat : Int)
        · cases name
          · have hE : A = k := by rw [hA]; simp [h1, h2, Lx.digit, Lx.letter]
            subst hE; clear hA
            go_wp2_with (first | (go_at_call 28; refine (rletter_any _ _).mono ?_; rintro e w' ⟨rfl, rfl⟩) | (go_at_call 29; refine (rdigit_any _ _).mono ?_; rintro e w' ⟨rfl, rfl⟩))
            go_ret; exact ⟨rfl, rfl⟩
          · have hE : A = (k + 1) + Lx.span true (s.data.toList.drop (k + 1)) := by rw [hA]; simp [h1, h2, Lx.digit, Lx.letter]; omega
            have HE := Lib.hid hE; clear hA hE
            go_wp2_with (first | (go_at_call 28; refine (rletter_any _ _).mono ?_; rintro e w' ⟨rfl, rfl⟩) | (go_at_call 29; refine (rdigit_any _ _).mono ?_; rintro e w' ⟨rfl, rfl⟩))
            exact ⟨⟨k + 1, by omega, cast_succ k, HE.out, trivial⟩, HM.out⟩
        · have hE : A = (k + 1) + Lx.span name (s.data.toList.drop (k + 1)) := by rw [hA]; simp [h1, h2, Lx.digit, Lx.letter]; omega
          have HE := Lib.hid hE; clear hA hE
          cases name
          all_goals
            go_wp2_with (first | (go_at_call 28; refine (rletter_any _ _).mono ?_; rintro e w' ⟨rfl, rfl⟩) | (go_at_call 29; refine (rdigit_any _ _).mono ?_; rintro e w' ⟨rfl, rfl⟩))
            exact ⟨⟨k + 1, by omega, cast_succ k, HE.out, trivial⟩, HM.out⟩
    · have hE : A = k := by rw [hA, drop_end s k hlt]; rfl
      subst hE; clear hA
      go_wp2
      go_ret; exact ⟨rfl, rfl⟩
end Go.Proofs.YtoeljmiefbaajaaDoor
