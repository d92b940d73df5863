import Derived.Test.YtdkhkemllmegfaaGreatDoorProg
import Derived.Test.YtdkhkemllmegfaaGreatDoorLLxV
import Derived.WalkKit
import Derived.Lib.Strings
import Derived.Lib.Hide
import Derived.WalkSpells
import Derived.WalkLawsBesides
import Derived.Laws.RangeAny
import Derived.Lib.OthersKept

/- What the small functions of the lexer answer, and those of the document's own. -/
namespace Go.Proofs.YtdkhkemllmegfaaGreatDoor
open Go.RowKit

theorem ret_bool {a b : Bool} (h : a = b) : Ending.returned (.bool a) = .returned (.bool b) := by rw [h]
theorem isBlank_any (c : Int) (w : World) : Calls Tryz.prog 74 #[.int .u8 c] w fun e w' => e = .returned (.bool (Lx.blankZ c)) ∧ w = w' := by
  go_enter Tryz.func74, Tryz.ntmps74
  go_wp2
  all_goals (go_ret; refine ⟨?_, rfl⟩; simp_all [Lx.blankZ])
theorem isDigit_any (c : Int) (w : World) : Calls Tryz.prog 75 #[.int .u8 c] w fun e w' => e = .returned (.bool (Lx.digitZ c)) ∧ w = w' := by
  go_enter Tryz.func75, Tryz.ntmps75
  go_wp2
  all_goals (go_ret; refine ⟨ret_bool (Bool.eq_iff_iff.2 ?_), rfl⟩; first | (simp [Lx.digitZ]; done) | (simp [Lx.digitZ]; omega))
theorem isLetter_any (c : Int) (w : World) : Calls Tryz.prog 77 #[.int .u8 c] w fun e w' => e = .returned (.bool (Lx.letterZ c)) ∧ w = w' := by
  go_enter Tryz.func77, Tryz.ntmps77
  go_wp2
  all_goals (go_ret; refine ⟨ret_bool (Bool.eq_iff_iff.2 ?_), rfl⟩; first | (simp [Lx.letterZ]; done) | (simp [Lx.letterZ]; omega))
theorem rletter_any (c : Int) (w : World) : Calls Tryz.prog 123 #[.int .u8 c] w fun e w' => e = .returned (.bool (Lx.letterZ c)) ∧ w = w' := by
  go_enter Tryz.func123, Tryz.ntmps123
  go_wp2
  all_goals (go_ret; refine ⟨ret_bool (Bool.eq_iff_iff.2 ?_), rfl⟩; first | (simp [Lx.letterZ]; done) | (simp [Lx.letterZ]; omega))
theorem rdigit_any (c : Int) (w : World) : Calls Tryz.prog 124 #[.int .u8 c] w fun e w' => e = .returned (.bool (Lx.digitZ c)) ∧ w = w' := by
  go_enter Tryz.func124, Tryz.ntmps124
  go_wp2
  all_goals (go_ret; refine ⟨ret_bool (Bool.eq_iff_iff.2 ?_), rfl⟩; first | (simp [Lx.digitZ]; done) | (simp [Lx.digitZ]; omega))
theorem isWord_any (c : Int) (w : World) : Calls Tryz.prog 111 #[.int .u8 c] w fun e w' => e = .returned (.bool (Lx.letterZ c || Lx.digitZ c)) ∧ w = w' := by
  go_enter Tryz.func111, Tryz.ntmps111
  go_wp2_with (first | (go_at_call 77; refine (isLetter_any _ _).mono ?_; rintro e w' ⟨rfl, rfl⟩) | (go_at_call 75; refine (isDigit_any _ _).mono ?_; rintro e w' ⟨rfl, rfl⟩))
  all_goals (go_ret; refine ⟨?_, rfl⟩; simp_all)

/-! the language's own names -/
theorem toList_eq (s : ByteArray) : s.toList = s.data.toList := Lib.toList_data s
theorem ext_list {s t : ByteArray} (h : s.data.toList = t.data.toList) : s = t := by
  cases s; cases t; simp only at h; congr; exact Array.toList_inj.1 h

end Go.Proofs.YtdkhkemllmegfaaGreatDoor


/- Which texts are the language's own names: the program's answer and the document's. -/
namespace Go.Proofs.YtdkhkemllmegfaaGreatDoor
open Go.RowKit

set_option maxRecDepth 100000 in
set_option maxHeartbeats 4000000 in
theorem own_any (s : ByteArray) (w : World) : Calls Tryz.prog 112 #[.string s] w fun e w' => e = .returned (.bool (Lx.own s.data.toList)) ∧ w = w' := by
  rw [← toList_eq]
  go_enter Tryz.func112, Tryz.ntmps112
  go_wp2
  all_goals (go_ret; refine ⟨?_, rfl⟩)
  all_goals first
    | (exfalso; simp_all only [Bool.false_eq_true]; done)
    | (show Ending.returned (.bool true) = _; refine ret_bool ?_; simp only [Lx.own, Lx.keys, List.contains_cons, Bool.or_true, Bool.true_or, *]; done)
    | (show Ending.returned (.bool false) = _; refine ret_bool ?_; simp only [Lx.own, Lx.keys, List.contains_cons, List.contains_nil, Bool.or_false, *]; done)
set_option maxRecDepth 100000 in
set_option maxHeartbeats 4000000 in
theorem rown_any (s : ByteArray) (w : World) : Calls Tryz.prog 126 #[.string s] w fun e w' => e = .returned (.bool (Lx.own s.data.toList)) ∧ w = w' := by
  rw [← toList_eq]
  go_enter Tryz.func126, Tryz.ntmps126
  go_wp2
  all_goals (go_ret; refine ⟨?_, rfl⟩)
  all_goals first
    | (exfalso; simp_all only [Bool.false_eq_true]; done)
    | (show Ending.returned (.bool true) = _; refine ret_bool ?_; simp only [Lx.own, Lx.keys, List.contains_cons, Bool.or_true, Bool.true_or, *]; done)
    | (show Ending.returned (.bool false) = _; refine ret_bool ?_; simp only [Lx.own, Lx.keys, List.contains_cons, List.contains_nil, Bool.or_false, *]; done)
end Go.Proofs.YtdkhkemllmegfaaGreatDoor


/- How many bytes come that are blanks, that are of a name, that are of a number: the program's loops and the document's. -/
namespace Go.Proofs.YtdkhkemllmegfaaGreatDoor
open Go.RowKit
theorem byte_at (s : ByteArray) (k : Nat) (h : k < s.size) : ∃ c : UInt8, s[k]'h = c ∧ s.data.toList.drop k = c :: s.data.toList.drop (k + 1) := by
  refine ⟨_, rfl, ?_⟩
  have h' : k < s.data.toList.length := by rw [Array.length_toList]; exact h
  rw [List.drop_eq_getElem_cons h']
  rfl
theorem size_len (s : ByteArray) : s.size = s.data.toList.length := by rw [Array.length_toList]; rfl
theorem drop_end (s : ByteArray) (k : Nat) (h : ¬ k < s.size) : s.data.toList.drop k = [] := by
  rw [size_len] at h; exact List.drop_eq_nil_of_le (by omega)
theorem cast_succ (k : Nat) : Value.int .i64 ((k : Int) + 1) = .int .i64 ((k + 1 : Nat) : Int) := by push_cast; rfl
theorem ret_int {k : IntKind} {a b : Int} (h : a = b) : Ending.returned (.int k a) = .returned (.int k b) := by rw [h]

set_option maxHeartbeats 1000000 in
theorem blanks_any (s : ByteArray) (w : World) (hs : s.size ≤ 1000000000000) : Calls Tryz.prog 52 #[.string s] w fun e w' => e = .returned (.int .i64 (Lx.blanks false s.data.toList : Int)) ∧ w = w' := by
  generalize hA : Lx.blanks false s.data.toList = A
  have HA := Lib.hid hA; clear hA
  go_enter Tryz.func52, Tryz.ntmps52
  go_wp2
  go_loopw [3, 4] (fun i b wr => ∃ (k : Nat) (note : Bool), k ≤ s.size ∧ i = .int .i64 (k : Int) ∧ b = .bool note ∧ A = k + Lx.blanks note (s.data.toList.drop k) ∧ w = wr) (fun i _ _ => s.size - (intOf i).toNat)
  case atStart => exact ⟨0, false, Nat.zero_le _, rfl, rfl, by simpa using HA.out.symm, rfl⟩
  case round =>
    obtain ⟨k, note, hk, rfl, rfl, hA, rfl⟩ := hrel
    clear HA
    by_cases hlt : k < s.size
    · obtain ⟨c, hc, hd⟩ := byte_at s k hlt
      rw [hd, Lx.blanks] at hA
      have hm : s.size - (intOf (Value.int IntKind.i64 ((k : Int) + 1))).toNat < s.size - (intOf (Value.int IntKind.i64 (k : Int))).toNat := by simp [intOf]; omega
      have HM := Lib.hid hm; clear hm hd
      cases h1 : (c.toNat : Int) == 10
      · cases h2 : (c.toNat : Int) == 35
        · cases h3 : Lx.blankZ (c.toNat : Int)
          · cases note
            · have hE : A = k := by rw [hA]; simp [h1, h2, h3, Lx.blank]
              subst hE; clear hA
              go_wp2_with (go_at_call 74; refine (isBlank_any _ _).mono ?_; rintro e w' ⟨rfl, rfl⟩)
              go_ret; exact ⟨rfl, rfl⟩
            · have hE : A = (k + 1) + Lx.blanks true (s.data.toList.drop (k + 1)) := by rw [hA]; simp [h1, h2, h3, Lx.blank]; omega
              have HE := Lib.hid hE; clear hA hE
              go_wp2_with (go_at_call 74; refine (isBlank_any _ _).mono ?_; rintro e w' ⟨rfl, rfl⟩)
              exact ⟨⟨k + 1, true, by omega, cast_succ k, rfl, HE.out, trivial⟩, HM.out⟩
          · cases note
            · have hE : A = (k + 1) + Lx.blanks false (s.data.toList.drop (k + 1)) := by rw [hA]; simp [h1, h2, h3, Lx.blank]; omega
              have HE := Lib.hid hE; clear hA hE
              go_wp2_with (go_at_call 74; refine (isBlank_any _ _).mono ?_; rintro e w' ⟨rfl, rfl⟩)
              exact ⟨⟨k + 1, false, by omega, cast_succ k, rfl, HE.out, trivial⟩, HM.out⟩
            · have hE : A = (k + 1) + Lx.blanks true (s.data.toList.drop (k + 1)) := by rw [hA]; simp [h1, h2, h3, Lx.blank]; omega
              have HE := Lib.hid hE; clear hA hE
              go_wp2_with (go_at_call 74; refine (isBlank_any _ _).mono ?_; rintro e w' ⟨rfl, rfl⟩)
              exact ⟨⟨k + 1, true, by omega, cast_succ k, rfl, HE.out, trivial⟩, HM.out⟩
        · have hE : A = (k + 1) + Lx.blanks true (s.data.toList.drop (k + 1)) := by rw [hA]; simp [h1, h2]; omega
          have HE := Lib.hid hE; clear hA hE
          go_wp2
          exact ⟨⟨k + 1, true, by omega, cast_succ k, rfl, HE.out, trivial⟩, HM.out⟩
      · have hE : A = (k + 1) + Lx.blanks false (s.data.toList.drop (k + 1)) := by rw [hA]; simp [h1]; omega
        have HE := Lib.hid hE; clear hA hE
        go_wp2
        exact ⟨⟨k + 1, false, by omega, cast_succ k, rfl, HE.out, trivial⟩, HM.out⟩
    · have hE : A = k := by rw [hA, drop_end s k hlt]; rfl
      subst hE; clear hA
      go_wp2
      go_ret; exact ⟨rfl, rfl⟩

set_option maxHeartbeats 1000000 in
theorem lengthOf_digit (s : ByteArray) (w : World) (hs : s.size ≤ 1000000000000) : Calls Tryz.prog 109 #[.string s, .func (.func 75) #[] #[]] w fun e w' => e = .returned (.int .i64 (Lx.span false s.data.toList : Int)) ∧ w = w' := by
  generalize hA : Lx.span false s.data.toList = A
  have HA := Lib.hid hA; clear hA
  go_enter Tryz.func109, Tryz.ntmps109
  go_wp2
  go_loopw [5] (fun i wr => ∃ (k : Nat), k ≤ s.size ∧ i = .int .i64 (k : Int) ∧ A = k + Lx.span false (s.data.toList.drop k) ∧ w = wr) (fun i _ => s.size - (intOf i).toNat)
  case atStart => exact ⟨0, Nat.zero_le _, rfl, by simpa using HA.out.symm, rfl⟩
  case round =>
    obtain ⟨k, hk, rfl, hA, rfl⟩ := hrel
    clear HA
    by_cases hlt : k < s.size
    · obtain ⟨c, hc, hd⟩ := byte_at s k hlt
      rw [hd, Lx.span] at hA
      have hm : s.size - (intOf (Value.int IntKind.i64 ((k : Int) + 1))).toNat < s.size - (intOf (Value.int IntKind.i64 (k : Int))).toNat := by simp [intOf]; omega
      have HM := Lib.hid hm; clear hm hd
      cases h1 : Lx.digitZ (c.toNat : Int)
      · have hE : A = k := by rw [hA]; simp [h1, Lx.digit]
        subst hE; clear hA
        go_wp2_with (go_at_call 75; refine (isDigit_any _ _).mono ?_; rintro e w' ⟨rfl, rfl⟩)
        go_ret; exact ⟨rfl, rfl⟩
      · have hE : A = (k + 1) + Lx.span false (s.data.toList.drop (k + 1)) := by rw [hA]; simp [h1, Lx.digit]; omega
        have HE := Lib.hid hE; clear hA hE
        go_wp2_with (go_at_call 75; refine (isDigit_any _ _).mono ?_; rintro e w' ⟨rfl, rfl⟩)
        exact ⟨⟨k + 1, by omega, cast_succ k, HE.out, trivial⟩, HM.out⟩
    · have hE : A = k := by rw [hA, drop_end s k hlt]; rfl
      subst hE; clear hA
      go_wp2
      go_ret; exact ⟨rfl, rfl⟩
set_option maxHeartbeats 1000000 in
theorem lengthOf_word (s : ByteArray) (w : World) (hs : s.size ≤ 1000000000000) : Calls Tryz.prog 109 #[.string s, .func (.func 111) #[] #[]] w fun e w' => e = .returned (.int .i64 (Lx.span true s.data.toList : Int)) ∧ w = w' := by
  generalize hA : Lx.span true s.data.toList = A
  have HA := Lib.hid hA; clear hA
  go_enter Tryz.func109, Tryz.ntmps109
  go_wp2
  go_loopw [5] (fun i wr => ∃ (k : Nat), k ≤ s.size ∧ i = .int .i64 (k : Int) ∧ A = k + Lx.span true (s.data.toList.drop k) ∧ w = wr) (fun i _ => s.size - (intOf i).toNat)
  case atStart => exact ⟨0, Nat.zero_le _, rfl, by simpa using HA.out.symm, rfl⟩
  case round =>
    obtain ⟨k, hk, rfl, hA, rfl⟩ := hrel
    clear HA
    by_cases hlt : k < s.size
    · obtain ⟨c, hc, hd⟩ := byte_at s k hlt
      rw [hd, Lx.span] at hA
      have hm : s.size - (intOf (Value.int IntKind.i64 ((k : Int) + 1))).toNat < s.size - (intOf (Value.int IntKind.i64 (k : Int))).toNat := by simp [intOf]; omega
      have HM := Lib.hid hm; clear hm hd
      cases h1 : (Lx.letterZ (c.toNat : Int) || Lx.digitZ (c.toNat : Int))
      · have hE : A = k := by rw [hA]; simp only [Bool.or_eq_false_iff] at h1; simp [h1, Lx.digit, Lx.letter]
        subst hE; clear hA
        go_wp2_with (go_at_call 111; refine (isWord_any _ _).mono ?_; rintro e w' ⟨rfl, rfl⟩)
        go_ret; exact ⟨rfl, rfl⟩
      · have hE : A = (k + 1) + Lx.span true (s.data.toList.drop (k + 1)) := by rw [hA, if_pos (by rw [Bool.or_comm] at h1; simpa [Lx.digit, Lx.letter] using h1)]; omega
        have HE := Lib.hid hE; clear hA hE
        go_wp2_with (go_at_call 111; refine (isWord_any _ _).mono ?_; rintro e w' ⟨rfl, rfl⟩)
        exact ⟨⟨k + 1, by omega, cast_succ k, HE.out, trivial⟩, HM.out⟩
    · have hE : A = k := by rw [hA, drop_end s k hlt]; rfl
      subst hE; clear hA
      go_wp2
      go_ret; exact ⟨rfl, rfl⟩

set_option maxHeartbeats 1000000 in
theorem rlong_any (s : ByteArray) (name : Bool) (w : World) (hs : s.size ≤ 1000000000000) : Calls Tryz.prog 125 #[.string s, .bool name] w fun e w' => e = .returned (.int .i64 (Lx.span name s.data.toList : Int)) ∧ w = w' := by
  generalize hA : Lx.span name s.data.toList = A
  have HA := Lib.hid hA; clear hA
  go_enter Tryz.func125, Tryz.ntmps125
  go_wp2
  go_loopw [5] (fun i wr => ∃ (k : Nat), k ≤ s.size ∧ i = .int .i64 (k : Int) ∧ A = k + Lx.span name (s.data.toList.drop k) ∧ w = wr) (fun i _ => s.size - (intOf i).toNat)
  case atStart => exact ⟨0, Nat.zero_le _, rfl, by simpa using HA.out.symm, rfl⟩
  case round =>
    obtain ⟨k, hk, rfl, hA, rfl⟩ := hrel
    clear HA
    by_cases hlt : k < s.size
    · obtain ⟨c, hc, hd⟩ := byte_at s k hlt
      rw [hd, Lx.span] at hA
      have hm : s.size - (intOf (Value.int IntKind.i64 ((k : Int) + 1))).toNat < s.size - (intOf (Value.int IntKind.i64 (k : Int))).toNat := by simp [intOf]; omega
      have HM := Lib.hid hm; clear hm hd
      cases h1 : Lx.letterZ (c.toNat : Int)
      · cases h2 : Lx.digitZ (c.toNat : Int)
        · have hE : A = k := by rw [hA]; simp [h1, h2, Lx.digit, Lx.letter]
          subst hE; clear hA
          cases name
          all_goals
            go_wp2_with (first | (go_at_call 123; refine (rletter_any _ _).mono ?_; rintro e w' ⟨rfl, rfl⟩) | (go_at_call 124; refine (rdigit_any _ _).mono ?_; rintro e w' ⟨rfl, rfl⟩))
            go_ret; exact ⟨rfl, rfl⟩
        · have hE : A = (k + 1) + Lx.span name (s.data.toList.drop (k + 1)) := by rw [hA]; simp [h1, h2, Lx.digit, Lx.letter]; omega
          have HE := Lib.hid hE; clear hA hE
          cases name
          all_goals
            go_wp2_with (first | (go_at_call 123; refine (rletter_any _ _).mono ?_; rintro e w' ⟨rfl, rfl⟩) | (go_at_call 124; refine (rdigit_any _ _).mono ?_; rintro e w' ⟨rfl, rfl⟩))
            exact ⟨⟨k + 1, by omega, cast_succ k, HE.out, trivial⟩, HM.out⟩
      · cases h2 : Lx.digitZ (c.toNat : Int)
        · cases name
          · have hE : A = k := by rw [hA]; simp [h1, h2, Lx.digit, Lx.letter]
            subst hE; clear hA
            go_wp2_with (first | (go_at_call 123; refine (rletter_any _ _).mono ?_; rintro e w' ⟨rfl, rfl⟩) | (go_at_call 124; refine (rdigit_any _ _).mono ?_; rintro e w' ⟨rfl, rfl⟩))
            go_ret; exact ⟨rfl, rfl⟩
          · have hE : A = (k + 1) + Lx.span true (s.data.toList.drop (k + 1)) := by rw [hA]; simp [h1, h2, Lx.digit, Lx.letter]; omega
            have HE := Lib.hid hE; clear hA hE
            go_wp2_with (first | (go_at_call 123; refine (rletter_any _ _).mono ?_; rintro e w' ⟨rfl, rfl⟩) | (go_at_call 124; refine (rdigit_any _ _).mono ?_; rintro e w' ⟨rfl, rfl⟩))
            exact ⟨⟨k + 1, by omega, cast_succ k, HE.out, trivial⟩, HM.out⟩
        · have hE : A = (k + 1) + Lx.span name (s.data.toList.drop (k + 1)) := by rw [hA]; simp [h1, h2, Lx.digit, Lx.letter]; omega
          have HE := Lib.hid hE; clear hA hE
          cases name
          all_goals
            go_wp2_with (first | (go_at_call 123; refine (rletter_any _ _).mono ?_; rintro e w' ⟨rfl, rfl⟩) | (go_at_call 124; refine (rdigit_any _ _).mono ?_; rintro e w' ⟨rfl, rfl⟩))
            exact ⟨⟨k + 1, by omega, cast_succ k, HE.out, trivial⟩, HM.out⟩
    · have hE : A = k := by rw [hA, drop_end s k hlt]; rfl
      subst hE; clear hA
      go_wp2
      go_ret; exact ⟨rfl, rfl⟩
end Go.Proofs.YtdkhkemllmegfaaGreatDoor


/- Where a piece of text ends that begins at a place: behind, at every piece that is UTF-8. -/
namespace Go.Proofs.YtdkhkemllmegfaaGreatDoor
open Go.RowKit

theorem getD_drop (s : ByteArray) (pos i : Nat) : s.get! (pos + i) = (s.data.toList.drop pos).getD i 0 := by
  rw [List.getD_eq_getElem?_getD, List.getElem?_drop]
  show s.data[pos + i]! = _
  rw [getElem!_def, ← Array.getElem?_toList]
  cases s.data.toList[pos + i]? <;> rfl
theorem decode_dec (s : ByteArray) (pos : Nat) : Utf8.decode s pos = Lx.dec (s.data.toList.drop pos) := by
  rw [Lib.decode_at, Lx.dec, ← getD_drop, ← getD_drop, ← getD_drop, ← getD_drop, List.length_drop, ← size_len]
  rfl

structure PAt (w0 : World) (s : ByteArray) (pos : Nat) (p : Lx.Pos) (wr : World) : Prop where
  c0 : wr.cell? ⟨w0.heap.size, 0, none⟩ = some (.int .i64 p.line)
  c1 : wr.cell? ⟨w0.heap.size, 1, none⟩ = some (.int .i64 p.col)
  r0 : wr.cell? ⟨w0.heap.size + 1, 0, none⟩ = some (.int .i64 0)
  r1 : wr.cell? ⟨w0.heap.size + 1, 1, none⟩ = some (.int .i64 0)
  fz : ∀ i, wr.frozen? ⟨w0.heap.size, i, none⟩ = false
  gz : ∀ i, wr.frozen? ⟨w0.heap.size + 1, i, none⟩ = false
  it : wr.heap[w0.heap.size + 1 + 1]? = some (.stringIter s pos)
  bl : Below w0.heap.size w0 wr

theorem iter_cell (w : World) (k : Nat) (s : ByteArray) (pos : Nat) (b i : Nat) (h : b ≠ k) : (w.iterAt k s pos).cell? ⟨b, i, none⟩ = w.cell? ⟨b, i, none⟩ :=
  World.cell?_of_block (Lib.iterAt_other w k b s pos h)
theorem iter_frozen (w : World) (k : Nat) (s : ByteArray) (pos : Nat) (b i : Nat) (h : b ≠ k) : (w.iterAt k s pos).frozen? ⟨b, i, none⟩ = w.frozen? ⟨b, i, none⟩ :=
  World.frozen?_of_block (Lib.iterAt_other w k b s pos h)
theorem PAt.next {w0 : World} {s : ByteArray} {pos : Nat} {p : Lx.Pos} {wr : World} (h : PAt w0 s pos p wr) (pos' : Nat) : PAt w0 s pos' p (wr.iterAt (w0.heap.size + 1 + 1) s pos') :=
  ⟨by rw [iter_cell _ _ _ _ _ _ (by omega)]; exact h.c0, by rw [iter_cell _ _ _ _ _ _ (by omega)]; exact h.c1, by rw [iter_cell _ _ _ _ _ _ (by omega)]; exact h.r0, by rw [iter_cell _ _ _ _ _ _ (by omega)]; exact h.r1,
   fun i => by rw [iter_frozen _ _ _ _ _ _ (by omega)]; exact h.fz i, fun i => by rw [iter_frozen _ _ _ _ _ _ (by omega)]; exact h.gz i, Lib.iterAt_heap _ _ _ _ _ h.it, Lib.below_iterAt h.bl (by omega) _ _⟩
theorem PAt.col {w0 : World} {s : ByteArray} {pos : Nat} {p : Lx.Pos} {wr : World} (h : PAt w0 s pos p wr) (c : Int) : PAt w0 s pos ⟨p.line, c⟩ (wr.setCell ⟨w0.heap.size, 1, none⟩ (.int .i64 c)) :=
  ⟨by rw [World.cell?_setCell_other _ _ _ _ (by simp)]; exact h.c0, World.cell?_setCell_same _ _ _ h.c1, by rw [World.cell?_setCell_other _ _ _ _ (by simp)]; exact h.r0, by rw [World.cell?_setCell_other _ _ _ _ (by simp)]; exact h.r1,
   fun i => by simpa using h.fz i, fun i => by simpa using h.gz i, by rw [Below.heap_setCell _ _ _ _ (by simp; omega)]; exact h.it, h.bl.setCell (by simp) _⟩
theorem PAt.line {w0 : World} {s : ByteArray} {pos : Nat} {p : Lx.Pos} {wr : World} (h : PAt w0 s pos p wr) (c : Int) : PAt w0 s pos ⟨c, p.col⟩ (wr.setCell ⟨w0.heap.size, 0, none⟩ (.int .i64 c)) :=
  ⟨World.cell?_setCell_same _ _ _ h.c0, by rw [World.cell?_setCell_other _ _ _ _ (by simp)]; exact h.c1, by rw [World.cell?_setCell_other _ _ _ _ (by simp)]; exact h.r0, by rw [World.cell?_setCell_other _ _ _ _ (by simp)]; exact h.r1,
   fun i => by simpa using h.fz i, fun i => by simpa using h.gz i, by rw [Below.heap_setCell _ _ _ _ (by simp; omega)]; exact h.it, h.bl.setCell (by simp) _⟩

def pv (p : Lx.Pos) : Value := .agg #[.int .i64 p.line, .int .i64 p.col]

set_option maxHeartbeats 2000000 in
theorem behind_any (s : ByteArray) (p0 : Lx.Pos) (w : World) (hs : s.size ≤ 1000000000000) (hv : Lx.Valid s.data.toList) (hl0 : 0 ≤ p0.line) (hl1 : p0.line ≤ 1000000000000) (hc0 : 0 ≤ p0.col) (hc1 : p0.col ≤ 1000000000000) :
    Calls Tryz.prog 51 #[.agg #[.int .i64 p0.line, .int .i64 p0.col], .string s] w fun e w' => e = .returned (.agg #[.int .i64 (Lx.adv p0 s.data.toList).line, .int .i64 (Lx.adv p0 s.data.toList).col]) ∧ Below w.heap.size w w' := by
  generalize hT : Lx.adv p0 s.data.toList = T
  have HT := Lib.hid hT; clear hT
  have HV := Lib.hid hv; clear hv
  go_enter Tryz.func51, Tryz.ntmps51
  have hP0 : PAt w s 0 p0 (((w.alloc (.cells #[.int .i64 p0.line, .int .i64 p0.col] 37)).alloc (.cells #[.int .i64 0, .int .i64 0] 37)).iter s 0) := by
    refine ⟨by simp [World.iter, go_sem], by simp [World.iter, go_sem], by simp [World.iter, go_sem], by simp [World.iter, go_sem], fun i => by simp [World.iter, go_sem], fun i => by simp [World.iter, go_sem], ?_, ?_⟩
    · simpa using World.iter_heap ((w.alloc (.cells #[.int .i64 p0.line, .int .i64 p0.col] 37)).alloc (.cells #[.int .i64 0, .int .i64 0] 37)) s 0
    · exact (((Below.refl _ w).alloc (Nat.le_refl _) _).alloc (by simp) _).alloc (by simp; omega) _
  go_wp2
  generalize ((w.alloc (.cells #[.int .i64 p0.line, .int .i64 p0.col] 37)).alloc (.cells #[.int .i64 0, .int .i64 0] 37)).iter s 0 = w1 at *
  go_loopw [6] (fun _ wr => ∃ (pos : Nat) (p : Lx.Pos), PAt w s pos p wr ∧ pos ≤ s.size ∧ Lx.Valid (s.data.toList.drop pos) ∧ T = Lx.adv p (s.data.toList.drop pos) ∧ 0 ≤ p.line ∧ p.line ≤ 1000000000000 + pos ∧ 0 ≤ p.col ∧ p.col ≤ 1000000000000 + pos) (fun _ wr => s.size - wr.iterPos (w.heap.size + 1 + 1))
  case atStart =>
    exact ⟨0, p0, hP0, Nat.zero_le _, HV.out, by simpa using HT.out.symm, hl0, by omega, hc0, by omega⟩
  case round =>
    obtain ⟨pos, p, hP, hpos, hv, hT, b1, b2, b3, b4⟩ := hrel
    have HV2 := Lib.hid hv; clear hv
    have HT2 := Lib.hid hT; clear hT HT HV hP0
    by_cases hp : pos < s.size
    · have hnx : ∀ ty, (Instr.next (.pointer (some ⟨w.heap.size + 1 + 1, 0, none⟩)) true ty).run Tryz.prog wr = _ := fun ty => Lib.run_next_any_at wr (w.heap.size + 1 + 1) s pos ty hP.it hp
      have hne : s.data.toList.drop pos ≠ [] := by
        intro h; have := congrArg List.length h; rw [List.length_drop, ← size_len] at this; simp at this; omega
      have hpp := HV2.out.pos hne
      have F := Lx.point_facts _ hne hpp
      have hA := Lx.adv_point p _ hne hpp
      have hlen := F.le
      rw [List.length_drop, ← size_len] at hlen
      have hd2 : (Utf8.decode s pos).2 = Lx.point (s.data.toList.drop pos) := by rw [decode_dec, F.two]
      have hd1 := decode_le s pos
      rw [decode_dec] at hd1 hd2
      have hrest := HV2.out.rest hne
      rw [List.drop_drop] at hrest
      have hTn : T = Lx.adv (Lx.adv p ((s.data.toList.drop pos).take (Lx.point (s.data.toList.drop pos)))) (s.data.toList.drop (pos + Lx.point (s.data.toList.drop pos))) := by
        rw [← List.drop_drop, ← Lx.adv_append, List.take_append_drop]; exact HT2.out
      rw [hA] at hTn
      have hit := hP.it
      rw [decode_dec s pos] at hnx
      generalize Lx.point (s.data.toList.drop pos) = K at *
      rw [hd2] at hnx
      generalize (Lx.dec (s.data.toList.drop pos)).1 = R at *
      clear F hA hne HT2
      have hP2 := hP.next (pos + K)
      have hms : s.size - (pos + K) < s.size - wr.iterPos (w.heap.size + 1 + 1) := by
        simp only [World.iterPos, hit]; omega
      have HMS := Lib.hid hms; clear hms
      have HTN := Lib.hid hTn; clear hTn
      have HR := Lib.hid hrest; clear hrest
      clear hd2 hit
      generalize wr.iterAt (w.heap.size + 1 + 1) s (pos + K) = w2 at *
      have c0 := hP2.c0; have c1 := hP2.c1; have f0 := hP2.fz 0; have f1 := hP2.fz 1
      cases hR : ((R : Int) == 10)
      · go_wp2
        go_roundw
        case rel =>
          refine ⟨pos + K, ⟨p.line, p.col + 1⟩, hP2.col _, by omega, HR.out, ?_, b1, by show p.line ≤ _; omega, by show 0 ≤ p.col + 1; omega, by show p.col + 1 ≤ _; omega⟩
          rw [HTN.out, hR]; rfl
        case measure =>
          have h := HMS.out
          have := (hP2.col (p.col + 1)).it
          simp only [World.iterPos, this] at h ⊢
          exact h
      · go_wp2
        go_roundw
        case rel =>
          refine ⟨pos + K, ⟨p.line + 1, 1⟩, (hP2.line _).col _, by omega, HR.out, ?_, by show 0 ≤ p.line + 1; omega, by show p.line + 1 ≤ _; omega, by show (0 : Int) ≤ 1; omega, by show (1 : Int) ≤ _; omega⟩
          rw [HTN.out, hR]; rfl
        case measure =>
          have h := HMS.out
          have := ((hP2.line (p.line + 1)).col 1).it
          simp only [World.iterPos, this] at h ⊢
          exact h
    · have hnx : ∀ ty, (Instr.next (.pointer (some ⟨w.heap.size + 1 + 1, 0, none⟩)) true ty).run Tryz.prog wr = _ := fun ty => Lib.run_next_end_at wr (w.heap.size + 1 + 1) s pos ty hP.it hp
      have hT := HT2.out
      rw [drop_end s pos hp, Lx.adv_nil] at hT
      subst hT
      have c0 := hP.c0; have c1 := hP.c1; have r0 := hP.r0; have r1 := hP.r1; have g0 := hP.gz 0; have g1 := hP.gz 1
      have bl := hP.bl
      clear HT2 HV2 hP
      go_wp2
      refine bodyPost_ret (v := .agg #[.int .i64 T.line, .int .i64 T.col]) ?_ rfl ⟨rfl, (bl.setCell (by simp) _).setCell (by simp) _⟩
      simp [results, Tryz.results51, go_sem, r0, r1]
end Go.Proofs.YtdkhkemllmegfaaGreatDoor
