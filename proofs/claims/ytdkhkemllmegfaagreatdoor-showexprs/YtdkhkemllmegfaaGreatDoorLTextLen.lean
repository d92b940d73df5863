/- How many bytes of a text are UTF-8 from its beginning on: lengthOfText; and what pieces of a text hold. -/
import Derived.Test.YtdkhkemllmegfaaGreatDoorLBehind
import Derived.Test.YtdkhkemllmegfaaGreatDoorShelf
namespace Go.Proofs.YtdkhkemllmegfaaGreatDoor
open Go.RowKit

theorem tail_list (s : ByteArray) (k : Nat) : (s.extract k s.size).data.toList = s.data.toList.drop k := by
  rw [← toList_eq, Lib.extract_toList, List.take_of_length_le]
  rw [List.length_drop, ← size_len]; omega
theorem head_list (s : ByteArray) (k : Nat) : (s.extract 0 k).data.toList = s.data.toList.take k := by
  rw [← toList_eq, Lib.extract_toList]; simp
theorem tail_sz (s : ByteArray) (k : Nat) : (s.extract k s.size).size = s.size - k := by
  rw [size_len, tail_list, List.length_drop, ← size_len]
theorem head_sz (s : ByteArray) (k : Nat) (h : k ≤ s.size) : (s.extract 0 k).size = k := by
  rw [size_len, head_list, List.length_take, ← size_len]; omega
theorem decodeGo_dec (s : ByteArray) (h : s.size ≠ 0) : Lib.decodeGo s = Lx.dec s.data.toList := by
  rw [Lib.decodeGo, if_neg h, decode_dec]; rfl

theorem dec_le (l : Lx.B) : (Lx.dec l).2 ≤ 4 := by
  unfold Lx.dec Lib.decodeN
  repeat' split
  all_goals simp

set_option maxHeartbeats 2000000 in
theorem textlen_any (s : ByteArray) (w : World) (hs : s.size ≤ 1000000000000) (hT : Lib.Utf8Tabs 1 2 w) :
    Calls Tryz.prog 50 #[.string s] w fun e w' => e = .returned (.int .i64 (Lx.vlen (s.data.toList.length + 1) s.data.toList : Int)) ∧ Below w.heap.size w w' := by
  generalize hA : Lx.vlen (s.data.toList.length + 1) s.data.toList = A
  have HA := Lib.hid hA; clear hA
  have HU := Lib.hid hT; clear hT
  go_enter Tryz.func50, Tryz.ntmps50
  go_wp2
  go_loopw [3] (fun i wr => ∃ (k f : Nat), k ≤ s.size ∧ i = .int .i64 (k : Int) ∧ A = k + Lx.vlen f (s.data.toList.drop k) ∧ s.size - k < f ∧ Below w.heap.size w wr) (fun i _ => s.size - (intOf i).toNat)
  case atStart => exact ⟨0, s.data.toList.length + 1, Nat.zero_le _, rfl, by simpa using HA.out.symm, by rw [← size_len]; omega, Below.refl _ _⟩
  case round =>
    obtain ⟨k, f, hk, rfl, hA, hf, hb⟩ := hrel
    clear HA
    obtain ⟨f, rfl⟩ : ∃ g, f = g + 1 := ⟨f - 1, by omega⟩
    rw [Lx.vlen] at hA
    by_cases hlt : k < s.size
    · have hne : s.data.toList.drop k ≠ [] := by
        intro h; have := congrArg List.length h; rw [List.length_drop, ← size_len] at this; simp at this; omega
      have hd := decodeGo_dec (s.extract k s.size) (by rw [tail_sz]; omega)
      rw [tail_list] at hd
      have hpt : Lx.point (s.data.toList.drop k) = if Lx.dec (s.data.toList.drop k) = (65533, 1) then 0 else (Lx.dec (s.data.toList.drop k)).2 := rfl
      have hle := dec_le (s.data.toList.drop k)
      by_cases hbad : Lx.point (s.data.toList.drop k) = 0
      · rw [if_pos (.inr hbad)] at hA
        have hE : A = k := by omega
        have hdd : Lx.dec (s.data.toList.drop k) = (65533, 1) := by
          rcases Decidable.em (Lx.dec (s.data.toList.drop k) = (65533, 1)) with h | h
          · exact h
          · have h2 : (Lx.dec (s.data.toList.drop k)).2 = 0 := by rw [if_neg h] at hpt; omega
            exfalso
            have := Lx.decN_facts _ _ _ _ _ (by have := hne; cases h' : s.data.toList.drop k; exact absurd h' this; simp) (Lx.getD_lt _ 0) (Lx.getD_lt _ 1) (Lx.getD_lt _ 2) (Lx.getD_lt _ 3) h
            have h1 : 1 ≤ (Lx.dec (s.data.toList.drop k)).2 := this.1
            omega
        subst hE
        have cD := Tryz.utf8_DecodeRuneInString (s.extract A s.size) wr (Utf8Tabs_below HU.out hb)
        rw [hd, hdd] at cD
        have CD := Lib.hid cD; have HB := Lib.hid hb
        clear cD hA hd hdd hpt hle hbad hb hf
        go_wp2_with fail
        refine CD.out.mono ?_
        rintro e w' ⟨rfl, hb2⟩
        go_wp2
        go_ret; exact ⟨rfl, HB.out.trans (hb2.mono HB.out.size)⟩
      · rw [if_neg (by rintro (h | h); exact hne h; exact hbad h), List.drop_drop] at hA
        have F := Lx.point_facts _ hne (by omega)
        have hlen := F.le
        rw [List.length_drop, ← size_len] at hlen
        have htwo := F.two
        have hnd : ¬ Lx.dec (s.data.toList.drop k) = (65533, 1) := by intro h; rw [if_pos h] at hpt; exact hbad hpt
        have cD := Tryz.utf8_DecodeRuneInString (s.extract k s.size) wr (Utf8Tabs_below HU.out hb)
        rw [hd, ← htwo] at cD
        have hnd2 : ¬ ((Lx.dec (s.data.toList.drop k)).1 = 65533 ∧ Lx.point (s.data.toList.drop k) = 1) := by
          rintro ⟨h1, h2⟩; exact hnd (Prod.ext h1 (by rw [← htwo]; exact h2))
        generalize Lx.point (s.data.toList.drop k) = K at *
        generalize (Lx.dec (s.data.toList.drop k)).1 = R at *
        have CD := Lib.hid cD; have HB := Lib.hid hb; have HE := Lib.hid hA
        clear cD hA hd hpt hnd hb F htwo hle
        have hm : s.size - (intOf (Value.int IntKind.i64 ((k : Int) + K))).toNat < s.size - (intOf (Value.int IntKind.i64 (k : Int))).toNat := by simp [intOf]; omega
        have HM := Lib.hid hm; clear hm
        go_wp2_with fail
        refine CD.out.mono ?_
        rintro e w' ⟨rfl, hb2⟩
        cases hR : ((R : Int) == 65533)
        · go_wp2
          exact ⟨⟨k + K, f, by omega, by push_cast; rfl, by rw [HE.out]; omega, by omega, HB.out.trans (hb2.mono HB.out.size)⟩, HM.out⟩
        · have hK : ((K : Int) == 1) = false := by
            have : (R : Int) = 65533 := by simpa using hR
            have : K ≠ 1 := fun h => hnd2 ⟨by omega, h⟩
            simp; omega
          clear hnd2
          go_wp2
          exact ⟨⟨k + K, f, by omega, by push_cast; rfl, by rw [HE.out]; omega, by omega, HB.out.trans (hb2.mono HB.out.size)⟩, HM.out⟩
    · rw [if_pos (.inl (drop_end s k hlt))] at hA
      have hE : A = k := by omega
      subst hE; clear hA
      have HB := Lib.hid hb; clear hb hf
      go_wp2
      go_ret; exact ⟨rfl, HB.out⟩
end Go.Proofs.YtdkhkemllmegfaaGreatDoor
