/- The law: so many exceptions, and so many mains. -/
import Derived.Test.YtnobamncenokdaaGreatDoorLive6
import Derived.Test.YtnobamncenokdaaGreatDoorFamR
namespace Go.Proofs.YtnobamncenokdaaGreatDoor
open Go.RowKit Tn Lx

def rp (b c : ByteArray) : Nat → ByteArray
  | 0 => b
  | k + 1 => rp b c k ++ c
theorem rp_size (b c : ByteArray) : ∀ k, (rp b c k).size = b.size + k * c.size
  | 0 => by simp [rp]
  | k + 1 => by rw [rp, ByteArray.size_append, rp_size b c k, Nat.succ_mul]; omega
theorem rp_le (b c : ByteArray) {k : Nat} (hb : b.size ≤ 10000) (hc : c.size ≤ 13) (hk : k ≤ 255) : (rp b c k).size ≤ 20000 := by
  have := Nat.mul_le_mul hk hc
  rw [rp_size]; omega
theorem rp_list (b c : ByteArray) : ∀ k, (rp b c k).data.toList = b.data.toList ++ (List.replicate k c.data.toList).flatten
  | 0 => by simp [rp]
  | k + 1 => by rw [rp, ByteArray.data_append, Array.toList_append, rp_list b c k, List.replicate_succ', List.flatten_concat, List.append_assoc]
theorem xMn_flat : ∀ m, xMn m = (List.replicate m lMn).flatten
  | 0 => rfl
  | m + 1 => by rw [xMn, xMn_flat m, List.replicate_succ, List.flatten_cons]
theorem xEx_flat (m : Nat) : ∀ n, xEx m n = (List.replicate n lEx).flatten ++ xMn m
  | 0 => rfl
  | n + 1 => by rw [xEx, xEx_flat m n, List.replicate_succ, List.flatten_cons, List.append_assoc]
abbrev bEx : ByteArray := ⟨#[101, 120, 99, 101, 112, 116, 105, 111, 110, 32, 69, 59, 10]⟩
abbrev bMn : ByteArray := ⟨#[109, 97, 105, 110, 32, 61, 32, 49, 59, 10]⟩
theorem text_fam (n m : Nat) : (rp (rp ⟨#[]⟩ bEx n) bMn m).data.toList = xEx m n := by
  rw [rp_list, rp_list, xEx_flat, xMn_flat]; rfl

set_option maxRecDepth 100000 in
set_option maxHeartbeats 8000000 in
theorem counts_any (n m : Nat) (hn : n ≤ 255) (hm : m ≤ 255) (w : World) (hT : Lib.Utf8Tabs 1 2 w) (hg : ErrT w) : Calls Tryz.prog 3 #[.int .u8 n, .int .u8 m] w fun e w' => e = .returned (.bool true) ∧ Below w.heap.size w w' := by
  have HL := Lib.hid (live6_any w hT hg); have HT := Lib.hid hT; have HG := Lib.hid hg
  clear hT hg
  obtain ⟨r, hr4, hr3⟩ : ∃ r : Nat, (m : Int) % 4 = (r : Int) ∧ r ≤ 3 := ⟨m % 4, by omega, by omega⟩
  go_enter Tryz.func3, Tryz.ntmps3
  go_wp2_with fail
  refine HL.out.mono ?_
  rintro e w1 ⟨rfl, hb1⟩
  have HB1 := Lib.hid hb1
  clear hb1 HL
  go_wp2_with fail
  go_loopw [5, 12] (fun a i wr => ∃ k : Nat, k ≤ n ∧ i = .int .u8 (k : Int) ∧ a = .string (rp ⟨#[]⟩ bEx k) ∧ wr = w1) (fun _ i _ => n - (intOf i).toNat)
  case atStart => exact ⟨0, Nat.zero_le _, rfl, rfl, rfl⟩
  case round =>
    obtain ⟨k, hk, rfl, rfl, rfl⟩ := hrel
    have z1 := rp_le ⟨#[]⟩ bEx (k := k) (by decide) (by decide) (by omega)
    by_cases hlt : k < n
    · have hms : n - (intOf (Value.int IntKind.u8 ((k : Int) + 1))).toNat < n - (intOf (Value.int IntKind.u8 (k : Int))).toNat := by simp [intOf]; omega
      have HMS := Lib.hid hms
      clear hms
      go_wp2
      exact ⟨⟨k + 1, by omega, by go_num, rfl, trivial⟩, HMS.out⟩
    · obtain rfl : k = n := by omega
      clear hk hlt
      go_wp2_with fail
      go_loopw [5, 19] (fun a i wr' => ∃ j : Nat, j ≤ r ∧ i = .int .u8 (j : Int) ∧ a = .string (rp (rp ⟨#[]⟩ bEx k) bMn j) ∧ wr' = wr) (fun _ i _ => r - (intOf i).toNat)
      case atStart => exact ⟨0, Nat.zero_le _, rfl, rfl, rfl⟩
      case round =>
        obtain ⟨j, hj, rfl, rfl, rfl⟩ := hrel
        have z2 : (rp (rp ⟨#[]⟩ bEx k) bMn j).size ≤ 20000 := by
          rw [rp_size, rp_size, show bMn.size = 10 from rfl, show bEx.size = 13 from rfl, show (⟨#[]⟩ : ByteArray).size = 0 from rfl]; omega
        by_cases hlt : j < r
        · have hms : r - (intOf (Value.int IntKind.u8 ((j : Int) + 1))).toNat < r - (intOf (Value.int IntKind.u8 (j : Int))).toNat := by simp [intOf]; omega
          have HMS := Lib.hid hms
          clear hms
          go_wp2
          exact ⟨⟨j + 1, by omega, by go_num, rfl, trivial⟩, HMS.out⟩
        · obtain rfl : j = r := by omega
          clear hj hlt
          have tx := text_fam k j
          have wh := whole_fam k j hn hr3
          rw [← tx] at wh
          have hP := fun (hne : Pg.all (yEx j 1 k) 20 300 0 Pg.st0 ⟨0, []⟩ ≠ .out) => pparse_any 20 (by omega) 300 (rp (rp ⟨#[]⟩ bEx k) bMn j) (yEx j 1 k) _ (by omega) (Utf8Tabs_below HT.out HB1.out) (HG.out.below HB1.out HG.out.lt) wh hne
          generalize rp (rp ⟨#[]⟩ bEx k) bMn j = tt at *
          have HP := Lib.hid hP
          clear hP wh tx z1 z2
          by_cases h1 : 100 < k
          · have e : Pg.all (yEx j 1 k) 20 300 0 Pg.st0 ⟨0, []⟩ = .bad 6 ⟨101, 1⟩ [] := Pg.fam_limit h1
            have hp := HP.out (by rw [e]; exact fun e => by cases e)
            rw [e] at hp
            have HPP := Lib.hid hp
            clear hp e HP
            go_wp2_with fail
            refine HPP.out.mono ?_
            rintro e w2 ⟨hb2, ⟨g, s, c, q, pp, v1, v4, he, _⟩ | ⟨cd, p, nm, he, rfl⟩⟩
            · cases he
            injection he with e1 e2 e3
            subst e1 e2 e3
            have hB2 := HB1.out.trans (hb2.mono HB1.out.size)
            have hB3 := fun o => hB2.alloc hB2.size o
            have HB3 := Lib.hid hB3
            clear hb2 HPP hB2 hB3
            unfold dvalN
            go_wp2_with fail
            refine (wrong_n _ _ _ _ _ (HG.out.below (HB3.out _) HG.out.lt)).mono ?_
            rintro e w3 ⟨rfl, hb3⟩
            have HB4 := Lib.hid ((HB3.out _).trans (hb3.mono (HB3.out _).size))
            clear hb3
            go_wp2
            go_ret
            exact ⟨rfl, HB4.out⟩
          by_cases h2 : j = 0
          · have e : Pg.all (yEx j 1 k) 20 300 0 Pg.st0 ⟨0, []⟩ = .bad 16 ⟨(k : Int) + 1, 1⟩ Pg.wMain := Pg.fam_missing (by omega) h2
            have hp := HP.out (by rw [e]; exact fun e => by cases e)
            rw [e] at hp
            have HPP := Lib.hid hp
            clear hp e HP
            go_wp2_with fail
            refine HPP.out.mono ?_
            rintro e w2 ⟨hb2, ⟨g, s, c, q, pp, v1, v4, he, _⟩ | ⟨cd, p, nm, he, rfl⟩⟩
            · cases he
            injection he with e1 e2 e3
            subst e1 e2 e3
            have hB2 := HB1.out.trans (hb2.mono HB1.out.size)
            have hB3 := fun o => hB2.alloc hB2.size o
            have HB3 := Lib.hid hB3
            clear hb2 HPP hB2 hB3
            unfold dvalN
            go_wp2_with fail
            refine (wrong_n _ _ _ _ _ (HG.out.below (HB3.out _) HG.out.lt)).mono ?_
            rintro e w3 ⟨rfl, hb3⟩
            have HB4 := Lib.hid ((HB3.out _).trans (hb3.mono (HB3.out _).size))
            clear hb3
            go_wp2
            go_ret
            exact ⟨rfl, HB4.out⟩
          by_cases h3 : k = 100
          · have e : Pg.all (yEx j 1 k) 20 300 0 Pg.st0 ⟨0, []⟩ = .bad 6 ⟨101, 1⟩ [] := Pg.fam_full h3 (by omega)
            have hp := HP.out (by rw [e]; exact fun e => by cases e)
            rw [e] at hp
            have HPP := Lib.hid hp
            clear hp e HP
            go_wp2_with fail
            refine HPP.out.mono ?_
            rintro e w2 ⟨hb2, ⟨g, s, c, q, pp, v1, v4, he, _⟩ | ⟨cd, p, nm, he, rfl⟩⟩
            · cases he
            injection he with e1 e2 e3
            subst e1 e2 e3
            have hB2 := HB1.out.trans (hb2.mono HB1.out.size)
            have hB3 := fun o => hB2.alloc hB2.size o
            have HB3 := Lib.hid hB3
            clear hb2 HPP hB2 hB3
            unfold dvalN
            go_wp2_with fail
            refine (wrong_n _ _ _ _ _ (HG.out.below (HB3.out _) HG.out.lt)).mono ?_
            rintro e w3 ⟨rfl, hb3⟩
            have HB4 := Lib.hid ((HB3.out _).trans (hb3.mono (HB3.out _).size))
            clear hb3
            go_wp2
            go_ret
            exact ⟨rfl, HB4.out⟩
          by_cases h4 : j = 1
          · obtain ⟨E, s0, hE, e0⟩ := Pg.fam_ok (n := k) (m := j) (N := 12) (by omega) h4
            have e : Pg.all (yEx j 1 k) 20 300 0 Pg.st0 ⟨0, []⟩ = .ok ⟨[], E, Pg.wMain, ⟨1 + k, 1⟩, 0⟩ s0 := e0
            have hp := HP.out (by rw [e]; exact fun e => by cases e)
            rw [e] at hp
            have HPP := Lib.hid hp
            clear hp e HP e0
            go_wp2_with fail
            refine HPP.out.mono ?_
            rintro e w2 ⟨hb2, ⟨g, s, c, q, pp, v1, v4, he, rfl, hP⟩ | ⟨cd, p, nm, he, _⟩⟩
            rotate_left
            · cases he
            injection he with e1 e2
            subst e1
            obtain ⟨ao, cap, rfl⟩ := own_form hP.exns
            have g4 : w2.cell? ⟨q, 4, none⟩ = some (.slice ao k cap) := by rw [← hE]; exact hP.g4
            have g4a : ∀ o, (w2.alloc o).cell? ⟨q, 4, none⟩ = some (.slice ao k cap) := fun o => (World.cell?_alloc_lt _ _ _ (World.block_lt_of_cell? _ _ g4)).trans g4
            have hB2 := HB1.out.trans (hb2.mono HB1.out.size)
            have hB3 := fun o => hB2.alloc hB2.size o
            have HB3 := Lib.hid hB3
            clear hb2 HPP hB2 hB3 hP hE e2 g4
            go_wp2
            all_goals
              go_ret
              exact ⟨rfl, HB3.out _⟩
          by_cases h5 : k = 99
          · have e : Pg.all (yEx j 1 k) 20 300 0 Pg.st0 ⟨0, []⟩ = .bad 6 ⟨101, 1⟩ [] := Pg.fam_full2 (N := 12) h5 (by omega)
            have hp := HP.out (by rw [e]; exact fun e => by cases e)
            rw [e] at hp
            have HPP := Lib.hid hp
            clear hp e HP
            go_wp2_with fail
            refine HPP.out.mono ?_
            rintro e w2 ⟨hb2, ⟨g, s, c, q, pp, v1, v4, he, _⟩ | ⟨cd, p, nm, he, rfl⟩⟩
            · cases he
            injection he with e1 e2 e3
            subst e1 e2 e3
            have hB2 := HB1.out.trans (hb2.mono HB1.out.size)
            have hB3 := fun o => hB2.alloc hB2.size o
            have HB3 := Lib.hid hB3
            clear hb2 HPP hB2 hB3
            unfold dvalN
            go_wp2_with fail
            refine (wrong_n _ _ _ _ _ (HG.out.below (HB3.out _) HG.out.lt)).mono ?_
            rintro e w3 ⟨rfl, hb3⟩
            have HB4 := Lib.hid ((HB3.out _).trans (hb3.mono (HB3.out _).size))
            clear hb3
            go_wp2
            go_ret
            exact ⟨rfl, HB4.out⟩
          · have e : Pg.all (yEx j 1 k) 20 300 0 Pg.st0 ⟨0, []⟩ = .bad 8 ⟨(k : Int) + 2, 1⟩ Pg.wMain := Pg.fam_twice (N := 12) (by omega) (by omega)
            have hp := HP.out (by rw [e]; exact fun e => by cases e)
            rw [e] at hp
            have HPP := Lib.hid hp
            clear hp e HP
            go_wp2_with fail
            refine HPP.out.mono ?_
            rintro e w2 ⟨hb2, ⟨g, s, c, q, pp, v1, v4, he, _⟩ | ⟨cd, p, nm, he, rfl⟩⟩
            · cases he
            injection he with e1 e2 e3
            subst e1 e2 e3
            have hB2 := HB1.out.trans (hb2.mono HB1.out.size)
            have hB3 := fun o => hB2.alloc hB2.size o
            have HB3 := Lib.hid hB3
            clear hb2 HPP hB2 hB3
            unfold dvalN
            go_wp2_with fail
            refine (wrong_n _ _ _ _ _ (HG.out.below (HB3.out _) HG.out.lt)).mono ?_
            rintro e w3 ⟨rfl, hb3⟩
            have HB4 := Lib.hid ((HB3.out _).trans (hb3.mono (HB3.out _).size))
            clear hb3
            go_wp2
            go_ret
            exact ⟨rfl, HB4.out⟩
end Go.Proofs.YtnobamncenokdaaGreatDoor
