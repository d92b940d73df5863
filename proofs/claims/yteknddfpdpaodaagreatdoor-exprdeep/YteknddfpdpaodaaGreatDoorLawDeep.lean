/- The law: signs, brackets, sums and sequences, so many; and no reader. -/
import Derived.Test.YteknddfpdpaodaaGreatDoorLive
import Derived.Test.YteknddfpdpaodaaGreatDoorDeep3
import Derived.Test.YteknddfpdpaodaaGreatDoorLWrong
namespace Go.Proofs.YteknddfpdpaodaaGreatDoor
open Go.RowKit Tn Lx

def rp (b c : ByteArray) : Nat → ByteArray
  | 0 => b
  | k + 1 => rp b c k ++ c
theorem rp_size (b c : ByteArray) : ∀ k, (rp b c k).size = b.size + k * c.size
  | 0 => by simp [rp]
  | k + 1 => by rw [rp, ByteArray.size_append, rp_size b c k, Nat.succ_mul]; omega
theorem rp_le (b c : ByteArray) {k : Nat} (hb : b.size ≤ 2) (hc : c.size ≤ 2) (hk : k ≤ 255) : (rp b c k).size ≤ 1000 := by
  have := Nat.mul_le_mul hk hc
  rw [rp_size]; omega

theorem rp_list (b c : ByteArray) : ∀ k, (rp b c k).data.toList = b.data.toList ++ (List.replicate k c.data.toList).flatten
  | 0 => by simp [rp]
  | k + 1 => by rw [rp, ByteArray.data_append, Array.toList_append, rp_list b c k, List.replicate_succ', List.flatten_concat, List.append_assoc]
theorem sg_flat : ∀ k, sg k = (List.replicate k [45, 32]).flatten ++ [49]
  | 0 => rfl
  | k + 1 => by rw [sg, sg_flat k, List.replicate_succ, List.flatten_cons]; rfl
theorem tl_flat (c : UInt8) : ∀ k, tl c k = (List.replicate k [c, 49]).flatten
  | 0 => rfl
  | k + 1 => by rw [tl, tl_flat c k, List.replicate_succ, List.flatten_cons]; rfl
theorem rep_flat (c : UInt8) : ∀ k, (List.replicate k [c]).flatten = List.replicate k c
  | 0 => rfl
  | k + 1 => by rw [List.replicate_succ, List.flatten_cons, rep_flat c k]; rfl
theorem text_sg (k : Nat) : (rp ⟨#[]⟩ ⟨#[45, 32]⟩ k ++ ⟨#[49]⟩).data.toList = sg k := by
  rw [ByteArray.data_append, Array.toList_append, rp_list, sg_flat]; rfl
theorem text_op (k : Nat) : (rp ⟨#[]⟩ ⟨#[40]⟩ k ++ ⟨#[49]⟩ ++ rp ⟨#[]⟩ ⟨#[41]⟩ k).data.toList = op k k := by
  rw [ByteArray.data_append, Array.toList_append, ByteArray.data_append, Array.toList_append, rp_list, rp_list, op, cl]
  show [] ++ (List.replicate k [40]).flatten ++ [49] ++ ([] ++ (List.replicate k [41]).flatten) = _
  rw [rep_flat, rep_flat]; simp
theorem text_tl (c : UInt8) (k : Nat) : (rp ⟨#[49]⟩ ⟨#[c, 49]⟩ k).data.toList = 49 :: tl c k := by
  rw [rp_list, tl_flat]; rfl

/-- what Parse says of the error -/
def PErr (v : Value) (w : World) (e : Ending) (w' : World) : Prop := ∃ t i, e = .returned (.tuple #[t, i, v]) ∧ Below w.heap.size w w'
section
variable {w : World} (hT : Lib.Utf8Tabs 1 2 w) (hg : w.cell? ⟨0, 0, none⟩ = some (.iface 105 (.agg #[.pointer (some ⟨9, 25, none⟩)])))
include hT hg
theorem par_ok (s : ByteArray) (hs : s.size ≤ 10000) (h : ∃ i ns, Ex.parse 2100 s.data.toList = .ok i ns) (w' : World) (hb : Below w.heap.size w w') : Calls Tryz.prog 5 #[.string s] w' (PErr .nilIface w') := by
  obtain ⟨i, ns, h⟩ := h
  have hlt : 0 < w.heap.size := World.block_lt_of_cell? _ _ hg
  have := parse_any 2100 (by omega) s w' (by omega) (Utf8Tabs_below hT hb) ((hb.cell (p := ⟨0, 0, none⟩) hlt).trans hg) (by rw [h]; exact fun e => by cases e)
  rw [h] at this
  refine this.mono ?_
  rintro e w1 ⟨hb1, ⟨i', ns', B, bt, v, l, he, rfl, _⟩ | ⟨cd, p, he, _⟩⟩
  · exact ⟨_, _, rfl, hb1⟩
  · cases he
theorem par_bad (s : ByteArray) (hs : s.size ≤ 10000) {c : Int} {p : Pos} (h : Ex.parse 2100 s.data.toList = .bad c p) (w' : World) (hb : Below w.heap.size w w') : Calls Tryz.prog 5 #[.string s] w' (PErr (dval c p) w') := by
  have hlt : 0 < w.heap.size := World.block_lt_of_cell? _ _ hg
  have := parse_any 2100 (by omega) s w' (by omega) (Utf8Tabs_below hT hb) ((hb.cell (p := ⟨0, 0, none⟩) hlt).trans hg) (by rw [h]; exact fun e => by cases e)
  rw [h] at this
  refine this.mono ?_
  rintro e w1 ⟨hb1, ⟨i', ns', B, bt, v, l, he, _⟩ | ⟨cd, p, he, rfl⟩⟩
  · cases he
  · injection he with h1 h2
    subst h1 h2
    exact ⟨_, _, rfl, hb1⟩
theorem par_sg (k : Nat) (hk : k ≤ 255) (hs : (rp ⟨#[]⟩ ⟨#[45, 32]⟩ k ++ ⟨#[49]⟩).size ≤ 10000) : ∃ v, ((k ≤ 62 ∧ v = .nilIface) ∨ (¬ k ≤ 62 ∧ ∃ c p, v = dval c p)) ∧ ∀ w', Below w.heap.size w w' → Calls Tryz.prog 5 #[.string (rp ⟨#[]⟩ ⟨#[45, 32]⟩ k ++ ⟨#[49]⟩)] w' (PErr v w') := by
  have h := Ex.parse_sg k 2092 hk (by omega)
  rw [← text_sg k] at h
  by_cases h62 : k ≤ 62
  · exact ⟨_, .inl ⟨h62, rfl⟩, par_ok hT hg _ hs (h.1 h62)⟩
  · obtain ⟨c, p, e⟩ := h.2 h62
    exact ⟨_, .inr ⟨h62, c, p, rfl⟩, par_bad hT hg _ hs e⟩
theorem par_op (k : Nat) (hk : k ≤ 255) (hs : (rp ⟨#[]⟩ ⟨#[40]⟩ k ++ ⟨#[49]⟩ ++ rp ⟨#[]⟩ ⟨#[41]⟩ k).size ≤ 10000) : ∃ v, ((k ≤ 31 ∧ v = .nilIface) ∨ (¬ k ≤ 31 ∧ ∃ c p, v = dval c p)) ∧ ∀ w', Below w.heap.size w w' → Calls Tryz.prog 5 #[.string (rp ⟨#[]⟩ ⟨#[40]⟩ k ++ ⟨#[49]⟩ ++ rp ⟨#[]⟩ ⟨#[41]⟩ k)] w' (PErr v w') := by
  have h := Ex.parse_op k 2092 hk (by omega)
  rw [← text_op k] at h
  by_cases h31 : k ≤ 31
  · exact ⟨_, .inl ⟨h31, rfl⟩, par_ok hT hg _ hs (h.1 h31)⟩
  · obtain ⟨c, p, e⟩ := h.2 h31
    exact ⟨_, .inr ⟨h31, c, p, rfl⟩, par_bad hT hg _ hs e⟩
theorem par_sum (k : Nat) (hk : k ≤ 255) (hs : (rp ⟨#[49]⟩ ⟨#[43, 49]⟩ k).size ≤ 1000) : ∀ w', Below w.heap.size w w' → Calls Tryz.prog 5 #[.string (rp ⟨#[49]⟩ ⟨#[43, 49]⟩ k)] w' (PErr .nilIface w') := by
  have h := Ex.parse_sum k 2092 hk (by omega)
  rw [← text_tl 43 k] at h
  exact par_ok hT hg _ (by omega) h
theorem par_seq (k : Nat) (hk : k ≤ 255) (hs : (rp ⟨#[49]⟩ ⟨#[59, 49]⟩ k).size ≤ 1000) : ∀ w', Below w.heap.size w w' → Calls Tryz.prog 5 #[.string (rp ⟨#[49]⟩ ⟨#[59, 49]⟩ k)] w' (PErr .nilIface w') := by
  have h := Ex.parse_seq k 2092 hk (by omega)
  rw [← text_tl 59 k] at h
  exact par_ok hT hg _ (by omega) h
end

set_option maxRecDepth 100000 in
set_option maxHeartbeats 4000000 in
theorem exprdeep_any (n : Nat) (hn : n ≤ 255) (w : World) (hT : Lib.Utf8Tabs 1 2 w)
    (hg : w.cell? ⟨0, 0, none⟩ = some (.iface 105 (.agg #[.pointer (some ⟨9, 25, none⟩)]))) : Calls Tryz.prog 3 #[.int .u8 n] w fun e w' => e = .returned (.bool true) ∧ Below w.heap.size w w' := by
  have HL := Lib.hid (lives_any w hT hg); have HT := Lib.hid hT; have HG := Lib.hid hg
  clear hT hg
  go_enter Tryz.func3, Tryz.ntmps3
  go_wp2_with fail
  refine HL.out.mono ?_
  rintro e w1 ⟨rfl, hb1⟩
  have HB1 := Lib.hid hb1
  clear hb1
  go_wp2_with fail
  go_loopw [3, 4, 5, 6, 7, 29] (fun a b c d e i wr => ∃ k : Nat, k ≤ n ∧ i = .int .u8 (k : Int) ∧ a = .string (rp ⟨#[]⟩ ⟨#[45, 32]⟩ k) ∧ b = .string (rp ⟨#[]⟩ ⟨#[40]⟩ k) ∧ e = .string (rp ⟨#[]⟩ ⟨#[41]⟩ k) ∧ c = .string (rp ⟨#[49]⟩ ⟨#[43, 49]⟩ k) ∧ d = .string (rp ⟨#[49]⟩ ⟨#[59, 49]⟩ k) ∧ wr = w1) (fun _ _ _ _ _ i _ => n - (intOf i).toNat)
  case atStart => exact ⟨0, Nat.zero_le _, rfl, rfl, rfl, rfl, rfl, rfl, rfl⟩
  case round =>
    obtain ⟨k, hk, rfl, rfl, rfl, rfl, rfl, rfl, rfl⟩ := hrel
    by_cases hlt : k < n
    · have hms : n - (intOf (Value.int IntKind.u8 ((k : Int) + 1))).toNat < n - (intOf (Value.int IntKind.u8 (k : Int))).toNat := by simp [intOf]; omega
      have HMS := Lib.hid hms
      have z1 := rp_le ⟨#[]⟩ ⟨#[45, 32]⟩ (k := k) (by decide) (by decide) (by omega)
      have z2 := rp_le ⟨#[]⟩ ⟨#[40]⟩ (k := k) (by decide) (by decide) (by omega)
      have z3 := rp_le ⟨#[]⟩ ⟨#[41]⟩ (k := k) (by decide) (by decide) (by omega)
      have z4 := rp_le ⟨#[49]⟩ ⟨#[43, 49]⟩ (k := k) (by decide) (by decide) (by omega)
      have z5 := rp_le ⟨#[49]⟩ ⟨#[59, 49]⟩ (k := k) (by decide) (by decide) (by omega)
      clear hms
      go_wp2
      exact ⟨⟨k + 1, by omega, by go_num, rfl, rfl, rfl, rfl, rfl, trivial⟩, HMS.out⟩
    · obtain rfl : k = n := by omega
      have z1 := rp_le ⟨#[]⟩ ⟨#[45, 32]⟩ (k := k) (by decide) (by decide) (by omega)
      have z2 := rp_le ⟨#[]⟩ ⟨#[40]⟩ (k := k) (by decide) (by decide) (by omega)
      have z3 := rp_le ⟨#[]⟩ ⟨#[41]⟩ (k := k) (by decide) (by decide) (by omega)
      have z4 := rp_le ⟨#[49]⟩ ⟨#[43, 49]⟩ (k := k) (by decide) (by decide) (by omega)
      have z5 := rp_le ⟨#[49]⟩ ⟨#[59, 49]⟩ (k := k) (by decide) (by decide) (by omega)
      have e49 : (⟨#[49]⟩ : ByteArray).size = 1 := rfl
      obtain ⟨va, hva, pA⟩ := par_sg HT.out HG.out k hn (by rw [ByteArray.size_append, e49]; omega)
      obtain ⟨vb, hvb, pB⟩ := par_op HT.out HG.out k hn (by rw [ByteArray.size_append, ByteArray.size_append, e49]; omega)
      have pC := par_sum HT.out HG.out k hn z4
      have pD := par_seq HT.out HG.out k hn z5
      have PA := Lib.hid pA; have PB := Lib.hid pB; have PC := Lib.hid pC; have PD := Lib.hid pD; have HVA := Lib.hid hva; have HVB := Lib.hid hvb
      clear hk hlt HL pA pB pC pD e49 hva hvb HT
      generalize rp ⟨#[]⟩ ⟨#[45, 32]⟩ k = s1 at *
      generalize rp ⟨#[]⟩ ⟨#[40]⟩ k = s2 at *
      generalize rp ⟨#[]⟩ ⟨#[41]⟩ k = s3 at *
      generalize rp ⟨#[49]⟩ ⟨#[43, 49]⟩ k = s4 at *
      generalize rp ⟨#[49]⟩ ⟨#[59, 49]⟩ k = s5 at *
      go_wp2_with fail
      refine (PA.out _ HB1.out).mono ?_
      rintro e w2 ⟨t1, i1, rfl, hb2⟩
      have HB2 := Lib.hid (HB1.out.trans (hb2.mono HB1.out.size))
      clear hb2 PA HB1
      go_wp2_with fail
      refine (PB.out _ HB2.out).mono ?_
      rintro e w3 ⟨t2, i2, rfl, hb3⟩
      have HB3 := Lib.hid (HB2.out.trans (hb3.mono HB2.out.size))
      clear hb3 PB HB2
      go_wp2_with fail
      refine (PC.out _ HB3.out).mono ?_
      rintro e w4 ⟨t3, i3, rfl, hb4⟩
      have HB4 := Lib.hid (HB3.out.trans (hb4.mono HB3.out.size))
      clear hb4 PC HB3
      go_wp2_with fail
      refine (PD.out _ HB4.out).mono ?_
      rintro e w5 ⟨t4, i4, rfl, hb5⟩
      have HB5 := Lib.hid (HB4.out.trans (hb5.mono HB4.out.size))
      clear hb5 PD HB4
      go_wp2_with fail
      refine (expr_nil _).mono ?_
      rintro e w6 ⟨rfl, hb6⟩
      have HB6 := Lib.hid (HB5.out.trans (hb6.mono HB5.out.size))
      clear hb6 HB5
      go_wp2_with fail
      refine (name_nil _).mono ?_
      rintro e w7 ⟨rfl, hb7⟩
      have HB7 := Lib.hid (HB6.out.trans (hb7.mono HB6.out.size))
      clear hb7 HB6
      have hlt : 0 < w.heap.size := World.block_lt_of_cell? _ _ HG.out
      have hW : ∀ W, Below w.heap.size w W → Calls Tryz.prog 8 #[.iface 41 (.agg #[.int .i64 1, .int .i64 0, .int .i64 0, .string ⟨#[]⟩]), .agg #[.int .i64 1, .int .i64 0, .int .i64 0, .string ⟨#[]⟩]] W fun e w' => e = .returned (.bool true) ∧ Below W.heap.size W w' := fun W hb => wrong_any 1 0 0 W ((hb.cell (p := ⟨0, 0, none⟩) hlt).trans HG.out)
      have HW := Lib.hid hW
      clear hW hlt HG
      unfold dval tval Ex.zt
      go_wp2_with fail
      have HB8 := Lib.hid (HB7.out.alloc HB7.out.size (.cells #[.int .i64 0, .string ⟨#[]⟩, .int .i64 0, .int .i64 0, .int .i64 0] 35))
      refine (HW.out _ HB8.out).mono ?_
      generalize w7.alloc (.cells #[.int .i64 0, .string ⟨#[]⟩, .int .i64 0, .int .i64 0, .int .i64 0] 35) = w8 at *
      rintro e w9 ⟨rfl, hb9⟩
      have HB9 := Lib.hid (HB8.out.trans (hb9.mono HB8.out.size))
      clear hb9 HB8 HB7
      go_wp2_with fail
      refine (HW.out _ HB9.out).mono ?_
      rintro e w10 ⟨rfl, hb10⟩
      have HB10 := Lib.hid (HB9.out.trans (hb10.mono HB9.out.size))
      clear hb10 HB9
      go_wp2_with fail
      refine (take_nil _ _).mono ?_
      rintro e w11 ⟨rfl, hb11⟩
      have hBx := HB10.out.alloc HB10.out.size (.cells #[.string ⟨#[120]⟩] 9)
      have HB11 := Lib.hid (hBx.trans (hb11.mono hBx.size))
      clear hb11 HB10 hBx
      unfold dval
      go_wp2_with fail
      refine (HW.out _ HB11.out).mono ?_
      rintro e w12 ⟨rfl, hb12⟩
      have HB12 := Lib.hid (HB11.out.trans (hb12.mono HB11.out.size))
      clear hb12 HB11
      go_wp2_with fail
      refine (is_nil _).mono ?_
      rintro e w13 ⟨rfl, hb13⟩
      have HB13 := Lib.hid (HB12.out.trans (hb13.mono HB12.out.size))
      clear hb13 HB12 HW
      have hfin : ∀ b : Bool, b = true → Ending.returned (.bool b) = .returned (.bool true) := fun b h => by rw [h]
      rcases HVA.out with ⟨h62, rfl⟩ | ⟨h62, c1, p1, rfl⟩
      · rcases HVB.out with ⟨h31, rfl⟩ | ⟨h31, c2, p2, rfl⟩
        · clear HVA HVB
          go_wp2
          go_ret
          exact ⟨hfin _ (decide_eq_true (by omega)), HB13.out⟩
        · clear HVA HVB
          unfold dval
          go_wp2
          go_ret
          exact ⟨hfin _ (by simp; omega), HB13.out⟩
      · rcases HVB.out with ⟨h31, rfl⟩ | ⟨h31, c2, p2, rfl⟩
        · omega
        · clear HVA HVB
          unfold dval
          go_wp2
          go_ret
          exact ⟨hfin _ (by simp; omega), HB13.out⟩
end Go.Proofs.YteknddfpdpaodaaGreatDoor
