/- TypesOrder, walked. -/
import Derived.Test.YtjbihammbmiieaaDoorSg
namespace Go.Proofs.YtjbihammbmiieaaDoor
open Go.RowKit Un

theorem P2At.drop {N g o : Nat} {w : World} {L : List (Nat × Nat)} (h : P2At N w (some ⟨g, o, none⟩) L) (k : Nat) : P2At N w (some ⟨g, o + k * 2, none⟩) (L.drop k) := fun i hi => by
  have hi' : k + i < L.length := by simp at hi; omega
  obtain ⟨b, o', e, hb, h1, h2, r⟩ := h (k + i) hi'
  injection e with e; injection e with e1 e2; subst e1 e2
  have eg : (L.drop k).getD i (0, 0) = L.getD (k + i) (0, 0) := by simp [List.getD_eq_getElem?_getD, List.getElem?_drop]
  rw [eg]
  refine ⟨_, _, rfl, hb, ?_, ?_, r⟩
  · rw [show o + k * 2 + i * 2 = o + (k + i) * 2 by omega]; exact h1
  · rw [show o + k * 2 + i * 2 + 1 = o + (k + i) * 2 + 1 by omega]; exact h2
theorem P2At.take {N : Nat} {ao : Option Addr} {w : World} {L : List (Nat × Nat)} (h : P2At N w ao L) (k : Nat) : P2At N w ao (L.take k) := fun i hi => by
  have hi' : i < k ∧ i < L.length := by simp at hi; omega
  have eg : (L.take k).getD i (0, 0) = L.getD i (0, 0) := by simp [List.getD_eq_getElem?_getD, hi'.1]
  rw [eg]
  exact h i hi'.2
theorem P2At.mono {N M : Nat} {ao : Option Addr} {w : World} {L : List (Nat × Nat)} (h : P2At N w ao L) (k : N ≤ M) : P2At M w ao L := fun i hi => by
  obtain ⟨b, o, e, hb, r⟩ := h i hi
  exact ⟨b, o, e, Nat.lt_of_lt_of_le hb k, r⟩
theorem Bytes2.mem {L K : List (Nat × Nat)} (h : Bytes2 L) (hm : ∀ p ∈ K, p ∈ L) : Bytes2 K := fun i hi => by
  have e : K.getD i (0, 0) = K[i] := by simp [hi]
  have h1 := hm _ (List.getElem_mem hi)
  obtain ⟨j, hj, e2⟩ := List.getElem_of_mem h1
  have h2 := h j hj
  have e3 : L.getD j (0, 0) = L[j] := by simp [hj]
  rw [e3, e2] at h2
  rw [e]; exact h2
theorem eqs_mem {A : List Nat} {L K : List (Nat × Nat)} (h : ∀ p, p ∈ K ↔ p ∈ L) (p : Nat × Nat) : p ∈ eqs A L ↔ p ∈ eqs A K := by
  simp only [eqs, List.mem_map]
  constructor
  · rintro ⟨q, hq, e⟩; exact ⟨q, (h q).2 hq, e⟩
  · rintro ⟨q, hq, e⟩; exact ⟨q, (h q).1 hq, e⟩
set_option maxRecDepth 100000 in
set_option maxHeartbeats 1000000 in
theorem shows_nil (lb lc : Nat) (w : World) (hl : w.cell? ⟨lb, 0, none⟩ = some (.int .i64 0)) (hlb : lb < w.heap.size) : Calls Tryd.prog 16 #[.pointer none, .slice (some ⟨lb, 0, none⟩) 1 lc] w fun e w' => ∃ sv, e = .returned sv ∧ w'.ownsRow w.heap.size 9 1 sv [([] : List UInt8)].length (strs [[]]) ∧ Below w.heap.size w w' := by
  have hcl : ∀ W, Below w.heap.size w W → W.cell? ⟨lb, 0, none⟩ = some (.int .i64 0) := fun W k => (k.cell (p := ⟨lb, 0, none⟩) hlb).trans hl
  have HCL := Lib.hid hcl
  clear hcl hl
  go_enter Tryd.func16, Tryd.ntmps16
  go_wp2
  rw [nums_make]
  simp only [Result.andThen]
  rw [Oper.upon_value]
  go_wp2
  obtain ⟨i0, hi, hz0, hz1, hz2⟩ := info_parts Tryd.info9
  generalize hW1 : (w.alloc (.map #[] 0)).alloc (.cells #[.pointer none, .pointer none, .slice none 0 0, .map (some w.heap.size)] 80) = W1
  have hb1 : Below w.heap.size w W1 := by rw [← hW1]; exact ((Below.refl _ w).alloc (Nat.le_refl _) _).alloc (by simp) _
  obtain ⟨w2, hmk, hown, hgr⟩ := run_makeSlice_full (P := Tryd.prog) W1 w.heap.size 47 9 i0 (.string ⟨#[]⟩) 1 Tryd.underlying47 hi hz0 hz1 .i64 .i64 1 (by omega) (by rw [hz2]; omega) (by unfold maxLen; omega) hb1.size
  have hb2 : Below W1.heap.size W1 w2 := ⟨hgr.os, hgr.tape, hgr.output, hgr.size, fun k hk => hgr.block k hk (fun e => by cases e)⟩
  have hb := hb1.trans (hb2.mono hb1.size)
  have ho : w2.ownsRow w.heap.size 9 1 (.slice (some ⟨W1.heap.size, 0, none⟩) 1 1) 1 (strs [[]]) := by
    have e : (madeCells (Value.string ⟨#[]⟩).cells (1 * 1)).toList = strs [[]] := by
      rw [Nat.mul_one]
      exact (toList_madeCells_one _ _).trans (by simp [strs])
    rw [← e]; exact hown
  have HO := Lib.hid ho; have HB := Lib.hid hb
  clear ho hb hown hgr hb2 hb1 hW1 hi hz0 hz1 hz2
  rw [show ((1 : Nat) : Int) = 1 from rfl] at hmk
  rw [hmk]
  simp only [Result.andThen]
  rw [Oper.upon_value]
  clear hmk
  go_wp2
  go_loopw [17] (fun iv wr => ∃ k : Nat, k ≤ 1 ∧ iv = .int .i64 k ∧ wr.ownsRow w.heap.size 9 1 (.slice (some ⟨W1.heap.size, 0, none⟩) 1 1) 1 (strs [[]]) ∧ Below w.heap.size w wr) (fun iv _ => 1 - (intOf iv).toNat)
  case atStart => exact ⟨0, by omega, rfl, HO.out, HB.out⟩
  case round =>
    obtain ⟨k, hk, rfl, ho, hb⟩ := hrel
    have hc := HCL.out _ hb
    have HO2 := Lib.hid ho; have HB2 := Lib.hid hb
    clear ho hb
    by_cases h0 : k = 0
    · subst h0
      go_wp2_with fail
      refine (has_nil 0 wr).mono ?_
      rintro e w3 ⟨rfl, rfl⟩
      go_wp2
      go_roundw
      case rel => exact ⟨1, by omega, by go_num, HO2.out, HB2.out⟩
      case measure => simp [intOf]
    · obtain rfl : k = 1 := by omega
      go_wp2
      go_ret
      exact ⟨_, rfl, HO2.out, HB2.out⟩
set_option maxRecDepth 100000 in
set_option maxHeartbeats 4000000 in
theorem order_any (n turn : Nat) (ao : Option Addr) (cap : Nat) (L : List (Nat × Nat)) (w : World) (hL : P2At w.heap.size w ao L) (hn : n < 256) (ht : turn < 256) (hl : L.length ≤ 140737488355328) :
    Calls Tryd.prog 4 #[.int .u8 n, .slice ao L.length cap, .int .u8 turn] w fun e w' => e = .returned (.bool true) ∧ Below w.heap.size w w' := by
  have HL := Lib.hid hL
  clear hL
  have hb0 : Below w.heap.size w (w.alloc (.cells #[.int .u8 n] 5)) := (Below.refl _ w).alloc (Nat.le_refl _) _
  have hc0 : (w.alloc (.cells #[.int .u8 n] 5)).cell? ⟨w.heap.size, 0, none⟩ = some (.int .u8 n) := (blk_cell (blk_new w _) 0).trans rfl
  have hs0 : w.heap.size < (w.alloc (.cells #[.int .u8 n] 5)).heap.size := by simp
  have HB0 := Lib.hid hb0; have HC0 := Lib.hid hc0; have HS0 := Lib.hid hs0
  clear hb0 hc0 hs0
  go_enter Tryd.func4, Tryd.ntmps4
  go_wp2_with fail
  generalize w.alloc (.cells #[.int .u8 n] 5) = W0 at HB0 HC0 HS0 ⊢
  refine (lives_any W0).mono ?_
  rintro e w1 ⟨rfl, hb1⟩
  have hB1 : Below w.heap.size w w1 := HB0.out.trans (hb1.mono HB0.out.size)
  have HB1 := Lib.hid hB1; have HW1 := Lib.hid hb1
  clear hb1 hB1
  by_cases h10 : L.length ≤ 10
  · go_wp2_with fail
    refine (clone_any w.heap.size ao cap L w1 (HL.out.below HB1.out) HB1.out.size h10).mono ?_
    rintro e w2 ⟨v2, rfl, ho2, hb2⟩
    obtain ⟨ao2, cap2, rfl, hp2⟩ := own_p2 ho2 HL.out.bytes
    have HO2 := Lib.hid ho2; have HP2 := Lib.hid hp2; have HW2 := Lib.hid (HW1.out.trans (hb2.mono HW1.out.size))
    clear ho2 hb2 hp2
    go_upto_if 30 with fail
    go_cut [8, 9] (fun ov _ wz => ∃ ao3 cap3 K, ov = .slice ao3 K.length cap3 ∧ P2At wz.heap.size wz ao3 K ∧ (∀ p, p ∈ K ↔ p ∈ L) ∧ K.length = L.length ∧ Below W0.heap.size W0 wz)
    case first =>
      by_cases hp : 0 < L.length
      · obtain ⟨g2, c2, e2, hg2, hc2⟩ := row_some HO2.out hp
        cases e2
        obtain ⟨k, hk⟩ : ∃ k, k = turn % L.length := ⟨_, rfl⟩
        have hkl : k < L.length := by rw [hk]; exact Nat.mod_lt _ hp
        have r0 : Int.tmod (turn : Int) (L.length : Int) = (k : Int) := by rw [hk]; rfl
        have r2 : (turn : Int) % (L.length : Int) = (k : Int) := by rw [hk]; rfl
        have r4 : ¬ (L.length : Int) = 0 := by omega
        have r9 : ¬ L = [] := fun e => by rw [e] at hp; simp at hp
        have r5 : IntKind.i64.wrap (k : Int) = (k : Int) := IntWalk.i64_in _ (by omega)
        have r7 : IntKind.i64.wrap (turn : Int) = (turn : Int) := IntWalk.i64_in _ (by omega)
        clear hk
        go_upto_region 7 with fail
        have n1 : ¬ cap2 = k := by omega
        have n2 : k ≤ L.length := by omega
        have n3 : k ≤ cap2 := by omega
        obtain ⟨M, hM⟩ : ∃ M, M = L.drop k ++ L.take k := ⟨_, rfl⟩
        have hml : M.length = L.length := by rw [hM]; simp; omega
        have hmm : ∀ p, p ∈ M ↔ p ∈ L := fun p => by
          rw [hM, List.mem_append, or_comm, ← List.mem_append, List.take_append_drop]
        generalize hWW : (w2.alloc (.cells #[.slice (some ⟨g2, k * 2, none⟩) (L.length - k) (cap2 - k), .slice (some ⟨g2, 0, none⟩) k cap2] 50)).drew = WW
        have hbW : Below w2.heap.size w2 WW := by rw [← hWW]; exact ((Below.refl _ w2).alloc (Nat.le_refl _) _).drew
        have hWs : w2.heap.size < WW.heap.size := by rw [← hWW]; simp
        have hblk : WW.heap[w2.heap.size]? = some (.cells #[.slice (some ⟨g2, k * 2, none⟩) (L.length - k) (cap2 - k), .slice (some ⟨g2, 0, none⟩) k cap2] 50 (0, 0)) := by rw [← hWW]; exact blk_new w2 _
        have hpW := HP2.out.below hbW
        have hcc : Calls Tryd.prog 20 #[.slice (some ⟨w2.heap.size, 0, none⟩) 2 2] WW fun e w' => ∃ v', e = .returned v' ∧ w'.ownsRow WW.heap.size 51 2 v' M.length (cells2 M) ∧ Below WW.heap.size WW w' := by
          have h1 := hpW.drop k
          rw [Nat.zero_add] at h1
          have h2 := concat_any w2.heap.size w2.heap.size g2 (k * 2) (cap2 - k) g2 0 cap2 (L.drop k) (L.take k) WW h1 (hpW.take k) (Nat.le_of_lt hWs) hWs ((blk_cell hblk 0).trans (by simp)) ((blk_cell hblk 1).trans (by simp; omega)) (by simp; omega) (by simp; omega)
          rw [← hM] at h2
          exact h2
        have HCC := Lib.hid hcc; have HML := Lib.hid hml; have HMM := Lib.hid hmm; have HBW := Lib.hid hbW; have HWW := Lib.hid hWW
        clear hM hml hmm hbW hWs hblk hpW hcc hWW
        go_region_with (go_at_call 20; rw [HWW.out]; refine HCC.out.mono ?_; rintro e w4 ⟨v4, rfl, ho4, hb4⟩)
        all_goals
          obtain ⟨g5, cap5, rfl, hg5, hc5⟩ := row_some ho4 (by rw [HML.out]; exact hp)
          have HO4 := Lib.hid ho4; have HB4 := Lib.hid hb4
          clear ho4 hb4
          go_wp2_with fail
          refine (reverse_any WW.heap.size g5 cap5 M w4 HO4.out HB4.out.size (by rw [HML.out]; exact hp) (by rw [HML.out]; exact h10)).mono ?_
          rintro e w5 ⟨rfl, K, hK⟩
          have hKo := hK.own
          rw [← hK.len] at hKo
          have hmem : ∀ p, p ∈ K ↔ p ∈ L := fun p => (hK.mem p).trans (HMM.out p)
          obtain ⟨ao6, cap6, e6, hp6⟩ := own_p2 hKo (HL.out.bytes.mem fun p hp => (hmem p).1 hp)
          have hbb : Below W0.heap.size W0 w5 := (HW2.out.trans (HBW.out.mono HW2.out.size)).trans ((HB4.out.mono (Nat.le_trans HW2.out.size HBW.out.size)).trans (hK.below.mono (Nat.le_trans HW2.out.size HBW.out.size)))
          rw [hK.len] at e6
          have hkl2 : K.length = L.length := hK.len.trans HML.out
          have HX := Lib.hid e6; have HP6 := Lib.hid hp6; have HBB := Lib.hid hbb; have HMEM := Lib.hid hmem; have HKL := Lib.hid hkl2; have HKM := Lib.hid hK.len
          clear hK hKo hmem hp6 hbb e6 hkl2
          go_wp2
          go_meet
          case rel => exact ⟨ao6, cap6, K, by rw [HKM.out]; exact HX.out, HP6.out, HMEM.out, HKL.out, HBB.out⟩
      · go_wp2
        go_meet
        case rel => exact ⟨_, _, L, rfl, HP2.out, fun p => Iff.rfl, rfl, HW2.out⟩
    case rest =>
      obtain ⟨ao3, cap3, K, rfl, hp3, hm3, hl3, hw3⟩ := hcut
      have hall : Below w.heap.size w wc := HB0.out.trans (hw3.mono HB0.out.size)
      have hcn : wc.cell? ⟨w.heap.size, 0, none⟩ = some (.int .u8 n) := (hw3.cell (p := ⟨w.heap.size, 0, none⟩) HS0.out).trans HC0.out
      have hnb : w.heap.size < wc.heap.size := Nat.lt_of_lt_of_le HS0.out hw3.size
      have hm1 := made_any w.heap.size n ao cap L wc ((HL.out.below hall).mono hall.size) h10 hcn hn hnb
      have HM1 := Lib.hid hm1; have HP3 := Lib.hid hp3; have HM3 := Lib.hid hm3; have HL3 := Lib.hid hl3; have HALL := Lib.hid hall; have HCN := Lib.hid hcn
      clear hm1 hp3 hm3 hl3 hw3 hall hcn HO2 HP2 HW2 HB1 HW1
      go_wp2_with fail
      refine HM1.out.mono ?_
      rintro e w4 ⟨hc4, hb4⟩
      have hcn4 : w4.cell? ⟨w.heap.size, 0, none⟩ = some (.int .u8 n) := (hb4.cell (p := ⟨w.heap.size, 0, none⟩) hnb).trans HCN.out
      have hm2 := made_any w.heap.size n ao3 cap3 K w4 ((HP3.out.below hb4).mono hb4.size) (by have := HL3.out; omega) hcn4 hn (Nat.lt_of_lt_of_le hnb hb4.size)
      have HM2 := Lib.hid hm2; have HB4 := Lib.hid hb4
      clear hm2 hb4 hcn4
      have key : ∀ (e1 e2 : Ending) (w5 : World), (MadeP (n % 5) K w4 e2 w5) → True := fun _ _ _ _ => trivial
      clear key
      rcases hc4 with ⟨sv, R, σ, rfl, q4, l4, v4, o4⟩ | ⟨R, k4, a4, b4, Q4, rfl, q4, s4, m4, n4⟩
      · have Q4 := Lib.hid q4; have L4 := Lib.hid l4; have V4 := Lib.hid v4; have O4 := Lib.hid o4
        clear q4 l4 v4 o4
        go_wp2_with fail
        refine HM2.out.mono ?_
        rintro e w5 ⟨hc5, hb5⟩
        rcases hc5 with ⟨sv5, R5, σ5, rfl, q5, l5, v5, o5⟩ | ⟨R5, k5, a5, b5, Q5, rfl, q5, s5, m5, n5⟩
        · have htw := Q4.out.twins q5 (fun p => eqs_mem HM3.out p)
          have hsh := htw.shows (σ := σ) (τ := σ5) (by rw [abs_len]; exact V4.out) (by rw [abs_len]; exact v5) (il (al (n % 5) (n % 5 + 1)))
          rw [abs_len, abs_len] at hsh
          rw [← hsh] at o5
          have ho4 := own_below O4.out hb5
          have hlen : (shows (picks (R.length + 3) σ (il (al (n % 5) (n % 5 + 1)))) []).length = 2 * (n % 5) + 3 := by rw [shows_len, picks_len, il_len, al_len]; omega
          have HO4 := Lib.hid ho4; have HO5 := Lib.hid o5; have HLEN := Lib.hid hlen; have HB5 := Lib.hid (HALL.out.trans ((HB4.out.mono HALL.out.size).trans (hb5.mono (Nat.le_trans HALL.out.size HB4.out.size))))
          clear htw hsh q5 l5 v5 o5 ho4 hlen hb5
          go_wp2_with fail
          refine (pair_nil 0 0 w5).mono ?_
          rintro e w6 ⟨rfl, rfl⟩
          go_wp2_with fail
          refine (equal_any _ _ sv sv5 _ w5 (by rw [HLEN.out]; exact HO4.out) (by rw [HLEN.out]; exact HO5.out) (by rw [HLEN.out]; omega)).mono ?_
          rintro e w7 ⟨rfl, hb7⟩
          have HB7 := Lib.hid (HB5.out.trans (hb7.mono HB5.out.size))
          clear hb7
          go_wp2_with fail
          refine (unify_nil 0 0 w7).mono ?_
          rintro e w8 ⟨rfl, rfl⟩
          go_wp2_with fail
          refine (var_nil w7).mono ?_
          rintro e w8 ⟨rfl, rfl⟩
          go_wp2_with fail
          refine (shows_nil w7.heap.size 1 _ ((blk_cell (blk_new w7 _) 0).trans rfl) (by simp)).mono ?_
          rintro e w9 ⟨sv9, rfl, o9, hb9⟩
          have hb9' := HB7.out.trans ((((Below.refl _ w7).alloc (Nat.le_refl _) (.cells #[.int .i64 0] 35)).trans (hb9.mono (by simp))).mono HB7.out.size)
          have O9 := Lib.hid o9; have HB9 := Lib.hid hb9'
          clear o9 hb9 hb9'
          go_wp2_with fail
          refine (equal_any _ _ sv9 _ [([] : List UInt8)] _ (own_below O9.out ((Below.refl _ w9).alloc (Nat.le_refl _) _)) (World.ownsRow_lit w9 #[.string ⟨#[]⟩] 1 (Nat.le_refl _) (by unfold maxLen; omega) rfl) (by simp)).mono ?_
          rintro e w10 ⟨rfl, hb10⟩
          have HB10 := Lib.hid (HB9.out.trans ((((Below.refl _ w9).alloc (Nat.le_refl _) _).trans (hb10.mono (by simp))).mono HB9.out.size))
          clear hb10
          go_wp2
          go_ret
          exact ⟨rfl, HB10.out⟩
        · exact (Q4.out.never q5 (fun p hp => (eqs_mem HM3.out p).2 (s5 p hp)) ((eqs_mem HM3.out _).2 m5) n5).elim
      · have QQ4 := Lib.hid q4; have S4 := Lib.hid s4; have M4 := Lib.hid m4; have N4 := Lib.hid n4
        clear q4 s4 m4 n4
        go_wp2_with fail
        refine HM2.out.mono ?_
        rintro e w5 ⟨hc5, hb5⟩
        rcases hc5 with ⟨sv5, R5, σ5, rfl, q5, l5, v5, o5⟩ | ⟨R5, k5, a5, b5, Q5, rfl, q5, s5, m5, n5⟩
        · exact (q5.never QQ4.out (fun p hp => (eqs_mem HM3.out p).1 (S4.out p hp)) ((eqs_mem HM3.out _).1 M4.out) N4.out).elim
        · have HB5 := Lib.hid (HALL.out.trans ((HB4.out.mono HALL.out.size).trans (hb5.mono (Nat.le_trans HALL.out.size HB4.out.size))))
          clear hb5 q5 s5 m5 n5
          go_wp2_with fail
          refine (pair_nil 0 0 w5).mono ?_
          rintro e w6 ⟨rfl, rfl⟩
          go_wp2_with fail
          refine (equal_any 0 0 _ _ [] w5 (World.ownsRow_nil _ _ _ _) (World.ownsRow_nil _ _ _ _) (by simp)).mono ?_
          rintro e w7 ⟨rfl, hb7⟩
          have HB7 := Lib.hid (HB5.out.trans (hb7.mono HB5.out.size))
          clear hb7
          go_wp2_with fail
          refine (unify_nil 0 0 w7).mono ?_
          rintro e w8 ⟨rfl, rfl⟩
          go_wp2_with fail
          refine (var_nil w7).mono ?_
          rintro e w8 ⟨rfl, rfl⟩
          go_wp2_with fail
          refine (shows_nil w7.heap.size 1 _ ((blk_cell (blk_new w7 _) 0).trans rfl) (by simp)).mono ?_
          rintro e w9 ⟨sv9, rfl, o9, hb9⟩
          have hb9' := HB7.out.trans ((((Below.refl _ w7).alloc (Nat.le_refl _) (.cells #[.int .i64 0] 35)).trans (hb9.mono (by simp))).mono HB7.out.size)
          have O9 := Lib.hid o9; have HB9 := Lib.hid hb9'
          clear o9 hb9 hb9'
          go_wp2_with fail
          refine (equal_any _ _ sv9 _ [([] : List UInt8)] _ (own_below O9.out ((Below.refl _ w9).alloc (Nat.le_refl _) _)) (World.ownsRow_lit w9 #[.string ⟨#[]⟩] 1 (Nat.le_refl _) (by unfold maxLen; omega) rfl) (by simp)).mono ?_
          rintro e w10 ⟨rfl, hb10⟩
          have HB10 := Lib.hid (HB9.out.trans ((((Below.refl _ w9).alloc (Nat.le_refl _) _).trans (hb10.mono (by simp))).mono HB9.out.size))
          clear hb10
          go_wp2
          go_ret
          exact ⟨rfl, HB10.out⟩
  · go_wp2_with fail
    refine (lives_any w1).mono ?_
    rintro e w3 ⟨rfl, hb3⟩
    have HB3 := Lib.hid (HB1.out.trans (hb3.mono HB1.out.size))
    clear hb3
    go_wp2
    go_ret
    exact ⟨rfl, HB3.out⟩
end Go.Proofs.YtjbihammbmiieaaDoor
