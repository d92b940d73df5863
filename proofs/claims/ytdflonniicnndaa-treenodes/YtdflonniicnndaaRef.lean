/- The document's own: an expression's nodes, and how deep it is. -/
import Derived.Test.YtdflonniicnndaaOf
namespace Go.Proofs.Ytdflonniicnndaa
open Go.RowKit Tn

theorem rdeep_no (mo : Option Addr) (len mc : Nat) (i : Int) (w : World) (h : ¬ (0 ≤ i ∧ i < (len : Int))) :
    Calls Try.prog 14 #[.slice mo len mc, .int .i64 i] w fun e w' => e = .returned (.int .i64 0) ∧ w = w' := by
  have H := Lib.hid h; clear h
  go_enter Try.func14, Try.ntmps14
  go_wp2_with (go_at_call 15; refine (in_no mo len mc i _ H.out).mono ?_; rintro e w' ⟨rfl, rfl⟩)
  go_ret
  exact ⟨rfl, rfl⟩

set_option maxRecDepth 100000 in
set_option maxHeartbeats 2000000 in
theorem rdeep_any (N : Nat) (mo : Option Addr) (mc : Nat) (ms : List Nd) (w : World) (hm : NodesAt N w mo ms) (hw : WF ms) (hg : Tn.Good ms) (hf : ∀ i, i < ms.length → (nd ms i).kids.length ≤ 2000) (i : Nat) : i < ms.length →
    Calls Try.prog 14 #[.slice mo ms.length mc, .int .i64 (i : Int)] w fun e w' => e = .returned (.int .i64 (M max ms i)) ∧ w = w' := by
  have HM := Lib.hid hm; have HW := Lib.hid hw; have HG := Lib.hid hg; have HF := Lib.hid hf
  clear hm hw hg hf
  induction i using Nat.strongRecOn with
  | _ i ih =>
    intro hi
    have IH := Lib.hid ih
    obtain ⟨b, o, ka, kc, rfl, hn⟩ := HM.out i hi
    have c5 := hn.c5
    have hkl := HF.out i hi
    have hkids := hn.kids
    have HKS := Lib.hid hkids
    have heq := M_eq max HW.out hi
    have HEQ := Lib.hid heq
    have hbd : ∀ j, j ≤ (nd ms i).kids.length → 0 ≤ upto max ms (nd ms i).kids j ∧ upto max ms (nd ms i).kids j ≤ 2000 := fun j hj => by
      have h1 := upto_max (ms := ms) (ks := (nd ms i).kids) (fun k hk => M_max HW.out _ (by have := kid_lt HW.out hi hk; omega)) j hj
      have h2 := partPl_le ms (nd ms i).kids hj
      have h3 := HG.out.2 i hi
      rw [Pl_eq HW.out hi, List.length_cons] at h3
      omega
    have HBD := Lib.hid hbd
    clear ih hn hkids heq hbd
    have hi' : (i : Int) < (ms.length : Int) := by omega
    go_enter Try.func14, Try.ntmps14
    go_wp2_with (go_at_call 15; refine (in_yes _ ms.length mc i _ (by omega) (by omega)).mono ?_; rintro e w' ⟨rfl, rfl⟩)
    go_loop [6, 7] (fun m k => ∃ j : Nat, j ≤ (nd ms i).kids.length ∧ k = .int .i64 j ∧ m = .int .i64 (upto max ms (nd ms i).kids j)) (fun _ k => (nd ms i).kids.length - (intOf k).toNat)
    case atStart => exact ⟨0, Nat.zero_le _, rfl, rfl⟩
    case round =>
      obtain ⟨j, hj, rfl, rfl⟩ := hrel
      obtain ⟨hb0, hb1⟩ := HBD.out j hj
      by_cases hjl : j < (nd ms i).kids.length
      · obtain ⟨b2, o2, rfl, _, hc2⟩ := HKS.out j hjl
        have hkm := kid_lt HW.out hi (kid_mem hjl)
        obtain ⟨q, hq⟩ : ∃ q : Nat, kid (nd ms i).kids j = (q : Int) := ⟨(kid (nd ms i).kids j).toNat, hkm.2.symm⟩
        have hqi : q < i := by omega
        have hM := M_max HW.out q (by omega)
        have hP := HG.out.2 q (by omega)
        have hs := upto_succ max ms hjl
        rw [hq] at hc2 hs
        rw [Int.toNat_natCast] at hs
        have HS := Lib.hid hs
        clear hs hq hkm
        go_wp2_with (go_at_call 14; refine (IH.out q hqi (by omega)).mono ?_; rintro e w' ⟨rfl, rfl⟩)
        all_goals
          go_round
          case rel => exact ⟨j + 1, by omega, by go_num, by rw [HS.out]; congr 1; omega⟩
          case measure => simp [intOf]; omega
      · obtain rfl : j = (nd ms i).kids.length := by omega
        go_wp2
        go_ret
        exact ⟨ret_int (by rw [HEQ.out]), rfl⟩
end Go.Proofs.Ytdflonniicnndaa
