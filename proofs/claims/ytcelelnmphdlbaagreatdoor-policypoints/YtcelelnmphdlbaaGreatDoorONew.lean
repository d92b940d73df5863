/- The walk of New. -/
import Derived.Test.YtcelelnmphdlbaaGreatDoorONew0
import Derived.StillTailTactics
namespace Go.Proofs.YtcelelnmphdlbaaGreatDoor.Od
open Go.RowKit

/-- a pair of points -/
def PairIn (N : Nat) (x y : Int) : Prop := 0 ≤ x ∧ x < (N : Int) ∧ 0 ≤ y ∧ y < (N : Int)
/-- f, u: the closure of what the pairs say, and its reverse -/
def Built (N : Nat) (p q : Nat → Int) (len : Nat) (f u : Nat → Nat) : Prop := ∃ f0, M.PInv N p q len f0 ∧ M.CInv N f0 N f ∧ M.RInv N f N 0 u
/-- what New answers: for N from 1 to 32 -/
def NewPost (w : World) (N : Nat) (p q : Nat → Int) (len : Nat) (e : Ending) (w' : World) : Prop :=
  Below w.heap.size w w' ∧
  ((e = .returned (.tuple #[.pointer none, .int .i64 1]) ∧ ∃ i, i < len ∧ ¬ PairIn N (p i) (q i)) ∨
   ((∀ i, i < len → PairIn N (p i) (q i)) ∧ ∃ f u, Built N p q len f u ∧
    ((e = .returned (.tuple #[.pointer none, .int .i64 2]) ∧ ¬ M.LatOK N f u) ∨
     (M.LatOK N f u ∧ ∃ o ba bu, e = .returned (.tuple #[.pointer (some ⟨o, 0, none⟩), .int .i64 0]) ∧ w.heap.size ≤ o ∧ o < w'.heap.size ∧ OrdAt w' o N ba bu f u))))

set_option maxRecDepth 100000 in
set_option maxHeartbeats 2000000 in
theorem new_any (w : World) (N : Nat) (ao : Option Addr) (len cap : Nat) (p q : Nat → Int) (h1 : 1 ≤ N) (h32 : N ≤ 32) (hlen : len ≤ 140737488351232) (hps : PairsAt w ao len p q) :
    Calls Tryz.prog 8 #[.int .i64 (N : Int), .slice ao len cap] w (NewPost w N p q len) := by
  have HPS := Lib.hid hps; clear hps
  have hmk := run_make_row' (P := Tryz.prog) 73 77 (.int .u32 0) 4 Tryz.underlying73 Tryz.info77 rfl .i64 .i64 N (by omega) (by omega)
  have t1 : decide ((N : Int) < 1) = false := by simp; omega
  have t2 : decide ((32 : Int) < (N : Int)) = false := by simp; omega
  go_enter Tryz.func8, Tryz.ntmps8
  go_upto_region 3 with fail
  go_cut [6] (fun s wx => ∃ o ba bu, s = .pointer (some ⟨o, 0, none⟩) ∧ Mk w N o ba bu (fun _ => 0) wx)
  case first =>
    go_region
    · go_wp2_with fail
      go_meet
      exact ⟨w.heap.size + 2, w.heap.size, w.heap.size + 1, rfl, (mk_made w N true).drew⟩
    · go_wp2_with fail
      go_meet
      exact ⟨w.heap.size + 2, w.heap.size + 1, w.heap.size, rfl, (mk_made w N false).drew⟩
  case rest =>
    obtain ⟨o, ba, bu, rfl, hmk0⟩ := hcut
    clear hmk
    go_wp2
    go_loopw [23] (fun i wr => ∃ k : Nat, k ≤ N ∧ i = .int .i64 k ∧ Mk w N o ba bu (M.initTo k) wr) (fun i _ => N - (intOf i).toNat)
    case atStart => exact ⟨0, Nat.zero_le _, rfl, hmk0.congr (fun i _ => by simp [M.initTo])⟩
    case round =>
      clear hmk0
      obtain ⟨k, hk, rfl, hm⟩ := hrel
      have hc0 := hm.c0
      by_cases hlt : k < N
      · have hck := hm.ra k hlt
        have hfk := hm.fa k hlt
        go_wp2_with fail
        go_region_with (go_at_call 20; refine (only_any _ _ (by omega) (by omega)).mono ?_; rintro e w' ⟨rfl, rfl⟩; simp only [Int.toNat_natCast])
        all_goals
          go_wp2
          go_roundw
          case rel => exact ⟨k + 1, by omega, by go_num, ((hm.set k (M.bit k)).drew).congr (fun i _ => (M.initTo_succ k i).symm)⟩
          case measure => simp [intOf]; omega
      · have hkn : N = k := by omega
        subst hkn
        have hmN := hm
        clear hm hc0 hlt hk
        go_wp2
        go_loopw [37] (fun i wr => ∃ (k : Nat) (f : Nat → Nat), k ≤ len ∧ i = .int .i64 k ∧ (∀ j, j < k → PairIn N (p j) (q j)) ∧ M.PInv N p q k f ∧ Mk w N o ba bu f wr) (fun i _ => len - (intOf i).toNat)
        case atStart => exact ⟨0, _, Nat.zero_le _, rfl, fun j hj => by omega, M.PInv.start N p q, hmN⟩
        case round =>
          clear hmN
          obtain ⟨k, f, hk, rfl, hin, hpi, hm⟩ := hrel
          have HIN := Lib.hid hin; clear hin
          have hc0 := hm.c0
          have hsz := hm.hi
          by_cases hlt : k < len
          · obtain ⟨b, off, rfl, hb, hcp, hcq⟩ := HPS.out k hlt
            have hcp' : wr.cell? ⟨b, off + k * 2, none⟩ = some (.int .i64 (p k)) := by rw [hm.below.cell hb]; exact hcp
            have hcq' : wr.cell? ⟨b, off + k * 2 + 1, none⟩ = some (.int .i64 (q k)) := by rw [hm.below.cell hb]; exact hcq
            clear hcp hcq
            by_cases hP : PairIn N (p k) (q k)
            · obtain ⟨x, ex⟩ := Int.eq_ofNat_of_zero_le hP.1
              obtain ⟨y, ey⟩ := Int.eq_ofNat_of_zero_le hP.2.2.1
              rw [ex] at hcp'
              rw [ey] at hcq'
              have hx : x < N := by have := hP.2.1; omega
              have hy : y < N := by have := hP.2.2.2; omega
              have HX := Lib.hid ex; clear ex
              have HY := Lib.hid ey; clear ey
              have HP := Lib.hid hP; clear hP
              have hcx := hm.ra x hx
              have hfx := hm.fa x hx
              have hbx : ba < wr.heap.size := hsz.2.1
              have hox : o < wr.heap.size := hsz.1
              have ix : (x : Int) < (N : Int) := by omega
              have iy : (y : Int) < (N : Int) := by omega
              have e1 := hasB_true (n := N) (a := (x : Int)) (by omega) (by omega)
              have e2 := hasB_true (n := N) (a := (y : Int)) (by omega) (by omega)
              have hor := u32_or_nat (f x) (M.bit y) (lt32 h32 (hpi.lim x hx)) (M.bit_lt32 (by omega))
              go_wp2_with fail
              refine (has_any _ o N ba _ (hm.alloc _).c0).mono ?_
              rintro e w' ⟨rfl, rfl⟩
              rw [e1]
              go_wp2_with fail
              refine (has_any _ o N ba _ (hm.alloc _).c0).mono ?_
              rintro e w' ⟨rfl, rfl⟩
              rw [e2]
              go_wp2_with fail
              have hmA := hm.alloc (.cells #[.int .i64 (x : Int), .int .i64 (y : Int)] 27)
              have a0 : (wr.alloc (.cells #[.int .i64 (x : Int), .int .i64 (y : Int)] 27)).cell? ⟨wr.heap.size, 0, none⟩ = some (.int .i64 (x : Int)) := by rw [World.cell?_alloc_new]; rfl
              have a1 : (wr.alloc (.cells #[.int .i64 (x : Int), .int .i64 (y : Int)] 27)).cell? ⟨wr.heap.size, 1, none⟩ = some (.int .i64 (y : Int)) := by rw [World.cell?_alloc_new]; rfl
              generalize wr.alloc (.cells #[.int .i64 (x : Int), .int .i64 (y : Int)] 27) = wa at *
              clear hcx hfx hbx hox hcp' hcq' hc0
              have hc0 := hmA.c0
              have hcx := hmA.ra x hx
              have hfx := hmA.fa x hx
              clear hm
              generalize wr.heap.size = s9 at *
              go_still_tail 13, (by kernel_rfl)
              still_call ((only_any _ _ (by omega) (by omega)).mono fun e w' ⟨he, hw⟩ => ⟨he, hw.symm⟩)
              simp only [Int.toNat_natCast]
              repeat still_step
              refine wpStill_nil ?_
              go_wp2
              go_roundw
              case rel =>
                refine ⟨k + 1, _, by omega, by go_num, ?_, hpi.step hx hy HX.out HY.out, (hmA.set x (f x ||| M.bit y)).drew⟩
                intro j hj
                by_cases e : j = k
                · subst e; exact HP.out
                · exact HIN.out j (by omega)
              case measure => simp [intOf]; omega
            · have fin : ∃ i, i < len ∧ ¬ PairIn N (p i) (q i) := ⟨k, hlt, hP⟩
              have FIN := Lib.hid fin; clear fin
              have HP := Lib.hid hP; clear hP
              go_wp2_with fail
              refine (has_any _ o N ba _ (hm.alloc _).c0).mono ?_
              rintro e w' ⟨rfl, rfl⟩
              cases e1 : hasB N (p k) with
              | false =>
                clear e1
                go_wp2
                go_ret2
                exact ⟨(hm.alloc _).below, Or.inl ⟨rfl, FIN.out⟩⟩
              | true =>
                have e2 : hasB N (q k) = false := by
                  cases e2 : hasB N (q k) with
                  | false => rfl
                  | true => exact absurd ⟨(of_hasB e1).1, (of_hasB e1).2, (of_hasB e2).1, (of_hasB e2).2⟩ HP.out
                have E2 := Lib.hid e2
                clear e1 e2
                go_wp2_with fail
                refine (has_any _ o N ba _ (hm.alloc _).c0).mono ?_
                rintro e w' ⟨rfl, rfl⟩
                rw [E2.out]
                go_wp2
                go_ret2
                exact ⟨(hm.alloc _).below, Or.inl ⟨rfl, FIN.out⟩⟩
          · have hkl : len = k := by omega
            subst hkl
            have hfl := hpi.lim
            go_wp2_with fail
            refine (complete_any _ o N ba f h32 hc0 hm.ra hm.oa hpi.lim hm.fa).mono ?_
            rintro e w1 ⟨rfl, g, hg, hrg, ho1⟩
            have hc0' : w1.cell? ⟨o, 0, none⟩ = some (.slice (some ⟨ba, 0, none⟩) N N) := by rw [ho1.cell hm.oa]; exact hm.c0
            have hc1' : w1.cell? ⟨o, 1, none⟩ = some (.slice (some ⟨bu, 0, none⟩) N N) := by rw [ho1.cell hm.oa]; exact hm.c1
            have hru' := ho1.row (Ne.symm hm.ab) hm.ru
            have hfu' : ∀ i, i < N → w1.frozen? ⟨bu, i, none⟩ = false := fun i hi => by rw [ho1.frozen]; exact hm.fu i hi
            have HFU := Lib.hid hfu'; clear hfu' hfl hc0
            go_wp2_with fail
            refine (reverse_any _ o N ba bu g h32 hc0' hc1' hrg hru' hm.ou hm.ab hg.lim HFU.out).mono ?_
            rintro e w2 ⟨rfl, u, hu, hrv, ho2⟩
            have hord : OrdAt w2 o N ba bu g u := ⟨h32, by rw [ho2.cell hm.ou]; exact hc0', by rw [ho2.cell hm.ou]; exact hc1', ho2.row hm.ab hrg, hrv, fun i hi => lt32 h32 (hg.lim i hi), fun i hi => lt32 h32 (hu.lim i hi)⟩
            have hbel : Below w.heap.size w w2 := (hm.below.trans (ho1.below hm.lo.2.1)).trans (ho2.below hm.lo.2.2)
            have hbuilt : Built N p q len g u := ⟨f, hpi, hg, hu⟩
            have hsz2 : o < w2.heap.size := by rw [ho2.size, ho1.size]; exact hsz.1
            clear hc0' hc1'
            go_wp2_with fail
            refine (isLattice_any _ o N ba bu g u hord).mono ?_
            rintro e w3 ⟨hres, nd, rfl⟩
            rcases hres with ⟨rfl, hok⟩ | ⟨rfl, hno⟩
            · go_wp2
              go_ret2
              exact ⟨below_drewN hbel _, Or.inr ⟨HIN.out, g, u, hbuilt, Or.inr ⟨hok, o, ba, bu, rfl, hm.lo.1, by simpa using hsz2, hord.drewN _⟩⟩⟩
            · go_wp2
              go_ret2
              exact ⟨below_drewN hbel _, Or.inr ⟨HIN.out, g, u, hbuilt, Or.inl ⟨rfl, hno⟩⟩⟩
end Go.Proofs.YtcelelnmphdlbaaGreatDoor.Od
