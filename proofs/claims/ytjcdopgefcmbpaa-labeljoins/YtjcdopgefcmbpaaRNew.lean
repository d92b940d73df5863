/- The walk of the document's own New. -/
import Derived.Test.YtjcdopgefcmbpaaRNew0
import Derived.Test.YtjcdopgefcmbpaaNew
import Derived.Deep.LoopGhost
import Derived.Deep.RegionLaw
namespace Go.Proofs.Ytjcdopgefcmbpaa
open Go.RowKit

theorem G1.start (w : World) (n : Nat) : G1 w n 0 (.slice none 0 0) (fun _ => 0) (fun _ _ => false)
    ((w.alloc (.cells #[.int .i64 0, .slice none 0 0] 33)).alloc (.cells #[.int .i64 (n : Int), .slice none 0 0] 33)) := by
  have o : ∀ i, ((w.alloc (.cells #[.int .i64 0, .slice none 0 0] 33)).alloc (.cells #[.int .i64 (n : Int), .slice none 0 0] 33)).cell? ⟨w.heap.size + 1, i, none⟩ = #[Value.int .i64 (n : Int), .slice none 0 0][i]? := by
    intro i
    simp
  have q : ∀ i, ((w.alloc (.cells #[.int .i64 0, .slice none 0 0] 33)).alloc (.cells #[.int .i64 (n : Int), .slice none 0 0] 33)).cell? ⟨w.heap.size, i, none⟩ = #[Value.int .i64 0, .slice none 0 0][i]? := by
    intro i
    rw [World.cell?_alloc_lt _ _ _ (by simp)]
    exact World.cell?_alloc_new w #[.int .i64 0, .slice none 0 0] 33 i
  refine ⟨o 0, o 1, ?_, q 0, q 1, ?_, World.ownsRow_nil _ _ _ _, fun i j hi => by omega, fun i j hi => by omega, fun i j hi => by omega, fun i hi => by omega, by simp, ((Below.refl _ w).alloc (Nat.le_refl _) _).alloc (by simp) _⟩
  · simp
  · intro i
    rw [World.frozen?_alloc_old _ _ _ (by simp)]
    exact World.frozen?_alloc_new _ _ _ _

/-- what the pairs say -/
def SaidR (p q : Nat → Int) (len : Nat) (a b : Nat) : Prop := a = b ∨ ∃ i, i < len ∧ p i = a ∧ q i = b
/-- what the document's New answers -/
def RNewPost (w : World) (n : Nat) (p q : Nat → Int) (len : Nat) (e : Ending) (w' : World) : Prop :=
  Below w.heap.size w w' ∧
  ((e = .returned (.tuple #[.agg #[.int .i64 0, .slice none 0 0], .bool false]) ∧ ∃ i, i < len ∧ ¬ PairIn n (p i) (q i)) ∨
   ((∀ i, i < len → PairIn n (p i) (q i)) ∧ ∃ g cap rows R, e = .returned (.tuple #[.agg #[.int .i64 (n : Int), .slice (some ⟨g, 0, none⟩) n cap], .bool true]) ∧ GridAt w' g n rows R ∧ M.Mid n (SaidR p q len) R ∧ M.TransR n R))

/-- behind the first k pairs -/
def PairsR (n : Nat) (p q : Nat → Int) (k : Nat) (R : Nat → Nat → Bool) : Prop := ∀ a b, a < n → b < n → (R a b = true ↔ SaidR p q k a b)
theorem PairsR.start (n : Nat) (p q : Nat → Int) : PairsR n p q 0 (fun i j => decide (i = j)) := by
  intro a b _ _
  rw [decide_eq_true_iff]
  constructor
  · intro h; exact Or.inl h
  · rintro (h | ⟨i, hi, _⟩)
    · exact h
    · omega
theorem PairsR.step {n k : Nat} {p q : Nat → Int} {R : Nat → Nat → Bool} (h : PairsR n p q k R) {x y : Nat} (ex : p k = x) (ey : q k = y) : PairsR n p q (k + 1) (upd R x y) := by
  intro a b ha hb
  unfold upd
  split
  · rename_i e; obtain ⟨rfl, rfl⟩ := e
    exact ⟨fun _ => Or.inr ⟨k, by omega, ex, ey⟩, fun _ => rfl⟩
  · rename_i e
    rw [h a b ha hb]
    constructor
    · rintro (h1 | ⟨i, hi, h2, h3⟩)
      · exact Or.inl h1
      · exact Or.inr ⟨i, by omega, h2, h3⟩
    · rintro (h1 | ⟨i, hi, h2, h3⟩)
      · exact Or.inl h1
      · by_cases hik : i = k
        · subst hik
          rw [ex] at h2; rw [ey] at h3
          exact absurd ⟨(Int.ofNat.inj h2).symm, (Int.ofNat.inj h3).symm⟩ e
        · exact Or.inr ⟨i, by omega, h2, h3⟩
theorem PairsR.mid {n len : Nat} {p q : Nat → Int} {R : Nat → Nat → Bool} (h : PairsR n p q len R) : M.Mid n (SaidR p q len) R :=
  ⟨fun a b ha hb hr => (h a b ha hb).2 hr, fun _ t1 _ a b ha hb hs => t1 a b ha hb ((h a b ha hb).1 hs)⟩

theorem set_two (w : World) (b : Nat) (x y u v : Value) (h0 : w.cell? ⟨b, 0, none⟩ = some u) (h1 : w.cell? ⟨b, 1, none⟩ = some v) :
    ((w.setCell ⟨b, 0, none⟩ x).setCell ⟨b, 1, none⟩ y).cell? ⟨b, 0, none⟩ = some x ∧ ((w.setCell ⟨b, 0, none⟩ x).setCell ⟨b, 1, none⟩ y).cell? ⟨b, 1, none⟩ = some y := by
  have n1 : (⟨b, 1, none⟩ : Addr) ≠ ⟨b, 0, none⟩ := by intro hh; simp at hh
  have n0 : (⟨b, 0, none⟩ : Addr) ≠ ⟨b, 1, none⟩ := by intro hh; simp at hh
  refine ⟨?_, ?_⟩
  · rw [World.cell?_setCell_other _ _ _ _ n1]; exact World.cell?_setCell_same _ _ _ h0
  · refine World.cell?_setCell_same (u := v) _ _ _ ?_
    rw [World.cell?_setCell_other _ _ _ _ n0]; exact h1

theorem G1.grid_far {w0 : World} {n g cap : Nat} {rows : Nat → Nat} {R : Nat → Nat → Bool} {wr w' : World} (h : G1 w0 n n (.slice (some ⟨g, 0, none⟩) n cap) rows R wr) (hn : n ≤ 32) (hw : Only w0.heap.size wr w') : GridAt w' g n rows R := by
  have hg : w0.heap.size + 2 ≤ g := (h.own.lt g rfl).1
  refine ⟨hn, fun i hi => ?_, fun i j hi hj => ?_⟩
  · rw [hw.cell (by omega)]; exact h.head i hi
  · have := (h.far i hi).1
    rw [hw.cell (by omega)]; exact h.row i j hi hj

theorem two_new (w : World) (x y : Obj) : ((w.alloc x).alloc y).drew.heap[w.heap.size + 1]? = some y := by
  have h : ((w.alloc x).alloc y).heap[(w.alloc x).heap.size]? = some y := heap_alloc_new (w.alloc x) y
  rw [World.size_alloc] at h
  exact h

set_option maxHeartbeats 2000000 in
set_option maxRecDepth 100000 in
theorem rnew_any (w : World) (n : Nat) (ao : Option Addr) (len cap : Nat) (p q : Nat → Int) (h1 : 1 ≤ n) (h32 : n ≤ 32) (hlen : len ≤ 140737488351232) (hps : PairsAt w ao len p q) :
    Calls Try.prog 31 #[.int .i64 (n : Int), .slice ao len cap] w (RNewPost w n p q len) := by
  have HPS := Lib.hid hps; clear hps
  have hmk := run_make_row' (P := Try.prog) 45 4 (.bool false) 1 Try.underlying45 Try.info4 rfl .i64 .i64 n (by omega) (by omega)
  have hst := G1.start w n
  obtain ⟨i0, hi0, hz0, hz1, hz2⟩ := info_parts Try.info45
  go_enter Try.func31, Try.ntmps31
  go_wp2
  generalize ((w.alloc (.cells #[.int .i64 0, .slice none 0 0] 33)).alloc (.cells #[.int .i64 (n : Int), .slice none 0 0] 33)) = wst at *
  go_loopw [7] (fun i wr => ∃ (k : Nat) (v : Value) (rows : Nat → Nat), k ≤ n ∧ i = .int .i64 (k : Int) ∧ G1 w n k v rows (fun i j => decide (i = j)) wr) (fun i _ => n - (intOf i).toNat)
  case atStart => exact ⟨0, _, _, Nat.zero_le _, rfl, hst.congr (fun i j hi => by omega)⟩
  case round =>
    obtain ⟨k, v, rows, hk, rfl, hg⟩ := hrel
    have o1 := hg.o1
    have of := hg.of
    have hsz := hg.sz
    by_cases hlt : k < n
    · go_upto_region 5 with fail
      go_cut [27] (fun s wx => ∃ (g cap : Nat) (rows' : Nat → Nat), s = .slice (some ⟨g, 0, none⟩) (k + 1) cap ∧ G1 w n (k + 1) (.slice (some ⟨g, 0, none⟩) (k + 1) cap) rows' (fun i j => if i = k then false else decide (i = j)) wx)
      case first =>
        have hlo := hg.own.lt
        have HLO := Lib.hid hlo; clear hlo
        have s1 : ∀ X, (wr.alloc X).drew.cell? ⟨w.heap.size + 1, 1, none⟩ = some v ∧ (wr.alloc X).drew.frozen? ⟨w.heap.size + 1, 1, none⟩ = false := fun X =>
          ⟨(World.cell?_alloc_lt wr X ⟨w.heap.size + 1, 1, none⟩ (by simp; omega)).trans o1, (World.frozen?_alloc_old wr X ⟨w.heap.size + 1, 1, none⟩ (by simp; omega)).trans of⟩
        have s2 : ∀ X Y, ((wr.alloc X).alloc Y).drew.cell? ⟨w.heap.size + 1, 1, none⟩ = some v ∧ ((wr.alloc X).alloc Y).drew.frozen? ⟨w.heap.size + 1, 1, none⟩ = false := fun X Y =>
          ⟨(World.cell?_alloc_lt (wr.alloc X) Y ⟨w.heap.size + 1, 1, none⟩ (by simp; omega)).trans (s1 X).1, (World.frozen?_alloc_old (wr.alloc X) Y ⟨w.heap.size + 1, 1, none⟩ (by simp; omega)).trans (s1 X).2⟩
        have a1 : ∀ X, (wr.alloc X).cell? ⟨w.heap.size + 1, 1, none⟩ = some v := fun X => (s1 X).1
        have a2 : ∀ X Y, ((wr.alloc X).alloc Y).cell? ⟨w.heap.size + 1, 1, none⟩ = some v := fun X Y => (s2 X Y).1
        have S1 := Lib.hid s1; clear s1
        have S2 := Lib.hid s2; clear s2
        go_region_law (refine step_append_lies _ (by rfl) _ _ _ (by rfl) (w.heap.size + 2) 45 i0 _ 1 24 Try.underlying31 hi0 hz0 hz1 hz2 rfl (by omega) v k _ (by rfl) (((hg.own.alloc _).alloc _).drew) ⟨wr.heap.size + 1, 0, none⟩ 1 1 [.slice (some ⟨wr.heap.size, 0, none⟩) n n] (by rfl) (by rfl) (World.news_of_block (cs := #[.slice (some ⟨wr.heap.size, 0, none⟩) n n]) (t := 45) (fr := (0, 0)) (two_new wr _ _)) (by simp [Value.oneCell']) (by omega) (by unfold maxLen; omega) (by omega) (by simp; omega) (wr.heap.size + 2) (by simp) ?_; intro g cap w1 hown1 hgrow hat hlt'; have fz1 : w1.frozen? ⟨w.heap.size + 1, 1, none⟩ = false := (hgrow.frozen_far _ (by simp; omega) (fun e => by have := (HLO.out _ e.symm).1; simp at this)).trans (S2.out _ _).2; have fc1 : w1.cell? ⟨w.heap.size + 1, 1, none⟩ = some v := (hgrow.cell_far _ (by simp; omega) (fun e => by have := (HLO.out _ e.symm).1; simp at this)).trans (S2.out _ _).1)
        all_goals
          go_wp2_with fail
          go_meet
          exact ⟨g, cap, _, rfl, hg.push hown1 ⟨hgrow.os, hgrow.tape, hgrow.output, hgrow.size, hgrow.block⟩ hat⟩
      case rest =>
        clear o1 of hsz hg
        obtain ⟨g, cap, rows', rfl, hG⟩ := hcut
        have o1 := hG.o1
        have hd := hG.head k (by omega)
        have rk := hG.row k k (by omega) hlt
        have fk := hG.fz k k (by omega) hlt
        simp only [if_true] at rk
        go_wp2
        go_roundw
        case rel =>
          refine ⟨k + 1, _, rows', by omega, by go_num, (hG.set (a := k) (c := k) (by omega)).congr fun i j hi hj => ?_⟩
          unfold upd
          by_cases e : i = k
          · subst e
            by_cases e' : j = i
            · subst e'; simp
            · have e2 : ¬ i = j := fun h => e' h.symm
              simp [e', e2]
          · simp [e]
        case measure => simp [intOf]; omega
    · have hkn : n = k := by omega
      subst hkn
      clear hlt hk hst hmk hi0 hz0 hz1 hz2 o1 of hsz
      obtain ⟨g, cap2, rfl, _, _⟩ := hg.own.form (by omega)
      go_wp2
      go_loopw [8] (fun i wr => ∃ (k : Nat) (R : Nat → Nat → Bool), k ≤ len ∧ i = .int .i64 (k : Int) ∧ (∀ j, j < k → PairIn n (p j) (q j)) ∧ PairsR n p q k R ∧ G1 w n n (.slice (some ⟨g, 0, none⟩) n cap2) rows R wr) (fun i _ => len - (intOf i).toNat)
      case atStart => exact ⟨0, _, Nat.zero_le _, rfl, fun j hj => by omega, PairsR.start n p q, hg⟩
      case round =>
        clear hg
        obtain ⟨k, R, hk, rfl, hin, hpr, hg⟩ := hrel
        have HIN := Lib.hid hin; clear hin
        by_cases hlt : k < len
        · obtain ⟨b, off, rfl, hb, hcp, hcq⟩ := HPS.out k hlt
          have hcp' : wr.cell? ⟨b, off + k * 2, none⟩ = some (.int .i64 (p k)) := by rw [hg.below.cell hb]; exact hcp
          have hcq' : wr.cell? ⟨b, off + k * 2 + 1, none⟩ = some (.int .i64 (q k)) := by rw [hg.below.cell hb]; exact hcq
          clear hcp hcq
          by_cases hP : PairIn n (p k) (q k)
          · obtain ⟨x, ex⟩ := Int.eq_ofNat_of_zero_le hP.1
            obtain ⟨y, ey⟩ := Int.eq_ofNat_of_zero_le hP.2.2.1
            rw [ex] at hcp'
            rw [ey] at hcq'
            have hx : x < n := by have := hP.2.1; omega
            have hy : y < n := by have := hP.2.2.2; omega
            have HX := Lib.hid ex; clear ex
            have HY := Lib.hid ey; clear ey
            have HP := Lib.hid hP; clear hP
            have o1 := hg.o1
            have hd := hg.head x hx
            have rk := hg.row x y hx hy
            have fk := hg.fz x y hx hy
            have t1 : decide ((x : Int) < 0) = false := by simp
            have t2 : decide ((y : Int) < 0) = false := by simp
            have t3 : decide ((n : Int) ≤ (x : Int)) = false := by simp; omega
            have t4 : decide ((n : Int) ≤ (y : Int)) = false := by simp; omega
            go_wp2
            go_roundw
            case rel =>
              refine ⟨k + 1, _, by omega, by go_num, ?_, hpr.step HX.out HY.out, hg.set hx⟩
              intro j hj
              by_cases e : j = k
              · subst e; exact HP.out
              · exact HIN.out j (by omega)
            case measure => simp [intOf]; omega
          · have fin : ∃ i, i < len ∧ ¬ PairIn n (p i) (q i) := ⟨k, hlt, hP⟩
            have FIN := Lib.hid fin; clear fin
            go_upto_region 12 with fail
            go_cut [67] (fun s wx => s = .bool true ∧ wx = wr)
            case first =>
              by_cases t1 : p k < 0
              · have t1' : decide (p k < 0) = true := by simpa using t1
                go_wp2_with fail
                go_meet
                exact ⟨rfl, rfl⟩
              · have t1' : decide (p k < 0) = false := by simpa using t1
                by_cases t2 : q k < 0
                · have t2' : decide (q k < 0) = true := by simpa using t2
                  go_wp2_with fail
                  go_meet
                  exact ⟨rfl, rfl⟩
                · have t2' : decide (q k < 0) = false := by simpa using t2
                  by_cases t3 : (n : Int) ≤ p k
                  · have t3' : decide ((n : Int) ≤ p k) = true := by simpa using t3
                    go_wp2_with fail
                    go_meet
                    exact ⟨rfl, rfl⟩
                  · have t3' : decide ((n : Int) ≤ p k) = false := by simpa using t3
                    have t4' : decide ((n : Int) ≤ q k) = true := by
                      have : (n : Int) ≤ q k := by
                        by_cases t4 : (n : Int) ≤ q k
                        · exact t4
                        · exact absurd ⟨by omega, by omega, by omega, by omega⟩ hP
                      simpa using this
                    go_wp2_with fail
                    go_meet
                    exact ⟨rfl, rfl⟩
            case rest =>
              obtain ⟨rfl, hw⟩ := hcut
              subst hw
              clear hP hcp' hcq'
              have q0 := hg.q0
              have q1 := hg.q1
              have f0 := hg.qf 0
              have f1 := hg.qf 1
              go_wp2
              have z := set_two wc w.heap.size (.int .i64 0) (.slice none 0 0) _ _ q0 q1
              have hbl : Below w.heap.size w ((wc.setCell ⟨w.heap.size, 0, none⟩ (.int .i64 0)).setCell ⟨w.heap.size, 1, none⟩ (.slice none 0 0)) := (hg.below.setCell (by simp) _).setCell (by simp) _
              clear q0 q1 f0 f1
              generalize (wc.setCell ⟨w.heap.size, 0, none⟩ (.int .i64 0)).setCell ⟨w.heap.size, 1, none⟩ (.slice none 0 0) = wz at *
              exact bodyPost_ret (v := .tuple #[.agg #[.int .i64 0, .slice none 0 0], .bool false]) (by simp [results, Try.results31, go_sem, z.1, z.2]) rfl ⟨hbl, Or.inl ⟨rfl, FIN.out⟩⟩
        · have hkl : len = k := by omega
          subst hkl
          clear hlt hk
          have hmid := hpr.mid
          go_wp2
          go_loopg [11] (2 * M.cntF n R + 1) (fun gk s wr => ∃ (m : Bool) (R : Nat → Nat → Bool), s = .bool m ∧ G1 w n n (.slice (some ⟨g, 0, none⟩) n cap2) rows R wr ∧ M.Mid n (SaidR p q len) R ∧ (m = false → M.TransR n R) ∧ Hid (gk = 2 * M.cntF n R + (if m then 1 else 0)))
          case atStart => exact ⟨true, R, rfl, hg, hmid, (fun h => by cases h), rfl⟩
          case round =>
            clear hg hmid hpr
            obtain ⟨m, R, rfl, hg, hmid, htr, HK⟩ := hrel
            cases m with
            | false =>
              have HT := Lib.hid (htr rfl); clear htr
              have q0 := hg.q0
              have q1 := hg.q1
              have f0 := hg.qf 0
              have f1 := hg.qf 1
              have o0 := hg.o0
              have o1 := hg.o1
              go_wp2
              have z := set_two wr w.heap.size (.int .i64 (n : Int)) (.slice (some ⟨g, 0, none⟩) n cap2) _ _ q0 q1
              have hbl : Below w.heap.size w ((wr.setCell ⟨w.heap.size, 0, none⟩ (.int .i64 (n : Int))).setCell ⟨w.heap.size, 1, none⟩ (.slice (some ⟨g, 0, none⟩) n cap2)) := (hg.below.setCell (by simp) _).setCell (by simp) _
              have hgr := hg.grid_far h32 (((Only.refl _ wr).setCell 0 (.int .i64 (n : Int))).setCell 1 (.slice (some ⟨g, 0, none⟩) n cap2))
              clear q0 q1 f0 f1 o0 o1
              generalize (wr.setCell ⟨w.heap.size, 0, none⟩ (.int .i64 (n : Int))).setCell ⟨w.heap.size, 1, none⟩ (.slice (some ⟨g, 0, none⟩) n cap2) = wz at *
              exact bodyPost_ret (v := .tuple #[.agg #[.int .i64 (n : Int), .slice (some ⟨g, 0, none⟩) n cap2], .bool true]) (by simp [results, Try.results31, go_sem, z.1, z.2]) rfl ⟨hbl, Or.inr ⟨HIN.out, g, cap2, rows, R, rfl, hgr, hmid, HT.out⟩⟩
            | true =>
              clear htr
              obtain ⟨F, hF⟩ : ∃ F, F = M.cntF n R := ⟨_, rfl⟩
              have hp0 := M.Pass.start n R
              rw [← hF] at hp0
              have HG : Hid (gk = 2 * F + 1) := by rw [hF]; exact HK
              clear HK hF
              go_wp2
              go_loopw [11, 12] (fun s i wr => ∃ (a : Nat) (m : Bool) (R : Nat → Nat → Bool), a ≤ n ∧ i = .int .i64 (a : Int) ∧ s = .bool m ∧ G1 w n n (.slice (some ⟨g, 0, none⟩) n cap2) rows R wr ∧ M.Mid n (SaidR p q len) R ∧ M.Pass n F a 0 0 m R) (fun _ i _ => n - (intOf i).toNat)
              case atStart => exact ⟨0, false, R, Nat.zero_le _, rfl, rfl, hg, hmid, hp0⟩
              case round =>
                clear hg hmid hp0
                obtain ⟨a, m, R, ha, rfl, rfl, hg, hmid, hpa⟩ := hrel
                by_cases hla : a < n
                · go_wp2
                  go_loopw [11, 13] (fun s i wr => ∃ (b : Nat) (m : Bool) (R : Nat → Nat → Bool), b ≤ n ∧ i = .int .i64 (b : Int) ∧ s = .bool m ∧ G1 w n n (.slice (some ⟨g, 0, none⟩) n cap2) rows R wr ∧ M.Mid n (SaidR p q len) R ∧ M.Pass n F a b 0 m R) (fun _ i _ => n - (intOf i).toNat)
                  case atStart => exact ⟨0, m, R, Nat.zero_le _, rfl, rfl, hg, hmid, hpa⟩
                  case round =>
                    clear hg hmid hpa
                    obtain ⟨b, m, R, hb, rfl, rfl, hg, hmid, hpa⟩ := hrel
                    by_cases hlb : b < n
                    · go_wp2
                      go_loopw [11, 14] (fun s i wr => ∃ (c : Nat) (m : Bool) (R : Nat → Nat → Bool), c ≤ n ∧ i = .int .i64 (c : Int) ∧ s = .bool m ∧ G1 w n n (.slice (some ⟨g, 0, none⟩) n cap2) rows R wr ∧ M.Mid n (SaidR p q len) R ∧ M.Pass n F a b c m R) (fun _ i _ => n - (intOf i).toNat)
                      case atStart => exact ⟨0, m, R, Nat.zero_le _, rfl, rfl, hg, hmid, hpa⟩
                      case round =>
                        clear hg hmid hpa
                        obtain ⟨c, m, R, hc, rfl, rfl, hg, hmid, hpa⟩ := hrel
                        by_cases hlc : c < n
                        · have o1 := hg.o1
                          have ha1 := hg.head a hla
                          have hb1 := hg.head b hlb
                          have r1 := hg.row a b hla hlb
                          have r2 := hg.row b c hlb hlc
                          have r3 := hg.row a c hla hlc
                          have f3 := hg.fz a c hla hlc
                          have HG1 := Lib.hid hg; clear hg
                          cases e1 : R a b with
                          | false =>
                            rw [e1] at r1
                            have E1 := Lib.hid e1; clear e1
                            go_wp2
                            go_roundw
                            case rel => exact ⟨c + 1, m, R, by omega, by go_num, rfl, HG1.out, hmid, hpa.skip (fun h => by rw [E1.out] at h; cases h)⟩
                            case measure => simp [intOf]; omega
                          | true =>
                            rw [e1] at r1
                            have E1 := Lib.hid e1; clear e1
                            cases e2 : R b c with
                            | false =>
                              rw [e2] at r2
                              have E2 := Lib.hid e2; clear e2
                              go_wp2
                              go_roundw
                              case rel => exact ⟨c + 1, m, R, by omega, by go_num, rfl, HG1.out, hmid, hpa.skip (fun _ h => by rw [E2.out] at h; cases h)⟩
                              case measure => simp [intOf]; omega
                            | true =>
                              rw [e2] at r2
                              have E2 := Lib.hid e2; clear e2
                              cases e3 : R a c with
                              | true =>
                                rw [e3] at r3
                                have E3 := Lib.hid e3; clear e3
                                go_wp2
                                go_roundw
                                case rel => exact ⟨c + 1, m, R, by omega, by go_num, rfl, HG1.out, hmid, hpa.skip (fun _ _ => E3.out)⟩
                                case measure => simp [intOf]; omega
                              | false =>
                                rw [e3] at r3
                                have E3 := Lib.hid e3; clear e3
                                go_wp2
                                go_roundw
                                case rel => exact ⟨c + 1, true, _, by omega, by go_num, rfl, HG1.out.set hla, hmid.add hla hlb hlc E1.out E2.out, hpa.add hla hlc E3.out⟩
                                case measure => simp [intOf]; omega
                        · have hcn : n = c := by omega
                          subst hcn
                          go_wp2
                          go_roundw
                          case rel => exact ⟨b + 1, m, R, by omega, by go_num, rfl, hg, hmid, hpa.nextB⟩
                          case measure => simp [intOf]; omega
                    · have hbn : n = b := by omega
                      subst hbn
                      go_wp2
                      go_roundw
                      case rel => exact ⟨a + 1, m, R, by omega, by go_num, rfl, hg, hmid, hpa.nextA⟩
                      case measure => simp [intOf]; omega
                · have han : n = a := by omega
                  subst han
                  go_wp2
                  go_roundg (2 * M.cntF n R + (if m then 1 else 0))
                  case measure =>
                    have hg' := HG.out
                    cases m with
                    | true => have := hpa.less rfl; simp; omega
                    | false => have := (hpa.same rfl).1; simp; omega
                  case rel => exact ⟨m, R, rfl, hg, hmid, (fun hm => by subst hm; exact hpa.done), rfl⟩
end Go.Proofs.Ytjcdopgefcmbpaa
