/- The token that comes: the document's own way. -/
import Derived.Test.YtoeljmiefbaajaaDoorPlaces
import Derived.Test.YtoeljmiefbaajaaDoorOwnW
import Derived.IntWalk
namespace Go.Proofs.YtoeljmiefbaajaaDoor
open Go.RowKit

namespace Lx
theorem num_lt (l : B) (h : ∀ c ∈ l, digit c = true) (hl : l.length ≤ 18) : 0 ≤ number l ∧ number l < 10 ^ l.length := by
  have P := parse_from l 0 0 h (by decide) (by omega)
  have e : number l = ((l.foldl (fun (a : Nat) c => a * 10 + (c.toNat - 48)) 0 : Nat) : Int) := number_from l 0 h
  rw [e]
  have := P.2
  rw [Nat.zero_add] at this
  refine ⟨by omega, ?_⟩
  have h2 : ((10 ^ l.length : Nat) : Int) = (10 : Int) ^ l.length := by push_cast; rfl
  rw [← h2]; omega
theorem num_lt18 (l : B) (h : ∀ c ∈ l, digit c = true) (hl : l.length ≤ 17) : 0 ≤ number l ∧ number l < 100000000000000000 := by
  have := num_lt l h (by omega)
  refine ⟨this.1, ?_⟩
  have h2 : (10 : Int) ^ l.length ≤ 10 ^ 17 := by
    have : (10 : Nat) ^ l.length ≤ 10 ^ 17 := Nat.pow_le_pow_right (by omega) hl
    have h3 : ((10 ^ l.length : Nat) : Int) = (10 : Int) ^ l.length := by push_cast; rfl
    have h4 : ((10 ^ 17 : Nat) : Int) = (10 : Int) ^ 17 := by decide
    rw [← h3, ← h4]; exact Int.ofNat_le.2 this
  have h5 : (10 : Int) ^ 17 = 100000000000000000 := by decide
  omega
theorem num_step (l : B) (j : Nat) (c : UInt8) (r : B) (h : l.drop j = c :: r) : number (l.take (j + 1)) = 10 * number (l.take j) + ((c.toNat : Int) - 48) := by
  have e : l.take (j + 1) = l.take j ++ [c] := by
    rw [List.take_add, h]; rfl
  rw [e, number, List.foldl_append]; rfl
end Lx

def rgotV (s : ByteArray) : Lx.Got → Value
  | .bad e => .tuple #[.agg #[.int .i64 0, .string ⟨#[]⟩, .int .i64 0, .int .i64 0, .int .i64 0], .int .i64 0, .int .i64 e]
  | .tok k n v => .tuple #[.agg #[.int .i64 k, .string (s.extract 0 n), .int .i64 v, .int .i64 0, .int .i64 0], .int .i64 (n : Int), .int .i64 0]

/-- The number so far, in memory: the token (block w.heap.size + 1), and the result that is not yet laid. -/
structure NumSt (w : World) (TX : ByteArray) (acc : Int) (wr : World) : Prop where
  r : ∀ i, i < 5 → ∃ x, wr.cell? ⟨w.heap.size, i, none⟩ = some x
  rf : ∀ i, wr.frozen? ⟨w.heap.size, i, none⟩ = false
  t0 : wr.cell? ⟨w.heap.size + 1, 0, none⟩ = some (.int .i64 3)
  t1 : wr.cell? ⟨w.heap.size + 1, 1, none⟩ = some (.string TX)
  t2 : wr.cell? ⟨w.heap.size + 1, 2, none⟩ = some (.int .i64 acc)
  t3 : wr.cell? ⟨w.heap.size + 1, 3, none⟩ = some (.int .i64 0)
  t4 : wr.cell? ⟨w.heap.size + 1, 4, none⟩ = some (.int .i64 0)
  tf : ∀ i, wr.frozen? ⟨w.heap.size + 1, i, none⟩ = false
  bl : Below w.heap.size w wr
theorem NumSt.set {w : World} {TX : ByteArray} {acc : Int} {wr : World} (h : NumSt w TX acc wr) (x : Int) : NumSt w TX x ((wr.setCell ⟨w.heap.size + 1, 2, none⟩ (.int .i64 x)).drew) :=
  ⟨fun i hi => by obtain ⟨y, hy⟩ := h.r i hi; exact ⟨y, by show (wr.setCell _ _).cell? _ = _; rw [World.cell?_setCell_other _ _ _ _ (by simp)]; exact hy⟩, fun i => by simpa using h.rf i,
   by show (wr.setCell _ _).cell? _ = _; rw [World.cell?_setCell_other _ _ _ _ (by simp)]; exact h.t0, by show (wr.setCell _ _).cell? _ = _; rw [World.cell?_setCell_other _ _ _ _ (by simp)]; exact h.t1,
   by show (wr.setCell _ _).cell? _ = _; exact World.cell?_setCell_same _ _ _ h.t2, by show (wr.setCell _ _).cell? _ = _; rw [World.cell?_setCell_other _ _ _ _ (by simp)]; exact h.t3, by show (wr.setCell _ _).cell? _ = _; rw [World.cell?_setCell_other _ _ _ _ (by simp)]; exact h.t4,
   fun i => by simpa using h.tf i, (h.bl.setCell (by simp) _).drew⟩

set_option maxRecDepth 100000 in
set_option maxHeartbeats 4000000 in
theorem rone_any (s : ByteArray) (w : World) (hs : s.size ≤ 1000000) (hne : 0 < s.size) :
    Calls Tryd.prog 17 #[.string s] w fun e w' => e = .returned (rgotV s (Lx.one s.data.toList)) ∧ Below w.heap.size w w' := by
  obtain ⟨c, hc, hd⟩ := byte_at s 0 hne
  simp only [List.drop_zero] at hd
  have hone : Lx.one s.data.toList = if Lx.digit c then (if Lx.span false s.data.toList > 18 then .bad 6 else .tok 3 (Lx.span false s.data.toList) (Lx.number (s.data.toList.take (Lx.span false s.data.toList))))
      else if Lx.letter c then (if Lx.span true s.data.toList > 40 then .bad 6 else if Lx.own (s.data.toList.take (Lx.span true s.data.toList)) then .tok 2 (Lx.span true s.data.toList) 0 else .tok 1 (Lx.span true s.data.toList) 0)
      else if Lx.mark s.data.toList = 0 then .bad 4 else .tok 4 (Lx.mark s.data.toList) 0 := by
    rw [hd]; rfl
  have hbl : ∀ v, Below w.heap.size w (w.alloc (.cells v 50)) := fun v => (Below.refl w.heap.size w).alloc (Nat.le_refl _) _
  have HBL := Lib.hid hbl; clear hbl
  cases hL : Lx.letterZ (c.toNat : Int)
  · cases hD : Lx.digitZ (c.toNat : Int)
    · -- a mark
      have e : Lx.one s.data.toList = if Lx.mark s.data.toList = 0 then .bad 4 else .tok 4 (Lx.mark s.data.toList) 0 := by rw [hone, if_neg (by simp [Lx.digit, hD]), if_neg (by simp [Lx.letter, hL])]
      rw [e]
      have cM := fun w => rmark_any s w hne
      have hmle : Lx.mark s.data.toList ≤ s.size := by rw [size_len]; exact Lx.mark_le _
      generalize Lx.mark s.data.toList = n at *
      have CM := Lib.hid cM
      clear cM e hone hd
      by_cases h0 : n = 0
      · subst h0
        rw [if_pos rfl]
        show Calls _ _ _ _ fun e w' => e = .returned (.tuple #[.agg #[.int .i64 0, .string ⟨#[]⟩, .int .i64 0, .int .i64 0, .int .i64 0], .int .i64 0, .int .i64 4]) ∧ _
        go_enter Tryd.func17, Tryd.ntmps17
        go_wp2_with (first | (go_at_call 28; refine (rletter_any _ _).mono ?_; rintro e w' ⟨rfl, rfl⟩) | (go_at_call 29; refine (rdigit_any _ _).mono ?_; rintro e w' ⟨rfl, rfl⟩) | (go_at_call 31; refine (CM.out _).mono ?_; rintro e w' ⟨rfl, rfl⟩))
        exact bodyPost_ret (v := .tuple #[.agg #[.int .i64 0, .string ⟨#[]⟩, .int .i64 0, .int .i64 0, .int .i64 0], .int .i64 0, .int .i64 4]) (by simp [results, Tryd.results17, go_sem]) rfl ⟨rfl, HBL.out _⟩
      · rw [if_neg h0]
        have hn0 : ((n : Int) == 0) = false := by simp; omega
        show Calls _ _ _ _ fun e w' => e = .returned (.tuple #[.agg #[.int .i64 4, .string (s.extract 0 n), .int .i64 0, .int .i64 0, .int .i64 0], .int .i64 (n : Int), .int .i64 0]) ∧ _
        go_enter Tryd.func17, Tryd.ntmps17
        go_wp2_with (first | (go_at_call 28; refine (rletter_any _ _).mono ?_; rintro e w' ⟨rfl, rfl⟩) | (go_at_call 29; refine (rdigit_any _ _).mono ?_; rintro e w' ⟨rfl, rfl⟩) | (go_at_call 31; refine (CM.out _).mono ?_; rintro e w' ⟨rfl, rfl⟩))
        exact bodyPost_ret (v := .tuple #[.agg #[.int .i64 4, .string (s.extract 0 n), .int .i64 0, .int .i64 0, .int .i64 0], .int .i64 (n : Int), .int .i64 0]) (by simp [results, Tryd.results17, go_sem]) rfl ⟨rfl, HBL.out _⟩
    · -- a number
      have e : Lx.one s.data.toList = if Lx.span false s.data.toList > 18 then .bad 6 else .tok 3 (Lx.span false s.data.toList) (Lx.number (s.data.toList.take (Lx.span false s.data.toList))) := by rw [hone, if_pos (by simp [Lx.digit, hD])]
      rw [e]
      have cL := fun w => rlong_any s false w (by omega)
      have hle := Lx.span_le false s.data.toList
      rw [← size_len] at hle
      have hall := Lx.span_all false s.data.toList
      simp only [Bool.false_and, Bool.or_false] at hall
      generalize Lx.span false s.data.toList = n at *
      have CL := Lib.hid cL; have HALL := Lib.hid hall
      clear cL e hone hd hall
      by_cases h18 : n > 18
      · rw [if_pos h18]
        show Calls _ _ _ _ fun e w' => e = .returned (.tuple #[.agg #[.int .i64 0, .string ⟨#[]⟩, .int .i64 0, .int .i64 0, .int .i64 0], .int .i64 0, .int .i64 6]) ∧ _
        go_enter Tryd.func17, Tryd.ntmps17
        go_wp2_with (first | (go_at_call 28; refine (rletter_any _ _).mono ?_; rintro e w' ⟨rfl, rfl⟩) | (go_at_call 29; refine (rdigit_any _ _).mono ?_; rintro e w' ⟨rfl, rfl⟩) | (go_at_call 30; refine (CL.out _).mono ?_; rintro e w' ⟨rfl, rfl⟩))
        exact bodyPost_ret (v := .tuple #[.agg #[.int .i64 0, .string ⟨#[]⟩, .int .i64 0, .int .i64 0, .int .i64 0], .int .i64 0, .int .i64 6]) (by simp [results, Tryd.results17, go_sem]) rfl ⟨rfl, HBL.out _⟩
      · rw [if_neg h18]
        generalize hV : Lx.number (s.data.toList.take n) = V at *
        have HV := Lib.hid hV; clear hV
        show Calls _ _ _ _ fun e w' => e = .returned (.tuple #[.agg #[.int .i64 3, .string (s.extract 0 n), .int .i64 V, .int .i64 0, .int .i64 0], .int .i64 (n : Int), .int .i64 0]) ∧ _
        have hS : NumSt w (s.extract 0 n) 0 ((w.alloc (.cells #[.int .i64 0, .string ⟨#[]⟩, .int .i64 0, .int .i64 0, .int .i64 0] 50)).alloc (.cells #[.int .i64 3, .string (s.extract 0 n), .int .i64 0, .int .i64 0, .int .i64 0] 50)) := by
          refine ⟨fun i hi => ?_, fun i => by simp [go_sem], by simp [go_sem], by simp [go_sem], by simp [go_sem], by simp [go_sem], by simp [go_sem], fun i => by simp [go_sem], ((Below.refl _ _).alloc (Nat.le_refl _) _).alloc (by simp) _⟩
          rw [World.cell?_alloc_lt _ _ ⟨w.heap.size, i, none⟩ (by simp), World.cell?_alloc_new]
          have : i = 0 ∨ i = 1 ∨ i = 2 ∨ i = 3 ∨ i = 4 := by omega
          rcases this with rfl | rfl | rfl | rfl | rfl <;> exact ⟨_, rfl⟩
        go_enter Tryd.func17, Tryd.ntmps17
        go_wp2_with (first | (go_at_call 28; refine (rletter_any _ _).mono ?_; rintro e w' ⟨rfl, rfl⟩) | (go_at_call 29; refine (rdigit_any _ _).mono ?_; rintro e w' ⟨rfl, rfl⟩) | (go_at_call 30; refine (CL.out _).mono ?_; rintro e w' ⟨rfl, rfl⟩))
        generalize (w.alloc (.cells #[.int .i64 0, .string ⟨#[]⟩, .int .i64 0, .int .i64 0, .int .i64 0] 50)).alloc (.cells #[.int .i64 3, .string (s.extract 0 n), .int .i64 0, .int .i64 0, .int .i64 0] 50) = w1 at *
        go_loopw [11] (fun j wr => ∃ (m : Nat), j = .int .i64 (m : Int) ∧ m ≤ n ∧ NumSt w (s.extract 0 n) (Lx.number (s.data.toList.take m)) wr) (fun j _ => n - (intOf j).toNat)
        case atStart => exact ⟨0, rfl, Nat.zero_le _, hS⟩
        case round =>
          obtain ⟨m, rfl, hm, hN⟩ := hrel
          clear hS
          by_cases hmn : m < n
          · obtain ⟨d, hd, hdr⟩ := byte_at s m (by omega)
            have hstep := Lx.num_step _ m d _ hdr
            have hdig : Lx.digit d = true := by
              refine HALL.out d ?_
              have : s.data.toList.take n = s.data.toList.take m ++ (s.data.toList.drop m).take (n - m) := by rw [← List.take_add]; congr 1; omega
              rw [this, hdr]
              obtain ⟨q, hq⟩ : ∃ q, n - m = q + 1 := ⟨n - m - 1, by omega⟩
              rw [hq, List.take_succ_cons]; simp
            have hdz : 48 ≤ (d.toNat : Int) ∧ (d.toNat : Int) ≤ 57 := by simpa [Lx.digit, Lx.digitZ] using hdig
            have hac := Lx.num_lt18 (s.data.toList.take m) (fun x hx => HALL.out x (by
              have : s.data.toList.take n = s.data.toList.take m ++ (s.data.toList.drop m).take (n - m) := by rw [← List.take_add]; congr 1; omega
              rw [this]; exact List.mem_append_left _ hx)) (by rw [List.length_take]; omega)
            generalize Lx.number (s.data.toList.take m) = acc at *
            have hN2 := hN.set (10 * acc + ((d.toNat : Int) - 48))
            have t2 := hN.t2; have f2 := hN.tf 2
            have HN2 := Lib.hid hN2; have HST := Lib.hid hstep
            clear hN2 hstep hdr hdig hN
            have hz : ((d.toNat : Int) - 48) % 256 = (d.toNat : Int) - 48 := by omega
            have HZ := Lib.hid hz; clear hz
            have e2 : IntKind.i64.wrap (10 * acc) = 10 * acc := IntWalk.i64_in _ (by omega)
            have e3 : IntKind.i64.wrap (10 * acc + ((d.toNat : Int) - 48) % 256) = 10 * acc + ((d.toNat : Int) - 48) % 256 := IntWalk.i64_in _ (by omega)
            have e4 : IntKind.i64.wrap (((d.toNat : Int) - 48) % 256) = ((d.toNat : Int) - 48) % 256 := IntWalk.i64_in _ (by omega)
            have hms : n - (intOf (Value.int IntKind.i64 ((m : Int) + 1))).toNat < n - (intOf (Value.int IntKind.i64 (m : Int))).toNat := by simp [intOf]; omega
            have HMS := Lib.hid hms; clear hms
            clear HV CL HALL h18
            go_upto_region 19 with fail
            go_region
            go_wp2_with fail
            refine ⟨⟨m + 1, cast_succ m, by omega, ?_⟩, HMS.out⟩
            rw [HST.out]; exact HN2.out
          · have hmn' : m = n := by omega
            subst hmn'
            obtain ⟨x0, r0⟩ := hN.r 0 (by omega); obtain ⟨x1, r1⟩ := hN.r 1 (by omega); obtain ⟨x2, r2⟩ := hN.r 2 (by omega); obtain ⟨x3, r3⟩ := hN.r 3 (by omega); obtain ⟨x4, r4⟩ := hN.r 4 (by omega)
            have f0 := hN.rf 0; have f1 := hN.rf 1; have f2 := hN.rf 2; have f3 := hN.rf 3; have f4 := hN.rf 4
            have t0 := hN.t0; have t1 := hN.t1; have t2 := hN.t2; have t3 := hN.t3; have t4 := hN.t4
            have bl := hN.bl
            rw [HV.out] at t2
            clear hN HV CL HALL
            go_wp2
            refine bodyPost_ret (v := .tuple #[.agg #[.int .i64 3, .string (s.extract 0 m), .int .i64 V, .int .i64 0, .int .i64 0], .int .i64 (m : Int), .int .i64 0]) ?_ rfl ⟨rfl, ?_⟩
            · simp [results, Tryd.results17, go_sem, r0, r1, r2, r3, r4]
            · exact ((((bl.setCell (by simp) _).setCell (by simp) _).setCell (by simp) _).setCell (by simp) _).setCell (by simp) _
  · have hD : Lx.digitZ (c.toNat : Int) = false := by
      simp only [Lx.letterZ, Bool.or_eq_true, Bool.and_eq_true, decide_eq_true_eq, beq_iff_eq] at hL
      cases h : Lx.digitZ (c.toNat : Int)
      · rfl
      · simp only [Lx.digitZ, Bool.and_eq_true, decide_eq_true_eq] at h; omega
    have e : Lx.one s.data.toList = if Lx.span true s.data.toList > 40 then .bad 6 else if Lx.own (s.data.toList.take (Lx.span true s.data.toList)) then .tok 2 (Lx.span true s.data.toList) 0 else .tok 1 (Lx.span true s.data.toList) 0 := by rw [hone, if_neg (by simp [Lx.digit, hD]), if_pos (by simp [Lx.letter, hL])]
    rw [e]
    have cL := fun w => rlong_any s true w (by omega)
    have hle := Lx.span_le true s.data.toList
    rw [← size_len] at hle
    have cO := fun w => rown_any (s.extract 0 (Lx.span true s.data.toList)) w
    rw [head_list] at cO
    generalize Lx.span true s.data.toList = n at *
    generalize Lx.own (s.data.toList.take n) = b at *
    have CL := Lib.hid cL; have CO := Lib.hid cO
    clear cL cO e hone hd
    by_cases h40 : n > 40
    · rw [if_pos h40]
      show Calls _ _ _ _ fun e w' => e = .returned (.tuple #[.agg #[.int .i64 0, .string ⟨#[]⟩, .int .i64 0, .int .i64 0, .int .i64 0], .int .i64 0, .int .i64 6]) ∧ _
      go_enter Tryd.func17, Tryd.ntmps17
      go_wp2_with (first | (go_at_call 28; refine (rletter_any _ _).mono ?_; rintro e w' ⟨rfl, rfl⟩) | (go_at_call 29; refine (rdigit_any _ _).mono ?_; rintro e w' ⟨rfl, rfl⟩) | (go_at_call 30; refine (CL.out _).mono ?_; rintro e w' ⟨rfl, rfl⟩))
      exact bodyPost_ret (v := .tuple #[.agg #[.int .i64 0, .string ⟨#[]⟩, .int .i64 0, .int .i64 0, .int .i64 0], .int .i64 0, .int .i64 6]) (by simp [results, Tryd.results17, go_sem]) rfl ⟨rfl, HBL.out _⟩
    · rw [if_neg h40]
      cases b
      · show Calls _ _ _ _ fun e w' => e = .returned (.tuple #[.agg #[.int .i64 1, .string (s.extract 0 n), .int .i64 0, .int .i64 0, .int .i64 0], .int .i64 (n : Int), .int .i64 0]) ∧ _
        go_enter Tryd.func17, Tryd.ntmps17
        go_wp2_with (first | (go_at_call 28; refine (rletter_any _ _).mono ?_; rintro e w' ⟨rfl, rfl⟩) | (go_at_call 29; refine (rdigit_any _ _).mono ?_; rintro e w' ⟨rfl, rfl⟩) | (go_at_call 30; refine (CL.out _).mono ?_; rintro e w' ⟨rfl, rfl⟩) | (go_at_call 11; refine (CO.out _).mono ?_; rintro e w' ⟨rfl, rfl⟩))
        exact bodyPost_ret (v := .tuple #[.agg #[.int .i64 1, .string (s.extract 0 n), .int .i64 0, .int .i64 0, .int .i64 0], .int .i64 (n : Int), .int .i64 0]) (by simp [results, Tryd.results17, go_sem]) rfl ⟨rfl, HBL.out _⟩
      · show Calls _ _ _ _ fun e w' => e = .returned (.tuple #[.agg #[.int .i64 2, .string (s.extract 0 n), .int .i64 0, .int .i64 0, .int .i64 0], .int .i64 (n : Int), .int .i64 0]) ∧ _
        go_enter Tryd.func17, Tryd.ntmps17
        go_wp2_with (first | (go_at_call 28; refine (rletter_any _ _).mono ?_; rintro e w' ⟨rfl, rfl⟩) | (go_at_call 29; refine (rdigit_any _ _).mono ?_; rintro e w' ⟨rfl, rfl⟩) | (go_at_call 30; refine (CL.out _).mono ?_; rintro e w' ⟨rfl, rfl⟩) | (go_at_call 11; refine (CO.out _).mono ?_; rintro e w' ⟨rfl, rfl⟩))
        exact bodyPost_ret (v := .tuple #[.agg #[.int .i64 2, .string (s.extract 0 n), .int .i64 0, .int .i64 0, .int .i64 0], .int .i64 (n : Int), .int .i64 0]) (by simp [results, Tryd.results17, go_sem]) rfl ⟨rfl, HBL.out _⟩
end Go.Proofs.YtoeljmiefbaajaaDoor
