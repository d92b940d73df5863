/- The walk of the law LabelJoins. -/
import Derived.Test.YtjcdopgefcmbpaaOf2
import Derived.Test.YtjcdopgefcmbpaaEx2
import Derived.Test.YtjcdopgefcmbpaaFloat
namespace Go.Proofs.Ytjcdopgefcmbpaa
open Go.RowKit

/-- what the law has at hand: the program's two orders and the document's, each in a variable of its own, and the labels -/
structure At2 (w : World) (B : Nat) (lo : Option Addr) (len : Nat) (P Q : Nat → Int) (o1 n1 a1 u1 b1 k1 : Nat) (f1 g1 r1 : Nat → Nat) (R1 : Nat → Nat → Bool) (o2 n2 a2 u2 b2 k2 : Nat) (f2 g2 r2 : Nat → Nat) (R2 : Nat → Nat → Bool) : Prop where
  s0 : w.cell? ⟨B, 0, none⟩ = some (.pointer (some ⟨o1, 0, none⟩))
  s1 : w.cell? ⟨B, 1, none⟩ = some (.pointer (some ⟨o2, 0, none⟩))
  e0 : w.cell? ⟨B + 1, 0, none⟩ = some (.int .i64 (n1 : Int))
  e1 : w.cell? ⟨B + 1, 1, none⟩ = some (.slice (some ⟨b1, 0, none⟩) n1 k1)
  e2 : w.cell? ⟨B + 1, 2, none⟩ = some (.int .i64 (n2 : Int))
  e3 : w.cell? ⟨B + 1, 3, none⟩ = some (.slice (some ⟨b2, 0, none⟩) n2 k2)
  two : TwoAt w o1 n1 a1 u1 f1 g1 o2 n2 a2 u2 f2 g2
  d1 : DocAt w b1 n1 r1 R1 f1 g1
  d2 : DocAt w b2 n2 r2 R2 f2 g2
  pairs : PairsAt w lo len P Q

theorem cell_below {w w' : World} {a : Addr} {v : Value} (hb : Below w.heap.size w w') (h : w.cell? a = some v) : w'.cell? a = some v := by
  rw [hb.cell (World.block_lt_of_cell? _ _ h)]; exact h

theorem At2.below {w w' : World} {B : Nat} {lo : Option Addr} {len : Nat} {P Q : Nat → Int} {o1 n1 a1 u1 b1 k1 : Nat} {f1 g1 r1 : Nat → Nat} {R1 : Nat → Nat → Bool} {o2 n2 a2 u2 b2 k2 : Nat} {f2 g2 r2 : Nat → Nat} {R2 : Nat → Nat → Bool}
    (h : At2 w B lo len P Q o1 n1 a1 u1 b1 k1 f1 g1 r1 R1 o2 n2 a2 u2 b2 k2 f2 g2 r2 R2) (hb : Below w.heap.size w w') : At2 w' B lo len P Q o1 n1 a1 u1 b1 k1 f1 g1 r1 R1 o2 n2 a2 u2 b2 k2 f2 g2 r2 R2 :=
  ⟨cell_below hb h.s0, cell_below hb h.s1, cell_below hb h.e0, cell_below hb h.e1, cell_below hb h.e2, cell_below hb h.e3, h.two.below hb, h.d1.below hb, h.d2.below hb, h.pairs.below hb⟩

set_option maxHeartbeats 4000000 in
set_option maxRecDepth 100000 in
theorem lj_any (w : World) (n m : Int) (hn1 : -128 ≤ n) (hn2 : n ≤ 127) (hm1 : -128 ≤ m) (hm2 : m ≤ 127) (ao bo : Option Addr) (l1 c1 l2 c2 : Nat) (p q p' q' : Nat → Int) (h1 : PairsAt w ao l1 p q) (h2 : PairsAt w bo l2 p' q')
    (lo : Option Addr) (len cap : Nat) (P Q : Nat → Int) (hl : PairsAt w lo len P Q) (t : Int) :
    Calls Try.prog 3 #[.agg #[.int .i8 n, .int .i8 m, .slice ao l1 c1, .slice bo l2 c2], .slice lo len cap, .int .i64 t] w fun e w' => e = .returned (.bool true) ∧ Below w.heap.size w w' := by
  have hbl : Below w.heap.size w (w.alloc (.cells #[.int .i8 n, .int .i8 m, .slice ao l1 c1, .slice bo l2 c2] 25)) := (Below.refl _ _).alloc (Nat.le_refl _) _
  have x0 : (w.alloc (.cells #[.int .i8 n, .int .i8 m, .slice ao l1 c1, .slice bo l2 c2] 25)).cell? ⟨w.heap.size, 0, none⟩ = some (.int .i8 n) := by rw [World.cell?_alloc_new]; rfl
  have x1 : (w.alloc (.cells #[.int .i8 n, .int .i8 m, .slice ao l1 c1, .slice bo l2 c2] 25)).cell? ⟨w.heap.size, 1, none⟩ = some (.int .i8 m) := by rw [World.cell?_alloc_new]; rfl
  have x2 : (w.alloc (.cells #[.int .i8 n, .int .i8 m, .slice ao l1 c1, .slice bo l2 c2] 25)).cell? ⟨w.heap.size, 2, none⟩ = some (.slice ao l1 c1) := by rw [World.cell?_alloc_new]; rfl
  have x3 : (w.alloc (.cells #[.int .i8 n, .int .i8 m, .slice ao l1 c1, .slice bo l2 c2] 25)).cell? ⟨w.heap.size, 3, none⟩ = some (.slice bo l2 c2) := by rw [World.cell?_alloc_new]; rfl
  have h1' := h1.below hbl
  have h2' := h2.below hbl
  have hl' := hl.below hbl
  clear h1 h2 hl
  have H1 := Lib.hid h1'; clear h1'
  have H2 := Lib.hid h2'; clear h2'
  have HL := Lib.hid hl'; clear hl'
  go_enter Try.func3, Try.ntmps3
  go_wp2_with fail
  generalize w.alloc (.cells #[.int .i8 n, .int .i8 m, .slice ao l1 c1, .slice bo l2 c2] 25) = w1 at *
  have hsz : w.heap.size < w1.heap.size := World.block_lt_of_cell? _ _ x0
  refine (lives2_any w1).mono ?_
  rintro e w2 ⟨rfl, hb2⟩
  have hw2 : Below w.heap.size w w2 := hbl.trans (hb2.mono hbl.size)
  by_cases hlen : len ≤ 20
  · have t1 : decide ((20 : Int) < (len : Int)) = false := by simp; omega
    have y0 : w2.cell? ⟨w.heap.size, 0, none⟩ = some (.int .i8 n) := by rw [hb2.cell hsz]; exact x0
    have y1 : w2.cell? ⟨w.heap.size, 1, none⟩ = some (.int .i8 m) := by rw [hb2.cell hsz]; exact x1
    have y2 : w2.cell? ⟨w.heap.size, 2, none⟩ = some (.slice ao l1 c1) := by rw [hb2.cell hsz]; exact x2
    have y3 : w2.cell? ⟨w.heap.size, 3, none⟩ = some (.slice bo l2 c2) := by rw [hb2.cell hsz]; exact x3
    clear x0 x1 x2 x3
    go_wp2_with fail
    refine (of2_any w2 n m hn1 hn2 hm1 hm2 ao bo l1 c1 l2 c2 p q p' q' (H1.out.below hb2) (H2.out.below hb2)).mono ?_
    rintro e w3 ⟨hb3, hres⟩
    have hw3 : Below w.heap.size w w3 := hw2.trans (hb3.mono hw2.size)
    have HL3 := Lib.hid ((HL.out.below hb2).below hb3)
    clear y0 y1 y2 y3 H1 H2 HL hb2 hb3 hw2 hsz hbl hn1 hn2 hm1 hm2
    rcases hres with ⟨P1, P2, k1, k2, a1, a2, j1, q1, j2, q2, rfl⟩ | ⟨n1, o1, a1, u1, b1, k1, f1, g1, r1, R1, n2, o2, a2, u2, b2, k2, f2, g2, r2, R2, rfl, ht, d1, d2⟩
    · go_wp2
      go_ret
      exact ⟨rfl, (hw3.alloc hw3.size _).alloc (by simp; have := hw3.size; omega) _⟩
    · have hbA : Below w3.heap.size w3 ((w3.alloc (.cells #[.pointer (some ⟨o1, 0, none⟩), .pointer (some ⟨o2, 0, none⟩)] 30)).alloc (.cells #[.int .i64 (n1 : Int), .slice (some ⟨b1, 0, none⟩) n1 k1, .int .i64 (n2 : Int), .slice (some ⟨b2, 0, none⟩) n2 k2] 35)) := ((Below.refl _ _).alloc (Nat.le_refl _) _).alloc (by simp) _
      have s0 : ((w3.alloc (.cells #[.pointer (some ⟨o1, 0, none⟩), .pointer (some ⟨o2, 0, none⟩)] 30)).alloc (.cells #[.int .i64 (n1 : Int), .slice (some ⟨b1, 0, none⟩) n1 k1, .int .i64 (n2 : Int), .slice (some ⟨b2, 0, none⟩) n2 k2] 35)).cell? ⟨w3.heap.size, 0, none⟩ = some (.pointer (some ⟨o1, 0, none⟩)) := by simp [go_sem]
      have s1 : ((w3.alloc (.cells #[.pointer (some ⟨o1, 0, none⟩), .pointer (some ⟨o2, 0, none⟩)] 30)).alloc (.cells #[.int .i64 (n1 : Int), .slice (some ⟨b1, 0, none⟩) n1 k1, .int .i64 (n2 : Int), .slice (some ⟨b2, 0, none⟩) n2 k2] 35)).cell? ⟨w3.heap.size, 1, none⟩ = some (.pointer (some ⟨o2, 0, none⟩)) := by simp [go_sem]
      have e0 : ((w3.alloc (.cells #[.pointer (some ⟨o1, 0, none⟩), .pointer (some ⟨o2, 0, none⟩)] 30)).alloc (.cells #[.int .i64 (n1 : Int), .slice (some ⟨b1, 0, none⟩) n1 k1, .int .i64 (n2 : Int), .slice (some ⟨b2, 0, none⟩) n2 k2] 35)).cell? ⟨w3.heap.size + 1, 0, none⟩ = some (.int .i64 (n1 : Int)) := by simp [go_sem]
      have e1 : ((w3.alloc (.cells #[.pointer (some ⟨o1, 0, none⟩), .pointer (some ⟨o2, 0, none⟩)] 30)).alloc (.cells #[.int .i64 (n1 : Int), .slice (some ⟨b1, 0, none⟩) n1 k1, .int .i64 (n2 : Int), .slice (some ⟨b2, 0, none⟩) n2 k2] 35)).cell? ⟨w3.heap.size + 1, 1, none⟩ = some (.slice (some ⟨b1, 0, none⟩) n1 k1) := by simp [go_sem]
      have e2 : ((w3.alloc (.cells #[.pointer (some ⟨o1, 0, none⟩), .pointer (some ⟨o2, 0, none⟩)] 30)).alloc (.cells #[.int .i64 (n1 : Int), .slice (some ⟨b1, 0, none⟩) n1 k1, .int .i64 (n2 : Int), .slice (some ⟨b2, 0, none⟩) n2 k2] 35)).cell? ⟨w3.heap.size + 1, 2, none⟩ = some (.int .i64 (n2 : Int)) := by simp [go_sem]
      have e3 : ((w3.alloc (.cells #[.pointer (some ⟨o1, 0, none⟩), .pointer (some ⟨o2, 0, none⟩)] 30)).alloc (.cells #[.int .i64 (n1 : Int), .slice (some ⟨b1, 0, none⟩) n1 k1, .int .i64 (n2 : Int), .slice (some ⟨b2, 0, none⟩) n2 k2] 35)).cell? ⟨w3.heap.size + 1, 3, none⟩ = some (.slice (some ⟨b2, 0, none⟩) n2 k2) := by simp [go_sem]
      have A : At2 ((w3.alloc (.cells #[.pointer (some ⟨o1, 0, none⟩), .pointer (some ⟨o2, 0, none⟩)] 30)).alloc (.cells #[.int .i64 (n1 : Int), .slice (some ⟨b1, 0, none⟩) n1 k1, .int .i64 (n2 : Int), .slice (some ⟨b2, 0, none⟩) n2 k2] 35)) w3.heap.size lo len P Q o1 n1 a1 u1 b1 k1 f1 g1 r1 R1 o2 n2 a2 u2 b2 k2 f2 g2 r2 R2 := ⟨s0, s1, e0, e1, e2, e3, ht.below hbA, d1.below hbA, d2.below hbA, HL3.out.below hbA⟩
      have hwA : Below w.heap.size w ((w3.alloc (.cells #[.pointer (some ⟨o1, 0, none⟩), .pointer (some ⟨o2, 0, none⟩)] 30)).alloc (.cells #[.int .i64 (n1 : Int), .slice (some ⟨b1, 0, none⟩) n1 k1, .int .i64 (n2 : Int), .slice (some ⟨b2, 0, none⟩) n2 k2] 35)) := hw3.trans (hbA.mono hw3.size)
      clear s0 s1 e0 e1 e2 e3 ht d1 d2 HL3 hbA hw3
      go_wp2
      generalize (w3.alloc (.cells #[.pointer (some ⟨o1, 0, none⟩), .pointer (some ⟨o2, 0, none⟩)] 30)).alloc (.cells #[.int .i64 (n1 : Int), .slice (some ⟨b1, 0, none⟩) n1 k1, .int .i64 (n2 : Int), .slice (some ⟨b2, 0, none⟩) n2 k2] 35) = wb at *
      go_loopw [36, 10] (fun i r wr => ∃ k : Nat, k ≤ len ∧ i = .int .i64 (k : Int) ∧ r = .bool (M.allB (fun i => hasB n1 (P i) && hasB n2 (Q i)) k) ∧ Below wb.heap.size wb wr) (fun i _ _ => len - (intOf i).toNat)
      case atStart => exact ⟨0, Nat.zero_le _, rfl, rfl, Below.refl _ _⟩
      case round =>
        obtain ⟨k, hk, rfl, rfl, hbr⟩ := hrel
        generalize hrt : M.allB (fun i => hasB n1 (P i) && hasB n2 (Q i)) k = rt
        have HRT := Lib.hid hrt; clear hrt
        by_cases hlt : k < len
        · obtain ⟨lb, loff, rfl, _, hcp, hcq⟩ := (A.below hbr).pairs k hlt
          go_upto_region 10 with fail
          have hbx : Below wb.heap.size wb (wr.alloc (.cells #[.int .i64 (P k), .int .i64 (Q k)] 39)) := hbr.alloc hbr.size _
          have xp : (wr.alloc (.cells #[.int .i64 (P k), .int .i64 (Q k)] 39)).cell? ⟨wr.heap.size, 0, none⟩ = some (.int .i64 (P k)) := by rw [World.cell?_alloc_new]; rfl
          have xq : (wr.alloc (.cells #[.int .i64 (P k), .int .i64 (Q k)] 39)).cell? ⟨wr.heap.size, 1, none⟩ = some (.int .i64 (Q k)) := by rw [World.cell?_alloc_new]; rfl
          generalize wr.alloc (.cells #[.int .i64 (P k), .int .i64 (Q k)] 39) = wx at *
          clear hcp hcq hbr
          generalize wr.heap.size = X at *
          clear wr
          have Ax := A.below hbx
          have y0 := fun x : Later wx => Later.cell Ax.s0 x
          have y1 := fun x : Later wx => Later.cell Ax.s1 x
          have y2 := fun x : Later wx => Later.cell Ax.e0 x
          have y3 := fun x : Later wx => Later.cell Ax.e1 x
          have y4 := fun x : Later wx => Later.cell Ax.e2 x
          have y5 := fun x : Later wx => Later.cell Ax.e3 x
          have y6 := fun x : Later wx => Later.cell xp x
          have y7 := fun x : Later wx => Later.cell xq x
          have q1 : ∀ x : Later wx, Calls Try.prog 6 #[.agg #[.pointer (some ⟨o1, 0, none⟩), .pointer (some ⟨o2, 0, none⟩)], .agg #[.int .i64 (P k), .int .i64 (Q k)]] x.wx fun e w'' => e = .returned (.bool (hasB n1 (P k) && hasB n2 (Q k))) ∧ ∃ y : Later wx, w'' = y.wx := fun x =>
            calls_later (right_any x.wx o1 n1 a1 u1 f1 g1 o2 n2 a2 u2 f2 g2 (P k) (Q k) (Ax.two.below x.le))
          have q2 : ∀ x : Later wx, Calls Try.prog 7 #[.agg #[.int .i64 (n1 : Int), .slice (some ⟨b1, 0, none⟩) n1 k1, .int .i64 (n2 : Int), .slice (some ⟨b2, 0, none⟩) n2 k2], .agg #[.int .i64 (P k), .int .i64 (Q k)]] x.wx fun e w'' => e = .returned (.bool (hasB n1 (P k) && hasB n2 (Q k))) ∧ ∃ y : Later wx, w'' = y.wx := fun x =>
            calls_later (rright_any x.wx n1 k1 n2 k2 (P k) (Q k) _ _ _ _)
          have K1 := Lib.hid q1; clear q1
          have K2 := Lib.hid q2; clear q2
          generalize hok : (hasB n1 (P k) && hasB n2 (Q k)) = ok at *
          have HOK := Lib.hid hok; clear hok
          refine wp_region_later (by kernel_rfl) (by kernel_rfl) ?_
          repeat (go_big_quiet_step (first | (go_at_call 6; with_reducible exact K1.out _) | (go_at_call 7; with_reducible exact K2.out _)))
          refine wpQuiet_nil ?_
          intro _ hw'
          obtain ⟨x, rfl⟩ := hw'
          have hx := x.le
          generalize x.wx = wy at *
          have Ay := Ax.below hx
          have yp := cell_below hx xp
          have yq := cell_below hx xq
          have hby : Below wb.heap.size wb wy := hbx.trans (hx.mono hbx.size)
          clear y0 y1 y2 y3 y4 y5 y6 y7 K1 K2 x Ax xp xq hx hbx
          go_upto_region 12 with fail
          go_cut [10] (fun r wz => r = .bool (rt && ok) ∧ Below wy.heap.size wy wz)
          case first =>
            have c0 := Ay.e0
            have c1 := Ay.e1
            have c2 := Ay.e2
            have c3 := Ay.e3
            cases rt with
            | true =>
              go_wp2_with fail
              refine (rright_any wy n1 k1 n2 k2 (P k) (Q k) _ _ _ _).mono ?_
              rintro e w' ⟨rfl, hbc⟩
              rw [HOK.out]
              go_wp2_with fail
              go_meet
              exact ⟨rfl, hbc⟩
            | false =>
              go_wp2_with fail
              go_meet
              exact ⟨rfl, Below.refl _ _⟩
          case rest =>
            obtain ⟨rfl, hbc⟩ := hcut
            have Ac := Ay.below hbc
            have yp' := cell_below hbc yp
            have yq' := cell_below hbc yq
            have hbcc : Below wb.heap.size wb wc := hby.trans (hbc.mono hby.size)
            clear yp yq Ay hbc hby
            have YP := Lib.hid yp'; clear yp'
            have YQ := Lib.hid yq'; clear yq'
            go_wp2
            go_loopw [55] (fun i wr => ∃ j : Nat, j ≤ len ∧ i = .int .i64 (j : Int) ∧ Below wc.heap.size wc wr) (fun i _ => len - (intOf i).toNat)
            case atStart => exact ⟨0, Nat.zero_le _, rfl, Below.refl _ _⟩
            case round =>
              obtain ⟨j, hj, rfl, hbj⟩ := hrel
              by_cases hlj : j < len
              · obtain ⟨lb', loff', hae, _, hcp, hcq⟩ := (Ac.below hbj).pairs j hlj
                obtain ⟨rfl, rfl⟩ : lb = lb' ∧ loff = loff' := by simpa using hae
                clear hae
                go_upto_region 16 with fail
                have hbx : Below wc.heap.size wc (wr.alloc (.cells #[.int .i64 (P j), .int .i64 (Q j)] 39)) := hbj.alloc hbj.size _
                have zp : (wr.alloc (.cells #[.int .i64 (P j), .int .i64 (Q j)] 39)).cell? ⟨wr.heap.size, 0, none⟩ = some (.int .i64 (P j)) := by rw [World.cell?_alloc_new]; rfl
                have zq : (wr.alloc (.cells #[.int .i64 (P j), .int .i64 (Q j)] 39)).cell? ⟨wr.heap.size, 1, none⟩ = some (.int .i64 (Q j)) := by rw [World.cell?_alloc_new]; rfl
                generalize wr.alloc (.cells #[.int .i64 (P j), .int .i64 (Q j)] 39) = wx at *
                clear hcp hcq hbj
                generalize wr.heap.size = Y at *
                have Ax := Ac.below hbx
                have xp := cell_below hbx YP.out
                have xq := cell_below hbx YQ.out
                have y0 := fun x : Later wx => Later.cell Ax.s0 x
                have y1 := fun x : Later wx => Later.cell Ax.s1 x
                have y2 := fun x : Later wx => Later.cell Ax.e0 x
                have y3 := fun x : Later wx => Later.cell Ax.e1 x
                have y4 := fun x : Later wx => Later.cell Ax.e2 x
                have y5 := fun x : Later wx => Later.cell Ax.e3 x
                have y6 := fun x : Later wx => Later.cell xp x
                have y7 := fun x : Later wx => Later.cell xq x
                have y8 := fun x : Later wx => Later.cell zp x
                have y9 := fun x : Later wx => Later.cell zq x
                have q1 : ∀ x : Later wx, Calls Try.prog 8 #[.agg #[.pointer (some ⟨o1, 0, none⟩), .pointer (some ⟨o2, 0, none⟩)], .agg #[.int .i64 (P k), .int .i64 (Q k)], .agg #[.int .i64 (P j), .int .i64 (Q j)]] x.wx fun e w'' => e = .returned (.bool (belowI n1 f1 (P k) (P j) && belowI n2 f2 (Q k) (Q j))) ∧ ∃ y : Later wx, w'' = y.wx := fun x =>
                  calls_later (lbelow_any x.wx o1 n1 a1 u1 f1 g1 o2 n2 a2 u2 f2 g2 (P k) (Q k) (P j) (Q j) (Ax.two.below x.le))
                have q2 : ∀ x : Later wx, Calls Try.prog 9 #[.agg #[.int .i64 (n1 : Int), .slice (some ⟨b1, 0, none⟩) n1 k1, .int .i64 (n2 : Int), .slice (some ⟨b2, 0, none⟩) n2 k2], .agg #[.int .i64 (P k), .int .i64 (Q k)], .agg #[.int .i64 (P j), .int .i64 (Q j)]] x.wx fun e w'' => e = .returned (.bool (belowI n1 f1 (P k) (P j) && belowI n2 f2 (Q k) (Q j))) ∧ ∃ y : Later wx, w'' = y.wx := fun x =>
                  calls_later (rbelow_any x.wx b1 n1 k1 r1 R1 f1 g1 b2 n2 k2 r2 R2 f2 g2 (P k) (Q k) (P j) (Q j) (Ax.d1.below x.le) (Ax.d2.below x.le))
                have K1 := Lib.hid q1; clear q1
                have K2 := Lib.hid q2; clear q2
                generalize (belowI n1 f1 (P k) (P j) && belowI n2 f2 (Q k) (Q j)) = bl at *
                refine wp_region_later (by kernel_rfl) (by kernel_rfl) ?_
                repeat (go_big_quiet_step (first | (go_at_call 8; with_reducible exact K1.out _) | (go_at_call 9; with_reducible exact K2.out _)))
                refine wpQuiet_nil ?_
                intro _ hw'
                obtain ⟨x, rfl⟩ := hw'
                go_wp2
                go_roundw
                case rel => exact ⟨j + 1, by omega, by go_num, hbx.trans (x.le.mono hbx.size)⟩
                case measure => simp [intOf]; omega
              · have Aj := Ac.below hbj
                have xp := cell_below hbj YP.out
                have xq := cell_below hbj YQ.out
                have hbw : Below wb.heap.size wb wr := hbcc.trans (hbj.mono hbcc.size)
                clear Ac YP YQ hbj hbcc
                have n32 := Aj.d2.grid.n32
                go_upto_region 19 with fail
                go_cut [15] (fun v wz => v = .bool (hasB n2 t && hasB n2 (Q k)) ∧ wz = wr)
                case first =>
                  have c2 := Aj.e2
                  by_cases h1 : 0 ≤ t
                  · have t1 : decide (0 ≤ t) = true := by simpa using h1
                    by_cases h2 : t < (n2 : Int)
                    · have t2 : decide (t < (n2 : Int)) = true := by simpa using h2
                      have e1 := hasB_true h1 h2
                      have E1 := Lib.hid e1; clear e1 h1 h2
                      by_cases h3 : 0 ≤ Q k
                      · have t3 : decide (0 ≤ Q k) = true := by simpa using h3
                        have e2 : hasB n2 (Q k) = decide (Q k < (n2 : Int)) := by simp [hasB, h3]
                        have E2 := Lib.hid e2; clear e2 h3
                        go_wp2_with fail
                        go_meet
                        exact ⟨by rw [E1.out, E2.out]; rfl, rfl⟩
                      · have t3 : decide (0 ≤ Q k) = false := by simpa using h3
                        have e2 : hasB n2 (Q k) = false := hasB_false (by omega)
                        have E2 := Lib.hid e2; clear e2 h3
                        go_wp2_with fail
                        go_meet
                        exact ⟨by rw [E1.out, E2.out]; rfl, rfl⟩
                    · have t2 : decide (t < (n2 : Int)) = false := by simpa using h2
                      have e1 : hasB n2 t = false := hasB_false (by omega)
                      have E1 := Lib.hid e1; clear e1 h1 h2
                      go_wp2_with fail
                      go_meet
                      exact ⟨by rw [E1.out]; rfl, rfl⟩
                  · have t1 : decide (0 ≤ t) = false := by simpa using h1
                    have e1 : hasB n2 t = false := hasB_false (by omega)
                    have E1 := Lib.hid e1; clear e1 h1
                    go_wp2_with fail
                    go_meet
                    exact ⟨by rw [E1.out]; rfl, rfl⟩
                case rest =>
                  obtain ⟨rfl, rfl⟩ := hcut
                  go_upto_region 20 with fail
                  cases hin : (hasB n2 t && hasB n2 (Q k)) with
                  | false =>
                    have etr : (!belowI n2 f2 t (Q k)) = true := by unfold belowI; rw [hin]; rfl
                    have q1 : ∀ x : Later wc, Calls Try.prog 10 #[.agg #[.pointer (some ⟨o1, 0, none⟩), .pointer (some ⟨o2, 0, none⟩)], .agg #[.int .i64 (P k), .int .i64 (Q k)], .int .i64 t] x.wx fun e w'' => e = .returned (.bool true) ∧ ∃ y : Later wc, w'' = y.wx := fun x => by
                      rw [← etr]; exact calls_later (trusted_any x.wx o1 n1 a1 u1 f1 g1 o2 n2 a2 u2 f2 g2 (P k) (Q k) t (Aj.two.below x.le))
                    clear etr hin
                    have y0 := fun x : Later wc => Later.cell Aj.s0 x
                    have y1 := fun x : Later wc => Later.cell Aj.s1 x
                    have y6 := fun x : Later wc => Later.cell xp x
                    have y7 := fun x : Later wc => Later.cell xq x
                    have K1 := Lib.hid q1; clear q1
                    refine wp_region_later (by kernel_rfl) (by kernel_rfl) ?_
                    repeat (go_big_quiet_step ((go_at_call 10; with_reducible exact K1.out _)))
                    refine wpQuiet_nil ?_
                    intro _ hw'
                    obtain ⟨x, rfl⟩ := hw'
                    go_wp2
                    go_roundw
                    case rel => exact ⟨k + 1, by omega, by go_num, by rw [M.allB, HRT.out, HOK.out], hbw.trans (x.le.mono hbw.size)⟩
                    case measure => simp [intOf]; omega
                  | true =>
                    rw [Bool.and_eq_true] at hin
                    obtain ⟨⟨t0, t1⟩, ⟨v0, v1⟩⟩ := And.intro (of_hasB hin.1) (of_hasB hin.2)
                    have etr : (!belowI n2 f2 t (Q k)) = !(R2 t.toNat (Q k).toNat) := by
                      unfold belowI
                      rw [hin.1, hin.2, Aj.d2.same.eq t.toNat (Q k).toNat (by omega) (by omega)]; rfl
                    have q1 : ∀ x : Later wc, Calls Try.prog 10 #[.agg #[.pointer (some ⟨o1, 0, none⟩), .pointer (some ⟨o2, 0, none⟩)], .agg #[.int .i64 (P k), .int .i64 (Q k)], .int .i64 t] x.wx fun e w'' => e = .returned (.bool (!(R2 t.toNat (Q k).toNat))) ∧ ∃ y : Later wc, w'' = y.wx := fun x => by
                      rw [← etr]; exact calls_later (trusted_any x.wx o1 n1 a1 u1 f1 g1 o2 n2 a2 u2 f2 g2 (P k) (Q k) t (Aj.two.below x.le))
                    clear etr hin
                    have gh := Aj.d2.grid.head t.toNat (by omega)
                    have gr := Aj.d2.grid.row t.toNat (Q k).toNat (by omega) (by omega)
                    generalize R2 t.toNat (Q k).toNat = rv at *
                    have y0 := fun x : Later wc => Later.cell Aj.s0 x
                    have y1 := fun x : Later wc => Later.cell Aj.s1 x
                    have y6 := fun x : Later wc => Later.cell xp x
                    have y7 := fun x : Later wc => Later.cell xq x
                    have y2 := fun x : Later wc => Later.cell Aj.e2 x
                    have y3 := fun x : Later wc => Later.cell Aj.e3 x
                    have y4 := fun x : Later wc => Later.cell gh x
                    have y5 := fun x : Later wc => Later.cell gr x
                    have K1 := Lib.hid q1; clear q1
                    refine wp_region_later (by kernel_rfl) (by kernel_rfl) ?_
                    repeat (go_big_quiet_step ((go_at_call 10; with_reducible exact K1.out _)))
                    refine wpQuiet_nil ?_
                    intro _ hw'
                    obtain ⟨x, rfl⟩ := hw'
                    go_wp2
                    go_roundw
                    case rel => exact ⟨k + 1, by omega, by go_num, by rw [M.allB, HRT.out, HOK.out], hbw.trans (x.le.mono hbw.size)⟩
                    case measure => simp [intOf]; omega
        · have hkn : k = len := by omega
          subst hkn
          have Ar := A.below hbr
          have KB : ∀ W, Below wr.heap.size wr W → (W.cell? ⟨w3.heap.size + 1, 0, none⟩ = some (.int .i64 (n1 : Int)) ∧ W.cell? ⟨w3.heap.size + 1, 1, none⟩ = some (.slice (some ⟨b1, 0, none⟩) n1 k1) ∧ W.cell? ⟨w3.heap.size + 1, 2, none⟩ = some (.int .i64 (n2 : Int)) ∧ W.cell? ⟨w3.heap.size + 1, 3, none⟩ = some (.slice (some ⟨b2, 0, none⟩) n2 k2) ∧ Below wr.heap.size wr W) := fun W h => ⟨cell_below h Ar.e0, cell_below h Ar.e1, cell_below h Ar.e2, cell_below h Ar.e3, h⟩
          have KA : ∀ W o, (W.cell? ⟨w3.heap.size + 1, 0, none⟩ = some (.int .i64 (n1 : Int)) ∧ W.cell? ⟨w3.heap.size + 1, 1, none⟩ = some (.slice (some ⟨b1, 0, none⟩) n1 k1) ∧ W.cell? ⟨w3.heap.size + 1, 2, none⟩ = some (.int .i64 (n2 : Int)) ∧ W.cell? ⟨w3.heap.size + 1, 3, none⟩ = some (.slice (some ⟨b2, 0, none⟩) n2 k2) ∧ Below wr.heap.size wr W) → ((W.alloc o).cell? ⟨w3.heap.size + 1, 0, none⟩ = some (.int .i64 (n1 : Int)) ∧ (W.alloc o).cell? ⟨w3.heap.size + 1, 1, none⟩ = some (.slice (some ⟨b1, 0, none⟩) n1 k1) ∧ (W.alloc o).cell? ⟨w3.heap.size + 1, 2, none⟩ = some (.int .i64 (n2 : Int)) ∧ (W.alloc o).cell? ⟨w3.heap.size + 1, 3, none⟩ = some (.slice (some ⟨b2, 0, none⟩) n2 k2) ∧ Below wr.heap.size wr (W.alloc o)) := fun W o h => KB _ (below_grow h.2.2.2.2 o)
          have KS : ∀ W W0 off v, (W0.cell? ⟨w3.heap.size + 1, 0, none⟩ = some (.int .i64 (n1 : Int)) ∧ W0.cell? ⟨w3.heap.size + 1, 1, none⟩ = some (.slice (some ⟨b1, 0, none⟩) n1 k1) ∧ W0.cell? ⟨w3.heap.size + 1, 2, none⟩ = some (.int .i64 (n2 : Int)) ∧ W0.cell? ⟨w3.heap.size + 1, 3, none⟩ = some (.slice (some ⟨b2, 0, none⟩) n2 k2) ∧ Below wr.heap.size wr W0) → (W.cell? ⟨w3.heap.size + 1, 0, none⟩ = some (.int .i64 (n1 : Int)) ∧ W.cell? ⟨w3.heap.size + 1, 1, none⟩ = some (.slice (some ⟨b1, 0, none⟩) n1 k1) ∧ W.cell? ⟨w3.heap.size + 1, 2, none⟩ = some (.int .i64 (n2 : Int)) ∧ W.cell? ⟨w3.heap.size + 1, 3, none⟩ = some (.slice (some ⟨b2, 0, none⟩) n2 k2) ∧ Below wr.heap.size wr W) → ((W.setCell ⟨W0.heap.size, off, none⟩ v).cell? ⟨w3.heap.size + 1, 0, none⟩ = some (.int .i64 (n1 : Int)) ∧ (W.setCell ⟨W0.heap.size, off, none⟩ v).cell? ⟨w3.heap.size + 1, 1, none⟩ = some (.slice (some ⟨b1, 0, none⟩) n1 k1) ∧ (W.setCell ⟨W0.heap.size, off, none⟩ v).cell? ⟨w3.heap.size + 1, 2, none⟩ = some (.int .i64 (n2 : Int)) ∧ (W.setCell ⟨W0.heap.size, off, none⟩ v).cell? ⟨w3.heap.size + 1, 3, none⟩ = some (.slice (some ⟨b2, 0, none⟩) n2 k2) ∧ Below wr.heap.size wr (W.setCell ⟨W0.heap.size, off, none⟩ v)) := fun W W0 off v h0 h => KB _ (h.2.2.2.2.setCell h0.2.2.2.2.size v)
          have KD := KB _ (Below.refl _ wr).drew
          have KR := KB _ (Below.refl _ wr)
          have q1 : ∀ W, (W.cell? ⟨w3.heap.size + 1, 0, none⟩ = some (.int .i64 (n1 : Int)) ∧ W.cell? ⟨w3.heap.size + 1, 1, none⟩ = some (.slice (some ⟨b1, 0, none⟩) n1 k1) ∧ W.cell? ⟨w3.heap.size + 1, 2, none⟩ = some (.int .i64 (n2 : Int)) ∧ W.cell? ⟨w3.heap.size + 1, 3, none⟩ = some (.slice (some ⟨b2, 0, none⟩) n2 k2) ∧ Below wr.heap.size wr W) → Calls Try.prog 11 #[.agg #[.int .i64 (n1 : Int), .slice (some ⟨b1, 0, none⟩) n1 k1]] W fun e w'' => e = .returned (.int .i64 (M.findN f1 (M.full n1) n1)) ∧ (w''.cell? ⟨w3.heap.size + 1, 0, none⟩ = some (.int .i64 (n1 : Int)) ∧ w''.cell? ⟨w3.heap.size + 1, 1, none⟩ = some (.slice (some ⟨b1, 0, none⟩) n1 k1) ∧ w''.cell? ⟨w3.heap.size + 1, 2, none⟩ = some (.int .i64 (n2 : Int)) ∧ w''.cell? ⟨w3.heap.size + 1, 3, none⟩ = some (.slice (some ⟨b2, 0, none⟩) n2 k2) ∧ Below wr.heap.size wr w'') ∧ Keeps W w'' := fun W h => by
            rw [← Ar.d1.same.bottom]; exact (rbottom_any W b1 n1 k1 r1 R1 (Ar.d1.below h.2.2.2.2).grid).mono fun e w'' ⟨he, hb⟩ => ⟨he, KB _ (h.2.2.2.2.trans (hb.mono h.2.2.2.2.size)), below_keeps hb⟩
          have q2 : ∀ W, (W.cell? ⟨w3.heap.size + 1, 0, none⟩ = some (.int .i64 (n1 : Int)) ∧ W.cell? ⟨w3.heap.size + 1, 1, none⟩ = some (.slice (some ⟨b1, 0, none⟩) n1 k1) ∧ W.cell? ⟨w3.heap.size + 1, 2, none⟩ = some (.int .i64 (n2 : Int)) ∧ W.cell? ⟨w3.heap.size + 1, 3, none⟩ = some (.slice (some ⟨b2, 0, none⟩) n2 k2) ∧ Below wr.heap.size wr W) → Calls Try.prog 11 #[.agg #[.int .i64 (n2 : Int), .slice (some ⟨b2, 0, none⟩) n2 k2]] W fun e w'' => e = .returned (.int .i64 (M.findN f2 (M.full n2) n2)) ∧ (w''.cell? ⟨w3.heap.size + 1, 0, none⟩ = some (.int .i64 (n1 : Int)) ∧ w''.cell? ⟨w3.heap.size + 1, 1, none⟩ = some (.slice (some ⟨b1, 0, none⟩) n1 k1) ∧ w''.cell? ⟨w3.heap.size + 1, 2, none⟩ = some (.int .i64 (n2 : Int)) ∧ w''.cell? ⟨w3.heap.size + 1, 3, none⟩ = some (.slice (some ⟨b2, 0, none⟩) n2 k2) ∧ Below wr.heap.size wr w'') ∧ Keeps W w'' := fun W h => by
            rw [← Ar.d2.same.bottom]; exact (rbottom_any W b2 n2 k2 r2 R2 (Ar.d2.below h.2.2.2.2).grid).mono fun e w'' ⟨he, hb⟩ => ⟨he, KB _ (h.2.2.2.2.trans (hb.mono h.2.2.2.2.size)), below_keeps hb⟩
          have K1 := Lib.hid q1; clear q1
          have K2 := Lib.hid q2; clear q2
          have HKA := Lib.hid KA; clear KA
          have HKS := Lib.hid KS; clear KS
          have HKD := Lib.hid KD; clear KD
          clear KB
          go_upto_region 23 with fail
          go_cut [16] (fun v wz => ∃ b : Nat, v = .pointer (some ⟨b, 0, none⟩) ∧ wz.cell? ⟨b, 0, none⟩ = some (.int .i64 (M.findN f1 (M.full n1) n1)) ∧ wz.cell? ⟨b, 1, none⟩ = some (.int .i64 (M.findN f2 (M.full n2) n2)) ∧ Below wr.heap.size wr wz)
          case first =>
            go_region_held3 (fun W => (W.cell? ⟨w3.heap.size + 1, 0, none⟩ = some (.int .i64 (n1 : Int)) ∧ W.cell? ⟨w3.heap.size + 1, 1, none⟩ = some (.slice (some ⟨b1, 0, none⟩) n1 k1) ∧ W.cell? ⟨w3.heap.size + 1, 2, none⟩ = some (.int .i64 (n2 : Int)) ∧ W.cell? ⟨w3.heap.size + 1, 3, none⟩ = some (.slice (some ⟨b2, 0, none⟩) n2 k2) ∧ Below wr.heap.size wr W)) (first | assumption | exact HKD.out | exact HKA.out _ _ (by assumption) | exact HKS.out _ _ _ _ (by assumption) (HKS.out _ _ _ _ (by assumption) (by assumption))) (first | (go_at_call 11; (with_reducible refine (K1.out _ (by assumption)).mono ?_); rintro e w'' ⟨rfl, hS', hcell, hfroz⟩) | (go_at_call 11; (with_reducible refine (K2.out _ (by assumption)).mono ?_); rintro e w'' ⟨rfl, hS', hcell, hfroz⟩))
            all_goals (go_wp2_with fail; go_meet; first | exact ⟨_, rfl, by rw [World.cell?_alloc_new]; rfl, by rw [World.cell?_alloc_new]; rfl, (HKA.out _ _ (by assumption)).2.2.2.2⟩ | (refine ⟨_, rfl, (set_two _ _ _ _ (.int .i64 0) (.int .i64 0) ?_ ?_).1, (set_two _ _ _ _ (.int .i64 0) (.int .i64 0) ?_ ?_).2, (HKS.out _ _ _ _ (by assumption) (HKS.out _ _ _ _ (by assumption) (by assumption))).2.2.2.2⟩ <;> (clear K1 K2 HKA HKS HKD; simp [*])))
          case rest =>
            obtain ⟨B16, rfl, c160, c161, hb16⟩ := hcut
            clear K1 K2 HKA HKS HKD KR
            have Ac := Ar.below hb16
            go_wp2_with fail
            have KB : ∀ W, Below wc.heap.size wc W → (W.cell? ⟨w3.heap.size + 1, 0, none⟩ = some (.int .i64 (n1 : Int)) ∧ W.cell? ⟨w3.heap.size + 1, 1, none⟩ = some (.slice (some ⟨b1, 0, none⟩) n1 k1) ∧ W.cell? ⟨w3.heap.size + 1, 2, none⟩ = some (.int .i64 (n2 : Int)) ∧ W.cell? ⟨w3.heap.size + 1, 3, none⟩ = some (.slice (some ⟨b2, 0, none⟩) n2 k2) ∧ Below wc.heap.size wc W) := fun W h => ⟨cell_below h Ac.e0, cell_below h Ac.e1, cell_below h Ac.e2, cell_below h Ac.e3, h⟩
            have KA : ∀ W o, (W.cell? ⟨w3.heap.size + 1, 0, none⟩ = some (.int .i64 (n1 : Int)) ∧ W.cell? ⟨w3.heap.size + 1, 1, none⟩ = some (.slice (some ⟨b1, 0, none⟩) n1 k1) ∧ W.cell? ⟨w3.heap.size + 1, 2, none⟩ = some (.int .i64 (n2 : Int)) ∧ W.cell? ⟨w3.heap.size + 1, 3, none⟩ = some (.slice (some ⟨b2, 0, none⟩) n2 k2) ∧ Below wc.heap.size wc W) → ((W.alloc o).cell? ⟨w3.heap.size + 1, 0, none⟩ = some (.int .i64 (n1 : Int)) ∧ (W.alloc o).cell? ⟨w3.heap.size + 1, 1, none⟩ = some (.slice (some ⟨b1, 0, none⟩) n1 k1) ∧ (W.alloc o).cell? ⟨w3.heap.size + 1, 2, none⟩ = some (.int .i64 (n2 : Int)) ∧ (W.alloc o).cell? ⟨w3.heap.size + 1, 3, none⟩ = some (.slice (some ⟨b2, 0, none⟩) n2 k2) ∧ Below wc.heap.size wc (W.alloc o)) := fun W o h => KB _ (below_grow h.2.2.2.2 o)
            have KS : ∀ W W0 off v, (W0.cell? ⟨w3.heap.size + 1, 0, none⟩ = some (.int .i64 (n1 : Int)) ∧ W0.cell? ⟨w3.heap.size + 1, 1, none⟩ = some (.slice (some ⟨b1, 0, none⟩) n1 k1) ∧ W0.cell? ⟨w3.heap.size + 1, 2, none⟩ = some (.int .i64 (n2 : Int)) ∧ W0.cell? ⟨w3.heap.size + 1, 3, none⟩ = some (.slice (some ⟨b2, 0, none⟩) n2 k2) ∧ Below wc.heap.size wc W0) → (W.cell? ⟨w3.heap.size + 1, 0, none⟩ = some (.int .i64 (n1 : Int)) ∧ W.cell? ⟨w3.heap.size + 1, 1, none⟩ = some (.slice (some ⟨b1, 0, none⟩) n1 k1) ∧ W.cell? ⟨w3.heap.size + 1, 2, none⟩ = some (.int .i64 (n2 : Int)) ∧ W.cell? ⟨w3.heap.size + 1, 3, none⟩ = some (.slice (some ⟨b2, 0, none⟩) n2 k2) ∧ Below wc.heap.size wc W) → ((W.setCell ⟨W0.heap.size, off, none⟩ v).cell? ⟨w3.heap.size + 1, 0, none⟩ = some (.int .i64 (n1 : Int)) ∧ (W.setCell ⟨W0.heap.size, off, none⟩ v).cell? ⟨w3.heap.size + 1, 1, none⟩ = some (.slice (some ⟨b1, 0, none⟩) n1 k1) ∧ (W.setCell ⟨W0.heap.size, off, none⟩ v).cell? ⟨w3.heap.size + 1, 2, none⟩ = some (.int .i64 (n2 : Int)) ∧ (W.setCell ⟨W0.heap.size, off, none⟩ v).cell? ⟨w3.heap.size + 1, 3, none⟩ = some (.slice (some ⟨b2, 0, none⟩) n2 k2) ∧ Below wc.heap.size wc (W.setCell ⟨W0.heap.size, off, none⟩ v)) := fun W W0 off v h0 h => KB _ (h.2.2.2.2.setCell h0.2.2.2.2.size v)
            have KD := KB _ (Below.refl _ wc).drew
            have KR := KB _ (Below.refl _ wc)
            have q1 : ∀ W, (W.cell? ⟨w3.heap.size + 1, 0, none⟩ = some (.int .i64 (n1 : Int)) ∧ W.cell? ⟨w3.heap.size + 1, 1, none⟩ = some (.slice (some ⟨b1, 0, none⟩) n1 k1) ∧ W.cell? ⟨w3.heap.size + 1, 2, none⟩ = some (.int .i64 (n2 : Int)) ∧ W.cell? ⟨w3.heap.size + 1, 3, none⟩ = some (.slice (some ⟨b2, 0, none⟩) n2 k2) ∧ Below wc.heap.size wc W) → Calls Try.prog 12 #[.agg #[.int .i64 (n1 : Int), .slice (some ⟨b1, 0, none⟩) n1 k1]] W fun e w'' => e = .returned (.int .i64 (M.findN g1 (M.full n1) n1)) ∧ (w''.cell? ⟨w3.heap.size + 1, 0, none⟩ = some (.int .i64 (n1 : Int)) ∧ w''.cell? ⟨w3.heap.size + 1, 1, none⟩ = some (.slice (some ⟨b1, 0, none⟩) n1 k1) ∧ w''.cell? ⟨w3.heap.size + 1, 2, none⟩ = some (.int .i64 (n2 : Int)) ∧ w''.cell? ⟨w3.heap.size + 1, 3, none⟩ = some (.slice (some ⟨b2, 0, none⟩) n2 k2) ∧ Below wc.heap.size wc w'') ∧ Keeps W w'' := fun W h => by
              rw [← Ac.d1.flip.bottom]; exact (rtop_any W b1 n1 k1 r1 R1 (Ac.d1.below h.2.2.2.2).grid).mono fun e w'' ⟨he, hb⟩ => ⟨he, KB _ (h.2.2.2.2.trans (hb.mono h.2.2.2.2.size)), below_keeps hb⟩
            have q2 : ∀ W, (W.cell? ⟨w3.heap.size + 1, 0, none⟩ = some (.int .i64 (n1 : Int)) ∧ W.cell? ⟨w3.heap.size + 1, 1, none⟩ = some (.slice (some ⟨b1, 0, none⟩) n1 k1) ∧ W.cell? ⟨w3.heap.size + 1, 2, none⟩ = some (.int .i64 (n2 : Int)) ∧ W.cell? ⟨w3.heap.size + 1, 3, none⟩ = some (.slice (some ⟨b2, 0, none⟩) n2 k2) ∧ Below wc.heap.size wc W) → Calls Try.prog 12 #[.agg #[.int .i64 (n2 : Int), .slice (some ⟨b2, 0, none⟩) n2 k2]] W fun e w'' => e = .returned (.int .i64 (M.findN g2 (M.full n2) n2)) ∧ (w''.cell? ⟨w3.heap.size + 1, 0, none⟩ = some (.int .i64 (n1 : Int)) ∧ w''.cell? ⟨w3.heap.size + 1, 1, none⟩ = some (.slice (some ⟨b1, 0, none⟩) n1 k1) ∧ w''.cell? ⟨w3.heap.size + 1, 2, none⟩ = some (.int .i64 (n2 : Int)) ∧ w''.cell? ⟨w3.heap.size + 1, 3, none⟩ = some (.slice (some ⟨b2, 0, none⟩) n2 k2) ∧ Below wc.heap.size wc w'') ∧ Keeps W w'' := fun W h => by
              rw [← Ac.d2.flip.bottom]; exact (rtop_any W b2 n2 k2 r2 R2 (Ac.d2.below h.2.2.2.2).grid).mono fun e w'' ⟨he, hb⟩ => ⟨he, KB _ (h.2.2.2.2.trans (hb.mono h.2.2.2.2.size)), below_keeps hb⟩
            have K1 := Lib.hid q1; clear q1
            have K2 := Lib.hid q2; clear q2
            have HKA := Lib.hid KA; clear KA
            have HKS := Lib.hid KS; clear KS
            have HKD := Lib.hid KD; clear KD
            clear KB
            go_upto_region 24 with fail
            go_cut [17] (fun v wz => ∃ b : Nat, v = .pointer (some ⟨b, 0, none⟩) ∧ wz.cell? ⟨b, 0, none⟩ = some (.int .i64 (M.findN g1 (M.full n1) n1)) ∧ wz.cell? ⟨b, 1, none⟩ = some (.int .i64 (M.findN g2 (M.full n2) n2)) ∧ Below wc.heap.size wc wz)
            case first =>
              go_region_held3 (fun W => (W.cell? ⟨w3.heap.size + 1, 0, none⟩ = some (.int .i64 (n1 : Int)) ∧ W.cell? ⟨w3.heap.size + 1, 1, none⟩ = some (.slice (some ⟨b1, 0, none⟩) n1 k1) ∧ W.cell? ⟨w3.heap.size + 1, 2, none⟩ = some (.int .i64 (n2 : Int)) ∧ W.cell? ⟨w3.heap.size + 1, 3, none⟩ = some (.slice (some ⟨b2, 0, none⟩) n2 k2) ∧ Below wc.heap.size wc W)) (first | assumption | exact HKD.out | exact HKA.out _ _ (by assumption) | exact HKS.out _ _ _ _ (by assumption) (HKS.out _ _ _ _ (by assumption) (by assumption))) (first | (go_at_call 12; (with_reducible refine (K1.out _ (by assumption)).mono ?_); rintro e w'' ⟨rfl, hS', hcell, hfroz⟩) | (go_at_call 12; (with_reducible refine (K2.out _ (by assumption)).mono ?_); rintro e w'' ⟨rfl, hS', hcell, hfroz⟩))
              all_goals (go_wp2_with fail; go_meet; first | exact ⟨_, rfl, by rw [World.cell?_alloc_new]; rfl, by rw [World.cell?_alloc_new]; rfl, (HKA.out _ _ (by assumption)).2.2.2.2⟩ | (refine ⟨_, rfl, (set_two _ _ _ _ (.int .i64 0) (.int .i64 0) ?_ ?_).1, (set_two _ _ _ _ (.int .i64 0) (.int .i64 0) ?_ ?_).2, (HKS.out _ _ _ _ (by assumption) (HKS.out _ _ _ _ (by assumption) (by assumption))).2.2.2.2⟩ <;> (clear K1 K2 HKA HKS HKD; simp [*])))
            case rest =>
              obtain ⟨B17, rfl, c170, c171, hb17⟩ := hcut
              clear K1 K2 HKA HKS HKD KR
              have Ad := Ac.below hb17
              have d160 := cell_below hb17 c160
              have d161 := cell_below hb17 c161
              have hbd : Below w.heap.size w wc := by
                have h1 : Below w.heap.size w wr := hwA.trans (hbr.mono hwA.size)
                have h2 := h1.trans (hb16.mono h1.size)
                exact h2.trans (hb17.mono h2.size)
              clear Ac Ar A hb16 hb17 c160 c161 hbr hwA
              go_upto_region 25 with fail
              have y0 := fun x : Later wc => Later.cell Ad.s0 x
              have y1 := fun x : Later wc => Later.cell Ad.s1 x
              have y2 := fun x : Later wc => Later.cell Ad.e0 x
              have y3 := fun x : Later wc => Later.cell Ad.e1 x
              have y4 := fun x : Later wc => Later.cell Ad.e2 x
              have y5 := fun x : Later wc => Later.cell Ad.e3 x
              have y6 := fun x : Later wc => Later.cell d160 x
              have y7 := fun x : Later wc => Later.cell d161 x
              have y8 := fun x : Later wc => Later.cell c170 x
              have y9 := fun x : Later wc => Later.cell c171 x
              have q1 : ∀ x : Later wc, Calls Try.prog 13 #[.agg #[.pointer (some ⟨o1, 0, none⟩), .pointer (some ⟨o2, 0, none⟩)]] x.wx fun e w'' => e = .returned (.agg #[.int .i64 (M.findN f1 (M.full n1) n1), .int .i64 (M.findN f2 (M.full n2) n2)]) ∧ ∃ y : Later wc, w'' = y.wx := fun x =>
                calls_later (lbottom_any x.wx o1 n1 a1 u1 f1 g1 o2 n2 a2 u2 f2 g2 (Ad.two.below x.le))
              have q2 : ∀ x : Later wc, Calls Try.prog 14 #[.agg #[.pointer (some ⟨o1, 0, none⟩), .pointer (some ⟨o2, 0, none⟩)]] x.wx fun e w'' => e = .returned (.agg #[.int .i64 (M.findN g1 (M.full n1) n1), .int .i64 (M.findN g2 (M.full n2) n2)]) ∧ ∃ y : Later wc, w'' = y.wx := fun x =>
                calls_later (ltop_any x.wx o1 n1 a1 u1 f1 g1 o2 n2 a2 u2 f2 g2 (Ad.two.below x.le))
              have K1 := Lib.hid q1; clear q1
              have K2 := Lib.hid q2; clear q2
              cases rt with
              | false =>
                refine wp_region_later (by kernel_rfl) (by kernel_rfl) ?_
                repeat (go_big_quiet_step (first | (go_at_call 13; with_reducible exact K1.out _) | (go_at_call 14; with_reducible exact K2.out _)))
                refine wpQuiet_nil ?_
                intro _ hw'
                obtain ⟨x, rfl⟩ := hw'
                go_wp2
                go_ret
                exact ⟨rfl, hbd.trans (x.le.mono hbd.size)⟩
              | true =>
                have hall := M.allB_true.1 HRT.out
                have hp : ∀ i, i < k → hasB n1 (P i) = true := fun i hi => by have := hall i hi; rw [Bool.and_eq_true] at this; exact this.1
                have hq : ∀ i, i < k → hasB n2 (Q i) = true := fun i hi => by have := hall i hi; rw [Bool.and_eq_true] at this; exact this.2
                have q3 : ∀ x : Later wc, Calls Try.prog 15 #[.agg #[.pointer (some ⟨o1, 0, none⟩), .pointer (some ⟨o2, 0, none⟩)], .slice lo k cap] x.wx fun e w'' => e = .returned (.agg #[.int .i64 (joinsI n1 f1 P k), .int .i64 (joinsI n2 f2 Q k)]) ∧ ∃ y : Later wc, w'' = y.wx := fun x =>
                  calls_later (ljoin_any x.wx o1 n1 a1 u1 f1 g1 o2 n2 a2 u2 f2 g2 lo k cap P Q (by omega) (Ad.pairs.below x.le) (Ad.two.below x.le))
                have q4 : ∀ x : Later wc, Calls Try.prog 16 #[.agg #[.int .i64 (n1 : Int), .slice (some ⟨b1, 0, none⟩) n1 k1, .int .i64 (n2 : Int), .slice (some ⟨b2, 0, none⟩) n2 k2], .slice lo k cap] x.wx fun e w'' => e = .returned (.agg #[.int .i64 (joinsI n1 f1 P k), .int .i64 (joinsI n2 f2 Q k)]) ∧ ∃ y : Later wc, w'' = y.wx := fun x =>
                  calls_later (rjoin2_any x.wx b1 n1 k1 r1 R1 f1 g1 b2 n2 k2 r2 R2 f2 g2 lo k cap P Q (by omega) (Ad.pairs.below x.le) hp hq (Ad.d1.below x.le) (Ad.d2.below x.le))
                have K3 := Lib.hid q3; clear q3
                have K4 := Lib.hid q4; clear q4
                clear hall hp hq
                refine wp_region_later (by kernel_rfl) (by kernel_rfl) ?_
                repeat (go_big_quiet_step (first | (go_at_call 13; with_reducible exact K1.out _) | (go_at_call 14; with_reducible exact K2.out _) | (go_at_call 15; with_reducible exact K3.out _) | (go_at_call 16; with_reducible exact K4.out _)))
                refine wpQuiet_nil ?_
                intro _ hw'
                obtain ⟨x, rfl⟩ := hw'
                go_wp2
                go_ret
                exact ⟨rfl, hbd.trans (x.le.mono hbd.size)⟩
  · have t1 : decide ((20 : Int) < (len : Int)) = true := by simp; omega
    go_wp2_with fail
    refine (lives2_any _).mono ?_
    rintro e w3 ⟨rfl, hb3⟩
    go_wp2
    go_ret
    exact ⟨rfl, hw2.trans (hb3.mono hw2.size)⟩
end Go.Proofs.Ytjcdopgefcmbpaa
