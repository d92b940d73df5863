/- The law of tokens: what it answers in a world that holds the library's tables and the type of errors. -/
import Derived.Test.YtoeljmiefbaajaaDoorIs
namespace Go.Proofs.YtoeljmiefbaajaaDoor
open Go.RowKit

namespace Lx
theorem toks_bad_code : ∀ (f : Nat) (note : Bool) (p : Pos) (l : B) (c : Int) (q : Pos), toks f note p l = .bad c q → c = 6 ∨ c = 4
  | 0, _, _, _, _, _, h => by simp [toks] at h
  | f + 1, note, p, l, c, q, h => by
    rw [toks] at h
    cases ho : one (l.drop (blanks note l)) with
    | bad e =>
      rw [ho] at h
      simp only [Res.bad.injEq] at h
      obtain ⟨rfl, _⟩ := h
      exact (one_bad ho).1
    | tok k n v =>
      rw [ho] at h
      simp only at h
      by_cases hk : k = 0
      · rw [if_pos hk] at h; cases h
      · rw [if_neg hk] at h
        cases hr : toks f false (adv p (l.take (blanks note l + n))) (l.drop (blanks note l + n)) with
        | bad c' q' =>
          rw [hr] at h
          simp only [Res.after, Res.bad.injEq] at h
          obtain ⟨rfl, _⟩ := h
          exact toks_bad_code f _ _ _ _ _ hr
        | ok ts => rw [hr] at h; simp [Res.after] at h
theorem whole_bad {l : B} {c : Int} {p : Pos} (h : whole l = .bad c p) : c = 6 ∨ c = 3 ∨ c = 4 := by
  unfold whole at h
  split at h
  · simp only [Res.bad.injEq] at h; omega
  · split at h
    · simp only [Res.bad.injEq] at h; omega
    · have := toks_bad_code _ _ _ _ _ _ h; omega
theorem toks_some (f : Nat) (note : Bool) (p : Pos) (l : B) (ts : List Tok) (h : toks (f + 1) note p l = .ok ts) : 0 < ts.length := by
  rw [toks] at h
  cases ho : one (l.drop (blanks note l)) with
  | bad e => rw [ho] at h; cases h
  | tok k n v =>
    rw [ho] at h
    simp only at h
    by_cases hk : k = 0
    · rw [if_pos hk] at h; cases h; simp
    · rw [if_neg hk] at h
      cases hr : toks f false (adv p (l.take (blanks note l + n))) (l.drop (blanks note l + n)) with
      | bad c' q' => rw [hr] at h; simp [Res.after] at h
      | ok us => rw [hr] at h; simp only [Res.after, Res.ok.injEq] at h; subst h; simp
theorem whole_some {l : B} {ts : List Tok} (h : whole l = .ok ts) : 0 < ts.length := by
  unfold whole at h
  split at h
  · cases h
  · split at h
    · cases h
    · exact toks_some _ _ _ _ _ h
end Lx

theorem own_slice2 {w : World} {base : Nat} {e : TypeId} {size : Nat} {v : Value} {n : Nat} {xs : List Value} (h : w.ownsRow base e size v n xs) (hn : 0 < n) :
    ∃ g cap, v = .slice (some ⟨g, 0, none⟩) n cap ∧ n ≤ cap ∧ cap ≤ 9223372036854775807 ∧ ∀ j u, xs[j]? = some u → w.cell? ⟨g, j, none⟩ = some u := by
  rcases h.2 with ⟨rfl, h0⟩ | ⟨g, cap, cur, rfl, hb, hg, hc, hm, _⟩
  · omega
  · refine ⟨g, cap, rfl, hc, by unfold maxLen at hm; omega, fun j u hu => ?_⟩
    have := h.cells (g := g) rfl j u hu
    have hadd : (⟨g, 0, none⟩ : Addr).add j = ⟨g, j, none⟩ := by unfold Addr.add; split <;> simp_all
    rwa [hadd] at this

set_option maxRecDepth 100000 in
set_option maxHeartbeats 4000000 in
theorem wrong_any (c p q : Int) (w : World) (hg : w.cell? ⟨0, 0, none⟩ = some (.iface 81 (.agg #[.pointer (some ⟨9, 25, none⟩)]))) :
    Calls Tryd.prog 8 #[.iface 33 (.agg #[.int .i64 c, .int .i64 p, .int .i64 q, .string ⟨#[]⟩]), .agg #[.int .i64 c, .int .i64 p, .int .i64 q, .string ⟨#[]⟩]] w fun e w' => e = .returned (.bool true) ∧ Below w.heap.size w w' := by
  have hlt : 0 < w.heap.size := World.block_lt_of_cell? _ _ hg
  have hb0 : Below w.heap.size w ((w.alloc (.cells #[.int .i64 c, .int .i64 p, .int .i64 q, .string ⟨#[]⟩] 33)).alloc (.cells #[.int .i64 0, .int .i64 0, .int .i64 0, .string ⟨#[]⟩] 33)) := ((Below.refl _ _).alloc (Nat.le_refl _) _).alloc (by simp) _
  have hg1 := (hb0.cell (p := ⟨0, 0, none⟩) hlt).trans hg
  have s0 : ((w.alloc (.cells #[.int .i64 c, .int .i64 p, .int .i64 q, .string ⟨#[]⟩] 33)).alloc (.cells #[.int .i64 0, .int .i64 0, .int .i64 0, .string ⟨#[]⟩] 33)).cell? ⟨w.heap.size, 0, none⟩ = some (.int .i64 c) := by simp [go_sem]
  have s1 : ((w.alloc (.cells #[.int .i64 c, .int .i64 p, .int .i64 q, .string ⟨#[]⟩] 33)).alloc (.cells #[.int .i64 0, .int .i64 0, .int .i64 0, .string ⟨#[]⟩] 33)).cell? ⟨w.heap.size, 1, none⟩ = some (.int .i64 p) := by simp [go_sem]
  have s2 : ((w.alloc (.cells #[.int .i64 c, .int .i64 p, .int .i64 q, .string ⟨#[]⟩] 33)).alloc (.cells #[.int .i64 0, .int .i64 0, .int .i64 0, .string ⟨#[]⟩] 33)).cell? ⟨w.heap.size, 2, none⟩ = some (.int .i64 q) := by simp [go_sem]
  have s3 : ((w.alloc (.cells #[.int .i64 c, .int .i64 p, .int .i64 q, .string ⟨#[]⟩] 33)).alloc (.cells #[.int .i64 0, .int .i64 0, .int .i64 0, .string ⟨#[]⟩] 33)).cell? ⟨w.heap.size, 3, none⟩ = some (.string ⟨#[]⟩) := by simp [go_sem]
  have hD : DiagAt (w.heap.size + 1) ((w.alloc (.cells #[.int .i64 c, .int .i64 p, .int .i64 q, .string ⟨#[]⟩] 33)).alloc (.cells #[.int .i64 0, .int .i64 0, .int .i64 0, .string ⟨#[]⟩] 33)) := ⟨by simp [go_sem], by simp [go_sem], by simp [go_sem], by simp [go_sem], fun i => by simp [go_sem]⟩
  have HG := Lib.hid hg1; have HD := Lib.hid hD; have HB0 := Lib.hid hb0; have HS0 := Lib.hid s0; have HS1 := Lib.hid s1; have HS2 := Lib.hid s2; have HS3 := Lib.hid s3
  clear hg hg1 hD hb0 s0 s1 s2 s3 hlt
  go_enter Tryd.func8, Tryd.ntmps8
  go_wp2_with fail
  generalize (w.alloc (.cells #[.int .i64 c, .int .i64 p, .int .i64 q, .string ⟨#[]⟩] 33)).alloc (.cells #[.int .i64 0, .int .i64 0, .int .i64 0, .string ⟨#[]⟩] 33) = w1 at *
  refine (as_hit c p q ⟨#[]⟩ (w.heap.size + 1) _ _ _ _ _ HG.out HD.out.d0 HD.out.d1 HD.out.d2 HD.out.d3 HD.out.df).mono ?_
  rintro e w2 ⟨rfl, hN, b0, b1, b2, b3⟩
  have hl : w.heap.size < w1.heap.size := World.block_lt_of_cell? _ _ HS0.out
  have t0 := (hN.cell (i := 0) hl (by omega)).trans HS0.out
  have t1 := (hN.cell (i := 1) hl (by omega)).trans HS1.out
  have t2 := (hN.cell (i := 2) hl (by omega)).trans HS2.out
  have t3 := (hN.cell (i := 3) hl (by omega)).trans HS3.out
  have hb2 : Below w.heap.size w w2 := HB0.out.trans (hN.to_below (by omega) HB0.out.size)
  clear hN HG HD HB0 HS0 HS1 HS2 HS3 hl
  go_wp2_with fail
  refine (is_hit c p q ⟨#[]⟩ _).mono ?_
  rintro e w3 ⟨rfl, hb3⟩
  go_wp2
  go_ret
  exact ⟨rfl, hb2.trans (hb3.mono hb2.size)⟩

set_option maxRecDepth 100000 in
set_option maxHeartbeats 4000000 in
theorem lextokens_any (s : ByteArray) (w : World) (hs : s.size ≤ 9223372036854775807) (hT : Lib.Utf8Tabs 1 2 w) (hg : w.cell? ⟨0, 0, none⟩ = some (.iface 81 (.agg #[.pointer (some ⟨9, 25, none⟩)]))) :
    Calls Tryd.prog 3 #[.string s] w fun e w' => e = .returned (.bool true) ∧ Below w.heap.size w w' := by
  have HT := Lib.hid hT; have HG := Lib.hid hg
  have hlt : 0 < w.heap.size := World.block_lt_of_cell? _ _ hg
  clear hT hg
  by_cases hl : s.size > 70000
  · go_enter Tryd.func3, Tryd.ntmps3
    go_wp2_with fail
    refine (lives_any _ HT.out).mono ?_
    rintro e w1 ⟨rfl, hb1⟩
    have T1 := Lib.hid (Utf8Tabs_below HT.out hb1)
    go_wp2_with fail
    refine (lives_any _ T1.out).mono ?_
    rintro e w2 ⟨rfl, hb2⟩
    go_wp2
    go_ret
    exact ⟨rfl, hb1.trans (hb2.mono hb1.size)⟩
  · have hs' : s.size ≤ 1000000000000 := by omega
    have cT := fun w h => tokens_any s w hs' h
    have cR := fun w => rtokens_any s w (by omega)
    cases hR : Lx.whole s.data.toList with
    | bad c p =>
      rw [hR] at cT cR
      have hc := Lx.whole_bad hR
      have hne : (c != 0) = true := by rcases hc with rfl | rfl | rfl <;> rfl
      have hne' : (c == 0) = false := by rcases hc with rfl | rfl | rfl <;> rfl
      have CT := Lib.hid cT; have CR := Lib.hid cR
      clear cT cR hR hc
      go_enter Tryd.func3, Tryd.ntmps3
      go_wp2_with fail
      refine (lives_any _ HT.out).mono ?_
      rintro e w1 ⟨rfl, hb1⟩
      have T1 := Lib.hid (Utf8Tabs_below HT.out hb1)
      go_wp2_with fail
      refine (CT.out _ T1.out).mono ?_
      rintro e w2 ⟨hb2, rfl⟩
      go_wp2_with fail
      refine (CR.out _).mono ?_
      rintro e w3 ⟨hb3, rfl⟩
      have hb4 : Below w.heap.size w w3 := (hb1.trans (hb2.mono hb1.size)).trans (hb3.mono (hb1.trans (hb2.mono hb1.size)).size)
      have hb5 : Below w.heap.size w (w3.alloc (.cells #[.int .i64 c, .int .i64 p.line, .int .i64 p.col, .string ⟨#[]⟩] 33)) := hb4.alloc hb4.size _
      have hg5 := (hb5.cell (p := ⟨0, 0, none⟩) hlt).trans HG.out
      have HG5 := Lib.hid hg5; have HB5 := Lib.hid hb5
      clear hb1 hb2 hb3 hb4 hb5 hg5 HG HT T1 CT CR
      go_wp2_with fail
      refine (wrong_any c p.line p.col _ HG5.out).mono ?_
      rintro e w4 ⟨rfl, hb6⟩
      go_wp2
      go_ret
      exact ⟨rfl, HB5.out.trans (hb6.mono HB5.out.size)⟩
    | ok ts =>
      rw [hR] at cT cR
      have hpos := Lx.whole_some hR
      have CT := Lib.hid cT; have CR := Lib.hid cR
      clear cT cR hR
      go_enter Tryd.func3, Tryd.ntmps3
      go_wp2_with fail
      refine (lives_any _ HT.out).mono ?_
      rintro e w1 ⟨rfl, hb1⟩
      have T1 := Lib.hid (Utf8Tabs_below HT.out hb1)
      go_wp2_with fail
      refine (CT.out _ T1.out).mono ?_
      rintro e w2 ⟨hb2, v1, rfl, hown1⟩
      go_wp2_with fail
      refine (CR.out _).mono ?_
      rintro e w3 ⟨hb3, v2, rfl, hown2⟩
      have hb4 : Below w.heap.size w w3 := (hb1.trans (hb2.mono hb1.size)).trans (hb3.mono (hb1.trans (hb2.mono hb1.size)).size)
      have hb5 : Below w.heap.size w (w3.alloc (.cells #[.int .i64 0, .int .i64 0, .int .i64 0, .string ⟨#[]⟩] 33)) := hb4.alloc hb4.size _
      have ho1 := (own_below hown1 hb3).alloc (.cells #[.int .i64 0, .int .i64 0, .int .i64 0, .string ⟨#[]⟩] 33)
      have ho2 := hown2.alloc (.cells #[.int .i64 0, .int .i64 0, .int .i64 0, .string ⟨#[]⟩] 33)
      obtain ⟨g1, cap1, rfl, hc1, hm1, hx1⟩ := own_slice2 ho1 hpos
      obtain ⟨g2, cap2, rfl, hc2, _, hx2⟩ := own_slice2 ho2 hpos
      have cS := same_any _ ts ts.length g1 cap1 g2 cap2 rfl (by omega) hc1 hc2 hx1 hx2
      generalize ts.length = n at *
      have CS := Lib.hid cS; have HB5 := Lib.hid hb5
      clear hb1 hb2 hb3 hb4 hb5 HG HT T1 CT CR hown1 hown2 ho1 ho2 hx1 hx2 cS
      go_wp2_with fail
      refine CS.out.mono ?_
      rintro e w4 ⟨rfl, hb6⟩
      go_wp2
      go_ret
      exact ⟨rfl, HB5.out.trans (hb6.mono HB5.out.size)⟩
end Go.Proofs.YtoeljmiefbaajaaDoor
