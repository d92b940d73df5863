/- The chapter's example. -/
import Derived.Test.YtdflonniicnndaaMeasure
namespace Go.Proofs.Ytdflonniicnndaa
open Go.RowKit Tn

def x1 : Nd := ⟨⟨#[105, 110, 116]⟩, 0, 0, ⟨#[]⟩, 1, []⟩
def x2 : Nd := ⟨⟨#[105, 110, 116]⟩, 0, 0, ⟨#[]⟩, 2, []⟩
def x3 : Nd := ⟨⟨#[43]⟩, 0, 0, ⟨#[]⟩, 0, [0, 1]⟩

theorem x_wf : WF [x1, x2, x3] := by
  have h : [x1, x2, x3] = build [x1, x2, x3] := rfl
  rw [h]; exact WF.ofBuild _
theorem x_good : Tn.Good [x1, x2, x3] := ⟨by simp, fun i hi => by
  have : i = 0 ∨ i = 1 ∨ i = 2 := by simp at hi; omega
  rcases this with rfl | rfl | rfl <;> decide⟩
theorem x_few : ∀ i, i < [x1, x2, x3].length → (nd [x1, x2, x3] i).kids.length ≤ 2000 := fun i hi => by
  have : i = 0 ∨ i = 1 ∨ i = 2 := by simp at hi; omega
  rcases this with rfl | rfl | rfl <;> decide

set_option maxRecDepth 100000 in
set_option maxHeartbeats 4000000 in
theorem lives_any (w : World) : Calls Try.prog 4 #[] w fun e w' => e = .returned (.bool true) ∧ Below w.heap.size w w' := by
  obtain ⟨b0, hb0⟩ : ∃ b0, w.heap.size = b0 := ⟨_, rfl⟩
  have ht0 : TreeOwn (b0 + 1) (w.alloc (.cells #[.slice none 0 0] 47)) b0 (.slice none 0 0) [] := ⟨by rw [← hb0]; exact blk_new _ _, ⟨rfl, .inl ⟨rfl, rfl⟩⟩, fun s hs => (by cases hs), by omega⟩
  have hbe : Below b0 w (w.alloc (.cells #[.slice none 0 0] 47)) := by rw [← hb0]; exact (Below.refl _ w).alloc (Nat.le_refl _) _
  have hs0 : (w.alloc (.cells #[.slice none 0 0] 47)).heap.size = b0 + 1 := by rw [← hb0]; simp
  have HT0 := Lib.hid ht0; have HB0 := Lib.hid hbe; have HS0 := Lib.hid hs0; have H0 := Lib.hid hb0
  clear ht0 hbe hs0 hb0
  go_enter Try.func4, Try.ntmps4
  go_upto_region 2 with fail
  rw [H0.out]
  generalize w.alloc (.cells #[.slice none 0 0] 47) = w1 at *
  have a1 := add_yes (b0 + 1) b0 _ [] 0 x1 none 0 w1 HT0.out (fun i hi => by simp [x1] at hi) (fun _ => rfl) (by decide) (by decide) (by decide) (by rw [HS0.out]; omega)
  have A1 := Lib.hid a1
  clear a1
  go_wp2_with fail
  refine A1.out.mono ?_
  rintro e w2 ⟨v2, ka2, kc2, rfl, ht2, hb2, _⟩
  clear A1 HT0
  have hB2 : Below b0 w w2 := HB0.out.trans (hb2.below (by rw [HS0.out]; omega) (fun k hk => by rcases hk with rfl | hk <;> first | omega | cases hk))
  have hs2 := hb2.size
  rw [HS0.out] at hs2
  have a2 := add_yes (b0 + 1) b0 _ [⟨x1, ka2, kc2⟩] 0 x2 none 0 w2 ht2 (fun i hi => by simp [x2] at hi) (fun _ => rfl) (by decide) (by simp) rfl (by omega)
  have A2 := Lib.hid a2; have HO2 := Lib.hid ht2.own
  clear a2 ht2 hb2
  simp only [List.length_nil]
  go_wp2_with fail
  refine A2.out.mono ?_
  rintro e w3 ⟨v3, ka3, kc3, rfl, ht3, hb3, _⟩
  have hB3 : Below b0 w w3 := hB2.trans (hb3.below (by omega) (fun k hk => by rcases hk with rfl | hk; omega; have := (own_tag HO2.out hk.symm).1; omega))
  have hs3 := hb3.size
  clear A2 HO2 hb3
  simp only [List.length_singleton, List.cons_append, List.nil_append] at ht3 ⊢
  obtain ⟨g, hg⟩ : ∃ g, w3.heap.size = g := ⟨_, rfl⟩
  have g1 : (w3.alloc (.cells #[.int .i64 0, .int .i64 1] 3)).heap[g]? = some (.cells #[.int .i64 0, .int .i64 1] 3 (0, 0)) := by rw [← hg]; exact blk_new _ _
  have g2 : Below w3.heap.size w3 (w3.alloc (.cells #[.int .i64 0, .int .i64 1] 3)) := (Below.refl _ _).alloc (Nat.le_refl _) _
  have G1 := Lib.hid g1; have G2 := Lib.hid g2; have HG := Lib.hid hg
  clear g1 g2 hg
  go_wp2_with fail
  rw [HG.out]
  have hg := HG.out
  generalize w3.alloc (.cells #[.int .i64 0, .int .i64 1] 3) = w4 at *
  have ht4 := ht3.below G2.out
  have hs4 := G2.out.size
  have hB4 : Below b0 w w4 := hB3.trans (G2.out.mono (by omega))
  have hk4 : IntsAt w4.heap.size w4 (some ⟨g, 0, none⟩) x3.kids := fun i hi => by
    have : i = 0 ∨ i = 1 := by simp [x3] at hi; omega
    rcases this with rfl | rfl
    · exact ⟨g, 0, rfl, lt_of_heap G1.out, (blk_cell G1.out 0).trans rfl⟩
    · exact ⟨g, 0, rfl, lt_of_heap G1.out, (blk_cell G1.out 1).trans rfl⟩
  have a3 := add_yes (b0 + 1) b0 _ [⟨x1, ka2, kc2⟩, ⟨x2, ka3, kc3⟩] w4.heap.size x3 (some ⟨g, 0, none⟩) 2 w4 ht4 hk4 (fun e => by cases e) (by decide) (by simp) rfl (by omega)
  have A3 := Lib.hid a3; have HO4 := Lib.hid ht4.own
  clear a3 ht4 hk4 ht3
  refine A3.out.mono ?_
  rintro e w5 ⟨v5, ka5, kc5, rfl, ht5, hb5, _⟩
  have hB5 : Below b0 w w5 := hB4.trans (hb5.below (by omega) (fun k hk => by rcases hk with rfl | hk; omega; have := (own_tag HO4.out hk.symm).1; omega))
  have hs5 := hb5.size
  simp only [List.length_cons, List.length_nil, List.cons_append, List.nil_append] at ht5 ⊢
  obtain ⟨ao, cap, rfl, hT⟩ := ht5.at
  have hT' : TreeAt w5.heap.size w5 b0 ao cap [x1, x2, x3] := hT
  have sz : Calls Try.prog 12 #[.pointer (some ⟨b0, 0, none⟩), .int .i64 2] w5 fun e w' => e = .returned (.int .i64 3) ∧ Below w5.heap.size w5 w' := size_any w5.heap.size b0 ao cap [x1, x2, x3] 2 w5 x_wf x_few x_good (by decide) hT' (Nat.le_refl _)
  have dp : ∀ w', Below w5.heap.size w5 w' → Calls Try.prog 13 #[.pointer (some ⟨b0, 0, none⟩), .int .i64 2] w' fun e w'' => e = .returned (.int .i64 2) ∧ Below w'.heap.size w' w'' := fun w' hb => deep_any w5.heap.size b0 ao cap [x1, x2, x3] 2 w' x_wf x_few x_good (by decide) (hT'.below hb) hb.size
  have SZ := Lib.hid sz; have DP := Lib.hid dp
  clear sz dp hT hT' ht5 hb5 A3 HO4
  go_wp2_with fail
  refine SZ.out.mono ?_
  rintro e w6 ⟨rfl, hb6⟩
  go_wp2_with fail
  refine (DP.out w6 hb6).mono ?_
  rintro e w7 ⟨rfl, hb7⟩
  go_wp2
  go_ret
  have := H0.out
  exact ⟨rfl, by rw [H0.out]; exact hB5.trans ((hb6.trans (hb7.mono hb6.size)).mono (by omega))⟩
end Go.Proofs.Ytdflonniicnndaa
