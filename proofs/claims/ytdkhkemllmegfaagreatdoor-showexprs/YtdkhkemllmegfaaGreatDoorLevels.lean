/- The levels of marks and words between parts: or, and, comparisons, sums, products. -/
import Derived.Test.YtdkhkemllmegfaaGreatDoorChain
import Derived.Test.YtdkhkemllmegfaaGreatDoorTKept
namespace Go.Proofs.YtdkhkemllmegfaaGreatDoor
open Go.RowKit Tn Lx
attribute [local go_sem] tok_field0 tok_field1 tok_field3

theorem strblk1 (w : World) (a : B) : StrBlk (w.alloc (.cells #[.string ⟨a.toArray⟩] 9)) w.heap.size [a] := ⟨blk_new w _⟩
theorem strblk2 (w : World) (a b : B) : StrBlk (w.alloc (.cells #[.string ⟨a.toArray⟩, .string ⟨b.toArray⟩] 9)) w.heap.size [a, b] := ⟨blk_new w _⟩

theorem does_and {c : Cx} {f : Ex.Rec} {d : Nat} (hf : Spec c f) (hd : d ≤ 64) : Does c 117 (f .and d) d := ⟨enters_of Tryz.func117 (by kernel_rfl) rfl, fun s X w hR hne => hf.and d s X w hd hR hne⟩
set_option maxRecDepth 100000 in
set_option maxHeartbeats 4000000 in
theorem or_any (c : Cx) (X : Nat → Prop) (w : World) (s : Ex.S) (f : Ex.Rec) (d m : Nat) (hf : Spec c f) (hd : d ≤ 64) (h : Rd c X w s) (hne : Ex.chain c.ts m (f .and d) [[111, 114]] s ≠ .out) :
    Calls Tryz.prog 89 #[.pointer (some ⟨c.r, 0, none⟩), .int .i64 (d : Int)] w (Post c X w (Ex.chain c.ts m (f .and d) [[111, 114]] s)) := by
  have hb : ∀ o, Below w.heap.size w (w.alloc o) := fun o => (Below.refl _ w).alloc (Nat.le_refl _) o
  have hC := chain_any c X (w.alloc (.cells #[.string ⟨#[111, 114]⟩] 9)) s 117 (f .and d) d [[111, 114]] 1 m w.heap.size (does_and hf hd) (h.below (hb _)) (strblk1 w [111, 114]) h.size rfl (by omega) hne
  have HC := Lib.hid hC; have HB := Lib.hid hb
  clear hC hb hf h hne
  go_enter Tryz.func89, Tryz.ntmps89
  go_wp2_with fail
  refine HC.out.mono ?_
  rintro e w1 (⟨a1, s1, hE1, rfl, hR1, hK1⟩ | ⟨cd, p1, hE1, rfl, hK1⟩)
  rotate_left
  · exact ⟨rfl, .inr ⟨cd, p1, hE1, rfl, Below.then_kp (HB.out _) hK1⟩⟩
  have HE1 := Lib.hid hE1; have HR1 := Lib.hid hR1; have HK1 := Lib.hid (Below.then_kp (HB.out _) hK1)
  clear hE1 hR1 hK1
  go_wp2
  go_ret
  exact .inl ⟨_, _, HE1.out, rfl, HR1.out, HK1.out⟩

theorem does_test {c : Cx} {f : Ex.Rec} {d : Nat} (hf : Spec c f) (hd : d ≤ 64) : Does c 137 (f .test d) d := ⟨enters_of Tryz.func137 (by kernel_rfl) rfl, fun s X w hR hne => hf.test d s X w hd hR hne⟩
set_option maxRecDepth 100000 in
set_option maxHeartbeats 4000000 in
theorem and_any (c : Cx) (X : Nat → Prop) (w : World) (s : Ex.S) (f : Ex.Rec) (d m : Nat) (hf : Spec c f) (hd : d ≤ 64) (h : Rd c X w s) (hne : Ex.chain c.ts m (f .test d) [[97, 110, 100]] s ≠ .out) :
    Calls Tryz.prog 117 #[.pointer (some ⟨c.r, 0, none⟩), .int .i64 (d : Int)] w (Post c X w (Ex.chain c.ts m (f .test d) [[97, 110, 100]] s)) := by
  have hb : ∀ o, Below w.heap.size w (w.alloc o) := fun o => (Below.refl _ w).alloc (Nat.le_refl _) o
  have hC := chain_any c X (w.alloc (.cells #[.string ⟨#[97, 110, 100]⟩] 9)) s 137 (f .test d) d [[97, 110, 100]] 1 m w.heap.size (does_test hf hd) (h.below (hb _)) (strblk1 w [97, 110, 100]) h.size rfl (by omega) hne
  have HC := Lib.hid hC; have HB := Lib.hid hb
  clear hC hb hf h hne
  go_enter Tryz.func117, Tryz.ntmps117
  go_wp2_with fail
  refine HC.out.mono ?_
  rintro e w1 (⟨a1, s1, hE1, rfl, hR1, hK1⟩ | ⟨cd, p1, hE1, rfl, hK1⟩)
  rotate_left
  · exact ⟨rfl, .inr ⟨cd, p1, hE1, rfl, Below.then_kp (HB.out _) hK1⟩⟩
  have HE1 := Lib.hid hE1; have HR1 := Lib.hid hR1; have HK1 := Lib.hid (Below.then_kp (HB.out _) hK1)
  clear hE1 hR1 hK1
  go_wp2
  go_ret
  exact .inl ⟨_, _, HE1.out, rfl, HR1.out, HK1.out⟩

theorem does_times {c : Cx} {f : Ex.Rec} {d : Nat} (hf : Spec c f) (hd : d ≤ 64) : Does c 164 (f .times d) d := ⟨enters_of Tryz.func164 (by kernel_rfl) rfl, fun s X w hR hne => hf.times d s X w hd hR hne⟩
set_option maxRecDepth 100000 in
set_option maxHeartbeats 4000000 in
theorem sum_any (c : Cx) (X : Nat → Prop) (w : World) (s : Ex.S) (f : Ex.Rec) (d m : Nat) (hf : Spec c f) (hd : d ≤ 64) (h : Rd c X w s) (hne : Ex.chain c.ts m (f .times d) [[43], [45]] s ≠ .out) :
    Calls Tryz.prog 153 #[.pointer (some ⟨c.r, 0, none⟩), .int .i64 (d : Int)] w (Post c X w (Ex.chain c.ts m (f .times d) [[43], [45]] s)) := by
  have hb : ∀ o, Below w.heap.size w (w.alloc o) := fun o => (Below.refl _ w).alloc (Nat.le_refl _) o
  have hC := chain_any c X (w.alloc (.cells #[.string ⟨#[43]⟩, .string ⟨#[45]⟩] 9)) s 164 (f .times d) d [[43], [45]] 2 m w.heap.size (does_times hf hd) (h.below (hb _)) (strblk2 w [43] [45]) h.size rfl (by omega) hne
  have HC := Lib.hid hC; have HB := Lib.hid hb
  clear hC hb hf h hne
  go_enter Tryz.func153, Tryz.ntmps153
  go_wp2_with fail
  refine HC.out.mono ?_
  rintro e w1 (⟨a1, s1, hE1, rfl, hR1, hK1⟩ | ⟨cd, p1, hE1, rfl, hK1⟩)
  rotate_left
  · exact ⟨rfl, .inr ⟨cd, p1, hE1, rfl, Below.then_kp (HB.out _) hK1⟩⟩
  have HE1 := Lib.hid hE1; have HR1 := Lib.hid hR1; have HK1 := Lib.hid (Below.then_kp (HB.out _) hK1)
  clear hE1 hR1 hK1
  go_wp2
  go_ret
  exact .inl ⟨_, _, HE1.out, rfl, HR1.out, HK1.out⟩

theorem does_unary {c : Cx} {f : Ex.Rec} {d : Nat} (hf : Spec c f) (hd : d ≤ 64) : Does c 173 (f .unary d) d := ⟨enters_of Tryz.func173 (by kernel_rfl) rfl, fun s X w hR hne => hf.unary d s X w hd hR hne⟩
set_option maxRecDepth 100000 in
set_option maxHeartbeats 4000000 in
theorem times_any (c : Cx) (X : Nat → Prop) (w : World) (s : Ex.S) (f : Ex.Rec) (d m : Nat) (hf : Spec c f) (hd : d ≤ 64) (h : Rd c X w s) (hne : Ex.chain c.ts m (f .unary d) [[42]] s ≠ .out) :
    Calls Tryz.prog 164 #[.pointer (some ⟨c.r, 0, none⟩), .int .i64 (d : Int)] w (Post c X w (Ex.chain c.ts m (f .unary d) [[42]] s)) := by
  have hb : ∀ o, Below w.heap.size w (w.alloc o) := fun o => (Below.refl _ w).alloc (Nat.le_refl _) o
  have hC := chain_any c X (w.alloc (.cells #[.string ⟨#[42]⟩] 9)) s 173 (f .unary d) d [[42]] 1 m w.heap.size (does_unary hf hd) (h.below (hb _)) (strblk1 w [42]) h.size rfl (by omega) hne
  have HC := Lib.hid hC; have HB := Lib.hid hb
  clear hC hb hf h hne
  go_enter Tryz.func164, Tryz.ntmps164
  go_wp2_with fail
  refine HC.out.mono ?_
  rintro e w1 (⟨a1, s1, hE1, rfl, hR1, hK1⟩ | ⟨cd, p1, hE1, rfl, hK1⟩)
  rotate_left
  · exact ⟨rfl, .inr ⟨cd, p1, hE1, rfl, Below.then_kp (HB.out _) hK1⟩⟩
  have HE1 := Lib.hid hE1; have HR1 := Lib.hid hR1; have HK1 := Lib.hid (Below.then_kp (HB.out _) hK1)
  clear hE1 hR1 hK1
  go_wp2
  go_ret
  exact .inl ⟨_, _, HE1.out, rfl, HR1.out, HK1.out⟩

theorem does_sum {c : Cx} {f : Ex.Rec} {d : Nat} (hf : Spec c f) (hd : d ≤ 64) : Does c 153 (f .sum d) d := ⟨enters_of Tryz.func153 (by kernel_rfl) rfl, fun s X w hR hne => hf.sum d s X w hd hR hne⟩
set_option maxRecDepth 100000 in
set_option maxHeartbeats 4000000 in
theorem test_any (c : Cx) (X : Nat → Prop) (w : World) (s : Ex.S) (f : Ex.Rec) (d : Nat) (hf : Spec c f) (hd : d ≤ 64) (h : Rd c X w s) (hne : Ex.testF c.ts f d s ≠ .out) :
    Calls Tryz.prog 137 #[.pointer (some ⟨c.r, 0, none⟩), .int .i64 (d : Int)] w (Post c X w (Ex.testF c.ts f d s)) := by
  have HF := Lib.hid hf; have HR := Lib.hid h; have HNE := Lib.hid hne
  clear hf h hne
  go_enter Tryz.func137, Tryz.ntmps137
  go_wp2_with fail
  refine (HF.out.sum d s X _ hd HR.out (fun e => HNE.out (by simp only [Ex.testF, e, Ex.Res.bind]))).mono ?_
  rintro e w1 (⟨a1, s1, hE1, rfl, hR1, hK1⟩ | ⟨cd, p1, hE1, rfl, hK1⟩)
  rotate_left
  · exact ⟨rfl, .inr ⟨cd, p1, by simp only [Ex.testF, hE1, Ex.Res.bind], rfl, hK1⟩⟩
  have hT : Ex.testF c.ts f d s = if (Ex.is c.ts s1 [61] || Ex.is c.ts s1 [60]) = true then Ex.between c.ts (f .sum d) a1 s1 else .ok a1 s1 := by simp only [Ex.testF, hE1, Ex.Res.bind]
  have hi1 := fun w2 (hR : Rd c X w2 s1) => is_any c X w2 s1 [61] hR
  have hi2 := fun w2 (hR : Rd c X w2 s1) => is_any c X w2 s1 [60] hR
  have hl1 : Ex.is c.ts s1 [61] = true → s1.p < c.ts.length := Ex.is_lt
  have hl2 : Ex.is c.ts s1 [60] = true → s1.p < c.ts.length := Ex.is_lt
  generalize Ex.is c.ts s1 [61] = v1 at *
  generalize Ex.is c.ts s1 [60] = v2 at *
  have HT := Lib.hid hT; have HR1 := Lib.hid hR1; have HK1 := Lib.hid hK1; have HI1 := Lib.hid hi1; have HI2 := Lib.hid hi2; have HL1 := Lib.hid hl1; have HL2 := Lib.hid hl2
  clear hT hE1 hR1 hK1 hi1 hi2 hl1 hl2 HR
  have go : ∀ w3, Rd c X w3 s1 → s1.p < c.ts.length → Ex.testF c.ts f d s = Ex.between c.ts (f .sum d) a1 s1 → Calls Tryz.prog 136 #[.pointer (some ⟨c.r, 0, none⟩), .int .i64 (a1 : Int), .int .i64 (d : Int), .func (.func 153) #[] #[]] w3 (Post c X w3 (Ex.testF c.ts f d s)) := fun w3 hR3 hp e => by
    rw [e]
    exact between_any c X w3 s1 153 (f .sum d) a1 d (does_sum HF.out hd) hR3 hp (by rw [← e]; exact HNE.out)
  have GO := Lib.hid go; clear go
  cases v1 with
  | true =>
    go_wp2_with fail
    refine (HI1.out _ HR1.out).mono ?_
    rintro e w2 ⟨rfl, hb2⟩
    have HB2 := Lib.hid hb2; clear hb2
    go_wp2_with fail
    refine (GO.out _ (HR1.out.below HB2.out) (HL1.out (by simp)) (by rw [HT.out]; rfl)).mono ?_
    rintro e w3 (⟨a3, s3, hE3, rfl, hR3, hK3⟩ | ⟨cd, p3, hE3, rfl, hK3⟩)
    rotate_left
    · exact ⟨rfl, .inr ⟨cd, p3, hE3, rfl, (HK1.out.then_below HB2.out).trans hK3⟩⟩
    have HE3 := Lib.hid hE3; have HR3 := Lib.hid hR3; have HK3 := Lib.hid ((HK1.out.then_below HB2.out).trans hK3)
    clear hE3 hR3 hK3
    go_wp2
    go_ret
    exact .inl ⟨_, _, HE3.out, rfl, HR3.out, HK3.out⟩
  | false =>
    go_wp2_with fail
    refine (HI1.out _ HR1.out).mono ?_
    rintro e w2 ⟨rfl, hb2⟩
    have HB2 := Lib.hid hb2; clear hb2
    go_wp2_with fail
    refine (HI2.out _ (HR1.out.below HB2.out)).mono ?_
    rintro e w2' ⟨rfl, hb3⟩
    have HB3 := Lib.hid (HB2.out.trans (hb3.mono HB2.out.size)); clear hb3 HB2
    cases v2 with
    | true =>
      go_wp2_with fail
      refine (GO.out _ (HR1.out.below HB3.out) (HL2.out (by simp)) (by rw [HT.out]; rfl)).mono ?_
      rintro e w3 (⟨a3, s3, hE3, rfl, hR3, hK3⟩ | ⟨cd, p3, hE3, rfl, hK3⟩)
      rotate_left
      · exact ⟨rfl, .inr ⟨cd, p3, hE3, rfl, (HK1.out.then_below HB3.out).trans hK3⟩⟩
      have HE3 := Lib.hid hE3; have HR3 := Lib.hid hR3; have HK3 := Lib.hid ((HK1.out.then_below HB3.out).trans hK3)
      clear hE3 hR3 hK3
      go_wp2
      go_ret
      exact .inl ⟨_, _, HE3.out, rfl, HR3.out, HK3.out⟩
    | false =>
      go_wp2
      go_ret
      exact .inl ⟨_, _, by rw [HT.out]; rfl, rfl, HR1.out.below HB3.out, HK1.out.then_below HB3.out⟩
end Go.Proofs.YtdkhkemllmegfaaGreatDoor
