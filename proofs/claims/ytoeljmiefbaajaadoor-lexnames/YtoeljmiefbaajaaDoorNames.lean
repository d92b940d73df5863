/- The chapter's example, and the law of the language's own names: what they answer in a world that holds the library's two tables. -/
import Derived.Test.YtoeljmiefbaajaaDoorToks
import Derived.KernelRfl
namespace Go.Proofs.YtoeljmiefbaajaaDoor
open Go.RowKit

/-- A row of tokens, place by place. -/
theorem own_slice {w : World} {base : Nat} {e : TypeId} {size : Nat} {v : Value} {n : Nat} {xs : List Value} (h : w.ownsRow base e size v n xs) (hn : 0 < n) :
    ∃ g cap, v = .slice (some ⟨g, 0, none⟩) n cap ∧ n ≤ cap ∧ base ≤ g ∧ ∀ j u, xs[j]? = some u → w.cell? ⟨g, j, none⟩ = some u := by
  rcases h.2 with ⟨rfl, h0⟩ | ⟨g, cap, cur, rfl, hb, hg, hc, _⟩
  · omega
  · refine ⟨g, cap, rfl, hc, hb, fun j u hu => ?_⟩
    have := h.cells (g := g) rfl j u hu
    have hadd : (⟨g, 0, none⟩ : Addr).add j = ⟨g, j, none⟩ := by unfold Addr.add; split <;> simp_all
    rwa [hadd] at this

theorem lives_whole : Lx.whole [108, 101, 116, 32, 120, 32, 58, 61, 32, 49, 32, 35, 32, 121] =
    .ok [⟨2, [108, 101, 116], 0, ⟨1, 1⟩⟩, ⟨1, [120], 0, ⟨1, 5⟩⟩, ⟨4, [58, 61], 0, ⟨1, 7⟩⟩, ⟨3, [49], 1, ⟨1, 10⟩⟩, ⟨0, [], 0, ⟨1, 15⟩⟩] := by kernel_rfl

set_option maxRecDepth 100000 in
set_option maxHeartbeats 2000000 in
theorem lives_any (w : World) (hT : Lib.Utf8Tabs 1 2 w) : Calls Tryd.prog 5 #[] w fun e w' => e = .returned (.bool true) ∧ Below w.heap.size w w' := by
  have cT := tokens_any ⟨#[108, 101, 116, 32, 120, 32, 58, 61, 32, 49, 32, 35, 32, 121]⟩ w (by decide) hT
  have e : (⟨#[108, 101, 116, 32, 120, 32, 58, 61, 32, 49, 32, 35, 32, 121]⟩ : ByteArray).data.toList = [108, 101, 116, 32, 120, 32, 58, 61, 32, 49, 32, 35, 32, 121] := rfl
  rw [e, lives_whole] at cT
  have CT := Lib.hid cT
  clear cT e hT
  go_enter Tryd.func5, Tryd.ntmps5
  go_wp2_with fail
  refine CT.out.mono ?_
  rintro e w' ⟨hb, v, rfl, hown⟩
  obtain ⟨g, cap, rfl, hcap, _, hc⟩ := own_slice hown (by decide)
  have c0 := hc 0 _ rfl; have c11 := hc 11 _ rfl; have c17 := hc 17 _ rfl; have c23 := hc 23 _ rfl; have c24 := hc 24 _ rfl
  have hex : (⟨[58, 61].toArray⟩ : ByteArray).toList = [58, 61] := by rw [toList_eq]
  clear hc hown CT
  simp only [List.length_cons, List.length_nil, Nat.zero_add, Nat.reduceAdd] at *
  go_wp2
  go_ret
  exact ⟨rfl, hb⟩

theorem own_whole {l : Lx.B} (h : Lx.own l = true) : Lx.whole l = .ok [⟨2, l, 0, ⟨1, 1⟩⟩, ⟨0, [], 0, ⟨1, 1 + l.length⟩⟩] := by
  have hm : l ∈ Lx.keys := by simpa [Lx.own] using h
  simp only [Lx.keys, List.mem_cons, List.not_mem_nil, or_false] at hm
  rcases hm with rfl | rfl | rfl | rfl | rfl | rfl | rfl | rfl | rfl | rfl | rfl | rfl | rfl | rfl | rfl | rfl | rfl | rfl | rfl | rfl | rfl | rfl | rfl | rfl | rfl | rfl | rfl | rfl | rfl | rfl <;> rfl

/-- Whatever the text is, Tokens returns two values and leaves what was there. -/
theorem tokens_ret (s : ByteArray) (w : World) (hs : s.size ≤ 1000000000000) (hT : Lib.Utf8Tabs 1 2 w) : Calls Tryd.prog 6 #[.string s] w fun e w' => (∃ v x, e = .returned (.tuple #[v, x])) ∧ Below w.heap.size w w' := by
  refine (tokens_any s w hs hT).mono ?_
  rintro e w' ⟨hb, hr⟩
  refine ⟨?_, hb⟩
  cases hR : Lx.whole s.data.toList with
  | bad c p => rw [hR] at hr; exact ⟨_, _, hr⟩
  | ok ts => rw [hR] at hr; obtain ⟨v, he, _⟩ := hr; exact ⟨_, _, he⟩

set_option maxRecDepth 100000 in
set_option maxHeartbeats 2000000 in
theorem names_any (s : ByteArray) (w : World) (hs : s.size ≤ 9223372036854775807) (hT : Lib.Utf8Tabs 1 2 w) : Calls Tryd.prog 4 #[.string s] w fun e w' => e = .returned (.bool true) ∧ Below w.heap.size w w' := by
  have HT := Lib.hid hT; clear hT
  by_cases hl : s.size > 100
  · go_enter Tryd.func4, Tryd.ntmps4
    go_wp2_with fail
    refine (lives_any _ HT.out).mono ?_
    rintro e w1 ⟨rfl, hb1⟩
    have T1 := Lib.hid (Utf8Tabs_below HT.out hb1)
    go_wp2_with fail
    refine (lives_any _ T1.out).mono ?_
    rintro e w2 ⟨rfl, hb2⟩
    go_wp2
    go_ret
    exact ⟨rfl, hb1.trans (hb2.mono hb1.size)⟩
  · have hs' : s.size ≤ 1000000000000 := by omega
    cases ho : Lx.own s.data.toList
    · have cO := fun w => own_any s w
      have cR := fun w => rown_any s w
      rw [ho] at cO cR
      have CO := Lib.hid cO; have CR := Lib.hid cR
      clear cO cR ho
      go_enter Tryd.func4, Tryd.ntmps4
      go_wp2_with fail
      refine (lives_any _ HT.out).mono ?_
      rintro e w1 ⟨rfl, hb1⟩
      have T1 := Lib.hid (Utf8Tabs_below HT.out hb1)
      go_wp2_with fail
      refine (CO.out _).mono ?_
      rintro e w2 ⟨rfl, rfl⟩
      go_wp2_with fail
      refine (tokens_ret s _ hs' T1.out).mono ?_
      rintro e w3 ⟨⟨v, x, rfl⟩, hb3⟩
      go_wp2_with fail
      refine (CR.out _).mono ?_
      rintro e w4 ⟨rfl, rfl⟩
      go_wp2
      go_ret
      exact ⟨rfl, hb1.trans (hb3.mono hb1.size)⟩
    · have cO := fun w => own_any s w
      have cR := fun w => rown_any s w
      rw [ho] at cO cR
      have cT := fun w h => tokens_any s w hs' h
      rw [own_whole ho] at cT
      have CO := Lib.hid cO; have CR := Lib.hid cR; have CT := Lib.hid cT
      clear cO cR ho cT
      go_enter Tryd.func4, Tryd.ntmps4
      go_wp2_with fail
      refine (lives_any _ HT.out).mono ?_
      rintro e w1 ⟨rfl, hb1⟩
      have T1 := Lib.hid (Utf8Tabs_below HT.out hb1)
      go_wp2_with fail
      refine (CO.out _).mono ?_
      rintro e w2 ⟨rfl, rfl⟩
      go_wp2_with fail
      refine (CT.out _ T1.out).mono ?_
      rintro e w3 ⟨hb3, v, rfl, hown⟩
      obtain ⟨g, cap, rfl, hcap, _, hc⟩ := own_slice hown (by simp)
      have c0 := hc 0 _ rfl; have c1 := hc 1 _ rfl
      have hE : (⟨s.data.toList.toArray⟩ : ByteArray) = s := ext_list (by simp)
      rw [hE] at c1
      clear hc hown CT hE
      simp only [List.length_cons, List.length_nil, Nat.zero_add, Nat.reduceAdd] at *
      go_wp2_with fail
      refine (CR.out _).mono ?_
      rintro e w4 ⟨rfl, rfl⟩
      go_wp2
      go_ret
      exact ⟨rfl, hb1.trans (hb3.mono hb1.size)⟩
end Go.Proofs.YtoeljmiefbaajaaDoor
