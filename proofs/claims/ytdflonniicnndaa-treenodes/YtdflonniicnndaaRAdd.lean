/- One more node: the document's Add. -/
import Derived.Test.YtdflonniicnndaaAdd
import Derived.Laws.AppendOwnNone
namespace Go.Proofs.Ytdflonniicnndaa
open Go.RowKit Tn

def RAddP (w : World) (mv : Value) (l : List SN) (s : SN) (e : Ending) (w' : World) : Prop :=
  (fits l.length s.n = false ∧ e = .returned (.tuple #[mv, .int .i64 1]) ∧ Below w.heap.size w w') ∨
  (fits l.length s.n = true ∧ ∃ mv', e = .returned (.tuple #[mv', .int .i64 0]) ∧ w'.ownsRow w.heap.size 33 6 mv' (l.length + 1) (cells6 (l ++ [s])) ∧ Below w.heap.size w w')

theorem own_news {w : World} {base : Nat} {t : TypeId} {z : Nat} {a : Addr} {n c : Nat} {xs : List Value} (h : w.ownsRow base t z (.slice (some a) n c) n xs) : ∀ j u, xs[j]? = some u → w.cell? (a.add j) = some u := by
  intro j u hu
  rcases h.2 with ⟨e, _⟩ | ⟨g, cap, cur, hv, _⟩
  · cases e
  · cases hv
    rw [Addr.add_lit, Nat.zero_add]; exact own_cell h hu

set_option maxRecDepth 100000 in
set_option maxHeartbeats 2000000 in
theorem radd_any (B N : Nat) (mo : Option Addr) (mc : Nat) (l : List SN) (n : Nd) (ka : Option Addr) (kc : Nat) (w : World) (hm : w.ownsRow B 33 6 (.slice mo l.length mc) l.length (cells6 l)) (hk : IntsAt N w ka n.kids) (hl : n.kids.length ≤ 2000) (hs : l.length ≤ 2000) :
    Calls Try.prog 17 #[.slice mo l.length mc, .agg #[.string n.op, .int .i64 n.line, .int .i64 n.col, .string n.name, .int .i64 n.num, .slice ka n.kids.length kc]] w (RAddP w (.slice mo l.length mc) l ⟨n, ka, kc⟩) := by
  generalize hW : w.alloc (.cells #[.string n.op, .int .i64 n.line, .int .i64 n.col, .string n.name, .int .i64 n.num, .slice ka n.kids.length kc] 33) = W
  have hbW : Below w.heap.size w W := by rw [← hW]; exact (Below.refl _ w).alloc (Nat.le_refl _) _
  have hsW : W.heap.size = w.heap.size + 1 := by rw [← hW]; simp
  have s1 : Six W w.heap.size 33 (.string n.op) (.int .i64 n.line) (.int .i64 n.col) (.string n.name) (.int .i64 n.num) (.slice ka n.kids.length kc) := ⟨by rw [← hW]; exact blk_new w _⟩
  have hkW : IntsAt w.heap.size W ka n.kids := (IntsAt.below (N := w.heap.size) (fun i hi => by
    obtain ⟨b, o, e, _, hc⟩ := hk i hi
    exact ⟨b, o, e, by have := World.block_lt_of_cell? _ _ hc; exact this, hc⟩) hbW)
  have hmW : W.ownsRow B 33 6 (.slice mo l.length mc) l.length (cells6 l) := by rw [← hW]; exact hm.alloc _
  obtain ⟨i0, hi, hz0, hz1, hz2⟩ := info_parts Try.info33
  have HI := Lib.hid hi; have HZ := Lib.hid hz0; have HZ1 := Lib.hid hz1; have HZ2 := Lib.hid hz2
  have HK := Lib.hid hkW; have HW := Lib.hid hW; have HS := Lib.hid hsW; have HM := Lib.hid hmW
  clear hk hkW hsW hm hmW hi hz0 hz1 hz2 hW
  go_enter Try.func17, Try.ntmps17
  go_wp2_with fail
  rw [HW.out]
  have c0 := s1.c0; have c1 := s1.c1; have c2 := s1.c2; have c3 := s1.c3; have c4 := s1.c4; have c5 := s1.c5
  go_loop [6] (fun i => ∃ k : Nat, k ≤ n.kids.length ∧ i = .int .i64 k ∧ ∀ j, j < k → 0 ≤ kid n.kids j ∧ kid n.kids j < (l.length : Int)) (fun i => n.kids.length - (intOf i).toNat)
  case atStart => exact ⟨0, Nat.zero_le _, rfl, by intro j hj; omega⟩
  case round =>
    obtain ⟨k, hk', rfl, hall⟩ := hrel
    have HA := Lib.hid hall; clear hall
    by_cases hlt : k < n.kids.length
    · obtain ⟨b, o, rfl, hb, hcell⟩ := HK.out k hlt
      by_cases h0 : 0 ≤ kid n.kids k
      · by_cases h1 : kid n.kids k < (l.length : Int)
        · go_wp2
          go_round
          case rel =>
            refine ⟨k + 1, by omega, by go_num, ?_⟩
            intro j hj
            by_cases hjk : j = k
            · subst hjk; exact ⟨h0, h1⟩
            · exact HA.out j (by omega)
          case measure => simp [intOf]; omega
        · go_wp2
          go_ret2
          refine .inl ⟨?_, rfl, hbW⟩
          rw [← Bool.not_eq_true, fits_at]
          exact fun h => by have h2 : kid n.kids k < (l.length : Int) := (h k hlt).2; omega
      · go_wp2
        go_ret2
        refine .inl ⟨?_, rfl, hbW⟩
        rw [← Bool.not_eq_true, fits_at]
        exact fun h => by have h2 : 0 ≤ kid n.kids k := (h k hlt).1; omega
    · have hfit : fits l.length n = true := fits_at.2 fun i hi => HA.out i (by omega)
      have HF := Lib.hid hfit
      clear HA hfit
      cases mo with
      | none =>
        obtain ⟨e1, e2⟩ : l = [] ∧ mc = 0 := by
          rcases HM.out.2 with ⟨e, e'⟩ | ⟨g, cap, cur, e, _⟩
          · injection e with _ _ e2; exact ⟨List.eq_nil_of_length_eq_zero e', e2⟩
          · cases e
        subst e1; subst e2
        go_wp2_with (first | (at_builtin; refine wpList_append_own _ rfl (.tmp 39) (.tmp 41) 22 rfl w.heap.size 33 i0 _ 6 80 Try.underlying22 HI.out HZ.out HZ1.out HZ2.out rfl (by decide) _ 0 ([]) rfl (ho1.alloc _) ⟨w1.heap.size, 0, none⟩ 1 1 (cell6 ⟨n, ka, kc⟩) rfl rfl (World.news_of_block (cs := #[.string n.op, .int .i64 n.line, .int .i64 n.col, .string n.name, .int .i64 n.num, .slice ka n.kids.length kc]) (t := 33) (fr := (0, 0)) (heap_alloc_new w1 _)) (by intro x hx; simp only [cell6, List.mem_cons, List.not_mem_nil, or_false] at hx; rcases hx with rfl | rfl | rfl | rfl | rfl | rfl <;> rfl) (by unfold maxLen; omega) (by omega) (by have := hb1.size; have := hbW.size; simp; omega) ?_; intro v2 w2 hown2 hgrow2 hnil2) | (at_builtin; refine wpList_append_own_none rfl (.tmp 36) (.tmp 37) 22 rfl w.heap.size 33 i0 6 Try.underlying22 HI.out (.slice (some ⟨W.heap.size, 0, none⟩) 0 0) 0 [] rfl (own_mono (empty_row W 33 6) hbW.size) rfl ?_; obtain ⟨w1, hw1⟩ : ∃ w1, W.alloc (.cells #[] 33) = w1 := ⟨_, rfl⟩; rw [hw1]; have ho1 : w1.ownsRow w.heap.size 33 6 (.slice (some ⟨W.heap.size, 0, none⟩) 0 0) 0 [] := (by rw [← hw1]; exact own_mono (empty_row W 33 6) hbW.size); have hb1 : Below W.heap.size W w1 := (by rw [← hw1]; exact (Below.refl _ W).alloc (Nat.le_refl _) _); have s2 := s1.below hb1 (by have := HS.out; omega); have d0 := s2.c0; have d1 := s2.c1; have d2 := s2.c2; have d3 := s2.c3; have d4 := s2.c4; have d5 := s2.c5; clear hw1))
        go_ret2
        refine .inr ⟨HF.out, v2, rfl, by rw [cells6_snoc]; exact hown2, ?_⟩
        exact ((hbW.trans (hb1.mono hbW.size)).alloc (by have := hb1.size; have := hbW.size; omega) _).grown hgrow2 (by have := hb1.size; have := hbW.size; simp; omega) (fun q e => (own_tag ho1 e).1)
      | some a =>
        have hnews : ∀ j u, (cells6 l)[j]? = some u → (W.alloc (.cells #[] 33)).cell? (a.add j) = some u := own_news (HM.out.alloc _)
        have HNW := Lib.hid hnews; clear hnews
        go_wp2_with (first | (at_builtin; refine wpList_append_own _ rfl (.tmp 39) (.tmp 41) 22 rfl w.heap.size 33 i0 _ 6 80 Try.underlying22 HI.out HZ.out HZ1.out HZ2.out rfl (by decide) _ l.length (cells6 l) rfl (ho1.alloc _) ⟨w1.heap.size, 0, none⟩ 1 1 (cell6 ⟨n, ka, kc⟩) rfl rfl (World.news_of_block (cs := #[.string n.op, .int .i64 n.line, .int .i64 n.col, .string n.name, .int .i64 n.num, .slice ka n.kids.length kc]) (t := 33) (fr := (0, 0)) (heap_alloc_new w1 _)) (by intro x hx; simp only [cell6, List.mem_cons, List.not_mem_nil, or_false] at hx; rcases hx with rfl | rfl | rfl | rfl | rfl | rfl <;> rfl) (by unfold maxLen; omega) (by omega) (by have := hb1.size; have := hbW.size; simp; omega) ?_; intro v2 w2 hown2 hgrow2 hnil2) | (at_builtin; refine wpList_append_own _ rfl (.tmp 36) (.tmp 37) 22 rfl w.heap.size 33 i0 _ 6 80 Try.underlying22 HI.out HZ.out HZ1.out HZ2.out rfl (by decide) (.slice (some ⟨W.heap.size, 0, none⟩) 0 0) 0 [] rfl (own_mono (empty_row W 33 6) hbW.size) a l.length mc (cells6 l) rfl (cells6_len l) HNW.out (cells6_one l) (by unfold maxLen; omega) (by omega) (by have := hbW.size; simp; omega) ?_; intro v1 w1 ho1 hg1 hn1; rw [Nat.zero_add, List.nil_append] at ho1; have hb1 : Below W.heap.size W w1 := ((Below.refl _ W).alloc (Nat.le_refl _) _).grown hg1 (by simp) (fun q e => by cases e; exact Nat.le_refl _); have s2 := s1.below hb1 (by have := HS.out; omega); have d0 := s2.c0; have d1 := s2.c1; have d2 := s2.c2; have d3 := s2.c3; have d4 := s2.c4; have d5 := s2.c5; clear hg1 hn1))
        go_ret2
        refine .inr ⟨HF.out, v2, rfl, by rw [cells6_snoc]; exact hown2, ?_⟩
        exact ((hbW.trans (hb1.mono hbW.size)).alloc (by have := hb1.size; have := hbW.size; omega) _).grown hgrow2 (by have := hb1.size; have := hbW.size; simp; omega) (fun q e => (own_tag ho1 e).1)
end Go.Proofs.Ytdflonniicnndaa
