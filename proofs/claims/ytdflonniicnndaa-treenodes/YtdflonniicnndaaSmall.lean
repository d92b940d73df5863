/- Are nodes few, with few parts: whisperlaw04.Small. -/
import Derived.Test.YtdflonniicnndaaOf
namespace Go.Proofs.Ytdflonniicnndaa
open Go.RowKit Tn

structure SmMem (w : World) (L : List Nd) (k : Nat) (nn : Int) (v : Value) (zs : List Int) (wr : World) : Prop where
  own : wr.ownsRow w.heap.size 3 1 v zs.length (ints zs)
  len : zs.length = (build (L.take k)).length
  eqs : ∀ i, i < zs.length → kid zs i = ((Pl (build (L.take k)) i).length : Int)
  le : ∀ i, i < zs.length → (Pl (build (L.take k)) i).length ≤ 2000
  n0 : (k : Int) ≤ nn
  n1 : nn ≤ 2000
  few : ∀ i, i < k → (nd L i).kids.length ≤ 2000
  below : Below w.heap.size w wr

def SmallOk (L : List Nd) : Prop := L.length ≤ 2000 ∧ (∀ i, i < L.length → (nd L i).kids.length ≤ 2000) ∧ Tn.Good (build L)
def SmallP (w : World) (L : List Nd) (e : Ending) (w' : World) : Prop := ∃ b, e = .returned (.bool b) ∧ (b = true → SmallOk L) ∧ Below w.heap.size w w'

theorem kid_snoc_lt {zs : List Int} {x : Int} {i : Nat} (h : i < zs.length) : kid (zs ++ [x]) i = kid zs i := by simp [kid, List.getElem?_append_left h]
theorem kid_snoc_last {zs : List Int} {x : Int} : kid (zs ++ [x]) zs.length = x := by simp [kid]
theorem partPl_bound {ms : List Nd} {ks : List Int} {j : Nat} (hj : j < ks.length) (h : (Pl ms (kid ks j).toNat).length ≤ 2000) (hb : (partPl ms ks j).length ≤ 2000 * j) : (partPl ms ks (j + 1)).length ≤ 2000 * (j + 1) := by
  rw [partPl_succ _ hj, List.length_append]; omega

theorem SmMem.later {w : World} {L : List Nd} {k : Nat} {nn : Int} {v : Value} {zs : List Int} {wr w' : World} (h : SmMem w L k nn v zs wr) (hb : Below wr.heap.size wr w') : SmMem w L k nn v zs w' :=
  ⟨(But.of_below (p := fun _ => False) hb).own h.own (fun _ _ e => e), h.len, h.eqs, h.le, h.n0, h.n1, h.few, h.below.trans (hb.mono h.below.size)⟩

/-- it can't be added -/
theorem SmMem.no {w : World} {L : List Nd} {k : Nat} {nn nn' : Int} {v : Value} {zs : List Int} {wr : World} (h : SmMem w L k nn v zs wr) (hk : k < L.length) (hf : fits zs.length (nd L k) = false) (h1 : nn + 1 ≤ nn') (h2 : nn' ≤ 2000) (hn : (nd L k).kids.length ≤ 2000) : SmMem w L (k + 1) nn' v zs wr := by
  have e : build (L.take (k + 1)) = build (L.take k) := by
    rw [take_succ_nd hk, build_snoc, add, ← h.len, hf]; rfl
  exact ⟨h.own, by rw [e]; exact h.len, by rw [e]; exact h.eqs, by rw [e]; exact h.le, by have := h.n0; omega, h2, fun i hi => by
    by_cases hik : i = k
    · subst hik; exact hn
    · exact h.few i (by omega), h.below⟩

/-- it can -/
theorem SmMem.yes {w : World} {L : List Nd} {k : Nat} {nn nn' : Int} {v v' : Value} {zs : List Int} {wr w' : World} {x : Int} (h : SmMem w L k nn v zs wr) (hk : k < L.length) (hf : fits zs.length (nd L k) = true) (h1 : nn + 1 ≤ nn') (h2 : nn' ≤ 2000) (hn : (nd L k).kids.length ≤ 2000)
    (hx : x = ((partPl (build (L.take k)) (nd L k).kids (nd L k).kids.length).length : Int) + 1) (hx2 : x ≤ 2000) (ho : w'.ownsRow w.heap.size 3 1 v' (zs.length + 1) (ints (zs ++ [x]))) (hb : Below w.heap.size w w') : SmMem w L (k + 1) nn' v' (zs ++ [x]) w' := by
  have e : build (L.take (k + 1)) = build (L.take k) ++ [nd L k] := by
    rw [take_succ_nd hk, build_snoc, add, ← h.len, if_pos hf]
  have hw := WF.ofBuild (L.take k)
  have hf' : fits (build (L.take k)).length (nd L k) = true := by rw [← h.len]; exact hf
  have hlast : Pl (build (L.take k) ++ [nd L k]) (build (L.take k)).length = (build (L.take k)).length :: partPl (build (L.take k)) (nd L k).kids (nd L k).kids.length := by
    rw [Pl_eq (hw.snoc hf') (by simp), nd_last]
    congr 1
    simp only [partPl, List.take_length]
    refine flatMap_congr _ fun q hq => ?_
    have := fits_iff.1 hf' q hq
    exact Pl_lt hw _ hf' _ (by omega)
  refine ⟨by rw [List.length_append]; exact ho, by rw [e, List.length_append, List.length_append, h.len]; rfl, ?_, ?_, by have := h.n0; omega, h2, ?_, hb⟩
  · intro i hi
    rw [e]
    by_cases hl : i < zs.length
    · rw [kid_snoc_lt hl, Pl_lt hw _ hf' i (by rw [← h.len]; exact hl)]; exact h.eqs i hl
    · obtain rfl : i = zs.length := by simp at hi; omega
      rw [kid_snoc_last, h.len, hlast, hx, List.length_cons]; omega
  · intro i hi
    rw [e]
    by_cases hl : i < zs.length
    · rw [Pl_lt hw _ hf' i (by rw [← h.len]; exact hl)]; exact h.le i hl
    · obtain rfl : i = zs.length := by simp at hi; omega
      rw [h.len, hlast, List.length_cons]; omega
  · intro i hi
    by_cases hik : i = k
    · subst hik; exact hn
    · exact h.few i (by omega)

set_option maxRecDepth 100000 in
set_option maxHeartbeats 4000000 in
theorem small_any (w : World) (ao : Option Addr) (cap : Nat) (L : List Nd) (hA : NodesAt w.heap.size w ao L) (hL : L.length ≤ 140737488355328) (hS : ∀ i, i < L.length → (nd L i).op.size ≤ 140737488355328 ∧ (nd L i).name.size ≤ 140737488355328 ∧ (nd L i).kids.length ≤ 140737488355328) :
    Calls Try.prog 5 #[.slice ao L.length cap] w (SmallP w L) := by
  have hm0 : SmMem w L 0 0 (.slice none 0 0) [] w := ⟨⟨rfl, .inl ⟨rfl, rfl⟩⟩, rfl, fun i hi => (by simp at hi), fun i hi => (by simp at hi), by omega, by omega, fun i hi => (by omega), Below.refl _ _⟩
  have H0 := Lib.hid hm0; have HA := Lib.hid hA; have HS := Lib.hid hS
  obtain ⟨i0, hi, hz0, hz1, hz2⟩ := info_parts Try.info3
  have HI := Lib.hid hi; have HZ := Lib.hid hz0; have HZ1 := Lib.hid hz1; have HZ2 := Lib.hid hz2
  clear hm0 hA hS hi hz0 hz1 hz2
  go_enter Try.func5, Try.ntmps5
  go_wp2
  go_loopw [3, 4, 13] (fun n v i wr => ∃ (k : Nat) (nn : Int) (vo : Option Addr) (vc : Nat) (zs : List Int), k ≤ L.length ∧ i = .int .i64 k ∧ n = .int .i64 nn ∧ v = .slice vo zs.length vc ∧ SmMem w L k nn (.slice vo zs.length vc) zs wr) (fun _ _ i _ => L.length - (intOf i).toNat)
  case atStart => exact ⟨0, 0, none, 0, [], Nat.zero_le _, rfl, rfl, rfl, H0.out⟩
  case round =>
    obtain ⟨k, nn, vo, vc, zs, hk, rfl, rfl, rfl, hm⟩ := hrel
    have n0 := hm.n0; have n1 := hm.n1
    by_cases hlt : k < L.length
    · obtain ⟨b, o, ka, kc, rfl, hn0⟩ := HA.out k hlt
      have hn := hn0.below hm.below
      obtain ⟨hs1, hs2, hs3⟩ := HS.out k hlt
      have c0 := hn.c0; have c1 := hn.c1; have c2 := hn.c2; have c3 := hn.c3; have c4 := hn.c4; have c5 := hn.c5
      by_cases hbig : 2000 < nn + (1 + ((nd L k).kids.length : Int) + ((nd L k).op.size : Int) + ((nd L k).name.size : Int))
      · go_wp2
        go_ret
        refine ⟨false, rfl, fun h => (by cases h), ?_⟩
        exact hm.below.alloc hm.below.size _
      · go_wp2_with fail
        obtain ⟨w1, hw1⟩ : ∃ w1, wr.alloc (.cells #[.string (nd L k).op, .int .i64 (nd L k).line, .int .i64 (nd L k).col, .string (nd L k).name, .int .i64 (nd L k).num, .slice ka (nd L k).kids.length kc] 33) = w1 := ⟨_, rfl⟩
        have hb1 : Below wr.heap.size wr w1 := by rw [← hw1]; exact (Below.refl _ _).alloc (Nat.le_refl _) _
        rw [hw1]
        have hm1 := hm.later hb1
        have hkid : IntsAt w.heap.size w1 ka (nd L k).kids := hn.kids.below (hb1.mono hm.below.size)
        have hnew : nn + 1 ≤ nn + (1 + ((nd L k).kids.length : Int) + ((nd L k).op.size : Int) + ((nd L k).name.size : Int)) ∧ nn + (1 + ((nd L k).kids.length : Int) + ((nd L k).op.size : Int) + ((nd L k).name.size : Int)) ≤ 2000 := by omega
        have hfew : (nd L k).kids.length ≤ 2000 := by omega
        clear hw1 hb1 hm hn hn0 c0 c1 c2 c3 c4 c5 hbig
        generalize nn + (1 + ((nd L k).kids.length : Int) + ((nd L k).op.size : Int) + ((nd L k).name.size : Int)) = nn' at *
        obtain ⟨hnew1, hnew2⟩ := hnew
        have hlen := hm1.len
        have HLEN := Lib.hid hlen
        have HKID := Lib.hid hkid
        clear hlen hkid
        go_loop [7, 8, 36] (fun all there i => ∃ j : Nat, j ≤ (nd L k).kids.length ∧ i = .int .i64 j ∧ there = .bool true ∧ all = .int .i64 (1 + ((partPl (build (L.take k)) (nd L k).kids j).length : Int)) ∧ (partPl (build (L.take k)) (nd L k).kids j).length ≤ 2000 * j ∧ ∀ t, t < j → 0 ≤ kid (nd L k).kids t ∧ kid (nd L k).kids t < (zs.length : Int)) (fun _ _ i => (nd L k).kids.length - (intOf i).toNat)
        case atStart => exact ⟨0, Nat.zero_le _, rfl, rfl, rfl, by simp [partPl_zero], fun t ht => by omega⟩
        case round =>
          obtain ⟨j, hj, rfl, rfl, rfl, hsum, hall⟩ := hrel
          have HALL := Lib.hid hall; clear hall
          by_cases hjl : j < (nd L k).kids.length
          · obtain ⟨b2, o2, rfl, hlt2, hc2⟩ := HKID.out j hjl
            by_cases hin : 0 ≤ kid (nd L k).kids j ∧ kid (nd L k).kids j < (zs.length : Int)
            · obtain ⟨h0, h1⟩ := hin
              obtain ⟨q, hq⟩ : ∃ q : Nat, kid (nd L k).kids j = (q : Int) := ⟨(kid (nd L k).kids j).toNat, by omega⟩
              have hql : q < zs.length := by omega
              obtain ⟨g, o3, hvo, _, hc3⟩ := own_ints hm1.own q hql
              rw [hm1.eqs q hql] at hc3
              have hle := hm1.le q hql
              have hps := partPl_succ (build (L.take k)) hjl
              have hpb := partPl_bound (ms := build (L.take k)) hjl (by rw [hq]; exact hle) hsum
              have hnext : (partPl (build (L.take k)) (nd L k).kids (j + 1)).length = (partPl (build (L.take k)) (nd L k).kids j).length + (Pl (build (L.take k)) q).length := by rw [hps, List.length_append, hq]; rfl
              have HQ := Lib.hid hq; have HN := Lib.hid hnext; have HVO := Lib.hid hvo
              rw [hq] at hc2 h0 h1
              subst hvo
              clear hq hnext hps
              go_wp2
              go_round
              case rel =>
                refine ⟨j + 1, by omega, by go_num, rfl, by rw [HN.out]; go_num, by omega, ?_⟩
                intro t ht
                by_cases htj : t = j
                · subst htj; rw [HQ.out]; omega
                · exact HALL.out t (by omega)
              case measure => simp [intOf]; omega
            · have hno : fits zs.length (nd L k) = false := by
                rw [← Bool.not_eq_true, fits_at]
                exact fun h => hin (h j hjl)
              have HNO := Lib.hid hno
              have hor : kid (nd L k).kids j < 0 ∨ (0 ≤ kid (nd L k).kids j ∧ (zs.length : Int) ≤ kid (nd L k).kids j) := by omega
              clear hno hin
              rcases hor with h0 | ⟨h0, h1⟩
              all_goals
                go_wp2
                · go_ret
                  exact ⟨false, rfl, fun h => (by cases h), hm1.below⟩
                · go_roundw
                  case rel => exact ⟨k + 1, nn', vo, vc, zs, by omega, by go_num, rfl, rfl, hm1.no hlt HNO.out hnew1 hnew2 hfew⟩
                  case measure => simp [intOf]; omega
          · obtain rfl : j = (nd L k).kids.length := by omega
            have hyes : fits zs.length (nd L k) = true := fits_at.2 fun t ht => HALL.out t ht
            have HYES := Lib.hid hyes
            clear HALL hyes
            by_cases hgt : 2000 < 1 + ((partPl (build (L.take k)) (nd L k).kids (nd L k).kids.length).length : Int)
            · go_wp2
              go_ret
              exact ⟨false, rfl, fun h => (by cases h), hm1.below⟩
            · have hzl : zs.length ≤ 2000 := by
                have := build_len (L.take k); have h9 := HLEN.out; have : (L.take k).length ≤ k := by simp; omega
                omega
              go_wp2_with (at_builtin; refine wpList_append_own _ rfl (.tmp 58) (.tmp 60) 31 rfl w.heap.size 3 i0 _ 1 8 Try.underlying31 HI.out HZ.out HZ1.out HZ2.out rfl (by decide) (.slice vo zs.length vc) zs.length (ints zs) rfl (hm1.own.alloc _) ⟨w1.heap.size, 0, none⟩ 1 1 [.int .i64 (1 + ((partPl (build (L.take k)) (nd L k).kids (nd L k).kids.length).length : Int))] rfl rfl (World.news_of_block (cs := #[.int .i64 (1 + ((partPl (build (L.take k)) (nd L k).kids (nd L k).kids.length).length : Int))]) (t := 3) (fr := (0, 0)) (heap_alloc_new w1 _)) (by intro x hx; simp at hx; subst hx; rfl) (by unfold maxLen; omega) (by omega) (by have := hm1.below.size; simp; omega) ?_; intro v2 w2 hown2 hgrow2 hnil2)
              obtain ⟨vo2, vc2, rfl⟩ := own_form hown2
              have hB : Below w.heap.size w w2 := (hm1.below.alloc hm1.below.size _).grown hgrow2 (by have := hm1.below.size; simp; omega) (fun q e => (own_tag hm1.own e).1)
              have hfin := hm1.yes (x := 1 + ((partPl (build (L.take k)) (nd L k).kids (nd L k).kids.length).length : Int)) hlt HYES.out hnew1 hnew2 hfew (by omega) (by omega) (by simpa [ints] using hown2) hB
              exact ⟨⟨k + 1, nn', vo2, vc2, zs ++ [1 + ((partPl (build (L.take k)) (nd L k).kids (nd L k).kids.length).length : Int)], by omega, by go_num, rfl, by simp, by simpa using hfin⟩, by simp [intOf]; omega⟩
    · obtain rfl : k = L.length := by omega
      have HM := Lib.hid hm
      clear hm
      go_wp2
      go_ret
      have hm := HM.out
      refine ⟨true, rfl, fun _ => ⟨by omega, fun i hi => hm.few i hi, ?_, ?_⟩, hm.below⟩
      · have := build_len L; omega
      · intro i hi
        have h1 := hm.len; have h2 := hm.le
        rw [List.take_length] at h1 h2
        exact h2 i (by omega)
end Go.Proofs.Ytdflonniicnndaa
