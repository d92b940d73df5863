/- The document's own: an expression's nodes. -/
import Derived.Test.YtdflonniicnndaaRef
namespace Go.Proofs.Ytdflonniicnndaa
open Go.RowKit Tn

def nats (l : List Nat) : List Int := l.map fun k : Nat => (k : Int)
theorem nats_len (l : List Nat) : (nats l).length = l.length := by simp [nats]
theorem nats_app (l m : List Nat) : ints (nats (l ++ m)) = ints (nats l) ++ ints (nats m) := by simp [nats, ints]

/-- a row of one's own that holds these numbers -/
def PlacesP (w : World) (l : List Nat) (e : Ending) (w' : World) : Prop :=
  ∃ vo vc, e = .returned (.slice vo l.length vc) ∧ w'.ownsRow w.heap.size 3 1 (.slice vo l.length vc) l.length (ints (nats l)) ∧ Below w.heap.size w w'

theorem places_no (mo : Option Addr) (len mc : Nat) (i : Int) (w : World) (h : ¬ (0 ≤ i ∧ i < (len : Int))) :
    Calls Try.prog 10 #[.slice mo len mc, .int .i64 i] w (PlacesP w []) := by
  have H := Lib.hid h; clear h
  go_enter Try.func10, Try.ntmps10
  go_wp2_with (go_at_call 15; refine (in_no mo len mc i _ H.out).mono ?_; rintro e w' ⟨rfl, rfl⟩)
  go_ret
  exact ⟨none, 0, rfl, ⟨rfl, .inl ⟨rfl, rfl⟩⟩, Below.refl _ _⟩

theorem own_some {w : World} {base : Nat} {t : TypeId} {z : Nat} {vo : Option Addr} {n c : Nat} {xs : List Value} (h : w.ownsRow base t z (.slice vo n c) n xs) (hn : 0 < n) : ∃ g, vo = some ⟨g, 0, none⟩ := by
  rcases h.2 with ⟨_, e⟩ | ⟨g, cap, cur, e, _⟩
  · omega
  · cases e; exact ⟨g, rfl⟩

set_option maxRecDepth 100000 in
set_option maxHeartbeats 4000000 in
theorem places_any (N : Nat) (mo : Option Addr) (mc : Nat) (ms : List Nd) (hw : WF ms) (hg : Tn.Good ms) (hf : ∀ i, i < ms.length → (nd ms i).kids.length ≤ 2000) (i : Nat) : i < ms.length → ∀ (w : World), NodesAt N w mo ms → N ≤ w.heap.size →
    Calls Try.prog 10 #[.slice mo ms.length mc, .int .i64 (i : Int)] w (PlacesP w (Pl ms i)) := by
  obtain ⟨i0, hi0, hz0, hz1, hz2⟩ := info_parts Try.info3
  have HI := Lib.hid hi0; have HZ := Lib.hid hz0; have HZ1 := Lib.hid hz1; have HZ2 := Lib.hid hz2
  have HW := Lib.hid hw; have HG := Lib.hid hg; have HF := Lib.hid hf
  clear hw hg hf hi0 hz0 hz1 hz2
  induction i using Nat.strongRecOn with
  | _ i ih =>
    intro hi w hm hN
    have IH := Lib.hid ih
    have HM := Lib.hid hm
    obtain ⟨b, o, ka, kc, rfl, hn⟩ := hm i hi
    have hkl := HF.out i hi
    have heq := Pl_eq HW.out hi
    have hP := HG.out.2 i hi
    rw [heq, List.length_cons] at hP
    have HEQ := Lib.hid heq
    have HN := Lib.hid hn
    have hi' : (i : Int) < (ms.length : Int) := by omega
    have h0 : (w.alloc (.cells #[.int .i64 (i : Int)] 3)).ownsRow w.heap.size 3 1 (.slice (some ⟨w.heap.size, 0, none⟩) 1 1) 1 (ints (nats [i])) :=
      ⟨rfl, .inr ⟨w.heap.size, 1, #[.int .i64 (i : Int)], rfl, Nat.le_refl _, blk_new w _, Nat.le_refl _, by unfold maxLen; omega, rfl, rfl⟩⟩
    have H0 := Lib.hid h0
    clear ih hm hn heq h0
    go_enter Try.func10, Try.ntmps10
    go_wp2_with (go_at_call 15; refine (in_yes _ ms.length mc i _ (by omega) (by omega)).mono ?_; rintro e w' ⟨rfl, rfl⟩)
    go_loopw [6, 7] (fun v k wr => ∃ (j : Nat) (vo : Option Addr) (vc : Nat), j ≤ (nd ms i).kids.length ∧ k = .int .i64 j ∧ v = .slice vo (1 + (partPl ms (nd ms i).kids j).length) vc ∧ wr.ownsRow w.heap.size 3 1 (.slice vo (1 + (partPl ms (nd ms i).kids j).length) vc) (1 + (partPl ms (nd ms i).kids j).length) (ints (nats (i :: partPl ms (nd ms i).kids j))) ∧ Below w.heap.size w wr) (fun _ k _ => (nd ms i).kids.length - (intOf k).toNat)
    case atStart => exact ⟨0, some ⟨w.heap.size, 0, none⟩, 1, Nat.zero_le _, rfl, rfl, H0.out, (Below.refl _ _).alloc (Nat.le_refl _) _⟩
    case round =>
      obtain ⟨j, vo, vc, hj, rfl, rfl, hown, hbel⟩ := hrel
      have hn := HN.out.below (hbel.mono hN)
      have c5 := hn.c5
      have hkids := hn.kids
      have hpl := partPl_le ms (nd ms i).kids hj
      by_cases hjl : j < (nd ms i).kids.length
      · obtain ⟨b2, o2, rfl, _, hc2⟩ := hkids j hjl
        have hkm := kid_lt HW.out hi (kid_mem hjl)
        obtain ⟨q, hq⟩ : ∃ q : Nat, kid (nd ms i).kids j = (q : Int) := ⟨(kid (nd ms i).kids j).toNat, hkm.2.symm⟩
        have hqi : q < i := by omega
        have hs := partPl_succ ms hjl
        have hpl' := partPl_le ms (nd ms i).kids (show j + 1 ≤ _ from hjl)
        rw [hq] at hc2 hs
        rw [Int.toNat_natCast] at hs
        have hsl : (partPl ms (nd ms i).kids (j + 1)).length = (partPl ms (nd ms i).kids j).length + (Pl ms q).length := by rw [hs, List.length_append]
        have hpos : 0 < (Pl ms q).length := by rw [Pl_eq HW.out (show q < ms.length by omega)]; simp
        have HS := Lib.hid hs; have HSL := Lib.hid hsl
        have hmw := HM.out.below (hbel.mono hN)
        have HMW := Lib.hid hmw; have HO := Lib.hid hown; have HBEL := Lib.hid hbel
        rw [hsl] at hpl'
        have hsz := hbel.size
        clear hs hq hkm hn hkids hmw hown hsl hbel
        go_wp2_with (first
          | (go_at_call 10; refine (IH.out q hqi (by omega) _ HMW.out (by omega)).mono ?_; rintro e w1 ⟨vo1, vc1, rfl, ho1, hb1⟩; obtain ⟨g1, rfl⟩ := own_some ho1 hpos; have hsz1 := hb1.size; have ho2 := (But.of_below (p := fun _ => False) hb1).own HO.out (fun _ _ e => e); have hnw := own_news ho1)
          | (at_builtin; refine wpList_append_own _ rfl (.tmp 25) (.tmp 35) 31 rfl w.heap.size 3 i0 _ 1 8 Try.underlying31 HI.out HZ.out HZ1.out HZ2.out rfl (by decide) _ (1 + (partPl ms (nd ms i).kids j).length) (ints (nats (i :: partPl ms (nd ms i).kids j))) rfl ho2 ⟨g1, 0, none⟩ (Pl ms q).length vc1 (ints (nats (Pl ms q))) rfl (by rw [ints_len, nats_len, Nat.mul_one]) hnw (ints_one _) (by unfold maxLen; omega) (by omega) (by omega) ?_; intro v2 w2 hown2 hgrow2 hnil2))
        obtain ⟨vo2, vc2, rfl⟩ := own_form hown2
        have hB : Below w.heap.size w w2 := (HBEL.out.trans (hb1.mono hsz)).grown hgrow2 (by omega) (fun x e => (own_tag HO.out e).1)
        have ha : 1 + (partPl ms (nd ms i).kids j).length + (Pl ms q).length = 1 + (partPl ms (nd ms i).kids (j + 1)).length := by rw [HSL.out]; omega
        rw [ha, ← nats_app, List.cons_append, ← HS.out] at hown2
        exact ⟨⟨j + 1, vo2, vc2, by omega, by go_num, by rw [ha], hown2, hB⟩, by simp [intOf]; omega⟩
      · obtain rfl : j = (nd ms i).kids.length := by omega
        have HO := Lib.hid hown
        clear hown
        go_wp2
        go_ret
        refine ⟨vo, vc, ?_, ?_, hbel⟩
        · rw [HEQ.out, List.length_cons, Nat.add_comm]; rfl
        · have := HO.out; rw [HEQ.out, List.length_cons, Nat.add_comm]; exact this
end Go.Proofs.Ytdflonniicnndaa
