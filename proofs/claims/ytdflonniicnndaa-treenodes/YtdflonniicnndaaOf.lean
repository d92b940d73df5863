/- A tree of nodes, those that can be added, and these: whisperlaw04.Of. -/
import Derived.Test.YtdflonniicnndaaRAdd
namespace Go.Proofs.Ytdflonniicnndaa
open Go.RowKit Tn

/-- what is in memory when k nodes have been tried -/
structure OfMem (W0 : World) (L : List Nd) (k : Nat) (v : Value) (st : List SN) (mv : Value) (sm : List SN) (wr : World) : Prop where
  tree : TreeOwn (W0.heap.size + 1) wr W0.heap.size v st
  own : wr.ownsRow (W0.heap.size + 1) 33 6 mv sm.length (cells6 sm)
  ne : ∀ g, mv.ownBlock = some g → v.ownBlock ≠ some g
  eqT : nds st = build (L.take k)
  eqM : nds sm = build (L.take k)
  below : Below W0.heap.size W0 wr
  kids : ∀ s ∈ sm, IntsAt W0.heap.size wr s.ka s.n.kids ∧ (s.ka = none → s.kc = 0)

theorem take_succ_nd {L : List Nd} {k : Nat} (h : k < L.length) : L.take (k + 1) = L.take k ++ [nd L k] := by
  rw [List.take_succ_eq_append_getElem h]; simp [nd, h]

theorem OfMem.len {W0 : World} {L : List Nd} {k : Nat} {v : Value} {st : List SN} {mv : Value} {sm : List SN} {wr : World} (h : OfMem W0 L k v st mv sm wr) : st.length = sm.length := by
  have e := congrArg List.length h.eqT
  have e' := congrArg List.length h.eqM
  rw [nds_len] at e e'; omega
theorem OfMem.le {W0 : World} {L : List Nd} {k : Nat} {v : Value} {st : List SN} {mv : Value} {sm : List SN} {wr : World} (h : OfMem W0 L k v st mv sm wr) : st.length ≤ L.length := by
  have e := congrArg List.length h.eqT
  have := build_len (L.take k)
  rw [nds_len] at e
  have : (L.take k).length ≤ L.length := by simp; omega
  omega

theorem OfMem.later {W0 : World} {L : List Nd} {k : Nat} {v : Value} {st : List SN} {mv : Value} {sm : List SN} {wr w' : World} (h : OfMem W0 L k v st mv sm wr) (hb : Below wr.heap.size wr w') : OfMem W0 L k v st mv sm w' := by
  have hb' : Below W0.heap.size wr w' := hb.mono h.below.size
  exact ⟨h.tree.below hb, (But.of_below (p := fun _ => False) hb).own h.own (fun _ _ e => e), h.ne, h.eqT, h.eqM, h.below.trans hb', fun s hs => ⟨(h.kids s hs).1.below hb', (h.kids s hs).2⟩⟩

/-- it could not be added -/
theorem OfMem.no {W0 : World} {L : List Nd} {k : Nat} {v : Value} {st : List SN} {mv : Value} {sm : List SN} {wr w' : World} (h : OfMem W0 L k v st mv sm wr) (hk : k < L.length) (hf : fits st.length (nd L k) = false) (hb : Below wr.heap.size wr w') : OfMem W0 L (k + 1) v st mv sm w' := by
  have e : build (L.take (k + 1)) = build (L.take k) := by
    rw [take_succ_nd hk, build_snoc, ← h.eqT, add, nds_len, hf]; rfl
  have hb' : Below W0.heap.size wr w' := hb.mono h.below.size
  exact ⟨h.tree.below hb, (But.of_below (p := fun _ => False) hb).own h.own (fun _ _ e => e), h.ne, by rw [e]; exact h.eqT, by rw [e]; exact h.eqM, h.below.trans hb', fun s hs => ⟨(h.kids s hs).1.below hb', (h.kids s hs).2⟩⟩

/-- it was added -/
theorem OfMem.yes {W0 : World} {L : List Nd} {k : Nat} {v : Value} {st : List SN} {mv : Value} {sm : List SN} {wr w1 w2 : World} (h : OfMem W0 L k v st mv sm wr) (hk : k < L.length) (hf : fits st.length (nd L k) = true) {v1 : Value} {s1 s2 : SN} {mv2 : Value}
    (ht : TreeOwn (W0.heap.size + 1) w1 W0.heap.size v1 (st ++ [s1])) (hb : But (fun q => q = W0.heap.size ∨ some q = v.ownBlock) wr w1) (ho : w2.ownsRow w1.heap.size 33 6 mv2 (sm.length + 1) (cells6 (sm ++ [s2]))) (hb2 : Below w1.heap.size w1 w2)
    (h1 : s1.n = nd L k) (h2 : s2.n = nd L k) (hk2 : IntsAt W0.heap.size w2 s2.ka s2.n.kids ∧ (s2.ka = none → s2.kc = 0)) : OfMem W0 L (k + 1) v1 (st ++ [s1]) mv2 (sm ++ [s2]) w2 := by
  have e : build (L.take (k + 1)) = build (L.take k) ++ [nd L k] := by
    rw [take_succ_nd hk, build_snoc, ← h.eqT, add, nds_len, if_pos hf]
  have hb1 : Below W0.heap.size wr w1 := hb.below h.below.size (fun q hq => by
    rcases hq with e | e
    · omega
    · have := (own_tag h.tree.own e.symm).1; omega)
  have hb' : Below W0.heap.size wr w2 := hb1.trans (hb2.mono (by have := hb1.size; have := h.below.size; omega))
  have hs := hb1.size
  have hs' := h.below.size
  have hs'' := h.tree.size
  refine ⟨ht.below hb2, ?_, ?_, ?_, ?_, h.below.trans hb', ?_⟩
  · rw [List.length_append]; exact own_mono ho (by omega)
  · intro g hg hv
    have := (own_tag ho hg).1
    obtain ⟨_, _, hh⟩ := own_tag ht.own hv
    have := lt_of_heap hh
    omega
  · rw [e, ← h.eqT]; simp [nds, h1]
  · rw [e, ← h.eqM]; simp [nds, h2]
  · intro s hs
    rcases List.mem_append.1 hs with hs | hs
    · exact ⟨(h.kids s hs).1.below hb', (h.kids s hs).2⟩
    · obtain rfl : s = s2 := by simpa using hs
      exact hk2

def OfP (W0 : World) (L : List Nd) (e : Ending) (w' : World) : Prop :=
  ∃ bt ao cap mo mc, e = .returned (.tuple #[.pointer (some ⟨bt, 0, none⟩), .slice mo (build L).length mc, .bool true]) ∧ TreeAt w'.heap.size w' bt ao cap (build L) ∧ NodesAt w'.heap.size w' mo (build L) ∧ Below W0.heap.size W0 w'

set_option maxRecDepth 100000 in
set_option maxHeartbeats 4000000 in
theorem of_any (W0 : World) (ao : Option Addr) (cap : Nat) (L : List Nd) (hA : NodesAt W0.heap.size W0 ao L) (hL : L.length ≤ 2000) (hK : ∀ i, i < L.length → (nd L i).kids.length ≤ 2000) :
    Calls Try.prog 6 #[.slice ao L.length cap] W0 (OfP W0 L) := by
  have hm0 : OfMem W0 L 0 (.slice none 0 0) [] (.slice none 0 0) [] (W0.alloc (.cells #[.slice none 0 0] 47)) :=
    ⟨⟨blk_new _ _, ⟨rfl, .inl ⟨rfl, rfl⟩⟩, fun s hs => (by cases hs), by omega⟩, ⟨rfl, .inl ⟨rfl, rfl⟩⟩, fun g hg => (by cases hg), rfl, rfl, (Below.refl _ _).alloc (Nat.le_refl _) _, fun s hs => (by cases hs)⟩
  have H0 := Lib.hid hm0; have HA := Lib.hid hA; have HK := Lib.hid hK
  clear hm0 hA hK
  go_enter Try.func6, Try.ntmps6
  go_wp2
  go_loopw [6, 17] (fun m i wr => ∃ (k : Nat) (v : Value) (st : List SN) (mo : Option Addr) (mc : Nat) (sm : List SN), k ≤ L.length ∧ i = .int .i64 k ∧ m = .slice mo sm.length mc ∧ OfMem W0 L k v st (.slice mo sm.length mc) sm wr) (fun _ i _ => L.length - (intOf i).toNat)
  case atStart => exact ⟨0, _, [], none, 0, [], Nat.zero_le _, rfl, rfl, H0.out⟩
  case round =>
    obtain ⟨k, v, st, mo, mc, sm, hk, rfl, rfl, hm⟩ := hrel
    by_cases hlt : k < L.length
    · obtain ⟨b, o, ka, kc, rfl, hn0⟩ := HA.out k hlt
      have hn := hn0.below hm.below
      have hkl := HK.out k hlt
      have c0 := hn.c0; have c1 := hn.c1; have c2 := hn.c2; have c3 := hn.c3; have c4 := hn.c4; have c5 := hn.c5
      go_wp2_with fail
      obtain ⟨w0, hw0⟩ : ∃ w0, wr.alloc (.cells #[.string (nd L k).op, .int .i64 (nd L k).line, .int .i64 (nd L k).col, .string (nd L k).name, .int .i64 (nd L k).num, .slice ka (nd L k).kids.length kc] 33) = w0 := ⟨_, rfl⟩
      have hb0 : Below wr.heap.size wr w0 := by rw [← hw0]; exact (Below.refl _ _).alloc (Nat.le_refl _) _
      have s0 : Six w0 wr.heap.size 33 (.string (nd L k).op) (.int .i64 (nd L k).line) (.int .i64 (nd L k).col) (.string (nd L k).name) (.int .i64 (nd L k).num) (.slice ka (nd L k).kids.length kc) := ⟨by rw [← hw0]; exact blk_new _ _⟩
      have hz0 : w0.heap.size = wr.heap.size + 1 := by rw [← hw0]; simp
      rw [hw0]
      clear hw0 c0 c1 c2 c3 c4 c5
      have hm1 := hm.later hb0
      have hkid : IntsAt W0.heap.size w0 ka (nd L k).kids := hn.kids.below (hb0.mono hm.below.size)
      have hnil := hn.nil
      have hlen := hm.len
      have hle := hm.le
      have hsz := hm.below.size
      have HZ := Lib.hid hz0; have HN := Lib.hid hnil
      clear hz0 hnil hn hn0
      by_cases hf : fits st.length (nd L k) = true
      · have HF := Lib.hid hf; clear hf
        refine (add_yes (W0.heap.size + 1) W0.heap.size v st W0.heap.size (nd L k) ka kc w0 hm1.tree hkid HN.out hkl (by omega) HF.out (by have := HZ.out; have := hm.tree.size; omega)).mono ?_
        rintro e w1 ⟨v1, ka1, kc1, rfl, ht1, hb1, hat1⟩
        have hne : ¬ (wr.heap.size = W0.heap.size ∨ some wr.heap.size = v.ownBlock) := by
          rintro (e | e)
          · have := hm.tree.size; omega
          · obtain ⟨_, _, hh⟩ := own_tag hm.tree.own e.symm
            have := lt_of_heap hh; omega
        have s1 : Six w1 wr.heap.size 33 (.string (nd L k).op) (.int .i64 (nd L k).line) (.int .i64 (nd L k).col) (.string (nd L k).name) (.int .i64 (nd L k).num) (.slice ka (nd L k).kids.length kc) := ⟨hb1.heap s0.blk hne⟩
        have c0 := s1.c0; have c1 := s1.c1; have c2 := s1.c2; have c3 := s1.c3; have c4 := s1.c4; have c5 := s1.c5
        have hB1 : Below W0.heap.size w0 w1 := hb1.below (by have := HZ.out; omega) (fun q hq => by
          rcases hq with e | e
          · omega
          · have := (own_tag hm.tree.own e.symm).1; omega)
        have hk1 : IntsAt W0.heap.size w1 ka (nd L k).kids := hkid.below hB1
        have ho1 : w1.ownsRow (W0.heap.size + 1) 33 6 (.slice mo sm.length mc) sm.length (cells6 sm) := hb1.own hm1.own (fun g hg hp => by
          rcases hp with e | e
          · have := (own_tag hm1.own hg).1; omega
          · exact hm1.ne g hg e.symm)
        have HO := Lib.hid ho1; have HK1 := Lib.hid hk1; have HT := Lib.hid ht1; have HB := Lib.hid hb1
        clear ho1 hk1 ht1 hb1 hat1 hB1 hne s0 hb0
        go_wp2_with fail
        refine (radd_any (W0.heap.size + 1) W0.heap.size mo mc sm (nd L k) ka kc w1 HO.out HK1.out hkl (by omega)).mono ?_
        rintro e w2 (⟨hff, _⟩ | ⟨hff, mv2, rfl, ho2, hb2⟩)
        · exfalso
          have h9 : fits sm.length (nd L k) = false := hff
          rw [← hlen, HF.out] at h9; cases h9
        · obtain ⟨mo2, mc2, rfl⟩ := own_form ho2
          have hfin := hm1.yes hlt HF.out HT.out HB.out ho2 hb2 rfl rfl ⟨HK1.out.below (hb2.mono (by have := s1.blk; have := lt_of_heap this; omega)), HN.out⟩
          have HFIN := Lib.hid hfin
          have hq : ((st.length : Int) != (sm.length : Int)) = false := by simp [hlen]
          clear hfin ho2 hb2 hff hm1 hm c0 c1 c2 c3 c4 c5 hlen
          go_wp2
          go_roundw
          case rel => exact ⟨k + 1, v1, st ++ [⟨nd L k, ka1, kc1⟩], mo2, mc2, sm ++ [⟨nd L k, ka, kc⟩], by omega, by go_num, by simp, by have := HFIN.out; simpa using this⟩
          case measure => simp [intOf]; omega
      · have hf' : fits st.length (nd L k) = false := by simpa using hf
        have HF := Lib.hid hf'; clear hf hf'
        obtain ⟨ao1, cap1, rfl⟩ := own_form hm1.tree.own
        have hcell : w0.cell? ⟨W0.heap.size, 0, none⟩ = some (.slice ao1 st.length cap1) := (blk_cell hm1.tree.blk 0).trans rfl
        refine (add_no W0.heap.size ao1 st.length cap1 W0.heap.size (nd L k) ka kc w0 hcell hkid hkl HF.out).mono ?_
        rintro e w1 ⟨rfl, hb1⟩
        have hm2 := hm1.later hb1
        have s1 := s0.below hb1 (by have := HZ.out; omega)
        have c0 := s1.c0; have c1 := s1.c1; have c2 := s1.c2; have c3 := s1.c3; have c4 := s1.c4; have c5 := s1.c5
        have hk1 : IntsAt W0.heap.size w1 ka (nd L k).kids := hkid.below (hb1.mono (by have := HZ.out; omega))
        have HK1 := Lib.hid hk1
        clear hk1 s0 hcell hb0 hm1 hm
        go_wp2_with fail
        refine (radd_any (W0.heap.size + 1) W0.heap.size mo mc sm (nd L k) ka kc w1 hm2.own HK1.out hkl (by omega)).mono ?_
        rintro e w2 (⟨hff, rfl, hb2⟩ | ⟨hff, _⟩)
        · have hfin := hm2.no hlt HF.out hb2
          have HFIN := Lib.hid hfin
          clear hfin hb2 hff hm2 c0 c1 c2 c3 c4 c5 hlen
          go_wp2
          go_roundw
          case rel => exact ⟨k + 1, _, st, mo, mc, sm, by omega, by go_num, rfl, HFIN.out⟩
          case measure => simp [intOf]; omega
        · exfalso
          have h9 : fits sm.length (nd L k) = true := hff
          rw [← hlen, HF.out] at h9; cases h9
    · obtain rfl : k = L.length := by omega
      obtain ⟨ao1, cap1, rfl⟩ := own_form hm.tree.own
      have hcell : wr.cell? ⟨W0.heap.size, 0, none⟩ = some (.slice ao1 st.length cap1) := (blk_cell hm.tree.blk 0).trans rfl
      have hlen := hm.len
      have HM := Lib.hid hm
      have hq : ((st.length : Int) == (sm.length : Int)) = true := by simp [hlen]
      have HL := Lib.hid hlen
      have HC := Lib.hid hcell
      clear hm hlen hcell
      go_wp2_with (go_at_call 18; refine (len_any W0.heap.size ao1 st.length cap1 _ HC.out).mono ?_; rintro e w' ⟨rfl, rfl⟩)
      go_ret3
      have hm := HM.out
      have e : nds st = build L := by have := hm.eqT; rwa [List.take_length] at this
      have e' : nds sm = build L := by have := hm.eqM; rwa [List.take_length] at this
      have el : sm.length = (build L).length := by rw [← e', nds_len]
      obtain ⟨ao2, cap2, hv, hT⟩ := hm.tree.at
      cases hv
      refine ⟨W0.heap.size, ao1, cap1, mo, mc, by rw [← el]; rfl, by rw [← e]; exact hT, ?_, hm.below⟩
      rw [← e']
      exact own_nodes hm.own (fun s hs => (hm.kids s hs).1.mono hm.below.size) (fun s hs => (hm.kids s hs).2) (Nat.le_refl _)
end Go.Proofs.Ytdflonniicnndaa
