import Derived.Test.YteknddfpdpaodaaGreatDoorTAdd
import Derived.Laws.AppendOwnNone
import Derived.Test.YteknddfpdpaodaaGreatDoorTKept
import Derived.Shelf.Abstract
import Derived.Shelf.RegionOpen
import Derived.OwnWalkIn
import Derived.TacticsInMore
import Derived.LoopNIn
import Derived.LoopIn

/- One more node: the document's Add. -/
namespace Go.Proofs.YteknddfpdpaodaaGreatDoor
open Go.RowKit Tn

def RAddP (w : World) (mv : Value) (l : List SN) (s : SN) (e : Ending) (w' : World) : Prop :=
  (fits l.length s.n = false ∧ e = .returned (.tuple #[mv, .int .i64 1]) ∧ Below w.heap.size w w') ∨
  (fits l.length s.n = true ∧ ∃ mv', e = .returned (.tuple #[mv', .int .i64 0]) ∧ w'.ownsRow w.heap.size 47 6 mv' (l.length + 1) (cells6 (l ++ [s])) ∧ Below w.heap.size w w')

theorem own_news {w : World} {base : Nat} {t : TypeId} {z : Nat} {a : Addr} {n c : Nat} {xs : List Value} (h : w.ownsRow base t z (.slice (some a) n c) n xs) : ∀ j u, xs[j]? = some u → w.cell? (a.add j) = some u := by
  intro j u hu
  rcases h.2 with ⟨e, _⟩ | ⟨g, cap, cur, hv, _⟩
  · cases e
  · cases hv
    rw [Addr.add_lit, Nat.zero_add]; exact own_cell h hu

end Go.Proofs.YteknddfpdpaodaaGreatDoor


/- A tree of nodes, those that can be added, and these: whisperlaw04.Of. -/
namespace Go.Proofs.YteknddfpdpaodaaGreatDoor
open Go.RowKit Tn

/-- what is in memory when k nodes have been tried -/
structure OfMem (W0 : World) (L : List Nd) (k : Nat) (v : Value) (st : List SN) (mv : Value) (sm : List SN) (wr : World) : Prop where
  tree : TreeOwn (W0.heap.size + 1) wr W0.heap.size v st
  own : wr.ownsRow (W0.heap.size + 1) 47 6 mv sm.length (cells6 sm)
  ne : ∀ g, mv.ownBlock = some g → v.ownBlock ≠ some g
  eqT : nds st = build (L.take k)
  eqM : nds sm = build (L.take k)
  below : Below W0.heap.size W0 wr
  kids : ∀ s ∈ sm, IntsAt W0.heap.size wr s.ka s.n.kids ∧ (s.ka = none → s.kc = 0)

theorem take_succ_nd {L : List Nd} {k : Nat} (h : k < L.length) : L.take (k + 1) = L.take k ++ [nd L k] := by
  rw [List.take_succ_eq_append_getElem h]; simp [nd, h]

theorem OfMem.len {W0 : World} {L : List Nd} {k : Nat} {v : Value} {st : List SN} {mv : Value} {sm : List SN} {wr : World} (h : OfMem W0 L k v st mv sm wr) : st.length = sm.length := by
  have e := congrArg List.length h.eqT
  have e' := congrArg List.length h.eqM
  rw [nds_len] at e e'; omega
theorem OfMem.le {W0 : World} {L : List Nd} {k : Nat} {v : Value} {st : List SN} {mv : Value} {sm : List SN} {wr : World} (h : OfMem W0 L k v st mv sm wr) : st.length ≤ L.length := by
  have e := congrArg List.length h.eqT
  have := build_len (L.take k)
  rw [nds_len] at e
  have : (L.take k).length ≤ L.length := by simp; omega
  omega

theorem OfMem.later {W0 : World} {L : List Nd} {k : Nat} {v : Value} {st : List SN} {mv : Value} {sm : List SN} {wr w' : World} (h : OfMem W0 L k v st mv sm wr) (hb : Below wr.heap.size wr w') : OfMem W0 L k v st mv sm w' := by
  have hb' : Below W0.heap.size wr w' := hb.mono h.below.size
  exact ⟨h.tree.below hb, (But.of_below (p := fun _ => False) hb).own h.own (fun _ _ e => e), h.ne, h.eqT, h.eqM, h.below.trans hb', fun s hs => ⟨(h.kids s hs).1.below hb', (h.kids s hs).2⟩⟩

/-- it could not be added -/
theorem OfMem.no {W0 : World} {L : List Nd} {k : Nat} {v : Value} {st : List SN} {mv : Value} {sm : List SN} {wr w' : World} (h : OfMem W0 L k v st mv sm wr) (hk : k < L.length) (hf : fits st.length (nd L k) = false) (hb : Below wr.heap.size wr w') : OfMem W0 L (k + 1) v st mv sm w' := by
  have e : build (L.take (k + 1)) = build (L.take k) := by
    rw [take_succ_nd hk, build_snoc, ← h.eqT, add, nds_len, hf]; rfl
  have hb' : Below W0.heap.size wr w' := hb.mono h.below.size
  exact ⟨h.tree.below hb, (But.of_below (p := fun _ => False) hb).own h.own (fun _ _ e => e), h.ne, by rw [e]; exact h.eqT, by rw [e]; exact h.eqM, h.below.trans hb', fun s hs => ⟨(h.kids s hs).1.below hb', (h.kids s hs).2⟩⟩

/-- it was added -/
theorem OfMem.yes {W0 : World} {L : List Nd} {k : Nat} {v : Value} {st : List SN} {mv : Value} {sm : List SN} {wr w1 w2 : World} (h : OfMem W0 L k v st mv sm wr) (hk : k < L.length) (hf : fits st.length (nd L k) = true) {v1 : Value} {s1 s2 : SN} {mv2 : Value}
    (ht : TreeOwn (W0.heap.size + 1) w1 W0.heap.size v1 (st ++ [s1])) (hb : But (fun q => q = W0.heap.size ∨ some q = v.ownBlock) wr w1) (ho : w2.ownsRow w1.heap.size 47 6 mv2 (sm.length + 1) (cells6 (sm ++ [s2]))) (hb2 : Below w1.heap.size w1 w2)
    (h1 : s1.n = nd L k) (h2 : s2.n = nd L k) (hk2 : IntsAt W0.heap.size w2 s2.ka s2.n.kids ∧ (s2.ka = none → s2.kc = 0)) : OfMem W0 L (k + 1) v1 (st ++ [s1]) mv2 (sm ++ [s2]) w2 := by
  have e : build (L.take (k + 1)) = build (L.take k) ++ [nd L k] := by
    rw [take_succ_nd hk, build_snoc, ← h.eqT, add, nds_len, if_pos hf]
  have hb1 : Below W0.heap.size wr w1 := hb.below h.below.size (fun q hq => by
    rcases hq with e | e
    · omega
    · have := (own_tag h.tree.own e.symm).1; omega)
  have hb' : Below W0.heap.size wr w2 := hb1.trans (hb2.mono (by have := hb1.size; have := h.below.size; omega))
  have hs := hb1.size
  have hs' := h.below.size
  have hs'' := h.tree.size
  refine ⟨ht.below hb2, ?_, ?_, ?_, ?_, h.below.trans hb', ?_⟩
  · rw [List.length_append]; exact own_mono ho (by omega)
  · intro g hg hv
    have := (own_tag ho hg).1
    obtain ⟨_, _, hh⟩ := own_tag ht.own hv
    have := lt_of_heap hh
    omega
  · rw [e, ← h.eqT]; simp [nds, h1]
  · rw [e, ← h.eqM]; simp [nds, h2]
  · intro s hs
    rcases List.mem_append.1 hs with hs | hs
    · exact ⟨(h.kids s hs).1.below hb', (h.kids s hs).2⟩
    · obtain rfl : s = s2 := by simpa using hs
      exact hk2

def OfP (W0 : World) (L : List Nd) (e : Ending) (w' : World) : Prop :=
  ∃ bt ao cap mo mc, e = .returned (.tuple #[.pointer (some ⟨bt, 0, none⟩), .slice mo (build L).length mc, .bool true]) ∧ TreeAt w'.heap.size w' bt ao cap (build L) ∧ NodesAt w'.heap.size w' mo (build L) ∧ Below W0.heap.size W0 w'

end Go.Proofs.YteknddfpdpaodaaGreatDoor


/- The document's own: an expression's nodes, and how deep it is. -/
namespace Go.Proofs.YteknddfpdpaodaaGreatDoor
open Go.RowKit Tn

end Go.Proofs.YteknddfpdpaodaaGreatDoor


/- The document's own: an expression's nodes. -/
namespace Go.Proofs.YteknddfpdpaodaaGreatDoor
open Go.RowKit Tn

def nats (l : List Nat) : List Int := l.map fun k : Nat => (k : Int)
theorem nats_len (l : List Nat) : (nats l).length = l.length := by simp [nats]
theorem nats_app (l m : List Nat) : ints (nats (l ++ m)) = ints (nats l) ++ ints (nats m) := by simp [nats, ints]

/-- a row of one's own that holds these numbers -/
def PlacesP (w : World) (l : List Nat) (e : Ending) (w' : World) : Prop :=
  ∃ vo vc, e = .returned (.slice vo l.length vc) ∧ w'.ownsRow w.heap.size 3 1 (.slice vo l.length vc) l.length (ints (nats l)) ∧ Below w.heap.size w w'

theorem own_some {w : World} {base : Nat} {t : TypeId} {z : Nat} {vo : Option Addr} {n c : Nat} {xs : List Value} (h : w.ownsRow base t z (.slice vo n c) n xs) (hn : 0 < n) : ∃ g, vo = some ⟨g, 0, none⟩ := by
  rcases h.2 with ⟨_, e⟩ | ⟨g, cap, cur, e, _⟩
  · omega
  · cases e; exact ⟨g, rfl⟩

end Go.Proofs.YteknddfpdpaodaaGreatDoor


/- The walk through an expression's nodes: visit, Each. -/
namespace Go.Proofs.YteknddfpdpaodaaGreatDoor
open Go.RowKit Go.Shelf Tn

attribute [local go_sem] Oper.semAt_some

/-- a node, and its number, as they are handed to a body -/
def enc2 (x : Nat × Value) : Array Value := #[.int .i64 (x.1 : Int), x.2]

/-- what a body may take for granted of what comes -/
structure Comes (ms : List Nd) (full : List Nat) (W0 : World) (pre : List (Nat × Value)) (x : Nat × Value) (W : World) : Prop where
  lt : x.1 < ms.length
  val : ∃ ka kc, x.2 = nval (nd ms x.1) ka kc ∧ IntsAt W.heap.size W ka (nd ms x.1).kids ∧ ∀ a, ka = some a → W0.heap.size ≤ a.block
  order : (pre.map (·.1) ++ [x.1]) <+: full

/-- a body leaves nodes alone -/
abbrev NoNode : Nat → TypeId → Prop := fun _ t => t ≠ 47

def VisitP (N : Nat) (l : List Nat) (J Jx : List (Nat × Value) → World → Prop) (pre : List (Nat × Value)) (W : World) (e : Ending) (W' : World) : Prop :=
  (e = .returned (.bool true) ∧ ∃ xs : List (Nat × Value), xs.map (·.1) = l ∧ J (pre ++ xs) W' ∧ Kept N NoNode W W') ∨
  (e = .returned (.bool false) ∧ ∃ xs : List (Nat × Value), xs.map (·.1) <+: l ∧ Jx (pre ++ xs) W')

theorem partPl_pre (ms : List Nd) (ks : List Int) (j : Nat) : partPl ms ks j <+: partPl ms ks ks.length := by
  refine ⟨(ks.drop j).flatMap fun k => Pl ms k.toNat, ?_⟩
  simp only [partPl, List.take_length]
  rw [← List.flatMap_append, List.take_append_drop]

theorem Six.kept {N : Nat} {W W' : World} {b : Nat} {v0 v1 v2 v3 v4 v5 : Value} (h : Six W b 47 v0 v1 v2 v3 v4 v5) (k : Kept N NoNode W W') : Six W' b 47 v0 v1 v2 v3 v4 v5 := ⟨k.same b _ 47 _ (fun e => e rfl) h.blk⟩

theorem own_from {w : World} {base : Nat} {t : TypeId} {z : Nat} {a : Addr} {n c : Nat} {xs : List Value} (h : w.ownsRow base t z (.slice (some a) n c) n xs) : base ≤ a.block := by
  rcases h.2 with ⟨e, _⟩ | ⟨g, cap, cur, e, hb, _⟩
  · cases e
  · cases e; exact hb

end Go.Proofs.YteknddfpdpaodaaGreatDoor


/- The iterators: Each, once, slices.Backward. -/
namespace Go.Proofs.YteknddfpdpaodaaGreatDoor
open Go.RowKit Go.Shelf Tn

attribute [local go_sem] Oper.semAt_some

structure OnceP (w : World) (bt : Nat) (at_ : Int) (e : Ending) (w' : World) : Prop where
  val : e = .returned (.func (.func 58) #[] #[.pointer (some ⟨w.heap.size + 1, 0, none⟩), .pointer (some ⟨w.heap.size, 0, none⟩)])
  b0 : w'.heap[w.heap.size]? = some (.cells #[.pointer (some ⟨bt, 0, none⟩)] 23 (0, 0))
  b1 : w'.heap[w.heap.size + 1]? = some (.cells #[.int .i64 at_] 3 (0, 0))
  below : Below w.heap.size w w'

theorem once_any (bt : Nat) (i : Int) (w : World) : Calls Tryz.prog 41 #[.pointer (some ⟨bt, 0, none⟩), .int .i64 i] w (OnceP w bt i) := by
  go_enter Tryz.func41, Tryz.ntmps41
  go_wp2
  go_ret
  refine ⟨rfl, blk_alloc (blk_new w _) _, ?_, ((Below.refl _ w).alloc (Nat.le_refl _) _).alloc (by simp) _⟩
  have := blk_new (w.alloc (.cells #[.pointer (some ⟨bt, 0, none⟩)] 23)) (.cells #[.int .i64 i] 3); rwa [World.size_alloc] at this

theorem backward_any (v : Value) (ao : Option Addr) (n c : Nat) (hv : v = .slice ao n c) (w : World) : Calls Tryz.prog 59 #[v] w fun e w' => e = .returned (.func (.func 70) #[] #[.pointer (some ⟨w.heap.size, 0, none⟩)]) ∧ w' = w.alloc (.cells #[v] 68) := by
  subst hv
  go_enter Tryz.func59, Tryz.ntmps59
  go_wp2
  go_ret
  exact ⟨rfl, rfl⟩

/-- from behind -/
structure ComesB (N : Nat) (ms : List Nd) (n : Nat) (pre : List (Nat × Value)) (x : Nat × Value) (W : World) : Prop where
  at_ : pre.length + x.1 + 1 = n
  val : ∃ ka kc, x.2 = nval (nd ms x.1) ka kc ∧ IntsAt N W ka (nd ms x.1).kids

set_option maxRecDepth 100000 in
set_option maxHeartbeats 2000000 in
theorem back1 (ms : List Nd) (n : Nat) (l N Bo B : Nat) (ao : Option Addr) (cap : Nat) (W : World) (hn : n ≤ ms.length) (hn2 : n ≤ 1000000) (hm : NodesAt N W ao ms) (hc : W.heap[B]? = some (.cells #[.slice ao n cap] 68 (0, 0))) (hne : B ≠ Bo) :
    Iterates Tryz.prog 70 #[.pointer (some ⟨B, 0, none⟩)] l enc2 (fun _ => ComesB N ms n) N (fun b _ => b = Bo) (fun xs => xs.length = n) (fun _ => True) W := by
  intro J Jx hJ hJx hY h0
  have HY := Lib.hid hY; have H0 := Lib.hid h0; have HM := Lib.hid hm; have HC := Lib.hid hc
  have c0 : W.cell? ⟨B, 0, none⟩ = some (.slice ao n cap) := (blk_cell hc 0).trans rfl
  clear hJ hJx hY h0 hm hc
  refine callsIn_of_wp Tryz.func70 rfl trivial ?_ rfl
  simp only [Tryz.ntmps70, List.size_toArray, List.length_cons, List.length_nil, Nat.reduceAdd, Nat.reduceSub, Array.replicate_succ, Array.replicate_zero, List.push_toArray, List.append_toArray, List.nil_append, List.cons_append]
  gi_wp2
  gi_loopw [3] (fun i wr => ∃ (pre : List (Nat × Value)) (k : Nat), pre.length + k = n ∧ i = .int .i64 ((k : Int) - 1) ∧ J pre wr ∧ Kept N (fun b _ => b = Bo) W wr) (fun i _ => (intOf i + 1).toNat)
  case atStart => exact ⟨[], n, by simp, rfl, H0.out, Kept.refl _ _ _⟩
  case round =>
    obtain ⟨pre, k, hk, rfl, hj, hkp⟩ := hrel
    have HJ := Lib.hid hj; have HKP := Lib.hid hkp; have HK := Lib.hid hk
    have hb := hkp.same B _ _ _ hne HC.out
    have d0 : wr.cell? ⟨B, 0, none⟩ = some (.slice ao n cap) := (blk_cell hb 0).trans rfl
    cases k with
    | zero =>
      clear hj hkp hk hb
      gi_wp2
      go_end0
      exact ⟨⟨_, rfl⟩, .inl ⟨pre, by have := HK.out; omega, HJ.out⟩⟩
    | succ k =>
      have hkn : k < n := by omega
      obtain ⟨b, o, ka, kc, rfl, hnd⟩ := (HM.out.below hkp.below) k (by omega)
      have c0 := hnd.c0; have c1 := hnd.c1; have c2 := hnd.c2; have c3 := hnd.c3; have c4 := hnd.c4; have c5 := hnd.c5
      obtain ⟨fn, tmps, assign, body, hy, hR⟩ := HY.out pre (k, nval (nd ms k) ka kc) wr wr hj (Below.refl _ _) ⟨by simp only; omega, ka, kc, rfl, hnd.kids⟩
      have HR := Lib.hid hR
      have ek : ((k + 1 : Nat) : Int) - 1 = (k : Int) := by omega
      rw [ek]
      have hk' : (k : Int) < (n : Int) := by omega
      have hk2 : k ≤ 1000000 := by omega
      simp only [enc2, nval] at hy
      clear hj hkp hk hb hR hnd ek
      gi_wp2_with fail
      refine ⟨rfl, HR.out.mono ?_⟩
      clear hy
      rintro e W3 (⟨rfl, hj3, hk3, _⟩ | ⟨rfl, hx3, _⟩)
      · have HJ3 := Lib.hid hj3; have HK3 := Lib.hid hk3
        clear hj3 hk3 c0 c1 c2 c3 c4 c5 d0
        gi_wp2
        go_roundw
        case rel => exact ⟨pre ++ [(k, nval (nd ms k) ka kc)], k, by have := HK.out; simp; omega, by first | rfl | (congr 1), HJ3.out, HKP.out.trans HK3.out⟩
        case measure => simp [intOf]
      · have HX3 := Lib.hid hx3
        clear hx3 c0 c1 c2 c3 c4 c5 d0
        gi_wp2
        refine bodyPost_ret (results_none rfl _ _ _) rfl ?_
        exact ⟨⟨_, rfl⟩, .inr ⟨_, trivial, HX3.out⟩⟩
end Go.Proofs.YteknddfpdpaodaaGreatDoor
