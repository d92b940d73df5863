/- What a type is by now. -/
import Derived.Test.YtjbihammbmiieaaDoorTa
namespace Go.Proofs.YtjbihammbmiieaaDoor
open Go.RowKit Un

/-- told ones may be told otherwise; no tree turns -/
structure Moved (R R' : List Nx) : Prop where
  len : R'.length = R.length
  tok : Tok R'
  same : Same (abs R) (abs R')
  root : ∀ x, (nx R x).k ≠ 3 → nx R' x = nx R x
  told : ∀ x, (nx R x).k = 3 → (nx R' x).k = 3
  way : ∀ m x y, To (abs R) m x y → ∃ m', To (abs R') m' x y
theorem Moved.refl {R : List Nx} (h : Tok R) : Moved R R := ⟨rfl, h, Same.refl h.good, fun _ _ => rfl, fun _ h => h, fun m _ _ h => ⟨m, h⟩⟩
theorem Moved.trans {A B C : List Nx} (h : Moved A B) (k : Moved B C) : Moved A C :=
  ⟨k.len.trans h.len, k.tok, h.same.trans k.same, fun x hx => (k.root x (by rw [h.root x hx]; exact hx)).trans (h.root x hx), fun x hx => k.told x (h.told x hx), fun m x y q => by obtain ⟨m', q'⟩ := h.way m x y q; exact k.way m' x y q'⟩
/-- one step: two on at once -/
theorem moved_halve {R : List Nx} {a : Nat} (h : Tok R) (h1 : (nx R a).k = 3) (h2 : (nx R (nx R a).f).k = 3) : Moved R (R.set (a - 3) (nx R (nx R a).f)) := by
  obtain ⟨a3, al, e1⟩ := nx_told h1
  obtain ⟨b3, bl, e2⟩ := nx_told h2
  have hm := h.told _ (nx_mem b3 bl) h2
  have et : (nx R (nx R a).f).tm = Un.told (nx R (nx R a).f).f := by rw [Nx.tm, if_pos h2]
  have hs := halve h.good (by rw [abs_len]; exact al) e1 e2
  rw [← et, show a = a - 3 + 3 by omega] at hs
  rw [← abs_set] at hs
  rw [show a - 3 + 3 = a by omega] at hs
  refine ⟨by simp, ⟨hs.good, fun n hn => ?_, fun n hn hk => ?_⟩, hs, fun x hx => ?_, fun x hx => ?_, fun m x y q => ?_⟩
  · rcases List.mem_or_eq_of_mem_set hn with hn | rfl
    · exact h.kind n hn
    · exact h.kind _ (nx_mem b3 bl)
  · rcases List.mem_or_eq_of_mem_set hn with hn | rfl
    · exact h.told n hn hk
    · exact hm
  · rw [nx_set _ a3 al, if_neg (fun e => hx (by rw [e]; exact h1))]
  · rw [nx_set _ a3 al]; split
    · exact h2
    · exact hx
  · have q' := To.halve (by rw [abs_len]; exact al) e1 e2 m q
    rw [← et, show a = a - 3 + 3 by omega, ← abs_set, show a - 3 + 3 = a by omega] at q'
    exact q'

/-- a node of its own -/
structure NodeAt (w : World) (b : Nat) (n : Nx) : Prop where
  blk : w.heap[b]? = some (.cells #[.int .u8 n.k, .bool n.s, .int .i64 n.f, .int .i64 n.g] 66 (0, 0))
theorem NodeAt.c0 {w : World} {b : Nat} {n : Nx} (h : NodeAt w b n) : w.cell? ⟨b, 0, none⟩ = some (.int .u8 n.k) := (blk_cell h.blk 0).trans rfl
theorem NodeAt.c1 {w : World} {b : Nat} {n : Nx} (h : NodeAt w b n) : w.cell? ⟨b, 1, none⟩ = some (.bool n.s) := (blk_cell h.blk 1).trans rfl
theorem NodeAt.c2 {w : World} {b : Nat} {n : Nx} (h : NodeAt w b n) : w.cell? ⟨b, 2, none⟩ = some (.int .i64 n.f) := (blk_cell h.blk 2).trans rfl
theorem NodeAt.c3 {w : World} {b : Nat} {n : Nx} (h : NodeAt w b n) : w.cell? ⟨b, 3, none⟩ = some (.int .i64 n.g) := (blk_cell h.blk 3).trans rfl
theorem NodeAt.fz {w : World} {b : Nat} {n : Nx} (h : NodeAt w b n) (i : Nat) : w.frozen? ⟨b, i, none⟩ = false := blk_frozen h.blk i
theorem NodeAt.below {w w' : World} {b : Nat} {n : Nx} (h : NodeAt w b n) (k : Below w.heap.size w w') : NodeAt w' b n := ⟨(k.block _ (lt_of_heap h.blk)).trans h.blk⟩
theorem NodeAt.ow {w w' : World} {b : Nat} {n : Nx} {v : Value} (h : NodeAt w b n) (k : Ow v w w') (hne : v.ownBlock ≠ some b) : NodeAt w' b n := ⟨k.heap h.blk hne⟩

structure NowSt (B bt : Nat) (R : List Nx) (v : Value) (y : Nat) (w : World) (nb : Nat) (k : Nat) (a : Nat) (Rc : List Nx) (wr : World) : Prop where
  tab : TabAt B wr bt Rc v
  moved : Moved R Rc
  way : To (abs Rc) k a y
  lt : a < R.length + 3
  node : NodeAt wr nb (nx Rc a)
  ow : Ow v w wr
def NowP (B bt : Nat) (R : List Nx) (v : Value) (y : Nat) (w : World) (e : Ending) (w' : World) : Prop := e = .returned (.int .i64 y) ∧ (∃ R', TabAt B w' bt R' v ∧ Moved R R') ∧ Ow v w w'
set_option maxRecDepth 100000 in
set_option maxHeartbeats 1000000 in
theorem now_any (B bt : Nat) (R : List Nx) (v : Value) (x y m : Nat) (w : World) (h : TabAt B w bt R v) (ht : Tok R) (hx : x < R.length + 3) (hto : To (abs R) m x y) : Calls Tryd.prog 30 #[.pointer (some ⟨bt, 0, none⟩), .int .i64 x] w (NowP B bt R v y w) := by
  have hf : R.length ≤ 100000 := h.few
  have H := Lib.hid h; have HT := Lib.hid ht; have HTO := Lib.hid hto
  clear h ht hto
  go_enter Tryd.func30, Tryd.ntmps30
  go_wp2_with fail
  refine (get_any B bt R v x w H.out hx).mono ?_
  rintro e w1 ⟨rfl, hb1⟩
  have hs0 : NowSt B bt R v y w w1.heap.size m x R (w1.alloc (.cells #[.int .u8 (nx R x).k, .bool (nx R x).s, .int .i64 (nx R x).f, .int .i64 (nx R x).g] 66)) :=
    ⟨(H.out.below hb1).below ((Below.refl _ w1).alloc (Nat.le_refl _) _), Moved.refl HT.out, HTO.out, hx, ⟨blk_new w1 _⟩, (Ow.of_below hb1).trans (Ow.of_below ((Below.refl _ w1).alloc (Nat.le_refl _) _))⟩
  have hfar := H.out.far hb1.size
  have HS0 := Lib.hid hs0; have HFAR := Lib.hid hfar; have HNB := Lib.hid hb1.size
  clear hs0 hfar hb1
  unfold nval
  go_wp2
  generalize w1.alloc (.cells #[.int .u8 (nx R x).k, .bool (nx R x).s, .int .i64 (nx R x).f, .int .i64 (nx R x).g] 66) = W0 at HS0 ⊢
  generalize w1.heap.size = nb at HS0 HFAR HNB ⊢
  clear w1
  go_loopg [1] m (fun k a wr => ∃ (a' : Nat) (Rc : List Nx), a = .int .i64 a' ∧ NowSt B bt R v y w nb k a' Rc wr)
  case atStart => exact ⟨x, R, rfl, HS0.out⟩
  case round =>
    obtain ⟨a, Rc, rfl, hs⟩ := hrel
    have c0 := hs.node.c0; have c2 := hs.node.c2
    have HS := Lib.hid hs
    clear hs
    by_cases hk : (nx Rc a).k = 3
    · obtain ⟨a3, al, e1⟩ := nx_told hk
      obtain ⟨k', rfl, hway⟩ : ∃ k', gk = k' + 1 ∧ To (abs Rc) k' (nx Rc a).f y := by
        have hw := HS.out.way
        cases hw with
        | here h => rw [e1] at h; cases h
        | step h k => rw [e1] at h; injection h with h; subst h; exact ⟨_, rfl, k⟩
      have hlen := HS.out.moved.len
      have hbl : (nx Rc a).f < Rc.length + 3 := by
        have := (HS.out.moved.tok.good.wf.is_ a _ (by rw [abs_len]; exact al) e1).2
        rwa [abs_len] at this
      have hK := hk
      have HK := Lib.hid hK
      have E1 := Lib.hid e1; have HWAY := Lib.hid hway
      rw [hk] at c0
      clear hK hk e1 hway
      go_wp2_with fail
      refine (get_any B bt Rc v (nx Rc a).f wr HS.out.tab hbl).mono ?_
      rintro e w2 ⟨rfl, hb2⟩
      obtain ⟨n2, hn2⟩ : ∃ n2, nx Rc (nx Rc a).f = n2 := ⟨_, rfl⟩
      rw [hn2]
      have htab := (HS.out.tab.below hb2).below ((Below.refl _ w2).alloc (Nat.le_refl _) (.cells #[.int .u8 n2.k, .bool n2.s, .int .i64 n2.f, .int .i64 n2.g] 66))
      have hnode := (HS.out.node.below hb2).below ((Below.refl _ w2).alloc (Nat.le_refl _) (.cells #[.int .u8 n2.k, .bool n2.s, .int .i64 n2.f, .int .i64 n2.g] 66))
      have hnext : NodeAt (w2.alloc (.cells #[.int .u8 n2.k, .bool n2.s, .int .i64 n2.f, .int .i64 n2.g] 66)) w2.heap.size n2 := ⟨blk_new w2 _⟩
      have how := (HS.out.ow.trans (Ow.of_below hb2)).trans (Ow.of_below ((Below.refl _ w2).alloc (Nat.le_refl _) (.cells #[.int .u8 n2.k, .bool n2.s, .int .i64 n2.f, .int .i64 n2.g] 66)))
      have hne : nb ≠ w2.heap.size := by have := lt_of_heap HS.out.node.blk; have := hb2.size; omega
      have hfar2 := HS.out.tab.far hb2.size
      obtain ⟨W2, hW2⟩ : ∃ W2, w2.alloc (.cells #[.int .u8 n2.k, .bool n2.s, .int .i64 n2.f, .int .i64 n2.g] 66) = W2 := ⟨_, rfl⟩
      rw [hW2] at htab hnode hnext how
      obtain ⟨xb, hxb⟩ : ∃ xb, w2.heap.size = xb := ⟨_, rfl⟩
      rw [hxb] at hnext hne hfar2
      have htab' := Lib.hid htab; have HNODE := Lib.hid hnode; have HOW := Lib.hid how; have HNE := Lib.hid hne; have HN2 := Lib.hid hn2; have HFAR2 := Lib.hid hfar2
      clear htab hnode how hn2 hfar2 hb2
      obtain ⟨k2, s2, f2, g2⟩ := n2
      have d0 := hnext.c0; have d1 := hnext.c1; have d2 := hnext.c2; have d3 := hnext.c3
      have HNX := Lib.hid hnext
      have r2 := HNODE.out.c2
      clear hnext c0 c2
      unfold nval
      by_cases h2 : k2 = 3
      · subst h2
        rw [show ((3 : Nat) : Int) = 3 from rfl] at hW2 d0
        go_wp2_with fail
        refine (set_any B bt Rc v a ⟨3, s2, f2, g2⟩ W2 htab'.out a3 al).mono ?_
        rintro e w3 ⟨rfl, htab3, how3⟩
        have hm3 := moved_halve HS.out.moved.tok HK.out (show (nx Rc (nx Rc a).f).k = 3 by rw [HN2.out])
        rw [HN2.out] at hm3
        have hway3 : To (abs (Rc.set (a - 3) ⟨3, s2, f2, g2⟩)) k' (nx Rc a).f y := by
          have e := abs_set Rc (a - 3) ⟨3, s2, f2, g2⟩
          rw [show a - 3 + 3 = a by omega] at e
          rw [e]
          exact To.halved (by rw [abs_len]; exact al) HS.out.way HWAY.out (Nat.lt_succ_self _)
        have hnx : nx (Rc.set (a - 3) ⟨3, s2, f2, g2⟩) (nx Rc a).f = ⟨3, s2, f2, g2⟩ := by
          rw [nx_set _ a3 al]; split
          · rfl
          · exact HN2.out
        have hnode3 := HNODE.out.ow how3 HFAR.out
        have hnx3 := HNX.out.ow how3 HFAR2.out
        have r3 := hnode3.c2
        have q0 := hnode3.c0; have q1 := hnode3.c1; have q3 := hnode3.c3
        have e0 : w3.cell? ⟨xb, 0, none⟩ = some (.int .u8 3) := hnx3.c0; have e1 := hnx3.c1; have e2 := hnx3.c2; have e3 := hnx3.c3
        have qf := hnode3.fz
        have hst : NowSt B bt R v y w nb k' (nx Rc a).f (Rc.set (a - 3) ⟨3, s2, f2, g2⟩) ((((w3.setCell ⟨nb, 0, none⟩ (.int .u8 3)).setCell ⟨nb, 0 + 1, none⟩ (.bool s2)).setCell ⟨nb, 0 + 2, none⟩ (.int .i64 f2)).setCell ⟨nb, 0 + 3, none⟩ (.int .i64 g2)).drew := by
          have hB4 := (but_four w3 nb 0 (.int .u8 3) (.bool s2) (.int .i64 f2) (.int .i64 g2)).drew
          have hbn : bt ≠ nb := fun e => by
            have h1 := htab3.blk; rw [e, hnode3.blk] at h1; injection h1 with h1; injection h1 with _ h1; exact absurd h1 (by decide)
          exact ⟨htab3.but hB4 hbn HFAR.out, HS.out.moved.trans hm3, hway3, by rw [← hlen]; exact hbl, ⟨by rw [hnx]; exact four_set w3 nb hnode3.blk _ _ _ _⟩, (HOW.out.trans how3).fresh hB4 HNB.out⟩
        have HST := Lib.hid hst
        clear hst hnode3 hnx3 htab3 how3 hm3 hway3 hnx d0 d1 d2 d3 r2
        go_wp2
        go_region
        all_goals
          go_wp2
          go_roundg k'
          case measure => exact Nat.lt_succ_self _
          case rel => exact ⟨_, _, rfl, HST.out⟩
      · have r0 := HNODE.out.c0; have r1 := HNODE.out.c1; have r3 := HNODE.out.c3
        have qf := HNODE.out.fz
        have hst : NowSt B bt R v y w nb k' (nx Rc a).f Rc ((((W2.setCell ⟨nb, 0, none⟩ (.int .u8 k2)).setCell ⟨nb, 0 + 1, none⟩ (.bool s2)).setCell ⟨nb, 0 + 2, none⟩ (.int .i64 f2)).setCell ⟨nb, 0 + 3, none⟩ (.int .i64 g2)).drew := by
          have hB4 := (but_four W2 nb 0 (.int .u8 k2) (.bool s2) (.int .i64 f2) (.int .i64 g2)).drew
          have hbn : bt ≠ nb := fun e => by
            have h1 := htab'.out.blk; rw [e, HNODE.out.blk] at h1; injection h1 with h1; injection h1 with _ h1; exact absurd h1 (by decide)
          exact ⟨htab'.out.but hB4 hbn HFAR.out, HS.out.moved, HWAY.out, by rw [← hlen]; exact hbl, ⟨by rw [HN2.out]; exact four_set W2 nb HNODE.out.blk _ _ _ _⟩, HOW.out.fresh hB4 HNB.out⟩
        have HST := Lib.hid hst
        clear hst
        go_wp2
        go_region
        all_goals
          go_wp2
          go_roundg k'
          case measure => exact Nat.lt_succ_self _
          case rel => exact ⟨_, _, rfl, HST.out⟩
    · have ey : a = y := by
        have hw := HS.out.way
        have hr := nx_root hk (by rw [HS.out.moved.len]; exact HS.out.lt)
        cases hw with
        | here h => rfl
        | step h k => rw [hr] at h; cases h
      subst ey
      go_wp2
      go_ret
      exact ⟨rfl, ⟨Rc, HS.out.tab, HS.out.moved⟩, HS.out.ow⟩
end Go.Proofs.YtjbihammbmiieaaDoor
