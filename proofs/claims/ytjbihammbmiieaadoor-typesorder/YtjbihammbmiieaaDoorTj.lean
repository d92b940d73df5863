/- What stands in a type. -/
import Derived.Test.YtjbihammbmiieaaDoorTi
namespace Go.Proofs.YtjbihammbmiieaaDoor
open Go.RowKit Un

structure WSt (B bt : Nat) (R : List Nx) (v : Value) (b0 : Nat) (w : World) (i : Nat) (lv : Value) (Rc : List Nx) (l : List Nat) (wr : World) : Prop where
  tab : TabAt B wr bt Rc v
  own : wr.ownsRow w.heap.size 35 1 lv l.length (nats l)
  wp : WP R b0 Rc l
  shut : Shut R l i
  ow : Ow v w wr
  le : i ≤ l.length
theorem Shut.more {R : List Nx} {l : List Nat} {i : Nat} (h : Shut R l i) (hi : i ≤ l.length) (z : List Nat) : Shut R (l ++ z) i := fun j x hj e s u hv => by
  rw [List.getElem?_append_left (by omega)] at e
  obtain ⟨h1, h2⟩ := h j x hj e s u hv
  exact ⟨Cov.more h1 z, Cov.more h2 z⟩
def WithinP (B bt : Nat) (R : List Nx) (v : Value) (b0 : Nat) (w : World) (e : Ending) (w' : World) : Prop :=
  ∃ lv l R', e = .returned lv ∧ w'.ownsRow w.heap.size 35 1 lv l.length (nats l) ∧ TabAt B w' bt R' v ∧ Moved R R' ∧ Ow v w w' ∧ (∀ n ∈ R', n.s = false) ∧ l.length ≤ R.length + 1 ∧ (∀ a t, a < R.length + 3 → (nx R a).k = 1 → Val (abs R) b0 t → (a ∈ l ↔ t.Occ a))

theorem row_some {w : World} {base : Nat} {t : TypeId} {z : Nat} {v : Value} {n : Nat} {xs : List Value} (h : w.ownsRow base t z v n xs) (h0 : 0 < n) : ∃ g cap, v = .slice (some ⟨g, 0, none⟩) n cap ∧ base ≤ g ∧ n ≤ cap := by
  rcases h.2 with ⟨rfl, h1⟩ | ⟨g, cap, cur, rfl, hb, hg, hc, _⟩
  · omega
  · exact ⟨g, cap, rfl, hb, hc⟩
theorem NodeAt.ow2 {w w' : World} {b : Nat} {n : Nx} {v u : Value} (h : NodeAt w b n) (k : Ow2 v u w w') (h1 : v.ownBlock ≠ some b) (h2 : u.ownBlock ≠ some b) : NodeAt w' b n := ⟨But.heap k h.blk (fun e => e.elim h1 h2)⟩
theorem NodeAt.apart {w : World} {b : Nat} {n : Nx} (h : NodeAt w b n) {base : Nat} {t : TypeId} {z : Nat} {v : Value} {m : Nat} {xs : List Value} (k : w.ownsRow base t z v m xs) (ht : t ≠ 66) : v.ownBlock ≠ some b := fun e => by
  obtain ⟨_, cur, e1⟩ := own_tag k e
  rw [h.blk] at e1; injection e1 with e1; injection e1 with _ e1; exact ht e1.symm
theorem WSt.low {B bt : Nat} {R : List Nx} {v : Value} {b0 : Nat} {w : World} {i : Nat} {lv : Value} {Rc : List Nx} {l : List Nat} {wr : World} (h : WSt B bt R v b0 w i lv Rc l wr) : ∀ q, lv.ownBlock = some q → w.heap.size ≤ q := fun q e => (own_tag h.own e).1
/-- no pair: nothing stands in it -/
theorem Shut.leaf {R : List Nx} {l : List Nat} {i x : Nat} (h : Shut R l i) (hx : l[i]? = some x) (hl : x < R.length + 3) (h3 : (nx R x).k ≠ 3) (h2 : (nx R x).k ≠ 2) : Shut R l (i + 1) := fun j y hj e s u hv => by
  by_cases hji : j = i
  · subst hji
    rw [hx] at e; injection e with e; subst e
    cases hv with
    | is_ q _ => rw [nx_root h3 hl] at q; cases q
    | pair _ q _ _ =>
      by_cases hlow : x < 3
      · rw [abs_low hlow] at q; have q' : x + 1 = 4 := q; omega
      · rw [abs_high (by omega) hl, Nx.tm, if_neg h3, if_neg h2] at q; cases q
  · exact h j y (by omega) e s u hv
theorem Shut.pair {R : List Nx} {l : List Nat} {i x : Nat} {s u : Ty} (h : Shut R l i) (hx : l[i]? = some x) (hv : Val (abs R) x (.pair s u)) (h1 : Cov (abs R) l s) (h2 : Cov (abs R) l u) : Shut R l (i + 1) := fun j y hj e s' u' hv' => by
  by_cases hji : j = i
  · subst hji
    rw [hx] at e; injection e with e; subst e
    have e := hv.same hv'
    injection e with e1 e2
    subst e1; subst e2
    exact ⟨h1, h2⟩
  · exact h j y (by omega) e s' u' hv'

/-- the marks, struck one after the other -/
structure RSt (B bt : Nat) (R : List Nx) (v : Value) (w : World) (lv : Value) (Rc : List Nx) (l : List Nat) (j : Nat) (Rd : List Nx) (wr : World) : Prop where
  tab : TabAt B wr bt Rd v
  own : wr.ownsRow w.heap.size 35 1 lv l.length (nats l)
  ow : Ow v w wr
  tok : Tok Rd
  len : Rd.length = R.length
  abs : abs Rd = abs Rc
  kfg : ∀ x, (nx Rd x).k = (nx Rc x).k ∧ (nx Rd x).f = (nx Rc x).f ∧ (nx Rd x).g = (nx Rc x).g
  seen : ∀ x, (nx Rd x).s = true → ∃ q, j ≤ q ∧ l.tail[q]? = some x
  le : j ≤ l.length - 1
theorem RSt.start {B bt : Nat} {R : List Nx} {v : Value} {b0 : Nat} {w : World} {i : Nat} {lv : Value} {Rc : List Nx} {l : List Nat} {wr : World} (h : WSt B bt R v b0 w i lv Rc l wr) : RSt B bt R v w lv Rc l 0 Rc wr :=
  ⟨h.tab, h.own, h.ow, h.wp.tok, h.wp.len, rfl, fun _ => ⟨rfl, rfl, rfl⟩, fun x hx => by
    obtain ⟨q, hq, e⟩ := List.getElem_of_mem (h.wp.seen x hx)
    exact ⟨q, Nat.zero_le _, by rw [List.getElem?_eq_getElem hq, e]⟩, Nat.zero_le _⟩
theorem RSt.next {B bt : Nat} {R : List Nx} {b0 : Nat} {w : World} {i : Nat} {lv : Value} {Rc : List Nx} {l : List Nat} {wr wq : World} {j x g cap : Nat} {Rd : List Nx} (h0 : WSt B bt R (.slice (some ⟨g, 0, none⟩) R.length cap) b0 w i lv Rc l wq) (h : RSt B bt R (.slice (some ⟨g, 0, none⟩) R.length cap) w lv Rc l j Rd wr) (hx : l.tail[j]? = some x) :
    RSt B bt R (.slice (some ⟨g, 0, none⟩) R.length cap) w lv Rc l (j + 1) (Rd.set (x - 3) (Go.Proofs.YtjbihammbmiieaaDoor.seen (nx Rd x) false)) (wr.setCell ⟨g, (x - 3) * 4 + 1, none⟩ (.bool false)) := by
  have hm := List.mem_of_getElem? hx
  have h3 := h0.wp.high x hm
  obtain ⟨hl, hk⟩ := h0.wp.ins x (List.mem_of_mem_tail hm)
  have hl' : x < Rd.length + 3 := by rw [h.len]; exact hl
  have ht := h.tab
  rw [← h.len] at ht
  have s1 := ht.set1 (x := x) false h3 hl'
  rw [h.len] at s1
  have hj : j < l.length - 1 := by have := (List.getElem?_eq_some_iff.1 hx).1; rwa [List.length_tail] at this
  refine ⟨s1.1, s1.2.own h.own (row_apart h.tab.own h.own (by decide)), h.ow.trans s1.2, tok_seen false h.tok h3 hl' (fun e => by cases e), by simp [h.len], by rw [abs_seen false h3 hl']; exact h.abs, fun y => ?_, fun y hy => ?_, by omega⟩
  · rw [nx_seen false h3 hl']; split
    · rename_i e; subst e; exact h.kfg y
    · exact h.kfg y
  · rw [nx_seen false h3 hl'] at hy
    by_cases e : y = x
    · subst e; rw [if_pos rfl] at hy; cases hy
    · rw [if_neg e] at hy
      obtain ⟨q, hq, e2⟩ := h.seen y hy
      refine ⟨q, ?_, e2⟩
      by_cases hqj : q = j
      · subst hqj; rw [hx] at e2; injection e2 with e2; exact absurd e2.symm e
      · omega
theorem RSt.fin {B bt : Nat} {R : List Nx} {v : Value} {b0 : Nat} {w : World} {i : Nat} {lv : Value} {Rc : List Nx} {l : List Nat} {wr wq : World} {Rd : List Nx} (hR : ∀ n ∈ R, n.s = false) (h0 : WSt B bt R v b0 w i lv Rc l wq) (h : RSt B bt R v w lv Rc l (l.length - 1) Rd wr) : Moved R Rd ∧ ∀ n ∈ Rd, n.s = false := by
  have hs : ∀ x, (nx Rd x).s = false := fun x => by
    by_cases e : (nx Rd x).s = true
    · obtain ⟨q, hq, e2⟩ := h.seen x e
      have := (List.getElem?_eq_some_iff.1 e2).1
      rw [List.length_tail] at this; omega
    · simpa using e
  have hs' : ∀ x, (nx R x).s = false := fun x => by
    by_cases h3 : x < 3
    · rw [nx_low h3]
    · by_cases hl : x < R.length + 3
      · exact hR _ (nx_mem (by omega) hl)
      · simp only [nx, h3, if_false, List.getD_eq_getElem?_getD, List.getElem?_eq_none (show R.length ≤ x - 3 by omega)]; rfl
  refine ⟨⟨h.len, h.tok, by rw [h.abs]; exact h0.wp.same, fun x hx => ?_, fun x hx => by rw [(h.kfg x).1]; exact h0.wp.told x hx, by rw [h.abs]; exact h0.wp.way⟩, fun n hn => ?_⟩
  · have h1 := h.kfg x
    have h2 := h0.wp.root x hx
    have e1 : (nx Rd x).k = (nx R x).k := h1.1.trans h2.1
    have e2 : (nx Rd x).s = (nx R x).s := by rw [hs, hs']
    have e3 : (nx Rd x).f = (nx R x).f := h1.2.1.trans h2.2.1
    have e4 : (nx Rd x).g = (nx R x).g := h1.2.2.trans h2.2.2
    generalize nx Rd x = p at *
    generalize nx R x = q at *
    cases p; cases q; simp_all
  · obtain ⟨q, hq, e⟩ := List.getElem_of_mem hn
    have := nx_get (R := Rd) (x := q + 3) (by omega) (by omega)
    rw [show q + 3 - 3 = q by omega, List.getElem?_eq_getElem hq, e] at this
    injection this with this
    rw [this]; exact hs _

set_option maxRecDepth 100000 in
set_option maxHeartbeats 2000000 in
theorem within_any (B bt : Nat) (R : List Nx) (v : Value) (b0 : Nat) (w : World) (h : TabAt B w bt R v) (ht : Tok R) (hc : ∀ n ∈ R, n.s = false) (hb : b0 < R.length + 3) (hk : (nx R b0).k ≠ 3) :
    Calls Tryd.prog 40 #[.pointer (some ⟨bt, 0, none⟩), .int .i64 b0] w (WithinP B bt R v b0 w) := by
  have hst : WSt B bt R v b0 w 0 (.slice (some ⟨w.heap.size, 0, none⟩) 1 1) R [b0] (w.alloc (.cells #[.int .i64 b0] 35)) :=
    ⟨h.below ((Below.refl _ w).alloc (Nat.le_refl _) _), World.ownsRow_lit w #[.int .i64 b0] 1 (Nat.le_refl _) (by unfold maxLen; omega) rfl, WP.start ht hc hb hk, fun j x hj => absurd hj (Nat.not_lt_zero j), Ow.of_below ((Below.refl _ w).alloc (Nat.le_refl _) _), Nat.zero_le _⟩
  have hf := h.few
  have H := Lib.hid h; have HT := Lib.hid ht; have HS := Lib.hid hst; have HC := Lib.hid hc; have HB := Lib.hid hb
  clear h ht hst hc hb
  go_enter Tryd.func40, Tryd.ntmps40
  go_wp2
  generalize w.alloc (.cells #[.int .i64 b0] 35) = W0 at HS ⊢
  go_loopg [5, 6] (R.length + 2) (fun k lv iv wr => ∃ (i : Nat) (Rc : List Nx) (l : List Nat), iv = .int .i64 i ∧ k + i = R.length + 2 ∧ WSt B bt R v b0 w i lv Rc l wr)
  case atStart => exact ⟨0, R, [b0], rfl, by omega, HS.out⟩
  case round =>
    obtain ⟨i, Rc, l, rfl, hki, hs⟩ := hrel
    have hpos : 0 < l.length := List.length_pos_of_mem hs.wp.head
    obtain ⟨g, cap, rfl, hg, hcap⟩ := row_some hs.own hpos
    have hcnt := hs.wp.cnt
    have hlr := hs.wp.len
    by_cases hi : i < l.length
    · obtain ⟨x, hx⟩ : ∃ x, l[i]? = some x := ⟨_, List.getElem?_eq_getElem hi⟩
      have hcx := own_cell hs.own (nats_get hx)
      obtain ⟨hxl, hxk⟩ := hs.wp.ins x (List.mem_of_getElem? hx)
      have HX := Lib.hid hx; have HW := Lib.hid hs; have HXK := Lib.hid hxk
      clear hx hs hxk
      go_wp2_with fail
      refine (get_any B bt Rc v x wr HW.out.tab (by omega)).mono ?_
      rintro e w1 ⟨rfl, hb1⟩
      obtain ⟨n, hn⟩ : ∃ n, nx Rc x = n := ⟨_, rfl⟩
      rw [hn]
      have hb2 := hb1.trans (((Below.refl _ w1).alloc (Nat.le_refl _) (.cells #[.int .u8 n.k, .bool n.s, .int .i64 n.f, .int .i64 n.g] 66)).mono hb1.size)
      have hnode : NodeAt (w1.alloc (.cells #[.int .u8 n.k, .bool n.s, .int .i64 n.f, .int .i64 n.g] 66)) w1.heap.size n := ⟨blk_new w1 _⟩
      have hfar := HW.out.tab.far hb1.size
      obtain ⟨W1, hW1⟩ : ∃ W1, w1.alloc (.cells #[.int .u8 n.k, .bool n.s, .int .i64 n.f, .int .i64 n.g] 66) = W1 := ⟨_, rfl⟩
      rw [hW1] at hb2 hnode
      obtain ⟨xb, hxb⟩ : ∃ xb, w1.heap.size = xb := ⟨_, rfl⟩
      rw [hxb] at hnode hfar
      have hs1 : WSt B bt R v b0 w i (.slice (some ⟨g, 0, none⟩) l.length cap) Rc l W1 := ⟨HW.out.tab.below hb2, own_below HW.out.own hb2, HW.out.wp, HW.out.shut, HW.out.ow.trans (Ow.of_below hb2), HW.out.le⟩
      have HS1 := Lib.hid hs1; have HN := Lib.hid hn; have HFAR := Lib.hid hfar
      clear hs1 hn hfar hb1 hb2
      obtain ⟨k, s, f, g2⟩ := n
      have d0 := hnode.c0; have d2 := hnode.c2; have d3 := hnode.c3
      have HNODE := Lib.hid hnode
      clear hnode hcx
      unfold nval
      by_cases h2 : k = 2
      · subst h2
        rw [show ((2 : Nat) : Int) = 2 from rfl] at hW1 d0
        have hroot := HW.out.wp.root x HXK.out
        rw [HN.out] at hroot
        obtain ⟨p3, pl, ptm⟩ := nx_pair (R := R) (x := x) hroot.1.symm
        have hparts := HT.out.good.wf.parts x (by rw [abs_len]; exact pl) (by rw [ptm])
        rw [ptm, ← hroot.2.1, ← hroot.2.2, abs_len] at hparts
        obtain ⟨hfl, hgl⟩ : f < R.length + 3 ∧ g2 < R.length + 3 := hparts
        obtain ⟨sT, hsT⟩ := HT.out.good.full f (by rw [abs_len]; exact hfl)
        obtain ⟨uT, huT⟩ := HT.out.good.full g2 (by rw [abs_len]; exact hgl)
        have hvx : Val (abs R) x (.pair sT uT) := .pair (by rw [ptm]) (by rw [ptm]) (by rw [ptm]; show Val (abs R) (nx R x).f sT; rw [← hroot.2.1]; exact hsT) (by rw [ptm]; show Val (abs R) (nx R x).g uT; rw [← hroot.2.2]; exact huT)
        have hrex := HW.out.wp.reach x (List.mem_of_getElem? HX.out)
        have HV := Lib.hid hvx; have HRE := Lib.hid hrex; have HST := Lib.hid hsT; have HUT := Lib.hid huT
        clear hvx hrex hsT huT hroot ptm
        go_wp2_with fail
        refine (addUnseen_any B bt w.heap.size Rc v l _ f W1 HS1.out.tab HS1.out.wp.tok (by omega) HS1.out.own (by have := HS1.out.ow.size; omega) (by omega)).mono ?_
        rintro e w2 ⟨R2, l2, lv2, ha, rfl, htab2, hown2, how2⟩
        obtain ⟨hwp2, hc2, z2, hz2⟩ := HS1.out.wp.next HT.out ha hfl HST.out (fun t0 h0 n hn => HRE.out _ t0 HV.out h0 n (.inl hn))
        have hnode2 := HNODE.out.ow2 how2 HFAR.out (HNODE.out.apart HS1.out.own (by decide))
        have how2' := HS1.out.ow.fresh2 how2 HS1.out.low
        have hlr2 := hwp2.len
        have hcnt2 := hwp2.cnt
        have d3' := hnode2.c3
        have HWP2 := Lib.hid hwp2; have HC2 := Lib.hid hc2; have HZ2 := Lib.hid hz2; have HN2 := Lib.hid hnode2; have HO2 := Lib.hid how2'; have HT2 := Lib.hid htab2; have HOW2 := Lib.hid hown2
        clear ha hwp2 hc2 hz2 hnode2 how2 how2' htab2 hown2 d0 d2 d3
        go_wp2_with fail
        refine (addUnseen_any B bt w.heap.size R2 v l2 lv2 g2 w2 HT2.out HWP2.out.tok (by omega) HOW2.out (by have := HO2.out.size; omega) (by omega)).mono ?_
        rintro e w3 ⟨R3, l3, lv3, ha, rfl, htab3, hown3, how3⟩
        obtain ⟨hwp3, hc3, z3, hz3⟩ := HWP2.out.next HT.out ha hgl HUT.out (fun t0 h0 n hn => HRE.out _ t0 HV.out h0 n (.inr hn))
        have hz2 := HZ2.out
        have hs3 : WSt B bt R v b0 w (i + 1) lv3 R3 l3 w3 := by
          refine ⟨htab3, hown3, hwp3, ?_, HO2.out.fresh2 how3 (fun q e => (own_tag HOW2.out e).1), ?_⟩
          · have h1 := (HS1.out.shut.more HS1.out.le (z2 ++ z3))
            have e : l ++ (z2 ++ z3) = l3 := by rw [hz3, hz2, List.append_assoc]
            rw [e] at h1
            exact h1.pair (by rw [← e, List.getElem?_append_left hi]; exact HX.out) HV.out (by rw [hz3]; exact Cov.more HC2.out z3) hc3
          · rw [hz3, hz2]; simp; omega
        have HS3 := Lib.hid hs3
        clear hs3 hz2 hwp3 hc3 hz3 htab3 hown3 how3 ha d3'
        go_wp2
        go_roundg (gk - 1)
        case measure => omega
        case rel => exact ⟨i + 1, R3, l3, by go_num, by omega, HS3.out⟩
      · have hroot := HW.out.wp.root x HXK.out
        rw [HN.out] at hroot
        have hs3 : WSt B bt R v b0 w (i + 1) (.slice (some ⟨g, 0, none⟩) l.length cap) Rc l W1 := ⟨HS1.out.tab, HS1.out.own, HS1.out.wp, HS1.out.shut.leaf HX.out hxl HXK.out (by rw [← hroot.1]; exact h2), HS1.out.ow, hi⟩
        have HS3 := Lib.hid hs3
        clear hs3 hroot
        go_wp2
        go_roundg (gk - 1)
        case measure => omega
        case rel => exact ⟨i + 1, Rc, l, by go_num, by omega, HS3.out⟩
    · have hle := hs.le
      have HW := Lib.hid hs
      clear hs
      have hi' : l.length ≤ i := by omega
      have h1c : cap = 1 ∨ ¬ cap = 1 := by omega
      rcases h1c with rfl | h1c
      all_goals
        go_wp2
        go_loopw [40] (fun jv wr' => ∃ (j : Nat) (Rd : List Nx), jv = .int .i64 j ∧ RSt B bt R v w (.slice (some ⟨g, 0, none⟩) l.length _) Rc l j Rd wr') (fun jv _ => l.length - (intOf jv).toNat)
        case atStart => exact ⟨0, Rc, rfl, RSt.start HW.out⟩
        case round =>
          obtain ⟨j, Rd, rfl, hr⟩ := hrel
          have hjl := hr.le
          by_cases hj : j < l.length - 1
          · first
              | (exfalso; omega)
              | (obtain ⟨x, hx⟩ : ∃ x, l.tail[j]? = some x := ⟨_, List.getElem?_eq_getElem (by rw [List.length_tail]; exact hj)⟩
                 have hx1 : l[j + 1]? = some x := by rw [← List.getElem?_tail]; exact hx
                 have h3 := HW.out.wp.high x (List.mem_of_getElem? hx)
                 obtain ⟨hxl, _⟩ := HW.out.wp.ins x (List.mem_of_getElem? hx1)
                 obtain ⟨g0, cap0, rfl, hg0, hne0, hcap0⟩ := hr.tab.row (by rw [hr.len]; omega)
                 have hcx := own_cell hr.own (nats_get hx1)
                 obtain ⟨z, rfl⟩ : ∃ z, x = z + 3 := ⟨x - 3, by omega⟩
                 have ht := hr.tab
                 have hrl := hr.len
                 have c1 := (ht.node (x := z + 3) (by omega) (by omega)).2.1
                 have hc := ht.cell
                 have hfz := ht.frozen
                 have hn : RSt B bt R (.slice (some ⟨g0, 0, none⟩) Rd.length cap0) w (.slice (some ⟨g, 0, none⟩) l.length cap) Rc l (j + 1) (Rd.set (z + 3 - 3) (seen (nx Rd (z + 3)) false)) (wr.setCell ⟨g0, (z + 3 - 3) * 4 + 1, none⟩ (.bool false)) := by
                   have q0 := HW.out
                   have q1 := hr
                   rw [hrl] at q0 q1 ⊢
                   exact RSt.next q0 q1 hx
                 rw [show z + 3 - 3 = z by omega] at c1 hn
                 have hz : z < Rd.length := by omega
                 have HN := Lib.hid hn
                 have e1 : j + 1 = 1 + j := by omega
                 rw [e1] at hcx
                 clear hn hr ht hx hx1
                 go_wp2
                 go_roundw
                 case rel => exact ⟨j + 1, _, by go_num, HN.out⟩
                 case measure => simp [intOf]; omega)
          · have HR := Lib.hid hr
            clear hr
            go_wp2
            go_ret
            obtain rfl : j = l.length - 1 := by omega
            obtain ⟨f1, f2⟩ := RSt.fin HC.out HW.out HR.out
            have hil : i = l.length := by omega
            have hsh := HW.out.shut
            rw [hil] at hsh
            exact ⟨_, l, Rd, rfl, HR.out.own, HR.out.tab, f1, HR.out.ow, f2, by omega, fun a t ha hk hv => HW.out.wp.occurs hsh ha hk hv⟩
end Go.Proofs.YtjbihammbmiieaaDoor
