/- Types' texts. -/
import Derived.Test.YtjbihammbmiieaaDoorSw
namespace Go.Proofs.YtjbihammbmiieaaDoor
open Go.RowKit Un

def strs (l : List (List UInt8)) : List Value := l.map fun s => Value.string ⟨s.toArray⟩
theorem strs_len (l : List (List UInt8)) : (strs l).length = l.length := by simp [strs]
theorem shows_len : ∀ (l : List (Option Ty)) (s : List Nat), (shows l s).length = l.length
  | [], _ => rfl
  | none :: l, s => by rw [shows, List.length_cons, List.length_cons, shows_len l s]
  | some t :: l, s => by rw [shows, List.length_cons, List.length_cons, shows_len l _]
/-- the texts so far, and places for the others -/
def outAt (N : Nat) (τ : Nat → Ty) (xs : List Int) (k : Nat) : List (List UInt8) := shows (picks N τ (xs.take k)) [] ++ List.replicate (xs.length - k) []
def numAt (N : Nat) (τ : Nat → Ty) (xs : List Int) (k : Nat) : List Nat := seenOf (picks N τ (xs.take k)) []
theorem picks_len (N : Nat) (τ : Nat → Ty) (xs : List Int) : (picks N τ xs).length = xs.length := by simp [picks]
theorem outAt_len (N : Nat) (τ : Nat → Ty) (xs : List Int) {k : Nat} (hk : k ≤ xs.length) : (outAt N τ xs k).length = xs.length := by
  rw [outAt, List.length_append, shows_len, picks_len, List.length_take, List.length_replicate]; omega
theorem take_snoc {xs : List Int} {k : Nat} {x : Int} (h : xs[k]? = some x) : xs.take (k + 1) = xs.take k ++ [x] := by
  rw [List.take_add_one, h]; rfl
theorem set_mid {A : List (List UInt8)} {k n : Nat} (hA : A.length = k) (hk : k < n) (v : List UInt8) : (A ++ List.replicate (n - k) []).set k v = A ++ [v] ++ List.replicate (n - (k + 1)) [] := by
  rw [List.set_append_right k v (by omega), hA, Nat.sub_self, show n - k = (n - (k + 1)) + 1 by omega, List.replicate_succ, List.set_cons_zero]
  simp
theorem out_yes {N : Nat} {τ : Nat → Ty} {xs : List Int} {k : Nat} {x : Int} (h : xs[k]? = some x) (hx : 0 ≤ x ∧ x < (N : Int)) : outAt N τ xs (k + 1) = (outAt N τ xs k).set k (txt (τ x.toNat) (numAt N τ xs k)).1 ∧ numAt N τ xs (k + 1) = (txt (τ x.toNat) (numAt N τ xs k)).2 := by
  have hk := (List.getElem?_eq_some_iff.1 h).1
  have hl : (shows (picks N τ (xs.take k)) []).length = k := by rw [shows_len, picks_len, List.length_take]; omega
  have e : picks N τ (xs.take (k + 1)) = picks N τ (xs.take k) ++ [some (τ x.toNat)] := by
    rw [take_snoc h]; simp [picks, hx]
  constructor
  · rw [outAt, outAt, set_mid hl hk, e, shows_app]; rfl
  · rw [numAt, numAt, e, seen_app]; rfl
theorem out_no {N : Nat} {τ : Nat → Ty} {xs : List Int} {k : Nat} {x : Int} (h : xs[k]? = some x) (hx : ¬ (0 ≤ x ∧ x < (N : Int))) : outAt N τ xs (k + 1) = outAt N τ xs k ∧ numAt N τ xs (k + 1) = numAt N τ xs k := by
  have hk := (List.getElem?_eq_some_iff.1 h).1
  have e : picks N τ (xs.take (k + 1)) = picks N τ (xs.take k) ++ [none] := by
    rw [take_snoc h]; simp [picks, hx]
  constructor
  · rw [outAt, outAt, e, shows_app, show xs.length - k = (xs.length - (k + 1)) + 1 by omega, List.replicate_succ]
    simp [shows]
  · rw [numAt, numAt, e, seen_app]; rfl
theorem Tryd.info9 : (Tryd.prog.info? 9).map (fun i => (i.zero, i.size, i.bytes)) = some (some (.string ⟨#[]⟩), 1, 16) := by kernel_rfl
theorem Fr.below_ow {c : Pc} {mb : Nat} {v : Value} {w a b : World} (h : Ow v w a) (k : Fr (FS c mb v) a b) (hN : w.heap.size ≤ c.N) (h1 : c.N ≤ c.bp) (h2 : c.N ≤ mb) : Ow v w b :=
  ⟨k.os.trans h.os, k.tape.trans h.tape, k.output.trans h.output, Nat.le_trans h.size k.size, fun i hi hp => (k.block i (Nat.lt_of_lt_of_le hi h.size) (fun ⟨o, _, e⟩ => by
    rcases e with e | e | e | ⟨e, _⟩
    · exact hp e
    · omega
    · omega
    · omega)).trans (h.block i hi hp)⟩
theorem IdleAt.keepS {B bt : Nat} {c : Pc} {mb : Nat} {R : List Nx} {v : Value} {nums : List Nat} {adr pv : Value} {w w' : World} (h : IdleAt B bt c mb R v nums adr pv w) (k : Fr (FS c mb v) w w') {N : Nat} {u : Value} {n : Nat} {xs : List Value} (ho : w.ownsRow N 9 1 u n xs) : w'.ownsRow N 9 1 u n xs := by
  refine But.own k ho ?_
  rintro g hg ⟨o, e1, e2⟩
  obtain ⟨_, cur, e3⟩ := own_tag ho hg
  rw [e3] at e1; injection e1 with e1; subst e1
  rcases e2 with e2 | e2 | e2 | ⟨_, cs, fr, e2⟩
  · exact row_apart h.tab.own ho (by decide) g hg e2
  · have := h.blk; rw [← e2, e3] at this; injection this with this; injection this with _ this; exact absurd this (by decide)
  · have : w.heap[mb]? = _ := h.num; rw [← e2, e3] at this; cases this
  · injection e2 with _ e2; exact absurd e2 (by decide)
theorem IdleAt.below {B bt : Nat} {c : Pc} {mb : Nat} {R : List Nx} {v : Value} {nums : List Nat} {adr pv : Value} {w w' : World} (h : IdleAt B bt c mb R v nums adr pv w) (k : Below w.heap.size w w') : IdleAt B bt c mb R v nums adr pv w' :=
  ⟨h.tab.below k, h.tok, (k.block _ (lt_of_heap h.blk)).trans h.blk, (k.block _ (lt_of_heap h.num)).trans h.num, h.tv, h.mv, h.lo, h.bN, h.lob, Nat.le_trans h.hN k.size⟩
/-- while types are shown, one after the other -/
structure SxSt (B bt : Nat) (c : Pc) (mb : Nat) (R : List Nx) (v : Value) (τ : Nat → Ty) (xs : List Int) (w : World) (sv : Value) (k : Nat) (Rc : List Nx) (wr : World) : Prop where
  idle : ∃ adr pv, IdleAt B bt c mb Rc v (numAt (R.length + 3) τ xs k) adr pv wr
  own : wr.ownsRow w.heap.size 9 1 sv xs.length (strs (outAt (R.length + 3) τ xs k))
  len : Rc.length = R.length
  val : ∀ x, x < Rc.length + 3 → Val (abs Rc) x (τ x)
  clear : ∀ n ∈ Rc, n.s = false
  slim : Slim (R.length + 3) (numAt (R.length + 3) τ xs k)
  ow : Ow v w wr
def ShowsP (B bt : Nat) (R : List Nx) (v : Value) (τ : Nat → Ty) (xs : List Int) (w : World) (e : Ending) (w' : World) : Prop :=
  ∃ sv R', e = .returned sv ∧ w'.ownsRow w.heap.size 9 1 sv xs.length (strs (shows (picks (R.length + 3) τ xs) [])) ∧ TabAt B w' bt R' v ∧ Tok R' ∧ R'.length = R.length ∧ (∀ x, x < R'.length + 3 → Val (abs R') x (τ x)) ∧ (∀ n ∈ R', n.s = false) ∧ Ow v w w'
set_option maxRecDepth 100000 in
set_option maxHeartbeats 2000000 in
theorem shows_any (B bt : Nat) (R : List Nx) (v : Value) (τ : Nat → Ty) (N : Nat) (lv : Value) (xs : List Int) (w : World) (h : TabAt B w bt R v) (ht : Tok R) (hc : ∀ n ∈ R, n.s = false) (hval : ∀ x, x < R.length + 3 → Val (abs R) x (τ x)) (hz : ∀ x, x < R.length + 3 → (τ x).size ≤ 10000000) (h90 : R.length ≤ 90)
    (hl : w.ownsRow N 35 1 lv xs.length (zs xs)) (hxs : xs.length ≤ 1000) (hxb : ∀ x ∈ xs, -1000000 ≤ x ∧ x ≤ 1000000) :
    Calls Tryd.prog 16 #[.pointer (some ⟨bt, 0, none⟩), lv] w (ShowsP B bt R v τ xs w) := by
  obtain ⟨la, lc, rfl⟩ := own_form hl
  have H := Lib.hid h; have HT := Lib.hid ht; have HC := Lib.hid hc; have HV := Lib.hid hval; have HZ := Lib.hid hz; have HL := Lib.hid hl; have HXB := Lib.hid hxb
  clear h ht hc hval hz hl hxb
  go_enter Tryd.func16, Tryd.ntmps16
  go_wp2
  rw [nums_make]
  simp only [Result.andThen]
  rw [Oper.upon_value]
  go_wp2
  obtain ⟨i0, hi, hz0, hz1, hz2⟩ := info_parts Tryd.info9
  generalize hW1 : (w.alloc (.map #[] 0)).alloc (.cells #[.pointer (some ⟨bt, 0, none⟩), .pointer none, .slice none 0 0, .map (some w.heap.size)] 80) = W1
  have hb1 : Below w.heap.size w W1 := by rw [← hW1]; exact ((Below.refl _ w).alloc (Nat.le_refl _) _).alloc (by simp) _
  have hs1 : W1.heap.size = w.heap.size + 2 := by rw [← hW1]; simp
  have hm1 : W1.heap[w.heap.size]? = some (.map #[] 0) := by rw [← hW1]; exact blk_alloc (blk_new w _) _
  have hp1 : W1.heap[w.heap.size + 1]? = some (.cells #[.pointer (some ⟨bt, 0, none⟩), .pointer none, .slice none 0 0, .map (some w.heap.size)] 80 (0, 0)) := by
    rw [← hW1]
    have := blk_new (w.alloc (.map #[] 0)) (.cells #[.pointer (some ⟨bt, 0, none⟩), .pointer none, .slice none 0 0, .map (some w.heap.size)] 80)
    simpa using this
  obtain ⟨w2, hmk, hown, hgr⟩ := run_makeSlice_full (P := Tryd.prog) W1 w.heap.size 47 9 i0 (.string ⟨#[]⟩) 1 Tryd.underlying47 hi hz0 hz1 .i64 .i64 xs.length (by omega) (by rw [hz2]; omega) (by unfold maxLen; omega) (by omega)
  have hb2 : Below W1.heap.size W1 w2 := ⟨hgr.os, hgr.tape, hgr.output, hgr.size, fun k hk => hgr.block k hk (fun e => by cases e)⟩
  have hb := hb1.trans (hb2.mono hb1.size)
  have hst : SxSt B bt ⟨w.heap.size, w.heap.size + 1, .pointer (some ⟨bt, 0, none⟩), .map (some w.heap.size)⟩ w.heap.size R v τ xs w (.slice (some ⟨W1.heap.size, 0, none⟩) xs.length xs.length) 0 R w2 := by
    refine ⟨⟨.pointer none, .slice none 0 0, H.out.below hb, HT.out, (hb2.block _ (lt_of_heap hp1)).trans hp1, (hb2.block _ (lt_of_heap hm1)).trans hm1, rfl, rfl, Nat.le_refl _, H.out.hB, by simp, hb.size⟩, ?_, rfl, HV.out, HC.out, Slim.nil _, Ow.of_below hb⟩
    have e : (madeCells (Value.string ⟨#[]⟩).cells (xs.length * 1)).toList = strs (outAt (R.length + 3) τ xs 0) := by
      rw [Nat.mul_one]
      exact (toList_madeCells_one _ _).trans (by simp [outAt, strs, picks, shows])
    rw [← e]; exact hown
  have ST := Lib.hid hst
  clear hst hown hgr hb2 hb hp1 hm1 hb1 hW1 hi hz0 hz1 hz2
  rw [hmk]
  simp only [Result.andThen]
  rw [Oper.upon_value]
  go_wp2
  generalize W1.heap.size = tb at *
  subst hs1
  clear hmk W1
  go_loopw [17] (fun iv wr => ∃ (k : Nat) (Rc : List Nx), k ≤ xs.length ∧ iv = .int .i64 k ∧ SxSt B bt ⟨w.heap.size, w.heap.size + 1, .pointer (some ⟨bt, 0, none⟩), .map (some w.heap.size)⟩ w.heap.size R v τ xs w (.slice (some ⟨w.heap.size + 2, 0, none⟩) xs.length xs.length) k Rc wr) (fun iv _ => xs.length - (intOf iv).toNat)
  case atStart => exact ⟨0, R, Nat.zero_le _, rfl, ST.out⟩
  case round =>
    obtain ⟨k, Rc, hk, rfl, hs⟩ := hrel
    obtain ⟨adr, pv, hid⟩ := hs.idle
    have HS := Lib.hid hs; have ID := Lib.hid hid
    clear hs hid
    have hrl := HS.out.len
    by_cases hlt : k < xs.length
    · obtain ⟨x, hx⟩ : ∃ x, xs[k]? = some x := ⟨_, List.getElem?_eq_getElem hlt⟩
      obtain ⟨g, cap, e, _, _⟩ := row_some HL.out (by omega)
      cases e
      have hlr := HS.out.ow.own HL.out (row_apart H.out.own HL.out (by decide))
      have hc := own_cell hlr (zs_get hx)
      obtain ⟨hb0, hb1⟩ := HXB.out x (List.mem_of_getElem? hx)
      have HX := Lib.hid hx
      clear hx hlr
      by_cases hin : 0 ≤ x ∧ x < (R.length : Int) + 3
      · obtain ⟨y1, y2⟩ := out_yes (N := R.length + 3) (τ := τ) HX.out (by simpa using hin)
        obtain ⟨a, rfl⟩ : ∃ a : Nat, x = a := ⟨x.toNat, by omega⟩
        have Y1 := Lib.hid y1; have Y2 := Lib.hid y2; have HIN := Lib.hid hin
        clear y1 y2 hin
        go_wp2_with fail
        refine (has_any B bt Rc v a wr ID.out.tab hb0 hb1).mono ?_
        rintro e w1 ⟨rfl, rfl⟩
        rw [decide_eq_true (show 0 ≤ (a : Int) ∧ (a : Int) < Rc.length + 3 by have := HIN.out; omega)]
        go_wp2_with fail
        refine (show_any B bt _ w.heap.size R.length v τ Rc (numAt (R.length + 3) τ xs k) adr pv a wr ID.out HS.out.len h90 (by have := HIN.out; omega) HS.out.val HS.out.clear HS.out.slim (HZ.out a (by have := HIN.out; omega))).mono ?_
        rintro e w3 ⟨rfl, ⟨R3, adr3, pv3, hi3, hl3, hv3, hc3⟩, hf3⟩
        have ho3 := ID.out.keepS hf3 HS.out.own
        have how3 := Fr.below_ow HS.out.ow hf3 (Nat.le_refl _) (by simp) (Nat.le_refl _)
        have ha3 : a < R.length + 3 := by have := HIN.out; omega
        have hsl3 : Slim (R.length + 3) (txt (τ a) (numAt (R.length + 3) τ xs k)).2 := HS.out.slim.txt (τ a) (fun q hq => by
          have := (HV.out a ha3).occ_lt HT.out.good.wf (by rw [abs_len]; exact ha3) hq
          rwa [abs_len] at this)
        have hst := ho3.stored k (.string ⟨(txt (τ a) (numAt (R.length + 3) τ xs k)).1.toArray⟩)
        have hck : ∃ u, w3.cell? ⟨w.heap.size + 2, k, none⟩ = some u := by
          have hlk : k < (strs (outAt (R.length + 3) τ xs k)).length := by rw [strs_len, outAt_len _ _ _ hk]; exact hlt
          exact ⟨_, own_cell ho3 (List.getElem?_eq_getElem hlk)⟩
        obtain ⟨u, hck⟩ := hck
        have hfk := ho3.frozenAt
        have hb4 : But (fun q => q = w.heap.size + 2) w3 (w3.setCell ⟨w.heap.size + 2, k, none⟩ (.string ⟨(txt (τ a) (numAt (R.length + 3) τ xs k)).1.toArray⟩)) := But.setCell (p := fun q => q = w.heap.size + 2) w3 rfl k _
        have hn : SxSt B bt ⟨w.heap.size, w.heap.size + 1, .pointer (some ⟨bt, 0, none⟩), .map (some w.heap.size)⟩ w.heap.size R v τ xs w (.slice (some ⟨w.heap.size + 2, 0, none⟩) xs.length xs.length) (k + 1) R3 (w3.setCell ⟨w.heap.size + 2, k, none⟩ (.string ⟨(txt (τ a) (numAt (R.length + 3) τ xs k)).1.toArray⟩)) := by
          have y1 := Y1.out; have y2 := Y2.out
          simp only [Int.toNat_natCast] at y1 y2
          refine ⟨⟨adr3, pv3, ?_⟩, ?_, hl3, hv3, hc3, by rw [y2]; exact hsl3, how3.fresh hb4 (by omega)⟩
          · rw [y2]
            have hbt : bt ≠ w.heap.size + 2 := fun e => by have := H.out.lt; omega
            exact ⟨hi3.tab.but hb4 hbt (H.out.far (by omega)), hi3.tok, hb4.heap hi3.blk (by simp), hb4.heap hi3.num (by omega), hi3.tv, hi3.mv, hi3.lo, hi3.bN, hi3.lob, Nat.le_trans hi3.hN hb4.size⟩
          · rw [y1]
            have e : strs ((outAt (R.length + 3) τ xs k).set k (txt (τ a) (numAt (R.length + 3) τ xs k)).1) = (strs (outAt (R.length + 3) τ xs k)).set k (.string ⟨(txt (τ a) (numAt (R.length + 3) τ xs k)).1.toArray⟩) := by
              rw [strs, strs, List.map_set]
            rw [e]; exact hst.1
        have HN := Lib.hid hn
        clear hn hb4 hst hsl3 how3 ho3 hi3 hv3 hc3 hf3
        go_wp2
        go_roundw
        case rel => exact ⟨k + 1, R3, by omega, by go_num, HN.out⟩
        case measure => simp [intOf]; omega
      · obtain ⟨y1, y2⟩ := out_no (N := R.length + 3) (τ := τ) HX.out (by simpa using hin)
        have hn : SxSt B bt ⟨w.heap.size, w.heap.size + 1, .pointer (some ⟨bt, 0, none⟩), .map (some w.heap.size)⟩ w.heap.size R v τ xs w (.slice (some ⟨w.heap.size + 2, 0, none⟩) xs.length xs.length) (k + 1) Rc wr :=
          ⟨by rw [y2]; exact HS.out.idle, by rw [y1]; exact HS.out.own, HS.out.len, HS.out.val, HS.out.clear, by rw [y2]; exact HS.out.slim, HS.out.ow⟩
        have HN := Lib.hid hn; have HIN := Lib.hid hin
        clear y1 y2 hn hin
        go_wp2_with fail
        refine (has_any B bt Rc v x wr ID.out.tab hb0 hb1).mono ?_
        rintro e w1 ⟨rfl, rfl⟩
        rw [decide_eq_false (show ¬ (0 ≤ x ∧ x < (Rc.length : Int) + 3) by have := HIN.out; omega)]
        go_wp2
        go_roundw
        case rel => exact ⟨k + 1, Rc, by omega, by go_num, HN.out⟩
        case measure => simp [intOf]; omega
    · obtain rfl : k = xs.length := by omega
      go_wp2
      go_ret
      have e : outAt (R.length + 3) τ xs xs.length = shows (picks (R.length + 3) τ xs) [] := by simp [outAt]
      have ho := HS.out.own
      rw [e] at ho
      exact ⟨_, Rc, rfl, ho, ID.out.tab, ID.out.tok, HS.out.len, HS.out.val, HS.out.clear, HS.out.ow⟩
end Go.Proofs.YtjbihammbmiieaaDoor
