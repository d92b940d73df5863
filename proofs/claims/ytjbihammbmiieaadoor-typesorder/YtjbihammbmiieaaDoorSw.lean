/- A type's text. -/
import Derived.Test.YtjbihammbmiieaaDoorBs
namespace Go.Proofs.YtjbihammbmiieaaDoor
open Go.RowKit Un

theorem WrSt.below {B bt : Nat} {c : Pc} {mb L : Nat} {v : Value} {τ : Nat → Ty} {N : Nat} {F : List UInt8 × List Nat} {k : Nat} {tv : Value} {R : List Nx} {s : List UInt8} {nums : List Nat} {l : List Int} {w w' : World} (h : WrSt B bt c mb L v τ N F k tv R s nums l w) (hb : Below w.heap.size w w') : WrSt B bt c mb L v τ N F k tv R s nums l w' :=
  ⟨h.sh.below hb, own_below h.own hb, h.len, h.val, h.clear, h.wrt, h.slim, h.out, h.rank, Nat.le_trans h.hN hb.size⟩
def ShowP (B bt : Nat) (c : Pc) (mb : Nat) (L : Nat) (v : Value) (τ : Nat → Ty) (nums : List Nat) (a : Nat) (w : World) (e : Ending) (w' : World) : Prop :=
  e = .returned (.string ⟨(txt (τ a) nums).1.toArray⟩) ∧ (∃ R adr pv, IdleAt B bt c mb R v (txt (τ a) nums).2 adr pv w' ∧ R.length = L ∧ (∀ x, x < R.length + 3 → Val (abs R) x (τ x)) ∧ (∀ n ∈ R, n.s = false)) ∧ Fr (FS c mb v) w w'
theorem txt_ne (t : Ty) (nums : List Nat) : (txt t nums).1 ≠ [] := by
  cases t with
  | var n => rw [Un.txt]; cases ix n nums <;> simp
  | int => simp [Un.txt]
  | bool => simp [Un.txt]
  | unit => simp [Un.txt]
  | pair a b => simp [Un.txt]
set_option maxRecDepth 100000 in
set_option maxHeartbeats 2000000 in
theorem show_any (B bt : Nat) (c : Pc) (mb : Nat) (L : Nat) (v : Value) (τ : Nat → Ty) (R : List Nx) (nums : List Nat) (adr pv : Value) (a : Nat) (w : World) (h : IdleAt B bt c mb R v nums adr pv w) (hL : R.length = L) (h90 : L ≤ 90) (ha : a < L + 3) (hval : ∀ x, x < R.length + 3 → Val (abs R) x (τ x)) (hc : ∀ n ∈ R, n.s = false) (hs : Slim (L + 3) nums) (hz : (τ a).size ≤ 10000000) :
    Calls Tryd.prog 27 #[.pointer (some ⟨c.bp, 0, none⟩), .int .i64 a] w (ShowP B bt c mb L v τ nums a w) := by
  have H := Lib.hid h; have HV := Lib.hid hval; have HC := Lib.hid hc; have HS := Lib.hid hs
  have hocc : ∀ q, (τ a).Occ q → q < L + 3 := fun q hq => by
    have := (hval a (by omega)).occ_lt h.tok.good.wf (by rw [abs_len]; omega) hq
    rw [abs_len] at this; omega
  have hlen := txt_len (N := L + 3) (by omega) (τ a) hs hocc
  have HLEN := Lib.hid hlen
  clear h hval hc hs hocc hlen
  go_enter Tryd.func27, Tryd.ntmps27
  go_wp2_with fail
  refine (reset_any B bt c mb R v nums adr pv w H.out).mono ?_
  rintro e w1 ⟨rfl, hsh, hb⟩
  have hfr1 : Fr (FS c mb v) w w1 := But.mono hb (fun k _ e => ⟨.cells #[c.tv, adr, pv, c.mv] 80 (0, 0), (by have e' : k = c.bp := e; rw [e']; exact H.out.blk), .inr (.inl e)⟩)
  have hst : WrSt B bt c mb L v τ w.heap.size (txt (τ a) nums) (3 * (τ a).size) (.slice (some ⟨w1.heap.size, 0, none⟩) 1 1) R [] nums [(a : Int)] (w1.alloc (.cells #[.int .i64 a] 35)) := by
    refine ⟨hsh.below ((Below.refl _ w1).alloc (Nat.le_refl _) _), own_mono (World.ownsRow_lit w1 #[.int .i64 a] 1 (Nat.le_refl _) (by unfold maxLen; omega) rfl) hb.size, hL, HV.out, HC.out, fun x hx => ?_, HS.out, ?_, ?_, by simp; exact Nat.le_trans hb.size (by omega)⟩
    · rw [List.mem_singleton.1 hx]; exact .inr (.inr ⟨by omega, by omega⟩)
    · simp only [emit, if_neg (show ¬ (a : Int) = -1 by omega), if_neg (show ¬ (a : Int) = -2 by omega), Int.toNat_natCast]; simp
    · simp only [wts, if_neg (show ¬ (a : Int) < 0 by omega), Int.toNat_natCast]; rfl
  have hfr2 := hfr1.trans (Fr.of_below ((Below.refl _ w1).alloc (Nat.le_refl _) (.cells #[.int .i64 a] 35)))
  have ST := Lib.hid hst; have FR2 := Lib.hid hfr2
  clear hst hfr1 hfr2 hb hsh
  go_wp2
  generalize w1.alloc (.cells #[.int .i64 a] 35) = W0 at *
  generalize w1.heap.size = tb at *
  go_loopg [5] (3 * (τ a).size) (fun k tv wr => ∃ (R2 : List Nx) (s : List UInt8) (nums2 : List Nat) (l : List Int), k ≤ 3 * (τ a).size ∧ WrSt B bt c mb L v τ w.heap.size (txt (τ a) nums) k tv R2 s nums2 l wr ∧ Fr (FS c mb v) w wr)
  case atStart => exact ⟨R, [], nums, [(a : Int)], Nat.le_refl _, ST.out, FR2.out⟩
  case round =>
    obtain ⟨R2, s, nums2, l, hgk, hw, hf⟩ := hrel
    cases l with
    | nil =>
      obtain ⟨ta, tc, rfl⟩ := own_form hw.own
      have hout := hw.out
      simp only [emit, List.append_nil] at hout
      obtain ⟨o1, o2⟩ : s = (txt (τ a) nums).1 ∧ nums2 = (txt (τ a) nums).2 := ⟨congrArg Prod.fst hout, congrArg Prod.snd hout⟩
      have HW := Lib.hid hw; have HF := Lib.hid hf
      clear hw hf hout
      go_wp2_with fail
      refine (bstr2_any c wr s HW.out.sh.pr (by rw [o1]; exact txt_ne _ _)).mono ?_
      rintro e w5 ⟨rfl, g, cs, fr, hg, hgh, hb⟩
      obtain ⟨adr', pv', hi⟩ := HW.out.sh.idle hgh hb
      have hf5 : Fr (FS c mb v) wr w5 := But.mono hb (fun k _ e => ⟨.cells cs 5 fr, (by have e' : k = g := e; rw [e']; exact hgh), .inr (.inr (.inr ⟨(by have e' : k = g := e; rw [e']; exact hg), cs, fr, rfl⟩))⟩)
      rw [o2] at hi
      have hres : ShowP B bt c mb L v τ nums a w (.returned (.string ⟨s.toArray⟩)) w5 := ⟨by rw [o1], ⟨R2, adr', pv', hi, HW.out.len, HW.out.val, HW.out.clear⟩, HF.out.trans hf5⟩
      have HRES := Lib.hid hres
      clear hres hi hf5 hb hgh o1 o2
      go_wp2
      go_ret
      exact HRES.out
    | cons x l =>
      obtain ⟨g, cap, rfl, hg, hcap⟩ := row_some hw.own (by simp)
      have c0 := own_cell hw.own (i := l.length) (u := .int .i64 x) (by rw [List.reverse_cons, zs_app, List.getElem?_append_right (by rw [zs_len, List.length_reverse]; exact Nat.le_refl _), zs_len, List.length_reverse, Nat.sub_self]; rfl)
      have hown2 := own_take hw.own (m := l.length) (by rw [List.length_cons]; omega)
      have e : (zs (x :: l).reverse).take (l.length * 1) = zs l.reverse := by
        rw [List.reverse_cons, zs_app]
        exact List.take_left' (by rw [zs_len, List.length_reverse, Nat.mul_one])
      rw [e] at hown2
      have hll : l.length ≤ 100000000 := by
        have h1 := wts_len τ (x :: l)
        have h2 := hw.rank
        rw [List.length_cons] at h1
        omega
      rw [List.length_cons] at hcap ⊢
      have hwd := hw.below (Below.drew (Below.refl _ wr))
      have hcw := write_any B bt c mb L v τ w.heap.size (txt (τ a) nums) gk (.slice (some ⟨g, 0, none⟩) l.length cap) _ R2 s nums2 x l wr.drew hwd (own_below hown2 (Below.drew (Below.refl _ wr))) h90 (by have := HLEN.out; omega) (by omega)
      have HF := Lib.hid hf; have CW := Lib.hid hcw
      clear hw hf hown2 e hwd hcw
      go_wp2
      go_region_with (go_at_call 35; refine CW.out.mono ?_; rintro e w4 ⟨tv', k', R3, s3, nums3, l3, rfl, hk', hw4, hf4⟩)
      all_goals
        have hf5 := (HF.out.drew).fresh2 hf4 (fun q e => by cases e; exact hg)
        have HW4 := Lib.hid hw4; have HF5 := Lib.hid hf5
        clear hw4 hf4 hf5
        go_wp2
        go_roundg k'
        case measure => exact hk'
        case rel => exact ⟨R3, s3, nums3, l3, by omega, HW4.out, HF5.out⟩
end Go.Proofs.YtjbihammbmiieaaDoor
