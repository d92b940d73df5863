/- The document's texts of terms. -/
import Derived.Test.YtjbihammbmiieaaDoorRt
import Derived.Test.YtjbihammbmiieaaDoorSx
namespace Go.Proofs.YtjbihammbmiieaaDoor
open Go.RowKit Un

structure RsSt (B bt : Nat) (T : Ts) (v : Value) (τ : Nat → Ty) (xs : List Int) (w : World) (i : Nat) (ov sv : Value) (wr : World) : Prop where
  tab : TermAt B wr bt T v
  out : wr.ownsRow w.heap.size 9 1 ov i (strs (shows (picks T.length τ (xs.take i)) []))
  seen : wr.ownsRow w.heap.size 3 1 sv (numAt T.length τ xs i).length (nats (numAt T.length τ xs i))
  slim : Slim T.length (numAt T.length τ xs i)
  below : Below w.heap.size w wr
def RShowP (B bt : Nat) (T : Ts) (v : Value) (τ : Nat → Ty) (xs : List Int) (w : World) (e : Ending) (w' : World) : Prop :=
  ∃ ov, e = .returned ov ∧ w'.ownsRow w.heap.size 9 1 ov xs.length (strs (shows (picks T.length τ xs) [])) ∧ TermAt B w' bt T v ∧ Below w.heap.size w w'
theorem pick_yes {N : Nat} {τ : Nat → Ty} {xs : List Int} {k : Nat} {x : Int} (h : xs[k]? = some x) (hx : 0 ≤ x ∧ x < (N : Int)) : shows (picks N τ (xs.take (k + 1))) [] = shows (picks N τ (xs.take k)) [] ++ [(txt (τ x.toNat) (numAt N τ xs k)).1] ∧ numAt N τ xs (k + 1) = (txt (τ x.toNat) (numAt N τ xs k)).2 := by
  have e : picks N τ (xs.take (k + 1)) = picks N τ (xs.take k) ++ [some (τ x.toNat)] := by
    rw [take_snoc h]; simp [picks, hx]
  constructor
  · rw [e, shows_app]; rfl
  · rw [numAt, numAt, e, seen_app]; rfl
theorem pick_no {N : Nat} {τ : Nat → Ty} {xs : List Int} {k : Nat} {x : Int} (h : xs[k]? = some x) (hx : ¬ (0 ≤ x ∧ x < (N : Int))) : shows (picks N τ (xs.take (k + 1))) [] = shows (picks N τ (xs.take k)) [] ++ [[]] ∧ numAt N τ xs (k + 1) = numAt N τ xs k := by
  have e : picks N τ (xs.take (k + 1)) = picks N τ (xs.take k) ++ [none] := by
    rw [take_snoc h]; simp [picks, hx]
  constructor
  · rw [e, shows_app]; rfl
  · rw [numAt, numAt, e, seen_app]; rfl
set_option maxRecDepth 100000 in
set_option maxHeartbeats 2000000 in
theorem rshow_any (B bt : Nat) (T : Ts) (v : Value) (τ : Nat → Ty) (N : Nat) (lv : Value) (xs : List Int) (w : World) (h : TermAt B w bt T v) (hval : ∀ x, x < T.length → Val T x (τ x)) (hz : ∀ x, x < T.length → (τ x).size ≤ 10000000) (h99 : T.length ≤ 99)
    (hl : w.ownsRow N 3 1 lv xs.length (zs xs)) (hxs : xs.length ≤ 1000) :
    Calls Tryd.prog 17 #[.pointer (some ⟨bt, 0, none⟩), lv] w (RShowP B bt T v τ xs w) := by
  obtain ⟨la, lc, rfl⟩ := own_form hl
  have hst : RsSt B bt T v τ xs w 0 (.slice none 0 0) (.slice none 0 0) w := ⟨h, World.ownsRow_nil _ _ _ _, World.ownsRow_nil _ _ _ _, Slim.nil _, Below.refl _ _⟩
  have H := Lib.hid h; have HV := Lib.hid hval; have HZ := Lib.hid hz; have HL := Lib.hid hl; have ST := Lib.hid hst
  obtain ⟨i0, hi, hz0, hz1, hz2⟩ := info_parts Tryd.info9
  have HI := Lib.hid hi; have HZ0 := Lib.hid hz0; have HZ1 := Lib.hid hz1; have HZ2 := Lib.hid hz2
  clear h hval hz hl hst hi hz0 hz1 hz2
  go_enter Tryd.func17, Tryd.ntmps17
  go_wp2
  go_loopw [5, 6, 7] (fun ov sv iv wr => ∃ i : Nat, i ≤ xs.length ∧ iv = .int .i64 i ∧ RsSt B bt T v τ xs w i ov sv wr) (fun _ _ iv _ => xs.length - (intOf iv).toNat)
  case atStart => exact ⟨0, Nat.zero_le _, rfl, ST.out⟩
  case round =>
    obtain ⟨i, hi, rfl, hs⟩ := hrel
    obtain ⟨va, vc, rfl⟩ := own_form hs.tab.own
    obtain ⟨oa, oc, rfl⟩ := own_form hs.out
    have hc := hs.tab.cell
    have hf := hs.tab.few
    have HS := Lib.hid hs
    clear hs
    by_cases hlt : i < xs.length
    · obtain ⟨x, hx⟩ : ∃ x, xs[i]? = some x := ⟨_, List.getElem?_eq_getElem hlt⟩
      obtain ⟨g, cap, e, _, _⟩ := row_some HL.out (by omega)
      cases e
      have hlr := own_below HL.out HS.out.below
      have hcx := own_cell hlr (zs_get hx)
      have HX := Lib.hid hx
      clear hx hlr
      go_wp2_with fail
      go_cut [31] (fun q wz => q = .bool (decide (0 ≤ x ∧ x < (T.length : Int))) ∧ wz = wr.drew)
      case first =>
        by_cases h0 : 0 ≤ x
        · by_cases h1 : x < (T.length : Int)
          · go_region
            all_goals
              go_wp2
              go_meet
              case rel => exact ⟨by rw [decide_eq_true (show 0 ≤ x ∧ x < (T.length : Int) from ⟨h0, h1⟩)], rfl⟩
          · go_region
            all_goals
              go_wp2
              go_meet
              case rel => exact ⟨by rw [decide_eq_false (show ¬ (0 ≤ x ∧ x < (T.length : Int)) by omega)], rfl⟩
        · go_region
          all_goals
            go_wp2
            go_meet
            case rel => exact ⟨by rw [decide_eq_false (show ¬ (0 ≤ x ∧ x < (T.length : Int)) by omega)], rfl⟩
      case rest =>
        obtain ⟨rfl, rfl⟩ := hcut
        have HD := Lib.hid (HS.out.tab.below (Below.drew (Below.refl _ wr)))
        have SD := Lib.hid (own_below HS.out.seen (Below.drew (Below.refl _ wr)))
        have OD := Lib.hid (own_below HS.out.out (Below.drew (Below.refl _ wr)))
        have BD := Lib.hid (HS.out.below.drew)
        by_cases hin : 0 ≤ x ∧ x < (T.length : Int)
        · rw [decide_eq_true hin]
          obtain ⟨y1, y2⟩ := pick_yes (τ := τ) HX.out hin
          obtain ⟨a, rfl⟩ : ∃ a : Nat, x = a := ⟨x.toNat, by omega⟩
          simp only [Int.toNat_natCast] at y1 y2
          have hal : a < T.length := by omega
          have htx := rtext_any B bt T (.slice va T.length vc) w.heap.size h99 (τ a) a (numAt T.length τ xs i) u6 wr.drew HD.out hal (HV.out a hal) SD.out HS.out.below.size HS.out.slim (HZ.out a hal)
          have hsl := HS.out.slim.txt (τ a) (fun q hq => (HV.out a hal).occ_lt H.out.good.wf hal hq)
          have Y1 := Lib.hid y1; have Y2 := Lib.hid y2; have TX := Lib.hid htx; have SL := Lib.hid hsl
          clear hin y1 y2 htx hsl
          go_wp2_with fail
          refine TX.out.mono ?_
          rintro e w3 ⟨sv', rfl, ho3, hf3⟩
          have hout3 := hf3.own OD.out (fun g cs _ => by rintro ⟨_, cs', e⟩; injection e with _ e; exact absurd e (by decide))
          have hbw3 : Below w.heap.size w w3 := BD.out.trans (hf3.below BD.out.size (fun k o e => e.1))
          have hd3 := HD.out.lin hf3
          have O3 := Lib.hid hout3; have S3 := Lib.hid ho3; have B3 := Lib.hid hbw3; have D3 := Lib.hid hd3
          clear hout3 ho3 hbw3 hd3 hf3
          go_wp2_with (at_builtin; refine wpList_append_own _ rfl _ _ 47 rfl w.heap.size 9 i0 (.string ⟨#[]⟩) 1 16 Tryd.underlying47 HI.out HZ0.out HZ1.out HZ2.out rfl (by decide) _ i (strs (shows (picks T.length τ (xs.take i)) [])) rfl (O3.out.alloc _) ⟨w3.heap.size, 0, none⟩ 1 1 [.string ⟨(txt (τ a) (numAt T.length τ xs i)).1.toArray⟩] rfl rfl ?c1 ?c2 ?c3 ?c4 ?c5 ?_)
          case c1 => exact World.news_of_block (heap_alloc_new w3 _)
          case c2 => intro u hu; simp at hu; subst hu; rfl
          case c3 => unfold maxLen; omega
          case c4 => omega
          case c5 => have := B3.out.size; simp; omega
          intro v' w4 hown hgrow _
          have hba : Below w3.heap.size w3 (w3.alloc (.cells #[.string ⟨(txt (τ a) (numAt T.length τ xs i)).1.toArray⟩] 9)) := (Below.refl _ w3).alloc (Nat.le_refl _) _
          have hoa := own_below O3.out hba
          have hta := D3.out.below hba
          have hg4 : But (fun q => (Value.slice oa i oc).ownBlock = some q) (w3.alloc (.cells #[.string ⟨(txt (τ a) (numAt T.length τ xs i)).1.toArray⟩] 9)) w4 := But.of_grown hgrow (fun _ e => e)
          have hlow : ∀ q, (Value.slice oa i oc).ownBlock = some q → w.heap.size ≤ q := fun q e => (own_tag hoa e).1
          have hb4 : Below w.heap.size w w4 := (B3.out.trans (hba.mono B3.out.size)).trans (But.below hg4 (by have := B3.out.size; simp; omega) hlow)
          have hbt : (Value.slice oa i oc).ownBlock ≠ some bt := fun e => by
            obtain ⟨_, cur, e1⟩ := own_tag hoa e
            rw [hta.blk] at e1; injection e1 with e1; injection e1 with _ e1; exact absurd e1 (by decide)
          have ht4 : TermAt B w4 bt T (.slice va T.length vc) := ⟨Nat.le_trans hta.hB hg4.size, hta.lo, hg4.heap hta.blk hbt, hg4.own hta.own (fun g hg e => row_apart hta.own hoa (by decide) g e hg), hta.few, hta.good⟩
          have hs4 := hg4.own (own_below S3.out hba) (fun g hg e => row_apart (own_below S3.out hba) hoa (by decide) g e hg)
          have hn : RsSt B bt T (.slice va T.length vc) τ xs w (i + 1) v' sv' w4 := by
            refine ⟨ht4, ?_, ?_, ?_, hb4⟩
            · rw [Y1.out]
              have e : strs (shows (picks T.length τ (xs.take i)) [] ++ [(txt (τ a) (numAt T.length τ xs i)).1]) = strs (shows (picks T.length τ (xs.take i)) []) ++ [.string ⟨(txt (τ a) (numAt T.length τ xs i)).1.toArray⟩] := by simp [strs]
              rw [e]; exact hown
            · rw [Y2.out]; exact hs4
            · rw [Y2.out]; exact SL.out
          have HN := Lib.hid hn
          clear hn hs4 ht4 hbt hb4 hlow hg4 hta hoa hba hown hgrow
          go_wp2
          go_roundw
          case rel => exact ⟨i + 1, by omega, by go_num, HN.out⟩
          case measure => simp [intOf]; omega
        · rw [decide_eq_false hin]
          obtain ⟨y1, y2⟩ := pick_no (τ := τ) HX.out hin
          have Y1 := Lib.hid y1; have Y2 := Lib.hid y2
          clear hin y1 y2
          go_wp2_with (at_builtin; refine wpList_append_own _ rfl _ _ 47 rfl w.heap.size 9 i0 (.string ⟨#[]⟩) 1 16 Tryd.underlying47 HI.out HZ0.out HZ1.out HZ2.out rfl (by decide) _ i (strs (shows (picks T.length τ (xs.take i)) [])) rfl (OD.out.alloc _) ⟨wr.drew.heap.size, 0, none⟩ 1 1 [.string ⟨#[]⟩] rfl rfl ?c1 ?c2 ?c3 ?c4 ?c5 ?_)
          case c1 => exact World.news_of_block (heap_alloc_new wr.drew _)
          case c2 => intro u hu; simp at hu; subst hu; rfl
          case c3 => unfold maxLen; omega
          case c4 => omega
          case c5 => have := HS.out.below.size; simp; omega
          intro v' w4 hown hgrow _
          have hba : Below wr.drew.heap.size wr.drew (wr.drew.alloc (.cells #[.string ⟨#[]⟩] 9)) := (Below.refl _ wr.drew).alloc (Nat.le_refl _) _
          have hoa := own_below OD.out hba
          have hta := HD.out.below hba
          have hg4 : But (fun q => (Value.slice oa i oc).ownBlock = some q) (wr.drew.alloc (.cells #[.string ⟨#[]⟩] 9)) w4 := But.of_grown hgrow (fun _ e => e)
          have hlow : ∀ q, (Value.slice oa i oc).ownBlock = some q → w.heap.size ≤ q := fun q e => (own_tag hoa e).1
          have hb4 : Below w.heap.size w w4 := (BD.out.trans (hba.mono BD.out.size)).trans (But.below hg4 (by have := HS.out.below.size; simp; omega) hlow)
          have hbt : (Value.slice oa i oc).ownBlock ≠ some bt := fun e => by
            obtain ⟨_, cur, e1⟩ := own_tag hoa e
            rw [hta.blk] at e1; injection e1 with e1; injection e1 with _ e1; exact absurd e1 (by decide)
          have ht4 : TermAt B w4 bt T (.slice va T.length vc) := ⟨Nat.le_trans hta.hB hg4.size, hta.lo, hg4.heap hta.blk hbt, hg4.own hta.own (fun g hg e => row_apart hta.own hoa (by decide) g e hg), hta.few, hta.good⟩
          have hs4 := hg4.own (own_below SD.out hba) (fun g hg e => row_apart (own_below SD.out hba) hoa (by decide) g e hg)
          have hn : RsSt B bt T (.slice va T.length vc) τ xs w (i + 1) v' u6 w4 := by
            refine ⟨ht4, ?_, ?_, ?_, hb4⟩
            · rw [Y1.out]
              have e : strs (shows (picks T.length τ (xs.take i)) [] ++ [[]]) = strs (shows (picks T.length τ (xs.take i)) []) ++ [.string ⟨#[]⟩] := by simp [strs]
              rw [e]; exact hown
            · rw [Y2.out]; exact hs4
            · rw [Y2.out]; exact HS.out.slim
          have HN := Lib.hid hn
          clear hn hs4 ht4 hbt hb4 hlow hg4 hta hoa hba hown hgrow
          go_wp2
          go_roundw
          case rel => exact ⟨i + 1, by omega, by go_num, HN.out⟩
          case measure => simp [intOf]; omega
    · obtain rfl : i = xs.length := by omega
      have hr : RShowP B bt T (.slice va T.length vc) τ xs w (.returned (.slice oa xs.length oc)) wr := by
        have ho := HS.out.out
        rw [List.take_length] at ho
        exact ⟨_, rfl, ho, HS.out.tab, HS.out.below⟩
      have HR := Lib.hid hr
      clear hr
      go_wp2
      go_ret
      exact HR.out
end Go.Proofs.YtjbihammbmiieaaDoor
