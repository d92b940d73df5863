/- Does an open type occur in another one. -/
import Derived.Test.YtjbihammbmiieaaDoorTj
namespace Go.Proofs.YtjbihammbmiieaaDoor
open Go.RowKit Un

def IndexP (l : List Nat) (a : Nat) (w : World) (e : Ending) (w' : World) : Prop := ∃ r : Int, e = .returned (.int .i64 r) ∧ (0 ≤ r ↔ a ∈ l) ∧ -1 ≤ r ∧ r ≤ 1000000 ∧ w = w'
set_option maxRecDepth 100000 in
theorem index_any (N : Nat) (l : List Nat) (lv : Value) (a : Nat) (w : World) (h : w.ownsRow N 35 1 lv l.length (nats l)) (hl : l.length ≤ 1000000) :
    Calls Tryd.prog 44 #[lv, .int .i64 a] w (IndexP l a w) := by
  obtain ⟨la, lc, rfl⟩ := own_form h
  have H := Lib.hid h
  clear h
  go_enter Tryd.func44, Tryd.ntmps44
  go_wp2
  go_loop [8] (fun i => ∃ k : Nat, k ≤ l.length ∧ i = .int .i64 k ∧ ∀ j x, j < k → l[j]? = some x → x ≠ a) (fun i => l.length - (intOf i).toNat)
  case atStart => exact ⟨0, Nat.zero_le _, rfl, fun j x hj => absurd hj (Nat.not_lt_zero j)⟩
  case round =>
    obtain ⟨k, hk, rfl, hno⟩ := hrel
    have HNO := Lib.hid hno
    clear hno
    by_cases hlt : k < l.length
    · obtain ⟨x, hx⟩ : ∃ x, l[k]? = some x := ⟨_, List.getElem?_eq_getElem hlt⟩
      obtain ⟨g, cap, e, _, _⟩ := row_some H.out (by omega)
      cases e
      have hc := own_cell H.out (nats_get hx)
      have HX := Lib.hid hx
      clear hx
      by_cases he : a = x
      · subst he
        go_wp2
        go_ret
        exact ⟨k, rfl, ⟨fun _ => List.mem_of_getElem? HX.out, fun _ => by omega⟩, by omega, by omega, rfl⟩
      · go_wp2
        go_round
        case rel =>
          refine ⟨k + 1, by omega, by go_num, fun j y hj hy => ?_⟩
          by_cases hjk : j = k
          · subst hjk; rw [HX.out] at hy; injection hy with hy; subst hy; exact fun e => he e.symm
          · exact HNO.out j y (by omega) hy
        case measure => simp [intOf]; omega
    · go_wp2
      go_ret
      refine ⟨-1, rfl, ⟨fun h => by omega, fun h => ?_⟩, by omega, by omega, rfl⟩
      obtain ⟨j, hj, e⟩ := List.getElem_of_mem h
      exact absurd e (HNO.out j _ (by omega) (List.getElem?_eq_getElem hj))
theorem contains_any (N : Nat) (l : List Nat) (lv : Value) (a : Nat) (w : World) (h : w.ownsRow N 35 1 lv l.length (nats l)) (hl : l.length ≤ 1000000) :
    Calls Tryd.prog 39 #[lv, .int .i64 a] w fun e w' => e = .returned (.bool (decide (a ∈ l))) ∧ w = w' := by
  have H := Lib.hid h
  clear h
  go_enter Tryd.func39, Tryd.ntmps39
  go_wp2_with fail
  refine (index_any N l lv a w H.out hl).mono ?_
  rintro e w' ⟨r, rfl, hr, hr1, hr2, rfl⟩
  have HR := Lib.hid hr
  clear hr
  go_wp2
  go_ret
  exact ⟨ret_bool (by rw [Bool.eq_iff_iff, decide_eq_true_iff, decide_eq_true_iff]; exact HR.out), rfl⟩

def OccP (B bt : Nat) (R : List Nx) (v : Value) (r : Bool) (w : World) (e : Ending) (w' : World) : Prop := e = .returned (.bool r) ∧ (∃ R', TabAt B w' bt R' v ∧ Moved R R' ∧ ∀ n ∈ R', n.s = false) ∧ Ow v w w'
theorem occurs_any (B bt : Nat) (R : List Nx) (v : Value) (a b : Nat) (t : Ty) (w : World) (h : TabAt B w bt R v) (ht : Tok R) (hc : ∀ n ∈ R, n.s = false) (ha : a < R.length + 3) (hka : (nx R a).k = 1) (hb : b < R.length + 3) (hk : (nx R b).k ≠ 3) (hv : Val (abs R) b t) :
    Calls Tryd.prog 33 #[.pointer (some ⟨bt, 0, none⟩), .int .i64 a, .int .i64 b] w (OccP B bt R v (decide (t.Occ a)) w) := by
  have H := Lib.hid h; have HT := Lib.hid ht; have HC := Lib.hid hc; have HV := Lib.hid hv
  have hf := h.few
  clear h ht hc hv
  go_enter Tryd.func33, Tryd.ntmps33
  go_wp2_with fail
  refine (within_any B bt R v b w H.out HT.out HC.out hb hk).mono ?_
  rintro e w1 ⟨lv, l, R', rfl, hown, htab, hm, how, hcl, hln, hocc⟩
  have h1 := hocc a t ha hka HV.out
  have HOWN := Lib.hid hown; have HTAB := Lib.hid htab; have HM := Lib.hid hm; have HOW := Lib.hid how; have HCL := Lib.hid hcl; have H1 := Lib.hid h1
  clear hown htab hm how hcl hocc h1
  go_wp2_with fail
  refine (contains_any w.heap.size l lv a w1 HOWN.out (by omega)).mono ?_
  rintro e w2 ⟨rfl, rfl⟩
  go_wp2
  go_ret
  exact ⟨ret_bool (by rw [Bool.eq_iff_iff, decide_eq_true_iff, decide_eq_true_iff]; exact H1.out), ⟨R', HTAB.out, HM.out, HCL.out⟩, HOW.out⟩
end Go.Proofs.YtjbihammbmiieaaDoor
