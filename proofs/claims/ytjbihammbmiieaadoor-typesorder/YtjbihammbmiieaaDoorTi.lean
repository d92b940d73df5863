/- What stands in a type: the list of it, as it grows. -/
import Derived.Test.YtjbihammbmiieaaDoorTv
namespace Go.Proofs.YtjbihammbmiieaaDoor
open Go.RowKit Un

/-- a type and what stands in it, so far: l; the marks are where they must be -/
structure WP (R : List Nx) (b0 : Nat) (Rc : List Nx) (l : List Nat) : Prop where
  len : Rc.length = R.length
  tok : Tok Rc
  same : Same (abs R) (abs Rc)
  root : ∀ x, (nx R x).k ≠ 3 → (nx Rc x).k = (nx R x).k ∧ (nx Rc x).f = (nx R x).f ∧ (nx Rc x).g = (nx R x).g
  told : ∀ x, (nx R x).k = 3 → (nx Rc x).k = 3
  seen : ∀ x, (nx Rc x).s = true → x ∈ l.tail
  ins : ∀ x ∈ l, x < R.length + 3 ∧ (nx R x).k ≠ 3
  high : ∀ x ∈ l.tail, 3 ≤ x
  head : b0 ∈ l
  reach : ∀ x ∈ l, ∀ t t0, Val (abs R) x t → Val (abs R) b0 t0 → ∀ n, t.Occ n → t0.Occ n
  cnt : Rc.countP (fun n => !n.s) + l.length = R.length + 1
  way : ∀ m x y, To (abs R) m x y → ∃ m', To (abs Rc) m' x y

theorem count_down {p : Nx → Bool} : ∀ {l : List Nx} {i : Nat} {x y : Nx}, l[i]? = some x → p x = true → p y = false → (l.set i y).countP p + 1 = l.countP p
  | [], i, x, y, h, _, _ => by simp at h
  | z :: l, 0, x, y, h, h1, h2 => by
    rw [List.getElem?_cons_zero] at h; injection h with e; subst e
    rw [List.set_cons_zero, List.countP_cons_of_neg (by rw [h2]; decide), List.countP_cons_of_pos h1]
  | z :: l, i + 1, x, y, h, h1, h2 => by
    rw [List.getElem?_cons_succ] at h
    have := count_down (l := l) h h1 h2
    rw [List.set_cons_succ, List.countP_cons, List.countP_cons]; omega
theorem tok_told {R : List Nx} {x : Nat} (h : Tok R) (hk : (nx R x).k = 3) : (nx R x).s = false := by
  obtain ⟨h3, hx, _⟩ := nx_told hk
  exact h.told _ (nx_mem h3 hx) hk
theorem moved_seen {R R' : List Nx} (ht : Tok R) (h : Moved R R') (x : Nat) : (nx R' x).s = (nx R x).s := by
  by_cases hk : (nx R x).k = 3
  · rw [tok_told ht hk, tok_told h.tok (h.told x hk)]
  · rw [h.root x hk]
theorem seen_count {R R' : List Nx} (hl : R'.length = R.length) (h : ∀ x, (nx R' x).s = (nx R x).s) : R'.countP (fun n => !n.s) = R.countP (fun n => !n.s) := by
  have e : R'.map (fun n => n.s) = R.map (fun n => n.s) := by
    apply List.ext_getElem?
    intro i
    rw [List.getElem?_map, List.getElem?_map]
    by_cases hi : i < R.length
    · have h1 := nx_get (R := R) (x := i + 3) (by omega) (by omega)
      have h2 := nx_get (R := R') (x := i + 3) (by omega) (by omega)
      rw [show i + 3 - 3 = i by omega] at h1 h2
      rw [h1, h2, Option.map_some, Option.map_some, h]
    · rw [List.getElem?_eq_none (by omega), List.getElem?_eq_none (by omega)]
  have c1 : R'.countP (fun n => !n.s) = (R'.map (fun n => n.s)).countP (fun b => !b) := by rw [List.countP_map]; rfl
  have c2 : R.countP (fun n => !n.s) = (R.map (fun n => n.s)).countP (fun b => !b) := by rw [List.countP_map]; rfl
  rw [c1, c2, e]
theorem WP.moved {R Rc R1 : List Nx} {b0 : Nat} {l : List Nat} (h : WP R b0 Rc l) (k : Moved Rc R1) : WP R b0 R1 l :=
  ⟨k.len.trans h.len, k.tok, h.same.trans k.same, fun x hx => by
    have h1 := h.root x hx
    rw [k.root x (by rw [h1.1]; exact hx)]; exact h1,
   fun x hx => k.told x (h.told x hx), fun x hx => h.seen x (by rw [← moved_seen h.tok k]; exact hx), h.ins, h.high, h.head, h.reach, by rw [seen_count k.len (moved_seen h.tok k)]; exact h.cnt, fun m x y q => by obtain ⟨m', q'⟩ := h.way m x y q; exact k.way m' x y q'⟩
theorem tm_seen (n : Nx) (b : Bool) : (seen n b).tm = n.tm := rfl
theorem abs_seen {R : List Nx} {y : Nat} (b : Bool) (h3 : 3 ≤ y) (hy : y < R.length + 3) : abs (R.set (y - 3) (seen (nx R y) b)) = abs R := by
  rw [abs_set, tm_seen, show y - 3 + 3 = y by omega, ← abs_high h3 hy]
  apply List.ext_getElem?
  intro i
  rw [List.getElem?_set]
  split
  · rename_i e; subst e
    rw [if_pos (by rw [abs_len]; exact hy), tm_get (by rw [abs_len]; exact hy)]
  · rfl
theorem nx_seen {R : List Nx} {y : Nat} (b : Bool) (h3 : 3 ≤ y) (hy : y < R.length + 3) (x : Nat) : nx (R.set (y - 3) (seen (nx R y) b)) x = if x = y then seen (nx R y) b else nx R x := nx_set _ h3 hy
theorem tok_seen {R : List Nx} {y : Nat} (b : Bool) (ht : Tok R) (h3 : 3 ≤ y) (hy : y < R.length + 3) (hk : b = true → (nx R y).k ≠ 3) : Tok (R.set (y - 3) (seen (nx R y) b)) := by
  refine ⟨by rw [abs_seen b h3 hy]; exact ht.good, fun n hn => ?_, fun n hn hkn => ?_⟩
  · rcases List.mem_or_eq_of_mem_set hn with hn | rfl
    · exact ht.kind n hn
    · exact (show 1 ≤ (nx R y).k ∧ (nx R y).k ≤ 3 from ht.kind _ (nx_mem h3 hy))
  · rcases List.mem_or_eq_of_mem_set hn with hn | rfl
    · exact ht.told n hn hkn
    · cases b with
      | false => rfl
      | true => exact absurd hkn (hk rfl)
theorem WP.add {R R1 : List Nx} {b0 y : Nat} {l : List Nat} (h : WP R b0 R1 l) (h3 : 3 ≤ y) (hy : y < R.length + 3) (hr : (nx R y).k ≠ 3) (hs : (nx R1 y).s = false)
    (hre : ∀ t t0, Val (abs R) y t → Val (abs R) b0 t0 → ∀ n, t.Occ n → t0.Occ n) : WP R b0 (R1.set (y - 3) (Go.Proofs.YtjbihammbmiieaaDoor.seen (nx R1 y) true)) (l ++ [y]) := by
  have hy1 : y < R1.length + 3 := by rw [h.len]; exact hy
  have hne : l ≠ [] := List.ne_nil_of_mem h.head
  have htl : (l ++ [y]).tail = l.tail ++ [y] := by cases l with | nil => exact absurd rfl hne | cons a l => rfl
  have hrt := h.root y hr
  have e := abs_seen (R := R1) true h3 hy1
  have ht := tok_seen true h.tok h3 hy1 (fun _ => by rw [hrt.1]; exact hr)
  refine ⟨by simp [h.len], ht, by rw [e]; exact h.same, fun x hx => ?_, fun x hx => ?_, fun x hx => ?_, fun x hx => ?_, fun x hx => ?_, List.mem_append_left _ h.head, fun x hx => ?_, ?_, by rw [e]; exact h.way⟩
  · rw [nx_seen true h3 hy1]; split
    · rename_i e; subst e; exact h.root x hx
    · exact h.root x hx
  · rw [nx_seen true h3 hy1]; split
    · rename_i e; subst e; exact absurd hx hr
    · exact h.told x hx
  · rw [nx_seen true h3 hy1] at hx
    rw [htl]
    by_cases e : x = y
    · subst e; exact List.mem_append_right _ (List.mem_singleton.2 rfl)
    · rw [if_neg e] at hx; exact List.mem_append_left _ (h.seen x hx)
  · rcases List.mem_append.1 hx with hx | hx
    · exact h.ins x hx
    · rw [List.mem_singleton.1 hx]; exact ⟨hy, hr⟩
  · rw [htl] at hx
    rcases List.mem_append.1 hx with hx | hx
    · exact h.high x hx
    · rw [List.mem_singleton.1 hx]; exact h3
  · rcases List.mem_append.1 hx with hx | hx
    · exact h.reach x hx
    · rw [List.mem_singleton.1 hx]; exact hre
  · have hc := count_down (p := fun n => !n.s) (nx_get h3 hy1) (y := Go.Proofs.YtjbihammbmiieaaDoor.seen (nx R1 y) true) (by simp [hs]) (by rfl)
    have := h.cnt
    simp only [List.length_append, List.length_cons, List.length_nil]
    omega
/-- a type's parts are covered, of those ahead of i -/
def Shut (R : List Nx) (l : List Nat) (i : Nat) : Prop := ∀ j x, j < i → l[j]? = some x → ∀ s u, Val (abs R) x (.pair s u) → Cov (abs R) l s ∧ Cov (abs R) l u
theorem Cov.more {T : Ts} {l : List Nat} {t : Ty} (h : Cov T l t) (k : List Nat) : Cov T (l ++ k) t := by
  rcases h with h | ⟨y, hy, hv⟩
  · exact .inl h
  · exact .inr ⟨y, List.mem_append_left _ hy, hv⟩
/-- one more, if it wasn't there -/
theorem WP.next {R Rc R2 : List Nx} {b0 x : Nat} {l l2 : List Nat} {t : Ty} (hR : Tok R) (h : WP R b0 Rc l) (k : AddR Rc l x R2 l2) (hx : x < R.length + 3) (hv : Val (abs R) x t)
    (hre : ∀ t0, Val (abs R) b0 t0 → ∀ n, t.Occ n → t0.Occ n) : WP R b0 R2 l2 ∧ Cov (abs R) l2 t ∧ ∃ z, l2 = l ++ z := by
  obtain ⟨y, m, R1, hto, hm, hc⟩ := k
  have hx' : x < (abs Rc).length := by rw [abs_len, h.len]; exact hx
  have hy := hto.lt h.tok.good.wf hx'
  rw [abs_len, h.len] at hy
  have hv' := h.same.val x t (by rw [abs_len]; exact hx) hv
  have hvy : Val (abs R) y t := by
    obtain ⟨u, hu⟩ := hR.good.full y (by rw [abs_len]; exact hy)
    have h1 := hto.val (h.same.val y u (by rw [abs_len]; exact hy) hu)
    rw [hv'.same h1]; exact hu
  have hk : (nx R y).k ≠ 3 := fun e => by
    obtain ⟨_, _, e2⟩ := nx_told (h.told y e)
    rw [hto.root] at e2; cases e2
  have hw := h.moved hm
  rcases hc with ⟨hc, rfl, rfl⟩ | ⟨h3, hs, rfl, rfl⟩
  · refine ⟨hw, ?_, [], by simp⟩
    rcases hc with hc | hc
    · refine .inl fun n hn => ?_
      have e := abs_low (R := R) hc
      cases hvy with
      | is_ q _ => rw [e] at q; cases q
      | var _ q => rw [e] at q; cases q
      | int _ _ => exact hn
      | bool _ _ => exact hn
      | unit _ _ => exact hn
      | pair _ q _ _ => rw [e] at q; have q' : y + 1 = 4 := q; omega
    · exact .inr ⟨y, List.mem_of_mem_tail (hw.seen y hc), hvy⟩
  · refine ⟨hw.add h3 hy hk hs (fun t' t0 h1 h2 n hn => hre t0 h2 n (by rw [hvy.same h1]; exact hn)), .inr ⟨y, List.mem_append_right _ (List.mem_singleton.2 rfl), hvy⟩, [y], rfl⟩
/-- at its start -/
theorem WP.start {R : List Nx} {b0 : Nat} (hR : Tok R) (hc : ∀ n ∈ R, n.s = false) (hb : b0 < R.length + 3) (hk : (nx R b0).k ≠ 3) : WP R b0 R [b0] := by
  refine ⟨rfl, hR, Same.refl hR.good, fun x _ => ⟨rfl, rfl, rfl⟩, fun x h => h, fun x hx => ?_, fun x hx => ?_, fun x hx => (by cases hx), List.mem_singleton.2 rfl, fun x hx t t0 h1 h2 n hn => ?_, ?_, fun m _ _ q => ⟨m, q⟩⟩
  · have : (nx R x).s = false := by
      by_cases h3 : x < 3
      · rw [nx_low h3]
      · by_cases hl : x < R.length + 3
        · exact hc _ (nx_mem (by omega) hl)
        · simp only [nx, h3, if_false, List.getD_eq_getElem?_getD, List.getElem?_eq_none (show R.length ≤ x - 3 by omega)]; rfl
    rw [this] at hx; cases hx
  · rw [List.mem_singleton.1 hx]; exact ⟨hb, hk⟩
  · rw [List.mem_singleton.1 hx] at h1
    rw [← h1.same h2]; exact hn
  · have : R.countP (fun n => !n.s) = R.length := List.countP_eq_length.2 fun n hn => by rw [hc n hn]; rfl
    rw [this]; rfl
/-- at its end: what is open stands there, or doesn't occur -/
theorem WP.occurs {R Rc : List Nx} {b0 a : Nat} {l : List Nat} (h : WP R b0 Rc l) (hs : Shut R l l.length) (ha : a < R.length + 3) (hk : (nx R a).k = 1) {t : Ty} (hv : Val (abs R) b0 t) : a ∈ l ↔ t.Occ a := by
  have va : Val (abs R) a (.var a) := .var (nx_root (by omega) ha) (by rw [(nx_open hk).2.2])
  constructor
  · intro hm
    exact h.reach a hm _ _ va hv a rfl
  · intro ho
    refine cov_occ (T := abs R) (fun y hy => nx_root (h.ins y hy).2 (h.ins y hy).1) (fun y hy s u hv => ?_) t b0 h.head hv ho
    obtain ⟨j, hj, e⟩ := List.getElem_of_mem hy
    exact hs j y hj (by rw [List.getElem?_eq_getElem hj, e]) s u hv
end Go.Proofs.YtjbihammbmiieaaDoor
