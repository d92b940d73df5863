import Derived.Test.YteknddfpdpaodaaGreatDoorParse

/- Texts of signs, brackets, sums and sequences, read by the plain functions. -/
namespace Go.Proofs.YteknddfpdpaodaaGreatDoor
open Lx Tn

namespace Lx
abbrev KT := Int × B
def kt (t : Tok) : KT := (t.kind, t.text)

/-- its tokens, wherever it begins -/
def Lexes (l : B) (ks : List KT) : Prop := ∀ f p, l.length < f → ∃ ts, toks f false p l = .ok ts ∧ ts.map kt = ks

theorem lexes_nil : Lexes [] [(0, [])] := fun f p hf => by
  cases f with
  | zero => simp at hf
  | succ f => exact ⟨_, rfl, rfl⟩
theorem lexes_step {l : B} {b : Nat} {k : Int} {n : Nat} {v : Int} {x : B} {ks : List KT} (hb : blanks false l = b) (ho : one (l.drop b) = .tok k n v) (hx : (l.drop b).take n = x) (hk : k ≠ 0) (hn : 0 < n) (hl : n ≤ (l.drop b).length) (hr : Lexes (l.drop (b + n)) ks) : Lexes l ((k, x) :: ks) := fun f p hf => by
  cases f with
  | zero => omega
  | succ f =>
    have hl' : (l.drop (b + n)).length < f := by simp at hl ⊢; omega
    obtain ⟨ts, e1, e2⟩ := hr f (adv p (l.take (b + n))) hl'
    refine ⟨⟨k, x, v, adv p (l.take b)⟩ :: ts, ?_, by simp [kt, e2]⟩
    rw [toks, hb, ho]
    simp only [if_neg hk, e1, hx, Res.after, List.singleton_append]

/-- a text of plain bytes, not too long -/
theorem whole_of {l : B} {ks : List KT} (h : Lexes l ks) (ha : ∀ c ∈ l, c.toNat < 128) (hl : l.length ≤ 65536) : ∃ ts, whole l = .ok ts ∧ ts.map kt = ks := by
  obtain ⟨ts, e1, e2⟩ := h (l.length + 1) ⟨1, 1⟩ (by omega)
  have hv : ¬ vlen (l.length + 1) l < l.length := fun hlt => by
    rcases vlen_end (l.length + 1) l (by omega) with e | e
    · have := congrArg List.length e; simp at this; omega
    · cases hd : l.drop (vlen (l.length + 1) l) with
      | nil => have := congrArg List.length hd; simp at this; omega
      | cons c r =>
        rw [hd, point_ascii c r (ha c (List.mem_of_mem_drop (by rw [hd]; simp)))] at e
        cases e
  refine ⟨ts, ?_, e2⟩
  rw [whole, if_neg (by omega), if_neg hv, e1]

def sg : Nat → B
  | 0 => [49]
  | n + 1 => 45 :: 32 :: sg n
def tl (c : UInt8) : Nat → B
  | 0 => []
  | n + 1 => c :: 49 :: tl c n
def cl (n : Nat) : B := List.replicate n 41
def op (n m : Nat) : B := List.replicate n 40 ++ 49 :: cl m

def ksg (n : Nat) : List KT := List.replicate n (4, [45]) ++ [(3, [49]), (0, [])]
def ktl (c : UInt8) : Nat → List KT
  | 0 => [(0, [])]
  | n + 1 => (4, [c]) :: (3, [49]) :: ktl c n
def kcl (n : Nat) : List KT := List.replicate n (4, [41]) ++ [(0, [])]
def kop (n m : Nat) : List KT := List.replicate n (4, [40]) ++ (3, [49]) :: kcl m

theorem sg_head (n : Nat) : ∃ c r, sg n = c :: r ∧ blanks false (c :: r) = 0 := by
  cases n with
  | zero => exact ⟨49, [], rfl, rfl⟩
  | succ n => exact ⟨45, 32 :: sg n, rfl, rfl⟩
theorem blanks_sg (n : Nat) : blanks false (sg n) = 0 := by obtain ⟨c, r, e, h⟩ := sg_head n; rw [e]; exact h
theorem blanks_32 (l : B) : blanks false (32 :: l) = 1 + blanks false l := rfl
theorem lexes_sg : ∀ n, Lexes (sg n) (ksg n) ∧ Lexes (32 :: sg n) (ksg n)
  | 0 => ⟨lexes_step (b := 0) (n := 1) (v := 1) rfl rfl rfl (by decide) (by decide) (by decide) lexes_nil, lexes_step (b := 1) (n := 1) (v := 1) rfl rfl rfl (by decide) (by decide) (by decide) lexes_nil⟩
  | n + 1 => by
    obtain ⟨_, h2⟩ := lexes_sg n
    have hk : ksg (n + 1) = (4, [45]) :: ksg n := rfl
    rw [hk]
    exact ⟨lexes_step (b := 0) (n := 1) (v := 0) rfl rfl rfl (by decide) (by decide) (by simp [sg]) h2, lexes_step (b := 1) (n := 1) (v := 0) rfl rfl rfl (by decide) (by decide) (by simp [sg]) h2⟩
theorem span_tl (c : UInt8) (n : Nat) (hc : digit c = false) : span false (tl c n) = 0 := by
  cases n with
  | zero => rfl
  | succ n => simp [tl, span, hc]
theorem one_49 (r : B) (h : span false r = 0) : one (49 :: r) = .tok 3 1 1 := by
  have e : span false (49 :: r) = 1 := by rw [span]; simp only [show digit 49 = true from rfl, Bool.true_or, if_true, h]
  rw [one]
  simp only [show digit 49 = true from rfl, if_true, e]
  rfl
theorem lexes_49 {r : B} {ks : List KT} (h : span false r = 0) (hr : Lexes r ks) : Lexes (49 :: r) ((3, [49]) :: ks) :=
  lexes_step (b := 0) (n := 1) (v := 1) rfl (one_49 r h) rfl (by decide) (by decide) (by simp) hr
theorem lexes_tl (c : UInt8) (hc : c = 43 ∨ c = 59) : ∀ n, Lexes (tl c n) (ktl c n)
  | 0 => lexes_nil
  | n + 1 => by
    have hd : digit c = false := by rcases hc with rfl | rfl <;> rfl
    have h := lexes_49 (span_tl c n hd) (lexes_tl c hc n)
    rcases hc with rfl | rfl
    · exact lexes_step (b := 0) (n := 1) (v := 0) rfl rfl rfl (by decide) (by decide) (by simp [tl]) h
    · exact lexes_step (b := 0) (n := 1) (v := 0) rfl rfl rfl (by decide) (by decide) (by simp [tl]) h
theorem lexes_cl : ∀ n, Lexes (cl n) (kcl n)
  | 0 => lexes_nil
  | n + 1 => lexes_step (l := 41 :: cl n) (b := 0) (n := 1) (v := 0) rfl rfl rfl (by decide) (by decide) (by simp) (lexes_cl n)
theorem span_cl (n : Nat) : span false (cl n) = 0 := by
  cases n with
  | zero => rfl
  | succ n => rfl
theorem lexes_op (m : Nat) : ∀ n, Lexes (op n m) (kop n m)
  | 0 => lexes_49 (span_cl m) (lexes_cl m)
  | n + 1 => lexes_step (l := 40 :: op n m) (b := 0) (n := 1) (v := 0) rfl rfl rfl (by decide) (by decide) (by simp) (lexes_op m n)
end Lx

namespace Ex
/-- is it this mark, or word, by its kind and text? -/
def isK (k : KT) (m : B) : Bool := (k.1 == 4 || k.1 == 2) && k.2 == m
theorem isT_kt (t : Tok) (m : B) : isT t m = isK (kt t) m := rfl

/-- none of the marks and words between parts -/
def stopB (k : KT) : Bool := !(isK k [42] || isK k [43] || isK k [45] || isK k [61] || isK k [60] || isK k [97, 110, 100] || isK k [111, 114] || isK k [59])
/-- neither an item's first word, nor a name -/
def plainB (k : KT) : Bool := !(isK k [108, 101, 116] || isK k [105, 102] || isK k [116, 114, 121] || isK k [114, 97, 105, 115, 101] || isK k [111, 117, 116] || k.1 == 1)

section
variable {ts : List Tok} {ks : List KT}
theorem tk_kt (h : ts.map kt = ks) (p : Nat) : kt (tk ts p) = ks.getD p (0, []) := by
  rw [← h, tk, List.getD_eq_getElem?_getD, List.getD_eq_getElem?_getD, List.getElem?_map]
  cases ts[p]? <;> rfl
theorem is_kt (h : ts.map kt = ks) (s : S) (m : B) : is ts s m = isK (ks.getD s.p (0, [])) m := by rw [is, isT_kt, tk_kt h]
theorem kind_kt (h : ts.map kt = ks) (p : Nat) : (tk ts p).kind = (ks.getD p (0, [])).1 := by rw [← tk_kt h]; rfl
theorem text_kt (h : ts.map kt = ks) (p : Nat) : (tk ts p).text = (ks.getD p (0, [])).2 := by rw [← tk_kt h]; rfl

theorem add_ok (opx : B) (p : Pos) (nm : B) (kids : List Nat) (s : S) (hk : ∀ k ∈ kids, k < s.ns.length) (hl : s.ns.length < 4000) : ∃ n, add ts opx p nm kids s = .ok s.ns.length ⟨s.p, s.ns ++ [n]⟩ := by
  refine ⟨⟨bt opx, p.line, p.col, bt nm, 0, kids.map fun (k : Nat) => (k : Int)⟩, ?_⟩
  rw [add, addN, if_pos (fits_iff.2 fun k hk' => by
    obtain ⟨q, hq, rfl⟩ := List.mem_map.1 hk'
    have := hk q hq; omega), if_neg (by omega)]

theorem chain_same {m : Nat} {part : Part} {ms : List B} {s s' : S} {i : Nat} (h : part s = .ok i s') (hm : ∀ x ∈ ms, is ts s' x = false) : chain ts (m + 1) part ms s = .ok i s' := by
  rw [chain, h, Res.bind, chainLoop, if_neg]
  rw [Bool.not_eq_true, List.any_eq_false]
  intro x hx; rw [hm x hx]; simp
theorem chain_bad {m : Nat} {part : Part} {ms : List B} {s : S} {c : Int} {p : Pos} (h : part s = .bad c p) : chain ts m part ms s = .bad c p := by rw [chain, h, Res.bind]

theorem stop_is (h : ts.map kt = ks) {s : S} (hs : stopB (ks.getD s.p (0, [])) = true) : is ts s [42] = false ∧ is ts s [43] = false ∧ is ts s [45] = false ∧ is ts s [61] = false ∧ is ts s [60] = false ∧ is ts s [97, 110, 100] = false ∧ is ts s [111, 114] = false ∧ is ts s [59] = false := by
  simp only [is_kt h]
  simp only [stopB, Bool.not_eq_true', Bool.or_eq_false_iff] at hs
  obtain ⟨⟨⟨⟨⟨⟨⟨h1, h2⟩, h3⟩, h4⟩, h5⟩, h6⟩, h7⟩, h8⟩ := hs
  exact ⟨h1, h2, h3, h4, h5, h6, h7, h8⟩

/-- from a product up -/
theorem or_of_times (h : ts.map kt = ks) {n d i : Nat} {s s' : S} (hu : rec_ ts (n + 1) .times d s = .ok i s') (hs : stopB (ks.getD s'.p (0, [])) = true) : rec_ ts (n + 5) .or d s = .ok i s' := by
  obtain ⟨_, h2, h3, h4, h5, h6, h7, _⟩ := stop_is h hs
  have e2 : rec_ ts (n + 2) .sum d s = .ok i s' := chain_same hu (by simp [h2, h3])
  have e3 : rec_ ts (n + 3) .test d s = .ok i s' := by
    show testF ts (rec_ ts (n + 2)) d s = _
    rw [testF, e2, Res.bind, h4, h5]; rfl
  have e4 : rec_ ts (n + 4) .and d s = .ok i s' := chain_same e3 (by simp [h6])
  exact chain_same e4 (by simp [h7])
theorem times_of_unary {n d i : Nat} {s s' : S} (hu : rec_ ts (n + 1) .unary d s = .ok i s') (hs : is ts s' [42] = false) : rec_ ts (n + 2) .times d s = .ok i s' := chain_same hu (by simp [hs])
theorem or_of_unary (h : ts.map kt = ks) {n d i : Nat} {s s' : S} (hu : rec_ ts (n + 1) .unary d s = .ok i s') (hs : stopB (ks.getD s'.p (0, [])) = true) : rec_ ts (n + 6) .or d s = .ok i s' :=
  or_of_times (n := n + 1) h (times_of_unary hu (stop_is h hs).1) hs
theorem or_bad {n d : Nat} {s : S} {c : Int} {p : Pos} (hu : rec_ ts n .unary d s = .bad c p) : rec_ ts (n + 5) .or d s = .bad c p := by
  have e1 : rec_ ts (n + 1) .times d s = .bad c p := chain_bad hu
  have e2 : rec_ ts (n + 2) .sum d s = .bad c p := chain_bad e1
  have e3 : rec_ ts (n + 3) .test d s = .bad c p := by
    show testF ts (rec_ ts (n + 2)) d s = _
    rw [testF, e2, Res.bind]
  have e4 : rec_ ts (n + 4) .and d s = .bad c p := chain_bad e3
  exact chain_bad e4
theorem item_eq (h : ts.map kt = ks) {n d : Nat} {s : S} (hd : d < 64) (hp : plainB (ks.getD s.p (0, [])) = true) : rec_ ts (n + 1) .item d s = rec_ ts n .or (d + 1) s := by
  show (enter ts d s).bind _ = _
  rw [enter, if_neg (by omega), Res.bind, itemF]
  simp only [is_kt h, kind_kt h]
  simp only [plainB, Bool.not_eq_true', Bool.or_eq_false_iff] at hp
  obtain ⟨⟨⟨⟨⟨h1, h2⟩, h3⟩, h4⟩, h5⟩, h6⟩ := hp
  simp only [h1, h2, h3, h4, h5, h6, Bool.false_eq_true, Bool.false_and, if_false]
theorem item_deep {n d : Nat} {s : S} (hd : 64 ≤ d) : ∃ c p, rec_ ts (n + 1) .item d s = .bad c p := by
  refine ⟨6, at_ ts s, ?_⟩
  show (enter ts d s).bind _ = _
  rw [enter, if_pos hd]; rfl
theorem unary_deep {n d : Nat} {s : S} (hd : 64 ≤ d) : ∃ c p, rec_ ts (n + 1) .unary d s = .bad c p := by
  refine ⟨6, at_ ts s, ?_⟩
  show (enter ts d s).bind _ = _
  rw [enter, if_pos hd]; rfl
theorem all_eq {n d i : Nat} {s s' : S} (hi : rec_ ts (n + 1) .item d s = .ok i s') (hs : is ts s' [59] = false) : rec_ ts (n + 2) .all d s = .ok i s' := by
  show allF ts (n + 1) (rec_ ts (n + 1) .item d) s = _
  rw [allF, hi, Res.bind, itemsLoop, hs]
  rfl
theorem all_bad {n d : Nat} {s : S} {c : Int} {p : Pos} (hi : rec_ ts n .item d s = .bad c p) : rec_ ts (n + 1) .all d s = .bad c p := by
  show allF ts n (rec_ ts n .item d) s = _
  rw [allF, hi, Res.bind]
theorem unary_num (h : ts.map kt = ks) {n d : Nat} {s : S} (hd : d < 64) (hk : (ks.getD s.p (0, [])).1 = 3) (hl : s.ns.length < 4000) : ∃ q, rec_ ts (n + 1) .unary d s = .ok s.ns.length ⟨s.p + 1, s.ns ++ [q]⟩ := by
  refine ⟨⟨bt [105, 110, 116], (at_ ts s).line, (at_ ts s).col, bt [], (tk ts s.p).int, []⟩, ?_⟩
  show (enter ts d s).bind _ = _
  rw [enter, if_neg (by omega), Res.bind, unaryF, if_pos (by rw [kind_kt h, hk]; rfl), addN, if_pos (by rfl), if_neg (by simp [S.skip]; omega)]
  rfl

/-! signs -/
theorem unary_sg (h : ts.map kt = ks) : ∀ (j n d : Nat) (s : S), j ≤ n → d + j ≤ 63 → s.ns.length + j < 4000 → (∀ i, i < j → ks.getD (s.p + i) (0, []) = (4, [45])) → (ks.getD (s.p + j) (0, [])).1 = 3 →
    ∃ i ns, rec_ ts (n + 1) .unary d s = .ok i ⟨s.p + j + 1, ns⟩ ∧ i < ns.length ∧ ns.length = s.ns.length + j + 1
  | 0, n, d, s, _, hd, hl, _, h3 => by
    obtain ⟨q, e⟩ := unary_num (n := n) h (d := d) (s := s) (by omega) (by simpa using h3) (by omega)
    exact ⟨_, _, e, by simp, by simp⟩
  | j + 1, 0, _, _, hn, _, _, _, _ => by omega
  | j + 1, n + 1, d, s, hn, hd, hl, hs, h3 => by
    have h0 := hs 0 (by omega)
    rw [Nat.add_zero] at h0
    obtain ⟨i, ns, e, hi, hlen⟩ := unary_sg h j n (d + 1) s.skip (by omega) (by omega) (by simp [S.skip]; omega) (fun i hi => by have := hs (i + 1) (by omega); rwa [show s.p + (i + 1) = s.skip.p + i by simp [S.skip]; omega] at this) (by rwa [show s.p + (j + 1) = s.skip.p + j by simp [S.skip]; omega] at h3)
    have hl' : ns.length < 4000 := by simp [S.skip] at hlen; omega
    obtain ⟨q, ea⟩ := add_ok (ts := ts) [110, 101, 103] (at_ ts s) [] [i] ⟨s.skip.p + j + 1, ns⟩ (by simpa using hi) hl'
    refine ⟨ns.length, ns ++ [q], ?_, by simp, by simp [S.skip] at hlen ⊢; omega⟩
    show (enter ts d s).bind _ = _
    rw [enter, if_neg (by omega), Res.bind, unaryF]
    simp only [kind_kt h, text_kt h, h0]
    simp only [show ((4 : Int) == 3) = false from rfl, show ((4 : Int) == 1) = false from rfl, Bool.false_eq_true, if_false, beq_self_eq_true, if_true]
    rw [prefixF, e, Res.bind, ea]
    simp [S.skip]; omega
theorem unary_sg_bad (h : ts.map kt = ks) : ∀ (j n d : Nat) (s : S), j ≤ n → 64 ≤ d + j → (∀ i, i < j → ks.getD (s.p + i) (0, []) = (4, [45])) → ∃ c p, rec_ ts (n + 1) .unary d s = .bad c p
  | 0, n, d, s, _, hd, _ => unary_deep (by omega)
  | j + 1, 0, _, _, hn, _, _ => by omega
  | j + 1, n + 1, d, s, hn, hd, hs => by
    by_cases h64 : 64 ≤ d
    · exact unary_deep h64
    · have h0 := hs 0 (by omega)
      rw [Nat.add_zero] at h0
      obtain ⟨c, p, e⟩ := unary_sg_bad h j n (d + 1) s.skip (by omega) (by omega) (fun i hi => by have := hs (i + 1) (by omega); rwa [show s.p + (i + 1) = s.skip.p + i by simp [S.skip]; omega] at this)
      refine ⟨c, p, ?_⟩
      show (enter ts d s).bind _ = _
      rw [enter, if_neg h64, Res.bind, unaryF]
      simp only [kind_kt h, text_kt h, h0]
      simp only [show ((4 : Int) == 3) = false from rfl, show ((4 : Int) == 1) = false from rfl, Bool.false_eq_true, if_false, beq_self_eq_true, if_true]
      rw [prefixF, e, Res.bind]
end
end Ex
end Go.Proofs.YteknddfpdpaodaaGreatDoor


/- Brackets, sums and sequences, read by the plain functions; and whole texts of them. -/
namespace Go.Proofs.YteknddfpdpaodaaGreatDoor
open Lx Tn
namespace Ex
section
variable {ts : List Tok} {ks : List KT}
/-- from a unary up to all, at the outside -/
theorem top_ok (h : ts.map kt = ks) {n d i : Nat} {s s' : S} (hd : d < 64) (hp : plainB (ks.getD s.p (0, [])) = true) (hu : rec_ ts (n + 1) .unary (d + 1) s = .ok i s') (hs : stopB (ks.getD s'.p (0, [])) = true) : rec_ ts (n + 8) .all d s = .ok i s' := by
  have e1 := or_of_unary h hu hs
  have e2 : rec_ ts (n + 7) .item d s = .ok i s' := by rw [item_eq (n := n + 6) h hd hp]; exact e1
  exact all_eq (n := n + 6) e2 (stop_is h hs).2.2.2.2.2.2.2
theorem top_bad (h : ts.map kt = ks) {n d : Nat} {s : S} {c : Int} {p : Pos} (hd : d < 64) (hp : plainB (ks.getD s.p (0, [])) = true) (hu : rec_ ts (n + 1) .unary (d + 1) s = .bad c p) : rec_ ts (n + 8) .all d s = .bad c p := by
  have e2 : rec_ ts (n + 7) .item d s = .bad c p := by rw [item_eq (n := n + 6) h hd hp]; exact or_bad hu
  exact all_bad e2

theorem unary_op (h : ts.map kt = ks) : ∀ (j n d : Nat) (s : S), 8 * j ≤ n → d + 2 * j ≤ 63 → s.ns.length < 4000 → (∀ i, i < j → ks.getD (s.p + i) (0, []) = (4, [40])) → ks.getD (s.p + j) (0, []) = (3, [49]) → (∀ i, i < j → ks.getD (s.p + j + 1 + i) (0, []) = (4, [41])) →
    ∃ q, rec_ ts (n + 1) .unary d s = .ok s.ns.length ⟨s.p + 2 * j + 1, s.ns ++ [q]⟩
  | 0, n, d, s, _, hd, hl, _, h3, _ => by
    obtain ⟨q, e⟩ := unary_num (n := n) h (d := d) (s := s) (by omega) (by rw [Nat.add_zero] at h3; rw [h3]) hl
    exact ⟨q, e⟩
  | j + 1, n, d, s, hn, hd, hl, hs, h3, h4 => by
    obtain ⟨m, rfl⟩ : ∃ m, n = m + 8 := ⟨n - 8, by omega⟩
    have h0 := hs 0 (by omega)
    rw [Nat.add_zero] at h0
    have h1 : ks.getD (s.p + 1) (0, []) = (4, [40]) ∨ ks.getD (s.p + 1) (0, []) = (3, [49]) := by
      cases j with
      | zero => exact .inr h3
      | succ j => exact .inl (hs 1 (by omega))
    obtain ⟨q, e⟩ := unary_op h j m (d + 2) s.skip (by omega) (by omega) hl (fun i hi => by have := hs (i + 1) (by omega); rwa [show s.p + (i + 1) = s.skip.p + i by simp [S.skip]; omega] at this) (by rwa [show s.p + (j + 1) = s.skip.p + j by simp [S.skip]; omega] at h3)
      (fun i hi => by have := h4 i (by omega); rwa [show s.p + (j + 1) + 1 + i = s.skip.p + j + 1 + i by simp [S.skip]; omega] at this)
    have hc := h4 j (by omega)
    rw [show s.p + (j + 1) + 1 + j = s.skip.p + 2 * j + 1 by simp [S.skip]; omega] at hc
    have ha : rec_ ts (m + 8) .all (d + 1) s.skip = .ok s.skip.ns.length ⟨s.skip.p + 2 * j + 1, s.skip.ns ++ [q]⟩ :=
      top_ok h (by omega) (by rcases h1 with h1 | h1 <;> (show plainB (ks.getD (s.p + 1) _) = true; rw [h1]; rfl)) e (by show stopB (ks.getD (s.skip.p + 2 * j + 1) _) = true; rw [hc]; rfl)
    refine ⟨q, ?_⟩
    have hi1 : is ts s.skip [41] = false := by rw [is_kt h]; show isK (ks.getD (s.p + 1) _) _ = false; rcases h1 with h1 | h1 <;> rw [h1] <;> rfl
    have hi2 : is ts ⟨s.skip.p + 2 * j + 1, s.skip.ns ++ [q]⟩ [44] = false := by rw [is_kt h]; show isK (ks.getD (s.skip.p + 2 * j + 1) _) _ = false; rw [hc]; rfl
    have hi3 : is ts ⟨s.skip.p + 2 * j + 1, s.skip.ns ++ [q]⟩ [41] = true := by rw [is_kt h]; show isK (ks.getD (s.skip.p + 2 * j + 1) _) _ = true; rw [hc]; rfl
    show (enter ts d s).bind _ = _
    rw [enter, if_neg (by omega), Res.bind, unaryF]
    simp only [kind_kt h, text_kt h, h0]
    rw [if_neg (by decide), if_neg (by decide), if_neg (by decide), if_neg (by decide), if_neg (by decide), if_neg (by decide), if_neg (by decide), if_neg (by decide), if_pos (by decide)]
    rw [bracketsF, if_neg (by rw [hi1]; decide), ha, Res.bind, if_neg (by rw [hi2]; decide), take, if_pos hi3, Res.bind]
    simp [S.skip]; omega
theorem unary_op_bad (h : ts.map kt = ks) : ∀ (j n d : Nat) (s : S), 8 * j ≤ n → 64 ≤ d + 2 * j → (∀ i, i < j → ks.getD (s.p + i) (0, []) = (4, [40])) → ks.getD (s.p + j) (0, []) = (3, [49]) → ∃ c p, rec_ ts (n + 1) .unary d s = .bad c p
  | 0, n, d, s, _, hd, _, _ => unary_deep (by omega)
  | j + 1, n, d, s, hn, hd, hs, h3 => by
    by_cases h64 : 64 ≤ d
    · exact unary_deep h64
    · obtain ⟨m, rfl⟩ : ∃ m, n = m + 8 := ⟨n - 8, by omega⟩
      have h0 := hs 0 (by omega)
      rw [Nat.add_zero] at h0
      have h1 : ks.getD (s.p + 1) (0, []) = (4, [40]) ∨ ks.getD (s.p + 1) (0, []) = (3, [49]) := by
        cases j with
        | zero => exact .inr h3
        | succ j => exact .inl (hs 1 (by omega))
      have ha : ∃ c p, rec_ ts (m + 8) .all (d + 1) s.skip = .bad c p := by
        by_cases h65 : 64 ≤ d + 1
        · obtain ⟨c, p, e⟩ := item_deep (ts := ts) (n := m + 6) (s := s.skip) h65
          exact ⟨c, p, all_bad e⟩
        · obtain ⟨c, p, e⟩ := unary_op_bad h j m (d + 2) s.skip (by omega) (by omega) (fun i hi => by have := hs (i + 1) (by omega); rwa [show s.p + (i + 1) = s.skip.p + i by simp [S.skip]; omega] at this) (by rwa [show s.p + (j + 1) = s.skip.p + j by simp [S.skip]; omega] at h3)
          exact ⟨c, p, top_bad h (by omega) (by rcases h1 with h1 | h1 <;> (show plainB (ks.getD (s.p + 1) _) = true; rw [h1]; rfl)) e⟩
      obtain ⟨c, p, ha⟩ := ha
      have hi1 : is ts s.skip [41] = false := by rw [is_kt h]; show isK (ks.getD (s.p + 1) _) _ = false; rcases h1 with h1 | h1 <;> rw [h1] <;> rfl
      refine ⟨c, p, ?_⟩
      show (enter ts d s).bind _ = _
      rw [enter, if_neg h64, Res.bind, unaryF]
      simp only [kind_kt h, text_kt h, h0]
      rw [if_neg (by decide), if_neg (by decide), if_neg (by decide), if_neg (by decide), if_neg (by decide), if_neg (by decide), if_neg (by decide), if_neg (by decide), if_pos (by decide)]
      rw [bracketsF, if_neg (by rw [hi1]; decide), ha, Res.bind]

/-! sums -/
theorem times_num (h : ts.map kt = ks) {n d : Nat} {s : S} (hd : d < 64) (hk : (ks.getD s.p (0, [])).1 = 3) (hl : s.ns.length < 4000) (h42 : isK (ks.getD (s.p + 1) (0, [])) [42] = false) : ∃ q, rec_ ts (n + 2) .times d s = .ok s.ns.length ⟨s.p + 1, s.ns ++ [q]⟩ := by
  obtain ⟨q, e⟩ := unary_num (n := n) h hd hk hl
  exact ⟨q, times_of_unary e (by rw [is_kt h]; exact h42)⟩
theorem sum_loop (h : ts.map kt = ks) {n d : Nat} (hd : d < 64) : ∀ (k m l : Nat) (s : S), k < m → l < s.ns.length → s.ns.length + 2 * k ≤ 3000 → (∀ i, i < k → ks.getD (s.p + 2 * i) (0, []) = (4, [43]) ∧ ks.getD (s.p + 2 * i + 1) (0, []) = (3, [49])) → ks.getD (s.p + 2 * k) (0, []) = (0, []) →
    ∃ i ns, chainLoop ts (rec_ ts (n + 2) .times d) [[43], [45]] m l s = .ok i ⟨s.p + 2 * k, ns⟩
  | _, 0, _, _, hm, _, _, _, _ => by omega
  | 0, m + 1, l, s, _, _, _, _, he => by
    refine ⟨l, s.ns, ?_⟩
    rw [Nat.mul_zero, Nat.add_zero] at he
    have hn : (List.any [[43], [45]] fun x => is ts s x) = false := by simp only [is_kt h, he]; rfl
    rw [chainLoop, if_neg (by rw [hn]; decide)]
    rfl
  | k + 1, m + 1, l, s, hm, hl, hk, hs, he => by
    have h0 := hs 0 (by omega)
    rw [Nat.mul_zero, Nat.add_zero] at h0
    have h2 : isK (ks.getD (s.p + 1 + 1) (0, [])) [42] = false := by
      cases k with
      | zero => rw [show s.p + 1 + 1 = s.p + 2 * (0 + 1) by omega, he]; rfl
      | succ k => have := (hs 1 (by omega)).1; rw [show s.p + 1 + 1 = s.p + 2 * 1 by omega, this]; rfl
    obtain ⟨q, e⟩ := times_num (n := n) h (s := s.skip) hd (by show (ks.getD (s.p + 1) _).1 = 3; rw [h0.2]) (by simp [S.skip]; omega) h2
    obtain ⟨r, ea⟩ := add_ok (ts := ts) (tk ts s.p).text (at_ ts s) [] [l, s.skip.ns.length] ⟨s.skip.p + 1, s.skip.ns ++ [q]⟩ (by simp [S.skip]; omega) (by simp [S.skip]; omega)
    have hb : between ts (rec_ ts (n + 2) .times d) l s = .ok (s.ns.length + 1) ⟨s.p + 2, s.ns ++ [q] ++ [r]⟩ := by
      rw [between, e, Res.bind, ea]
      simp [S.skip]
    have hn : (List.any [[43], [45]] fun x => is ts s x) = true := by simp only [is_kt h, h0.1]; rfl
    obtain ⟨i, ns, ei⟩ := sum_loop h hd k m (s.ns.length + 1) ⟨s.p + 2, s.ns ++ [q] ++ [r]⟩ (by omega) (by simp) (by simp; omega) (fun i hi => by have := hs (i + 1) (by omega); rwa [show s.p + 2 * (i + 1) = s.p + 2 + 2 * i by omega] at this) (by rwa [show s.p + 2 * (k + 1) = s.p + 2 + 2 * k by omega] at he)
    refine ⟨i, ns, ?_⟩
    rw [chainLoop, if_pos hn, hb, Res.bind, ei]
    congr 2; simp only []; omega
theorem all_of_sum (h : ts.map kt = ks) {n d i : Nat} {s s' : S} (hd : d < 64) (hp : plainB (ks.getD s.p (0, [])) = true) (e2 : rec_ ts (n + 1) .sum (d + 1) s = .ok i s') (hs : stopB (ks.getD s'.p (0, [])) = true) : rec_ ts (n + 6) .all d s = .ok i s' := by
  obtain ⟨_, h2, h3, h4, h5, h6, h7, h8⟩ := stop_is h hs
  have e3 : rec_ ts (n + 2) .test (d + 1) s = .ok i s' := by
    show testF ts (rec_ ts (n + 1)) (d + 1) s = _
    rw [testF, e2, Res.bind, h4, h5]; rfl
  have e4 : rec_ ts (n + 3) .and (d + 1) s = .ok i s' := chain_same e3 (by simp [h6])
  have e5 : rec_ ts (n + 4) .or (d + 1) s = .ok i s' := chain_same e4 (by simp [h7])
  have e6 : rec_ ts (n + 5) .item d s = .ok i s' := by rw [item_eq (n := n + 4) h hd hp]; exact e5
  exact all_eq (n := n + 4) e6 h8
theorem all_sum (h : ts.map kt = ks) {n k : Nat} (hn : k ≤ n) (hk : k ≤ 1000) (h0 : ks.getD 0 (0, []) = (3, [49])) (hs : ∀ i, i < k → ks.getD (1 + 2 * i) (0, []) = (4, [43]) ∧ ks.getD (1 + 2 * i + 1) (0, []) = (3, [49])) (he : ks.getD (1 + 2 * k) (0, []) = (0, [])) :
    ∃ i ns, rec_ ts (n + 8) .all 0 ⟨0, []⟩ = .ok i ⟨1 + 2 * k, ns⟩ := by
  have h1 : isK (ks.getD 1 (0, [])) [42] = false := by
    cases k with
    | zero => rw [show ks.getD 1 _ = _ from he]; rfl
    | succ k => rw [show ks.getD 1 _ = _ from (hs 0 (by omega)).1]; rfl
  obtain ⟨q, e⟩ := times_num (n := n) h (d := 1) (s := ⟨0, []⟩) (by omega) (by rw [h0]) (by simp) h1
  obtain ⟨i, ns, ei⟩ := sum_loop h (n := n) (d := 1) (by omega) k (n + 2) 0 ⟨1, [q]⟩ (by omega) (by simp) (by simp; omega) hs he
  have es : rec_ ts (n + 3) .sum 1 ⟨0, []⟩ = .ok i ⟨1 + 2 * k, ns⟩ := by
    show chain ts (n + 2) (rec_ ts (n + 2) .times 1) [[43], [45]] ⟨0, []⟩ = _
    rw [chain, e, Res.bind]
    exact ei
  exact ⟨i, ns, all_of_sum (n := n + 2) h (by omega) (by rw [h0]; rfl) es (by show stopB (ks.getD (1 + 2 * k) _) = true; rw [he]; rfl)⟩

/-! sequences -/
theorem item_num (h : ts.map kt = ks) {n d : Nat} {s : S} (hd : d < 63) (hk : ks.getD s.p (0, []) = (3, [49])) (hl : s.ns.length < 4000) (h1 : ks.getD (s.p + 1) (0, []) = (4, [59]) ∨ ks.getD (s.p + 1) (0, []) = (0, [])) : ∃ q, rec_ ts (n + 7) .item d s = .ok s.ns.length ⟨s.p + 1, s.ns ++ [q]⟩ := by
  obtain ⟨q, e⟩ := unary_num (n := n) h (d := d + 1) (by omega) (by rw [hk]) hl
  have hn : ∀ m : B, isK (4, [59]) m = false → isK (0, []) m = false → is ts ⟨s.p + 1, s.ns ++ [q]⟩ m = false := fun m ha hb => by
    rw [is_kt h]; show isK (ks.getD (s.p + 1) _) m = false
    rcases h1 with h1 | h1 <;> rw [h1]
    · exact ha
    · exact hb
  have e1 : rec_ ts (n + 2) .times (d + 1) s = _ := times_of_unary e (hn _ rfl rfl)
  have e2 : rec_ ts (n + 3) .sum (d + 1) s = _ := chain_same e1 (by simp [hn [43] rfl rfl, hn [45] rfl rfl])
  have e3 : rec_ ts (n + 4) .test (d + 1) s = .ok s.ns.length ⟨s.p + 1, s.ns ++ [q]⟩ := by
    show testF ts (rec_ ts (n + 3)) (d + 1) s = _
    rw [testF, e2, Res.bind, hn [61] rfl rfl, hn [60] rfl rfl]; rfl
  have e4 : rec_ ts (n + 5) .and (d + 1) s = _ := chain_same e3 (by simp [hn [97, 110, 100] rfl rfl])
  have e5 : rec_ ts (n + 6) .or (d + 1) s = _ := chain_same e4 (by simp [hn [111, 114] rfl rfl])
  refine ⟨q, ?_⟩
  rw [item_eq (n := n + 6) h (by omega) (by rw [hk]; rfl)]
  exact e5
theorem items_loop (h : ts.map kt = ks) {n d : Nat} (hd : d < 63) : ∀ (k m : Nat) (is_ : List Nat) (ps : List Pos) (s : S), k < m → (∀ i ∈ is_, i < s.ns.length) → s.ns.length + k ≤ 2000 → (∀ i, i < k → ks.getD (s.p + 2 * i) (0, []) = (4, [59]) ∧ ks.getD (s.p + 2 * i + 1) (0, []) = (3, [49])) → ks.getD (s.p + 2 * k) (0, []) = (0, []) →
    ∃ js qs ns, itemsLoop ts (rec_ ts (n + 7) .item d) m is_ ps s = .ok (js, qs) ⟨s.p + 2 * k, ns⟩ ∧ (∀ i ∈ js, i < ns.length) ∧ qs.length = ps.length + k ∧ ns.length = s.ns.length + k
  | _, 0, _, _, _, hm, _, _, _, _ => by omega
  | 0, m + 1, is_, ps, s, _, hi, _, _, he => by
    refine ⟨is_, ps, s.ns, ?_, hi, by simp, by simp⟩
    rw [Nat.mul_zero, Nat.add_zero] at he
    have hn : is ts s [59] = false := by simp only [is_kt h, he]; rfl
    rw [itemsLoop, if_neg (by rw [hn]; simp)]
    rfl
  | k + 1, m + 1, is_, ps, s, hm, hi, hk, hs, he => by
    have h0 := hs 0 (by omega)
    rw [Nat.mul_zero, Nat.add_zero] at h0
    have h2 : ks.getD (s.skip.p + 1) (0, []) = (4, [59]) ∨ ks.getD (s.skip.p + 1) (0, []) = (0, []) := by
      cases k with
      | zero => exact .inr he
      | succ k => exact .inl (hs 1 (by omega)).1
    obtain ⟨q, e⟩ := item_num (n := n) h (d := d) (s := s.skip) hd h0.2 (by simp [S.skip]; omega) h2
    have hn : is ts s [59] = true := by simp only [is_kt h, h0.1]; rfl
    have hbg : begins (tk ts (s.p + 1)) = true := by rw [begins, kind_kt h, h0.2]; rfl
    obtain ⟨js, qs, ns, ei, h3, h4, h5⟩ := items_loop h hd k m (is_ ++ [s.skip.ns.length]) (ps ++ [at_ ts s]) ⟨s.skip.p + 1, s.skip.ns ++ [q]⟩ (by omega)
      (fun i hi' => by
        simp only [S.skip, List.mem_append, List.mem_singleton, List.length_append, List.length_singleton] at hi' ⊢
        rcases hi' with hi' | rfl
        · have := hi i hi'; omega
        · omega)
      (by simp [S.skip]; omega) (fun i hi => by have := hs (i + 1) (by omega); rwa [show s.p + 2 * (i + 1) = s.skip.p + 1 + 2 * i by simp [S.skip]; omega] at this) (by rwa [show s.p + 2 * (k + 1) = s.skip.p + 1 + 2 * k by simp [S.skip]; omega] at he)
    refine ⟨js, qs, ns, ?_, h3, by rw [h4]; simp; omega, by rw [h5]; simp [S.skip]; omega⟩
    rw [itemsLoop, if_pos (by rw [hn, hbg]; rfl), e, Res.bind, ei]
    congr 2; simp only [S.skip]; omega
theorem seqs_ok (is_ : List Nat) (ps : List Pos) : ∀ (k rest : Nat) (s : S), rest < s.ns.length → (∀ i ∈ is_, i < s.ns.length) → s.ns.length + k ≤ 3000 → ∃ i ns, seqs ts is_ ps k rest s = .ok i ⟨s.p, ns⟩
  | 0, rest, s, _, _, _ => ⟨rest, s.ns, rfl⟩
  | k + 1, rest, s, hr, hi, hk => by
    have hg : is_.getD k 0 < s.ns.length := by
      rw [List.getD_eq_getElem?_getD]
      cases hx : is_[k]? with
      | none => show 0 < s.ns.length; omega
      | some x => exact hi x (List.mem_of_getElem? hx)
    obtain ⟨q, ea⟩ := add_ok (ts := ts) [115, 101, 113] (ps.getD k ⟨0, 0⟩) [] [is_.getD k 0, rest] s (by simp only [List.mem_cons, List.not_mem_nil, or_false]; rintro x (rfl | rfl) <;> assumption) (by omega)
    obtain ⟨i, ns, e⟩ := seqs_ok is_ ps k s.ns.length ⟨s.p, s.ns ++ [q]⟩ (by simp) (fun i hx => by have := hi i hx; simp; omega) (by simp; omega)
    exact ⟨i, ns, by rw [seqs, ea, Res.bind, e]⟩
theorem all_seq (h : ts.map kt = ks) {n k : Nat} (hn : k ≤ n) (hk : k ≤ 1000) (h0 : ks.getD 0 (0, []) = (3, [49])) (hs : ∀ i, i < k → ks.getD (1 + 2 * i) (0, []) = (4, [59]) ∧ ks.getD (1 + 2 * i + 1) (0, []) = (3, [49])) (he : ks.getD (1 + 2 * k) (0, []) = (0, [])) :
    ∃ i ns, rec_ ts (n + 8) .all 0 ⟨0, []⟩ = .ok i ⟨1 + 2 * k, ns⟩ := by
  have h1 : ks.getD (0 + 1) (0, []) = (4, [59]) ∨ ks.getD (0 + 1) (0, []) = (0, []) := by
    cases k with
    | zero => exact .inr he
    | succ k => exact .inl (hs 0 (by omega)).1
  obtain ⟨q, e⟩ := item_num (n := n) h (d := 0) (s := ⟨0, []⟩) (by omega) h0 (by simp) h1
  obtain ⟨js, qs, ns, ei, h3, h4, h5⟩ := items_loop h (n := n) (d := 0) (by omega) k (n + 7) [0] [] ⟨1, [q]⟩ (by omega) (by simp) (by simp; omega) hs he
  have hns : 0 < ns.length := by rw [h5]; simp; omega
  have hr : js.getD (js.length - 1) 0 < ns.length := by
    rw [List.getD_eq_getElem?_getD]
    cases hx : js[js.length - 1]? with
    | none => exact hns
    | some x => exact h3 x (List.mem_of_getElem? hx)
  obtain ⟨i, ns2, es⟩ := seqs_ok (ts := ts) js qs qs.length (js.getD (js.length - 1) 0) ⟨1 + 2 * k, ns⟩ hr h3 (by rw [h4, h5]; simp; omega)
  refine ⟨i, ns2, ?_⟩
  show allF ts (n + 7) (rec_ ts (n + 7) .item 0) ⟨0, []⟩ = _
  rw [allF, e, Res.bind]
  show (itemsLoop ts (rec_ ts (n + 7) .item 0) (n + 7) [0] [] ⟨1, [q]⟩).bind _ = _
  rw [ei, Res.bind, es]
  rfl
end
end Ex
end Go.Proofs.YteknddfpdpaodaaGreatDoor


/- Whole texts of signs, brackets, sums and sequences: well, or wrong, never without an answer. -/
namespace Go.Proofs.YteknddfpdpaodaaGreatDoor
open Lx Tn
namespace Ex
theorem getD_rep_lt {α : Type} (n : Nat) (a d : α) (r : List α) (i : Nat) (h : i < n) : (List.replicate n a ++ r).getD i d = a := by
  rw [List.getD_eq_getElem?_getD, List.getElem?_append_left (by simpa using h), List.getElem?_replicate, if_pos h]; rfl
theorem getD_rep_ge {α : Type} (n : Nat) (a d : α) (r : List α) (i : Nat) : (List.replicate n a ++ r).getD (n + i) d = r.getD i d := by
  rw [List.getD_eq_getElem?_getD, List.getElem?_append_right (by simp), List.getD_eq_getElem?_getD]; simp
theorem parse_of {l : B} {ts : List Tok} (h : whole l = .ok ts) (n : Nat) : parse n l = parseT n ts := by rw [parse, h]
theorem parseT_ok {ts : List Tok} {ks : List KT} (hk : ts.map kt = ks) {n i : Nat} {s : S} (h : rec_ ts n .all 0 ⟨0, []⟩ = .ok i s) (he : ks.getD s.p (0, []) = (0, [])) : parseT n ts = .ok i s.ns := by
  rw [parseT, h]
  simp only [kind_kt hk, he]; rfl
theorem parseT_bad {ts : List Tok} {n : Nat} {c : Int} {p : Pos} (h : rec_ ts n .all 0 ⟨0, []⟩ = .bad c p) : parseT n ts = .bad c p := by rw [parseT, h]

theorem sg_len : ∀ n, (sg n).length = 2 * n + 1
  | 0 => rfl
  | n + 1 => by simp [sg, sg_len n]; omega
theorem sg_low : ∀ n, ∀ c ∈ sg n, c.toNat < 128
  | 0 => by simp [sg]
  | n + 1 => by
    intro c hc; simp only [sg, List.mem_cons] at hc
    rcases hc with rfl | rfl | hc
    · decide
    · decide
    · exact sg_low n c hc
theorem tl_len (b : UInt8) : ∀ n, (tl b n).length = 2 * n
  | 0 => rfl
  | n + 1 => by simp [tl, tl_len b n]; omega
theorem tl_low (b : UInt8) (hb : b.toNat < 128) : ∀ n, ∀ c ∈ tl b n, c.toNat < 128
  | 0 => by simp [tl]
  | n + 1 => by
    intro c hc; simp only [tl, List.mem_cons] at hc
    rcases hc with rfl | rfl | hc
    · exact hb
    · decide
    · exact tl_low b hb n c hc
theorem op_low (n m : Nat) : ∀ c ∈ op n m, c.toNat < 128 := by
  intro c hc; simp only [op, cl, List.mem_append, List.mem_cons, List.mem_replicate] at hc
  rcases hc with ⟨_, rfl⟩ | rfl | ⟨_, rfl⟩ <;> decide

theorem parse_sg (n m : Nat) (hn : n ≤ 255) (hm : 2040 ≤ m) : (n ≤ 62 → ∃ i ns, parse (m + 8) (sg n) = .ok i ns) ∧ (¬ n ≤ 62 → ∃ c p, parse (m + 8) (sg n) = .bad c p) := by
  obtain ⟨ts, e1, e2⟩ := whole_of (lexes_sg n).1 (sg_low n) (by rw [sg_len]; omega)
  rw [parse_of e1]
  have hs : ∀ i, i < n → (ksg n).getD (0 + i) (0, []) = (4, [45]) := fun i hi => by rw [Nat.zero_add, ksg, getD_rep_lt n _ _ _ i hi]
  have h3 : (ksg n).getD (0 + n) (0, []) = (3, [49]) := by rw [Nat.zero_add, ksg]; exact getD_rep_ge n _ _ _ 0
  have h4 : (ksg n).getD (0 + n + 1) (0, []) = (0, []) := by rw [Nat.zero_add, ksg, getD_rep_ge]; rfl
  have hp : plainB ((ksg n).getD 0 (0, [])) = true := by
    cases n with
    | zero => rfl
    | succ n => rw [show (ksg (n + 1)).getD 0 (0, []) = (4, [45]) from rfl]; rfl
  constructor
  · intro h62
    obtain ⟨i, ns, e, _, _⟩ := unary_sg e2 n m 1 ⟨0, []⟩ (by omega) (by omega) (by simp; omega) hs (by rw [h3])
    exact ⟨i, ns, parseT_ok e2 (top_ok e2 (by omega) hp e (by rw [h4]; rfl)) h4⟩
  · intro h62
    obtain ⟨c, p, e⟩ := unary_sg_bad e2 n m 1 ⟨0, []⟩ (by omega) (by omega) hs
    exact ⟨c, p, parseT_bad (top_bad e2 (by omega) hp e)⟩

theorem parse_op (n m : Nat) (hn : n ≤ 255) (hm : 2040 ≤ m) : (n ≤ 31 → ∃ i ns, parse (m + 8) (op n n) = .ok i ns) ∧ (¬ n ≤ 31 → ∃ c p, parse (m + 8) (op n n) = .bad c p) := by
  obtain ⟨ts, e1, e2⟩ := whole_of (lexes_op n n) (op_low n n) (by simp [op, cl]; omega)
  rw [parse_of e1]
  have hs : ∀ i, i < n → (kop n n).getD (0 + i) (0, []) = (4, [40]) := fun i hi => by rw [Nat.zero_add, kop, getD_rep_lt n _ _ _ i hi]
  have h3 : (kop n n).getD (0 + n) (0, []) = (3, [49]) := by rw [Nat.zero_add, kop]; exact getD_rep_ge n _ _ _ 0
  have h4 : ∀ i, i < n → (kop n n).getD (0 + n + 1 + i) (0, []) = (4, [41]) := fun i hi => by
    rw [Nat.zero_add, kop, Nat.add_assoc, getD_rep_ge, Nat.add_comm 1 i, List.getD_cons_succ, kcl, getD_rep_lt n _ _ _ i hi]
  have h5 : (kop n n).getD (0 + 2 * n + 1) (0, []) = (0, []) := by
    rw [show 0 + 2 * n + 1 = n + (n + 1) by omega, kop, getD_rep_ge, List.getD_cons_succ, kcl]
    have := getD_rep_ge n ((4, [41]) : KT) (0, []) [(0, [])] 0
    rw [Nat.add_zero] at this
    rw [this]; rfl
  have hp : plainB ((kop n n).getD 0 (0, [])) = true := by
    cases n with
    | zero => rfl
    | succ n => rw [show (kop (n + 1) (n + 1)).getD 0 (0, []) = (4, [40]) from rfl]; rfl
  constructor
  · intro h31
    obtain ⟨q, e⟩ := unary_op e2 n m 1 ⟨0, []⟩ (by omega) (by omega) (by simp) hs h3 h4
    exact ⟨_, _, parseT_ok e2 (top_ok e2 (by omega) hp e (by rw [h5]; rfl)) h5⟩
  · intro h31
    obtain ⟨c, p, e⟩ := unary_op_bad e2 n m 1 ⟨0, []⟩ (by omega) (by omega) hs h3
    exact ⟨c, p, parseT_bad (top_bad e2 (by omega) hp e)⟩

theorem ktl_get (b : UInt8) : ∀ k i, i < k → (ktl b k).getD (2 * i) (0, []) = (4, [b]) ∧ (ktl b k).getD (2 * i + 1) (0, []) = (3, [49])
  | 0, i, h => by omega
  | k + 1, 0, _ => ⟨rfl, rfl⟩
  | k + 1, i + 1, h => by
    have := ktl_get b k i (by omega)
    rw [show 2 * (i + 1) = 2 * i + 2 by omega]
    exact this
theorem ktl_end (b : UInt8) : ∀ k, (ktl b k).getD (2 * k) (0, []) = (0, [])
  | 0 => rfl
  | k + 1 => by rw [show 2 * (k + 1) = 2 * k + 2 by omega]; exact ktl_end b k
theorem parse_sum (n m : Nat) (hn : n ≤ 255) (hm : 2040 ≤ m) : ∃ i ns, parse (m + 8) (49 :: tl 43 n) = .ok i ns := by
  obtain ⟨ts, e1, e2⟩ := whole_of (lexes_49 (span_tl 43 n rfl) (lexes_tl 43 (.inl rfl) n)) (by
    intro c hc; simp only [List.mem_cons] at hc
    rcases hc with rfl | hc
    · decide
    · exact tl_low 43 (by decide) n c hc) (by simp [tl_len]; omega)
  rw [parse_of e1]
  have h5 : ((3, [49]) :: ktl 43 n).getD (1 + 2 * n) (0, []) = (0, []) := by rw [Nat.add_comm]; exact ktl_end 43 n
  obtain ⟨i, ns, e⟩ := all_sum e2 (n := m) (k := n) (by omega) (by omega) rfl (fun i hi => by rw [Nat.add_comm 1]; exact ktl_get 43 n i hi) h5
  exact ⟨i, ns, parseT_ok e2 e h5⟩
theorem parse_seq (n m : Nat) (hn : n ≤ 255) (hm : 2040 ≤ m) : ∃ i ns, parse (m + 8) (49 :: tl 59 n) = .ok i ns := by
  obtain ⟨ts, e1, e2⟩ := whole_of (lexes_49 (span_tl 59 n rfl) (lexes_tl 59 (.inr rfl) n)) (by
    intro c hc; simp only [List.mem_cons] at hc
    rcases hc with rfl | hc
    · decide
    · exact tl_low 59 (by decide) n c hc) (by simp [tl_len]; omega)
  rw [parse_of e1]
  have h5 : ((3, [49]) :: ktl 59 n).getD (1 + 2 * n) (0, []) = (0, []) := by rw [Nat.add_comm]; exact ktl_end 59 n
  obtain ⟨i, ns, e⟩ := all_seq e2 (n := m) (k := n) (by omega) (by omega) rfl (fun i hi => by rw [Nat.add_comm 1]; exact ktl_get 59 n i hi) h5
  exact ⟨i, ns, parseT_ok e2 e h5⟩
end Ex
end Go.Proofs.YteknddfpdpaodaaGreatDoor
