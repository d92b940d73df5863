import Derived.Test.YtdkhkemllmegfaaGreatDoorParse
import Derived.Test.YtdkhkemllmegfaaGreatDoorSpecS
import Derived.Test.YtdkhkemllmegfaaGreatDoorFitsS
import Derived.Test.YtdkhkemllmegfaaGreatDoorSameW

/- The reading ends: with fuel enough for the tokens the plain parser answers, and its nodes are in order. -/
namespace Go.Proofs.YtdkhkemllmegfaaGreatDoor.Ex
open Lx (Tok Pos B)
open Tn (Nd fits WF)

/-- what is asked of a reading's end, where it went well; it doesn't run out -/
def Res.Post {α : Type} (r : Res α) (Q : α → S → Prop) : Prop := match r with
  | .ok a s => Q a s
  | .bad _ _ => True
  | .out => False
theorem Res.Post.bind {α β : Type} {r : Res α} {f : α → S → Res β} {Q : α → S → Prop} {R : β → S → Prop} (h : r.Post Q) (k : ∀ a s, Q a s → (f a s).Post R) : (r.bind f).Post R := by
  cases r with
  | ok a s => exact k a s h
  | bad c p => exact h
  | out => exact h.elim
theorem Res.Post.mono {α : Type} {r : Res α} {Q R : α → S → Prop} (h : r.Post Q) (k : ∀ a s, Q a s → R a s) : r.Post R := by
  cases r with
  | ok a s => exact k a s h
  | bad c p => exact h
  | out => exact h.elim
theorem Res.Post.not_out {α : Type} {r : Res α} {Q : α → S → Prop} (h : r.Post Q) : r ≠ .out := by
  rintro rfl; exact h
theorem Res.post_ite {α : Type} {c : Prop} [Decidable c] {a b : Res α} {Q : α → S → Prop} (h : c → a.Post Q) (k : ¬ c → b.Post Q) : (if c then a else b).Post Q := by
  split
  · exact h ‹_›
  · exact k ‹_›

section
variable (ts : List Tok)
/-- a name's text, or none -/
def NameOk (x : ByteArray) : Prop := x = bt [] ∨ ∃ p, (tk ts p).kind = 1 ∧ x = bt (tk ts p).text
/-- a number's value, or none -/
def NumOk (x : Int) : Prop := x = 0 ∨ ∃ p, x = (tk ts p).int
/-- the nodes are in order -/
structure GoodS (s : S) : Prop where
  wf : WF s.ns
  few : s.ns.length ≤ 4000
  names : ∀ n ∈ s.ns, NameOk ts n.name
  kids : ∀ n ∈ s.ns, n.kids.length ≤ ts.length + 3
  here : s.p ≤ ts.length
  nums : ∀ n ∈ s.ns, NumOk ts n.num
/-- an expression was read: at least up to p -/
structure Ends (p : Nat) (i : Nat) (s : S) : Prop where
  far : p ≤ s.p
  good : GoodS ts s
  lt : i < s.ns.length

variable {ts}
theorem GoodS.skip {s : S} (h : GoodS ts s) (hl : s.p < ts.length) : GoodS ts s.skip := ⟨h.wf, h.few, h.names, h.kids, hl, h.nums⟩
theorem Ends.mono {p q i : Nat} {s : S} (h : Ends ts p i s) (hq : q ≤ p) : Ends ts q i s := ⟨Nat.le_trans hq h.far, h.good, h.lt⟩

theorem wrong_post {α : Type} (c : Int) (s : S) (Q : α → S → Prop) : (wrong ts c s : Res α).Post Q := trivial
theorem addN_post {n : Nd} {s : S} (h : GoodS ts s) (hn : NameOk ts n.name) (hk : n.kids.length ≤ ts.length + 3) (hm : NumOk ts n.num) : (addN ts n s).Post (Ends ts s.p) := by
  unfold addN
  refine Res.post_ite (fun hf => Res.post_ite (fun _ => trivial) (fun hl => ?_)) (fun _ => trivial)
  refine ⟨Nat.le_refl _, ⟨h.wf.snoc hf, by simp only [List.length_append, List.length_cons, List.length_nil]; omega, ?_, ?_, h.here, ?_⟩, by simp⟩
  · intro m hm
    rcases List.mem_append.1 hm with hm | hm
    · exact h.names m hm
    · rw [List.mem_singleton.1 hm]; exact hn
  · intro m hm
    rcases List.mem_append.1 hm with hm | hm
    · exact h.kids m hm
    · rw [List.mem_singleton.1 hm]; exact hk
  · intro m hq
    rcases List.mem_append.1 hq with hq | hq
    · exact h.nums m hq
    · rw [List.mem_singleton.1 hq]; exact hm
theorem add_post (op : B) (a : Pos) {name : B} (kids : List Nat) {s : S} (h : GoodS ts s) (hn : NameOk ts (bt name)) (hk : kids.length ≤ ts.length + 3 := by simp) : (add ts op a name kids s).Post (Ends ts s.p) := addN_post h hn (by simpa using hk) (.inl rfl)
theorem nameOk_nil : NameOk ts (bt []) := .inl rfl
theorem nameOk_tk {p : Nat} (h : (tk ts p).kind = 1) : NameOk ts (bt (tk ts p).text) := .inr ⟨p, h, rfl⟩
theorem name_post (s : S) : (name ts s).Post fun x s1 => s1 = s.skip ∧ s.p < ts.length ∧ NameOk ts (bt x) := by
  unfold name
  refine Res.post_ite (fun hk => ?_) (fun _ => trivial)
  have hk : (tk ts s.p).kind = 1 := by simpa using hk
  exact ⟨rfl, kind_lt (by rw [hk]; decide), nameOk_tk hk⟩
theorem take_post (m : B) (s : S) : (take ts m s).Post fun _ s1 => s1 = s.skip ∧ s.p < ts.length := by
  unfold take
  exact Res.post_ite (fun h => ⟨rfl, is_lt h⟩) (fun _ => trivial)
theorem enter_post (d : Nat) (s : S) : (enter ts d s).Post fun _ s1 => s1 = s := by
  unfold enter
  exact Res.post_ite (fun _ => trivial) (fun _ => rfl)
theorem named_post (op : B) {s : S} (h : GoodS ts s) (hl : s.p < ts.length) : (named ts op s).Post (Ends ts (s.p + 1)) := by
  unfold named
  refine (name_post s.skip).bind ?_
  rintro x s1 ⟨rfl, hl1, hn⟩
  exact (add_post op _ [] ((h.skip hl).skip hl1) hn).mono fun _ _ k => k.mono (by simp [S.skip])

/-- the parts end, with fuel n -/
def Parts (ts : List Tok) (n : Nat) (part : Part) : Prop := ∀ s, GoodS ts s → 10 * (ts.length - s.p) < n → (part s).Post (Ends ts (s.p + 1))

theorem between_post {part : Part} {n l : Nat} {s : S} (hp : Parts ts n part) (h : GoodS ts s) (hl : s.p < ts.length) (hn : 10 * (ts.length - (s.p + 1)) < n) : (between ts part l s).Post (Ends ts (s.p + 1)) := by
  unfold between
  refine (hp s.skip (h.skip hl) hn).bind fun r s1 k => ?_
  exact (add_post _ _ _ k.good nameOk_nil).mono fun _ _ k2 => k2.mono (by have := k.far; simp [S.skip] at this; omega)

theorem chainLoop_post {part : Part} {ms : List B} {n : Nat} (hp : Parts ts n part) : ∀ (k l : Nat) (s : S), GoodS ts s → l < s.ns.length → ts.length - s.p < k → 10 * (ts.length - s.p) < n + 10 → (chainLoop ts part ms k l s).Post (Ends ts s.p)
  | 0, _, _, _, _, hk, _ => absurd hk (Nat.not_lt_zero _)
  | k + 1, l, s, h, hl, hk, hn => by
    rw [chainLoop]
    refine Res.post_ite (fun hm => ?_) (fun _ => ⟨Nat.le_refl _, h, hl⟩)
    obtain ⟨m, _, hm⟩ := List.any_eq_true.1 hm
    have hlt := is_lt hm
    refine (between_post (l := l) hp h hlt (by omega)).bind fun i s1 k1 => ?_
    have := k1.far
    exact (chainLoop_post hp k i s1 k1.good k1.lt (by omega) (by omega)).mono fun _ _ k2 => k2.mono (by omega)
theorem chain_post {part : Part} {ms : List B} {n m : Nat} {s : S} (hp : Parts ts n part) (h : GoodS ts s) (hn : 10 * (ts.length - s.p) < n) (hm : 10 * (ts.length - s.p) < m) : (chain ts m part ms s).Post (Ends ts (s.p + 1)) := by
  unfold chain
  refine (hp s h hn).bind fun i s1 k => ?_
  have := k.far
  exact (chainLoop_post hp m i s1 k.good k.lt (by omega) (by omega)).mono fun _ _ k2 => k2.mono this

theorem itemsLoop_post {item : Part} {n : Nat} (hp : Parts ts n item) : ∀ (k : Nat) (is_ : List Nat) (ps : List Pos) (s : S), GoodS ts s → is_.getD (is_.length - 1) 0 < s.ns.length → ts.length - s.p < k → 10 * (ts.length - s.p) < n + 10 →
    (itemsLoop ts item k is_ ps s).Post fun x s1 => s.p ≤ s1.p ∧ GoodS ts s1 ∧ x.1.getD (x.1.length - 1) 0 < s1.ns.length
  | 0, _, _, _, _, _, hk, _ => absurd hk (Nat.not_lt_zero _)
  | k + 1, is_, ps, s, h, hl, hk, hn => by
    rw [itemsLoop]
    refine Res.post_ite (fun hm => ?_) (fun _ => ⟨Nat.le_refl _, h, hl⟩)
    have hlt : s.p < ts.length := is_lt (m := [59]) (by simp only [Bool.and_eq_true] at hm; exact hm.1)
    refine (hp s.skip (h.skip hlt) (by show 10 * (ts.length - (s.p + 1)) < n; omega)).bind fun i s1 k1 => ?_
    have h1 : s.p + 1 + 1 ≤ s1.p := k1.far
    exact (itemsLoop_post hp k _ _ s1 k1.good (by simp [k1.lt]) (by omega) (by omega)).mono fun x s2 k2 => ⟨by omega, k2.2⟩
theorem seqs_post (is_ : List Nat) (ps : List Pos) : ∀ (k rest : Nat) (s : S), GoodS ts s → rest < s.ns.length → (seqs ts is_ ps k rest s).Post (Ends ts s.p)
  | 0, _, _, h, hl => ⟨Nat.le_refl _, h, hl⟩
  | k + 1, rest, s, h, hl => by
    rw [seqs]
    refine (add_post _ _ _ h nameOk_nil).bind fun i s1 k1 => ?_
    exact (seqs_post is_ ps k i s1 k1.good k1.lt).mono fun _ _ k2 => k2.mono k1.far
theorem allF_post {item : Part} {n m : Nat} {s : S} (hp : Parts ts n item) (h : GoodS ts s) (hn : 10 * (ts.length - s.p) < n) (hm : 10 * (ts.length - s.p) < m) : (allF ts m item s).Post (Ends ts (s.p + 1)) := by
  unfold allF
  refine (hp s h hn).bind fun i s1 k => ?_
  have h1 := k.far
  refine (itemsLoop_post hp m [i] [] s1 k.good (by simp [k.lt]) (by omega) (by omega)).bind fun x s2 k2 => ?_
  exact (seqs_post x.1 x.2 _ _ s2 k2.2.1 k2.2.2).mono fun _ _ k3 => k3.mono (by omega)

theorem argsLoop_post {all : Part} {n : Nat} (hp : Parts ts n all) : ∀ (k : Nat) (l : List Nat) (s : S), GoodS ts s → l.length ≤ s.p → ts.length - s.p < k → 10 * (ts.length - s.p) < n + 10 → (argsLoop ts all k l s).Post fun x s1 => s.p ≤ s1.p ∧ GoodS ts s1 ∧ x.length ≤ s1.p
  | 0, _, _, _, _, hk, _ => absurd hk (Nat.not_lt_zero _)
  | k + 1, l, s, h, hlp, hk, hn => by
    rw [argsLoop]
    refine Res.post_ite (fun hm => ?_) (fun _ => ?_)
    · have hlt := is_lt hm
      refine (hp s.skip (h.skip hlt) (by show 10 * (ts.length - (s.p + 1)) < n; omega)).bind fun i s1 k1 => ?_
      have h1 : s.p + 1 + 1 ≤ s1.p := k1.far
      exact (argsLoop_post hp k _ s1 k1.good (by simp; omega) (by omega) (by omega)).mono fun x s2 k2 => ⟨by omega, k2.2⟩
    · refine (take_post [41] s).bind ?_
      rintro _ s1 ⟨rfl, hl1⟩
      exact ⟨Nat.le_succ _, h.skip hl1, Nat.le_trans hlp (Nat.le_succ _)⟩
theorem args_post {all : Part} {n m : Nat} {s : S} (hp : Parts ts n all) (h : GoodS ts s) (hn : 10 * (ts.length - s.p) < n) (hm : 10 * (ts.length - s.p) < m) : (args ts m all s).Post fun x s1 => s.p ≤ s1.p ∧ GoodS ts s1 ∧ x.length ≤ s1.p := by
  unfold args
  refine Res.post_ite (fun _ => argsLoop_post hp m [] s h (by simp) (by omega) (by omega)) (fun _ => ?_)
  refine (hp s h hn).bind fun i s1 k => ?_
  have h1 := k.far
  exact (argsLoop_post hp m [i] s1 k.good (by simp; omega) (by omega) (by omega)).mono fun x s2 k2 => ⟨by omega, k2.2⟩

def rank : Tag → Nat
  | .all => 8 | .item => 7 | .or => 6 | .and => 5 | .test => 4 | .sum => 3 | .times => 2 | .unary => 1
/-- all parts end, with fuel n -/
def AllEnd (ts : List Tok) (n : Nat) (f : Rec) : Prop := ∀ t d s, GoodS ts s → 10 * (ts.length - s.p) + rank t < n → (f t d s).Post (Ends ts (s.p + 1))
theorem AllEnd.part {n : Nat} {f : Rec} (h : AllEnd ts n f) (t : Tag) (d : Nat) : Parts ts (n - rank t) (f t d) := fun s hs hn => h t d s hs (by omega)

theorem testF_post {n d : Nat} {f : Rec} {s : S} (hf : AllEnd ts n f) (h : GoodS ts s) (hn : 10 * (ts.length - s.p) + 3 < n) : (testF ts f d s).Post (Ends ts (s.p + 1)) := by
  unfold testF
  refine (hf .sum d s h hn).bind fun l s1 k => ?_
  have h1 := k.far
  refine Res.post_ite (fun hm => ?_) (fun _ => k)
  have hlt : s1.p < ts.length := by
    rcases Bool.or_eq_true _ _ ▸ hm with hm | hm <;> exact is_lt hm
  exact (between_post (hf.part .sum d) k.good hlt (by simp only [rank]; omega)).mono fun _ _ k2 => k2.mono (by omega)

theorem letF_post {n d : Nat} {f : Rec} {s : S} (hf : AllEnd ts n f) (h : GoodS ts s) (hl : s.p < ts.length) (hn : 10 * (ts.length - s.p) < n) : (letF ts f d s).Post (Ends ts (s.p + 1)) := by
  unfold letF
  refine (name_post s.skip).bind ?_
  rintro x s1 ⟨rfl, l1, hx⟩
  refine (take_post [61] _).bind ?_
  rintro _ s2 ⟨rfl, l2⟩
  refine (hf .all d _ (((h.skip hl).skip l1).skip l2) (by simp only [rank, S.skip]; omega)).bind fun a s3 k3 => ?_
  have h3 := k3.far
  simp only [S.skip] at h3
  refine (take_post [105, 110] s3).bind ?_
  rintro _ s4 ⟨rfl, l4⟩
  refine (hf .all d _ (k3.good.skip l4) (by simp only [rank, S.skip]; omega)).bind fun b s5 k5 => ?_
  have h5 := k5.far
  simp only [S.skip] at h5
  exact (add_post _ _ _ k5.good hx).mono fun _ _ k6 => k6.mono (by omega)
theorem choiceF_post {n d : Nat} {f : Rec} {s : S} (hf : AllEnd ts n f) (h : GoodS ts s) (hl : s.p < ts.length) (hn : 10 * (ts.length - s.p) < n) : (choiceF ts f d s).Post (Ends ts (s.p + 1)) := by
  unfold choiceF
  refine (hf .all d _ (h.skip hl) (by simp only [rank, S.skip]; omega)).bind fun c s1 k1 => ?_
  have h1 := k1.far
  simp only [S.skip] at h1
  refine (take_post [116, 104, 101, 110] s1).bind ?_
  rintro _ s2 ⟨rfl, l2⟩
  refine (hf .item d _ (k1.good.skip l2) (by simp only [rank, S.skip]; omega)).bind fun a s3 k3 => ?_
  have h3 := k3.far
  simp only [S.skip] at h3
  refine (take_post [101, 108, 115, 101] s3).bind ?_
  rintro _ s4 ⟨rfl, l4⟩
  refine (hf .item d _ (k3.good.skip l4) (by simp only [rank, S.skip]; omega)).bind fun b s5 k5 => ?_
  have h5 := k5.far
  simp only [S.skip] at h5
  exact (add_post _ _ _ k5.good nameOk_nil).mono fun _ _ k6 => k6.mono (by omega)
theorem guardF_post {n d : Nat} {f : Rec} {s : S} (hf : AllEnd ts n f) (h : GoodS ts s) (hl : s.p < ts.length) (hn : 10 * (ts.length - s.p) < n) : (guardF ts f d s).Post (Ends ts (s.p + 1)) := by
  unfold guardF
  refine (hf .all d _ (h.skip hl) (by simp only [rank, S.skip]; omega)).bind fun c s1 k1 => ?_
  have h1 := k1.far
  simp only [S.skip] at h1
  refine (take_post [119, 105, 116, 104] s1).bind ?_
  rintro _ s2 ⟨rfl, l2⟩
  refine (name_post _).bind ?_
  rintro x s3 ⟨rfl, l3, hx⟩
  refine (take_post [45, 62] _).bind ?_
  rintro _ s4 ⟨rfl, l4⟩
  refine (hf .item d _ (((k1.good.skip l2).skip l3).skip l4) (by simp only [rank, S.skip]; omega)).bind fun b s5 k5 => ?_
  have h5 := k5.far
  simp only [S.skip] at h5
  exact (add_post _ _ _ k5.good hx).mono fun _ _ k6 => k6.mono (by omega)
theorem outF_post {n d : Nat} {f : Rec} {s : S} (hf : AllEnd ts n f) (h : GoodS ts s) (hl : s.p < ts.length) (hn : 10 * (ts.length - s.p) < n) : (outF ts f d s).Post (Ends ts (s.p + 1)) := by
  unfold outF
  refine (name_post s.skip).bind ?_
  rintro x s1 ⟨rfl, l1, hx⟩
  refine (hf .or d _ ((h.skip hl).skip l1) (by simp only [rank, S.skip]; omega)).bind fun a s2 k2 => ?_
  have h2 := k2.far
  simp only [S.skip] at h2
  exact (add_post _ _ _ k2.good hx).mono fun _ _ k6 => k6.mono (by omega)
theorem setF_post {n d : Nat} {f : Rec} {s : S} (hf : AllEnd ts n f) (h : GoodS ts s) (hl : s.p < ts.length) (hk : (tk ts s.p).kind = 1) (hn : 10 * (ts.length - s.p) < n) : (setF ts f d s).Post (Ends ts (s.p + 1)) := by
  unfold setF
  refine (take_post [58, 61] s.skip).bind ?_
  rintro _ s1 ⟨rfl, l1⟩
  refine (hf .or d _ ((h.skip hl).skip l1) (by simp only [rank, S.skip]; omega)).bind fun a s2 k2 => ?_
  have h2 := k2.far
  simp only [S.skip] at h2
  exact (add_post _ _ _ k2.good (nameOk_tk hk)).mono fun _ _ k6 => k6.mono (by omega)
theorem itemF_post {n d : Nat} {f : Rec} {s : S} (hf : AllEnd ts n f) (h : GoodS ts s) (hn : 10 * (ts.length - s.p) + 6 < n) : (itemF ts f d s).Post (Ends ts (s.p + 1)) := by
  unfold itemF
  refine Res.post_ite (fun hm => letF_post hf h (is_lt hm) (by omega)) fun _ => ?_
  refine Res.post_ite (fun hm => choiceF_post hf h (is_lt hm) (by omega)) fun _ => ?_
  refine Res.post_ite (fun hm => guardF_post hf h (is_lt hm) (by omega)) fun _ => ?_
  refine Res.post_ite (fun hm => named_post _ h (is_lt hm)) fun _ => ?_
  refine Res.post_ite (fun hm => outF_post hf h (is_lt hm) (by omega)) fun _ => ?_
  refine Res.post_ite (fun hm => ?_) fun _ => hf .or d s h hn
  have hk : (tk ts s.p).kind = 1 := by simp only [Bool.and_eq_true, beq_iff_eq] at hm; exact hm.1
  exact setF_post hf h (kind_lt (by rw [hk]; decide)) hk (by omega)

theorem prefixF_post {n d : Nat} {f : Rec} {s : S} (op : B) (hf : AllEnd ts n f) (h : GoodS ts s) (hl : s.p < ts.length) (hn : 10 * (ts.length - s.p) < n) : (prefixF ts f op d s).Post (Ends ts (s.p + 1)) := by
  unfold prefixF
  refine (hf .unary d _ (h.skip hl) (by simp only [rank, S.skip]; omega)).bind fun a s1 k1 => ?_
  have h1 := k1.far
  simp only [S.skip] at h1
  exact (add_post _ _ _ k1.good nameOk_nil).mono fun _ _ k6 => k6.mono (by omega)
theorem releaseF_post {n d : Nat} {f : Rec} {s : S} (hf : AllEnd ts n f) (h : GoodS ts s) (hl : s.p < ts.length) (hn : 10 * (ts.length - s.p) < n) : (releaseF ts f d s).Post (Ends ts (s.p + 1)) := by
  unfold releaseF
  refine (name_post s.skip).bind ?_
  rintro x s1 ⟨rfl, l1, hx⟩
  refine (take_post [40] _).bind ?_
  rintro _ s2 ⟨rfl, l2⟩
  refine (hf .all d _ (((h.skip hl).skip l1).skip l2) (by simp only [rank, S.skip]; omega)).bind fun a s3 k3 => ?_
  have h3 := k3.far
  simp only [S.skip] at h3
  refine (take_post [41] s3).bind ?_
  rintro _ s4 ⟨rfl, l4⟩
  exact (add_post _ _ _ (k3.good.skip l4) hx).mono fun _ _ k6 => k6.mono (by simp only [S.skip]; omega)
theorem bracketsF_post {n d : Nat} {f : Rec} {s : S} (hf : AllEnd ts n f) (h : GoodS ts s) (hl : s.p < ts.length) (hn : 10 * (ts.length - s.p) < n) : (bracketsF ts f d s).Post (Ends ts (s.p + 1)) := by
  unfold bracketsF
  refine Res.post_ite (fun hm => (add_post _ _ _ ((h.skip hl).skip (is_lt hm)) nameOk_nil).mono fun _ _ k => k.mono (by simp only [S.skip]; omega)) fun _ => ?_
  refine (hf .all d _ (h.skip hl) (by simp only [rank, S.skip]; omega)).bind fun a s1 k1 => ?_
  have h1 := k1.far
  simp only [S.skip] at h1
  refine Res.post_ite (fun hm => ?_) fun _ => ?_
  · have l1 := is_lt hm
    refine (hf .all d _ (k1.good.skip l1) (by simp only [rank, S.skip]; omega)).bind fun b s2 k2 => ?_
    have h2 := k2.far
    simp only [S.skip] at h2
    refine (take_post [41] s2).bind ?_
    rintro _ s4 ⟨rfl, l4⟩
    exact (add_post _ _ _ (k2.good.skip l4) nameOk_nil).mono fun _ _ k6 => k6.mono (by simp only [S.skip]; omega)
  · refine (take_post [41] s1).bind ?_
    rintro _ s4 ⟨rfl, l4⟩
    exact ⟨by simp only [S.skip]; omega, k1.good.skip l4, k1.lt⟩
theorem varF_post {n m d : Nat} {f : Rec} {s : S} (hf : AllEnd ts n f) (h : GoodS ts s) (hk : (tk ts s.p).kind = 1) (hn : 10 * (ts.length - s.p) < n) (hm : 10 * (ts.length - s.p) < m) : (varF ts m f d s).Post (Ends ts (s.p + 1)) := by
  have hl : s.p < ts.length := kind_lt (by rw [hk]; decide)
  unfold varF
  refine Res.post_ite (fun ho => ?_) fun _ => (add_post _ _ _ (h.skip hl) (nameOk_tk hk)).mono fun _ _ k => k
  have hl2 : s.p + 1 < ts.length := is_lt ho
  refine (args_post (hf.part .all d) ((h.skip hl).skip hl2) (by simp only [rank, S.skip]; omega) (by simp only [S.skip]; omega)).bind fun l s1 k1 => ?_
  have h1 := k1.1
  simp only [S.skip] at h1
  exact (add_post _ _ _ k1.2.1 (nameOk_tk hk) (by have := k1.2.2; have := k1.2.1.here; omega)).mono fun _ _ k => k.mono (by omega)
theorem unaryF_post {n m d : Nat} {f : Rec} {s : S} (hf : AllEnd ts n f) (h : GoodS ts s) (hn : 10 * (ts.length - s.p) < n) (hm : 10 * (ts.length - s.p) < m) : (unaryF ts m f d s).Post (Ends ts (s.p + 1)) := by
  have tl : ∀ {m : B}, ((tk ts s.p).text == m) = true → m ≠ [] → s.p < ts.length := fun hm hne => text_lt (by rw [eq_of_beq hm]; exact hne)
  unfold unaryF
  refine Res.post_ite (fun hk => (addN_post (h.skip (kind_lt (by rw [show (tk ts s.p).kind = 3 by simpa using hk]; decide))) nameOk_nil (by simp) (.inr ⟨s.p, rfl⟩)).mono fun _ _ k => k) fun _ => ?_
  refine Res.post_ite (fun hk => varF_post hf h (by simpa using hk) hn hm) fun _ => ?_
  refine Res.post_ite (fun ht => prefixF_post _ hf h (tl ht (by simp)) hn) fun _ => ?_
  refine Res.post_ite (fun ht => prefixF_post _ hf h ?_ hn) fun _ => ?_
  · simp only [Bool.or_eq_true] at ht
    rcases ht with (ht | ht) | ht <;> exact tl ht (by simp)
  refine Res.post_ite (fun ht => named_post _ h (tl ht (by simp))) fun _ => ?_
  refine Res.post_ite (fun ht => named_post _ h (tl ht (by simp))) fun _ => ?_
  refine Res.post_ite (fun ht => (add_post _ _ _ (h.skip ?_) nameOk_nil).mono fun _ _ k => k) fun _ => ?_
  · simp only [Bool.or_eq_true] at ht
    rcases ht with ht | ht <;> exact tl ht (by simp)
  refine Res.post_ite (fun ht => releaseF_post hf h (tl ht (by simp)) hn) fun _ => ?_
  refine Res.post_ite (fun ht => bracketsF_post hf h (tl ht (by simp)) hn) fun _ => ?_
  exact wrong_post _ _ _

theorem rec_post : ∀ n, AllEnd ts n (rec_ ts n)
  | 0 => fun _ _ _ _ h => absurd h (Nat.not_lt_zero _)
  | n + 1 => by
    have ih := rec_post n
    intro t d s h hn
    rw [rec_]
    cases t with
    | all => simp only [stepF]; simp only [rank] at hn; exact allF_post (ih.part .item d) h (by simp only [rank]; omega) (by omega)
    | item => simp only [stepF]; simp only [rank] at hn; refine (enter_post d s).bind ?_; rintro d1 s1 rfl; exact itemF_post ih h (by omega)
    | or => simp only [stepF]; simp only [rank] at hn; exact chain_post (ih.part .and d) h (by simp only [rank]; omega) (by omega)
    | and => simp only [stepF]; simp only [rank] at hn; exact chain_post (ih.part .test d) h (by simp only [rank]; omega) (by omega)
    | test => simp only [stepF]; simp only [rank] at hn; exact testF_post ih h (by omega)
    | sum => simp only [stepF]; simp only [rank] at hn; exact chain_post (ih.part .times d) h (by simp only [rank]; omega) (by omega)
    | times => simp only [stepF]; simp only [rank] at hn; exact chain_post (ih.part .unary d) h (by simp only [rank]; omega) (by omega)
    | unary => simp only [stepF]; simp only [rank] at hn; refine (enter_post d s).bind ?_; rintro d1 s1 rfl; exact unaryF_post ih h (by omega) (by omega)
end

theorem goodS_nil (ts : List Tok) : GoodS ts ⟨0, []⟩ := ⟨WF.nil, by simp, fun n h => by simp at h, fun n h => by simp at h, Nat.zero_le _, fun n h => by simp at h⟩
/-- with fuel for ten steps a token and nine -/
theorem parseT_ends {ts : List Tok} {n : Nat} (hn : 10 * ts.length + 8 < n) : parseT n ts ≠ .out ∧ ∀ i ns, parseT n ts = .ok i ns → WF ns ∧ ns.length ≤ 4000 ∧ i < ns.length ∧ (∀ m ∈ ns, m.kids.length ≤ ts.length + 3) ∧ (∀ m ∈ ns, NumOk ts m.num) ∧ ∀ m ∈ ns, NameOk ts m.name := by
  have h := rec_post (ts := ts) n .all 0 ⟨0, []⟩ (goodS_nil ts) (by simp only [rank]; omega)
  unfold parseT
  cases hr : rec_ ts n .all 0 ⟨0, []⟩ with
  | ok i s =>
    rw [hr] at h
    simp only
    split
    · exact ⟨(fun e => by cases e), fun j ns e => by injection e with e1 e2; subst e1 e2; exact ⟨h.good.wf, h.good.few, h.lt, h.good.kids, h.good.nums, h.good.names⟩⟩
    · exact ⟨(fun e => by cases e), fun j ns e => by cases e⟩
  | bad c p => exact ⟨(fun e => by cases e), fun j ns e => by cases e⟩
  | out => rw [hr] at h; exact h.elim
end Go.Proofs.YtdkhkemllmegfaaGreatDoor.Ex
namespace Go.Proofs.YtdkhkemllmegfaaGreatDoor.Lx
theorem number_snoc (l : B) (c : UInt8) : number (l ++ [c]) = 10 * number l + ((c.toNat : Int) - 48) := by simp [number]
theorem number_bd : ∀ (n : Nat) (l : B), l.length = n → (∀ c ∈ l, digit c = true) → 0 ≤ number l ∧ number l < 10 ^ n
  | 0, l, h, _ => by have := List.eq_nil_of_length_eq_zero h; subst this; simp [number]
  | n + 1, l, h, hd => by
    have hne : l ≠ [] := by rintro rfl; simp at h
    obtain ⟨m, c, rfl⟩ : ∃ m c, l = m ++ [c] := ⟨l.dropLast, l.getLast hne, (List.dropLast_concat_getLast hne).symm⟩
    have ih := number_bd n m (by simpa using h) (fun c hc => hd c (by simp [hc]))
    have hc := hd c (by simp)
    simp only [digit, digitZ, Bool.and_eq_true, decide_eq_true_eq] at hc
    rw [number_snoc, Int.pow_succ]
    omega
theorem span_digits : ∀ (l : B), ∀ c ∈ l.take (span false l), digit c = true
  | [], c, h => by simp [span] at h
  | a :: l, c, h => by
    unfold span at h
    by_cases hd : digit a = true
    · rw [if_pos (by simp [hd]), Nat.add_comm, List.take_succ_cons, List.mem_cons] at h
      rcases h with rfl | h
      · exact hd
      · exact span_digits l c h
    · rw [if_neg (by simpa using hd)] at h; simp at h
theorem one_int {l : B} {k : Int} {n : Nat} {v : Int} (h : one l = .tok k n v) : 0 ≤ v ∧ v < 1000000000000000000 := by
  unfold one at h
  split at h
  · injection h with _ _ h; subst h; exact ⟨Int.le_refl _, by decide⟩
  · rename_i c m
    by_cases hd : digit c = true
    · rw [if_pos hd] at h
      by_cases h18 : span false (c :: m) > 18
      · rw [if_pos h18] at h; cases h
      · rw [if_neg h18] at h
        injection h with _ _ h
        have hb := number_bd _ _ rfl (span_digits (c :: m))
        have hle : (List.take (span false (c :: m)) (c :: m)).length ≤ 18 := Nat.le_trans (List.length_take_le _ _) (by omega)
        have hp : (10 : Int) ^ (List.take (span false (c :: m)) (c :: m)).length ≤ 10 ^ 18 := by exact_mod_cast Nat.pow_le_pow_right (by decide) hle
        have e18 : (10 : Int) ^ 18 = 1000000000000000000 := by decide
        rw [h] at hb
        omega
    · rw [if_neg hd] at h
      by_cases hl : letter c = true
      · rw [if_pos hl] at h
        split at h
        · cases h
        · split at h <;> (injection h with _ _ h; subst h; exact ⟨Int.le_refl _, by decide⟩)
      · rw [if_neg hl] at h
        split at h
        · cases h
        · injection h with _ _ h; subst h; exact ⟨Int.le_refl _, by decide⟩
theorem toks_int : ∀ (f : Nat) (note : Bool) (p : Pos) (l : B) (ts : List Tok), toks f note p l = .ok ts → ∀ t ∈ ts, 0 ≤ t.int ∧ t.int < 1000000000000000000
  | 0, _, _, _, _, h, t, ht => by simp [toks] at h; subst h; simp at ht
  | f + 1, note, p, l, ts, h, t, ht => by
    rw [toks] at h
    cases ho : one (l.drop (blanks note l)) with
    | bad e => rw [ho] at h; cases h
    | tok k n v =>
      rw [ho] at h
      simp only at h
      by_cases hk : k = 0
      · rw [if_pos hk] at h; cases h; rw [List.mem_singleton.1 ht]; exact ⟨Int.le_refl _, (by decide : (0 : Int) < 1000000000000000000)⟩
      · rw [if_neg hk] at h
        cases hr : toks f false (adv p (l.take (blanks note l + n))) (l.drop (blanks note l + n)) with
        | bad c' q' => rw [hr] at h; simp [Res.after] at h
        | ok us =>
          rw [hr] at h; simp only [Res.after, Res.ok.injEq] at h; subst h
          rcases List.mem_cons.1 ht with rfl | ht
          · exact one_int ho
          · exact toks_int f _ _ _ _ hr t ht
theorem whole_int {l : B} {ts : List Tok} (h : whole l = .ok ts) : ∀ t ∈ ts, 0 ≤ t.int ∧ t.int < 1000000000000000000 := by
  unfold whole at h
  split at h
  · cases h
  · split at h
    · cases h
    · exact toks_int _ _ _ _ _ h
end Go.Proofs.YtdkhkemllmegfaaGreatDoor.Lx
namespace Go.Proofs.YtdkhkemllmegfaaGreatDoor.Ex
open Lx (Tok Pos B)
open Tn (Nd fits WF)
/-- what is known of nodes that were read -/
structure Read (i : Nat) (ns : List Nd) : Prop where
  wf : WF ns
  few : ns.length ≤ 4000
  lt : i < ns.length
  kids : ∀ m ∈ ns, m.kids.length ≤ 999000
  nums : ∀ m ∈ ns, 0 ≤ m.num ∧ m.num < 1000000000000000000
theorem parse_read {n : Nat} {l : B} (hn : ∀ ts, Lx.whole l = .ok ts → 10 * ts.length + 8 < n) : parse n l ≠ .out ∧ ∀ i ns, parse n l = .ok i ns → Read i ns := by
  unfold parse
  cases hw : Lx.whole l with
  | bad c p => exact ⟨(fun e => by cases e), fun i ns e => by cases e⟩
  | ok ts =>
    have hl := Lx.whole_len hw
    have hi := Lx.whole_int hw
    have h := parseT_ends (ts := ts) (n := n) (hn ts hw)
    refine ⟨h.1, fun i ns e => ?_⟩
    obtain ⟨a, b, c, d, g, _⟩ := h.2 i ns e
    refine ⟨a, b, c, fun m hm => by have := d m hm; omega, fun m hm => ?_⟩
    rcases g m hm with e | ⟨p, e⟩
    · rw [e]; exact ⟨Int.le_refl _, by decide⟩
    · rw [e]
      rcases Nat.lt_or_ge p ts.length with hp | hp
      · have := hi (tk ts p) (by rw [tk, List.getD_eq_getElem?_getD, List.getElem?_eq_getElem hp]; exact List.getElem_mem hp)
        exact this
      · rw [tk, List.getD_eq_getElem?_getD, List.getElem?_eq_none hp]; exact ⟨Int.le_refl _, by decide⟩
/-- any text -/
abbrev FU : Nat := 700000
theorem parse_all (l : B) : parse FU l ≠ .out ∧ ∀ i ns, parse FU l = .ok i ns → Read i ns := parse_read fun ts h => by have := Lx.whole_len h; unfold FU; omega
end Go.Proofs.YtdkhkemllmegfaaGreatDoor.Ex


/- An expression's text, if it is read as it. -/
namespace Go.Proofs.YtdkhkemllmegfaaGreatDoor
open Go.RowKit Go.Shelf Tn

set_option maxHeartbeats 2000000 in
set_option maxRecDepth 100000 in
/-- where it holds no byte -/
theorem bstr_nil (c : Pc) (w : World) (s : Sh.St) (h : Pr c w s) (h0 : s.bs = []) : Calls Tryz.prog 18 #[.pointer (some ⟨c.bp, 1, none⟩)] w fun e w' => e = .returned (.string ⟨#[]⟩) ∧ Below c.N w w' := by
  have hNw := h.hN
  obtain ⟨adr, v, h⟩ := h
  obtain ⟨bs, tg⟩ := s
  simp only at h0
  subst h0
  have hUS : ∀ (W : World) (q : Option Addr), (Builtin.unsafeString_ #[107, 3] 9 #[.pointer q, .int .i64 0]).run Tryz.prog W = .ok (.string .empty) W := fun W q => Lib.run_unsafeString_none W _ _ _ q
  rcases h.own.2 with ⟨rfl, _⟩ | ⟨g, cap, cur, rfl, hbg, hg, _, _, _, _⟩
  · have c1 : w.drew.cell? ⟨c.bp, 2, none⟩ = some (.slice none 0 0) := h.c2
    have hSD : (Builtin.unsafeSliceData_ #[60] 107 #[.slice none 0 0]).run Tryz.prog w.drew = .ok (.pointer none) w.drew := rfl
    clear h
    go_enter Tryz.func18, Tryz.ntmps18
    go_wp2
    go_region
    all_goals (go_wp2; go_ret; exact ⟨rfl, Below.drew (Below.refl c.N w)⟩)
  · have c1 : w.drew.cell? ⟨c.bp, 2, none⟩ = some (.slice (some ⟨g, 0, none⟩) 0 cap) := h.c2
    have hlt := lt_of_heap h.blk
    by_cases hc0 : cap = 0
    · subst hc0
      have hSD : (Builtin.unsafeSliceData_ #[60] 107 #[.slice (some ⟨g, 0, none⟩) 0 0]).run Tryz.prog w.drew = .ok (.pointer (some ⟨w.drew.heap.size, 0, none⟩)) (w.drew.alloc (.view ⟨g, 0, none⟩ 5)) :=
        Lib.run_unsafeSliceData_zero w.drew _ _ 5 Tryz.underlying107 ⟨g, 0, none⟩ 0 (5, cur.size) (by have hg' : w.drew.heap[g]? = some (.cells cur 5 (0, 0)) := hg; simp [World.shape?, hg'])
      have c2 : (w.drew.alloc (.view ⟨g, 0, none⟩ 5)).cell? ⟨c.bp, 2, none⟩ = some (.slice (some ⟨g, 0, none⟩) 0 0) := by
        rw [World.cell?_alloc_lt _ _ _ hlt]; exact c1
      have c3 : (w.alloc (.view ⟨g, 0, none⟩ 5)).drew.cell? ⟨c.bp, 2, none⟩ = some (.slice (some ⟨g, 0, none⟩) 0 0) := c2
      have c0 : w.cell? ⟨c.bp, 2, none⟩ = some (.slice (some ⟨g, 0, none⟩) 0 0) := c1
      clear h
      go_enter Tryz.func18, Tryz.ntmps18
      go_wp2
      go_region
      all_goals (go_wp2; go_ret; exact ⟨rfl, (Below.drew (Below.refl c.N w)).alloc hNw _⟩)
    · have hSD : (Builtin.unsafeSliceData_ #[60] 107 #[.slice (some ⟨g, 0, none⟩) 0 cap]).run Tryz.prog w.drew = .ok (.pointer (some ⟨g, 0, none⟩)) w.drew :=
        Lib.run_unsafeSliceData_row _ _ _ _ _ _ hc0
      clear h hc0
      go_enter Tryz.func18, Tryz.ntmps18
      go_wp2
      go_region
      all_goals (go_wp2; go_ret; exact ⟨rfl, Below.drew (Below.refl c.N w)⟩)
theorem bstr_all (c : Pc) (w : World) (s : Sh.St) (h : Pr c w s) : Calls Tryz.prog 18 #[.pointer (some ⟨c.bp, 1, none⟩)] w fun e w' => e = .returned (.string ⟨s.bs.toArray⟩) ∧ Below c.N w w' := by
  by_cases h0 : s.bs = []
  · rw [h0]; exact bstr_nil c w s h h0
  · exact bstr_any c w s h h0

/-- the text -/
def txt (ms : List Nd) (i : Nat) : Lx.B := (Sh.full ms i ⟨[], true⟩).bs
/-- .. if it is read as the same -/
def showT (n : Nat) (ms : List Nd) (i : Nat) : Option Lx.B :=
  if fitsB ms i = true then (match Ex.parse n (txt ms i) with
    | .ok j ns => if sameB ms ns i j = true then some (txt ms i) else none
    | _ => none) else none
def showV (R : Option Lx.B) : Value := match R with
  | some t => .tuple #[.string ⟨t.toArray⟩, .int .i64 0]
  | none => .tuple #[.string ⟨#[]⟩, .int .i64 1]
def ShowP (R : Option Lx.B) (w : World) (e : Ending) (w' : World) : Prop := e = .returned (showV R) ∧ Below w.heap.size w w'
theorem showT_no {n : Nat} {ms : List Nd} {i : Nat} (h : fitsB ms i = false) : showT n ms i = none := by unfold showT; rw [h]; rfl
theorem showT_bad {n : Nat} {ms : List Nd} {i : Nat} {c : Int} {p : Lx.Pos} (h : fitsB ms i = true) (hp : Ex.parse n (txt ms i) = .bad c p) : showT n ms i = none := by unfold showT; rw [h, hp]; rfl
theorem showT_ok {n : Nat} {ms ns : List Nd} {i j : Nat} (h : fitsB ms i = true) (hp : Ex.parse n (txt ms i) = .ok j ns) : showT n ms i = if sameB ms ns i j = true then some (txt ms i) else none := by unfold showT; rw [h, hp]; rfl

/-- what a world holds for the printer -/
structure Wd (w : World) : Prop where
  u8 : Lib.Utf8Tabs 1 2 w
  err : w.cell? ⟨0, 0, none⟩ = some (.iface 158 (.agg #[.pointer (some ⟨9, 25, none⟩)]))
  tab : Lib.TabIs Tryz.prog w "internal/strconv.uint64pow10" .u64 Lib.pow10Tab
  size : 9 ≤ w.heap.size
theorem Wd.below {w w' : World} (h : Wd w) (hb : Below w.heap.size w w') : Wd w' :=
  ⟨Utf8Tabs_below h.u8 hb, (hb.cell (p := ⟨0, 0, none⟩) (World.block_lt_of_cell? _ _ h.err)).trans h.err, tab_below h.tab hb (by have := h.size; omega), Nat.le_trans h.size hb.size⟩
/-- a tree that can be printed from -/
structure Tr (w : World) (bt : Nat) (ms : List Nd) : Prop where
  at_ : ∃ ao cap, TreeAt w.heap.size w bt ao cap ms
  wf : WF ms
  few : ms.length ≤ 4000
  kids : ∀ i, i < ms.length → (nd ms i).kids.length ≤ 999000
  nums : ∀ i, i < ms.length → -9223372036854775808 ≤ (nd ms i).num ∧ (nd ms i).num ≤ 9223372036854775807
theorem Tr.below {w w' : World} {bt : Nat} {ms : List Nd} (h : Tr w bt ms) (hb : Below w.heap.size w w') : Tr w' bt ms := by
  obtain ⟨ao, cap, ht⟩ := h.at_
  exact ⟨⟨ao, cap, (ht.below hb).mono hb.size⟩, h.wf, h.few, h.kids, h.nums⟩
theorem nd_mem {ms : List Nd} {i : Nat} (h : i < ms.length) : nd ms i ∈ ms := by
  simp only [nd, List.getD_eq_getElem?_getD, List.getElem?_eq_getElem h, Option.getD_some]; exact List.getElem_mem h
theorem Tr.of_read {w : World} {B bt i : Nat} {v : Value} {l : List SN} {ns : List Nd} (ht : TreeOwn B w bt v l) (hl : nds l = ns) (hr : Ex.Read i ns) : Tr w bt ns := by
  obtain ⟨ao, cap, _, h⟩ := ht.at
  rw [hl] at h
  exact ⟨⟨ao, cap, h⟩, hr.wf, hr.few, fun j hj => hr.kids _ (nd_mem hj), fun j hj => by have := hr.nums _ (nd_mem hj); omega⟩
theorem fits_fit {ms : List Nd} {i : Nat} (h : fitsB ms i = true) (hw : WF ms) (hi : i < ms.length) (hk : ∀ i, i < ms.length → (nd ms i).kids.length ≤ 999000) (hn : ∀ i, i < ms.length → -9223372036854775808 ≤ (nd ms i).num ∧ (nd ms i).num ≤ 9223372036854775807)
    (hp : ∀ j ∈ Pl ms i, j < ms.length) : Fit ms i := fun j hj => by
  unfold fitsB at h
  rw [Bool.and_eq_true, List.all_eq_true] at h
  have h1 := h.2 j hj
  unfold okN at h1
  rw [Bool.and_eq_true] at h1
  have hl := hp j hj
  exact ⟨h1.2, hk j hl, (hn j hl).1, (hn j hl).2⟩
theorem Pl_lt_len {ms : List Nd} (hw : WF ms) (i : Nat) : i < ms.length → ∀ j ∈ Pl ms i, j < ms.length := by
  induction i using Nat.strongRecOn with
  | _ i ih =>
    intro hi j hj
    rw [Pl_eq hw hi] at hj
    rcases List.mem_cons.1 hj with rfl | hj
    · exact hi
    · rw [partPl, List.take_length] at hj
      obtain ⟨k, hk, hj⟩ := List.mem_flatMap.1 hj
      have := kid_lt hw hi hk
      exact ih _ this.1 (by omega) j hj

set_option maxHeartbeats 4000000 in
set_option maxRecDepth 100000 in
theorem show_any (n : Nat) (hn : n ≤ 900000) (bt : Nat) (ms : List Nd) (i : Nat) (w : World) (hw : Wd w) (ht : Tr w bt ms) (hi : i < ms.length) (hsz : fitsB ms i = true → (txt ms i).length ≤ 1000000000)
    (hne : fitsB ms i = true → Ex.parse n (txt ms i) ≠ .out) (hrd : ∀ j ns, Ex.parse n (txt ms i) = .ok j ns → Ex.Read j ns) :
    Calls Tryz.prog 7 #[.pointer (some ⟨bt, 0, none⟩), .int .i64 (i : Int)] w (ShowP (showT n ms i) w) := by
  obtain ⟨ao, cap, hta⟩ := ht.at_
  obtain ⟨W, hW⟩ : ∃ W, w.alloc (.cells #[.pointer (some ⟨bt, 0, none⟩), .pointer none, .slice none 0 0, .bool true] 64) = W := ⟨_, rfl⟩
  have hbW : Below w.heap.size w W := by rw [← hW]; exact (Below.refl _ w).alloc (Nat.le_refl _) _
  have hbox : W.heap[w.heap.size]? = some (.cells #[.pointer (some ⟨bt, 0, none⟩), .pointer none, .slice none 0 0, .bool true] 64 (0, 0)) := by rw [← hW]; exact blk_new w _
  have hzW : W.heap.size = w.heap.size + 1 := by rw [← hW]; simp
  have hF := fits_any w.heap.size bt ao cap ms i W ht.wf ht.kids hi ((hta.below hbW).mono hbW.size) ((blk_cell hbox 0).trans rfl)
  have hPr : Pr ⟨w.heap.size, w.heap.size, .pointer (some ⟨bt, 0, none⟩)⟩ W ⟨[], true⟩ := ⟨.pointer none, .slice none 0 0, Nat.le_refl _, by simp only; omega, hbox, .inl rfl, World.ownsRow_nil W _ _ _⟩
  have hEn : En ⟨w.heap.size, w.heap.size, .pointer (some ⟨bt, 0, none⟩)⟩ bt ao cap ms W := ⟨rfl, hta.below hbW, tab_below hw.tab hbW (by have := hw.size; omega), hw.size⟩
  have HF := Lib.hid hF; have HW := Lib.hid hW; have HB := Lib.hid hbW; have HPR := Lib.hid hPr; have HEN := Lib.hid hEn; have HT := Lib.hid ht; have HWD := Lib.hid hw
  have hfit := fun h => fits_fit (ms := ms) (i := i) h ht.wf hi ht.kids ht.nums (Pl_lt_len ht.wf i hi)
  have HFIT := Lib.hid hfit; have HSZ := Lib.hid hsz; have HNE := Lib.hid hne; have HRD := Lib.hid hrd
  clear hF hW hbW hbox hPr hEn ht hw hta hfit hsz hne hrd
  cases hfb : fitsB ms i with
  | false =>
    rw [showT_no hfb]
    rw [hfb] at HF
    clear hfb
    go_enter Tryz.func7, Tryz.ntmps7
    go_upto_region 2 with fail
    rw [HW.out]
    go_wp2_with fail
    refine HF.out.mono ?_
    rintro e w1 ⟨rfl, hb1⟩
    have HB1 := Lib.hid (HB.out.trans (hb1.mono HB.out.size))
    clear hb1
    go_wp2
    go_ret2
    exact ⟨rfl, HB1.out⟩
  | true =>
    rw [hfb] at HF
    have hsz := HSZ.out hfb; have hne := HNE.out hfb; have hft := HFIT.out hfb
    have HFB := Lib.hid hfb; have HNE1 := Lib.hid hne; have HFT := Lib.hid hft
    clear hfb hne hft HNE HFIT
    go_enter Tryz.func7, Tryz.ntmps7
    go_upto_region 2 with fail
    rw [HW.out]
    go_wp2_with fail
    refine HF.out.mono ?_
    rintro e w1 ⟨rfl, hb1⟩
    have hz1 := hb1.size
    have hbN : Below w.heap.size W w1 := hb1.mono (by omega)
    have HPR1 := Lib.hid (HPR.out.below hb1); have HEN1 := Lib.hid (HEN.out.below hbN); have HB1 := Lib.hid (HB.out.trans hbN)
    clear hb1 hbN HPR HEN HF
    go_wp2_with fail
    refine (full_any ⟨w.heap.size, w.heap.size, .pointer (some ⟨bt, 0, none⟩)⟩ bt ao cap ms HT.out.wf i hi HFT.out ⟨[], true⟩ w1 HEN1.out HPR1.out hsz).mono ?_
    rintro e w2 ⟨rfl, hk2⟩
    have hb2 : Below w.heap.size w1 w2 := hk2.pk.below HPR1.out.hN (Nat.le_refl _)
    have HK2 := Lib.hid hk2; have HB2 := Lib.hid (HB1.out.trans hb2)
    clear hk2 hb2 HPR1 HEN1 HB1
    go_wp2_with fail
    refine (bstr_all ⟨w.heap.size, w.heap.size, .pointer (some ⟨bt, 0, none⟩)⟩ w2 _ HK2.out.pr).mono ?_
    rintro e w3 ⟨rfl, hb3⟩
    have hB3 := HB2.out.trans hb3
    have hwd3 := HWD.out.below hB3
    have htr3 := HT.out.below hB3
    have hP := parse_any n hn ⟨(txt ms i).toArray⟩ w3 (by show (txt ms i).toArray.size ≤ _; simp; omega) hwd3.u8 hwd3.err HNE1.out
    have HP := Lib.hid hP; have HB3 := Lib.hid hB3; have HTR3 := Lib.hid htr3
    clear hb3 hB3 hwd3 htr3 hP HK2 HB2
    rw [show (Sh.full ms i ⟨[], true⟩).bs = txt ms i from rfl]
    go_wp2_with fail
    refine HP.out.mono ?_
    rintro e w4 ⟨hb4, ⟨j, ns, B, bt2, v, l, hpe, rfl, hl, hto, hlt⟩ | ⟨cd, p, hpe, rfl⟩⟩
    · have hread := HRD.out j ns hpe
      have htr4 := Tr.of_read hto hl hread
      obtain ⟨ao2, cap2, hta2⟩ := htr4.at_
      obtain ⟨ao3, cap3, hta3⟩ := (HTR3.out.below hb4).at_
      have hS := same_any bt bt2 ao3 ao2 cap3 cap2 ms ns HT.out.wf hread.wf HT.out.kids HT.out.few hread.few i j hi hread.lt w4 hta3 hta2
      have hR := showT_ok HFB.out hpe
      have HS := Lib.hid hS; have HR := Lib.hid hR; have HB4 := Lib.hid (HB3.out.trans (hb4.mono HB3.out.size))
      clear hS hR hb4 hpe hl hto htr4 hta2 hta3 hread HP
      go_wp2_with fail
      refine HS.out.mono ?_
      rintro e w5 ⟨rfl, hb5⟩
      have HB5 := Lib.hid (HB4.out.trans (hb5.mono HB4.out.size))
      clear hb5
      cases hs : sameB ms ns i j with
      | false =>
        rw [hs] at HR
        clear hs
        go_wp2
        go_ret2
        exact ⟨by rw [HR.out]; rfl, HB5.out⟩
      | true =>
        rw [hs] at HR
        clear hs
        go_wp2
        go_ret2
        exact ⟨by rw [HR.out]; rfl, HB5.out⟩
    · have hR := showT_bad HFB.out hpe
      have HR := Lib.hid hR; have HB4 := Lib.hid (HB3.out.trans (hb4.mono HB3.out.size))
      clear hR hb4 hpe HP
      unfold dval
      go_wp2
      go_ret2
      exact ⟨by rw [HR.out]; rfl, HB4.out⟩
end Go.Proofs.YtdkhkemllmegfaaGreatDoor
