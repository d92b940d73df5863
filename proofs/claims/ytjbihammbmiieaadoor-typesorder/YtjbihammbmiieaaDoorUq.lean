/- One step, in a table of nodes. -/
import Derived.Test.YtjbihammbmiieaaDoorTi
import Derived.Test.YtjbihammbmiieaaDoorUb
namespace Go.Proofs.YtjbihammbmiieaaDoor
open Go.RowKit Un

structure Pu (L : Nat) (G : (Nat → Ty) → Prop) (n : Nat) (R : List Nx) (l : List Step) : Prop where
  tok : Tok R
  clear : ∀ n ∈ R, n.s = false
  len : R.length = L
  todo : Todo G (abs R) l
  rank : Ranked (abs R) l n
  stk : Stk (Sol (abs R)) l
theorem all_seen {R : List Nx} (h : ∀ x, (nx R x).s = false) : ∀ n ∈ R, n.s = false := fun n hn => by
  obtain ⟨q, hq, e⟩ := List.getElem_of_mem hn
  have := nx_get (R := R) (x := q + 3) (by omega) (by omega)
  rw [show q + 3 - 3 = q by omega, List.getElem?_eq_getElem hq, e] at this
  injection this with this
  rw [this]; exact h _
theorem seen_all {R : List Nx} (h : ∀ n ∈ R, n.s = false) (x : Nat) : (nx R x).s = false := by
  by_cases h3 : x < 3
  · rw [nx_low h3]
  · by_cases hl : x < R.length + 3
    · exact h _ (nx_mem (by omega) hl)
    · simp only [nx, h3, if_false, List.getD_eq_getElem?_getD, List.getElem?_eq_none (show R.length ≤ x - 3 by omega)]; rfl
section
variable {L n : Nat} {G : (Nat → Ty) → Prop} {R R2 : List Nx} {l : List Step} {s : Step} {a b : Nat}
theorem Pu.moved (h : Pu L G n R l) (k : Moved R R2) : Pu L G n R2 l :=
  ⟨k.tok, all_seen fun x => by rw [moved_seen h.tok k]; exact seen_all h.clear x, k.len.trans h.len, h.todo.same k.same, h.rank.same k.same, h.stk.mono fun σ hσ => (k.same.sol h.tok.good σ).1 hσ⟩
theorem Pu.skip (h : Pu L G n R (s :: l)) (ka : ∃ m, To (abs R) m s.a a) (kb : ∃ m, To (abs R) m s.b a) : ∃ m, m < n ∧ Pu L G m R l := by
  obtain ⟨m, hm, hr⟩ := h.rank.skip
  obtain ⟨_, ka⟩ := ka
  obtain ⟨_, kb⟩ := kb
  obtain ⟨hsa, hsb⟩ := h.todo.ins s (List.mem_cons_self ..)
  exact ⟨m, hm, h.tok, h.clear, h.len, h.todo.skip fun σ hσ => (ka.sol h.tok.good.wf hσ hsa).1.trans (kb.sol h.tok.good.wf hσ hsb).1.symm, hr, h.stk.tail⟩
theorem abs_told (h3 : 3 ≤ a) (b : Nat) : abs (R.set (a - 3) ⟨3, false, b, 0⟩) = (abs R).set a (told b) := by
  rw [abs_set, show a - 3 + 3 = a by omega]; rfl
theorem tok_become (ht : Tok R) (h3 : 3 ≤ a) (hg : Un.Good ((abs R).set a (told b))) : Tok (R.set (a - 3) ⟨3, false, b, 0⟩) := by
  refine ⟨by rw [abs_told h3]; exact hg, fun n hn => ?_, fun n hn _ => ?_⟩
  · rcases List.mem_or_eq_of_mem_set hn with hn | rfl
    · exact ht.kind n hn
    · exact (show 1 ≤ 3 ∧ 3 ≤ 3 by omega)
  · rcases List.mem_or_eq_of_mem_set hn with hn | rfl
    · exact ht.told n hn ‹_›
    · rfl
theorem clear_become (hc : ∀ n ∈ R, n.s = false) (b : Nat) : ∀ n ∈ R.set (a - 3) ⟨3, false, b, 0⟩, n.s = false := fun n hn => by
  rcases List.mem_or_eq_of_mem_set hn with hn | rfl
  · exact hc n hn
  · rfl
theorem Pu.told (h : Pu L G n R (s :: l)) (hp : s.p = true) (ka : ∃ m, To (abs R) m s.a a) (kb : ∃ m, To (abs R) m s.b b) (hne : a ≠ b) : 3 ≤ a ∧ ∃ m, m < n ∧ Pu L G m (R.set (a - 3) ⟨3, false, b, 0⟩) l := by
  obtain ⟨_, ka⟩ := ka
  obtain ⟨_, kb⟩ := kb
  obtain ⟨hsa, hsb⟩ := h.todo.ins s (List.mem_cons_self ..)
  have ha := ka.lt h.tok.good.wf hsa
  have hb := kb.lt h.tok.good.wf hsb
  have hs := h.todo.told Tok.uniq hp ka kb hne
  have h3 : 3 ≤ a := by
    obtain ⟨σ, h1, h2⟩ := h.tok.good.some
    have e := h.todo.just.1 hp σ h1
    have va : Val (abs R) a (σ s.a) := by obtain ⟨t, ht⟩ := h.tok.good.full a ha; rw [(h2 _ hsa).same (ka.val ht)]; exact ht
    have vb : Val (abs R) b (σ s.a) := by obtain ⟨t, ht⟩ := h.tok.good.full b hb; rw [e, (h2 _ hsb).same (kb.val ht)]; exact ht
    obtain ⟨x, y, e2⟩ := Tok.uniq.alike ha hb hne ka.root kb.root va vb
    rw [e2] at va
    refine Nat.le_of_not_lt fun hl => ?_
    cases va with
    | is_ q _ => rw [ka.root] at q; cases q
    | pair _ q _ _ => rw [abs_low hl] at q; have q' : a + 1 = 4 := q; omega
  obtain ⟨m, hm, hr⟩ := h.rank.skip
  refine ⟨h3, m, hm, tok_become h.tok h3 hs.good, clear_become h.clear b, by simp [h.len], ?_, ?_, ?_⟩
  · rw [abs_told h3]; exact (h.todo.skip (h.todo.just.1 hp)).same hs
  · rw [abs_told h3]; exact hr.same hs
  · rw [abs_told h3]; exact h.stk.tail.mono fun σ hσ => (hs.sol h.tok.good σ).1 hσ
theorem bind_told (hk : (nx R a).k = 1) (b : Nat) : bind (abs R) a b = (abs R).set a (told b) := by
  show (abs R).set a { tm (abs R) a with is_ := some b } = _
  rw [(nx_open hk).2.2]
theorem Pu.one (h : Pu L G n R (s :: l)) (hp : s.p = false) (hk : (nx R a).k = 1) (k : OneP (abs R) s.a s.b true (bind (abs R) a b)) : 3 ≤ a ∧ ∃ m, m < n ∧ Pu L G m (R.set (a - 3) ⟨3, false, b, 0⟩) l := by
  obtain ⟨h3, hx, etm⟩ := nx_open hk
  have e := bind_told hk b
  have ho := opens_bind (b := b) (T := abs R) (a := a) (by rw [abs_len]; exact hx) (by rw [etm]) (by rw [etm])
  obtain ⟨m, hm, hr⟩ := h.rank.bind k.good k.like.len (by omega) (fun x hx => h.todo.ins x (List.mem_cons_of_mem _ hx))
  have ht := h.todo.bind hp k
  have hk' := k.yes rfl
  have hg := k.good
  rw [e] at ht hr hk' hg
  refine ⟨h3, m, hm, tok_become h.tok h3 hg, clear_become h.clear b, by simp [h.len], ?_, ?_, ?_⟩
  · rw [abs_told h3]; exact ht
  · rw [abs_told h3]; exact hr
  · rw [abs_told h3]; exact h.stk.tail.mono fun σ hσ => ((hk' σ).1 hσ).1
theorem Pu.bind (h : Pu L G n R (s :: l)) (hp : s.p = false) (ka : ∃ m, To (abs R) m s.a a) (kb : ∃ m, To (abs R) m s.b b) (hk : (nx R a).k = 1) {t : Ty} (hv : Val (abs R) b t) (ho : ¬ t.Occ a) : 3 ≤ a ∧ ∃ m, m < n ∧ Pu L G m (R.set (a - 3) ⟨3, false, b, 0⟩) l := by
  obtain ⟨_, ka⟩ := ka
  obtain ⟨_, kb⟩ := kb
  obtain ⟨hsa, hsb⟩ := h.todo.ins s (List.mem_cons_self ..)
  have ha := ka.lt h.tok.good.wf hsa
  have hb := kb.lt h.tok.good.wf hsb
  obtain ⟨_, _, etm⟩ := nx_open hk
  exact h.one hp hk ((one_bind h.tok.good ha hb (by rw [etm]) (by rw [etm]) hv ho).at_ h.tok.good hsa hsb ka kb)
theorem Pu.bind' (h : Pu L G n R (s :: l)) (hp : s.p = false) (ka : ∃ m, To (abs R) m s.a a) (kb : ∃ m, To (abs R) m s.b b) (hk : (nx R b).k = 1) {t : Ty} (hv : Val (abs R) a t) (ho : ¬ t.Occ b) : 3 ≤ b ∧ ∃ m, m < n ∧ Pu L G m (R.set (b - 3) ⟨3, false, a, 0⟩) l := by
  obtain ⟨_, ka⟩ := ka
  obtain ⟨_, kb⟩ := kb
  obtain ⟨hsa, hsb⟩ := h.todo.ins s (List.mem_cons_self ..)
  have ha := ka.lt h.tok.good.wf hsa
  have hb := kb.lt h.tok.good.wf hsb
  obtain ⟨_, _, etm⟩ := nx_open hk
  exact h.one hp hk ((one_bind h.tok.good hb ha (by rw [etm]) (by rw [etm]) hv ho).symm.at_ h.tok.good hsa hsb ka kb)
theorem Pu.push (h : Pu L G n R (s :: l)) (hp : s.p = false) (ka : ∃ m, To (abs R) m s.a a) (kb : ∃ m, To (abs R) m s.b b) (h2 : (nx R a).k = 2) (k2 : (nx R b).k = 2) :
    ∃ m, m < n ∧ Pu L G m R (⟨(nx R a).f, (nx R b).f, false⟩ :: ⟨(nx R a).g, (nx R b).g, false⟩ :: ⟨a, b, true⟩ :: l) := by
  obtain ⟨_, ka⟩ := ka
  obtain ⟨_, kb⟩ := kb
  obtain ⟨hsa, hsb⟩ := h.todo.ins s (List.mem_cons_self ..)
  obtain ⟨_, _, ea⟩ := nx_pair h2
  obtain ⟨_, _, eb⟩ := nx_pair k2
  obtain ⟨m, hm, hr⟩ := h.rank.push (b := b) h.tok.good.wf hp hsa ka (by rw [ea]) (by rw [ea]) (nx R b).f (nx R b).g
  have ht := h.todo.push hp ka kb (by rw [ea]) (by rw [eb])
  have hs := h.stk.push (b := b) (y := (nx R b).f) (z := (nx R b).g) h.tok.good.wf hp hsa ka (by rw [ea])
  simp only [ea, eb] at ht hr hs
  exact ⟨m, hm, h.tok, h.clear, h.len, ht, hr, hs⟩
theorem Pu.no (h : Pu L G n R (s :: l)) (hp : s.p = false) (ka : ∃ m, To (abs R) m s.a a) (kb : ∃ m, To (abs R) m s.b b) (hne : a ≠ b) (h1 : (nx R a).k = 1 → ∀ t, Val (abs R) b t → t.Occ a) (h2 : (nx R b).k = 1 → ∀ t, Val (abs R) a t → t.Occ b) (h4 : ¬ ((nx R a).k = 2 ∧ (nx R b).k = 2)) : ∀ σ, ¬ G σ := by
  obtain ⟨_, ka⟩ := ka
  obtain ⟨_, kb⟩ := kb
  obtain ⟨hsa, hsb⟩ := h.todo.ins s (List.mem_cons_self ..)
  have ha := ka.lt h.tok.good.wf hsa
  have hb := kb.lt h.tok.good.wf hsb
  have kind : ∀ {x : Nat}, x < (abs R).length → (tm (abs R) x).is_ = none → ((tm (abs R) x).kind = 0 → (nx R x).k = 1) ∧ ((tm (abs R) x).kind = 4 → (nx R x).k = 2) := by
    intro x hx hr
    rw [abs_len] at hx
    rcases h.tok.range hx with ⟨q, h3⟩ | ⟨q, h3⟩ | ⟨q, h3⟩ | ⟨q, h3⟩
    · rw [abs_low h3]; exact ⟨fun e => (by cases e), fun e => (by have e' : x + 1 = 4 := e; omega)⟩
    · rw [abs_high h3 hx, Nx.tm, if_neg (by omega), if_neg (by omega)]; exact ⟨fun _ => q, fun e => (by cases e)⟩
    · rw [abs_high h3 hx, Nx.tm, if_neg (by omega), if_pos q]; exact ⟨fun e => (by cases e), fun _ => q⟩
    · rw [abs_high h3 hx, Nx.tm, if_pos q] at hr; cases hr
  have hc := clash h.tok.good Tok.uniq ha hb hne ka.root kb.root (fun e => h1 ((kind ha ka.root).1 e)) (fun e => h2 ((kind hb kb.root).1 e)) (fun e => h4 ⟨(kind ha ka.root).2 e.1, (kind hb kb.root).2 e.2⟩)
  exact h.todo.no hp (hc.at_ h.tok.good hsa hsb ka kb)
end
end Go.Proofs.YtjbihammbmiieaaDoor
