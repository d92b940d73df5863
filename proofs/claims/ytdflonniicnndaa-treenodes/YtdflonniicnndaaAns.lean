/- What the law asks of a tree and of the document, side by side; the numbers that it collects. -/
import Derived.Test.YtdflonniicnndaaLives
import Derived.Test.YtdflonniicnndaaSmall
import Derived.Test.YtdflonniicnndaaNode
namespace Go.Proofs.Ytdflonniicnndaa
open Go.RowKit Go.Shelf Tn

/-- what lies below N, behind Of: stop's box, the result, the tree, the nodes, and their box -/
structure LMem (w0 : World) (b0 N bt : Nat) (ao : Option Addr) (cap bm : Nat) (mo : Option Addr) (mc : Nat) (ms : List Nd) (sv : Int) (W : World) : Prop where
  tree : TreeAt N W bt ao cap ms
  nodes : NodesAt N W mo ms
  mbox : W.cell? ⟨bm, 0, none⟩ = some (.slice mo ms.length mc)
  sbox : W.cell? ⟨b0, 0, none⟩ = some (.int .u8 sv)
  res : W.heap[b0 + 1]? = some (.cells #[.bool false] 4 (0, 0))
  lm : bm < N
  lb : b0 + 1 < N
  size : N ≤ W.heap.size
  below : Below b0 w0 W
theorem LMem.later {w0 : World} {b0 N bt : Nat} {ao : Option Addr} {cap bm : Nat} {mo : Option Addr} {mc : Nat} {ms : List Nd} {sv : Int} {W W' : World} (h : LMem w0 b0 N bt ao cap bm mo mc ms sv W) (hb : Below N W W') : LMem w0 b0 N bt ao cap bm mo mc ms sv W' :=
  ⟨h.tree.below hb, h.nodes.below hb, (hb.cell (p := ⟨bm, 0, none⟩) h.lm).trans h.mbox, (hb.cell (p := ⟨b0, 0, none⟩) (by have := h.lb; simp; omega)).trans h.sbox, (hb.block _ h.lb).trans h.res, h.lm, h.lb, Nat.le_trans h.size hb.size, h.below.trans (hb.mono (by have := h.lb; omega))⟩

theorem nd_mem {l : List Nd} {i : Nat} (h : i < l.length) : nd l i ∈ l := by
  simp only [nd, List.getD_eq_getElem?_getD, List.getElem?_eq_getElem h, Option.getD_some]
  exact List.getElem_mem h
theorem mem_nd {l : List Nd} {n : Nd} (h : n ∈ l) : ∃ i, i < l.length ∧ nd l i = n := by
  obtain ⟨i, hi, e⟩ := List.mem_iff_getElem.1 h
  exact ⟨i, hi, by rw [nd, List.getD_eq_getElem?_getD, List.getElem?_eq_getElem hi]; exact e⟩
theorem mem_build {L : List Nd} : ∀ ms : List Nd, (∀ n ∈ ms, n ∈ L) → ∀ l : List Nd, (∀ n ∈ l, n ∈ L) → ∀ n ∈ l.foldl Tn.add ms, n ∈ L := by
  intro ms h1 l
  induction l generalizing ms with
  | nil => intro _ n hn; exact h1 n hn
  | cons a l ih =>
    intro h2
    refine ih (Tn.add ms a) (fun n hn => ?_) (fun n hn => h2 n (List.mem_cons_of_mem _ hn))
    unfold Tn.add at hn
    split at hn
    · rcases List.mem_append.1 hn with hn | hn
      · exact h1 n hn
      · obtain rfl : n = a := by simpa using hn
        exact h2 _ (by simp)
    · exact h1 n hn
theorem few_build {L : List Nd} (h : ∀ i, i < L.length → (nd L i).kids.length ≤ 2000) : ∀ i, i < (build L).length → (nd (build L) i).kids.length ≤ 2000 := fun i hi => by
  obtain ⟨k, hk, e⟩ := mem_nd (mem_build [] (fun n hn => by cases hn) L (fun n hn => hn) _ (nd_mem hi))
  have : nd (build L) i = nd L k := e.symm
  rw [this]; exact h k hk

theorem Pl_all {ms : List Nd} (hw : WF ms) (i : Nat) : i < ms.length → ∀ k ∈ Pl ms i, k < ms.length := by
  induction i using Nat.strongRecOn with
  | _ i ih =>
    intro hi k hk
    rw [Pl_eq hw hi] at hk
    rcases List.mem_cons.1 hk with rfl | hk
    · exact hi
    · simp only [partPl, List.take_length] at hk
      obtain ⟨q, hq, hk⟩ := List.mem_flatMap.1 hk
      have := kid_lt hw hi hq
      exact ih _ this.1 (by omega) k hk

theorem Iterates.weaker {α : Type} {P : Program} {gf : Nat} {lb : Array Value} {l : Nat} {encs : α → Array Value} {G : World → List α → α → World → Prop} {N : Nat} {M : Nat → TypeId → Prop} {S Sp S' Sp' : List α → Prop} {W : World}
    (h : Iterates P gf lb l encs G N M S Sp W) (hS : ∀ xs, S xs → S' xs) (hSp : ∀ xs, Sp xs → Sp' xs) : Iterates P gf lb l encs G N M S' Sp' W := by
  intro J Jx hJ hJx hY h0
  refine (h J Jx hJ hJx hY h0).mono ?_
  rintro e W' ⟨hv, (⟨xs, h1, h2⟩ | ⟨xs, h1, h2⟩)⟩
  · exact ⟨hv, .inl ⟨xs, hS _ h1, h2⟩⟩
  · exact ⟨hv, .inr ⟨xs, hSp _ h1, h2⟩⟩

/-- what is said of an expression, by the tree and by the document -/
structure Answers (w0 : World) (b0 N bt : Nat) (ao : Option Addr) (cap bm : Nat) (mo : Option Addr) (mc : Nat) (ms : List Nd) (sv iv : Int) (inn : Bool) (full : List Nat) (dd : Int) : Prop where
  there : (decide (0 ≤ iv) && decide (iv < (ms.length : Int))) = inn
  few : full.length ≤ 2000
  all : ∀ k ∈ full, k < ms.length
  places : ∀ W, LMem w0 b0 N bt ao cap bm mo mc ms sv W → Calls Try.prog 10 #[.slice mo ms.length mc, .int .i64 iv] W (PlacesP W full)
  size : ∀ W, LMem w0 b0 N bt ao cap bm mo mc ms sv W → Calls Try.prog 12 #[.pointer (some ⟨bt, 0, none⟩), .int .i64 iv] W fun e w' => e = .returned (.int .i64 full.length) ∧ Below W.heap.size W w'
  deep : ∀ W, LMem w0 b0 N bt ao cap bm mo mc ms sv W → Calls Try.prog 13 #[.pointer (some ⟨bt, 0, none⟩), .int .i64 iv] W fun e w' => e = .returned (.int .i64 dd) ∧ Below W.heap.size W w'
  rdeep : ∀ W, LMem w0 b0 N bt ao cap bm mo mc ms sv W → Calls Try.prog 14 #[.slice mo ms.length mc, .int .i64 iv] W fun e w' => e = .returned (.int .i64 dd) ∧ W = w'
  get : ∀ W, LMem w0 b0 N bt ao cap bm mo mc ms sv W → Calls Try.prog 7 #[.pointer (some ⟨bt, 0, none⟩), .int .i64 iv] W fun e w' => (∃ n ka kc, e = .returned (.tuple #[nval n ka kc, .bool inn])) ∧ Below W.heap.size W w'
  each : ∀ (l bs be : Nat) (W : World), LMem w0 b0 N bt ao cap bm mo mc ms sv W → N ≤ bs → bs ≤ W.heap.size → W.cell? ⟨be, 0, none⟩ = some (.pointer (some ⟨bt, 0, none⟩)) → W.cell? ⟨be + 1, 0, none⟩ = some (.int .i64 iv) → W.cell? ⟨be + 2, 0, none⟩ = some (.bool inn) →
    Iterates Try.prog 21 #[.pointer (some ⟨be + 2, 0, none⟩), .pointer (some ⟨be, 0, none⟩), .pointer (some ⟨be + 1, 0, none⟩)] l enc2 (Comes ms full) bs NoNode (fun xs => xs.map (·.1) = full) (fun pre => pre.map (·.1) <+: full) W

theorem answers (w0 : World) (b0 N bt : Nat) (ao : Option Addr) (cap bm : Nat) (mo : Option Addr) (mc : Nat) (ms : List Nd) (sv iv : Int) (hw : WF ms) (hg : Tn.Good ms) (hf : ∀ i, i < ms.length → (nd ms i).kids.length ≤ 2000) : ∃ inn full dd, Answers w0 b0 N bt ao cap bm mo mc ms sv iv inn full dd := by
  by_cases h : 0 ≤ iv ∧ iv < (ms.length : Int)
  · obtain ⟨i, rfl⟩ : ∃ i : Nat, iv = (i : Int) := ⟨iv.toNat, by omega⟩
    have hi : i < ms.length := by omega
    refine ⟨true, Pl ms i, M max ms i, by simp [h.2], hg.2 i hi, fun k hk => Pl_all hw i hi k hk, fun W hW => places_any N mo mc ms hw hg hf i hi W hW.nodes hW.size, fun W hW => ?_, fun W hW => deep_any N bt ao cap ms i W hw hf hg hi hW.tree hW.size, fun W hW => rdeep_any N mo mc ms W hW.nodes hw hg hf i hi, fun W hW => ?_, fun l bs be W hW h1 h2 c0 c1 c2 => each1_yes ms i l bs bt ao cap (be + 2) be (be + 1) W hw hf hi (hW.tree.mono h1) h2 c0 c1 c2⟩
    · rw [← M_len hw i hi]; exact size_any N bt ao cap ms i W hw hf hg hi hW.tree hW.size
    · refine (get_yes N bt ao cap ms i W hW.tree hW.size hi (hf i hi)).mono ?_
      rintro e w' ⟨ka, kc, rfl, _, hb⟩
      exact ⟨⟨nd ms i, ka, kc, rfl⟩, hb⟩
  · refine ⟨false, [], 0, ?_, Nat.zero_le _, fun k hk => by simp at hk, fun W hW => places_no mo ms.length mc iv W h, fun W hW => size_no bt ao ms.length cap iv W hW.tree.cell h, fun W hW => deep_no bt ao ms.length cap iv W hW.tree.cell h, fun W hW => rdeep_no mo ms.length mc iv W h, fun W hW => ?_, fun l bs be W hW h1 h2 c0 c1 c2 => ?_⟩
    · rw [← Bool.not_eq_true]; simpa using h
    · refine (get_no bt ao ms.length cap iv W hW.tree.cell h).mono ?_
      rintro e w' ⟨rfl, hb⟩
      exact ⟨⟨default, none, 0, rfl⟩, hb⟩
    · exact (each1_no ms [] l bs (be + 2) be (be + 1) W c2).weaker (fun xs e => by rw [e]; rfl) (fun _ e => e.elim)

/-- the numbers that were seen: their box, their row -/
structure SeenAt (bs : Nat) (w7 : World) (nums : List Nat) (vo : Option Addr) (vc : Nat) (W : World) : Prop where
  box : W.heap[bs]? = some (.cells #[.slice vo nums.length vc] 31 (0, 0))
  own : W.ownsRow (bs + 1) 3 1 (.slice vo nums.length vc) nums.length (ints (nats nums))
  below : Below bs w7 W

theorem own_still {N : Nat} {A B : World} (hs : Still N A B) {base : Nat} {t : TypeId} {z : Nat} {v : Value} {n : Nat} {xs : List Value} (h : A.ownsRow base t z v n xs) : B.ownsRow base t z v n xs := by
  refine ⟨h.1, ?_⟩
  rcases h.2 with hn | ⟨g, cap, cur, rfl, hbg, hgg, rest⟩
  · exact .inl hn
  · exact .inr ⟨g, cap, cur, rfl, hbg, hs.same _ _ _ _ (fun e => e) hgg, rest⟩
theorem SeenAt.still {bs : Nat} {w7 : World} {nums : List Nat} {vo : Option Addr} {vc : Nat} {A B : World} (h : SeenAt bs w7 nums vo vc A) (hs : Still bs A B) : SeenAt bs w7 nums vo vc B :=
  ⟨hs.same _ _ _ _ (fun e => e) h.box, own_still hs h.own, h.below.trans hs.below⟩
theorem IntsAt.still {N : Nat} {A B : World} {ka : Option Addr} {ks : List Int} (h : IntsAt A.heap.size A ka ks) (hs : Still N A B) : IntsAt B.heap.size B ka ks := fun i hi => by
  obtain ⟨b, o, e, _, hc⟩ := h i hi
  have := hs.cell hc
  exact ⟨b, o, e, World.block_lt_of_cell? _ _ this, this⟩
theorem IntsAt.but {p : Nat → Prop} {A B : World} {ka : Option Addr} {ks : List Int} (h : IntsAt A.heap.size A ka ks) (hb : But p A B) (hp : ∀ a, ka = some a → ¬ p a.block) : IntsAt B.heap.size B ka ks := fun i hi => by
  obtain ⟨b, o, e, hlt, hc⟩ := h i hi
  have hh := hb.block b hlt (hp _ e)
  have hcell : B.cell? ⟨b, o + i, none⟩ = A.cell? ⟨b, o + i, none⟩ := by unfold World.cell?; rw [hh]
  exact ⟨b, o, e, Nat.lt_of_lt_of_le hlt hb.size, hcell.trans hc⟩

/-- one more number -/
theorem SeenAt.push {bs : Nat} {w7 : World} {nums : List Nat} {vo : Option Addr} {vc : Nat} {W w1 : World} (h : SeenAt bs w7 nums vo vc W) {k : Nat} {c : Array Value} {t : TypeId} {vo' : Option Addr} {vc' : Nat} (hown : w1.ownsRow (bs + 1) 3 1 (.slice vo' (nums.length + 1) vc') (nums.length + 1) (ints (nats nums) ++ [.int .i64 (k : Int)]))
    (hg : (W.alloc (.cells c t)).grownBy w1 (Value.slice vo nums.length vc).ownBlock) :
    w1.heap[bs]? = some (.cells #[.slice vo nums.length vc] 31 (0, 0)) ∧ SeenAt bs w7 (nums ++ [k]) vo' vc' (w1.setCell ⟨bs, 0, none⟩ (.slice vo' (nums.length + 1) vc')) ∧ KeepsOthers W (w1.setCell ⟨bs, 0, none⟩ (.slice vo' (nums.length + 1) vc')) ∧
      Kept bs NoNode W (w1.setCell ⟨bs, 0, none⟩ (.slice vo' (nums.length + 1) vc')) ∧ But (fun q => q = bs ∨ some q = (Value.slice vo nums.length vc).ownBlock) W (w1.setCell ⟨bs, 0, none⟩ (.slice vo' (nums.length + 1) vc')) := by
  have hbut : But (fun q => q = bs ∨ some q = (Value.slice vo nums.length vc).ownBlock) W w1 := (But.of_below ((Below.refl _ W).alloc (Nat.le_refl _) _)).trans (But.of_grown hg (fun q e => .inr e.symm))
  have hbut2 := hbut.trans (But.setCell (p := fun q => q = bs ∨ some q = (Value.slice vo nums.length vc).ownBlock) w1 (.inl rfl) 0 (.slice vo' (nums.length + 1) vc'))
  have hne : some bs ≠ (Value.slice vo nums.length vc).ownBlock := fun e => by have := (own_tag h.own e.symm).1; omega
  have hb1 : w1.heap[bs]? = some (.cells #[.slice vo nums.length vc] 31 (0, 0)) := (hg.block bs (by have := lt_of_heap h.box; simp; omega) hne).trans (blk_alloc h.box _)
  have hbel : Below bs W (w1.setCell ⟨bs, 0, none⟩ (.slice vo' (nums.length + 1) vc')) := hbut2.below (by have := lt_of_heap h.box; omega) (fun q hq => by
    rcases hq with rfl | hq
    · exact Nat.le_refl _
    · have := (own_tag h.own hq.symm).1; omega)
  refine ⟨hb1, ⟨?_, ?_, h.below.trans hbel⟩, ?_, ⟨hbel, fun q c' t' r hm hq => ?_⟩, hbut2⟩
  · rw [List.length_append]; exact (blk_set hb1 0 _).trans rfl
  · rw [List.length_append, nats_app]; exact own_setCell hown (by omega) 0 _
  · exact ((KeepsOthers.alloc W _).trans (KeepsOthers.of_grownBy hg (fun q o e hq => by
      obtain ⟨_, cur, hcur⟩ := own_tag h.own e
      rw [blk_alloc hcur _] at hq; cases hq; rfl))).trans (KeepsOthers.setCell _ _ _)
  · have ht : t' = 33 := Decidable.not_not.1 hm
    subst ht
    refine (hbut2.block q (lt_of_heap hq) ?_).trans hq
    rintro (rfl | e)
    · rw [h.box] at hq; injection hq with hq; injection hq with _ hq; cases hq
    · obtain ⟨_, cur, hcur⟩ := own_tag h.own e.symm
      rw [hcur] at hq; injection hq with hq; injection hq with _ hq; cases hq

/-- how far a walk went that stops behind so many -/
theorem seen_cut {nums full : List Nat} {sn : Nat} (h : (nums = full ∧ (sn = 0 ∨ nums.length < sn)) ∨ (nums <+: full ∧ nums.length = sn ∧ 0 < sn)) : (0 < sn ∧ sn < full.length ∧ nums = full.take sn) ∨ (¬ (0 < sn ∧ sn < full.length) ∧ nums = full) := by
  rcases h with ⟨rfl, h⟩ | ⟨h1, h2, h3⟩
  · exact .inr ⟨by omega, rfl⟩
  · by_cases hlt : sn < full.length
    · exact .inl ⟨h3, hlt, by rw [← h2]; exact List.prefix_iff_eq_take.1 h1⟩
    · exact .inr ⟨by omega, h1.eq_of_length (by have := h1.length_le; omega)⟩
end Go.Proofs.Ytdflonniicnndaa
