/- The walk of the law's Of: the program's order beside the document's. -/
import Derived.Test.YtjcdopgefcmbpaaEqv
namespace Go.Proofs.Ytjcdopgefcmbpaa
open Go.RowKit

/-- no order; or the program's and the document's, which say the same -/
def OfPost (w : World) (e : Ending) (w' : World) : Prop :=
  Below w.heap.size w w' ∧
  ((∃ (k : Int) (a : Option Addr) (l c : Nat), e = .returned (.tuple #[.pointer none, .agg #[.int .i64 k, .slice a l c], .bool true])) ∨
   ∃ (n o ba bu g cap : Nat) (f u rows : Nat → Nat) (R : Nat → Nat → Bool), 1 ≤ n ∧ e = .returned (.tuple #[.pointer (some ⟨o, 0, none⟩), .agg #[.int .i64 (n : Int), .slice (some ⟨g, 0, none⟩) n cap], .bool true]) ∧
     OrdAt w' o n ba bu f u ∧ GridAt w' g n rows R ∧ M.Same n f R ∧ M.Same n u (M.flipR R) ∧ M.Lat n f u)

theorem OrdAt.below {w w' : World} {o n ba bu : Nat} {f u : Nat → Nat} (h : OrdAt w o n ba bu f u) (hb : Below w.heap.size w w') : OrdAt w' o n ba bu f u :=
  ⟨h.n32, by rw [hb.cell (World.block_lt_of_cell? _ _ h.c0)]; exact h.c0, by rw [hb.cell (World.block_lt_of_cell? _ _ h.c1)]; exact h.c1,
    fun i hi => by rw [hb.cell (World.block_lt_of_cell? _ _ (h.ra i hi))]; exact h.ra i hi, fun i hi => by rw [hb.cell (World.block_lt_of_cell? _ _ (h.ru i hi))]; exact h.ru i hi, h.fl, h.ul⟩

set_option maxHeartbeats 2000000 in
theorem of_out (w : World) (n : Int) (ao : Option Addr) (len cap : Nat) (h : n < 1 ∨ 32 < n) : Calls Try.prog 18 #[.int .i64 n, .slice ao len cap] w (OfPost w) := by
  have hbl : Below w.heap.size w (w.alloc (.cells #[.int .i64 0, .slice none 0 0] 33)) := (Below.refl _ _).alloc (Nat.le_refl _) _
  rcases h with h | h
  · have t1 : decide (n < 1) = true := by simpa using h
    go_enter Try.func18, Try.ntmps18
    go_wp2_with fail
    refine (new_out _ n ao len cap (Or.inl h)).mono ?_
    rintro e w1 ⟨rfl, rfl⟩
    go_wp2
    exact bodyPost_ret (v := .tuple #[.pointer none, .agg #[.int .i64 0, .slice none 0 0], .bool true]) (by simp [results, Try.results18, go_sem]) rfl ⟨hbl, Or.inl ⟨0, none, 0, 0, rfl⟩⟩
  · have t1 : decide (n < 1) = false := by simp; omega
    have t2 : decide (32 < n) = true := by simpa using h
    go_enter Try.func18, Try.ntmps18
    go_wp2_with fail
    refine (new_out _ n ao len cap (Or.inr h)).mono ?_
    rintro e w1 ⟨rfl, rfl⟩
    go_wp2
    exact bodyPost_ret (v := .tuple #[.pointer none, .agg #[.int .i64 0, .slice none 0 0], .bool true]) (by simp [results, Try.results18, go_sem]) rfl ⟨hbl, Or.inl ⟨0, none, 0, 0, rfl⟩⟩

theorem OrdAt.far {w w' : World} {o n ba bu b : Nat} {f u : Nat → Nat} (h : OrdAt w o n ba bu f u) (hn : 1 ≤ n) (d0 : w.cell? ⟨b, 0, none⟩ = some (.int .i64 0)) (hw : Only b w w') : OrdAt w' o n ba bu f u := by
  have n1 : o ≠ b := by rintro rfl; have := h.c0; rw [d0] at this; simp at this
  have n2 : ba ≠ b := by rintro rfl; have := h.ra 0 (by omega); rw [d0] at this; simp at this
  have n3 : bu ≠ b := by rintro rfl; have := h.ru 0 (by omega); rw [d0] at this; simp at this
  exact ⟨h.n32, by rw [hw.cell n1]; exact h.c0, by rw [hw.cell n1]; exact h.c1, hw.row n2 h.ra, hw.row n3 h.ru, h.fl, h.ul⟩
theorem GridAt.far {w w' : World} {g n b : Nat} {rows : Nat → Nat} {R : Nat → Nat → Bool} (h : GridAt w g n rows R) (hn : 1 ≤ n) (d0 : w.cell? ⟨b, 0, none⟩ = some (.int .i64 0)) (hw : Only b w w') : GridAt w' g n rows R := by
  have n1 : g ≠ b := by rintro rfl; have := h.head 0 (by omega); rw [d0] at this; simp at this
  have n2 : ∀ i, i < n → rows i ≠ b := by rintro i hi rfl; have := h.row i 0 hi (by omega); rw [d0] at this; simp at this
  exact ⟨h.n32, fun i hi => by rw [hw.cell n1]; exact h.head i hi, fun i j hi hj => by rw [hw.cell (n2 i hi)]; exact h.row i j hi hj⟩

theorem set_alloc (w : World) (b : Nat) (x y u v : Value) (O : Obj) (hb : b < w.heap.size) (h0 : w.cell? ⟨b, 0, none⟩ = some u) (h1 : w.cell? ⟨b, 1, none⟩ = some v) :
    (((w.setCell ⟨b, 0, none⟩ x).setCell ⟨b, 1, none⟩ y).alloc O).drew.cell? ⟨b, 0, none⟩ = some x ∧ (((w.setCell ⟨b, 0, none⟩ x).setCell ⟨b, 1, none⟩ y).alloc O).drew.cell? ⟨b, 1, none⟩ = some y := by
  have h := set_two w b x y u v h0 h1
  exact ⟨(World.cell?_alloc_lt _ O ⟨b, 0, none⟩ (by simpa using hb)).trans h.1, (World.cell?_alloc_lt _ O ⟨b, 1, none⟩ (by simpa using hb)).trans h.2⟩

set_option maxHeartbeats 2000000 in
theorem of_in (w : World) (n : Nat) (ao : Option Addr) (len cap : Nat) (p q : Nat → Int) (h1 : 1 ≤ n) (h32 : n ≤ 32) (hlen : len ≤ 140737488351232) (hps : PairsAt w ao len p q) :
    Calls Try.prog 18 #[.int .i64 (n : Int), .slice ao len cap] w (OfPost w) := by
  have hbl : Below w.heap.size w (w.alloc (.cells #[.int .i64 0, .slice none 0 0] 33)) := (Below.refl _ _).alloc (Nat.le_refl _) _
  have c0 : (w.alloc (.cells #[.int .i64 0, .slice none 0 0] 33)).cell? ⟨w.heap.size, 0, none⟩ = some (.int .i64 0) := by rw [World.cell?_alloc_new]; rfl
  have c1 : (w.alloc (.cells #[.int .i64 0, .slice none 0 0] 33)).cell? ⟨w.heap.size, 1, none⟩ = some (.slice none 0 0) := by rw [World.cell?_alloc_new]; rfl
  have c2 : ∀ i, (w.alloc (.cells #[.int .i64 0, .slice none 0 0] 33)).frozen? ⟨w.heap.size, i, none⟩ = false := fun i => World.frozen?_alloc_new _ _ _ _
  have hsz : w.heap.size < (w.alloc (.cells #[.int .i64 0, .slice none 0 0] 33)).heap.size := by simp
  have hps1 := hps.below hbl
  have t1 : decide ((n : Int) < 1) = false := by simp; omega
  have t2 : decide ((32 : Int) < (n : Int)) = false := by simp; omega
  have HC0 := Lib.hid c0; clear c0
  have HC1 := Lib.hid c1; clear c1
  have HC2 := Lib.hid c2; clear c2
  go_enter Try.func18, Try.ntmps18
  go_wp2_with fail
  generalize w.alloc (.cells #[.int .i64 0, .slice none 0 0] 33) = w1 at *
  refine (new_any _ n ao len cap p q h1 h32 hlen hps1).mono ?_
  rintro e w2 ⟨hb2, hres⟩
  have hbw2 : Below w.heap.size w w2 := hbl.trans (hb2.mono (by omega))
  have hps2 := hps.below hbw2
  rcases hres with ⟨rfl, hbad⟩ | ⟨hin, f, u, hbu, hlat⟩
  · go_wp2_with fail
    refine (rnew_any _ n ao len cap p q h1 h32 hlen hps2).mono ?_
    rintro e w3 ⟨hb3, hres3⟩
    rcases hres3 with ⟨rfl, _⟩ | ⟨hin3, _⟩
    · have hb13 : Below w1.heap.size w1 w3 := hb2.trans (hb3.mono hb2.size)
      have d0 : w3.cell? ⟨w.heap.size, 0, none⟩ = some (.int .i64 0) := by rw [hb13.cell hsz]; exact HC0.out
      have d1 : w3.cell? ⟨w.heap.size, 1, none⟩ = some (.slice none 0 0) := by rw [hb13.cell hsz]; exact HC1.out
      have d2 : w3.frozen? ⟨w.heap.size, 0, none⟩ = false := by rw [hb13.frozen hsz]; exact HC2.out 0
      have d3 : w3.frozen? ⟨w.heap.size, 1, none⟩ = false := by rw [hb13.frozen hsz]; exact HC2.out 1
      have hs3 : w.heap.size < w3.heap.size := by have := hb13.size; omega
      go_upto_region 6 with fail
      go_region
      go_wp2
      have z := set_alloc w3 w.heap.size (.int .i64 0) (.slice none 0 0) _ _ (.cells #[.int .i64 0, .slice none 0 0] 33) hs3 d0 d1
      have hbz : Below w.heap.size w (((w3.setCell ⟨w.heap.size, 0, none⟩ (.int .i64 0)).setCell ⟨w.heap.size, 1, none⟩ (.slice none 0 0)).alloc (.cells #[.int .i64 0, .slice none 0 0] 33)).drew :=
        ((((hbl.trans (hb13.mono (by omega))).setCell (by simp) _).setCell (by simp) _).alloc (by simp; omega) _).drew
      clear d0 d1 d2 d3
      generalize (((w3.setCell ⟨w.heap.size, 0, none⟩ (.int .i64 0)).setCell ⟨w.heap.size, 1, none⟩ (.slice none 0 0)).alloc (.cells #[.int .i64 0, .slice none 0 0] 33)).drew = wz at *
      exact bodyPost_ret (v := .tuple #[.pointer none, .agg #[.int .i64 0, .slice none 0 0], .bool true]) (by simp [results, Try.results18, go_sem, z.1, z.2]) rfl ⟨hbz, Or.inl ⟨0, none, 0, 0, rfl⟩⟩
    · obtain ⟨i, hi, hn⟩ := hbad
      exact absurd (hin3 i hi) hn
  · have hs12 : w1.heap.size ≤ w2.heap.size := hb2.size
    rcases hlat with ⟨rfl, hno⟩ | ⟨hok, o, ba, bu, rfl, _, _, ho⟩
    · go_wp2_with fail
      refine (rnew_any _ n ao len cap p q h1 h32 hlen hps2).mono ?_
      rintro e w3 ⟨hb3, hres3⟩
      rcases hres3 with ⟨_, i, hi, hn⟩ | ⟨_, g, cap3, rows, R, rfl, hgr, hmid, htr⟩
      · exact absurd (hin i hi) hn
      · obtain ⟨s1, s2⟩ := same_of hbu hmid htr
        have hnl : ¬ M.LatR n R := fun h => hno ((s1.lat s2).1 h)
        clear hmid htr hbu hno
        have hb13 : Below w1.heap.size w1 w3 := hb2.trans (hb3.mono hb2.size)
        have hgr4 := hgr.below ((Below.refl _ w3).alloc (Nat.le_refl _) (.cells #[.int .i64 (n : Int), .slice (some ⟨g, 0, none⟩) n cap3] 33))
        go_wp2_with fail
        refine (rlattice_any _ g n cap3 rows R hgr4).mono ?_
        rintro e w4 ⟨hres4, hb4⟩
        have m0 : w4.cell? ⟨w3.heap.size, 0, none⟩ = some (.int .i64 (n : Int)) := by rw [hb4.cell (by simp), World.cell?_alloc_new]; rfl
        have m1 : w4.cell? ⟨w3.heap.size, 1, none⟩ = some (.slice (some ⟨g, 0, none⟩) n cap3) := by rw [hb4.cell (by simp), World.cell?_alloc_new]; rfl
        have hb34 : Below w3.heap.size w3 w4 := ((Below.refl _ w3).alloc (Nat.le_refl _) _).trans (hb4.mono (by simp))
        have hb14 : Below w1.heap.size w1 w4 := hb13.trans (hb34.mono hb13.size)
        have d0 : w4.cell? ⟨w.heap.size, 0, none⟩ = some (.int .i64 0) := by rw [hb14.cell hsz]; exact HC0.out
        have d1 : w4.cell? ⟨w.heap.size, 1, none⟩ = some (.slice none 0 0) := by rw [hb14.cell hsz]; exact HC1.out
        have d2 : w4.frozen? ⟨w.heap.size, 0, none⟩ = false := by rw [hb14.frozen hsz]; exact HC2.out 0
        have d3 : w4.frozen? ⟨w.heap.size, 1, none⟩ = false := by rw [hb14.frozen hsz]; exact HC2.out 1
        have hne : w.heap.size ≠ w3.heap.size := by have := hb13.size; omega
        clear hgr4
        rcases hres4 with ⟨_, hl⟩ | ⟨rfl, _⟩
        · exact absurd hl hnl
        · go_upto_region 8 with fail
          go_region
          go_wp2
          have z := set_two w4 w.heap.size (.int .i64 (n : Int)) (.slice (some ⟨g, 0, none⟩) n cap3) _ _ d0 d1
          have hbz : Below w.heap.size w ((w4.setCell ⟨w.heap.size, 0, none⟩ (.int .i64 (n : Int))).setCell ⟨w.heap.size, 1, none⟩ (.slice (some ⟨g, 0, none⟩) n cap3)).drew :=
            (((hbl.trans (hb14.mono (by omega))).setCell (by simp) _).setCell (by simp) _).drew
          clear d0 d1 d2 d3 m0 m1
          exact bodyPost_ret (v := .tuple #[.pointer none, .agg #[.int .i64 (n : Int), .slice (some ⟨g, 0, none⟩) n cap3], .bool true]) (by simp [results, Try.results18, go_sem, z.1, z.2]) rfl ⟨hbz, Or.inl ⟨_, _, _, _, rfl⟩⟩
    · go_wp2_with fail
      refine (rnew_any _ n ao len cap p q h1 h32 hlen hps2).mono ?_
      rintro e w3 ⟨hb3, hres3⟩
      rcases hres3 with ⟨_, i, hi, hn⟩ | ⟨_, g, cap3, rows, R, rfl, hgr, hmid, htr⟩
      · exact absurd (hin i hi) hn
      · obtain ⟨s1, s2⟩ := same_of hbu hmid htr
        have hl : M.LatR n R := (s1.lat s2).2 hok
        have hlat := lat_of h1 hbu hok
        clear hmid htr hbu hok
        have hb13 : Below w1.heap.size w1 w3 := hb2.trans (hb3.mono hb2.size)
        have hgr4 := hgr.below ((Below.refl _ w3).alloc (Nat.le_refl _) (.cells #[.int .i64 (n : Int), .slice (some ⟨g, 0, none⟩) n cap3] 33))
        go_wp2_with fail
        refine (rlattice_any _ g n cap3 rows R hgr4).mono ?_
        rintro e w4 ⟨hres4, hb4⟩
        have m0 : w4.cell? ⟨w3.heap.size, 0, none⟩ = some (.int .i64 (n : Int)) := by rw [hb4.cell (by simp), World.cell?_alloc_new]; rfl
        have m1 : w4.cell? ⟨w3.heap.size, 1, none⟩ = some (.slice (some ⟨g, 0, none⟩) n cap3) := by rw [hb4.cell (by simp), World.cell?_alloc_new]; rfl
        have hb34 : Below w3.heap.size w3 w4 := ((Below.refl _ w3).alloc (Nat.le_refl _) _).trans (hb4.mono (by simp))
        have hb14 : Below w1.heap.size w1 w4 := hb13.trans (hb34.mono hb13.size)
        have d0 : w4.cell? ⟨w.heap.size, 0, none⟩ = some (.int .i64 0) := by rw [hb14.cell hsz]; exact HC0.out
        have d1 : w4.cell? ⟨w.heap.size, 1, none⟩ = some (.slice none 0 0) := by rw [hb14.cell hsz]; exact HC1.out
        have d2 : w4.frozen? ⟨w.heap.size, 0, none⟩ = false := by rw [hb14.frozen hsz]; exact HC2.out 0
        have d3 : w4.frozen? ⟨w.heap.size, 1, none⟩ = false := by rw [hb14.frozen hsz]; exact HC2.out 1
        have hne : w.heap.size ≠ w3.heap.size := by have := hb13.size; omega
        clear hgr4
        rcases hres4 with ⟨rfl, _⟩ | ⟨_, hn⟩
        · go_upto_region 9 with fail
          go_region
          go_wp2
          have z := set_two w4 w.heap.size (.int .i64 (n : Int)) (.slice (some ⟨g, 0, none⟩) n cap3) _ _ d0 d1
          have hbz : Below w.heap.size w ((w4.setCell ⟨w.heap.size, 0, none⟩ (.int .i64 (n : Int))).setCell ⟨w.heap.size, 1, none⟩ (.slice (some ⟨g, 0, none⟩) n cap3)).drew :=
            (((hbl.trans (hb14.mono (by omega))).setCell (by simp) _).setCell (by simp) _).drew
          have hon : Only w.heap.size w4 ((w4.setCell ⟨w.heap.size, 0, none⟩ (.int .i64 (n : Int))).setCell ⟨w.heap.size, 1, none⟩ (.slice (some ⟨g, 0, none⟩) n cap3)).drew := (((Only.refl _ w4).setCell 0 _).setCell 1 _).drew
          have ho4 : OrdAt w4 o n ba bu f u := ho.below (hb3.trans (hb34.mono hb3.size))
          have hoz := ho4.far h1 d0 hon
          have hgz := (hgr.below hb34).far h1 d0 hon
          clear d0 d1 d2 d3 m0 m1
          exact bodyPost_ret (v := .tuple #[.pointer (some ⟨o, 0, none⟩), .agg #[.int .i64 (n : Int), .slice (some ⟨g, 0, none⟩) n cap3], .bool true]) (by simp [results, Try.results18, go_sem, z.1, z.2]) rfl ⟨hbz, Or.inr ⟨n, o, ba, bu, g, cap3, f, u, rows, R, h1, rfl, hoz, hgz, s1, s2, hlat⟩⟩
        · exact absurd hl hn
end Go.Proofs.Ytjcdopgefcmbpaa
