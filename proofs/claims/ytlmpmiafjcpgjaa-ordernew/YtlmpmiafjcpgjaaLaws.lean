/- The walk of the law OrderLaws. -/
import Derived.Test.YtlmpmiafjcpgjaaLives
namespace Go.Proofs.Ytlmpmiafjcpgjaa
open Go.RowKit

theorem lat_of {N len : Nat} {p q : Nat → Int} {f u : Nat → Nat} (h1 : 1 ≤ N) (hb : Built N p q len f u) (hok : M.LatOK N f u) : M.Lat N f u := by
  obtain ⟨f0, hp, hc, hr⟩ := hb
  have ex : ∀ (g : Nat → Nat) (x : Nat), M.findN g x N ≠ -1 → ∃ p, p < N ∧ g p = x := by
    intro g x h
    rcases M.findN_cases g x N with ⟨p, hp, he, _⟩ | ⟨_, h'⟩
    · exact ⟨p, hp, he⟩
    · exact absurd h' h
  refine ⟨by omega, hc.lim, hr.lim, fun i hi => hc.has i i hi hi ((hp.bits i i hi hi).2 (Or.inl rfl)), hc.closure.2.1, fun a b ha hb => hr.done a b ha hb, ?_, ?_, ?_⟩
  · intro a b ha hb he
    rcases Nat.lt_trichotomy a b with h | h | h
    · exact absurd he (hok b hb a h).1
    · exact h
    · exact absurd he.symm (hok a ha b h).1
  · intro a b ha hb
    rcases Nat.lt_trichotomy a b with h | h | h
    · exact ex f _ (hok b hb a h).2.1
    · subst h; exact ⟨a, ha, by rw [Nat.and_self]⟩
    · rw [Nat.and_comm]; exact ex f _ (hok a ha b h).2.1
  · intro a b ha hb
    rcases Nat.lt_trichotomy a b with h | h | h
    · exact ex u _ (hok b hb a h).2.2
    · subst h; exact ⟨a, ha, by rw [Nat.and_self]⟩
    · rw [Nat.and_comm]; exact ex u _ (hok a ha b h).2.2

/-- a point with such a mask is handed back; nothing turns but draws -/
def PointOf (g : Nat → Nat) (n x : Nat) (w : World) (e : Ending) (w' : World) : Prop := ∃ p : Nat, p < n ∧ g p = x ∧ e = .returned (.int .i64 (p : Int)) ∧ ∃ k, w' = w.drewN k

theorem findN_point {g : Nat → Nat} {n x : Nat} (h : ∃ p, p < n ∧ g p = x) : ∃ p : Nat, p < n ∧ g p = x ∧ M.findN g x n = p := by
  rcases M.findN_cases g x n with ⟨p, hp, he, hf, _⟩ | ⟨h', _⟩
  · exact ⟨p, hp, he, hf⟩
  · obtain ⟨p, hp, he⟩ := h; exact absurd he (h' p hp)

theorem join_lat (w : World) (o n ba bu : Nat) (f u : Nat → Nat) (a b : Nat) (h : OrdAt w o n ba bu f u) (L : M.Lat n f u) (ha : a < n) (hb : b < n) :
    Calls Try.prog 9 #[.pointer (some ⟨o, 0, none⟩), .int .i64 (a : Int), .int .i64 (b : Int)] w (PointOf f n (f a &&& f b) w) := by
  refine (join_in w o n ba bu f u a b h (by omega) (by omega) (by omega) (by omega)).mono ?_
  rintro e w' ⟨rfl, hk⟩
  obtain ⟨p, hp, he, hf⟩ := findN_point (L.join a b ha hb)
  exact ⟨p, hp, he, by simp only [Int.toNat_natCast]; rw [hf], hk⟩

theorem meet_lat (w : World) (o n ba bu : Nat) (f u : Nat → Nat) (a b : Nat) (h : OrdAt w o n ba bu f u) (L : M.Lat n f u) (ha : a < n) (hb : b < n) :
    Calls Try.prog 10 #[.pointer (some ⟨o, 0, none⟩), .int .i64 (a : Int), .int .i64 (b : Int)] w (PointOf u n (u a &&& u b) w) := by
  refine (meet_in w o n ba bu f u a b h (by omega) (by omega) (by omega) (by omega)).mono ?_
  rintro e w' ⟨rfl, hk⟩
  obtain ⟨p, hp, he, hf⟩ := findN_point (L.meet a b ha hb)
  exact ⟨p, hp, he, by simp only [Int.toNat_natCast]; rw [hf], hk⟩

theorem bottom_lat (w : World) (o n ba bu : Nat) (f u : Nat → Nat) (h : OrdAt w o n ba bu f u) (L : M.Lat n f u) :
    Calls Try.prog 13 #[.pointer (some ⟨o, 0, none⟩)] w (PointOf f n (M.full n) w) := by
  refine (bottom_any w o n ba bu f u h).mono ?_
  rintro e w' ⟨rfl, hk⟩
  obtain ⟨p, hp, he, hf⟩ := findN_point L.bottom_ex
  exact ⟨p, hp, he, by rw [hf], hk⟩

theorem top_lat (w : World) (o n ba bu : Nat) (f u : Nat → Nat) (h : OrdAt w o n ba bu f u) (L : M.Lat n f u) :
    Calls Try.prog 15 #[.pointer (some ⟨o, 0, none⟩)] w (PointOf u n (M.full n) w) := by
  refine (top_any w o n ba bu f u h).mono ?_
  rintro e w' ⟨rfl, hk⟩
  obtain ⟨p, hp, he, hf⟩ := findN_point L.top_ex
  exact ⟨p, hp, he, by rw [hf], hk⟩

theorem below_lat (w : World) (o n ba bu : Nat) (f u : Nat → Nat) (a b : Nat) (h : OrdAt w o n ba bu f u) (ha : a < n) (hb : b < n) :
    Calls Try.prog 8 #[.pointer (some ⟨o, 0, none⟩), .int .i64 (a : Int), .int .i64 (b : Int)] w fun e w' => e = .returned (.bool ((f a).testBit b)) ∧ w = w' := by
  refine (below_in w o n ba bu f u a b h (by omega) (by omega) (by omega) (by omega)).mono ?_
  rintro e w' ⟨rfl, rfl⟩
  exact ⟨by simp only [Int.toNat_natCast], rfl⟩

theorem PairsAt.below {w w' : World} {ao : Option Addr} {len : Nat} {p q : Nat → Int} (h : PairsAt w ao len p q) (hb : Below w.heap.size w w') : PairsAt w' ao len p q := by
  intro i hi
  obtain ⟨b, off, e, hlt, h1, h2⟩ := h i hi
  exact ⟨b, off, e, by have := hb.size; omega, by rw [hb.cell hlt]; exact h1, by rw [hb.cell hlt]; exact h2⟩

set_option maxHeartbeats 2000000 in
set_option maxRecDepth 100000 in
theorem laws_any (w : World) (n : Int) (hn1 : -128 ≤ n) (hn2 : n ≤ 127) (ao : Option Addr) (len cap : Nat) (p q : Nat → Int) (hps : PairsAt w ao len p q) (p0 p1 p2 : Nat) (hp0 : p0 < 256) (hp1 : p1 < 256) (hp2 : p2 < 256) :
    Calls Try.prog 4 #[.int .i8 n, .slice ao len cap, .agg #[.int .u8 (p0 : Int), .int .u8 (p1 : Int), .int .u8 (p2 : Int)]] w fun e w' => e = .returned (.bool true) ∧ Below w.heap.size w w' := by
  have HPS := Lib.hid hps; clear hps
  go_enter Try.func4, Try.ntmps4
  go_wp2_with fail
  refine (lives_any _).mono ?_
  rintro e w1 ⟨rfl, hb1⟩
  have c0 : w1.cell? ⟨w.heap.size, 0, none⟩ = some (.int .u8 (p0 : Int)) := by rw [hb1.cell (by simp)]; rw [World.cell?_alloc_new]; rfl
  have c1 : w1.cell? ⟨w.heap.size, 1, none⟩ = some (.int .u8 (p1 : Int)) := by rw [hb1.cell (by simp)]; rw [World.cell?_alloc_new]; rfl
  have c2 : w1.cell? ⟨w.heap.size, 2, none⟩ = some (.int .u8 (p2 : Int)) := by rw [hb1.cell (by simp)]; rw [World.cell?_alloc_new]; rfl
  have hbw : Below w.heap.size w w1 := ((Below.refl _ w).alloc (Nat.le_refl _) _).trans (hb1.mono (by simp))
  have hsz : w.heap.size < w1.heap.size := by have := hb1.size; simp at this; omega
  clear hb1
  by_cases h200 : len ≤ 200
  · have t1 : decide ((200 : Int) < (len : Int)) = false := by simp; omega
    by_cases hN : n < 1 ∨ 32 < n
    · go_wp2_with fail
      refine (new_out _ _ _ _ _ hN).mono ?_
      rintro e w2 ⟨rfl, rfl⟩
      go_wp2
      go_ret
      exact ⟨rfl, hbw⟩
    · obtain ⟨N, rfl⟩ := Int.eq_ofNat_of_zero_le (show 0 ≤ n by omega)
      have h1N : 1 ≤ N := by omega
      have h32 : N ≤ 32 := by omega
      clear hN hn1 hn2
      go_wp2_with fail
      refine (new_any _ N _ _ _ p q h1N h32 (by omega) (HPS.out.below hbw)).mono ?_
      rintro e w2 ⟨hb2, hres⟩
      have hbw2 : Below w.heap.size w w2 := hbw.trans (hb2.mono (by omega))
      rcases hres with ⟨rfl, _⟩ | ⟨_, f, u, hbuilt, ⟨rfl, _⟩ | ⟨hok, o, ba, bu, rfl, hlo, hhi, ho⟩⟩
      · go_wp2
        go_ret
        exact ⟨rfl, hbw2⟩
      · go_wp2
        go_ret
        exact ⟨rfl, hbw2⟩
      · have L := lat_of h1N hbuilt hok
        clear hbuilt hok hlo hhi
        have c0' : w2.cell? ⟨w.heap.size, 0, none⟩ = some (.int .u8 (p0 : Int)) := by rw [hb2.cell hsz]; exact c0
        have c1' : w2.cell? ⟨w.heap.size, 1, none⟩ = some (.int .u8 (p1 : Int)) := by rw [hb2.cell hsz]; exact c1
        have c2' : w2.cell? ⟨w.heap.size, 2, none⟩ = some (.int .u8 (p2 : Int)) := by rw [hb2.cell hsz]; exact c2
        clear c0 c1 c2 hbw hb2
        have oc0 := ho.c0
        go_upto_region 6 with fail
        go_cut [9, 10, 11] (fun a b c wx => ∃ x y z : Nat, x < N ∧ y < N ∧ z < N ∧ a = .int .i64 (x : Int) ∧ b = .int .i64 (y : Int) ∧ c = .int .i64 (z : Int) ∧ Hid (∃ k, wx = w2.drewN k))
        case first =>
          go_quiet ((go_at_call 7; exact Calls.quiet_of_same ((len_any _ o N ba (ho.drewN _).c0).mono fun e w' ⟨he, hw⟩ => ⟨he, hw.symm⟩)))
          go_wp2_with fail
          go_meet
          exact ⟨p0 % N, p1 % N, p2 % N, Nat.mod_lt _ (by omega), Nat.mod_lt _ (by omega), Nat.mod_lt _ (by omega), by simp, by simp, by simp, nq, rfl⟩
        case rest =>
          obtain ⟨x, y, z, hx, hy, hz, rfl, rfl, rfl, HW⟩ := hcut
          have ho' : OrdAt wc o N ba bu f u := by obtain ⟨k, hk⟩ := HW; rw [hk]; exact ho.drewN k
          clear ho oc0 c0' c1' c2'
          go_wp2_with fail
          refine (join_lat _ o N ba bu f u x y ho' L hx hy).mono ?_
          rintro e w' ⟨j1, hj1, ej1, rfl, k1, rfl⟩
          have Ej1 := Lib.hid ej1; clear ej1
          go_wp2_with fail
          refine (join_lat _ o N ba bu f u j1 z (ho'.drewN _) L hj1 hz).mono ?_
          rintro e w' ⟨j2, hj2, ej2, rfl, k2, rfl⟩
          have Ej2 := Lib.hid ej2; clear ej2
          go_wp2_with fail
          refine (join_lat _ o N ba bu f u y z (ho'.drewN _) L hy hz).mono ?_
          rintro e w' ⟨j3, hj3, ej3, rfl, k3, rfl⟩
          have Ej3 := Lib.hid ej3; clear ej3
          go_wp2_with fail
          refine (join_lat _ o N ba bu f u x j3 (ho'.drewN _) L hx hj3).mono ?_
          rintro e w' ⟨j4, hj4, ej4, rfl, k4, rfl⟩
          obtain rfl : j2 = j4 := L.inj _ _ hj2 hj4 (by rw [Ej2.out, Ej1.out, ej4, Ej3.out, Nat.and_assoc])
          have Ej4 := Lib.hid ej4; clear ej4
          go_wp2_with fail
          refine (meet_lat _ o N ba bu f u x y (ho'.drewN _) L hx hy).mono ?_
          rintro e w' ⟨m1, hm1, em1, rfl, k5, rfl⟩
          have Em1 := Lib.hid em1; clear em1
          go_wp2_with fail
          refine (meet_lat _ o N ba bu f u m1 z (ho'.drewN _) L hm1 hz).mono ?_
          rintro e w' ⟨m2, hm2, em2, rfl, k6, rfl⟩
          have Em2 := Lib.hid em2; clear em2
          go_wp2_with fail
          refine (meet_lat _ o N ba bu f u y z (ho'.drewN _) L hy hz).mono ?_
          rintro e w' ⟨m3, hm3, em3, rfl, k7, rfl⟩
          have Em3 := Lib.hid em3; clear em3
          go_wp2_with fail
          refine (meet_lat _ o N ba bu f u x m3 (ho'.drewN _) L hx hm3).mono ?_
          rintro e w' ⟨m4, hm4, em4, rfl, k8, rfl⟩
          obtain rfl : m2 = m4 := L.uinj _ _ hm2 hm4 (by rw [Em2.out, Em1.out, em4, Em3.out, Nat.and_assoc])
          have Em4 := Lib.hid em4; clear em4
          go_wp2_with fail
          refine (join_lat _ o N ba bu f u x x (ho'.drewN _) L hx hx).mono ?_
          rintro e w' ⟨j5, hj5, ej5, rfl, k9, rfl⟩
          obtain rfl : x = j5 := L.inj _ _ hx hj5 (by rw [ej5, Nat.and_self])
          clear ej5
          go_wp2_with fail
          refine (meet_lat _ o N ba bu f u x x (ho'.drewN _) L hx hx).mono ?_
          rintro e w' ⟨m5, hm5, em5, rfl, k10, rfl⟩
          obtain rfl : x = m5 := L.uinj _ _ hx hm5 (by rw [em5, Nat.and_self])
          clear em5
          go_wp2_with fail
          refine (join_lat _ o N ba bu f u x y (ho'.drewN _) L hx hy).mono ?_
          rintro e w' ⟨j6, hj6, ej6, rfl, k11, rfl⟩
          have Ej6 := Lib.hid ej6; clear ej6
          go_wp2_with fail
          refine (join_lat _ o N ba bu f u y x (ho'.drewN _) L hy hx).mono ?_
          rintro e w' ⟨j7, hj7, ej7, rfl, k12, rfl⟩
          obtain rfl : j6 = j7 := L.inj _ _ hj6 hj7 (by rw [Ej6.out, ej7, Nat.and_comm])
          have Ej7 := Lib.hid ej7; clear ej7
          go_wp2_with fail
          refine (meet_lat _ o N ba bu f u x y (ho'.drewN _) L hx hy).mono ?_
          rintro e w' ⟨m6, hm6, em6, rfl, k13, rfl⟩
          have Em6 := Lib.hid em6; clear em6
          go_wp2_with fail
          refine (meet_lat _ o N ba bu f u y x (ho'.drewN _) L hy hx).mono ?_
          rintro e w' ⟨m7, hm7, em7, rfl, k14, rfl⟩
          obtain rfl : m6 = m7 := L.uinj _ _ hm6 hm7 (by rw [Em6.out, em7, Nat.and_comm])
          have Em7 := Lib.hid em7; clear em7
          go_wp2_with fail
          refine (meet_lat _ o N ba bu f u x y (ho'.drewN _) L hx hy).mono ?_
          rintro e w' ⟨m8, hm8, em8, rfl, k15, rfl⟩
          have Em8 := Lib.hid em8; clear em8
          go_wp2_with fail
          refine (join_lat _ o N ba bu f u x m8 (ho'.drewN _) L hx hm8).mono ?_
          rintro e w' ⟨j8, hj8, ej8, rfl, k16, rfl⟩
          obtain rfl : x = j8 := L.inj _ _ hx hj8 (by rw [ej8, L.absorb_j hx hm8 Em8.out])
          clear ej8
          go_wp2_with fail
          refine (join_lat _ o N ba bu f u x y (ho'.drewN _) L hx hy).mono ?_
          rintro e w' ⟨j9, hj9, ej9, rfl, k17, rfl⟩
          have Ej9 := Lib.hid ej9; clear ej9
          go_wp2_with fail
          refine (meet_lat _ o N ba bu f u x j9 (ho'.drewN _) L hx hj9).mono ?_
          rintro e w' ⟨m9, hm9, em9, rfl, k18, rfl⟩
          obtain rfl : x = m9 := L.uinj _ _ hx hm9 (by rw [em9, L.absorb_m hx hj9 Ej9.out])
          clear em9
          go_wp2_with fail
          refine (below_lat _ o N ba bu f u x y (ho'.drewN _) hx hy).mono ?_
          rintro e w' ⟨rfl, rfl⟩
          cases hB : (f x).testBit y with
          | true =>
            have HB := Lib.hid hB; clear hB
            go_wp2_with fail
            refine (join_lat _ o N ba bu f u x y (ho'.drewN _) L hx hy).mono ?_
            rintro e w' ⟨j10, hj10, ej10, rfl, k19, rfl⟩
            obtain rfl : y = j10 := L.inj _ _ hy hj10 (by rw [ej10, L.sub hx hy HB.out])
            clear ej10
            go_wp2_with fail
            refine (below_lat _ o N ba bu f u x y (ho'.drewN _) hx hy).mono ?_
            rintro e w' ⟨rfl, rfl⟩
            rw [HB.out]
            go_wp2_with fail
            refine (meet_lat _ o N ba bu f u x y (ho'.drewN _) L hx hy).mono ?_
            rintro e w' ⟨m10, hm10, em10, rfl, k20, rfl⟩
            obtain rfl : x = m10 := L.uinj _ _ hx hm10 (by rw [em10, L.usub hx hy HB.out])
            clear em10
            go_wp2_with fail
            refine (bottom_lat _ o N ba bu f u (ho'.drewN _) L).mono ?_
            rintro e w' ⟨bo, hbo, ebo, rfl, kb, rfl⟩
            have tb : (f bo).testBit x = true := by rw [ebo, M.full, Nat.testBit_two_pow_sub_one]; simp [hx]
            clear ebo
            go_wp2_with fail
            refine (below_lat _ o N ba bu f u bo x (ho'.drewN _) hbo hx).mono ?_
            rintro e w' ⟨rfl, rfl⟩
            rw [tb]
            clear tb
            go_wp2_with fail
            refine (top_lat _ o N ba bu f u (ho'.drewN _) L).mono ?_
            rintro e w' ⟨tp, htp, etp, rfl, kt, rfl⟩
            have tt : (f x).testBit tp = true := by rw [← L.rev x tp hx htp, etp, M.full, Nat.testBit_two_pow_sub_one]; simp [hx]
            clear etp
            go_wp2_with fail
            refine (below_lat _ o N ba bu f u x tp (ho'.drewN _) hx htp).mono ?_
            rintro e w' ⟨rfl, rfl⟩
            rw [tt]
            clear tt
            go_wp2
            go_ret
            obtain ⟨k0, hk0⟩ := HW
            exact ⟨rfl, by rw [hk0]; exact below_drewN (below_drewN hbw2 _) _⟩
          | false =>
            have HB := Lib.hid hB; clear hB
            go_wp2_with fail
            refine (join_lat _ o N ba bu f u x y (ho'.drewN _) L hx hy).mono ?_
            rintro e w' ⟨j10, hj10, ej10, rfl, k19, rfl⟩
            have q1 : ((j10 : Int) == (y : Int)) = false := by
              rw [beq_eq_false_iff_ne]; intro h
              obtain rfl : j10 = y := by omega
              have := L.of_sub hx hy ej10.symm
              rw [HB.out] at this; cases this
            clear ej10
            go_wp2_with fail
            refine (below_lat _ o N ba bu f u x y (ho'.drewN _) hx hy).mono ?_
            rintro e w' ⟨rfl, rfl⟩
            rw [HB.out]
            go_wp2_with fail
            refine (meet_lat _ o N ba bu f u x y (ho'.drewN _) L hx hy).mono ?_
            rintro e w' ⟨m10, hm10, em10, rfl, k20, rfl⟩
            have q2 : ((m10 : Int) == (x : Int)) = false := by
              rw [beq_eq_false_iff_ne]; intro h
              obtain rfl : m10 = x := by omega
              have := L.of_usub hx hy em10.symm
              rw [HB.out] at this; cases this
            clear em10
            go_wp2_with fail
            refine (bottom_lat _ o N ba bu f u (ho'.drewN _) L).mono ?_
            rintro e w' ⟨bo, hbo, ebo, rfl, kb, rfl⟩
            have tb : (f bo).testBit x = true := by rw [ebo, M.full, Nat.testBit_two_pow_sub_one]; simp [hx]
            clear ebo
            go_wp2_with fail
            refine (below_lat _ o N ba bu f u bo x (ho'.drewN _) hbo hx).mono ?_
            rintro e w' ⟨rfl, rfl⟩
            rw [tb]
            clear tb
            go_wp2_with fail
            refine (top_lat _ o N ba bu f u (ho'.drewN _) L).mono ?_
            rintro e w' ⟨tp, htp, etp, rfl, kt, rfl⟩
            have tt : (f x).testBit tp = true := by rw [← L.rev x tp hx htp, etp, M.full, Nat.testBit_two_pow_sub_one]; simp [hx]
            clear etp
            go_wp2_with fail
            refine (below_lat _ o N ba bu f u x tp (ho'.drewN _) hx htp).mono ?_
            rintro e w' ⟨rfl, rfl⟩
            rw [tt]
            clear tt
            go_wp2
            go_ret
            obtain ⟨k0, hk0⟩ := HW
            exact ⟨rfl, by rw [hk0]; exact below_drewN (below_drewN hbw2 _) _⟩
  · have t1 : decide ((200 : Int) < (len : Int)) = true := by simp; omega
    go_wp2_with fail
    refine (lives_any _).mono ?_
    rintro e w2 ⟨rfl, hb2⟩
    go_wp2
    go_ret
    exact ⟨rfl, hbw.trans (hb2.mono (by omega))⟩
end Go.Proofs.Ytlmpmiafjcpgjaa
