/- TypesOrder's closure, walked: what it makes. -/
import Derived.Test.YtjbihammbmiieaaDoorMa
namespace Go.Proofs.YtjbihammbmiieaaDoor
open Go.RowKit Un

/-- pairs of bytes in memory -/
def P2At (N : Nat) (w : World) (ao : Option Addr) (L : List (Nat × Nat)) : Prop :=
  ∀ i, i < L.length → ∃ b o, ao = some ⟨b, o, none⟩ ∧ b < N ∧ w.cell? ⟨b, o + i * 2, none⟩ = some (.int .u8 ((L.getD i (0, 0)).1 : Nat)) ∧ w.cell? ⟨b, o + i * 2 + 1, none⟩ = some (.int .u8 ((L.getD i (0, 0)).2 : Nat)) ∧ (L.getD i (0, 0)).1 < 256 ∧ (L.getD i (0, 0)).2 < 256
theorem P2At.below {N : Nat} {w w' : World} {ao : Option Addr} {L : List (Nat × Nat)} (h : P2At N w ao L) (k : Below N w w') : P2At N w' ao L := fun i hi => by
  obtain ⟨b, o, e, hb, h1, h2, r⟩ := h i hi
  exact ⟨b, o, e, hb, (k.cell (p := ⟨b, _, none⟩) hb).trans h1, (k.cell (p := ⟨b, _, none⟩) hb).trans h2, r⟩
/-- what is to be made one -/
def eqs (A : List Nat) (L : List (Nat × Nat)) : List (Nat × Nat) := L.map fun p => (A.getD (p.1 % A.length) 0, A.getD (p.2 % A.length) 0)
def MadeP (m : Nat) (L : List (Nat × Nat)) (w : World) (e : Ending) (w' : World) : Prop :=
  ((∃ sv R σ, e = .returned (.tuple #[sv, .bool true]) ∧ AllQ (abs (tb m (m + 1))) (eqs (al m (m + 1)) L) (abs R) ∧ R.length = 2 * m + 1 ∧ (∀ x, x < R.length + 3 → Val (abs R) x (σ x)) ∧ w'.ownsRow w.heap.size 9 1 sv (2 * m + 3) (strs (shows (picks (R.length + 3) σ (il (al m (m + 1)))) []))) ∨
   (∃ R k a b Q, e = .returned (.tuple #[.slice none 0 0, .bool false]) ∧ AllQ (abs (tb m (m + 1))) k (abs R) ∧ (∀ p ∈ k, p ∈ eqs (al m (m + 1)) L) ∧ (a, b) ∈ eqs (al m (m + 1)) L ∧ OneQ (abs R) a b false Q)) ∧ Below w.heap.size w w'
theorem own_base {w : World} {b1 b2 : Nat} {t : TypeId} {z : Nat} {v : Value} {n : Nat} {xs : List Value} (h : w.ownsRow b1 t z v n xs) (hb : b2 ≤ b1) : w.ownsRow b2 t z v n xs := by
  refine ⟨h.1, ?_⟩
  rcases h.2 with h | ⟨g, cap, cur, e, hg, r⟩
  · exact .inl h
  · exact .inr ⟨g, cap, cur, e, Nat.le_trans hb hg, r⟩
set_option maxRecDepth 100000 in
set_option maxHeartbeats 4000000 in
theorem made_any (nb n : Nat) (ao : Option Addr) (cap : Nat) (L : List (Nat × Nat)) (w : World) (hL : P2At w.heap.size w ao L) (h10 : L.length ≤ 10) (hn : w.cell? ⟨nb, 0, none⟩ = some (.int .u8 n)) (hn2 : n < 256) (hnb : nb < w.heap.size) :
    Calls Tryd.prog 18 #[.slice ao L.length cap, .pointer (some ⟨nb, 0, none⟩)] w (MadeP (n % 5) L w) := by
  have HL := Lib.hid hL
  have hm5 : n % 5 < 5 := Nat.mod_lt _ (by omega)
  obtain ⟨m, hm⟩ : ∃ m, m = n % 5 := ⟨_, rfl⟩
  have HM := Lib.hid hm
  rw [← hm] at hm5 ⊢
  have hcn : ∀ w', Below w.heap.size w w' → w'.cell? ⟨nb, 0, none⟩ = some (.int .u8 n) := fun w' k => (k.cell (p := ⟨nb, 0, none⟩) hnb).trans hn
  have HCN := Lib.hid hcn
  clear hL hm hcn hn
  go_enter Tryd.func18, Tryd.ntmps18
  go_wp2_with fail
  refine (tnew_any w.heap.size w (Nat.le_refl _)).mono ?_
  rintro e w1 ⟨rfl, h1, hb1⟩
  have hst : MkAt w w.heap.size [] [] (.slice none 0 0) (.slice none 0 0) w1 := ⟨h1, tok_nil, fun n hn => (by cases hn), World.ownsRow_nil _ _ _ _, hb1⟩
  have ST := Lib.hid hst
  have hc := HCN.out w1 hb1
  clear hst h1 hb1
  go_wp2
  rw [show ((n : Int) % 5) = (m : Int) by have := HM.out; omega]
  obtain ⟨i1, hi1, z1, z11, z12⟩ := info_parts Tryd.info35
  have I1 := Lib.hid hi1; have Z1 := Lib.hid z1; have Z11 := Lib.hid z11; have Z12 := Lib.hid z12
  clear hi1 z1 z11 z12 hc
  go_loopw [6, 15] (fun lv iv wr => ∃ (j : Nat) (tv : Value), j ≤ m ∧ iv = .int .u8 j ∧ MkAt w w.heap.size ((List.range j).map (· + 3)) (List.replicate j ⟨1, false, 0, 0⟩) tv lv wr) (fun _ iv _ => m - (intOf iv).toNat)
  case atStart => exact ⟨0, _, Nat.zero_le _, rfl, ST.out⟩
  case round =>
    obtain ⟨j, tv, hj, rfl, hs⟩ := hrel
    obtain ⟨A, hA⟩ : ∃ A, A = (List.range j).map (· + 3) := ⟨_, rfl⟩
    obtain ⟨R, hR⟩ : ∃ R, R = List.replicate j (⟨1, false, 0, 0⟩ : Nx) := ⟨_, rfl⟩
    rw [← hA, ← hR] at hs
    have hal : A.length = j := by rw [hA]; simp
    have hrl : R.length = j := by rw [hR]; simp
    obtain ⟨la, lc, rfl⟩ := own_form hs.own
    have HS := Lib.hid hs; have HA := Lib.hid hA; have HR := Lib.hid hR; have HAL := Lib.hid hal; have HRL := Lib.hid hrl
    clear hs hA hR hal hrl
    by_cases hlt : j < m
    · go_wp2_with fail
      refine (var_any w.heap.size w.heap.size R tv wr HS.out.tab (by have := HRL.out; omega)).mono ?_
      rintro e w2 ⟨he, ⟨tv2, h2⟩, hf2⟩
      rw [show (R ++ [(⟨1, false, 0, 0⟩ : Nx)]).length + 2 = j + 3 by have := HRL.out; simp; omega] at he
      subst he
      have hs2 := HS.out.types h2 (tok_var HS.out.tok) (clear_snoc HS.out.clear rfl) hf2
      have HS2 := Lib.hid hs2
      clear h2 hf2 hs2
      go_wp2_with (at_builtin; refine wpList_append_own _ rfl _ _ 44 rfl w.heap.size 35 i1 _ 1 8 Tryd.underlying44 I1.out Z1.out Z11.out Z12.out rfl (by decide) _ A.length (zs (il A)) rfl (own_below HS2.out.own ((Below.refl _ _).alloc (Nat.le_refl _) _)) ⟨w2.heap.size, 0, none⟩ 1 1 (zs (il [j + 3])) rfl rfl ?c1 ?c2 ?c3 ?c4 ?c5 ?_)
      case c1 => exact World.news_of_block (heap_alloc_new w2 _)
      case c2 => intro u hu; simp [zs, il] at hu; subst hu; rfl
      case c3 => have := HAL.out; unfold maxLen; omega
      case c4 => have := HAL.out; omega
      case c5 => have := HS2.out.below.size; simp; omega
      intro v5 w5 hown hgrow _
      have hs5 := HS2.out.more (C := [j + 3]) hown hgrow
      rw [show A ++ [j + 3] = (List.range (j + 1)).map (· + 3) by rw [HA.out]; simp [List.range_succ], show R ++ [(⟨1, false, 0, 0⟩ : Nx)] = List.replicate (j + 1) ⟨1, false, 0, 0⟩ by rw [HR.out]; exact (List.replicate_succ' ..).symm] at hs5
      have HS5 := Lib.hid hs5
      clear hown hgrow hs5
      go_wp2
      go_roundw
      case rel => exact ⟨j + 1, _, by omega, by go_num, HS5.out⟩
      case measure => simp [intOf]; omega
    · obtain rfl : m = j := by omega
      go_wp2_with (at_builtin; refine wpList_append_own _ rfl _ _ 44 rfl w.heap.size 35 i1 _ 1 8 Tryd.underlying44 I1.out Z1.out Z11.out Z12.out rfl (by decide) _ A.length (zs (il A)) rfl (own_below HS.out.own ((Below.refl _ _).alloc (Nat.le_refl _) _)) ⟨wr.heap.size, 0, none⟩ 2 2 (zs (il [0, 1])) rfl rfl ?c1 ?c2 ?c3 ?c4 ?c5 ?_)
      case c1 => exact World.news_of_block (heap_alloc_new wr _)
      case c2 => intro u hu; simp [zs, il] at hu; rcases hu with rfl | rfl <;> rfl
      case c3 => have := HAL.out; unfold maxLen; omega
      case c4 => have := HAL.out; omega
      case c5 => have := HS.out.below.size; simp; omega
      intro v5 w5 hown hgrow _
      have hs5 := HS.out.more (C := [0, 1]) hown hgrow
      have hs6 : MkAt w w.heap.size (al m 0) (tb m 0) tv v5 w5 := by
        rw [HA.out, HR.out] at hs5; rw [al_zero]; simpa [al0, tb, pr] using hs5
      clear hown hgrow hs5
      obtain ⟨A5, hA5⟩ : ∃ A5, A5 = al m 0 := ⟨_, rfl⟩
      rw [← hA5] at hs6
      have hal5 : A5.length = m + 2 := by rw [hA5, al_len]
      have hlen5 : wrap64 ((A5.length : Int) - 1) = (m : Int) + 1 := by rw [hal5]; unfold wrap64; omega
      obtain ⟨la5, lc5, rfl⟩ := own_form hs6.own
      have HS6 := Lib.hid hs6; have HA5 := Lib.hid hA5; have HAL5 := Lib.hid hal5; have HLEN5 := Lib.hid hlen5
      clear hs6 hA5 hal5 hlen5
      go_wp2
      rw [HLEN5.out]
      go_loopw [6, 7, 8, 9, 29] (fun lv _ _ _ iv wz => ∃ (i : Nat) (A7 : List Nat) (tv7 : Value), i ≤ m + 1 ∧ iv = .int .i64 i ∧ A7 = al m i ∧ MkAt w w.heap.size A7 (tb m i) tv7 lv wz) (fun _ _ _ _ iv _ => m + 1 - (intOf iv).toNat)
      case atStart => exact ⟨0, _, _, Nat.zero_le _, rfl, HA5.out, HS6.out⟩
      case round =>
        clear HS6 HA5 HAL5 HLEN5 HA HR HAL HRL HS ST
        obtain ⟨i, A7, tv7, hi, rfl, hA7, hs7⟩ := hrel
        have hal7 : A7.length = m + 2 + i := by rw [hA7, al_len]
        by_cases hlt : i < m + 1
        · obtain ⟨lb, lc7, rfl, hlb, hlc⟩ := row_some hs7.own (by omega)
          have hd7 := hs7.later ((Below.refl _ _).drew)
          have c0 := own_cell hs7.own (zs_il_get (l := A7) (i := i) (by omega))
          have c1 := own_cell hs7.own (zs_il_get (l := A7) (i := i + 1) (by omega))
          rw [show A7.getD i 0 = (al0 m).getD i 0 by rw [hA7]; exact al_low m i (by omega)] at c0
          rw [show A7.getD (i + 1) 0 = (al0 m).getD (i + 1) 0 by rw [hA7]; exact al_low m i (by omega)] at c1
          have hx0 := al0_lt m i
          have hx1 := al0_lt m (i + 1)
          generalize hX0 : (al0 m).getD i 0 = x0 at c0 hx0
          generalize hX1 : (al0 m).getD (i + 1) 0 = x1 at c1 hx1
          have hcall := pair_yes w.heap.size w.heap.size (tb m i) tv7 x0 x1 wr.drew hd7.tab (by rw [tb_len]; omega) (by rw [tb_len]; omega) (by rw [tb_len]; omega)
          have b0 : i < A7.length := by omega
          have HS7 := Lib.hid hs7; have HD7 := Lib.hid hd7; have HA7 := Lib.hid hA7; have HAL7 := Lib.hid hal7; have HX0 := Lib.hid hX0; have HX1 := Lib.hid hX1; have HC := Lib.hid hcall
          clear hs7 hd7 hA7 hal7 hX0 hX1 hcall
          go_upto_region 11 with fail
          obtain ⟨ip, hip⟩ : ∃ ip, ip = i + 1 := ⟨_, rfl⟩
          have b1 : ip < A7.length := by have := HAL7.out; omega
          have b2 : IntKind.i64.wrap (ip : Int) = (ip : Int) := IntWalk.i64_in _ (by have := HAL7.out; omega)
          have b3 : (i : Int) + 1 = (ip : Int) := by omega
          rw [← hip] at c1
          have HIP := Lib.hid hip
          clear hip
          go_cut [8, 9] (fun p q wz => p = .int .i64 (m + 3 + i : Nat) ∧ ∃ tv8, MkAt w w.heap.size A7 (tb m (i + 1)) tv8 (.slice (some ⟨lb, 0, none⟩) A7.length lc7) wz)
          case first =>
            go_region_with (go_at_call 11; refine HC.out.mono ?_; rintro e w8 ⟨he, ⟨tv8, h8⟩, hf8⟩; subst he)
            all_goals
              go_wp2
              go_meet
              case rel =>
                have hs8 := HD7.out.types h8 (tok_pair HS7.out.tok (by rw [tb_len]; omega) (by rw [tb_len]; omega)) (clear_snoc HS7.out.clear rfl) hf8
                rw [← HX0.out, ← HX1.out, ← tb_succ] at hs8
                exact ⟨by rw [tb_len]; congr 2; omega, _, hs8⟩
          case rest =>
            obtain ⟨rfl, tv8, hs8⟩ := hcut
            have HS8 := Lib.hid hs8
            clear hs8 c0 c1 b0 b1 b2 b3 HS7 HD7 HC HX0 HX1 hx0 hx1
            go_wp2_with (at_builtin; refine wpList_append_own _ rfl _ _ 44 rfl w.heap.size 35 i1 _ 1 8 Tryd.underlying44 I1.out Z1.out Z11.out Z12.out rfl (by decide) _ A7.length (zs (il A7)) rfl (own_below HS8.out.own ((Below.refl _ _).alloc (Nat.le_refl _) _)) ⟨wc.heap.size, 0, none⟩ 1 1 (zs (il [m + 3 + i])) rfl rfl ?c1 ?c2 ?c3 ?c4 ?c5 ?_)
            case c1 => exact World.news_of_block (heap_alloc_new wc _)
            case c2 => intro u hu; simp [zs, il] at hu; subst hu; rfl
            case c3 => have := HAL7.out; unfold maxLen; omega
            case c4 => have := HAL7.out; omega
            case c5 => have := HS8.out.below.size; simp; omega
            intro v9 w9 hown hgrow _
            have hs9 := HS8.out.more (C := [m + 3 + i]) hown hgrow
            have HS9 := Lib.hid hs9
            clear hown hgrow hs9
            go_wp2
            go_roundw
            case rel => exact ⟨i + 1, _, _, by omega, by go_num, by rw [HA7.out, al_succ], HS9.out⟩
            case measure => simp [intOf]; omega
        · obtain rfl : i = m + 1 := by omega
          obtain ⟨lb, lc7, rfl, hlb, hlc⟩ := row_some hs7.own (by omega)
          have HA7 := Lib.hid hA7; have HAL7 := Lib.hid hal7; have HS7 := Lib.hid hs7
          have hq0 : AllQ (abs (tb m (m + 1))) (eqs A7 (L.take 0)) (abs (tb m (m + 1))) := by rw [List.take_zero]; exact AllQ.nil hs7.tok.good
          have HQ0 := Lib.hid hq0
          clear hA7 hal7 hs7 hq0
          go_wp2
          go_loopw [11, 53] (fun _ iv wz => ∃ (k : Nat) (R : List Nx) (tv8 : Value), k ≤ L.length ∧ iv = .int .i64 k ∧ MkAt w w.heap.size A7 R tv8 (.slice (some ⟨lb, 0, none⟩) A7.length lc7) wz ∧ AllQ (abs (tb m (m + 1))) (eqs A7 (L.take k)) (abs R) ∧ R.length = m + (m + 1)) (fun _ iv _ => L.length - (intOf iv).toNat)
          case atStart => exact ⟨0, _, _, Nat.zero_le _, rfl, HS7.out, HQ0.out, tb_len _ _⟩
          case round =>
            clear HS7 HQ0
            obtain ⟨k, R, tv8, hk, rfl, hs8, hq8, hr8⟩ := hrel
            by_cases hlt2 : k < L.length
            · obtain ⟨gb, go, rfl, hgb, g0, g1, gx, gy⟩ := (HL.out.below hs8.below) k hlt2
              generalize hP : L.getD k (0, 0) = pq at g0 g1 gx gy
              obtain ⟨px, py⟩ := pq
              simp only at g0 g1 gx gy
              have hw9 := (Below.refl wr.heap.size wr).alloc (Nat.le_refl _) (.cells #[.int .u8 px, .int .u8 py] 51)
              have hs9 := (hs8.later hw9).later (Below.refl _ _).drew
              have HS8 := Lib.hid hs8; have HQ8 := Lib.hid hq8; have HR8 := Lib.hid hr8; have HP := Lib.hid hP; have HS9 := Lib.hid hs9; have HW9 := Lib.hid hw9
              clear hs8 hq8 hr8 hP hs9 hw9
              go_upto_region 17 with fail
              obtain ⟨qx, hqx⟩ : ∃ qx, qx = px % A7.length := ⟨_, rfl⟩
              obtain ⟨qy, hqy⟩ : ∃ qy, qy = py % A7.length := ⟨_, rfl⟩
              have hpos : 0 < A7.length := by have := HAL7.out; omega
              have hqx2 : qx < A7.length := by rw [hqx]; exact Nat.mod_lt _ hpos
              have hqy2 : qy < A7.length := by rw [hqy]; exact Nat.mod_lt _ hpos
              have r0 : Int.tmod (px : Int) (A7.length : Int) = (qx : Int) := by rw [hqx]; rfl
              have r1 : Int.tmod (py : Int) (A7.length : Int) = (qy : Int) := by rw [hqy]; rfl
              have r2 : (px : Int) % (A7.length : Int) = (qx : Int) := by rw [hqx]; rfl
              have r3 : (py : Int) % (A7.length : Int) = (qy : Int) := by rw [hqy]; rfl
              have r4 : ¬ (A7.length : Int) = 0 := by omega
              have r9 : ¬ A7 = [] := fun e => by rw [e] at hpos; simp at hpos
              have r5 : IntKind.i64.wrap (qx : Int) = (qx : Int) := IntWalk.i64_in _ (by have := HAL7.out; omega)
              have r6 : IntKind.i64.wrap (qy : Int) = (qy : Int) := IntWalk.i64_in _ (by have := HAL7.out; omega)
              have r7 : IntKind.i64.wrap (px : Int) = (px : Int) := IntWalk.i64_in _ (by omega)
              have r8 : IntKind.i64.wrap (py : Int) = (py : Int) := IntWalk.i64_in _ (by omega)
              have e0 := own_cell HS9.out.own (zs_il_get (l := A7) hqx2)
              have e1 := own_cell HS9.out.own (zs_il_get (l := A7) hqy2)
              have hax : A7.getD qx 0 < R.length + 3 := by
                rw [HR8.out]
                have h1 := al_get m (m + 1) qx (by rw [← HA7.out]; exact hqx2)
                rw [← HA7.out] at h1
                exact h1
              have hay : A7.getD qy 0 < R.length + 3 := by
                rw [HR8.out]
                have h1 := al_get m (m + 1) qy (by rw [← HA7.out]; exact hqy2)
                rw [← HA7.out] at h1
                exact h1
              obtain ⟨ax, hax2⟩ : ∃ ax, ax = A7.getD qx 0 := ⟨_, rfl⟩
              obtain ⟨ay, hay2⟩ : ∃ ay, ay = A7.getD qy 0 := ⟨_, rfl⟩
              rw [← hax2] at e0 hax
              rw [← hay2] at e1 hay
              have hun := unify_any w.heap.size w.heap.size R tv8 ax ay _ HS9.out.tab HS9.out.tok HS9.out.clear hax hay
              have hmem : (eqs A7 L)[k]? = some (ax, ay) := by
                have h1 : L[k]? = some (px, py) := by
                  have := HP.out
                  rw [List.getD_eq_getElem?_getD, List.getElem?_eq_getElem hlt2] at this
                  rw [List.getElem?_eq_getElem hlt2]; simpa using this
                simp [eqs, h1, hax2, hay2, hqx, hqy]
              have hte : eqs A7 (L.take (k + 1)) = eqs A7 (L.take k) ++ [(ax, ay)] := by
                have e : ∀ j, eqs A7 (L.take j) = (eqs A7 L).take j := fun j => by rw [eqs, eqs, List.map_take]
                rw [e, e, List.take_add_one, hmem]; rfl
              have HUN := Lib.hid hun; have HME := Lib.hid hmem; have HTE := Lib.hid hte
              clear hte
              clear hqx hqy hax2 hay2 hun hmem hax hay g0 g1
              go_cut [77] (fun q wz => (q = .bool false ∧ ∃ R' tv', MkAt w w.heap.size A7 R' tv' (.slice (some ⟨lb, 0, none⟩) A7.length lc7) wz ∧ AllQ (abs (tb m (m + 1))) (eqs A7 (L.take (k + 1))) (abs R') ∧ R'.length = m + (m + 1)) ∨ (q = .bool true ∧ Below w.heap.size w wz ∧ ∃ Q, OneQ (abs R) ax ay false Q))
              case first =>
                go_region_with (go_at_call 13; refine HUN.out.mono ?_; rintro e w10 ⟨ok, R', rfl, t10, k10, c10, l10, q10, f10⟩; generalize hER : (if ok = true then (0 : Int) else 10) = er; have HER := Lib.hid hER; clear hER)
                all_goals
                  cases ok with
                  | true =>
                    obtain rfl : er = 0 := HER.out.symm
                    go_wp2
                    go_meet
                    case rel => exact .inl ⟨rfl, R', _, HS9.out.types t10 k10 c10 (f10.fr HS9.out.tab), by rw [HTE.out]; exact HQ8.out.snoc q10, by rw [l10]; exact HR8.out⟩
                  | false =>
                    obtain rfl : er = 10 := HER.out.symm
                    go_wp2
                    go_meet
                    case rel => exact .inr ⟨rfl, HS9.out.below.trans ((f10.fr HS9.out.tab).below HS9.out.below.size (fun k o e => e.1)), abs R', q10⟩
              case rest =>
                clear r0 r1 r2 r3 r4 r5 r6 r7 r8 r9 e0 e1
                rcases hcut with ⟨rfl, R', tv', hs10, hq10, hr10⟩ | ⟨rfl, hb10, Q, ho10⟩
                · have HS10 := Lib.hid hs10; have HQ10 := Lib.hid hq10; have HR10 := Lib.hid hr10
                  clear hs10 hq10 hr10
                  go_wp2
                  go_roundw
                  case rel => exact ⟨k + 1, R', tv', by omega, by go_num, HS10.out, HQ10.out, HR10.out⟩
                  case measure => simp [intOf]; omega
                · have HB10 := Lib.hid hb10; have HO10 := Lib.hid ho10
                  clear hb10 ho10
                  go_wp2
                  go_ret2
                  obtain rfl := HA7.out
                  refine ⟨.inr ⟨R, eqs (al m (m + 1)) (L.take k), ax, ay, Q, rfl, HQ8.out, fun p hp => ?_, List.mem_of_getElem? HME.out, HO10.out⟩, HB10.out⟩
                  rw [eqs, List.map_take] at hp
                  exact List.mem_of_mem_take hp
            · obtain rfl : k = L.length := by omega
              rw [List.take_length] at hq8
              obtain ⟨σ, _, vσ⟩ := hs8.tok.good.some
              have hlen : (abs R).length = R.length + 3 := abs_len R
              have hsz : ∀ x, x < R.length + 3 → (σ x).size ≤ 10000000 := fun x hx => by
                have h1 := size_len hs8.tok.good.wf (vσ x (by rw [hlen]; exact hx)) (by rw [hlen]; exact hx)
                rw [hlen, hr8] at h1
                refine Nat.le_trans h1 (Nat.le_trans (Nat.pow_le_pow_right (n := 2) (by omega) (show m + (m + 1) + 3 + 1 ≤ 13 by omega)) (by decide))
              rw [hlen] at vσ
              have hsh := shows_any w.heap.size w.heap.size R tv8 σ w.heap.size (.slice (some ⟨lb, 0, none⟩) A7.length lc7) (il A7) wr hs8.tab hs8.tok hs8.clear vσ hsz (by omega) (by rw [il_len]; exact hs8.own) (by rw [il_len]; have := HAL7.out; omega) (fun x hx => by
                obtain ⟨y, hy, rfl⟩ := List.mem_map.1 hx
                rw [HA7.out] at hy
                have := al_lt _ _ hy
                omega)
              have HSH := Lib.hid hsh; have HQ8 := Lib.hid hq8; have VS := Lib.hid vσ; have HS8 := Lib.hid hs8; have HR8 := Lib.hid hr8
              clear hsh hq8 vσ hs8 hr8 hsz hlen
              go_wp2_with fail
              refine HSH.out.mono ?_
              rintro e w9 ⟨sv, R9, rfl, o9, t9, k9, l9, v9, c9, f9⟩
              have hb9 := HS8.out.below.trans ((f9.fr HS8.out.tab).below HS8.out.below.size (fun k o e => e.1))
              have ho9 := own_base o9 HS8.out.below.size
              have HB9 := Lib.hid hb9; have HO9 := Lib.hid ho9
              clear hb9 ho9 o9 t9 k9 l9 v9 c9 f9
              go_wp2
              go_ret2
              refine ⟨.inl ⟨sv, R, σ, rfl, ?_, ?_, VS.out, ?_⟩, HB9.out⟩
              · rw [← HA7.out]; exact HQ8.out
              · rw [HR8.out]; omega
              · have h1 := HO9.out
                rw [il_len, HAL7.out] at h1
                rw [← HA7.out]
                rw [show 2 * m + 3 = m + 2 + (m + 1) by omega]
                exact h1
end Go.Proofs.YtjbihammbmiieaaDoor
