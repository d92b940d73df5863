/- A builder that is a printer's field: what is written to it. -/
import Derived.Test.YtjbihammbmiieaaDoorPq
import Derived.Shelf.RegionOpenPlain
import Derived.Laws.Externs
namespace Go.Proofs.YtjbihammbmiieaaDoor
open Go.RowKit Go.Shelf Un

set_option maxHeartbeats 1000000 in
set_option maxRecDepth 100000 in
theorem copy_any (c : Pc) (w : World) (s : List UInt8) (h : Pr c w s) : Calls Tryd.prog 46 #[.pointer (some ⟨c.bp, 1, none⟩)] w fun e w' => e = .returned (.tuple #[]) ∧ (∃ v, PrAt c w' s (.pointer (some ⟨c.bp, 1, none⟩)) v) ∧ Pk c w w' := by
  obtain ⟨adr, v, h⟩ := h
  obtain ⟨j, hj, hjs⟩ : ∃ j, Tryd.prog.info? 78 = some j ∧ j.size = 2 := by
    have h0 : (Tryd.prog.info? 78).map (fun i => i.size) = some 2 := by kernel_rfl
    cases hq : Tryd.prog.info? 78 with
    | none => rw [hq] at h0; cases h0
    | some j => rw [hq] at h0; exact ⟨j, rfl, by simpa using h0⟩
  have c1 := h.c1; have f1 := h.fz 1
  have hsh : w.shape? c.bp = some (80, 4) := by simp [World.shape?, h.blk]
  have H := Lib.hid h
  rcases h.adr with rfl | rfl
  · clear h
    go_enter Tryd.func46, Tryd.ntmps46
    go_wp2
    rw [Lib.run_to_unsafe w ⟨c.bp, 1, none⟩ Tryd.underlying75 Tryd.underlying106 hj (by rw [hjs]; decide) hsh (by show 1 < 4; decide)]
    simp only [Result.andThen]
    rw [Oper.upon_value]
    go_wp2
    rw [run_callFunc_extern Tryd.func49 (by kernel_rfl) (by kernel_rfl) (by kernel_rfl) (e := Extern.AbiNoEscape.same) (by kernel_rfl)]
    rw [Lib.run_noEscape]
    simp only [Result.andThen]
    rw [Oper.upon_value]
    go_wp2
    rw [Lib.run_from_unsafe w ⟨c.bp, 1, none⟩ Tryd.underlying106 Tryd.underlying75 hj hsh (by kernel_rfl)]
    simp only [Result.andThen]
    rw [Oper.upon_value]
    go_wp2
    go_end0
    exact ⟨rfl, ⟨v, H.out.setAdr⟩, pk_set c w 1 _⟩
  · clear h
    go_enter Tryd.func46, Tryd.ntmps46
    go_wp2
    rw [Lib.run_neq_ptr_same w _ Tryd.underlying75 hj]
    go_wp2
    go_end0
    exact ⟨rfl, ⟨v, H.out⟩, Pk.refl _ _⟩
end Go.Proofs.YtjbihammbmiieaaDoor
