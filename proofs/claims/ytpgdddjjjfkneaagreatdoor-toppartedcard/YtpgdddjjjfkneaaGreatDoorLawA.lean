import Derived.Test.YtpgdddjjjfkneaaGreatDoorWf
import Derived.BigQuiet
import Derived.BigRegion
import Derived.Deep.RegionHeld3
/-
  The walk of WorkQuiet: a state is quiet just if all its partitions are. No condition.
-/
namespace Go.Proofs.YtpgdddjjjfkneaaGreatDoor
open Go.ChangeShapes Go.WideShapes Go.ChangeAt Go.RowKit
set_option linter.unusedVariables false

theorem Lies.pe {w : World} {B : Nat} {A : Option Addr} {ls : List Pe} (h : Lies w B 5 A ls.length (pc ls)) (k : Nat) (hk : k < ls.length) :
    ∃ ad, A = some ad ∧ ad.block < B ∧ w.cell? (ad.add (k * 5)) = some (.int .i64 ls[k].P) ∧ w.cell? ⟨(ad.add (k * 5)).block, (ad.add (k * 5)).off + 1, none⟩ = some (.int .i64 ls[k].S.step) ∧ w.cell? ⟨(ad.add (k * 5)).block, (ad.add (k * 5)).off + 2, none⟩ = some (.slice ls[k].A1 ls[k].S.vals.length ls[k].c1) ∧
      w.cell? ⟨(ad.add (k * 5)).block, (ad.add (k * 5)).off + 3, none⟩ = some (.slice ls[k].A2 ls[k].S.rest.length ls[k].c2) ∧ w.cell? ⟨(ad.add (k * 5)).block, (ad.add (k * 5)).off + 4, none⟩ = some (.slice ls[k].A3 ls[k].S.inn.length ls[k].c3) := by
  obtain ⟨a0, a1, a2, a3, a4⟩ := pc_at ls k hk
  obtain ⟨ad, e, hb, c0⟩ := h.2 _ _ a0
  obtain ⟨ad1, e1, _, c1⟩ := h.2 _ _ a1
  obtain ⟨ad2, e2, _, c2⟩ := h.2 _ _ a2
  obtain ⟨ad3, e3, _, c3⟩ := h.2 _ _ a3
  obtain ⟨ad4, e4, _, c4⟩ := h.2 _ _ a4
  rw [e] at e1 e2 e3 e4
  injection e1 with e1
  injection e2 with e2
  injection e3 with e3
  injection e4 with e4
  subst e1 e2 e3 e4
  rw [← add_add] at c1 c2 c3 c4
  exact ⟨ad, e, hb, c0, c1, c2, c3, c4⟩
end Go.Proofs.YtpgdddjjjfkneaaGreatDoor


