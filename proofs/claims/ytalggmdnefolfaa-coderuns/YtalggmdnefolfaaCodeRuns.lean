/-
  PROVED: frames of up to 20 payloads, one behind the other, are taken one by one, and what is cut off anywhere within the last one is none, ErrForm (Rows.CodeRunsSaid). CONDITIONS: none; every input.
-/
import Derived.Test.YtalggmdnefolfaaRows
import Derived.Test.YtalggmdnefolfaaLawG
import Derived.WalkKit
import Derived.ProofKit
import Derived.OpenShut
import Derived.ShutString
import Derived.ChangeOld
import Derived.Below
import Derived.Deep.Matrix
namespace Go.Proofs.Ytalggmdnefolfaa.codeRuns
open Go.ChangeShapes Go.WideShapes Go.ChangeAt Go.RowKit
open Go.ChangeMaps (open_string shut_string)
set_option linter.unusedVariables false

theorem own : ownKnob Try.prog.godebug = none := by kernel_rfl
theorem laidOut : laidOutB Try.prog = true := by kernel_rfl

/-! ### THE ROW's STEP: WRITTEN OUT: LEAVE IT -/
theorem row_bytes {w : World} {x : Addr} {n cp : Nat} {zs : List Int} (h1 : n ≤ cp) (h3 : zs.length = cp) (h4 : ∀ i, i < cp → w.cell? (x.add i) = some (.int .u8 (zs.getD i 0))) (h5 : ∀ z ∈ zs, (Lit.int .u8 z).wf = true) :
    Lies w w.heap.size 1 (some x) n (bc ((zs.take n).map fun z => UInt8.ofNat z.toNat)) := by
  refine ⟨by simp [bc_length]; omega, fun j u hu => ?_⟩
  have hj : j < n := by
    have := (List.getElem?_eq_some_iff.1 hu).1
    simp [bc_length] at this
    omega
  have hjz : j < zs.length := by omega
  have hc := h4 j (by omega)
  have hlt : (x.add j).block < w.heap.size := World.block_lt_of_cell? w _ hc
  rw [block_add] at hlt
  refine ⟨x, rfl, hlt, ?_⟩
  rw [hc]
  simp [bc, List.getElem?_take_of_lt hj, List.getElem?_eq_getElem hjz] at hu
  rw [← hu]
  have hw := byte_of_int zs[j] (h5 _ (List.getElem_mem hjz))
  rw [byte_ofNat] at hw
  simp [List.getD_eq_getElem?_getD, List.getElem?_eq_getElem hjz]
  omega

theorem rows_of {w : World} {a : Addr} {on : Nat} {A : Nat → Option Addr} {L C : Nat → Nat} {Z : Nat → List Int} (hx : ∀ r, r < on → w.cell? (a.add r) = some (.slice (A r) (L r) (C r)) ∧ L r ≤ C r ∧ C r ≤ maxLen ∧ (Z r).length = C r ∧ (∀ n ∈ Z r, (Lit.int .u8 n).wf = true) ∧ (A r = none → C r = 0) ∧
        ∀ a', A r = some a' → 0 ≤ a'.block ∧ ∀ c, c < C r → w.cell? (a'.add c) = some (.int .u8 ((Z r).getD c 0))) :
    RowsAt w (some a) on A L C fun r => ((Z r).take (L r)).map fun z => UInt8.ofNat z.toNat := by
  intro i hi
  obtain ⟨h1, h2, h3, h4, h5, h6, h7⟩ := hx i hi
  have hlt : (a.add i).block < w.heap.size := World.block_lt_of_cell? w _ h1
  rw [block_add] at hlt
  refine ⟨⟨a, rfl, hlt, h1⟩, h2, h3, ?_⟩
  cases hA : A i with
  | none =>
    have hC := h6 hA
    have hL : L i = 0 := by omega
    have hZ : ((Z i).take (L i)).map (fun z => UInt8.ofNat z.toNat) = [] := by rw [hL]; simp
    show Lies w w.heap.size 1 none (L i) (bc (((Z i).take (L i)).map fun z => UInt8.ofNat z.toNat))
    rw [hZ, hL]
    exact Lies.nil
  | some x => exact row_bytes h2 h4 (h7 x hA).2 h5

set_option maxRecDepth 100000 in
theorem lifted (os : Os) (started : os.Started) (H : Type) (enc : TypeId × Value → H) :
    ReturnsInHanded {} Try.checked os 9 .any (Rows.codeRunsSpec.pre6 enc Try.prog Try.f9 Rows.codeRunsRow.domain false) (Rows.codeRunsSpec.post enc Try.prog Try.f9 false true false false) := by
  refine returnsInHanded_of_change (C := Try.checked) own started (by kernel_rfl) Try.func9
    (ChangeSpec.witness6 (enc := enc) (C := Try.checked) false ⟨#[], #[.slice none 0 0, .int .i64 0], []⟩ 8 (by kernel_rfl) (by kernel_rfl) (by kernel_rfl) (by kernel_rfl)) ?_
  intro W base args ds gs before hval0 hW hcnd _
  have hval : ∀ (j : Nat) t v, Try.f9.params[j]? = some t → args[j]? = some v → Value.okWide Try.prog W .any base t v := hval0
  have hW' := hW
  obtain ⟨p, q, hA0, hV, rfl, hfz, hnd⟩ := hW
  have hA : DataW.TrodAll enc Try.prog W 0 (fun _ => true) true Try.f9.params.toList args.toList ds p := hA0
  rw [Try.params9] at hA hval
  obtain ⟨v0, vs0, d0, ds0, p0, q0, hargs, rfl, rfl, h0, r0⟩ := trodAll_cons hA
  obtain ⟨v1, vs1, d1, ds1, p1, q1, rfl, rfl, rfl, h1, r1⟩ := trodAll_cons r0
  obtain ⟨rfl, rfl, rfl⟩ := trodAll_nil r1
  obtain rfl : args = #[v0, v1] := by cases args; simp_all
  obtain ⟨rfl, rfl⟩ := trodVars_none hV
  obtain ⟨a0, len0, cap0, rfl⟩ := okWide_slice Try.underlying50 (hval 0 50 v0 rfl rfl)
  have k0 := h0
  have lt0 : ∀ x ∈ p0, x.block < W.heap.size := by obtain ⟨m, hm⟩ := k0; exact DataW.trod_lt m _ _ _ hm
  obtain ⟨A, L, C, Z, w0, hlc, hcm⟩ : ∃ A L C Z, RowsAt W a0 len0 A L C Z ∧ len0 ≤ cap0 ∧ cap0 ≤ maxLen := by
    obtain ⟨fuel, hf⟩ := h0
    rcases Go.Deep.open_int_rows Try.underlying50 Try.underlying22 Try.underlying5 (by kernel_rfl) (by kernel_rfl) hf with ⟨hcs, _⟩ | ⟨a, l, c, A, L, C, Z, hcs, _, hl, hm, _, hx⟩
    · simp [Value.cells] at hcs
      obtain ⟨rfl, rfl, rfl⟩ := hcs
      exact ⟨fun _ => none, fun _ => 0, fun _ => 0, fun _ => [], fun i hi => absurd hi (by omega), Nat.le_refl _, Nat.zero_le _⟩
    · simp [Value.cells] at hcs
      obtain ⟨rfl, rfl, rfl⟩ := hcs
      exact ⟨A, L, C, fun r => ((Z r).take (L r)).map (fun z => UInt8.ofNat z.toNat), rows_of (fun r hr => hx r (by omega)), hl, hm⟩
  obtain ⟨a1, rfl, rfl, rfl, w1⟩ := open_int Try.underlying3 (hval 1 3 v1 rfl rfl) h1
  clear hA0 hval0
  obtain ⟨b1, b2⟩ := bounds_i64 w1
  refine (runs_walk a0 len0 cap0 A L C Z a1 W b1 b2 w0 hlc hcm).mono fun e W' ⟨he, bel⟩ => ?_
  subst he
  exact ⟨_, rfl, _, _, _, [], _, [], hW', trodAll_mk1 (shut_bool Try.underlying4 _), (trodAll_cons_mk (Below.trod laidOut (by kernel_rfl) (of_decide_eq_true (by kernel_rfl)) k0 bel lt0) (trodAll_cons_mk (shut_int Try.underlying3 w1) trodAll_mk0)), rfl, bel.frame _, fun h => by cases h⟩

theorem over : Rows.codeRunsRow.holds Try.pinned (OpenSpec.ofChange Rows.codeRunsSpec) :=
  OpenClaim.holds_of_wide 9 Try.f9 rfl rfl rfl rfl rfl rfl rfl ⟨rfl, rfl, rfl, rfl, rfl⟩ rfl rfl rfl rfl rfl (by kernel_rfl) Try.func9 (by kernel_rfl)
    (of_decide_eq_true (by kernel_rfl)) (by unfold Func.isWrapper; first | (rw [if_pos (by decide +kernel)]; kernel_rfl) | (rw [if_neg (by decide +kernel)]; exact ⟨rfl, rfl⟩))
    (fun os started H enc _ => lifted os started H enc)

/-- ████ THE STATEMENT ████ -/
theorem proved : Rows.CodeRunsSaid := over
#print axioms proved
end Go.Proofs.Ytalggmdnefolfaa.codeRuns
