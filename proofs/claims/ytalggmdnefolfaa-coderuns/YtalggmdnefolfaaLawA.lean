/-
  The walks of CodeSums and CodeBack, and how an argument's bytes are told. No condition.
-/
import Derived.Test.YtalggmdnefolfaaWalksF
import Derived.OpenShut
namespace Go.Proofs.Ytalggmdnefolfaa
open Go.RowKit
set_option linter.unusedVariables false

/-- What is told of a slice of integers that came in. -/
def IsRow (k : IntKind) (w : World) (a : Option Addr) (len cap : Nat) (zs : List Int) : Prop :=
  (a = none ∧ len = 0 ∧ cap = 0 ∧ zs = []) ∨
  ∃ x, a = some x ∧ len ≤ cap ∧ cap ≤ maxLen ∧ zs.length = cap ∧ (∀ i, i < zs.length → w.cell? (x.add i) = some (.int k (zs.getD i 0))) ∧ ∀ n ∈ zs, (Lit.int k n).wf = true

theorem byte_of_int (z : Int) (h : (Lit.int .u8 z).wf = true) : ((UInt8.ofNat z.toNat).toNat : Int) = z := by
  obtain ⟨h1, h2⟩ := bounds_u8 h
  rw [byte_ofNat]; omega

theorem IsRow.bytes {w : World} {A : Option Addr} {n cp : Nat} {zs : List Int} (h : IsRow .u8 w A n cp zs) : ∃ l, Lies w w.heap.size 1 A n (bc l) ∧ n ≤ cp ∧ cp ≤ maxLen := by
  rcases h with ⟨rfl, rfl, rfl, rfl⟩ | ⟨x, rfl, h1, h2, h3, h4, h5⟩
  · exact ⟨[], Lies.nil, Nat.le_refl _, Nat.zero_le _⟩
  · refine ⟨(zs.take n).map (fun z => UInt8.ofNat z.toNat), ⟨by simp [bc_length]; omega, fun j u hu => ?_⟩, h1, h2⟩
    have hj : j < n := by
      have := (List.getElem?_eq_some_iff.1 hu).1
      simp [bc_length] at this
      omega
    have hjz : j < zs.length := by omega
    have hc := h4 j hjz
    have hlt : (x.add j).block < w.heap.size := World.block_lt_of_cell? w _ hc
    rw [block_add] at hlt
    refine ⟨x, rfl, hlt, ?_⟩
    rw [hc]
    simp [bc, List.getElem?_take_of_lt hj, List.getElem?_eq_getElem hjz] at hu
    rw [← hu]
    have hw := byte_of_int zs[j] (h5 _ (List.getElem_mem hjz))
    rw [byte_ofNat] at hw
    simp [List.getD_eq_getElem?_getD, List.getElem?_eq_getElem hjz]
    omega

set_option maxHeartbeats 400000 in
theorem greatly (A : Option Addr) (n cp : Nat) (w : World) (h : n ≤ maxLen) (hg : 10000 < n) :
    Calls Try.prog 10 #[.slice A n cp] w fun e w' => e = .returned (.bool true) ∧ w = w' := by
  unfold maxLen at h
  go_enter Try.func10, Try.ntmps10
  go_wp2
  go_ret
  exact ⟨by simp; omega, rfl⟩

set_option maxHeartbeats 400000 in
theorem lightly (A : Option Addr) (n cp : Nat) (w : World) (hg : n ≤ 10000) :
    Calls Try.prog 10 #[.slice A n cp] w fun e w' => e = .returned (.bool false) ∧ w = w' := by
  go_enter Try.func10, Try.ntmps10
  go_wp2
  go_ret
  exact ⟨by simp; omega, rfl⟩

set_option maxHeartbeats 400000 in
theorem sums_walk (A : Option Addr) (n cp : Nat) (l : List UInt8) (w : World) (hA : Lies w w.heap.size 1 A n (bc l)) (hc : n ≤ cp) (hm : cp ≤ maxLen) :
    Calls Try.prog 3 #[.slice A n cp] w fun e w' => e = .returned (.bool true) ∧ Below w.heap.size w w' := by
  obtain ⟨i0, hi, hz0, hz1, hz2⟩ := info_parts Try.info5
  by_cases hg : 10000 < n
  · go_enter Try.func3, Try.ntmps3
    go_wp2_with fail
    refine (greatly A n cp w (Nat.le_trans hc hm) hg).mono ?_
    rintro e w' ⟨rfl, rfl⟩
    go_wp2_with fail
    refine (knows_any _).mono ?_
    rintro e w1 ⟨rfl, hb⟩
    go_wp2_with fail
    go_ret
    exact ⟨rfl, hb⟩
  · go_enter Try.func3, Try.ntmps3
    go_wp2_with fail
    refine (lightly A n cp w (by omega)).mono ?_
    rintro e w' ⟨rfl, rfl⟩
    have hAa := hA.next (below_alloc w (.cells #[] 5))
    go_wp2_with (at_builtin; go_must (refine wpList_app _ rfl (.tmp 6) (.tmp 7) 22 rfl w.heap.size 5 i0 (.int .u8 0) 1 1 Try.underlying22 hi hz0 hz1 hz2 rfl (by decide) _ 0 0 [] rfl (own_empty w 5 _ (Nat.le_refl _)) _ A n cp _ rfl hAa (bc_one _) n (bc l) (by omega) rfl (by unfold maxLen; omega) (by omega) (below_alloc w (.cells #[] 5)).size ?_))
    intro A2 c2 w2 ho2 hb2
    have hb02 : Below w.heap.size w w2 := (below_alloc w (.cells #[] 5)).trans hb2
    have hA2 := hA.next hb02
    clear hAa hb2
    go_wp2_with fail
    refine (sum_any A2 n c2 l _ (by omega) (Lies.of_own ho2)).mono ?_
    rintro e w' ⟨rfl, rfl⟩
    go_wp2_with fail
    refine (rsum_any A n cp l _ (by omega) hA2).mono ?_
    rintro e w' ⟨rfl, rfl⟩
    generalize crcOf l = q
    have hq : ((q : Int) == (q : Int)) = true := by simp
    go_wp2_with fail
    refine (knows_any _).mono ?_
    rintro e w3 ⟨rfl, hb3⟩
    have hb03 : Below w.heap.size w w3 := hb02.trans (hb3.mono hb02.size)
    go_wp2_with fail
    go_ret
    exact ⟨rfl, hb03⟩
end Go.Proofs.Ytalggmdnefolfaa
