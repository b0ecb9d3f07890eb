/-
  A row of messages of the call's own, as the sort wants it and leaves it; the contracts of slices.Grow at nil, slices.SortStableFunc at a row of the call's own. No condition but that the messages are not too many.
-/
import Derived.Test.YtkmflofokgkekaaMat
import Derived.Test.YtkmflofokgkekaaSwF
import Derived.Lib.AppendZeros
import Derived.Deep.DeepMust
namespace Go.Proofs.Ytkmflofokgkekaa
open Go.RowKit Go.Sort
set_option linter.unusedVariables false

theorem flat_mc (l : List Ms) : (flatK me 2 l.toArray).toList = mc l := by
  apply List.ext_getElem?
  intro t
  by_cases ht : t < l.length * 2
  · have hs : t < (flatK me 2 l.toArray).size := by rw [size_flatK]; simpa using ht
    rw [Array.getElem?_toList, Array.getElem?_eq_getElem hs, ← getElem!_pos _ t hs, get_flatK _ _ _ _ (by simpa using ht)]
    have hq : t / 2 < l.length := by omega
    obtain ⟨e0, e1⟩ := mc_at l (t / 2) hq
    have ea : l.toArray[t / 2]! = mAt l (t / 2) := by rw [mAt_get l _ hq, getElem!_pos _ _ (by simpa using hq)]; simp
    rw [ea]
    rcases Nat.mod_two_eq_zero_or_one t with h | h
    · rw [h]
      have : t = t / 2 * 2 := by omega
      rw [← this] at e0
      rw [e0]; rfl
    · rw [h]
      have : t = t / 2 * 2 + 1 := by omega
      rw [← this] at e1
      rw [e1]; rfl
  · rw [Array.getElem?_toList, Array.getElem?_eq_none (show (flatK me 2 l.toArray).size ≤ t by rw [size_flatK]; simp; omega), List.getElem?_eq_none (show (mc l).length ≤ t by rw [mc_length]; omega)]

section
variable {w w' : World} {base g n cap : Nat} {l : List Ms}

theorem own_len {A : Option Addr} {c : Nat} (h : w.ownsRow base 57 2 (.slice A n c) n (mc l)) : l.length = n := by
  have := h.1
  rw [mc_length] at this
  omega

theorem own_holds (h : w.ownsRow base 57 2 (.slice (some ⟨g, 0, none⟩) n cap) n (mc l)) : HoldsK me 2 w g 0 l.toArray := by
  intro j hj
  have hj' : j < (mc l).length := by rw [mc_length]; rw [size_flatK] at hj; simpa using hj
  have e : (mc l)[j]? = some ((flatK me 2 l.toArray)[j]!) := by
    rw [← flat_mc, Array.getElem?_toList, Array.getElem?_eq_getElem hj, getElem!_pos _ j hj]
  refine ⟨?_, h.frozenAt _⟩
  have := h.cells (g := g) rfl j _ e
  rw [show (⟨g, 0, none⟩ : Addr).add j = ⟨g, 0 + j, none⟩ by unfold Addr.add; split <;> simp_all] at this
  exact this

theorem own_row (h : w.ownsRow base 57 2 (.slice (some ⟨g, 0, none⟩) n cap) n (mc l)) : Row w g 0 n :=
  ⟨⟨l.toArray, by simpa using own_len h, own_holds h⟩, (h.lt g rfl).2⟩

theorem own_sorted (h : w.ownsRow base 57 2 (.slice (some ⟨g, 0, none⟩) n cap) n (mc l)) (d : Array Ms) (hd : d.size = n) (S : Sw w g 0 d w') :
    w'.ownsRow base 57 2 (.slice (some ⟨g, 0, none⟩) n cap) n (mc d.toList) ∧ Below base w w' := by
  obtain ⟨q, os, rfl⟩ := S
  have hlt := (h.lt g rfl).2
  have hb0 := (h.lt g rfl).1
  rcases h.2 with ⟨e0, _⟩ | ⟨g', cap', cur, e0, hb, hg, hn, hm, hs, ht⟩
  · cases e0
  · injection e0 with e1 _ e3
    injection e1 with e1
    injection e1 with e1
    subst e1; subst e3
    have hsz : (flatK me 2 d).size = n * 2 := by rw [size_flatK, hd]
    have hgs : ∀ k, k < w.heap.size → (grow (putRowK me 2 (Sort.ahead w q) g 0 d) os).heap[k]? = (putRowK me 2 (Sort.ahead w q) g 0 d).heap[k]? := by
      intro k hk
      show ((putRowK me 2 (Sort.ahead w q) g 0 d).heap ++ os)[k]? = _
      rw [Array.getElem?_append_left]
      simpa [putRowK, putRow, mapBlock, Sort.ahead] using hk
    refine ⟨⟨by rw [mc_length]; simp; omega, .inr ⟨g, cap, putCells id 0 (flatK me 2 d) cur, rfl, hb, ?_, hn, hm, by simpa [putCells] using hs, ?_⟩⟩, ?_⟩
    · rw [hgs g hlt]
      simp [putRowK, putRow, mapBlock, Sort.ahead, Array.getElem?_modify, hg, onCells]
    · have hf : mc d.toList = (flatK me 2 d).toList := by rw [← flat_mc]
      rw [hf]
      apply List.ext_getElem?
      intro j
      rw [List.getElem?_take, Array.getElem?_toList, Array.getElem?_toList]
      by_cases hj : j < n * 2
      · have hjc : j < cur.size := by rw [hs]; have := Nat.mul_le_mul_right 2 hn; omega
        simp only [if_pos hj, putCells, Array.getElem?_mapIdx, Array.getElem?_eq_getElem hjc, Option.map_some]
        rw [if_pos (by omega), Array.getElem?_eq_getElem (by omega)]
        simp
        exact getElem!_pos _ j _
      · rw [if_neg hj, Array.getElem?_eq_none (by omega)]
    · refine ⟨rfl, rfl, rfl, ?_, fun k hk => ?_⟩
      · show w.heap.size ≤ ((putRowK me 2 (Sort.ahead w q) g 0 d).heap ++ os).size
        simp [putRowK, putRow, mapBlock, Sort.ahead]
      · rw [hgs k (by omega)]
        simp [putRowK, putRow, mapBlock, Sort.ahead, Array.getElem?_modify, show g ≠ k by omega]
end

/-- The sort at nil. -/
theorem ins_nil (w : World) : Calls Try.prog 101 #[.slice none 0 0, .int .i64 0, .int .i64 0, .func (.func 87) #[] #[]] w fun e w' => e = .returned (.tuple #[]) ∧ w = w' := by
  go_enter Try.func101, Try.ntmps101
  go_wp2_with fail
  go_loopw [8] (fun i W => i = .int .i64 1 ∧ w = W) (fun i W => 0)
  case atStart => exact ⟨rfl, rfl⟩
  case round =>
    obtain ⟨rfl, rfl⟩ := hrel
    go_wp2_with fail
    go_end0
    exact ⟨rfl, rfl⟩

theorem stable_nil (w : World) : Calls Try.prog 98 #[.slice none 0 0, .int .i64 0, .func (.func 87) #[] #[]] w fun e w' => e = .returned (.tuple #[]) ∧ w = w' := by
  go_enter Try.func98, Try.ntmps98
  go_wp2_with fail
  go_loopw [7, 8] (fun a b W => a = .int .i64 0 ∧ b = .int .i64 20 ∧ w = W) (fun a b W => 0)
  case atStart => exact ⟨rfl, rfl, rfl⟩
  case round =>
    obtain ⟨rfl, rfl, rfl⟩ := hrel
    go_wp2_with fail
    refine (ins_nil _).mono ?_
    rintro e w2 ⟨rfl, rfl⟩
    go_wp2_with fail
    go_loopw [6] (fun s W => s = .int .i64 20 ∧ w = W) (fun s W => 0)
    case atStart => exact ⟨rfl, rfl⟩
    case round =>
      obtain ⟨rfl, rfl⟩ := hrel
      go_wp2_with fail
      go_end0
      exact ⟨rfl, rfl⟩

/-- SortStableFunc at a row of the call's own. -/
theorem sortf_any (base : Nat) (A : Option Addr) (n c : Nat) (l : List Ms) (w : World) (h : w.ownsRow base 57 2 (.slice A n c) n (mc l)) (hn : n ≤ 1000000) :
    Calls Try.prog 92 #[.slice A n c, .func (.func 87) #[] #[]] w fun e w' => e = .returned (.tuple #[]) ∧ w'.ownsRow base 57 2 (.slice A n c) n (mc (msort l)) ∧ Below base w w' := by
  have hl := own_len h
  rcases h.2 with ⟨e0, h0⟩ | ⟨g, cap, cur, e0, hb, hg, rest⟩
  · injection e0 with e1 e2 e3
    subst e1 e2 e3
    have : l = [] := List.eq_nil_of_length_eq_zero hl
    subst this
    go_enter Try.func92, Try.ntmps92
    go_wp2_with fail
    refine (stable_nil _).mono ?_
    rintro e w2 ⟨rfl, rfl⟩
    go_wp2_with fail
    go_end0
    exact ⟨rfl, World.ownsRow_nil _ _ _ _, Below.refl _ _⟩
  · injection e0 with e1 e2 e3
    subst e1 e3
    have HC := Lib.hid (stable_any c l.toArray w (own_row h) (by simpa using hl) (Sw.start (own_holds h)) (by omega))
    have HO := Lib.hid h
    have HL := Lib.hid hl
    clear rest hg hb h hl
    go_enter Try.func92, Try.ntmps92
    go_wp2_with fail
    refine HC.out.mono ?_
    rintro e w2 ⟨rfl, d, S, P, T⟩
    have hd : d.size = n := by rw [P.1]; simpa using HL.out
    obtain ⟨o2, b2⟩ := own_sorted HO.out d hd S
    have hp : d.toList = msort l := by
      refine msort_is ?_ ?_
      · have := P.2.2
        rw [show d.extract 0 n = d by rw [← hd]; simp, show l.toArray.extract 0 n = l.toArray by rw [← HL.out]; simp] at this
        simpa using this
      · unfold Srt
        rw [List.pairwise_iff_getElem]
        intro i j hi hj hij
        have := T i j (Nat.zero_le _) hij (by rw [← hd]; simpa using hj)
        rw [getElem!_pos d i (by simpa using hi), getElem!_pos d j (by simpa using hj)] at this
        simpa using this
    rw [hp] at o2
    have HO2 := Lib.hid o2
    have HB2 := Lib.hid b2
    clear o2 b2 S P T hd hp
    go_wp2_with fail
    go_end0
    exact ⟨rfl, HO2.out, HB2.out⟩

end Go.Proofs.Ytkmflofokgkekaa
