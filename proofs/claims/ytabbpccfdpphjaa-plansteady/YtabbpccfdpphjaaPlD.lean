import Derived.Test.YtabbpccfdpphjaaPlC
import Derived.Lib.MinMax
/-
  The contracts of plan.fit, finder, its closure, Loads, and of the document's own load, Loads, given. No condition but that the lists have at most a million numbers.
-/
namespace Go.Proofs.Ytabbpccfdpphjaa
open Go.ChangeShapes Go.WideShapes Go.ChangeAt Go.RowKit
set_option linter.unusedVariables false

theorem own_lower {w : World} {base base' s n : Nat} {e : TypeId} {v : Value} {xs : List Value} (h : w.ownsRow base e s v n xs) (hb : base' ≤ base) : w.ownsRow base' e s v n xs := by
  refine ⟨h.1, ?_⟩
  rcases h.2 with h2 | ⟨g, cap, cur, hv, hg, r⟩
  · exact .inl h2
  · exact .inr ⟨g, cap, cur, hv, Nat.le_trans hb hg, r⟩
/-- May these be what loads are reckoned of? -/
def fitB (os ms cost slow : List Int) : Bool := rightO os && (rgt ms && (decide (cost.length = os.length) && (inB 0 1000 cost && (decide (slow.length = ms.length) && inB 1 10 slow))))
theorem inB_iff (a b : Int) (l : List Int) : inB a b l = true ↔ ∀ x ∈ l, a ≤ x ∧ x ≤ b := by
  unfold inB; rw [List.all_eq_true]
  exact ⟨fun h x hx => of_decide_eq_true (h x hx), fun h x hx => decide_eq_true (h x hx)⟩
theorem fitB_iff (os ms cost slow : List Int) : fitB os ms cost slow = true ↔ (rightO os = true ∧ rgt ms = true ∧ cost.length = os.length ∧ slow.length = ms.length ∧ (∀ x ∈ cost, 0 ≤ x ∧ x ≤ 1000) ∧ (∀ x ∈ slow, 1 ≤ x ∧ x ≤ 10)) := by
  unfold fitB
  simp only [Bool.and_eq_true, decide_eq_true_eq, inB_iff]
  exact ⟨fun ⟨a, b, c, d, e, f⟩ => ⟨a, b, c, e, d, f⟩, fun ⟨a, b, c, e, d, f⟩ => ⟨a, b, c, d, e, f⟩⟩
theorem ldE_no {os ms cost slow : List Int} (h : fitB os ms cost slow = false) : ldE os ms cost slow = 1 := by
  unfold ldE; rw [if_neg (fun h2 => by rw [(fitB_iff ..).2 h2] at h; cases h)]
theorem ldE_four {os ms cost slow : List Int} (h : fitB os ms cost slow = true) {x : Int} (hx : x ∈ os) (hm : x ∉ ms) : ldE os ms cost slow = 4 := by
  unfold ldE; rw [if_pos ((fitB_iff ..).1 h), if_neg (fun h2 => hm (h2 x hx))]
theorem ldE_ok {os ms cost slow : List Int} (h : fitB os ms cost slow = true) (h2 : ∀ x ∈ os, x ∈ ms) : ldE os ms cost slow = 0 := ldE_of ((fitB_iff ..).1 h) h2
theorem fit_any (A1 : Option Addr) (c1 : Nat) (os : List Int) (A2 : Option Addr) (c2 : Nat) (ms : List Int) (A3 : Option Addr) (c3 : Nat) (cost : List Int) (A4 : Option Addr) (c4 : Nat) (slow : List Int) (w : World)
    (h1 : Lies w w.heap.size 1 A1 os.length (vc os)) (h2 : Lies w w.heap.size 1 A2 ms.length (vc ms)) (h3 : Lies w w.heap.size 1 A3 cost.length (vc cost)) (h4 : Lies w w.heap.size 1 A4 slow.length (vc slow))
    (n1 : os.length ≤ 1000000) (n2 : ms.length ≤ 1000000) (n3 : cost.length ≤ 1000000) (n4 : slow.length ≤ 1000000) :
    Calls Try.prog 30 #[.slice A1 os.length c1, .slice A2 ms.length c2, .slice A3 cost.length c3, .slice A4 slow.length c4] w fun e w' => e = .returned (.bool (fitB os ms cost slow)) ∧ w = w' := by
  have H1 := Lib.hid h1
  have H2 := Lib.hid h2
  have H3 := Lib.hid h3
  have H4 := Lib.hid h4
  have HF := Lib.hid (show fitB os ms cost slow = (rightO os && (rgt ms && (decide (cost.length = os.length) && (inB 0 1000 cost && (decide (slow.length = ms.length) && inB 1 10 slow))))) from rfl)
  clear h1 h2 h3 h4
  go_enter Try.func30, Try.ntmps30
  go_wp2_with fail
  refine (pright_any A1 c1 os _ H1.out n1).mono ?_
  rintro e w1 ⟨rfl, rfl⟩
  cases hr : rightO os with
  | false =>
    have HT := Lib.hid (show fitB os ms cost slow = false by rw [HF.out, hr]; rfl)
    clear hr
    go_wp2_with fail
    go_ret
    exact ⟨ret_bool HT.out.symm, rfl⟩
  | true =>
    have R1 := Lib.hid hr
    clear hr
    go_wp2_with fail
    refine (right_any A2 c2 ms _ H2.out n2).mono ?_
    rintro e w1 ⟨rfl, rfl⟩
    cases hr : rgt ms with
    | false =>
      have HT := Lib.hid (show fitB os ms cost slow = false by rw [HF.out, hr]; simp)
      clear hr
      go_wp2_with fail
      go_ret
      exact ⟨ret_bool HT.out.symm, rfl⟩
    | true =>
      have R2 := Lib.hid hr
      clear hr
      by_cases hl : cost.length = os.length
      · have L3 := Lib.hid hl
        have hl' : ((cost.length : Int) == (os.length : Int)) = true := by simp; omega
        clear hl
        go_wp2_with fail
        refine (within_any A3 c3 cost 0 1000 _ H3.out n3).mono ?_
        rintro e w1 ⟨rfl, rfl⟩
        cases hr : inB 0 1000 cost with
        | false =>
          have HT := Lib.hid (show fitB os ms cost slow = false by rw [HF.out, hr]; simp)
          clear hr
          go_wp2_with fail
          go_ret
          exact ⟨ret_bool HT.out.symm, rfl⟩
        | true =>
          have R3 := Lib.hid hr
          clear hr
          by_cases hl2 : slow.length = ms.length
          · have L4 := Lib.hid hl2
            have hl2' : ((slow.length : Int) == (ms.length : Int)) = true := by simp; omega
            clear hl2
            have HT := Lib.hid (show fitB os ms cost slow = inB 1 10 slow by rw [HF.out, R1.out, R2.out, R3.out, decide_eq_true L3.out, decide_eq_true L4.out]; rfl)
            go_wp2_with fail
            refine (within_any A4 c4 slow 1 10 _ H4.out n4).mono ?_
            rintro e w1 ⟨rfl, rfl⟩
            go_wp2_with fail
            go_ret
            exact ⟨ret_bool HT.out.symm, rfl⟩
          · have HT := Lib.hid (show fitB os ms cost slow = false by rw [HF.out, decide_eq_false hl2]; simp)
            have hl2' : ((slow.length : Int) == (ms.length : Int)) = false := by simp; omega
            clear hl2
            go_wp2_with fail
            go_ret
            exact ⟨ret_bool HT.out.symm, rfl⟩
      · have HT := Lib.hid (show fitB os ms cost slow = false by rw [HF.out, decide_eq_false hl]; simp)
        have hl' : ((cost.length : Int) == (os.length : Int)) = false := by simp; omega
        clear hl
        go_wp2_with fail
        go_ret
        exact ⟨ret_bool HT.out.symm, rfl⟩
theorem finder_any (A : Option Addr) (n c : Nat) (w : World) :
    Calls Try.prog 31 #[.slice A n c] w fun e w' => e = .returned (.func (.func 38) #[] #[.pointer (some ⟨w.heap.size, 0, none⟩)]) ∧ w.heap.size < w'.heap.size ∧ w'.cell? ⟨w.heap.size, 0, none⟩ = some (.slice A n c) ∧ Below w.heap.size w w' := by
  have HB := Lib.hid (below_alloc w (.cells #[.slice A n c] 22))
  have d0 := Lib.hid (show (w.alloc (.cells #[.slice A n c] 22)).cell? ⟨w.heap.size, 0, none⟩ = some (.slice A n c) by simp [go_sem])
  have HS := Lib.hid (show w.heap.size < (w.alloc (.cells #[.slice A n c] 22)).heap.size by simp)
  go_enter Try.func31, Try.ntmps31
  go_wp2_with fail
  go_ret
  exact ⟨rfl, HS.out, d0.out, HB.out⟩
theorem find_any (A : Option Addr) (c : Nat) (l : List Int) (x : Int) (b : Nat) (w : World) (hb : w.cell? ⟨b, 0, none⟩ = some (.slice A l.length c)) (hA : Lies w w.heap.size 1 A l.length (vc l)) (hn : l.length ≤ 1000000) :
    Calls Try.prog 38 #[.int .i64 x, .pointer (some ⟨b, 0, none⟩)] w fun e w' => e = .returned (.int .i64 (ixI l x)) ∧ w = w' := by
  have HA := Lib.hid hA
  clear hA
  go_enter Try.func38, Try.ntmps38
  go_wp2_with fail
  refine (index_any A c l x _ HA.out hn).mono ?_
  rintro e w1 ⟨rfl, rfl⟩
  go_wp2_with fail
  go_ret
  exact ⟨rfl, rfl⟩
/-- The loads of the first k partitions. -/
def ldK (os ms cost slow : List Int) (k : Nat) : List Int := (List.range ms.length).map fun i => ldI os cost (iAt ms i) (iAt slow i) k
theorem ldK_len (os ms cost slow : List Int) (k : Nat) : (ldK os ms cost slow k).length = ms.length := by unfold ldK; simp
theorem ldK_at {os ms cost slow : List Int} {k i : Nat} (h : i < ms.length) : iAt (ldK os ms cost slow k) i = ldI os cost (iAt ms i) (iAt slow i) k := by
  rw [iAt_get _ i (by rw [ldK_len]; exact h)]; unfold ldK; simp
theorem ldK_zero (os ms cost slow : List Int) : ldK os ms cost slow 0 = List.replicate ms.length 0 := by
  unfold ldK
  apply List.ext_getElem
  · simp
  · intro i h1 h2; simp [ldI]
theorem ldK_all (os ms cost slow : List Int) : ldK os ms cost slow os.length = ldL os ms cost slow := rfl
theorem ldK_succ {os ms cost slow : List Int} (hr : rgt ms = true) {k i : Nat} (hi : i < ms.length) (he : iAt ms i = iAt os k) : (ldK os ms cost slow k).set i (iAt (ldK os ms cost slow k) i + iAt cost k * iAt slow i) = ldK os ms cost slow (k + 1) := by
  apply List.ext_getElem
  · rw [List.length_set, ldK_len, ldK_len]
  · intro j h1 h2
    have hj : j < ms.length := by rw [ldK_len] at h2; exact h2
    rw [List.getElem_set]
    by_cases hij : i = j
    · subst hij
      rw [if_pos rfl, ldK_at hi]
      unfold ldK
      simp [ldI, he]
    · rw [if_neg hij]
      have hne : ¬ iAt os k = iAt ms j := fun h => hij (iAt_inj hr hi hj (he.trans h))
      unfold ldK
      simp [ldI, hne]
theorem prod_bd {c s : Int} (hc : 0 ≤ c ∧ c ≤ 1000) (hs : 1 ≤ s ∧ s ≤ 10) : 0 ≤ c * s ∧ c * s ≤ 10000 := by
  refine ⟨Int.mul_nonneg hc.1 (by omega), ?_⟩
  have h := Int.mul_le_mul hc.2 hs.2 (by omega) (by omega)
  omega
theorem ldI_bd {os cost : List Int} {w s : Int} (hc : ∀ x ∈ cost, 0 ≤ x ∧ x ≤ 1000) (hs : 1 ≤ s ∧ s ≤ 10) : ∀ k : Nat, k ≤ cost.length → 0 ≤ ldI os cost w s k ∧ ldI os cost w s k ≤ 10000 * (k : Int) := by
  intro k
  induction k with
  | zero => intro _; simp [ldI]
  | succ k ih =>
    intro hk
    have ih := ih (by omega)
    have hp := prod_bd (hc _ (iAt_mem cost k (by omega))) hs
    rw [ldI]
    split <;> omega
def loR (os ms cost slow : List Int) : List Int := if ldE os ms cost slow = 0 then ldL os ms cost slow else []
theorem lo_err {os ms cost slow : List Int} {E : Int} {w w' : World} (h : ldE os ms cost slow = E) (hE : E ≠ 0) (hb : Below w.heap.size w w') : OlPost (loR os ms cost slow) (ldE os ms cost slow) w (.returned (.tuple #[.slice none 0 0, .int .i64 E])) w' := by
  unfold loR
  rw [h, if_neg hE]
  exact ⟨none, 0, rfl, World.ownsRow_nil _ _ _ _, hb⟩
theorem lo_ok {os ms cost slow : List Int} {n : Nat} {w w' : World} {D : Option Addr} {d : Nat} (h : ldE os ms cost slow = 0) (hn : (ldL os ms cost slow).length = n) (ho : w'.ownsRow w.heap.size 3 1 (.slice D n d) n (vc (ldL os ms cost slow))) (hb : Below w.heap.size w w') :
    OlPost (loR os ms cost slow) (ldE os ms cost slow) w (.returned (.tuple #[.slice D n d, .int .i64 0])) w' := by
  unfold loR
  rw [h, if_pos rfl]
  subst hn
  exact ⟨D, d, rfl, ho, hb⟩
theorem in_all {os ms : List Int} {k : Nat} (h : ∀ j, j < k → iAt os j ∈ ms) (h2 : os.length ≤ k) : ∀ x ∈ os, x ∈ ms := by
  intro x hx
  obtain ⟨i, hi, he⟩ := List.mem_iff_getElem.1 hx
  have := h i (by omega)
  rw [iAt_get os i hi, he] at this
  exact this
def LoRel (os ms cost slow : List Int) (w : World) (b g : Nat) (i : Value) (W : World) : Prop := ∃ k : Nat, i = .int .i64 k ∧ k ≤ os.length ∧ Hid (∀ j, j < k → iAt os j ∈ ms) ∧ Hid (Below w.heap.size w W) ∧ Hid (W.ownsRow b 3 1 (.slice (some ⟨g, 0, none⟩) ms.length ms.length) ms.length (vc (ldK os ms cost slow k))) 
set_option maxHeartbeats 4000000 in
theorem loads_any (A1 : Option Addr) (c1 : Nat) (os : List Int) (A2 : Option Addr) (c2 : Nat) (ms : List Int) (A3 : Option Addr) (c3 : Nat) (cost : List Int) (A4 : Option Addr) (c4 : Nat) (slow : List Int) (w : World)
    (h1 : Lies w w.heap.size 1 A1 os.length (vc os)) (h2 : Lies w w.heap.size 1 A2 ms.length (vc ms)) (h3 : Lies w w.heap.size 1 A3 cost.length (vc cost)) (h4 : Lies w w.heap.size 1 A4 slow.length (vc slow))
    (n1 : os.length ≤ 1000000) (n2 : ms.length ≤ 1000000) (n3 : cost.length ≤ 1000000) (n4 : slow.length ≤ 1000000) :
    Calls Try.prog 20 #[.slice A1 os.length c1, .slice A2 ms.length c2, .slice A3 cost.length c3, .slice A4 slow.length c4] w (OlPost (loR os ms cost slow) (ldE os ms cost slow) w) := by
  have H1 := Lib.hid h1
  have H2 := Lib.hid h2
  have H3 := Lib.hid h3
  have H4 := Lib.hid h4
  clear h1 h2 h3 h4
  cases hf : fitB os ms cost slow with
  | false =>
    have HT := Lib.hid (ldE_no hf)
    have HF := Lib.hid hf
    clear hf
    go_enter Try.func20, Try.ntmps20
    go_wp2_with fail
    refine (fit_any A1 c1 os A2 c2 ms A3 c3 cost A4 c4 slow _ H1.out H2.out H3.out H4.out n1 n2 n3 n4).mono ?_
    rintro e w1 ⟨rfl, rfl⟩
    rw [HF.out]
    go_wp2_with fail
    go_ret2
    exact lo_err HT.out (by decide) (Below.refl _ _)
  | true =>
    have HF := Lib.hid hf
    have HP := Lib.hid ((fitB_iff ..).1 hf)
    have HO6 := Lib.hid (rightO_len HP.out.1)
    have HM5 := Lib.hid (rgt_len HP.out.2.1)
    have hm5 : ms.length ≤ 5 := HM5.out.2
    have ho6 : os.length ≤ 6 := HO6.out.2
    clear hf
    go_enter Try.func20, Try.ntmps20
    go_wp2_with fail
    refine (fit_any A1 c1 os A2 c2 ms A3 c3 cost A4 c4 slow _ H1.out H2.out H3.out H4.out n1 n2 n3 n4).mono ?_
    rintro e w1 ⟨rfl, rfl⟩
    rw [HF.out]
    go_wp2_with fail
    refine (finder_any A2 ms.length c2 _).mono ?_
    rintro e w1 ⟨rfl, hz1, hc1, hb1⟩
    obtain ⟨bf, hbf⟩ : ∃ b, b = w.heap.size := ⟨_, rfl⟩
    have HBF := Lib.hid hbf
    rw [← hbf] at hz1 hc1 ⊢
    clear hbf
    have HB1 := Lib.hid (show Below w.heap.size w w1 by rw [← HBF.out]; rw [← HBF.out] at hb1; exact hb1)
    have HZ1 := Lib.hid hz1
    have HC1 := Lib.hid hc1
    obtain ⟨m, hm⟩ : ∃ m, m = ms.length := ⟨_, rfl⟩
    have HM := Lib.hid hm
    have hmk : (Instr.makeSlice 22 (.int .i64 (ms.length : Int)) (.int .i64 (ms.length : Int))).run Try.prog w1 = .ok (.slice (some ⟨w1.heap.size, 0, none⟩) ms.length ms.length) (w1.alloc (.cells (madeCells #[.int .i64 0] ms.length) 3)) := run_make_row' 22 3 (.int .i64 0) 8 Try.underlying22 (by kernel_rfl) rfl .i64 .i64 ms.length (by omega) (by omega) w1
    have HO := Lib.hid (show (w1.alloc (.cells (madeCells #[.int .i64 0] ms.length) 3)).ownsRow w1.heap.size 3 1 (.slice (some ⟨w1.heap.size, 0, none⟩) ms.length ms.length) ms.length (vc (ldK os ms cost slow 0)) by
      have e := made_v ms.length
      rw [ldK_zero]
      refine ⟨by rw [vc_len]; simp, .inr ⟨w1.heap.size, ms.length, madeCells #[.int .i64 0] ms.length, rfl, Nat.le_refl _, heap_alloc_new _ _, Nat.le_refl _, by unfold maxLen; omega, by rw [← Array.length_toList, e, vc_len]; simp, ?_⟩⟩
      rw [e, Nat.mul_one]; exact List.take_of_length_le (by rw [vc_len]; simp))
    have HBA := Lib.hid (HB1.out.trans ((below_alloc w1 (.cells (madeCells #[.int .i64 0] ms.length) 3)).mono HB1.out.size))
    have HBX := Lib.hid (below_alloc w1 (.cells (madeCells #[.int .i64 0] ms.length) 3))
    clear hz1 hc1 hb1 hm
    go_wp2_with fail
    generalize w1.alloc (.cells (madeCells #[.int .i64 0] ms.length) 3) = w3 at HO HBA HBX ⊢
    clear hmk
    have HC3 := Lib.hid (show ∀ W : World, Below w1.heap.size w1 W → W.cell? ⟨bf, 0, none⟩ = some (.slice A2 ms.length c2) from fun W h => (h.cell (p := ⟨bf, 0, none⟩) HZ1.out).trans HC1.out)
    obtain ⟨g, hg⟩ : ∃ g, g = w1.heap.size := ⟨_, rfl⟩
    have HG := Lib.hid hg
    rw [← hg] at HO ⊢
    clear hg
    go_loopw [28] (fun i W => LoRel os ms cost slow w g g i W ∧ Hid (Below w1.heap.size w1 W)) (fun i W => os.length - (intOf i).toNat)
    case atStart => exact ⟨⟨0, rfl, Nat.zero_le _, Lib.hid (fun j h => by omega), HBA, HO⟩, HBX⟩
    case round =>
      obtain ⟨⟨k, rfl, hk, HIN, HW, HOW⟩, HWX⟩ := hrel
      by_cases hlt : k < os.length
      · obtain ⟨ad, rfl, hadb, e0⟩ := (H1.out.below HW.out).vs k hlt
        have hkl : (k : Int) < (os.length : Int) := by omega
        have HL2 := Lib.hid (H2.out.next HW.out)
        have hcb := HC3.out wr HWX.out
        go_wp2_with fail
        refine (find_any A2 c2 ms (iAt os k) bf _ hcb HL2.out n2).mono ?_
        rintro e w5 ⟨rfl, rfl⟩
        rcases ixI_spec ms (iAt os k) with ⟨hx, hno⟩ | ⟨i, hx, hi, he⟩
        · have HT := Lib.hid (ldE_four HF.out (iAt_mem os k hlt) hno)
          rw [hx]
          clear hno hx hcb
          go_wp2_with fail
          go_ret2
          exact lo_err HT.out (by decide) HW.out
        · rw [hx]
          have HS := Lib.hid (ldK_succ (os := os) (cost := cost) (slow := slow) HP.out.2.1 hi he)
          have HIN2 := Lib.hid (show ∀ j, j < k + 1 → iAt os j ∈ ms from fun j hj => by
            by_cases hjk : j < k
            · exact HIN.out j hjk
            · obtain rfl : j = k := by omega
              rw [← he]; exact iAt_mem ms i hi)
          have hil : (i : Int) < (ms.length : Int) := by omega
          obtain ⟨a3, rfl, _, e3⟩ := (H3.out.below HW.out).vs k (by have := HP.out.2.2.1; omega)
          obtain ⟨a4, rfl, _, e4⟩ := (H4.out.below HW.out).vs i (by have := HP.out.2.2.2.1; omega)
          have hkc : (k : Int) < (cost.length : Int) := by have := HP.out.2.2.1; omega
          have his : (i : Int) < (slow.length : Int) := by have := HP.out.2.2.2.1; omega
          have hc := HP.out.2.2.2.2.1 _ (iAt_mem cost k (by omega))
          have hs := HP.out.2.2.2.2.2 _ (iAt_mem slow i (by omega))
          have hpb := prod_bd hc hs
          have hyb := ldI_bd (os := os) (w := iAt ms i) HP.out.2.2.2.2.1 hs k (by omega)
          rw [← ldK_at hi] at hyb
          have ey : wr.cell? ⟨g, i, none⟩ = some (.int .i64 (iAt (ldK os ms cost slow k) i)) := (HOW.out.cellAt i (by omega)).trans (vc_at _ i (by rw [ldK_len]; exact hi))
          have fy := HOW.out.frozenAt i
          generalize iAt (ldK os ms cost slow k) i = y at *
          generalize iAt cost k = cx at *
          generalize iAt slow i = sx at *
          obtain ⟨q, hq⟩ : ∃ q, cx * sx = q := ⟨_, rfl⟩
          rw [hq] at hpb HS
          obtain ⟨z, hz⟩ : ∃ z, y + q = z := ⟨_, rfl⟩
          rw [hz] at HS
          have hwq : IntKind.i64.wrap q = q := by simp [IntKind.wrap, IntKind.bits, IntKind.signed]; omega
          have hwz : IntKind.i64.wrap z = z := by simp [IntKind.wrap, IntKind.bits, IntKind.signed]; omega
          have HOD := Lib.hid (own_next HOW.out (below_to_drewN (Below.refl _ wr) 1))
          clear hcb hc hs hx he
          go_upto_region 11 with fail
          have HO6 := Lib.hid ((HOW.out.stored i (.int .i64 z)).1)
          have HW6 := Lib.hid (HW.out.setCell (p := ⟨g, i, none⟩) (by show w.heap.size ≤ g; have := HB1.out.size; have := HG.out; omega) (.int .i64 z)).drew
          have HX6 := Lib.hid (HWX.out.setCell (p := ⟨g, i, none⟩) (by show w1.heap.size ≤ g; have := HG.out; omega) (.int .i64 z)).drew
          go_region
          have HO7 := Lib.hid (own_next HO6.out (Below.refl _ (wr.setCell ⟨g, i, none⟩ (.int .i64 z))).drew)
          clear hq hz hwq hwz ey fy e3 e4 e0
          go_wp2_with fail
          go_roundw
          case rel => exact ⟨⟨k + 1, by go_num, by omega, HIN2, HW6, by rw [← HS.out, ← vc_set]; exact HO7⟩, HX6⟩
          case measure => simp [intOf]; omega
      · have hk' : k = os.length := by omega
        subst hk'
        have HT := Lib.hid (ldE_ok HF.out (in_all HIN.out (Nat.le_refl _)))
        have HLL := Lib.hid (ldL_len os ms cost slow)
        go_wp2_with fail
        go_ret2
        exact lo_ok HT.out HLL.out (by have h9 := HOW.out; rw [ldK_all] at h9; exact own_lower h9 (by have := HB1.out.size; have := HG.out; omega)) HW.out
end Go.Proofs.Ytabbpccfdpphjaa
