import Derived.Test.YtgdgjkdigbohlaaRgG
/-
  The walk of RingComes. No condition but that the numbers are of 64 bits.
-/
namespace Go.Proofs.Ytgdgjkdigbohlaa
open Go.ChangeShapes Go.WideShapes Go.ChangeAt Go.RowKit
set_option linter.unusedVariables false

/-- A number put into a rising list. -/
def insO (v : Int) : List Int → List Int
  | [] => [v]
  | a :: l => if v < a then v :: a :: l else a :: insO v l
theorem insO_mem (v : Int) (l : List Int) (x : Int) : x ∈ insO v l ↔ x = v ∨ x ∈ l := by
  induction l with
  | nil => simp [insO]
  | cons a l ih =>
    rw [insO]
    split
    · simp
    · simp only [List.mem_cons, ih]
      constructor
      · rintro (h | h | h)
        · exact .inr (.inl h)
        · exact .inl h
        · exact .inr (.inr h)
      · rintro (h | h | h)
        · exact .inr (.inl h)
        · exact .inl h
        · exact .inr (.inr h)
theorem insO_len (v : Int) (l : List Int) : (insO v l).length = l.length + 1 := by
  induction l with
  | nil => rfl
  | cons a l ih =>
    rw [insO]
    split
    · simp
    · simp [ih]
theorem insO_pairs (v : Int) (l : List Int) (h : l.Pairwise (· < ·)) (hv : v ∉ l) : (insO v l).Pairwise (· < ·) := by
  induction l with
  | nil => exact List.pairwise_singleton _ _
  | cons a l ih =>
    have h3 := List.pairwise_cons.1 h
    rw [insO]
    split
    · rename_i hlt
      refine List.Pairwise.cons (fun b hb => ?_) h
      rcases List.mem_cons.1 hb with rfl | hb
      · exact hlt
      · have := h3.1 b hb; omega
    · rename_i hlt
      have hva : v ≠ a := fun e => hv (by rw [e]; exact List.mem_cons_self)
      refine List.Pairwise.cons (fun b hb => ?_) (ih h3.2 (fun h => hv (List.mem_cons_of_mem _ h)))
      rcases (insO_mem v l b).1 hb with rfl | hb
      · omega
      · exact h3.1 b hb
theorem made_ins {ms : List Int} {v : Int} (h : rgt ms = true) (h4 : ms.length ≤ 4) (hv : 1 ≤ v ∧ v ≤ 99) (hn : v ∉ ms) : made (ms ++ [v]) 5 99 = insO v ms := by
  have hp := insO_pairs v ms (rise_pairs (rgt_rise h)) hn
  rw [made_all hp (by rw [insO_len]; omega) (fun x hx => (insO_mem v ms x).2 (by rcases List.mem_append.1 hx with hx | hx; exact .inr hx; simp at hx; exact .inl hx)) (fun x hx => by rcases (insO_mem v ms x).1 hx with rfl | hx; exact List.mem_append_right _ (by simp); exact List.mem_append_left _ hx) 99]
  apply List.filter_eq_self.2
  intro x hx
  rw [decide_eq_true_eq]
  rcases (insO_mem v ms x).1 hx with rfl | hx
  · exact hv
  · exact rgt_mem h hx
theorem ins_rgt {ms : List Int} {v : Int} (h : rgt ms = true) (h4 : ms.length ≤ 4) (hv : 1 ≤ v ∧ v ≤ 99) (hn : v ∉ ms) : rgt (insO v ms) = true := by
  rw [← made_ins h h4 hv hn]
  apply made_rgt (by decide)
  rw [made_ins h h4 hv hn]
  intro e
  have := insO_len v ms
  rw [e] at this
  simp at this
theorem own6_at (ms : List Int) {k : Nat} (h : k < 6) : iAt (ownL ms 6) k = ownI ms k := by
  unfold iAt; rw [List.getD_eq_getElem?_getD, ownL_at h]; rfl
theorem comes_at {ms : List Int} {v : Int} (h : rgt ms = true) (h4 : ms.length ≤ 4) (hv : 1 ≤ v ∧ v ≤ 99) (hn : v ∉ ms) {k : Nat} (hk : k < 6) : iAt (ownL (insO v ms) 6) k = iAt (ownL ms 6) k ∨ iAt (ownL (insO v ms) 6) k = v := by
  rw [own6_at _ hk, own6_at _ hk]
  have h' := ins_rgt h h4 hv hn
  exact own_comes (rgt_small h) (rgt_small h') (fun x hx => (insO_mem v ms x).2 (.inr hx)) (fun x hx => ((insO_mem v ms x).1 hx).symm) (ownI_is h k) (ownI_is h' k)
theorem own6 {ms : List Int} (h : rgt ms = true) : ownsR ms 6 = ownL ms 6 ∧ ownsE ms 6 = 0 := okL_yes (by unfold okL; rw [h]; rfl)
def CoRel (w : World) (i : Value) (W : World) : Prop := ∃ k : Nat, i = .int .i64 k ∧ k ≤ 6 ∧ Below w.heap.size w W
set_option maxHeartbeats 2000000 in
theorem comes_walk (A : Option Addr) (c : Nat) (l : List Int) (v : Int) (w : World) (hA : Lies w w.heap.size 1 A l.length (vc l)) (hn : l.length ≤ maxLen) :
    Calls Try.prog 7 #[.slice A l.length c, .int .i64 v] w fun e w' => e = .returned (.bool true) ∧ Below w.heap.size w w' := by
  have HA := Lib.hid hA
  clear hA
  by_cases hout : l.length ≤ 100 ∧ 1 ≤ v ∧ v ≤ 99
  · obtain ⟨iv, hiv, hzv, hzsv, hzbv⟩ := info_parts (show (Try.prog.info? 3).map (fun i => (i.zero, i.size, i.bytes)) = some (some (.int .i64 0), 1, 8) by kernel_rfl)
    have IV := Lib.hid hiv
    have ZV := Lib.hid hzv
    have SV := Lib.hid hzsv
    have BV := Lib.hid hzbv
    clear hiv hzv hzsv hzbv
    have h1 : ¬ (100 : Int) < (l.length : Int) := by omega
    have h2 : ¬ v < 1 := by omega
    have h3 : ¬ 99 < v := by omega
    have HV := Lib.hid (show 1 ≤ v ∧ v ≤ 99 from hout.2)
    have hn6 : l.length ≤ 1000000 := by omega
    clear hn hout
    go_enter Try.func7, Try.ntmps7
    go_wp2_with fail
    refine (made_any A c l 4 _ HA.out hn6 (by decide)).mono ?_
    rintro e w1 ⟨D1, d1, rfl, ho1, hb1⟩
    have HB1 := Lib.hid hb1
    have HL1 := Lib.hid (Lies.of_own ho1)
    have HM4 := Lib.hid (made_len l 4 99)
    have HMR := Lib.hid (fun h => made_rgt (l := l) (n := 4) (by decide) h)
    clear ho1 hb1
    generalize made l 4 99 = ms at *
    by_cases h0 : ms.length = 0
    · have h0' : ((ms.length : Int) == 0) = true := by simp; exact List.eq_nil_of_length_eq_zero h0
      clear h0
      go_wp2_with fail
      refine (knows_any _).mono ?_
      rintro e w8 ⟨rfl, hb8⟩
      have HB8 := Lib.hid (HB1.out.trans (hb8.mono HB1.out.size))
      clear hb8
      go_wp2_with fail
      go_ret
      exact ⟨rfl, HB8.out⟩
    · have h0' : ((ms.length : Int) == 0) = false := by simp; intro h; exact h0 (by rw [h]; rfl)
      have HR := Lib.hid (HMR.out (fun h => h0 (by rw [h]; rfl)))
      clear h0
      by_cases hin : v ∈ ms
      · have HT := Lib.hid (decide_eq_true hin)
        clear hin
        go_wp2_with fail
        refine (has_any D1 d1 ms v _ HL1.out (by have := HM4.out; omega)).mono ?_
        rintro e w2 ⟨rfl, rfl⟩
        rw [HT.out]
        go_wp2_with fail
        refine (knows_any _).mono ?_
        rintro e w8 ⟨rfl, hb8⟩
        have HB8 := Lib.hid (HB1.out.trans (hb8.mono HB1.out.size))
        clear hb8
        go_wp2_with fail
        go_ret
        exact ⟨rfl, HB8.out⟩
      · have HT := Lib.hid (decide_eq_false hin)
        have HC := Lib.hid (show ∀ k : Nat, k < 6 → iAt (ownL (insO v ms) 6) k = iAt (ownL ms 6) k ∨ iAt (ownL (insO v ms) 6) k = v from fun k hk => comes_at HR.out HM4.out HV.out hin hk)
        have HMI := Lib.hid (made_ins HR.out HM4.out HV.out hin)
        have HRI := Lib.hid (ins_rgt HR.out HM4.out HV.out hin)
        have HIL := Lib.hid (show (insO v ms).length ≤ 5 by rw [insO_len]; have := HM4.out; omega)
        clear hin
        go_wp2_with fail
        refine (has_any D1 d1 ms v _ HL1.out (by have := HM4.out; omega)).mono ?_
        rintro e w2 ⟨rfl, rfl⟩
        rw [HT.out]
        have HO1 := Lib.hid (own_empty w1 3 w1.heap.size (Nat.le_refl _))
        have HBA := Lib.hid (below_alloc w1 (.cells #[] 3))
        have HL2 := Lib.hid (HL1.out.next (below_alloc w1 (.cells #[] 3)))
        go_wp2_with (at_builtin; go_must (refine wpList_app2 _ rfl (.tmp 35) (.tmp 36) 30 rfl w1.heap.size 3 iv _ 1 8 Try.underlying30 IV.out ZV.out SV.out BV.out rfl (by decide) (some ⟨w1.heap.size, 0, none⟩) 0 0 [] rfl HO1.out (w1.alloc (.cells #[] 3)).heap.size D1 ms.length d1 (vc ms) rfl HL2.out (vc_one _) ms.length (vc ms) (by omega) rfl (by have := HM4.out; unfold maxLen; omega) (by have := HM4.out; omega) HBA.out.size ?_))
        intro A3 c3 w3 ho3 hb3 hg3
        have HB3 := Lib.hid (HBA.out.trans hb3)
        have HO3 := Lib.hid (own_next ho3 (below_alloc w3 (.cells #[.int .i64 v] 3)))
        have HL3 := Lib.hid (lies_cells w3 (vc [v]) 3 1 1 rfl)
        have HB4 := Lib.hid (HB3.out.trans ((below_alloc w3 (.cells #[.int .i64 v] 3)).mono HB3.out.size))
        clear ho3 hb3 hg3
        go_wp2_with (at_builtin; go_must (refine wpList_app2 _ rfl (.tmp 37) (.tmp 39) 30 rfl w1.heap.size 3 iv _ 1 8 Try.underlying30 IV.out ZV.out SV.out BV.out rfl (by decide) A3 ms.length c3 (vc ms) rfl HO3.out (w3.heap.size + 1) (some ⟨w3.heap.size, 0, none⟩) 1 1 (vc [v]) rfl HL3.out (vc_one _) (ms.length + 1) (vc ms ++ vc [v]) rfl rfl (by have := HM4.out; unfold maxLen; omega) (by have := HM4.out; omega) HB4.out.size ?_))
        intro A5 c5 w5 ho5 hb5 hg5
        have HB5 := Lib.hid (HB4.out.trans hb5)
        have HL5 := Lib.hid (show Lies w5 w5.heap.size 1 A5 (ms ++ [v]).length (vc (ms ++ [v])) by rw [vc_app, List.length_append]; exact Lies.of_own ho5)
        have CM := Lib.hid (show Calls Try.prog 23 #[.slice A5 (ms.length + 1) c5, .int .i64 5] w5 fun e w' => ∃ D d, e = .returned (.slice D (insO v ms).length d) ∧ w'.ownsRow w5.heap.size 3 1 (.slice D (insO v ms).length d) (insO v ms).length (vc (insO v ms)) ∧ Below w5.heap.size w5 w' by
          have h := made_any A5 c5 (ms ++ [v]) 5 w5 HL5.out (by rw [List.length_append]; have := HM4.out; simp; omega) (by decide)
          rw [HMI.out, List.length_append] at h
          exact h)
        have HBW := Lib.hid (HB1.out.trans (HB5.out.mono HB1.out.size))
        have HL1' := Lib.hid (HL1.out.next HB5.out)
        clear ho5 hb5 hg5
        go_wp2_with fail
        refine CM.out.mono ?_
        rintro e w6 ⟨D6, d6, rfl, ho6, hb6⟩
        have HB6 := Lib.hid (HBW.out.trans (hb6.mono HBW.out.size))
        have HL6 := Lib.hid (Lies.of_own ho6)
        have HL16 := Lib.hid (HL1'.out.next hb6)
        clear ho6 hb6
        generalize insO v ms = mo at *
        go_wp2_with fail
        refine (owners_any D1 d1 ms 6 _ HL16.out (by have := HM4.out; omega)).mono ?_
        rw [(own6 HR.out).1, (own6 HR.out).2]
        rintro e w7 ⟨D7, d7, rfl, ho7, hb7⟩
        have HB7 := Lib.hid (HB6.out.trans (hb7.mono HB6.out.size))
        have HL7 := Lib.hid (Lies.of_own ho7)
        have HL67 := Lib.hid (HL6.out.next hb7)
        clear ho7 hb7
        have HLA := Lib.hid (ownL_len ms 6)
        have HLB := Lib.hid (ownL_len mo 6)
        generalize ownL ms 6 = oa at *
        rw [HLA.out] at HL7 ⊢
        go_wp2_with fail
        refine (owners_any D6 d6 mo 6 _ HL67.out (by have := HIL.out; omega)).mono ?_
        rw [(own6 HRI.out).1, (own6 HRI.out).2]
        rintro e w8 ⟨D8, d8, rfl, ho8, hb8⟩
        have HB8 := Lib.hid (HB7.out.trans (hb8.mono HB7.out.size))
        have HL8 := Lib.hid (Lies.of_own ho8)
        have HL78 := Lib.hid (HL7.out.next hb8)
        clear ho8 hb8
        generalize ownL mo 6 = ob at *
        rw [HLB.out] at HL8 ⊢
        go_wp2_with fail
        go_loopw [11] (fun i W => CoRel w8 i W) (fun i W => 6 - (intOf i).toNat)
        case atStart => exact ⟨0, rfl, Nat.zero_le _, Below.refl _ _⟩
        case round =>
          obtain ⟨k, rfl, hk, hb⟩ := hrel
          have HBR := Lib.hid hb
          have HBF := Lib.hid (HB8.out.trans (hb.mono HB8.out.size))
          by_cases hlt : k < 6
          · obtain ⟨ad, rfl, hadb, e0⟩ := (HL78.out.below hb).vs k (by have := HLA.out; omega)
            obtain ⟨ad', rfl, hadb', e1⟩ := (HL8.out.below hb).vs k (by have := HLB.out; omega)
            have hkl : (k : Int) < 6 := by omega
            have HCK := HC.out k hlt
            generalize iAt oa k = xa at *
            generalize iAt ob k = xb at *
            clear hb
            by_cases he : xb = xa
            · have he' : (xb != xa) = false := by simpa using he
              clear he HCK
              go_wp2_with fail
              go_quiet (fail)
              go_wp2_with fail
              go_roundw
              case rel => exact ⟨k + 1, by go_num, by omega, below_to_drewN HBR.out _⟩
              case measure => simp [intOf]; omega
            · have he' : (xb != xa) = true := by simpa using he
              have hv : xb = v := by rcases HCK with h | h; exact absurd h he; exact h
              have hv' : (xb != v) = false := by simpa using hv
              clear he HCK hv
              go_wp2_with fail
              go_quiet (fail)
              go_wp2_with fail
              go_roundw
              case rel => exact ⟨k + 1, by go_num, by omega, below_to_drewN HBR.out _⟩
              case measure => simp [intOf]; omega
          · have hk' : k = 6 := by omega
            subst hk'
            clear hb
            go_wp2_with fail
            refine (knows_any _).mono ?_
            rintro e w9 ⟨rfl, hb9⟩
            have HB9 := Lib.hid (HBF.out.trans (hb9.mono HBF.out.size))
            clear hb9
            go_wp2_with fail
            go_ret
            exact ⟨rfl, HB9.out⟩
  · unfold maxLen at hn
    by_cases h1 : (100 : Int) < (l.length : Int)
    · clear hout
      go_enter Try.func7, Try.ntmps7
      go_wp2_with fail
      refine (knows_any _).mono ?_
      rintro e w8 ⟨rfl, hb8⟩
      have HB8 := Lib.hid hb8
      clear hb8
      go_wp2_with fail
      go_ret
      exact ⟨rfl, HB8.out⟩
    · by_cases h2 : v < 1
      · clear hout
        go_enter Try.func7, Try.ntmps7
        go_wp2_with fail
        refine (knows_any _).mono ?_
        rintro e w8 ⟨rfl, hb8⟩
        have HB8 := Lib.hid hb8
        clear hb8
        go_wp2_with fail
        go_ret
        exact ⟨rfl, HB8.out⟩
      · have h3 : 99 < v := by omega
        clear hout
        go_enter Try.func7, Try.ntmps7
        go_wp2_with fail
        refine (knows_any _).mono ?_
        rintro e w8 ⟨rfl, hb8⟩
        have HB8 := Lib.hid hb8
        clear hb8
        go_wp2_with fail
        go_ret
        exact ⟨rfl, HB8.out⟩
end Go.Proofs.Ytgdgjkdigbohlaa
