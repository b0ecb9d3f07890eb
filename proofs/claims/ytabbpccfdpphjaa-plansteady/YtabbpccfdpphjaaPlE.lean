import Derived.Test.YtabbpccfdpphjaaPlD
/-
  The contracts of the document's own load, Loads, given. No condition but that the lists have at most a million numbers.
-/
namespace Go.Proofs.Ytabbpccfdpphjaa
open Go.ChangeShapes Go.WideShapes Go.ChangeAt Go.RowKit
set_option linter.unusedVariables false

def LdRel (os cost : List Int) (x s : Int) (w : World) (n i : Value) (W : World) : Prop := ∃ k : Nat, i = .int .i64 k ∧ n = .int .i64 (ldI os cost x s k) ∧ k ≤ os.length ∧ W = w
set_option maxHeartbeats 2000000 in
theorem rload_any (A1 : Option Addr) (c1 : Nat) (os : List Int) (x : Int) (A3 : Option Addr) (c3 : Nat) (cost : List Int) (s : Int) (w : World)
    (h1 : Lies w w.heap.size 1 A1 os.length (vc os)) (h3 : Lies w w.heap.size 1 A3 cost.length (vc cost)) (n1 : os.length ≤ 6) (n3 : cost.length = os.length) (hc : ∀ x ∈ cost, 0 ≤ x ∧ x ≤ 1000) (hs : 1 ≤ s ∧ s ≤ 10) :
    Calls Try.prog 34 #[.slice A1 os.length c1, .int .i64 x, .slice A3 cost.length c3, .int .i64 s] w fun e w' => e = .returned (.int .i64 (ldI os cost x s os.length)) ∧ w = w' := by
  have H1 := Lib.hid h1
  have H3 := Lib.hid h3
  have HC := Lib.hid hc
  have HS := Lib.hid hs
  have HN := Lib.hid n3
  clear h1 h3 hc hs n3
  go_enter Try.func34, Try.ntmps34
  go_wp2_with fail
  go_loopw [9, 10] (fun n i W => LdRel os cost x s w n i W) (fun n i W => os.length - (intOf i).toNat)
  case atStart => exact ⟨0, rfl, rfl, Nat.zero_le _, rfl⟩
  case round =>
    obtain ⟨k, rfl, rfl, hk, rfl⟩ := hrel
    by_cases hlt : k < os.length
    · obtain ⟨ad, rfl, hadb, e0⟩ := H1.out.vs k hlt
      have hkl : (k : Int) < (os.length : Int) := by omega
      by_cases he : iAt os k = x
      · obtain ⟨a3, rfl, _, e3⟩ := H3.out.vs k (by have := HN.out; omega)
        have hkc : (k : Int) < (cost.length : Int) := by have := HN.out; omega
        have hpb := prod_bd (HC.out _ (iAt_mem cost k (by have := HN.out; omega))) HS.out
        have hyb := ldI_bd (os := os) (w := x) HC.out HS.out k (by have := HN.out; omega)
        have HY := Lib.hid (ldI_yes (cost := cost) (slow := s) he)
        have he' : (iAt os k == x) = true := by simpa using he
        clear he
        generalize ldI os cost x s k = y at *
        generalize iAt cost k = cx at *
        obtain ⟨q, hq⟩ : ∃ q, cx * s = q := ⟨_, rfl⟩
        rw [hq] at hpb HY
        obtain ⟨z, hz⟩ : ∃ z, y + q = z := ⟨_, rfl⟩
        rw [hz] at HY
        have hwq : IntKind.i64.wrap q = q := by simp [IntKind.wrap, IntKind.bits, IntKind.signed]; omega
        have hwz : IntKind.i64.wrap z = z := by simp [IntKind.wrap, IntKind.bits, IntKind.signed]; omega
        go_wp2_with fail
        go_roundw
        case rel => exact ⟨k + 1, by go_num, by rw [HY.out], by omega, rfl⟩
        case measure => simp [intOf]; omega
      · have HY := Lib.hid (ldI_no (cost := cost) (slow := s) he)
        have he' : (iAt os k == x) = false := by simpa using he
        clear he
        go_wp2_with fail
        go_roundw
        case rel => exact ⟨k + 1, by go_num, by rw [HY.out], by omega, rfl⟩
        case measure => simp [intOf]; omega
    · have hk' : k = os.length := by omega
      subst hk'
      go_wp2_with fail
      go_ret
      exact ⟨rfl, rfl⟩
theorem given_any (A : Option Addr) (c : Nat) (os : List Int) (p : Nat) (x : Int) (w : World) (hA : Lies w w.heap.size 1 A os.length (vc os)) (hn : os.length ≤ 1000000) (hp : p < os.length) :
    Calls Try.prog 43 #[.slice A os.length c, .int .i64 p, .int .i64 x] w fun e w' => ∃ g d, e = .returned (.slice (some ⟨g, 0, none⟩) os.length d) ∧ w'.ownsRow w.heap.size 3 1 (.slice (some ⟨g, 0, none⟩) os.length d) os.length (vc (os.set p x)) ∧ Below w.heap.size w w' := by
  obtain ⟨iv, hiv, hzv, hzsv, hzbv⟩ := info_parts (show (Try.prog.info? 3).map (fun i => (i.zero, i.size, i.bytes)) = some (some (.int .i64 0), 1, 8) by kernel_rfl)
  have IV := Lib.hid hiv
  have ZV := Lib.hid hzv
  have SV := Lib.hid hzsv
  have BV := Lib.hid hzbv
  clear hiv hzv hzsv hzbv
  have HO1 := Lib.hid (own_empty w 3 w.heap.size (Nat.le_refl _))
  have HBA := Lib.hid (below_alloc w (.cells #[] 3))
  have HL2 := Lib.hid (hA.next HBA.out)
  clear hA
  go_enter Try.func43, Try.ntmps43
  go_wp2_with (at_builtin; go_must (refine wpList_app2 _ rfl (.tmp 8) (.tmp 9) 22 rfl w.heap.size 3 iv _ 1 8 Try.underlying22 IV.out ZV.out SV.out BV.out rfl (by decide) (some ⟨w.heap.size, 0, none⟩) 0 0 [] rfl HO1.out (w.alloc (.cells #[] 3)).heap.size A os.length c (vc os) rfl HL2.out (vc_one _) os.length (vc os) (Nat.zero_add _) rfl (by unfold maxLen; omega) (by omega) HBA.out.size ?_))
  intro V cV w2 ho2 hb2 hg2
  obtain ⟨g, rfl, hbg, hgz⟩ := own_some ho2 (by omega)
  have HB2 := Lib.hid ((HBA.out.trans hb2).setCell (p := ⟨g, p, none⟩) (by show w.heap.size ≤ g; exact hbg) (.int .i64 x))
  have HO2 := Lib.hid ((ho2.stored p (.int .i64 x)).1)
  have e0 : w2.cell? ⟨g, p, none⟩ = some (.int .i64 (iAt os p)) := (ho2.cellAt p (by omega)).trans (vc_at _ p hp)
  have fz := ho2.frozenAt p
  have hpl : (p : Int) < (os.length : Int) := by omega
  clear ho2 hb2 hg2
  go_wp2_with fail
  go_ret
  exact ⟨g, cV, rfl, by rw [← vc_set]; exact HO2.out, HB2.out⟩
theorem inB_no {a b : Int} {l : List Int} {k : Nat} (h : k < l.length) (h2 : ¬ (a ≤ iAt l k ∧ iAt l k ≤ b)) : inB a b l = false := by
  cases hb : inB a b l with
  | false => rfl
  | true => exact absurd ((inB_iff a b l).1 hb _ (iAt_mem l k h)) h2
theorem inB_all {a b : Int} {l : List Int} (h : ∀ j, j < l.length → a ≤ iAt l j ∧ iAt l j ≤ b) : inB a b l = true := by
  rw [inB_iff]
  intro x hx
  obtain ⟨i, hi, he⟩ := List.mem_iff_getElem.1 hx
  have := h i hi
  rw [iAt_get l i hi, he] at this
  exact this
theorem fit_no {os ms cost slow : List Int} (h : rightO os = false ∨ rgt ms = false ∨ ¬ cost.length = os.length ∨ ¬ slow.length = ms.length ∨ inB 0 1000 cost = false ∨ inB 1 10 slow = false) : fitB os ms cost slow = false := by
  cases hf : fitB os ms cost slow with
  | false => rfl
  | true =>
    obtain ⟨a, b, c, d, e, f⟩ := (fitB_iff ..).1 hf
    rcases h with h | h | h | h | h | h
    · rw [a] at h; cases h
    · rw [b] at h; cases h
    · exact absurd c h
    · exact absurd d h
    · rw [(inB_iff ..).2 e] at h; cases h
    · rw [(inB_iff ..).2 f] at h; cases h
theorem fit_yes {os ms cost slow : List Int} (a : rightO os = true) (b : rgt ms = true) (c : cost.length = os.length) (d : slow.length = ms.length) (e : inB 0 1000 cost = true) (f : inB 1 10 slow = true) : fitB os ms cost slow = true :=
  (fitB_iff ..).2 ⟨a, b, c, d, (inB_iff ..).1 e, (inB_iff ..).1 f⟩
def ChRel (a b : Int) (l : List Int) (w : World) (i : Value) (W : World) : Prop := ∃ k : Nat, i = .int .i64 k ∧ k ≤ l.length ∧ Hid (∀ j, j < k → a ≤ iAt l j ∧ iAt l j ≤ b) ∧ W = w
theorem ch_succ {a b : Int} {l : List Int} {k : Nat} (h : ∀ j, j < k → a ≤ iAt l j ∧ iAt l j ≤ b) (h2 : a ≤ iAt l k ∧ iAt l k ≤ b) : ∀ j, j < k + 1 → a ≤ iAt l j ∧ iAt l j ≤ b := fun j hj => by
  by_cases hjk : j < k
  · exact h j hjk
  · obtain rfl : j = k := by omega
    exact h2
def MbRel (os ms : List Int) (w : World) (i : Value) (W : World) : Prop := ∃ k : Nat, i = .int .i64 k ∧ k ≤ os.length ∧ Hid (∀ j, j < k → iAt os j ∈ ms) ∧ W = w
/-- The loads of the first k members. -/
def ldP (os ms cost slow : List Int) (k : Nat) : List Int := (List.range k).map fun i => ldI os cost (iAt ms i) (iAt slow i) os.length
theorem ldP_succ (os ms cost slow : List Int) (k : Nat) : ldP os ms cost slow (k + 1) = ldP os ms cost slow k ++ [ldI os cost (iAt ms k) (iAt slow k) os.length] := by unfold ldP; rw [List.range_succ, List.map_append]; rfl
theorem ldP_len (os ms cost slow : List Int) (k : Nat) : (ldP os ms cost slow k).length = k := by unfold ldP; simp
theorem ldP_all (os ms cost slow : List Int) : ldP os ms cost slow ms.length = ldL os ms cost slow := rfl
def LpRel (os ms cost slow : List Int) (w : World) (o i : Value) (W : World) : Prop := ∃ (k : Nat) (D : Option Addr) (d : Nat), i = .int .i64 k ∧ k ≤ ms.length ∧ o = .slice D k d ∧ Hid (Below w.heap.size w W) ∧ Hid (W.ownsRow w.heap.size 3 1 (.slice D k d) k (vc (ldP os ms cost slow k)))
set_option maxHeartbeats 4000000 in
set_option maxRecDepth 20000 in
theorem rloads_any (A1 : Option Addr) (c1 : Nat) (os : List Int) (A2 : Option Addr) (c2 : Nat) (ms : List Int) (A3 : Option Addr) (c3 : Nat) (cost : List Int) (A4 : Option Addr) (c4 : Nat) (slow : List Int) (w : World)
    (h1 : Lies w w.heap.size 1 A1 os.length (vc os)) (h2 : Lies w w.heap.size 1 A2 ms.length (vc ms)) (h3 : Lies w w.heap.size 1 A3 cost.length (vc cost)) (h4 : Lies w w.heap.size 1 A4 slow.length (vc slow))
    (n1 : os.length ≤ 1000000) (n2 : ms.length ≤ 1000000) (n3 : cost.length ≤ 1000000) (n4 : slow.length ≤ 1000000) :
    Calls Try.prog 21 #[.slice A1 os.length c1, .slice A2 ms.length c2, .slice A3 cost.length c3, .slice A4 slow.length c4] w (OlPost (loR os ms cost slow) (ldE os ms cost slow) w) := by
  have H1 := Lib.hid h1
  have H2 := Lib.hid h2
  have H3 := Lib.hid h3
  have H4 := Lib.hid h4
  clear h1 h2 h3 h4
  have HNO := Lib.hid (fun h => ldE_no (fit_no (os := os) (ms := ms) (cost := cost) (slow := slow) h))
  go_enter Try.func21, Try.ntmps21
  go_wp2_with fail
  refine (rrighto_any A1 c1 os _ H1.out n1).mono ?_
  rintro e w1 ⟨rfl, rfl⟩
  cases hr : rightO os with
  | false =>
    have HT := Lib.hid (HNO.out (.inl hr))
    clear hr
    go_wp2_with fail
    go_ret2
    exact lo_err HT.out (by decide) (Below.refl _ _)
  | true =>
    have R1 := Lib.hid hr
    clear hr
    go_wp2_with fail
    refine (rright_any A2 c2 ms _ H2.out n2).mono ?_
    rintro e w1 ⟨rfl, hb1⟩
    have HB1 := Lib.hid hb1
    have H1' := Lib.hid (H1.out.next hb1)
    have H2' := Lib.hid (H2.out.next hb1)
    have H3' := Lib.hid (H3.out.next hb1)
    have H4' := Lib.hid (H4.out.next hb1)
    clear hb1 H1 H2 H3 H4
    cases hr : rgt ms with
    | false =>
      have HT := Lib.hid (HNO.out (.inr (.inl hr)))
      clear hr
      go_wp2_with fail
      go_ret2
      exact lo_err HT.out (by decide) HB1.out
    | true =>
      have R2 := Lib.hid hr
      clear hr
      by_cases hl : cost.length = os.length
      · have L3 := Lib.hid hl
        have hl' : ((cost.length : Int) != (os.length : Int)) = false := by simp; omega
        clear hl
        by_cases hl2 : slow.length = ms.length
        · have L4 := Lib.hid hl2
          have hl2' : ((slow.length : Int) != (ms.length : Int)) = false := by simp; omega
          clear hl2
          have HO6 := Lib.hid (rightO_len R1.out)
          have HM5 := Lib.hid (rgt_len R2.out)
          have hc6 : cost.length ≤ 6 := by have := L3.out; have := HO6.out; omega
          have hs5 : slow.length ≤ 5 := by have := L4.out; have := HM5.out; omega
          have ho6 : os.length ≤ 6 := HO6.out.2
          have hm5 : ms.length ≤ 5 := HM5.out.2
          go_wp2_with fail
          go_loopw [10] (fun i W => ChRel 0 1000 cost w1 i W) (fun i W => cost.length - (intOf i).toNat)
          case atStart => exact ⟨0, rfl, Nat.zero_le _, Lib.hid (fun j h => by omega), rfl⟩
          case round =>
            obtain ⟨k, rfl, hk, HP, rfl⟩ := hrel
            by_cases hlt : k < cost.length
            · obtain ⟨ad, rfl, hadb, e0⟩ := H3'.out.vs k hlt
              have hkl : (k : Int) < (cost.length : Int) := by omega
              by_cases g1 : iAt cost k < 0
              · have HT := Lib.hid (HNO.out (.inr (.inr (.inr (.inr (.inl (inB_no hlt (by omega))))))))
                go_wp2_with fail
                go_ret2
                exact lo_err HT.out (by decide) HB1.out
              · by_cases g2 : 1000 < iAt cost k
                · have HT := Lib.hid (HNO.out (.inr (.inr (.inr (.inr (.inl (inB_no hlt (by omega))))))))
                  go_wp2_with fail
                  go_ret2
                  exact lo_err HT.out (by decide) HB1.out
                · have HT := Lib.hid (ch_succ HP.out (by omega))
                  go_wp2_with fail
                  go_roundw
                  case rel => exact ⟨k + 1, by go_num, by omega, HT, rfl⟩
                  case measure => simp [intOf]; omega
            · have hk' : k = cost.length := by omega
              subst hk'
              have R3 := Lib.hid (inB_all HP.out)
              clear HP
              go_wp2_with fail
              go_loopw [11] (fun i W => ChRel 1 10 slow wr i W) (fun i W => slow.length - (intOf i).toNat)
              case atStart => exact ⟨0, rfl, Nat.zero_le _, Lib.hid (fun j h => by omega), rfl⟩
              case round =>
                obtain ⟨k, rfl, hk, HP, rfl⟩ := hrel
                by_cases hlt : k < slow.length
                · obtain ⟨ad, rfl, hadb, e0⟩ := H4'.out.vs k hlt
                  have hkl : (k : Int) < (slow.length : Int) := by omega
                  by_cases g1 : iAt slow k < 1
                  · have HT := Lib.hid (HNO.out (.inr (.inr (.inr (.inr (.inr (inB_no hlt (by omega))))))))
                    go_wp2_with fail
                    go_ret2
                    exact lo_err HT.out (by decide) HB1.out
                  · by_cases g2 : 10 < iAt slow k
                    · have HT := Lib.hid (HNO.out (.inr (.inr (.inr (.inr (.inr (inB_no hlt (by omega))))))))
                      go_wp2_with fail
                      go_ret2
                      exact lo_err HT.out (by decide) HB1.out
                    · have HT := Lib.hid (ch_succ HP.out (by omega))
                      go_wp2_with fail
                      go_roundw
                      case rel => exact ⟨k + 1, by go_num, by omega, HT, rfl⟩
                      case measure => simp [intOf]; omega
                · have hk' : k = slow.length := by omega
                  subst hk'
                  have R4 := Lib.hid (inB_all HP.out)
                  have HF := Lib.hid (fit_yes R1.out R2.out L3.out L4.out R3.out R4.out)
                  have HPF := Lib.hid ((fitB_iff ..).1 HF.out)
                  clear HP
                  go_wp2_with fail
                  go_loopw [12] (fun i W => MbRel os ms wr i W) (fun i W => os.length - (intOf i).toNat)
                  case atStart => exact ⟨0, rfl, Nat.zero_le _, Lib.hid (fun j h => by omega), rfl⟩
                  case round =>
                    obtain ⟨k, rfl, hk, HP, rfl⟩ := hrel
                    by_cases hlt : k < os.length
                    · obtain ⟨ad, rfl, hadb, e0⟩ := H1'.out.vs k hlt
                      have hkl : (k : Int) < (os.length : Int) := by omega
                      by_cases hin : iAt os k ∈ ms
                      · have HIN2 := Lib.hid (show ∀ j, j < k + 1 → iAt os j ∈ ms from fun j hj => by
                          by_cases hjk : j < k
                          · exact HP.out j hjk
                          · obtain rfl : j = k := by omega
                            exact hin)
                        have HT := Lib.hid (decide_eq_true hin)
                        clear hin
                        go_wp2_with fail
                        refine (has_any A2 c2 ms (iAt os k) _ H2'.out n2).mono ?_
                        rintro e w5 ⟨rfl, rfl⟩
                        rw [HT.out]
                        go_wp2_with fail
                        go_roundw
                        case rel => exact ⟨k + 1, by go_num, by omega, HIN2, rfl⟩
                        case measure => simp [intOf]; omega
                      · have HE := Lib.hid (ldE_four HF.out (iAt_mem os k hlt) hin)
                        have HT := Lib.hid (decide_eq_false hin)
                        clear hin
                        go_wp2_with fail
                        refine (has_any A2 c2 ms (iAt os k) _ H2'.out n2).mono ?_
                        rintro e w5 ⟨rfl, rfl⟩
                        rw [HT.out]
                        go_wp2_with fail
                        go_ret2
                        exact lo_err HE.out (by decide) HB1.out
                    · have hk' : k = os.length := by omega
                      subst hk'
                      have HE := Lib.hid (ldE_ok HF.out (in_all HP.out (Nat.le_refl _)))
                      obtain ⟨iv, hiv, hzv, hzsv, hzbv⟩ := info_parts (show (Try.prog.info? 3).map (fun i => (i.zero, i.size, i.bytes)) = some (some (.int .i64 0), 1, 8) by kernel_rfl)
                      have IV := Lib.hid hiv
                      have ZV := Lib.hid hzv
                      have SV := Lib.hid hzsv
                      have BV := Lib.hid hzbv
                      clear hiv hzv hzsv hzbv HP
                      go_wp2_with fail
                      obtain ⟨wo, hwo⟩ : ∃ x, x = wr := ⟨_, rfl⟩
                      subst hwo
                      go_loopw [13, 14] (fun o i W => LpRel os ms cost slow wo o i W) (fun o i W => ms.length - (intOf i).toNat)
                      case atStart => exact ⟨0, none, 0, rfl, Nat.zero_le _, rfl, Lib.hid (Below.refl _ _), Lib.hid (World.ownsRow_nil _ _ _ _)⟩
                      case round =>
                        obtain ⟨k, D, d, rfl, hk, rfl, HW, HO⟩ := hrel
                        by_cases hlt : k < ms.length
                        · obtain ⟨a2, rfl, _, e2⟩ := (H2'.out.below HW.out).vs k hlt
                          obtain ⟨a4, rfl, _, e4⟩ := (H4'.out.below HW.out).vs k (by have := L4.out; omega)
                          have hkl : (k : Int) < (ms.length : Int) := by omega
                          have hks : (k : Int) < (slow.length : Int) := by have := L4.out; omega
                          have HLD : Hid (∀ W : World, Below wo.heap.size wo W → Calls Try.prog 34 #[.slice A1 os.length c1, .int .i64 (iAt ms k), .slice A3 cost.length c3, .int .i64 (iAt slow k)] W (fun e w' => e = .returned (.int .i64 (ldI os cost (iAt ms k) (iAt slow k) os.length)) ∧ Below W.heap.size W w')) := Lib.hid (fun W hb => (rload_any A1 c1 os (iAt ms k) A3 c3 cost (iAt slow k) W (H1'.out.next hb) (H3'.out.next hb) ho6 L3.out HPF.out.2.2.2.2.1 (HPF.out.2.2.2.2.2 _ (iAt_mem slow k (by have := L4.out; omega)))).mono (fun e w' h => ⟨h.1, by rw [← h.2]; exact Below.refl _ _⟩))
                          have HS := Lib.hid (ldP_succ os ms cost slow k)
                          generalize ldI os cost (iAt ms k) (iAt slow k) os.length = x at HLD HS
                          generalize ldP os ms cost slow k = X at HO HS
                          go_upto_region 22 with fail
                          go_region_law (first | (refine step_own2 rfl _ _ 22 rfl wo.heap.size 3 iv _ 1 8 Try.underlying22 IV.out ZV.out SV.out BV.out rfl (by decide) D k d (vc X) (by simp [Act.eval]) HO8.out (w7.heap.size + 1) (some ⟨w7.heap.size, 0, none⟩) 1 1 (vc [x]) (by simp [Act.eval]) HL8.out (vc_one _) (k + 1) rfl (by unfold maxLen; omega) (by omega) HB8.out.size ?_; intro A9 c9 w9 ho9 hb9; have HO9 := Lib.hid ho9; have HB9 := Lib.hid (HB8.out.trans hb9)) | (go_simp; go_at_call 34; refine (HLD.out _ HW.out.drew).mono ?_; rintro e w7 ⟨rfl, hb7⟩; have HB7 := Lib.hid (HW.out.trans ((below_of_drew hb7).mono HW.out.size)); have HO7 := Lib.hid (own_next HO.out (below_of_drew hb7)); have HO8 := Lib.hid (own_next HO7.out (below_alloc w7 (.cells #[.int .i64 x] 3))); have HL8 := Lib.hid (lies_cells w7 (vc [x]) 3 1 1 rfl); have HB8 := Lib.hid (HB7.out.trans ((below_alloc w7 (.cells #[.int .i64 x] 3)).mono HB7.out.size))) | fail)
                          all_goals
                            clear ho9 hb9 hb7 e2 e4
                            go_wp2_with fail
                            go_roundw
                            case rel => exact ⟨k + 1, A9, c9, by go_num, by omega, rfl, HB9, by rw [HS.out, vc_app]; exact HO9⟩
                            case measure => simp [intOf]; omega
                        · have hk' : k = ms.length := by omega
                          subst hk'
                          have HLL := Lib.hid (ldL_len os ms cost slow)
                          go_wp2_with fail
                          go_ret2
                          exact lo_ok HE.out HLL.out (by have h9 := HO.out; rw [ldP_all] at h9; exact own_lower h9 HB1.out.size) (HB1.out.trans (HW.out.mono HB1.out.size))
        · have HT := Lib.hid (HNO.out (.inr (.inr (.inr (.inl hl2)))))
          have hl2' : ((slow.length : Int) != (ms.length : Int)) = true := by simp; omega
          clear hl2
          go_wp2_with fail
          go_ret2
          exact lo_err HT.out (by decide) HB1.out
      · have HT := Lib.hid (HNO.out (.inr (.inr (.inl hl))))
        have hl' : ((cost.length : Int) != (os.length : Int)) = true := by simp; omega
        clear hl
        go_wp2_with fail
        go_ret2
        exact lo_err HT.out (by decide) HB1.out
end Go.Proofs.Ytabbpccfdpphjaa
