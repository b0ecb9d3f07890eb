import Derived.Test.YtabbpccfdpphjaaPlH
/-
  The contracts of the document's own Even, of the statements' own most and steps. No condition but that the lists have at most a million numbers.
-/
namespace Go.Proofs.Ytabbpccfdpphjaa
open Go.ChangeShapes Go.WideShapes Go.ChangeAt Go.RowKit
set_option linter.unusedVariables false

theorem ls_no {os ms cost slow : List Int} {E : Int} {w w' : World} (h : evR os ms cost slow = []) (hb : Below w.heap.size w w') : LsPost (evR os ms cost slow) E w (.returned (.tuple #[.slice none 0 0, .int .i64 E])) w' := by
  rw [h]
  exact ⟨none, 0, rfl, Lies.nil, hb⟩
theorem ls_ok {os ms cost slow : List Int} {cur : List Int} {n : Nat} {w w' : World} {D : Option Addr} {d : Nat} (h0 : ldE os ms cost slow = 0) (h : evN ms cost slow os.length os = cur) (hn : cur.length = n) (ho : Lies w' w'.heap.size 1 D n (vc cur)) (hb : Below w.heap.size w w') :
    LsPost (evR os ms cost slow) (ldE os ms cost slow) w (.returned (.tuple #[.slice D n d, .int .i64 0])) w' := by
  rw [ev_yes h0, h, h0]
  subst hn
  exact ⟨D, d, rfl, ho, hb⟩
def ReRel (os ms cost slow : List Int) (w : World) (ow i : Value) (W : World) : Prop := ∃ (k : Nat) (cur : List Int) (D : Option Addr) (d : Nat), i = .int .i64 k ∧ k ≤ os.length ∧ ow = .slice D os.length d ∧
  Hid (evN ms cost slow os.length os = evN ms cost slow (os.length - k) cur) ∧ Hid (ldE cur ms cost slow = 0) ∧ Hid (cur.length = os.length) ∧ Hid (Below w.heap.size w W) ∧ Hid (Lies W W.heap.size 1 D os.length (vc cur))
set_option maxRecDepth 20000 in
set_option maxHeartbeats 4000000 in
theorem reven_any (A1 : Option Addr) (c1 : Nat) (os : List Int) (A2 : Option Addr) (c2 : Nat) (ms : List Int) (A3 : Option Addr) (c3 : Nat) (cost : List Int) (A4 : Option Addr) (c4 : Nat) (slow : List Int) (w : World)
    (h1 : Lies w w.heap.size 1 A1 os.length (vc os)) (h2 : Lies w w.heap.size 1 A2 ms.length (vc ms)) (h3 : Lies w w.heap.size 1 A3 cost.length (vc cost)) (h4 : Lies w w.heap.size 1 A4 slow.length (vc slow))
    (n1 : os.length ≤ 1000000) (n2 : ms.length ≤ 1000000) (n3 : cost.length ≤ 1000000) (n4 : slow.length ≤ 1000000) :
    Calls Try.prog 23 #[.slice A1 os.length c1, .slice A2 ms.length c2, .slice A3 cost.length c3, .slice A4 slow.length c4] w (LsPost (evR os ms cost slow) (ldE os ms cost slow) w) := by
  have H1 := Lib.hid h1
  have H2 := Lib.hid h2
  have H3 := Lib.hid h3
  have H4 := Lib.hid h4
  clear h1 h2 h3 h4
  by_cases h0 : ldE os ms cost slow = 0
  · have HE0 := Lib.hid h0
    have HP := Lib.hid (ldE_zero h0).1
    have HO6 := Lib.hid (rightO_len HP.out.1)
    have HM5 := Lib.hid (rgt_len HP.out.2.1)
    have ho6 : os.length ≤ 6 := HO6.out.2
    have hm5 : ms.length ≤ 5 := HM5.out.2
    have hm0 : ((ms.length : Int) == 0) = false := by simp; intro h; have := HM5.out.1; rw [h] at this; simp at this
    clear h0
    go_enter Try.func23, Try.ntmps23
    go_wp2_with fail
    refine (rloads_any A1 c1 os A2 c2 ms A3 c3 cost A4 c4 slow _ H1.out H2.out H3.out H4.out n1 n2 n3 n4).mono ?_
    intro e w1 h
    obtain ⟨D, d, rfl, hl, hb⟩ := ol_yes HE0.out h
    have HB1 := Lib.hid hb
    have HA1 := Lib.hid (H1.out.next hb)
    clear h hb hl
    go_wp2_with fail
    go_loopw [0, 12] (fun ow i W => ReRel os ms cost slow w ow i W) (fun ow i W => os.length - (intOf i).toNat)
    case atStart => exact ⟨0, os, A1, c1, rfl, Nat.zero_le _, rfl, Lib.hid rfl, HE0, Lib.hid rfl, HB1, HA1⟩
    case round =>
      obtain ⟨k, cur, D, d, rfl, hk, rfl, HEV, HE, HC, HW, HL⟩ := hrel
      by_cases hlt : k < os.length
      · have hkl : (k : Int) < (os.length : Int) := by omega
        have hsub : os.length - k = (os.length - (k + 1)) + 1 := by omega
        have HY := Lib.hid (show onceI cur ms cost slow = cur → evN ms cost slow os.length os = cur from fun h => by rw [HEV.out, even_stays h])
        have HN := Lib.hid (show evN ms cost slow os.length os = evN ms cost slow (os.length - (k + 1)) (onceI cur ms cost slow) by rw [HEV.out, hsub, ev_step])
        have HSP := Lib.hid (once_spec HE.out)
        have H2W := Lib.hid (H2.out.next HW.out)
        have H3W := Lib.hid (H3.out.next HW.out)
        have H4W := Lib.hid (H4.out.next HW.out)
        have CL := Lib.hid (show Calls Try.prog 36 #[.slice D os.length d, .slice A2 ms.length c2, .slice A3 cost.length c3, .slice A4 slow.length c4] wr (LsPost (onceI cur ms cost slow) 0 wr) by
          have hx := once_any D d cur A2 c2 ms A3 c3 cost A4 c4 slow wr (by rw [HC.out]; exact HL.out) H2W.out H3W.out H4W.out HE.out
          rw [HC.out] at hx
          exact hx)
        have HC7 := Lib.hid (show (onceI cur ms cost slow).length = os.length by rw [HSP.out.2.1, HC.out])
        have HE7 := Lib.hid HSP.out.1
        clear hsub HSP
        generalize onceI cur ms cost slow = nxt at *
        go_wp2_with fail
        refine CL.out.mono ?_
        rintro e w5 ⟨D5, d5, rfl, hl5, hb5⟩
        have HW5 := Lib.hid (HW.out.trans (hb5.mono HW.out.size))
        have HL5 := Lib.hid (show Lies w5 w5.heap.size 1 D5 os.length (vc nxt) by rw [← HC7.out]; exact hl5)
        have HL6 := Lib.hid (HL.out.next hb5)
        rw [HC7.out]
        clear hl5 hb5
        have CS := Lib.hid (show Calls Try.prog 19 #[.slice D5 os.length d5, .slice D os.length d] w5 (fun e w' => e = .returned (.bool (decide (nxt = cur))) ∧ Below w5.heap.size w5 w') by
          have hx := same_any D5 d5 nxt D d cur w5 (by rw [HC7.out]; exact HL5.out) (by rw [HC.out]; exact HL6.out) (by rw [HC7.out]; omega) (by rw [HC.out]; omega)
          rw [HC7.out, HC.out] at hx
          exact hx)
        by_cases he : nxt = cur
        · have HT := Lib.hid (decide_eq_true he)
          have HEQ := Lib.hid (HY.out he)
          clear he
          go_wp2_with fail
          refine CS.out.mono ?_
          rintro e w6 ⟨rfl, hb6⟩
          have HW6 := Lib.hid (HW5.out.trans (hb6.mono HW5.out.size))
          have HL7 := Lib.hid (HL6.out.next hb6)
          clear hb6
          rw [HT.out]
          go_wp2_with fail
          go_ret2
          exact ls_ok HE0.out HEQ.out HC.out HL7.out HW6.out
        · have HT := Lib.hid (decide_eq_false he)
          clear he
          go_wp2_with fail
          refine CS.out.mono ?_
          rintro e w6 ⟨rfl, hb6⟩
          have HW6 := Lib.hid (HW5.out.trans (hb6.mono HW5.out.size))
          have HL7 := Lib.hid (HL5.out.next hb6)
          clear hb6
          rw [HT.out]
          go_wp2_with fail
          go_roundw
          case rel => exact ⟨k + 1, nxt, D5, d5, by go_num, by omega, rfl, HN, HE7, HC7, HW6, HL7⟩
          case measure => simp [intOf]; omega
      · have hk' : k = os.length := by omega
        subst hk'
        have HEQ := Lib.hid (show evN ms cost slow os.length os = cur by rw [HEV.out, Nat.sub_self]; rfl)
        go_wp2_with fail
        go_ret2
        exact ls_ok HE0.out HEQ.out HC.out HL.out HW.out
  · have HN := Lib.hid (lo_no h0)
    have HV := Lib.hid (ev_no h0)
    have h0' : (ldE os ms cost slow != 0) = true := by simpa using h0
    clear h0
    go_enter Try.func23, Try.ntmps23
    go_wp2_with fail
    refine (rloads_any A1 c1 os A2 c2 ms A3 c3 cost A4 c4 slow _ H1.out H2.out H3.out H4.out n1 n2 n3 n4).mono ?_
    rw [HN.out]
    rintro e w1 ⟨D, d, rfl, ho, hb⟩
    have HB1 := Lib.hid hb
    clear ho hb
    generalize ldE os ms cost slow = E at *
    go_wp2_with fail
    go_ret2
    exact ls_no HV.out HB1.out
theorem most_yes {l : List Int} {k : Nat} (h : k < l.length) (h2 : mostI (l.take k) < iAt l k) : mostI (l.take (k + 1)) = iAt l k := by
  rw [itake_at l k h]; unfold mostI at h2 ⊢; rw [List.foldl_append, List.foldl_cons, List.foldl_nil, if_pos h2]
theorem most_no {l : List Int} {k : Nat} (h : k < l.length) (h2 : ¬ mostI (l.take k) < iAt l k) : mostI (l.take (k + 1)) = mostI (l.take k) := by
  rw [itake_at l k h]; unfold mostI at h2 ⊢; rw [List.foldl_append, List.foldl_cons, List.foldl_nil, if_neg h2]
def MtRel (l : List Int) (w : World) (n i : Value) (W : World) : Prop := ∃ k : Nat, i = .int .i64 k ∧ n = .int .i64 (mostI (l.take k)) ∧ k ≤ l.length ∧ W = w
set_option maxHeartbeats 1000000 in
theorem mostc_any (A : Option Addr) (c : Nat) (l : List Int) (w : World) (hA : Lies w w.heap.size 1 A l.length (vc l)) (hn : l.length ≤ 1000000) :
    Calls Try.prog 24 #[.slice A l.length c] w fun e w' => e = .returned (.int .i64 (mostI l)) ∧ w = w' := by
  go_enter Try.func24, Try.ntmps24
  go_wp2_with fail
  go_loopw [3, 4] (fun n i W => MtRel l w n i W) (fun n i W => l.length - (intOf i).toNat)
  case atStart => exact ⟨0, rfl, rfl, Nat.zero_le _, rfl⟩
  case round =>
    obtain ⟨k, rfl, rfl, hk, rfl⟩ := hrel
    by_cases hlt : k < l.length
    · obtain ⟨ad, rfl, hadb, e0⟩ := hA.vs k hlt
      have hkl : (k : Int) < (l.length : Int) := by omega
      by_cases g : mostI (l.take k) < iAt l k
      · have HT := Lib.hid (most_yes hlt g)
        generalize mostI (l.take k) = m at *
        go_wp2_with fail
        go_roundw
        case rel => exact ⟨k + 1, by go_num, by rw [HT.out], by omega, rfl⟩
        case measure => simp [intOf]; omega
      · have HT := Lib.hid (most_no hlt g)
        generalize mostI (l.take k) = m at *
        go_wp2_with fail
        go_roundw
        case rel => exact ⟨k + 1, by go_num, by rw [HT.out], by omega, rfl⟩
        case measure => simp [intOf]; omega
    · have hk' : k = l.length := by omega
      subst hk'
      have HT := Lib.hid (show mostI (l.take l.length) = mostI l by rw [List.take_length])
      go_wp2_with fail
      go_ret
      exact ⟨ret_int HT.out, rfl⟩
def SeRel (os ms cost slow : List Int) (w : World) (ow n : Value) (W : World) : Prop := ∃ (k : Nat) (cur : List Int) (D : Option Addr) (d : Nat), n = .int .i64 k ∧ k ≤ os.length ∧ ow = .slice D os.length d ∧
  Hid (stN ms cost slow os.length os = k + stN ms cost slow (os.length - k) cur) ∧ Hid (ldE cur ms cost slow = 0) ∧ Hid (cur.length = os.length) ∧ Hid (Below w.heap.size w W) ∧ Hid (Lies W W.heap.size 1 D os.length (vc cur))
set_option maxRecDepth 20000 in
set_option maxHeartbeats 4000000 in
theorem steps_any (A1 : Option Addr) (c1 : Nat) (os : List Int) (A2 : Option Addr) (c2 : Nat) (ms : List Int) (A3 : Option Addr) (c3 : Nat) (cost : List Int) (A4 : Option Addr) (c4 : Nat) (slow : List Int) (w : World)
    (h1 : Lies w w.heap.size 1 A1 os.length (vc os)) (h2 : Lies w w.heap.size 1 A2 ms.length (vc ms)) (h3 : Lies w w.heap.size 1 A3 cost.length (vc cost)) (h4 : Lies w w.heap.size 1 A4 slow.length (vc slow)) (h0 : ldE os ms cost slow = 0) :
    Calls Try.prog 25 #[.slice A1 os.length c1, .slice A2 ms.length c2, .slice A3 cost.length c3, .slice A4 slow.length c4] w fun e w' => e = .returned (.int .i64 (stN ms cost slow os.length os : Nat)) ∧ Below w.heap.size w w' := by
  have H1 := Lib.hid h1
  have H2 := Lib.hid h2
  have H3 := Lib.hid h3
  have H4 := Lib.hid h4
  have HE0 := Lib.hid h0
  have HP := Lib.hid (ldE_zero h0).1
  have HO6 := Lib.hid (rightO_len HP.out.1)
  have ho6 : os.length ≤ 6 := HO6.out.2
  clear h0 h1 h2 h3 h4
  go_enter Try.func25, Try.ntmps25
  go_wp2_with fail
  go_loopw [0, 9] (fun ow i W => SeRel os ms cost slow w ow i W) (fun ow i W => os.length - (intOf i).toNat)
  case atStart => exact ⟨0, os, A1, c1, rfl, Nat.zero_le _, rfl, Lib.hid (by rw [Nat.zero_add]; rfl), HE0, Lib.hid rfl, Lib.hid (Below.refl _ _), H1⟩
  case round =>
    obtain ⟨k, cur, D, d, rfl, hk, rfl, HEV, HE, HC, HW, HL⟩ := hrel
    by_cases hlt : k < os.length
    · have hkl : (k : Int) < (os.length : Int) := by omega
      have hsub : os.length - k = (os.length - (k + 1)) + 1 := by omega
      have HY := Lib.hid (show onceI cur ms cost slow = cur → stN ms cost slow os.length os = k from fun h => by rw [HEV.out, hsub, stN, if_pos h, Nat.add_zero])
      have HN := Lib.hid (show ¬ onceI cur ms cost slow = cur → stN ms cost slow os.length os = (k + 1) + stN ms cost slow (os.length - (k + 1)) (onceI cur ms cost slow) from fun h => by rw [HEV.out, hsub, stN, if_neg h]; omega)
      have HSP := Lib.hid (once_spec HE.out)
      have H2W := Lib.hid (H2.out.next HW.out)
      have H3W := Lib.hid (H3.out.next HW.out)
      have H4W := Lib.hid (H4.out.next HW.out)
      have CL := Lib.hid (show Calls Try.prog 36 #[.slice D os.length d, .slice A2 ms.length c2, .slice A3 cost.length c3, .slice A4 slow.length c4] wr (LsPost (onceI cur ms cost slow) 0 wr) by
        have hx := once_any D d cur A2 c2 ms A3 c3 cost A4 c4 slow wr (by rw [HC.out]; exact HL.out) H2W.out H3W.out H4W.out HE.out
        rw [HC.out] at hx
        exact hx)
      have HC7 := Lib.hid (show (onceI cur ms cost slow).length = os.length by rw [HSP.out.2.1, HC.out])
      have HE7 := Lib.hid HSP.out.1
      clear hsub HSP
      generalize onceI cur ms cost slow = nxt at *
      go_wp2_with fail
      refine CL.out.mono ?_
      rintro e w5 ⟨D5, d5, rfl, hl5, hb5⟩
      have HW5 := Lib.hid (HW.out.trans (hb5.mono HW.out.size))
      have HL5 := Lib.hid (show Lies w5 w5.heap.size 1 D5 os.length (vc nxt) by rw [← HC7.out]; exact hl5)
      have HL6 := Lib.hid (HL.out.next hb5)
      rw [HC7.out]
      clear hl5 hb5
      have CS := Lib.hid (show Calls Try.prog 19 #[.slice D5 os.length d5, .slice D os.length d] w5 (fun e w' => e = .returned (.bool (decide (nxt = cur))) ∧ Below w5.heap.size w5 w') by
        have hx := same_any D5 d5 nxt D d cur w5 (by rw [HC7.out]; exact HL5.out) (by rw [HC.out]; exact HL6.out) (by rw [HC7.out]; omega) (by rw [HC.out]; omega)
        rw [HC7.out, HC.out] at hx
        exact hx)
      by_cases he : nxt = cur
      · have HT := Lib.hid (decide_eq_true he)
        have HEQ := Lib.hid (HY.out he)
        clear he
        go_wp2_with fail
        refine CS.out.mono ?_
        rintro e w6 ⟨rfl, hb6⟩
        have HW6 := Lib.hid (HW5.out.trans (hb6.mono HW5.out.size))
        clear hb6
        rw [HT.out]
        go_wp2_with fail
        go_ret
        exact ⟨ret_int (by rw [HEQ.out]), HW6.out⟩
      · have HT := Lib.hid (decide_eq_false he)
        have HNN := Lib.hid (HN.out he)
        clear he
        go_wp2_with fail
        refine CS.out.mono ?_
        rintro e w6 ⟨rfl, hb6⟩
        have HW6 := Lib.hid (HW5.out.trans (hb6.mono HW5.out.size))
        have HL7 := Lib.hid (HL5.out.next hb6)
        clear hb6
        rw [HT.out]
        go_wp2_with fail
        go_roundw
        case rel => exact ⟨k + 1, nxt, D5, d5, by go_num, by omega, rfl, HNN, HE7, HC7, HW6, HL7⟩
        case measure => simp [intOf]; omega
    · have hk' : k = os.length := by omega
      subst hk'
      have HEQ := Lib.hid (show stN ms cost slow os.length os = os.length by rw [HEV.out, Nat.sub_self]; rfl)
      go_wp2_with fail
      go_ret
      exact ⟨ret_int (by rw [HEQ.out]), HW.out⟩
end Go.Proofs.Ytabbpccfdpphjaa
