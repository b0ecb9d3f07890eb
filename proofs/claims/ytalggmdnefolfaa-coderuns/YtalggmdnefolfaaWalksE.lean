/-
  Contracts of TakeFrame, of the program's and of the document's own. Conditions: sizes below 2^46.
-/
import Derived.Test.YtalggmdnefolfaaWalksD
namespace Go.Proofs.Ytalggmdnefolfaa
open Go.RowKit
set_option linter.unusedVariables false

theorem quiet_left {P : Program} {f : FuncId} {args : Array Value} {w : World} {n : Nat} {v : Value}
    (h : Calls P f args (w.drewN n) fun e w' => e = .returned v ∧ w.drewN n = w') : Calls P f args (w.drewN n) fun e w'' => e = .returned v ∧ ∃ m, w'' = w.drewN m :=
  h.mono fun _ _ ⟨he, hm⟩ => ⟨he, n, hm.symm⟩

theorem valOf_take4_lt (l : List UInt8) : valOf (l.take 4) < 4294967296 := by
  have h1 := valOf_lt (l.take 4)
  have h2 : 256 ^ (l.take 4).length ≤ 256 ^ 4 := Nat.pow_le_pow_right (by omega) (by rw [List.length_take]; omega)
  have h3 : (256 : Nat) ^ 4 = 4294967296 := by decide
  omega

theorem take_split (l : List UInt8) (v : Nat) : l.take (8 + v) = l.take 4 ++ ((l.drop 4).take 4 ++ (l.drop 8).take v) := by
  rw [show 8 + v = 4 + (4 + v) by omega, List.take_add, List.take_add, List.drop_drop]

theorem frame_head (l : List UInt8) (v : Nat) (hl : 8 + v ≤ l.length) (hv : valOf (l.take 4) = v) : be 4 ((l.drop 8).take v).length = l.take 4 := by
  have h1 : ((l.drop 8).take v).length = v := by rw [List.length_take, List.length_drop]; omega
  have h2 := be_valOf (l.take 4)
  rw [List.length_take, Nat.min_eq_left (by omega), hv] at h2
  rw [h1, h2]

/-- What TakeFrame holds against each other. -/
def sumAt (l : List UInt8) : Nat := valOf ((l.drop 4).take 4)
def sumOf (l : List UInt8) (v : Nat) : Nat := crcOf (l.take 4 ++ (l.drop 8).take v)

theorem frame_eq (l : List UInt8) (v : Nat) (hl : 8 + v ≤ l.length) (hv : valOf (l.take 4) = v) (hs : sumAt l = sumOf l v) : (frameOf ((l.drop 8).take v) == l.take (8 + v)) = true := by
  rw [beq_iff_eq]
  unfold frameOf
  rw [frame_head l v hl hv, take_split]
  unfold sumAt sumOf at hs
  rw [← hs]
  have h2 := be_valOf ((l.drop 4).take 4)
  rw [List.length_take, List.length_drop, Nat.min_eq_left (by omega)] at h2
  rw [h2]

theorem frame_neq (l : List UInt8) (v : Nat) (hl : 8 + v ≤ l.length) (hv : valOf (l.take 4) = v) (hs : sumAt l ≠ sumOf l v) : (frameOf ((l.drop 8).take v) == l.take (8 + v)) = false := by
  rw [beq_eq_false_iff_ne]
  intro h
  unfold frameOf at h
  rw [frame_head l v hl hv, take_split] at h
  have h1 := List.append_cancel_left h
  have h2 := List.append_cancel_right h1
  have h3 := congrArg valOf h2
  rw [valOf_be, Nat.mod_eq_of_lt (by have := crcOf_lt (l.take 4 ++ (l.drop 8).take v); omega)] at h3
  exact hs h3.symm

set_option maxHeartbeats 400000 in
theorem takeFrame_short (A : Option Addr) (n cp : Nat) (w : World) (h : n < 8) :
    Calls Try.prog 24 #[.slice A n cp] w fun e w' => e = .returned (.tuple #[.slice none 0 0, .slice none 0 0, .int .i64 2]) ∧ w = w' := by
  go_enter Try.func24, Try.ntmps24
  go_wp2
  go_ret3
  exact ⟨rfl, rfl⟩

set_option maxHeartbeats 400000 in
theorem takeFrame_form (A : Option Addr) (n cp : Nat) (l : List UInt8) (w : World) (hc : n ≤ cp) (hn : n ≤ 70368744177664) (hA : Lies w w.heap.size 1 A n (bc l)) (h8 : 8 ≤ n)
    (h : 4000 < valOf (l.take 4) ∨ n - 8 < valOf (l.take 4)) :
    Calls Try.prog 24 #[.slice A n cp] w fun e w' => e = .returned (.tuple #[.slice none 0 0, .slice none 0 0, .int .i64 2]) ∧ Below w.heap.size w w' := by
  obtain ⟨A8, hcut8, hL8⟩ := cut_l Try.under22 Try.size22 A n cp 8 8 .i64 rfl h8 hc
  clear hL8
  go_enter Try.func24, Try.ntmps24
  go_wp2_with fail
  go_quiet ((go_at_call 29; exact quiet_left (taken_any A n cp 4 _ rfl l _ (by omega) (by omega) (by omega) (hA.drewN _))))
  have hB := valOf_take4_lt l
  generalize valOf (l.take 4) = v at *
  go_wp2_with fail
  all_goals go_ret3
  all_goals exact ⟨rfl, below_to_drewN (Below.refl _ _) _⟩

theorem wrap_nat (x : Nat) (h : x < 4294967296) : IntKind.u64.wrap (x : Int) = (x : Int) := by rw [wrap_u64]; omega
theorem sums_ne (l : List UInt8) (v : Nat) (hs : sumAt l ≠ sumOf l v) : ((valOf ((l.drop 4).take 4) : Int) != IntKind.u64.wrap (crcOf (l.take 4 ++ (l.drop 8).take v) : Int)) = true := by
  rw [wrap_nat _ (crcOf_lt _), bne_iff_ne]
  intro h
  exact hs (Int.ofNat.inj h)
theorem sums_eq (l : List UInt8) (v : Nat) (hs : sumAt l = sumOf l v) : ((valOf ((l.drop 4).take 4) : Int) != IntKind.u64.wrap (crcOf (l.take 4 ++ (l.drop 8).take v) : Int)) = false := by
  rw [wrap_nat _ (crcOf_lt _)]
  have : (valOf ((l.drop 4).take 4) : Int) = (crcOf (l.take 4 ++ (l.drop 8).take v) : Int) := congrArg Int.ofNat hs
  rw [this]; simp

set_option maxHeartbeats 400000 in
theorem takeFrame_sum (A : Option Addr) (n cp v : Nat) (l : List UInt8) (w : World) (hc : n ≤ cp) (hn : n ≤ 70368744177664) (hA : Lies w w.heap.size 1 A n (bc l)) (h8 : 8 ≤ n)
    (hv : valOf (l.take 4) = v) (hv1 : v ≤ 4000) (hv2 : v ≤ n - 8) (hs : sumAt l ≠ sumOf l v) :
    Calls Try.prog 24 #[.slice A n cp] w fun e w' => e = .returned (.tuple #[.slice none 0 0, .slice none 0 0, .int .i64 7]) ∧ Below w.heap.size w w' := by
  obtain ⟨A8, hcut8, hL8⟩ := cut_l Try.under22 Try.size22 A n cp 8 8 .i64 rfl h8 hc
  obtain ⟨Ap, hcutp, hLp⟩ := cut_h Try.under22 Try.size22 A8 (n - 8) (cp - 8) v v .u64 rfl hv2 (by omega)
  obtain ⟨A4, hcut4, hL4⟩ := cut_l Try.under22 Try.size22 A n cp 4 4 .i64 rfl (by omega) hc
  obtain ⟨Ah, hcuth, hLh⟩ := cut_h Try.under22 Try.size22 A n cp 4 4 .i64 rfl (by omega) hc
  have HV := Lib.hid hv
  clear hv
  go_enter Try.func24, Try.ntmps24
  go_wp2_with fail
  go_quiet ((go_at_call 29; exact quiet_left (taken_any A n cp 4 _ rfl l _ (by omega) (by omega) (by omega) (hA.drewN _))))
  rw [HV.out]
  have hbW := below_to_drewN (Below.refl w.heap.size w) nq
  have hAW := hA.drewN nq
  have h8W := hL8 _ _ _ hAW
  have hpW := hLp _ _ _ h8W
  have h4W := hL4 _ _ _ hAW
  have hhW := hLh _ _ _ hAW
  rw [bc_drop, bc_take] at hpW
  rw [bc_drop] at h4W
  rw [bc_take] at hhW
  clear hL8 hLp hL4 hLh h8W hA hAW
  generalize w.drewN nq = W at *
  have hpW' := hpW.more hbW.size
  have h4W' := h4W.more hbW.size
  have hhW' := hhW.more hbW.size
  clear hpW h4W hhW
  go_wp2_with fail
  go_quiet ((first | (go_at_call 29; exact quiet_left (taken_any A4 (n - 4) (cp - 4) 4 _ rfl (l.drop 4) _ (by omega) (by omega) (by omega) (h4W'.drewN _))) | (go_at_call 32; exact quiet_left (frameSum_any Ah 4 cp (l.take 4) Ap v (cp - 8) ((l.drop 8).take v) _ (by omega) (by omega) (hhW'.drewN _) (hpW'.drewN _)))))
  rw [sums_ne l v hs]
  go_wp2_with fail
  go_ret3
  exact ⟨rfl, below_to_drewN hbW _⟩

set_option maxHeartbeats 400000 in
theorem takeFrame_yes (A : Option Addr) (n cp v : Nat) (l : List UInt8) (w : World) (hc : n ≤ cp) (hn : n ≤ 70368744177664) (hA : Lies w w.heap.size 1 A n (bc l)) (h8 : 8 ≤ n)
    (hv : valOf (l.take 4) = v) (hv1 : v ≤ 4000) (hv2 : v ≤ n - 8) (hs : sumAt l = sumOf l v) :
    Calls Try.prog 24 #[.slice A n cp] w fun e w' => ∃ A1 c1 A2 c2, e = .returned (.tuple #[.slice A1 v c1, .slice A2 (n - 8 - v) c2, .int .i64 0]) ∧
      Lies w' w'.heap.size 1 A1 v (bc ((l.drop 8).take v)) ∧ w'.ownsRow w.heap.size 5 1 (.slice A2 (n - 8 - v) c2) (n - 8 - v) (bc ((l.drop 8).drop v)) ∧ Below w.heap.size w w' := by
  obtain ⟨A8, hcut8, hL8⟩ := cut_l Try.under22 Try.size22 A n cp 8 8 .i64 rfl h8 hc
  obtain ⟨Ap, hcutp, hLp⟩ := cut_h Try.under22 Try.size22 A8 (n - 8) (cp - 8) v v .u64 rfl hv2 (by omega)
  obtain ⟨Aq, hcutq, hLq⟩ := cut_l Try.under22 Try.size22 A8 (n - 8) (cp - 8) v v .u64 rfl hv2 (by omega)
  obtain ⟨A4, hcut4, hL4⟩ := cut_l Try.under22 Try.size22 A n cp 4 4 .i64 rfl (by omega) hc
  obtain ⟨Ah, hcuth, hLh⟩ := cut_h Try.under22 Try.size22 A n cp 4 4 .i64 rfl (by omega) hc
  have HV := Lib.hid hv
  clear hv
  go_enter Try.func24, Try.ntmps24
  go_wp2_with fail
  go_quiet ((go_at_call 29; exact quiet_left (taken_any A n cp 4 _ rfl l _ (by omega) (by omega) (by omega) (hA.drewN _))))
  rw [HV.out]
  have hbW := below_to_drewN (Below.refl w.heap.size w) nq
  have hAW := hA.drewN nq
  have h8W := hL8 _ _ _ hAW
  have hpW := hLp _ _ _ h8W
  have hqW := hLq _ _ _ h8W
  rw [bc_drop, bc_drop] at hqW
  have h4W := hL4 _ _ _ hAW
  have hhW := hLh _ _ _ hAW
  rw [bc_drop, bc_take] at hpW
  rw [bc_drop] at h4W
  rw [bc_take] at hhW
  clear hL8 hLp hLq hL4 hLh h8W hA hAW
  generalize w.drewN nq = W at *
  have hpW' := hpW.more hbW.size
  have h4W' := h4W.more hbW.size
  have hhW' := hhW.more hbW.size
  have hqW' := hqW.more hbW.size
  clear hpW h4W hhW hqW
  go_wp2_with fail
  go_quiet ((first | (go_at_call 29; exact quiet_left (taken_any A4 (n - 4) (cp - 4) 4 _ rfl (l.drop 4) _ (by omega) (by omega) (by omega) (h4W'.drewN _))) | (go_at_call 32; exact quiet_left (frameSum_any Ah 4 cp (l.take 4) Ap v (cp - 8) ((l.drop 8).take v) _ (by omega) (by omega) (hhW'.drewN _) (hpW'.drewN _)))))
  rw [sums_eq l v hs]
  have hpX : Lies (W.drewN nq) (W.drewN nq).heap.size 1 Ap v (bc ((l.drop 8).take v)) := hpW'
  have hqX : Lies (W.drewN nq) (W.drewN nq).heap.size 1 Aq (n - 8 - v) (bc ((l.drop 8).drop v)) := hqW'
  have hbX := below_to_drewN hbW nq
  clear hpW' hqW' hbW h4W' hhW' hcut4 hcuth hcut8 hcutp
  generalize W.drewN nq = X at *
  go_wp2_with fail
  go_region_with (go_at_call 30; first
    | ((with_reducible refine (copied_any Ap v (cp - 8) ((l.drop 8).take v) _ ?_ ?_).mono ?_); omega; exact hpX; rintro e w1 ⟨A1, c1, rfl, ho1, hb1⟩)
    | ((with_reducible refine (copied_any Aq (n - 8 - v) (cp - 8 - v) ((l.drop 8).drop v) _ ?_ ?_).mono ?_); omega; exact hqX.next (below_of_drew hb1); rintro e w2 ⟨A2, c2, rfl, ho2, hb2⟩))
  all_goals (try go_wp2)
  go_ret3
  have hX1 : Below X.heap.size X w1 := below_of_drew hb1
  have hX2 : Below X.heap.size X w2 := hX1.trans (hb2.mono hX1.size)
  exact ⟨_, _, _, _, rfl, (Lies.of_own ho1).next hb2, ho2.lower (Nat.le_trans hbX.size hX1.size), hbX.trans (hX2.mono hbX.size)⟩

set_option maxHeartbeats 400000 in
theorem rtakeFrame_short (A : Option Addr) (n cp : Nat) (w : World) (h : n < 8) :
    Calls Try.prog 25 #[.slice A n cp] w fun e w' => e = .returned (.tuple #[.slice none 0 0, .int .i64 0, .int .i64 2]) ∧ w = w' := by
  go_enter Try.func25, Try.ntmps25
  go_wp2
  go_ret3
  exact ⟨rfl, rfl⟩

set_option maxHeartbeats 400000 in
theorem rtakeFrame_form (A : Option Addr) (n cp : Nat) (l : List UInt8) (w : World) (hc : n ≤ cp) (hn : n ≤ 70368744177664) (hA : Lies w w.heap.size 1 A n (bc l)) (h8 : 8 ≤ n)
    (h : 4000 < valOf (l.take 4) ∨ n - 8 < valOf (l.take 4)) :
    Calls Try.prog 25 #[.slice A n cp] w fun e w' => e = .returned (.tuple #[.slice none 0 0, .int .i64 0, .int .i64 2]) ∧ w = w' := by
  obtain ⟨Ah, hcuth, hLh⟩ := cut_h Try.under22 Try.size22 A n cp 4 4 .i64 rfl (by omega) hc
  have hhW := hLh _ _ _ hA
  rw [bc_take] at hhW
  clear hLh
  go_enter Try.func25, Try.ntmps25
  go_wp2_with fail
  refine (value_any Ah 4 cp (l.take 4) _ (by omega) hhW).mono ?_
  rintro e w' ⟨rfl, rfl⟩
  have hB := valOf_take4_lt l
  generalize valOf (l.take 4) = v at *
  by_cases hv : 4000 < v
  · have hv' : (4000 : Int) < v := by omega
    go_wp2_with fail
    go_ret3
    exact ⟨rfl, rfl⟩
  · have hv' : ¬ (4000 : Int) < v := by omega
    have hv2 : (n : Int) - 8 < v := by omega
    go_wp2_with fail
    go_ret3
    exact ⟨rfl, rfl⟩

set_option maxHeartbeats 400000 in
theorem rtakeFrame_yes (A : Option Addr) (n cp v : Nat) (l : List UInt8) (w : World) (hc : n ≤ cp) (hn : n ≤ 70368744177664) (hA : Lies w w.heap.size 1 A n (bc l)) (h8 : 8 ≤ n)
    (hv : valOf (l.take 4) = v) (hv1 : v ≤ 4000) (hv2 : v ≤ n - 8) (hs : sumAt l = sumOf l v) :
    Calls Try.prog 25 #[.slice A n cp] w fun e w' => ∃ A' c', e = .returned (.tuple #[.slice A' v c', .int .i64 (8 + v : Nat), .int .i64 0]) ∧ Lies w w.heap.size 1 A' v (bc ((l.drop 8).take v)) ∧ Below w.heap.size w w' := by
  have heq := frame_eq l v (by have := hA.len; omega) hv hs
  obtain ⟨Ah, hcuth, hLh⟩ := cut_h Try.under22 Try.size22 A n cp 4 4 .i64 rfl (by omega) hc
  have hhW := hLh _ _ _ hA
  rw [bc_take] at hhW
  obtain ⟨Ap, hcutp, hLp⟩ := cut_lh Try.under22 Try.size22 A n cp 8 (8 + v) 8 (8 + (v : Int)) .i64 .i64 rfl (by omega) (by omega) (by omega) hc
  have hpW := hLp _ _ _ hA
  rw [show 8 + v - 8 = v by omega] at hpW hcutp
  rw [bc_drop, bc_take] at hpW
  obtain ⟨Ab, hcutb, hLb⟩ := cut_h Try.under22 Try.size22 A n cp (8 + v) (8 + (v : Int)) .i64 (by omega) (by omega) hc
  have hbW := hLb _ _ _ hA
  rw [bc_take] at hbW
  clear hLh hLp hLb
  have HV := Lib.hid hv
  clear hv
  go_enter Try.func25, Try.ntmps25
  go_wp2_with fail
  refine (value_any Ah 4 cp (l.take 4) _ (by omega) hhW).mono ?_
  rintro e w' ⟨rfl, rfl⟩
  rw [HV.out]
  have hw1 : IntKind.i64.wrap (v : Int) = (v : Int) := by rw [IntKind.wrap_i64]; omega
  have hw2 : IntKind.i64.wrap (8 + (v : Int)) = 8 + (v : Int) := by rw [IntKind.wrap_i64]; omega
  have hconv0 : (convert 22 9 (.slice Ab (8 + v) cp)).run Try.prog w.drew = .ok (.string ⟨(l.take (8 + v)).toArray⟩) w.drew := run_str _ w.heap.size 22 9 5 Ab (8 + v) cp _ Try.underlying22 Try.underlying5 Try.underlying9 hbW
  go_wp2_with fail
  go_region_with (go_at_call 23; (with_reducible refine (rframe_yes Ap v (cp - 8) ((l.drop 8).take v) _ ?_ ?_).mono ?_); omega; exact hpW; rintro e w1 ⟨A1, c1, rfl, ho1, hb1⟩; have hconv1 : (convert 22 9 (.slice Ab (8 + v) cp)).run Try.prog w1 = .ok (.string ⟨(l.take (8 + v)).toArray⟩) w1 := run_str _ w.heap.size 22 9 5 Ab (8 + v) cp _ Try.underlying22 Try.underlying5 Try.underlying9 (hbW.below (below_of_drew hb1)); have hconv2 : (convert 22 9 (.slice A1 (8 + v) c1)).run Try.prog w1 = .ok (.string ⟨(frameOf ((l.drop 8).take v)).toArray⟩) w1 := run_str _ _ 22 9 5 A1 (8 + v) c1 _ Try.underlying22 Try.underlying5 Try.underlying9 (Lies.of_own ho1))
  all_goals (try go_wp2_with fail)
  all_goals go_ret3
  all_goals exact ⟨_, _, by go_num, hpW, below_of_drew hb1⟩

set_option maxHeartbeats 400000 in
theorem rtakeFrame_sum (A : Option Addr) (n cp v : Nat) (l : List UInt8) (w : World) (hc : n ≤ cp) (hn : n ≤ 70368744177664) (hA : Lies w w.heap.size 1 A n (bc l)) (h8 : 8 ≤ n)
    (hv : valOf (l.take 4) = v) (hv1 : v ≤ 4000) (hv2 : v ≤ n - 8) (hs : sumAt l ≠ sumOf l v) :
    Calls Try.prog 25 #[.slice A n cp] w fun e w' => e = .returned (.tuple #[.slice none 0 0, .int .i64 0, .int .i64 7]) ∧ Below w.heap.size w w' := by
  have heq := frame_neq l v (by have := hA.len; omega) hv hs
  obtain ⟨Ah, hcuth, hLh⟩ := cut_h Try.under22 Try.size22 A n cp 4 4 .i64 rfl (by omega) hc
  have hhW := hLh _ _ _ hA
  rw [bc_take] at hhW
  obtain ⟨Ap, hcutp, hLp⟩ := cut_lh Try.under22 Try.size22 A n cp 8 (8 + v) 8 (8 + (v : Int)) .i64 .i64 rfl (by omega) (by omega) (by omega) hc
  have hpW := hLp _ _ _ hA
  rw [show 8 + v - 8 = v by omega] at hpW hcutp
  rw [bc_drop, bc_take] at hpW
  obtain ⟨Ab, hcutb, hLb⟩ := cut_h Try.under22 Try.size22 A n cp (8 + v) (8 + (v : Int)) .i64 (by omega) (by omega) hc
  have hbW := hLb _ _ _ hA
  rw [bc_take] at hbW
  clear hLh hLp hLb
  have HV := Lib.hid hv
  clear hv
  go_enter Try.func25, Try.ntmps25
  go_wp2_with fail
  refine (value_any Ah 4 cp (l.take 4) _ (by omega) hhW).mono ?_
  rintro e w' ⟨rfl, rfl⟩
  rw [HV.out]
  have hw1 : IntKind.i64.wrap (v : Int) = (v : Int) := by rw [IntKind.wrap_i64]; omega
  have hw2 : IntKind.i64.wrap (8 + (v : Int)) = 8 + (v : Int) := by rw [IntKind.wrap_i64]; omega
  have hconv0 : (convert 22 9 (.slice Ab (8 + v) cp)).run Try.prog w.drew = .ok (.string ⟨(l.take (8 + v)).toArray⟩) w.drew := run_str _ w.heap.size 22 9 5 Ab (8 + v) cp _ Try.underlying22 Try.underlying5 Try.underlying9 hbW
  go_wp2_with fail
  go_region_with (go_at_call 23; (with_reducible refine (rframe_yes Ap v (cp - 8) ((l.drop 8).take v) _ ?_ ?_).mono ?_); omega; exact hpW; rintro e w1 ⟨A1, c1, rfl, ho1, hb1⟩; have hconv1 : (convert 22 9 (.slice Ab (8 + v) cp)).run Try.prog w1 = .ok (.string ⟨(l.take (8 + v)).toArray⟩) w1 := run_str _ w.heap.size 22 9 5 Ab (8 + v) cp _ Try.underlying22 Try.underlying5 Try.underlying9 (hbW.below (below_of_drew hb1)); have hconv2 : (convert 22 9 (.slice A1 (8 + v) c1)).run Try.prog w1 = .ok (.string ⟨(frameOf ((l.drop 8).take v)).toArray⟩) w1 := run_str _ _ 22 9 5 A1 (8 + v) c1 _ Try.underlying22 Try.underlying5 Try.underlying9 (Lies.of_own ho1))
  all_goals (try go_wp2_with fail)
  all_goals go_ret3
  all_goals exact ⟨rfl, below_of_drew hb1⟩
end Go.Proofs.Ytalggmdnefolfaa
