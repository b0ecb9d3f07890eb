import Derived.Test.YtdpmlpclhojcjaaDc
/-
  Which disks are right, as a Bool; the contracts of the document's own Right and Good. No condition but that there are at most a million files.
-/
namespace Go.Proofs.Ytdpmlpclhojcjaa
open Go.ChangeShapes Go.WideShapes Go.ChangeAt Go.RowKit
set_option linter.unusedVariables false

def fitB : Option By → By → Bool
  | none, _ => true
  | some q, n => decide (q < n)
def risB : Option By → List Fl → Bool
  | _, [] => true
  | p, f :: d => decide (okF f) && fitB p f.name && risB (some f.name) d
def goodB (d : List Fl) : Bool := decide (d.length ≤ 40) && risB none d
theorem risB_iff : ∀ (p : Option By) (d : List Fl), risB p d = true ↔ (∀ f ∈ d, okF f) ∧ Rises d ∧ ∀ q, p = some q → ∀ f ∈ d, q < f.name
  | p, [] => by simp [risB, Rises]
  | p, f :: d => by
    have ih := risB_iff (some f.name) d
    unfold risB
    rw [Bool.and_eq_true, Bool.and_eq_true, ih, decide_eq_true_iff]
    constructor
    · rintro ⟨⟨h1, h2⟩, h3, h4, h5⟩
      refine ⟨fun g hg => ?_, List.pairwise_cons.2 ⟨fun g hg => h5 _ rfl g hg, h4⟩, fun q hq g hg => ?_⟩
      · rcases List.mem_cons.1 hg with rfl | hg
        · exact h1
        · exact h3 g hg
      · subst hq
        have h6 : q < f.name := of_decide_eq_true h2
        rcases List.mem_cons.1 hg with rfl | hg
        · exact h6
        · exact by_trans h6 (h5 _ rfl g hg)
    · rintro ⟨h1, h2, h3⟩
      refine ⟨⟨h1 f (List.mem_cons_self ..), ?_⟩, fun g hg => h1 g (List.mem_cons_of_mem _ hg), h2.tail, fun q hq g hg => ?_⟩
      · cases p with
        | none => rfl
        | some q => exact decide_eq_true (h3 q rfl f (List.mem_cons_self ..))
      · injection hq with hq
        subst hq
        exact h2.head g hg
theorem goodB_iff (d : List Fl) : goodB d = true ↔ Good d := by
  unfold goodB
  rw [Bool.and_eq_true, decide_eq_true_iff, risB_iff]
  constructor
  · rintro ⟨h1, h2, h3, _⟩; exact ⟨h1, h2, h3⟩
  · rintro ⟨h1, h2, h3⟩; exact ⟨h1, h2, h3, fun q hq => by cases hq⟩
/-- A disk, or the one without files. -/
def goodOf (d : List Fl) : List Fl := if goodB d then d else []
theorem goodOf_good (d : List Fl) : Good (goodOf d) := by
  unfold goodOf
  cases h : goodB d with
  | false => exact Good.nil
  | true => exact (goodB_iff d).1 h
theorem goodOf_self {d : List Fl} (h : Good d) : goodOf d = d := by unfold goodOf; rw [(goodB_iff d).2 h]; rfl
/-- The name ahead of a place. -/
def preB (ls : List Fe) (k : Nat) : Option By := if k = 0 then none else some (fAt ls (k - 1)).nm.toList
theorem preB_succ (ls : List Fe) (k : Nat) : preB ls (k + 1) = some (fAt ls k).nm.toList := by unfold preB; rw [if_neg (by omega)]; rfl
theorem preB_zero (ls : List Fe) : preB ls 0 = none := rfl
theorem preB_pos (ls : List Fe) {k : Nat} (h : ¬ k = 0) : preB ls k = some (fAt ls (k - 1)).nm.toList := if_neg h
/-- What is asked of the file at a place. -/
def cndB (ls : List Fe) (k : Nat) : Bool := decide (okF (fAt ls k).x) && fitB (preB ls k) (fAt ls k).nm.toList
theorem risB_step {ls : List Fe} {k : Nat} (h : k < ls.length) : risB (preB ls k) (xs (ls.drop k)) = (cndB ls k && risB (preB ls (k + 1)) (xs (ls.drop (k + 1)))) := by
  rw [fdrop_at ls k h, preB_succ]; rfl
theorem okF_of {nm : ByteArray} {dat : List UInt8} {sf : Int} {A : Option Addr} {c : Nat} (h1 : 0 < nm.size) (h2 : nm.size ≤ 16) (h3 : dat.length ≤ 20000) (h4 : 0 ≤ sf) (h5 : sf ≤ dat.length) : okF (Fe.x ⟨nm, dat, sf, A, c⟩) := by
  unfold okF Fe.x
  have := str_len nm
  exact ⟨by simp only; omega, by simp only; omega, h3, h4, h5⟩
theorem okF_to {nm : ByteArray} {dat : List UInt8} {sf : Int} {A : Option Addr} {c : Nat} (h : okF (Fe.x ⟨nm, dat, sf, A, c⟩)) : 0 < nm.size ∧ nm.size ≤ 16 ∧ dat.length ≤ 20000 ∧ 0 ≤ sf ∧ sf ≤ dat.length := by
  unfold okF Fe.x at h
  have := str_len nm
  simp only at h
  obtain ⟨h1, h2, h3, h4, h5⟩ := h
  exact ⟨by omega, by omega, h3, h4, h5⟩
def RrRel (ls : List Fe) (w : World) (o i : Value) (W : World) : Prop := ∃ (k : Nat) (b : Bool), i = .int .i64 k ∧ o = .bool b ∧ k ≤ ls.length ∧ Hid (goodB (xs ls) = (b && risB (preB ls k) (xs (ls.drop k)))) ∧ Hid (Below w.heap.size w W)
set_option maxHeartbeats 4000000 in
theorem rright_any (A : Option Addr) (c : Nat) (ls : List Fe) (w : World) (hA : Lies w w.heap.size 3 A ls.length (fc ls)) (hn : ls.length ≤ 1000000) :
    Calls Try.prog 13 #[.slice A ls.length c] w fun e w' => e = .returned (.bool (goodB (xs ls))) ∧ Below w.heap.size w w' := by
  have HA := Lib.hid hA
  clear hA
  go_enter Try.func13, Try.ntmps13
  go_wp2_with fail
  go_loopw [3, 4, 5] (fun o i _ W => RrRel ls w o i W) (fun o i _ W => ls.length - (intOf i).toNat)
  case atStart => exact ⟨0, decide (ls.length ≤ 40), rfl, by simp; omega, Nat.zero_le _, Lib.hid (by unfold goodB; rw [xs_len]; rfl), Lib.hid (Below.refl _ _)⟩
  case round =>
    obtain ⟨k, b, rfl, rfl, hk, HP, HW⟩ := hrel
    by_cases hlt : k < ls.length
    · obtain ⟨ad, rfl, hadb, e0, e1, e2⟩ := (HA.out.below HW.out).fe k hlt
      have hkl : (k : Int) < (ls.length : Int) := by omega
      have HR := Lib.hid (risB_step hlt)
      have HPRE := Lib.hid (show 0 < k → ∃ ad', some ad = some ad' ∧ ad'.block < wr.heap.size ∧ wr.cell? (ad'.add ((k - 1) * 3)) = some (.string (fAt ls (k - 1)).nm) from fun h => by
        obtain ⟨ad', ea, hb', c0, _⟩ := (HA.out.next HW.out).fe (k - 1) (by omega)
        exact ⟨ad', ea, hb', c0⟩)
      have HC := Lib.hid (show cndB ls k = (decide (okF (fAt ls k).x) && fitB (preB ls k) (fAt ls k).nm.toList) from rfl)
      generalize fAt ls k = m at *
      obtain ⟨nm, dat, sf, DA, dc⟩ := m
      simp only at e0 e1 e2
      have CY := Lib.hid (show 0 < nm.size ∧ nm.size ≤ 16 ∧ dat.length ≤ 20000 ∧ 0 ≤ sf ∧ sf ≤ (dat.length : Int) → cndB ls k = fitB (preB ls k) nm.toList from fun ⟨h1, h2, h3, h4, h5⟩ => by rw [HC.out, decide_eq_true (okF_of h1 h2 h3 h4 h5)]; rfl)
      have CN := Lib.hid (show ¬ (0 < nm.size ∧ nm.size ≤ 16 ∧ dat.length ≤ 20000 ∧ 0 ≤ sf ∧ sf ≤ (dat.length : Int)) → cndB ls k = false from fun h => by rw [HC.out, decide_eq_false (fun g => h (okF_to g))]; rfl)
      have HBA := Lib.hid (below_alloc wr (.cells #[.string nm, .slice DA dat.length dc, .int .i64 sf] 50))
      have f0 : (wr.alloc (.cells #[.string nm, .slice DA dat.length dc, .int .i64 sf] 50)).cell? ⟨wr.heap.size, 0, none⟩ = some (.string nm) := by simp [go_sem]
      have f1 : (wr.alloc (.cells #[.string nm, .slice DA dat.length dc, .int .i64 sf] 50)).cell? ⟨wr.heap.size, 1, none⟩ = some (.slice DA dat.length dc) := by simp [go_sem]
      have f2 : (wr.alloc (.cells #[.string nm, .slice DA dat.length dc, .int .i64 sf] 50)).cell? ⟨wr.heap.size, 2, none⟩ = some (.int .i64 sf) := by simp [go_sem]
      have HW4 := Lib.hid (HW.out.trans (HBA.out.mono HW.out.size))
      have fin : ∀ b' : Bool, b' = cndB ls k → Hid (goodB (xs ls) = ((b && b') && risB (preB ls (k + 1)) (xs (ls.drop (k + 1))))) := by
        intro b' hb'
        refine Lib.hid ?_
        rw [HP.out, HR.out, hb', Bool.and_assoc]
      have FIN := Lib.hid fin
      clear fin
      go_upto_region 6 with fail
      clear e0 e1 e2
      have HPW := Lib.hid (show 0 < k → (wr.alloc (.cells #[.string nm, .slice DA dat.length dc, .int .i64 sf] 50)).cell? (ad.add ((k - 1) * 3)) = some (.string (fAt ls (k - 1)).nm) from fun h => by
        obtain ⟨ad', ea, hb', c0⟩ := HPRE.out h
        injection ea with ea
        subst ea
        exact (HBA.out.cell (by rw [block_add]; exact hb')).trans c0)
      generalize wr.alloc (.cells #[.string nm, .slice DA dat.length dc, .int .i64 sf] 50) = w4 at HBA f0 f1 f2 HW4 HPW ⊢
      cases b with
      | false =>
        have HT := FIN.out _ rfl
        simp only [Bool.false_and] at HT
        go_quiet (fail)
        go_wp2_with fail
        go_roundw
        case rel => exact ⟨k + 1, false, by go_num, rfl, by omega, HT, Lib.hid (below_to_drewN HW4.out _)⟩
        case measure => simp [intOf]; omega
      | true =>
        simp only [Bool.true_and] at FIN
        skip
        by_cases g1 : 0 < nm.size
        · have g1i : (0 : Int) < (nm.size : Int) := by omega
          skip
          by_cases g2 : nm.size ≤ 16
          · have g2i : (nm.size : Int) ≤ 16 := by omega
            skip
            by_cases g3 : dat.length ≤ 20000
            · have g3i : (dat.length : Int) ≤ 20000 := by omega
              skip
              by_cases g4 : 0 ≤ sf
              · skip
                by_cases g5 : sf ≤ dat.length
                · have g5i : sf ≤ (dat.length : Int) := by omega
                  skip
                  by_cases k0 : k = 0
                  · have HT := FIN.out true (by rw [CY.out ⟨g1, g2, g3, g4, g5⟩, k0, preB_zero]; rfl)
                    have k0' : ((k : Int) == 0) = true := by rw [k0]; rfl
                    clear k0
                    go_quiet (fail)
                    go_wp2_with fail
                    go_roundw
                    case rel => exact ⟨k + 1, true, by go_num, rfl, by omega, HT, Lib.hid (below_to_drewN HW4.out _)⟩
                    case measure => simp [intOf]; omega
                  · have e1 := HPW.out (by omega)
                    have k0' : ((k : Int) == 0) = false := by simp; omega
                    have HQ := Lib.hid (preB_pos ls k0)
                    have hk1 : ((k : Int) - 1) = ((k - 1 : Nat) : Int) := by omega
                    have hk2 : ((k - 1 : Nat) : Int) < (ls.length : Int) := by omega
                    cases g6 : Op.bytesLess (fAt ls (k - 1)).nm.toList nm.toList with
                    | true =>
                      have HT := FIN.out true (by rw [CY.out ⟨g1, g2, g3, g4, g5⟩, HQ.out]; show true = decide _; rw [← less_of, g6])
                      clear k0
                      go_quiet (fail)
                      go_wp2_with fail
                      go_roundw
                      case rel => exact ⟨k + 1, true, by go_num, rfl, by omega, HT, Lib.hid (below_to_drewN HW4.out _)⟩
                      case measure => simp [intOf]; omega
                    | false =>
                      have HT := FIN.out false (by rw [CY.out ⟨g1, g2, g3, g4, g5⟩, HQ.out]; show false = decide _; rw [← less_of, g6])
                      clear k0
                      go_quiet (fail)
                      go_wp2_with fail
                      go_roundw
                      case rel => exact ⟨k + 1, false, by go_num, rfl, by omega, HT, Lib.hid (below_to_drewN HW4.out _)⟩
                      case measure => simp [intOf]; omega
                · skip
                  have HT := FIN.out false (by rw [CN.out (fun h => by omega)])
                  have g50 : decide (sf ≤ (dat.length : Int)) = false := decide_eq_false (by omega)
                  clear g5
                  go_quiet (fail)
                  go_wp2_with fail
                  go_roundw
                  case rel => exact ⟨k + 1, false, by go_num, rfl, by omega, HT, Lib.hid (below_to_drewN HW4.out _)⟩
                  case measure => simp [intOf]; omega
              · skip
                have HT := FIN.out false (by rw [CN.out (fun h => by omega)])
                have g40 : decide (0 ≤ sf) = false := decide_eq_false (by omega)
                clear g4
                go_quiet (fail)
                go_wp2_with fail
                go_roundw
                case rel => exact ⟨k + 1, false, by go_num, rfl, by omega, HT, Lib.hid (below_to_drewN HW4.out _)⟩
                case measure => simp [intOf]; omega
            · skip
              have HT := FIN.out false (by rw [CN.out (fun h => by omega)])
              have g30 : decide (dat.length ≤ 20000) = false := decide_eq_false (by omega)
              have g31 : decide ((dat.length : Int) ≤ 20000) = false := decide_eq_false (by omega)
              clear g3
              go_quiet (fail)
              go_wp2_with fail
              go_roundw
              case rel => exact ⟨k + 1, false, by go_num, rfl, by omega, HT, Lib.hid (below_to_drewN HW4.out _)⟩
              case measure => simp [intOf]; omega
          · skip
            have HT := FIN.out false (by rw [CN.out (fun h => by omega)])
            have g20 : decide (nm.size ≤ 16) = false := decide_eq_false (by omega)
            have g21 : decide ((nm.size : Int) ≤ 16) = false := decide_eq_false (by omega)
            clear g2
            go_quiet (fail)
            go_wp2_with fail
            go_roundw
            case rel => exact ⟨k + 1, false, by go_num, rfl, by omega, HT, Lib.hid (below_to_drewN HW4.out _)⟩
            case measure => simp [intOf]; omega
        · skip
          have HT := FIN.out false (by rw [CN.out (fun h => by omega)])
          have g10 : decide (0 < nm.size) = false := decide_eq_false (by omega)
          have g11 : decide ((0 : Int) < (nm.size : Int)) = false := decide_eq_false (by omega)
          clear g1
          go_quiet (fail)
          go_wp2_with fail
          go_roundw
          case rel => exact ⟨k + 1, false, by go_num, rfl, by omega, HT, Lib.hid (below_to_drewN HW4.out _)⟩
          case measure => simp [intOf]; omega
    · have hk' : k = ls.length := by omega
      subst hk'
      have HT := Lib.hid (show goodB (xs ls) = b by have h1 := HP.out; simp only [List.drop_length] at h1; rw [h1]; cases b <;> rfl)
      go_wp2_with fail
      go_ret
      exact ⟨ret_bool HT.out.symm, HW.out⟩
def gsL (ls : List Fe) : List Fe := if goodB (xs ls) then ls else []
theorem gsL_xs (ls : List Fe) : xs (gsL ls) = goodOf (xs ls) := by unfold gsL goodOf; cases goodB (xs ls) <;> rfl
/-- What answers a list of files. -/
def FlPost (t : List Fl) (w : World) (r : Ending) (w' : World) : Prop := Below w.heap.size w w' ∧ ∃ A c ls, r = .returned (.slice A ls.length c) ∧ Fls w' w'.heap.size A c ls ∧ xs ls = t
/-- What answers a list of files, and a number. -/
def FePost (t : List Fl) (n : Int) (w : World) (r : Ending) (w' : World) : Prop := Below w.heap.size w w' ∧ ∃ A c ls, r = .returned (.tuple #[.slice A ls.length c, .int .i64 n]) ∧ Fls w' w'.heap.size A c ls ∧ xs ls = t
set_option maxHeartbeats 1000000 in
theorem good_any (A : Option Addr) (c : Nat) (ls : List Fe) (w : World) (hA : Fls w w.heap.size A c ls) (hn : ls.length ≤ 1000000) :
    Calls Try.prog 18 #[.slice A ls.length c] w (FlPost (goodOf (xs ls)) w) := by
  have HA := Lib.hid hA
  clear hA
  cases hg : goodB (xs ls) with
  | false =>
    have HG := Lib.hid hg
    have HO := Lib.hid (show xs [] = goodOf (xs ls) by unfold goodOf; rw [hg]; rfl)
    clear hg
    go_enter Try.func18, Try.ntmps18
    go_wp2_with fail
    refine (rright_any A c ls _ HA.out.L hn).mono ?_
    rintro e w1 ⟨rfl, hb⟩
    have HB := Lib.hid hb
    clear hb
    rw [HG.out]
    go_wp2_with fail
    go_ret
    exact ⟨HB.out, none, 0, [], rfl, Fls.no _ _, HO.out⟩
  | true =>
    have HG := Lib.hid hg
    have HO := Lib.hid (show xs ls = goodOf (xs ls) by unfold goodOf; rw [hg]; rfl)
    clear hg
    go_enter Try.func18, Try.ntmps18
    go_wp2_with fail
    refine (rright_any A c ls _ HA.out.L hn).mono ?_
    rintro e w1 ⟨rfl, hb⟩
    have HB := Lib.hid hb
    clear hb
    rw [HG.out]
    go_wp2_with fail
    go_ret
    exact ⟨HB.out, A, c, ls, rfl, HA.out.next HB.out, HO.out⟩
end Go.Proofs.Ytdpmlpclhojcjaa
