import Derived.Test.YtabbpccfdpphjaaPa
import Derived.Laws.BitsAllLaws
import Derived.BigQuiet
import Derived.OneCell
import Derived.Deep.DeepCutAuto
import Derived.Deep.DeepMust
import Derived.Laws.EntriesVeiled
import Derived.Deep.OwnRows
import Derived.Deep.RegionLaw
/-
  Plain mathematics of the ring: numbers mixed, places, spots, the first one at a place or behind it, the nearest one going round, and that both have one worker; what becomes of owners when a worker comes or goes. No condition.
-/
namespace Go.Proofs.Ytabbpccfdpphjaa
set_option linter.unusedVariables false

/-- Members that are right. -/
def rise : Int → List Int → Bool
  | _, [] => true
  | a, b :: l => decide (1 ≤ b ∧ b ≤ 99 ∧ a < b) && rise b l
def rgt (ms : List Int) : Bool := decide (1 ≤ ms.length ∧ ms.length ≤ 5) && rise 0 ms
theorem rise_mem : ∀ {ms : List Int} {a : Int}, rise a ms = true → ∀ v ∈ ms, 1 ≤ v ∧ v ≤ 99 ∧ a < v := by
  intro ms
  induction ms with
  | nil => intro a h v hv; cases hv
  | cons b l ih =>
    intro a h v hv
    rw [rise, Bool.and_eq_true, decide_eq_true_eq] at h
    rcases List.mem_cons.1 hv with rfl | hv
    · exact h.1
    · have := ih h.2 v hv
      omega
theorem rgt_mem {ms : List Int} (h : rgt ms = true) {v : Int} (hv : v ∈ ms) : 1 ≤ v ∧ v ≤ 99 := by
  unfold rgt at h
  rw [Bool.and_eq_true] at h
  have := rise_mem h.2 v hv
  omega
theorem rgt_len {ms : List Int} (h : rgt ms = true) : 1 ≤ ms.length ∧ ms.length ≤ 5 := by
  unfold rgt at h
  rw [Bool.and_eq_true, decide_eq_true_eq] at h
  exact h.1
theorem rgt_rise {ms : List Int} (h : rgt ms = true) : rise 0 ms = true := by
  unfold rgt at h
  rw [Bool.and_eq_true] at h
  exact h.2
theorem rise_pairs : ∀ {ms : List Int} {a : Int}, rise a ms = true → ms.Pairwise (· < ·) := by
  intro ms
  induction ms with
  | nil => intro a h; exact List.Pairwise.nil
  | cons b l ih =>
    intro a h
    rw [rise, Bool.and_eq_true, decide_eq_true_eq] at h
    exact List.Pairwise.cons (fun v hv => (rise_mem h.2 v hv).2.2) (ih h.2)
end Go.Proofs.Ytabbpccfdpphjaa

/-
  The contracts of ring.Mix, upper, Place, Key, earlier and of the document's own Mix, Place, Key. No condition but that the numbers are of their kinds.
-/
namespace Go.Proofs.Ytabbpccfdpphjaa
open Go.ChangeShapes Go.WideShapes Go.ChangeAt Go.RowKit
set_option linter.unusedVariables false

theorem ret_bool {a b : Bool} (h : a = b) : Ending.returned (.bool a) = .returned (.bool b) := by rw [h]
def wkB (n : Int) : Bool := decide (1 ≤ n ∧ n ≤ 99)
theorem wkB_yes {n : Int} (h : 1 ≤ n ∧ n ≤ 99) : wkB n = true := decide_eq_true h
theorem wkB_no {n : Int} (h : ¬ (1 ≤ n ∧ n ≤ 99)) : wkB n = false := decide_eq_false h
theorem isw_any (n : Int) (w : World) : Calls Try.prog 44 #[.int .i64 n] w fun e w' => e = .returned (.bool (wkB n)) ∧ w = w' := by
  by_cases h1 : 1 ≤ n
  · by_cases h2 : n ≤ 99
    · have H := Lib.hid (wkB_yes ⟨h1, h2⟩)
      go_enter Try.func44, Try.ntmps44
      go_wp2
      go_ret
      exact ⟨ret_bool (by rw [H.out]), rfl⟩
    · have H := Lib.hid (wkB_no (n := n) (fun h => h2 h.2))
      go_enter Try.func44, Try.ntmps44
      go_wp2
      go_ret
      exact ⟨ret_bool (by rw [H.out]), rfl⟩
  · have H := Lib.hid (wkB_no (n := n) (fun h => h1 h.1))
    go_enter Try.func44, Try.ntmps44
    go_wp2
    go_ret
    exact ⟨ret_bool (by rw [H.out]), rfl⟩
end Go.Proofs.Ytabbpccfdpphjaa

/-
  Words for lists of numbers in memory; the contracts of ring.Right and of the document's own Right, Has, SameInts, way. No condition but that the lists have at most a million numbers.
-/
namespace Go.Proofs.Ytabbpccfdpphjaa
open Go.ChangeShapes Go.WideShapes Go.ChangeAt Go.RowKit
set_option linter.unusedVariables false

def vc (l : List Int) : List Value := l.map fun x => Value.int .i64 x
theorem vc_len (l : List Int) : (vc l).length = l.length := by unfold vc; simp
theorem vc_app (a b : List Int) : vc (a ++ b) = vc a ++ vc b := by unfold vc; simp
theorem vc_set (l : List Int) (k : Nat) (x : Int) : (vc l).set k (.int .i64 x) = vc (l.set k x) := by unfold vc; rw [List.map_set]
theorem vc_one (l : List Int) : ∀ u ∈ vc l, u.oneCell' = true := by
  intro u hu; unfold vc at hu; obtain ⟨b, _, rfl⟩ := List.mem_map.1 hu; rfl
/-- The number at a place. -/
def iAt (l : List Int) (k : Nat) : Int := l.getD k 0
theorem iAt_get (l : List Int) (k : Nat) (h : k < l.length) : iAt l k = l[k] := by unfold iAt; rw [List.getD_eq_getElem?_getD, List.getElem?_eq_getElem h]; rfl
theorem iAt_mem (l : List Int) (k : Nat) (h : k < l.length) : iAt l k ∈ l := by rw [iAt_get l k h]; exact List.getElem_mem h
theorem idrop_at (l : List Int) (k : Nat) (h : k < l.length) : l.drop k = iAt l k :: l.drop (k + 1) := by rw [iAt_get l k h]; exact List.drop_eq_getElem_cons h
theorem itake_at (l : List Int) (k : Nat) (h : k < l.length) : l.take (k + 1) = l.take k ++ [iAt l k] := by rw [iAt_get l k h]; exact List.take_succ_eq_append_getElem h
theorem vc_at (l : List Int) (k : Nat) (h : k < l.length) : (vc l)[k]? = some (.int .i64 (iAt l k)) := by unfold vc; rw [iAt_get l k h]; simp [List.getElem?_eq_getElem h]
theorem Lies.vs {w : World} {B : Nat} {A : Option Addr} {n : Nat} {l : List Int} (h : Lies w B 1 A n (vc l)) (k : Nat) (hk : k < l.length) : ∃ ad, A = some ad ∧ ad.block < B ∧ w.cell? (ad.add k) = some (.int .i64 (iAt l k)) :=
  h.2 k _ (vc_at l k hk)
theorem rise_step {a : Int} {l : List Int} {k : Nat} (h : k < l.length) : rise a (l.drop k) = (decide (1 ≤ iAt l k ∧ iAt l k ≤ 99 ∧ a < iAt l k) && rise (iAt l k) (l.drop (k + 1))) := by
  rw [idrop_at l k h]; rfl
theorem rgt_no {ms : List Int} (h : ¬ (1 ≤ ms.length ∧ ms.length ≤ 5)) : rgt ms = false := by unfold rgt; rw [decide_eq_false h]; rfl
theorem rgt_yes {ms : List Int} (h : 1 ≤ ms.length ∧ ms.length ≤ 5) : rgt ms = rise 0 ms := by unfold rgt; rw [decide_eq_true h]; rfl
def RiRel (ms : List Int) (w : World) (a i : Value) (W : World) : Prop := ∃ (k : Nat) (x : Int), i = .int .i64 k ∧ a = .int .i64 x ∧ k ≤ ms.length ∧ rise 0 ms = rise x (ms.drop k) ∧ W = w
set_option maxHeartbeats 1000000 in
theorem right_any (A : Option Addr) (c : Nat) (ms : List Int) (w : World) (hA : Lies w w.heap.size 1 A ms.length (vc ms)) (hn : ms.length ≤ 1000000) :
    Calls Try.prog 37 #[.slice A ms.length c] w fun e w' => e = .returned (.bool (rgt ms)) ∧ w = w' := by
  by_cases h1 : 1 ≤ ms.length
  · by_cases h5 : ms.length ≤ 5
    · have HF := Lib.hid (rgt_yes ⟨h1, h5⟩)
      have h1' : ¬ (ms.length : Int) < 1 := by omega
      have h5' : ¬ (5 : Int) < (ms.length : Int) := by omega
      go_enter Try.func37, Try.ntmps37
      go_wp2_with fail
      go_loopw [3, 16] (fun a i W => RiRel ms w a i W) (fun a i W => ms.length - (intOf i).toNat)
      case atStart => exact ⟨0, 0, rfl, rfl, Nat.zero_le _, rfl, rfl⟩
      case round =>
        obtain ⟨k, a, rfl, rfl, hk, hpre, rfl⟩ := hrel
        by_cases hlt : k < ms.length
        · obtain ⟨ad, rfl, hadb, e0⟩ := hA.vs k hlt
          have hkl : (k : Int) < (ms.length : Int) := by omega
          have HP := Lib.hid hpre
          have HR := Lib.hid (rise_step (a := a) hlt)
          clear hpre
          go_wp2_with fail
          refine (isw_any (iAt ms k) _).mono ?_
          rintro e w1 ⟨rfl, rfl⟩
          by_cases g1 : 1 ≤ iAt ms k ∧ iAt ms k ≤ 99
          · rw [wkB_yes g1]
            by_cases g2 : a < iAt ms k
            · have HT := Lib.hid (show rise 0 ms = rise (iAt ms k) (ms.drop (k + 1)) by rw [HP.out, HR.out, decide_eq_true ⟨g1.1, g1.2, g2⟩]; rfl)
              have g3 : ¬ iAt ms k ≤ a := by omega
              clear g1
              go_wp2_with fail
              go_roundw
              case rel => exact ⟨k + 1, _, by go_num, rfl, by omega, HT.out, rfl⟩
              case measure => simp [intOf]; omega
            · have HT := Lib.hid (show rgt ms = false by rw [HF.out, HP.out, HR.out, decide_eq_false (by omega)]; rfl)
              have g3 : iAt ms k ≤ a := by omega
              clear g1
              go_wp2_with fail
              go_ret
              exact ⟨ret_bool HT.out.symm, rfl⟩
          · rw [wkB_no g1]
            have HT := Lib.hid (show rgt ms = false by rw [HF.out, HP.out, HR.out, decide_eq_false (by omega)]; rfl)
            clear g1
            go_wp2_with fail
            go_ret
            exact ⟨ret_bool HT.out.symm, rfl⟩
        · have hk' : k = ms.length := by omega
          subst hk'
          have HT := Lib.hid (show rgt ms = true by rw [HF.out, hpre, List.drop_length]; rfl)
          clear hpre
          go_wp2_with fail
          go_ret
          exact ⟨ret_bool HT.out.symm, rfl⟩
    · have HF := Lib.hid (rgt_no (ms := ms) (fun h => h5 h.2))
      have h1' : ¬ (ms.length : Int) < 1 := by omega
      have h5' : (5 : Int) < (ms.length : Int) := by omega
      go_enter Try.func37, Try.ntmps37
      go_wp2_with fail
      go_ret
      exact ⟨ret_bool HF.out.symm, rfl⟩
  · have HF := Lib.hid (rgt_no (ms := ms) (fun h => h1 h.1))
    have h1' : (ms.length : Int) < 1 := by omega
    go_enter Try.func37, Try.ntmps37
    go_wp2_with fail
    go_ret
    exact ⟨ret_bool HF.out.symm, rfl⟩
/-- The number ahead of a place, or 0. -/
def lastV (l : List Int) (k : Nat) : Int := if k = 0 then 0 else iAt l (k - 1)
theorem lastV_succ (l : List Int) (k : Nat) : lastV l (k + 1) = iAt l k := by unfold lastV; rw [if_neg (by omega)]; rfl
def RrRel (ms : List Int) (w : World) (o i : Value) (W : World) : Prop := ∃ (k : Nat) (b : Bool), i = .int .i64 k ∧ o = .bool b ∧ k ≤ ms.length ∧ rgt ms = (b && rise (lastV ms k) (ms.drop k)) ∧ Below w.heap.size w W
set_option maxHeartbeats 2000000 in
theorem rright_any (A : Option Addr) (c : Nat) (ms : List Int) (w : World) (hA : Lies w w.heap.size 1 A ms.length (vc ms)) (hn : ms.length ≤ 1000000) :
    Calls Try.prog 32 #[.slice A ms.length c] w fun e w' => e = .returned (.bool (rgt ms)) ∧ Below w.heap.size w w' := by
  have HA := Lib.hid hA
  have rest : ∀ b0 : Bool, b0 = decide (1 ≤ ms.length ∧ ms.length ≤ 5) → RrRel ms w (.bool b0) (.int .i64 0) w := fun b0 hb => ⟨0, b0, rfl, rfl, Nat.zero_le _, by rw [hb]; rfl, Below.refl _ _⟩
  have step : True := trivial
  obtain ⟨b0, hb0⟩ : ∃ b0 : Bool, b0 = decide (1 ≤ ms.length ∧ ms.length ≤ 5) := ⟨_, rfl⟩
  have HREL := Lib.hid (rest b0 hb0)
  have HB0 := Lib.hid hb0
  clear rest step hA hb0
  go_enter Try.func32, Try.ntmps32
  go_upto_region 1 with fail
  go_cut [3] (fun o W => o = .bool b0 ∧ W = w)
  case first =>
    by_cases h1 : 1 ≤ ms.length
    · have h1' : (0 : Int) < (ms.length : Int) := by omega
      by_cases h5 : ms.length ≤ 5
      · have h5' : (ms.length : Int) ≤ 5 := by omega
        have hd : b0 = true := by rw [HB0.out]; exact decide_eq_true ⟨h1, h5⟩
        subst hd
        go_wp2_with fail
        go_meet
        exact ⟨rfl, rfl⟩
      · have h5' : ¬ (ms.length : Int) ≤ 5 := by omega
        have hd : b0 = false := by rw [HB0.out]; exact decide_eq_false (fun h => h5 h.2)
        subst hd
        go_wp2_with fail
        go_meet
        exact ⟨rfl, rfl⟩
    · have h1' : ¬ (0 : Int) < (ms.length : Int) := by omega
      have hd : b0 = false := by rw [HB0.out]; exact decide_eq_false (fun h => h1 h.1)
      subst hd
      go_wp2_with fail
      go_meet
      exact ⟨rfl, rfl⟩
  case rest =>
    obtain ⟨rfl, rfl⟩ := hcut
    go_wp2_with fail
    go_loopw [3, 4] (fun o i W => RrRel ms wc o i W) (fun o i W => ms.length - (intOf i).toNat)
    case atStart => exact HREL.out
    case round =>
      obtain ⟨k, b, rfl, rfl, hk, hpre, hb⟩ := hrel
      have HP := Lib.hid hpre
      have HB := Lib.hid hb
      clear hpre
      by_cases hlt : k < ms.length
      · obtain ⟨ad, rfl, hadb, e0⟩ := (HA.out.below hb).vs k hlt
        have hkl : (k : Int) < (ms.length : Int) := by omega
        have HR := Lib.hid (rise_step (a := lastV ms k) hlt)
        have HE := Lib.hid (lastV_succ ms k)
        clear hb
        have fin : ∀ b' : Bool, b' = (b && decide (1 ≤ iAt ms k ∧ iAt ms k ≤ 99 ∧ lastV ms k < iAt ms k)) → rgt ms = (b' && rise (lastV ms (k + 1)) (ms.drop (k + 1))) := by
          intro b' hb'
          rw [HP.out, HR.out, HE.out, hb', Bool.and_assoc]
        have FIN := Lib.hid fin
        clear fin
        cases b with
        | false =>
          have HT := Lib.hid (FIN.out false rfl)
          go_upto_region 2 with fail
          go_quiet (fail)
          go_wp2_with fail
          go_roundw
          case rel => exact ⟨k + 1, false, by go_num, rfl, by omega, HT.out, below_to_drewN HB.out _⟩
          case measure => simp [intOf]; omega
        | true =>
          by_cases g1 : 1 ≤ iAt ms k
          · by_cases g2 : iAt ms k ≤ 99
            · by_cases k0 : k = 0
              · have HT := Lib.hid (FIN.out true (by rw [decide_eq_true ⟨g1, g2, by rw [k0]; show (0 : Int) < _; rw [k0] at g1; omega⟩]; rfl))
                have k0' : ((k : Int) == 0) = true := by rw [k0]; rfl
                clear k0
                go_upto_region 2 with fail
                go_quiet (fail)
                go_wp2_with fail
                go_roundw
                case rel => exact ⟨k + 1, true, by go_num, rfl, by omega, HT.out, below_to_drewN HB.out _⟩
                case measure => simp [intOf]; omega
              · obtain ⟨ad', ea, hadb', e1⟩ := (HA.out.below HB.out).vs (k - 1) (by omega)
                injection ea with ea
                subst ea
                have k0' : ((k : Int) == 0) = false := by simp; omega
                have HQ := Lib.hid (show lastV ms k = iAt ms (k - 1) by unfold lastV; rw [if_neg k0])
                have hk1 : ((k : Int) - 1) = ((k - 1 : Nat) : Int) := by omega
                have hk2 : ((k - 1 : Nat) : Int) < (ms.length : Int) := by omega
                by_cases g3 : iAt ms (k - 1) < iAt ms k
                · have HT := Lib.hid (FIN.out true (by rw [decide_eq_true ⟨g1, g2, by rw [HQ.out]; exact g3⟩]; rfl))
                  clear k0
                  go_upto_region 2 with fail
                  go_quiet (fail)
                  go_wp2_with fail
                  go_roundw
                  case rel => exact ⟨k + 1, true, by go_num, rfl, by omega, HT.out, below_to_drewN HB.out _⟩
                  case measure => simp [intOf]; omega
                · have HT := Lib.hid (FIN.out false (by rw [decide_eq_false (by rw [HQ.out]; omega)]; rfl))
                  have g3' := decide_eq_false g3
                  clear k0 g3
                  go_upto_region 2 with fail
                  go_quiet (fail)
                  go_wp2_with fail
                  go_roundw
                  case rel => exact ⟨k + 1, false, by go_num, rfl, by omega, HT.out, below_to_drewN HB.out _⟩
                  case measure => simp [intOf]; omega
            · have HT := Lib.hid (FIN.out false (by rw [decide_eq_false (by omega)]; rfl))
              have g2' := decide_eq_false g2
              clear g2
              go_upto_region 2 with fail
              go_quiet (fail)
              go_wp2_with fail
              go_roundw
              case rel => exact ⟨k + 1, false, by go_num, rfl, by omega, HT.out, below_to_drewN HB.out _⟩
              case measure => simp [intOf]; omega
          · have HT := Lib.hid (FIN.out false (by rw [decide_eq_false (by omega)]; rfl))
            have g1' := decide_eq_false g1
            clear g1
            go_upto_region 2 with fail
            go_quiet (fail)
            go_wp2_with fail
            go_roundw
            case rel => exact ⟨k + 1, false, by go_num, rfl, by omega, HT.out, below_to_drewN HB.out _⟩
            case measure => simp [intOf]; omega
      · have hk' : k = ms.length := by omega
        subst hk'
        have HT := Lib.hid (show rgt ms = b by rw [HP.out, List.drop_length]; cases b <;> rfl)
        clear hb
        go_wp2_with fail
        go_ret
        exact ⟨ret_bool HT.out.symm, HB.out⟩
end Go.Proofs.Ytabbpccfdpphjaa

/-
  The contracts of the document's own Has, SameInts, way and of the statements' own made. No condition but that the lists have at most a million numbers.
-/
namespace Go.Proofs.Ytabbpccfdpphjaa
open Go.ChangeShapes Go.WideShapes Go.ChangeAt Go.RowKit
set_option linter.unusedVariables false

theorem take_mem {l : List Int} {k : Nat} {x : Int} (h : k < l.length) (h1 : x ∉ l.take k) (h2 : ¬ iAt l k = x) : x ∉ l.take (k + 1) := by
  rw [itake_at l k h, List.mem_append]
  intro h3
  rcases h3 with h3 | h3
  · exact h1 h3
  · simp at h3; exact h2 h3.symm
def HasRel (l : List Int) (x : Int) (w : World) (i : Value) (W : World) : Prop := ∃ k : Nat, i = .int .i64 k ∧ k ≤ l.length ∧ Hid (x ∉ l.take k) ∧ W = w
set_option maxHeartbeats 1000000 in
theorem has_any (A : Option Addr) (c : Nat) (l : List Int) (x : Int) (w : World) (hA : Lies w w.heap.size 1 A l.length (vc l)) (hn : l.length ≤ 1000000) :
    Calls Try.prog 33 #[.slice A l.length c, .int .i64 x] w fun e w' => e = .returned (.bool (decide (x ∈ l))) ∧ w = w' := by
  go_enter Try.func33, Try.ntmps33
  go_wp2_with fail
  go_loopw [5] (fun i W => HasRel l x w i W) (fun i W => l.length - (intOf i).toNat)
  case atStart => exact ⟨0, rfl, Nat.zero_le _, Lib.hid (by simp), rfl⟩
  case round =>
    obtain ⟨k, rfl, hk, HP, rfl⟩ := hrel
    by_cases hlt : k < l.length
    · obtain ⟨ad, rfl, hadb, e0⟩ := hA.vs k hlt
      have hkl : (k : Int) < (l.length : Int) := by omega
      by_cases he : iAt l k = x
      · have HT := Lib.hid (show decide (x ∈ l) = true from decide_eq_true (he ▸ iAt_mem l k hlt))
        have he' : (iAt l k == x) = true := by simpa using he
        clear he
        go_wp2_with fail
        go_ret
        exact ⟨ret_bool HT.out.symm, rfl⟩
      · have HT := Lib.hid (take_mem hlt HP.out he)
        have he' : (iAt l k == x) = false := by simpa using he
        clear he
        go_wp2_with fail
        go_roundw
        case rel => exact ⟨k + 1, by go_num, by omega, HT, rfl⟩
        case measure => simp [intOf]; omega
    · have hk' : k = l.length := by omega
      subst hk'
      have HT := Lib.hid (show decide (x ∈ l) = false from decide_eq_false (by have := HP.out; rwa [List.take_length] at this))
      go_wp2_with fail
      go_ret
      exact ⟨ret_bool HT.out.symm, rfl⟩
def SamRel (a b : List Int) (w : World) (i : Value) (W : World) : Prop := ∃ k : Nat, i = .int .i64 k ∧ k ≤ a.length ∧ Hid (a.take k = b.take k) ∧ Below w.heap.size w W
set_option maxHeartbeats 1000000 in
theorem same_any (A : Option Addr) (c : Nat) (a : List Int) (B : Option Addr) (d : Nat) (b : List Int) (w : World) (hA : Lies w w.heap.size 1 A a.length (vc a)) (hB : Lies w w.heap.size 1 B b.length (vc b)) (hn : a.length ≤ 1000000) (hm : b.length ≤ 1000000) :
    Calls Try.prog 19 #[.slice A a.length c, .slice B b.length d] w fun e w' => e = .returned (.bool (decide (a = b))) ∧ Below w.heap.size w w' := by
  have HA := Lib.hid hA
  have HB := Lib.hid hB
  clear hA hB
  by_cases hl : a.length = b.length
  · obtain ⟨n, hn'⟩ : ∃ n : Nat, n = a.length := ⟨_, rfl⟩
    have HN1 := Lib.hid hn'
    have HN2 := Lib.hid (show n = b.length by omega)
    rw [← hl, ← hn']
    have hn6 : n ≤ 1000000 := by omega
    clear hn hm hl hn'
    go_enter Try.func19, Try.ntmps19
    go_wp2_with fail
    go_loopw [5] (fun i W => SamRel a b w i W) (fun i W => n - (intOf i).toNat)
    case atStart => exact ⟨0, rfl, Nat.zero_le _, Lib.hid (by simp), Below.refl _ _⟩
    case round =>
      obtain ⟨k, rfl, hk, HP, hb⟩ := hrel
      have HBW := Lib.hid hb
      by_cases hlt : k < n
      · obtain ⟨ad, rfl, hadb, e0⟩ := (HA.out.below hb).vs k (by have := HN1.out; omega)
        obtain ⟨ad', rfl, hadb', e1⟩ := (HB.out.below hb).vs k (by have := HN2.out; omega)
        have hkl : (k : Int) < (n : Int) := by omega
        clear hb
        by_cases he : iAt a k = iAt b k
        · have HT := Lib.hid (show a.take (k + 1) = b.take (k + 1) by rw [itake_at a k (by have := HN1.out; omega), itake_at b k (by have := HN2.out; omega), HP.out, he])
          have he' : (iAt a k != iAt b k) = false := by simpa using he
          clear he
          go_wp2_with fail
          go_quiet (fail)
          go_wp2_with fail
          go_roundw
          case rel => exact ⟨k + 1, by go_num, by have := HN1.out; omega, HT, below_to_drewN HBW.out _⟩
          case measure => simp [intOf]; omega
        · have HT := Lib.hid (show decide (a = b) = false from decide_eq_false (fun h => he (by rw [h])))
          have he' : (iAt a k != iAt b k) = true := by simpa using he
          clear he
          go_wp2_with fail
          go_quiet (fail)
          go_wp2_with fail
          go_ret
          exact ⟨ret_bool HT.out.symm, below_to_drewN HBW.out _⟩
      · have hk' : k = n := by have := HN1.out; omega
        subst hk'
        have HT := Lib.hid (show decide (a = b) = true from decide_eq_true (by have := HP.out; rwa [List.take_of_length_le (by have := HN1.out; omega), List.take_of_length_le (by have := HN2.out; omega)] at this))
        clear hb
        go_wp2_with fail
        go_ret
        exact ⟨ret_bool HT.out.symm, HBW.out⟩
  · have HT := Lib.hid (show decide (a = b) = false from decide_eq_false (fun h => hl (by rw [h])))
    have hl' : ((a.length : Int) != (b.length : Int)) = true := by simp; omega
    clear hl
    go_enter Try.func19, Try.ntmps19
    go_wp2_with fail
    go_ret
    exact ⟨ret_bool HT.out.symm, Below.refl _ _⟩
theorem lies_cells (w : World) (vs : List Value) (t : TypeId) (n s : Nat) (hn : vs.length = n * s) : Lies (w.alloc (.cells vs.toArray t)) (w.heap.size + 1) s (some ⟨w.heap.size, 0, none⟩) n vs := by
  refine ⟨hn, fun j u hj => ⟨_, rfl, Nat.lt_succ_self _, ?_⟩⟩
  have : (⟨w.heap.size, 0, none⟩ : Addr).add j = ⟨w.heap.size, j, none⟩ := by unfold Addr.add; split <;> simp_all
  rw [this, cell_of_row _ _ j _ t (0, 0) (heap_alloc_new _ _)]
  simpa using hj
end Go.Proofs.Ytabbpccfdpphjaa

/-
  Words for spots in memory; the contracts of ring.spots and ring.next. No condition but that there are at most five members, and at most a thousand spots.
-/
namespace Go.Proofs.Ytabbpccfdpphjaa
open Go.ChangeShapes Go.WideShapes Go.ChangeAt Go.RowKit
set_option linter.unusedVariables false

theorem cell_set {W : World} {p a : Addr} {u v : Value} (h : a.block ≠ p.block) (hc : W.cell? a = some v) : (W.setCell p u).cell? a = some v := (World.cell?_of_block (w := W) (Below.heap_setCell _ _ _ _ h)).trans hc
theorem frozen_setAny {W : World} {p a : Addr} {u : Value} (hc : W.frozen? a = false) : (W.setCell p u).frozen? a = false := by simpa [go_sem] using hc
end Go.Proofs.Ytabbpccfdpphjaa

/-
  The contracts of ring.Owner, Owners and of the document's own Owner, Owners. No condition but that the lists have at most a million numbers.
-/
namespace Go.Proofs.Ytabbpccfdpphjaa
open Go.ChangeShapes Go.WideShapes Go.ChangeAt Go.RowKit
set_option linter.unusedVariables false

theorem ret_two {a b c d : Int} (h1 : a = c) (h2 : b = d) : Ending.returned (.tuple #[.int .i64 a, .int .i64 b]) = .returned (.tuple #[.int .i64 c, .int .i64 d]) := by rw [h1, h2]
/-- What a call answers that makes numbers and tells an error. -/
def OlPost (l : List Int) (E : Int) (w : World) (r : Ending) (w' : World) : Prop :=
  ∃ D d, r = .returned (.tuple #[.slice D l.length d, .int .i64 E]) ∧ w'.ownsRow w.heap.size 3 1 (.slice D l.length d) l.length (vc l) ∧ Below w.heap.size w w'
theorem made_v (m : Nat) : (madeCells #[.int .i64 0] m).toList = vc (List.replicate m 0) := by rw [toList_madeCells_one]; simp [vc]
end Go.Proofs.Ytabbpccfdpphjaa

/-
  The walk of RingGoes. No condition but that the numbers are of 64 bits.
-/
namespace Go.Proofs.Ytabbpccfdpphjaa
open Go.ChangeShapes Go.WideShapes Go.ChangeAt Go.RowKit
set_option linter.unusedVariables false

section
variable {w w' : World} {B B' s n : Nat} {A : Option Addr} {xs : List Value}
end
theorem step_app {P : Program} {ops : Array Oper} {o : Oper} {a : Act} {w : World} {K : Act → World → Prop} {Q : Exit → Act → World → Prop} {E : Prop}
    (hg : o.guard = none) (d x : Operand) (dT sT : TypeId) (hop : o.op = Op.call { callee := Callee.builtin Builtin.append, args := #[d, x], argTypes := #[dT, sT] })
    (v u : Value) (hd : a.eval d = v) (hx : a.eval x = u) {v' : Value} {w' : World} (hr : (Builtin.append_ #[dT, sT] o.type #[v, u]).run P w = .ok v' w') (hK : K (a.put o.dst v') w') :
    if Region.wanted o (yielded ops a.tmps) = true then Oper.wp P o a w K Q else E := by
  have hw : Region.wanted o (yielded ops a.tmps) = true := by simp [Region.wanted, hg]
  rw [if_pos hw]
  unfold Oper.wp
  simp [execOp, hop, resolve, invoke, builtin, hd, hx, hr, Result.andThen]
  exact hK
theorem step_own1 {P : Program} {ops : Array Oper} {o : Oper} {a : Act} {w : World} {K : Act → World → Prop} {Q : Exit → Act → World → Prop} {E : Prop}
    (hg : o.guard = none) (d x : Operand) (t : TypeId) (hop : o.op = Op.call { callee := Callee.builtin Builtin.append, args := #[d, x], argTypes := #[t, t] })
    (base : Nat) (e : TypeId) (i : TypeInfo) (z : Value) (size bytes : Nat) (ht : P.underlying t = some (.slice e)) (hi : P.info? e = some i) (hz : i.zero = some z) (hsize : i.size = size) (hby : i.bytes = bytes) (hzs : z.cells.size = size) (hsz : 0 < size)
    (A : Option Addr) (n c : Nat) (xs : List Value) (hd : a.eval d = .slice A n c) (hown : w.ownsRow base e size (.slice A n c) n xs)
    (B : Nat) (A2 : Option Addr) (m c2 : Nat) (news : List Value) (hx : a.eval x = .slice A2 m c2) (hl : Lies w B size A2 m news) (h1 : ∀ u ∈ news, u.oneCell' = true)
    (h63 : n + m ≤ maxLen) (hbytes : (n + m) * bytes ≤ 140737488355328) (hb : base ≤ w.heap.size)
    (h : ∀ A' c' w', w'.ownsRow base e size (.slice A' (n + m) c') (n + m) (xs ++ news) → Below base w w' → w.grownBy w' (Value.slice A n c).ownBlock → K (a.put o.dst (.slice A' (n + m) c')) w') :
    if Region.wanted o (yielded ops a.tmps) = true then Oper.wp P o a w K Q else E := by
  obtain ⟨A', c', w', hr, h2, h3, h4, _⟩ := run_app (P := P) w base t o.type e i z size bytes ht hi hz hsize hby hzs hsz A n c xs hown B A2 m c2 news hl h1 h63 hbytes hb
  exact step_app hg d x t t hop _ _ hd hx hr (h A' c' w' h2 h3 h4)
theorem step_own2 {P : Program} {ops : Array Oper} {o : Oper} {a : Act} {w : World} {K : Act → World → Prop} {Q : Exit → Act → World → Prop} {E : Prop}
    (hg : o.guard = none) (d x : Operand) (t : TypeId) (hop : o.op = Op.call { callee := Callee.builtin Builtin.append, args := #[d, x], argTypes := #[t, t] })
    (base : Nat) (e : TypeId) (i : TypeInfo) (z : Value) (size bytes : Nat) (ht : P.underlying t = some (.slice e)) (hi : P.info? e = some i) (hz : i.zero = some z) (hsize : i.size = size) (hby : i.bytes = bytes) (hzs : z.cells.size = size) (hsz : 0 < size)
    (A : Option Addr) (n c : Nat) (xs : List Value) (hd : a.eval d = .slice A n c) (hown : w.ownsRow base e size (.slice A n c) n xs)
    (B : Nat) (A2 : Option Addr) (m c2 : Nat) (news : List Value) (hx : a.eval x = .slice A2 m c2) (hl : Lies w B size A2 m news) (h1 : ∀ u ∈ news, u.oneCell' = true)
    (k : Nat) (hk : n + m = k) (h63 : n + m ≤ maxLen) (hbytes : (n + m) * bytes ≤ 140737488355328) (hb : base ≤ w.heap.size)
    (h : ∀ A' c' w', w'.ownsRow base e size (.slice A' k c') k (xs ++ news) → Below base w w' → K (a.put o.dst (.slice A' k c')) w') :
    if Region.wanted o (yielded ops a.tmps) = true then Oper.wp P o a w K Q else E := by
  subst hk
  exact step_own1 hg d x t hop base e i z size bytes ht hi hz hsize hby hzs hsz A n c xs hd hown B A2 m c2 news hx hl h1 h63 hbytes hb (fun A' c' w' h2 h3 _ => h A' c' w' h2 h3)
end Go.Proofs.Ytabbpccfdpphjaa

/-
  The document's examples hold (knows); the walks of RingMixes, RingPlaces, RingOwns and RingTotal. No condition.
-/
namespace Go.Proofs.Ytabbpccfdpphjaa
open Go.ChangeShapes Go.WideShapes Go.ChangeAt Go.RowKit
set_option linter.unusedVariables false

theorem lies_two (w : World) (a b : Int) : Lies (w.alloc (.cells #[.int .i64 a, .int .i64 b] 3)) (w.heap.size + 1) 1 (some ⟨w.heap.size, 0, none⟩) 2 (vc [a, b]) := lies_cells w (vc [a, b]) 3 2 1 rfl
theorem lies_1 (w : World) (a : Int) : Lies (w.alloc (.cells #[.int .i64 a] 3)) (w.heap.size + 1) 1 (some ⟨w.heap.size, 0, none⟩) 1 (vc [a]) := lies_cells w (vc [a]) 3 1 1 rfl
end Go.Proofs.Ytabbpccfdpphjaa

