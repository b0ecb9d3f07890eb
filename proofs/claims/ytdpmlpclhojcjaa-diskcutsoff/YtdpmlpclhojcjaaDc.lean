import Derived.Test.YtdpmlpclhojcjaaDb
/-
  The contracts of the document's own Has, Get and safe. No condition but that there are at most a thousand files.
-/
namespace Go.Proofs.Ytdpmlpclhojcjaa
open Go.ChangeShapes Go.WideShapes Go.ChangeAt Go.RowKit
set_option linter.unusedVariables false

/-- The file of a name, or the one of nothing. -/
def getE : List Fe → By → Fe
  | [], _ => noFe
  | f :: d, n => if f.nm.toList = n then f else getE d n
theorem getE_dat (ls : List Fe) (n : By) : (getE ls n).dat = getF (xs ls) n ∧ (getE ls n).safe = safeF (xs ls) n := by
  induction ls with
  | nil => exact ⟨rfl, rfl⟩
  | cons f d ih =>
    unfold getE xs
    simp only [List.map_cons, getF, safeF, Fe.x]
    by_cases h : f.nm.toList = n
    · rw [if_pos h, if_pos h, if_pos h]; exact ⟨rfl, rfl⟩
    · rw [if_neg h, if_neg h, if_neg h]; exact ih
theorem getE_fd {w : World} {B : Nat} {ls : List Fe} (h : ∀ e ∈ ls, Fd w B e) (n : By) : Fd w B (getE ls n) := by
  induction ls with
  | nil => exact Fd.no w B
  | cons f d ih =>
    unfold getE
    by_cases e : f.nm.toList = n
    · rw [if_pos e]; exact h f (List.mem_cons_self ..)
    · rw [if_neg e]; exact ih (fun x hx => h x (List.mem_cons_of_mem _ hx))
theorem hasF_hit {ls : List Fe} {k : Nat} {n : By} (h : k < ls.length) (e : (fAt ls k).nm.toList = n) : hasF (xs (ls.drop k)) n = true := by
  rw [fdrop_at ls k h]; unfold xs hasF; simp [Fe.x, e]
theorem hasF_miss {ls : List Fe} {k : Nat} {n : By} (h : k < ls.length) (e : ¬ (fAt ls k).nm.toList = n) : hasF (xs (ls.drop k)) n = hasF (xs (ls.drop (k + 1))) n := by
  rw [fdrop_at ls k h]; unfold xs hasF; simp [Fe.x, e]
theorem getE_hit {ls : List Fe} {k : Nat} {n : By} (h : k < ls.length) (e : (fAt ls k).nm.toList = n) : getE (ls.drop k) n = fAt ls k := by
  rw [fdrop_at ls k h]; exact if_pos e
theorem getE_miss {ls : List Fe} {k : Nat} {n : By} (h : k < ls.length) (e : ¬ (fAt ls k).nm.toList = n) : getE (ls.drop k) n = getE (ls.drop (k + 1)) n := by
  rw [fdrop_at ls k h]; exact if_neg e
def HaRel (ls : List Fe) (n : By) (w : World) (i : Value) (W : World) : Prop := ∃ k : Nat, i = .int .i64 k ∧ k ≤ ls.length ∧ Hid (hasF (xs ls) n = hasF (xs (ls.drop k)) n) ∧ W = w
def GeRel (ls : List Fe) (n : By) (w : World) (i : Value) (W : World) : Prop := ∃ k : Nat, i = .int .i64 k ∧ k ≤ ls.length ∧ Hid (getE ls n = getE (ls.drop k) n) ∧ W = w
theorem ret_slice {A A' : Option Addr} {n n' c c' : Nat} (h : A = A') (h2 : n = n') (h3 : c = c') : Ending.returned (.slice A n c) = .returned (.slice A' n' c') := by rw [h, h2, h3]
set_option maxHeartbeats 1000000 in
theorem has_any (A : Option Addr) (c : Nat) (ls : List Fe) (s : ByteArray) (w : World) (hA : Lies w w.heap.size 3 A ls.length (fc ls)) (hn : ls.length ≤ 1000000) :
    Calls Try.prog 20 #[.slice A ls.length c, .string s] w fun e w' => e = .returned (.bool (hasF (xs ls) s.toList)) ∧ w = w' := by
  have HA := Lib.hid hA
  clear hA
  go_enter Try.func20, Try.ntmps20
  go_wp2_with fail
  go_loopw [5] (fun i W => HaRel ls s.toList w i W) (fun i W => ls.length - (intOf i).toNat)
  case atStart => exact ⟨0, rfl, Nat.zero_le _, Lib.hid (by simp), rfl⟩
  case round =>
    obtain ⟨k, rfl, hk, HP, rfl⟩ := hrel
    by_cases hlt : k < ls.length
    · obtain ⟨ad, rfl, hadb, e0, e1, e2⟩ := HA.out.fe k hlt
      have hkl : (k : Int) < (ls.length : Int) := by omega
      by_cases he : (fAt ls k).nm.toList = s.toList
      · have HT := Lib.hid (HP.out.trans (hasF_hit hlt he))
        have he' : ((fAt ls k).nm.toList == s.toList) = true := by simpa using he
        clear he
        go_wp2_with fail
        go_ret
        exact ⟨ret_bool HT.out.symm, rfl⟩
      · have HT := Lib.hid (HP.out.trans (hasF_miss hlt he))
        have he' : ((fAt ls k).nm.toList == s.toList) = false := by simpa using he
        clear he
        go_wp2_with fail
        go_roundw
        case rel => exact ⟨k + 1, by go_num, by omega, HT, rfl⟩
        case measure => simp [intOf]; omega
    · have hk' : k = ls.length := by omega
      subst hk'
      have HT := Lib.hid (show hasF (xs ls) s.toList = false by rw [HP.out, List.drop_length]; rfl)
      go_wp2_with fail
      go_ret
      exact ⟨ret_bool HT.out.symm, rfl⟩
set_option maxHeartbeats 1000000 in
theorem get_any (A : Option Addr) (c : Nat) (ls : List Fe) (s : ByteArray) (w : World) (hA : Lies w w.heap.size 3 A ls.length (fc ls)) (hn : ls.length ≤ 1000000) :
    Calls Try.prog 21 #[.slice A ls.length c, .string s] w fun e w' => e = .returned (.slice (getE ls s.toList).A (getE ls s.toList).dat.length (getE ls s.toList).c) ∧ w = w' := by
  have HA := Lib.hid hA
  clear hA
  go_enter Try.func21, Try.ntmps21
  go_wp2_with fail
  go_loopw [5] (fun i W => GeRel ls s.toList w i W) (fun i W => ls.length - (intOf i).toNat)
  case atStart => exact ⟨0, rfl, Nat.zero_le _, Lib.hid (by simp), rfl⟩
  case round =>
    obtain ⟨k, rfl, hk, HP, rfl⟩ := hrel
    by_cases hlt : k < ls.length
    · obtain ⟨ad, rfl, hadb, e0, e1, e2⟩ := HA.out.fe k hlt
      have hkl : (k : Int) < (ls.length : Int) := by omega
      by_cases he : (fAt ls k).nm.toList = s.toList
      · have HT := Lib.hid (HP.out.trans (getE_hit hlt he))
        have he' : ((fAt ls k).nm.toList == s.toList) = true := by simpa using he
        clear he
        go_wp2_with fail
        go_ret
        exact ⟨by rw [HT.out]; rfl, rfl⟩
      · have HT := Lib.hid (HP.out.trans (getE_miss hlt he))
        have he' : ((fAt ls k).nm.toList == s.toList) = false := by simpa using he
        clear he
        go_wp2_with fail
        go_roundw
        case rel => exact ⟨k + 1, by go_num, by omega, HT, rfl⟩
        case measure => simp [intOf]; omega
    · have hk' : k = ls.length := by omega
      subst hk'
      have HT := Lib.hid (show getE ls s.toList = noFe by rw [HP.out, List.drop_length]; rfl)
      go_wp2_with fail
      go_ret
      exact ⟨by rw [HT.out]; rfl, rfl⟩
set_option maxHeartbeats 1000000 in
theorem safe_any (A : Option Addr) (c : Nat) (ls : List Fe) (s : ByteArray) (w : World) (hA : Lies w w.heap.size 3 A ls.length (fc ls)) (hn : ls.length ≤ 1000000) :
    Calls Try.prog 43 #[.slice A ls.length c, .string s] w fun e w' => e = .returned (.int .i64 (getE ls s.toList).safe) ∧ w = w' := by
  have HA := Lib.hid hA
  clear hA
  go_enter Try.func43, Try.ntmps43
  go_wp2_with fail
  go_loopw [5] (fun i W => GeRel ls s.toList w i W) (fun i W => ls.length - (intOf i).toNat)
  case atStart => exact ⟨0, rfl, Nat.zero_le _, Lib.hid (by simp), rfl⟩
  case round =>
    obtain ⟨k, rfl, hk, HP, rfl⟩ := hrel
    by_cases hlt : k < ls.length
    · obtain ⟨ad, rfl, hadb, e0, e1, e2⟩ := HA.out.fe k hlt
      have hkl : (k : Int) < (ls.length : Int) := by omega
      by_cases he : (fAt ls k).nm.toList = s.toList
      · have HT := Lib.hid (HP.out.trans (getE_hit hlt he))
        have he' : ((fAt ls k).nm.toList == s.toList) = true := by simpa using he
        clear he
        go_wp2_with fail
        go_ret
        exact ⟨by rw [HT.out]; rfl, rfl⟩
      · have HT := Lib.hid (HP.out.trans (getE_miss hlt he))
        have he' : ((fAt ls k).nm.toList == s.toList) = false := by simpa using he
        clear he
        go_wp2_with fail
        go_roundw
        case rel => exact ⟨k + 1, by go_num, by omega, HT, rfl⟩
        case measure => simp [intOf]; omega
    · have hk' : k = ls.length := by omega
      subst hk'
      have HT := Lib.hid (show getE ls s.toList = noFe by rw [HP.out, List.drop_length]; rfl)
      go_wp2_with fail
      go_ret
      exact ⟨by rw [HT.out]; rfl, rfl⟩
end Go.Proofs.Ytdpmlpclhojcjaa
