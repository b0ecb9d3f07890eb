import Derived.Test.YtdpmlpclhojcjaaDh
/-
  The contracts of the document's own Same, and of As, great and wide. No condition but that there are not too many files.
-/
namespace Go.Proofs.Ytdpmlpclhojcjaa
open Go.ChangeShapes Go.WideShapes Go.ChangeAt Go.RowKit
set_option linter.unusedVariables false

def SmRel (a b : List Fe) (w : World) (i : Value) (W : World) : Prop := ∃ k : Nat, i = .int .i64 k ∧ k ≤ a.length ∧ Hid ((xs a).take k = (xs b).take k) ∧ Hid (Below w.heap.size w W)
theorem xs_snoc_take {a : List Fe} {k : Nat} (h : k < a.length) : (xs a).take (k + 1) = (xs a).take k ++ [(fAt a k).x] := by
  rw [← xs_take, ← xs_take, ftake_at a k h, xs_app]; rfl
theorem xs_ne_at {a b : List Fe} {k : Nat} (h : k < a.length) (g : k < b.length) (e : (fAt a k).x ≠ (fAt b k).x) : xs a ≠ xs b := by
  intro h1
  have h2 := congrArg (fun l => l[k]?) h1
  simp only [xs, List.getElem?_map, List.getElem?_eq_getElem h, List.getElem?_eq_getElem g, Option.map_some] at h2
  injection h2 with h2
  rw [fAt_get a k h, fAt_get b k g] at e
  exact e h2
set_option maxHeartbeats 4000000 in
theorem same_any (A : Option Addr) (c : Nat) (a : List Fe) (B : Option Addr) (d : Nat) (b : List Fe) (w : World) (hA : Fls w w.heap.size A c a) (hB : Fls w w.heap.size B d b) (hn : a.length ≤ 1000000) (hm : b.length ≤ 1000000) :
    Calls Try.prog 17 #[.slice A a.length c, .slice B b.length d] w fun e w' => e = .returned (.bool (decide (xs a = xs b))) ∧ Below w.heap.size w w' := by
  have HA := Lib.hid hA
  have HB := Lib.hid hB
  clear hA hB
  by_cases hl : a.length = b.length
  · obtain ⟨n, hn'⟩ : ∃ n : Nat, n = a.length := ⟨_, rfl⟩
    have HN1 := Lib.hid hn'
    have HN2 := Lib.hid (show n = b.length by omega)
    rw [← hl, ← hn']
    have hn6 : n ≤ 1000000 := by omega
    clear hn hm hl hn'
    go_enter Try.func17, Try.ntmps17
    go_wp2_with fail
    go_loopw [5] (fun i W => SmRel a b w i W) (fun i W => n - (intOf i).toNat)
    case atStart => exact ⟨0, rfl, Nat.zero_le _, Lib.hid (by simp), Lib.hid (Below.refl _ _)⟩
    case round =>
      obtain ⟨k, rfl, hk, HP, HW⟩ := hrel
      by_cases hlt : k < n
      · have ha : k < a.length := by have := HN1.out; omega
        have hb : k < b.length := by have := HN2.out; omega
        obtain ⟨ad, rfl, hadb, e0, e1, e2⟩ := (HA.out.L.below HW.out).fe k ha
        obtain ⟨ad', rfl, hadb', f0, f1, f2⟩ := (HB.out.L.below HW.out).fe k hb
        have hkl : (k : Int) < (n : Int) := by omega
        have HNE := Lib.hid (show (fAt a k).x ≠ (fAt b k).x → decide (xs a = xs b) = false from fun h => decide_eq_false (xs_ne_at ha hb h))
        have HEQ := Lib.hid (show (fAt a k).x = (fAt b k).x → (xs a).take (k + 1) = (xs b).take (k + 1) from fun h => by rw [xs_snoc_take ha, xs_snoc_take hb, HP.out, h])
        have K1 : ∀ q, (convert 31 9 (.slice (fAt a k).A (fAt a k).dat.length (fAt a k).c)).run Try.prog (wr.drewN q) = .ok (.string ⟨(fAt a k).dat.toArray⟩) (wr.drewN q) := fun q => run_str _ _ 31 9 5 _ _ _ _ Try.underlying31 Try.underlying5 Try.underlying9 (((HA.out.at k ha).1.below HW.out).drewN q)
        have K2 : ∀ q, (convert 31 9 (.slice (fAt b k).A (fAt b k).dat.length (fAt b k).c)).run Try.prog (wr.drewN q) = .ok (.string ⟨(fAt b k).dat.toArray⟩) (wr.drewN q) := fun q => run_str _ _ 31 9 5 _ _ _ _ Try.underlying31 Try.underlying5 Try.underlying9 (((HB.out.at k hb).1.below HW.out).drewN q)
        clear ha hb
        generalize fAt a k = m at *
        generalize fAt b k = m' at *
        obtain ⟨nm, dat, sf, DA, dc⟩ := m
        obtain ⟨nm', dat', sf', DA', dc'⟩ := m'
        simp only at e0 e1 e2 f0 f1 f2 K1 K2
        by_cases h1 : nm.toList = nm'.toList
        · have h1' : (nm.toList == nm'.toList) = true := by simpa using h1
          by_cases h2 : dat = dat'
          · by_cases h3 : sf = sf'
            · have HT := Lib.hid (HEQ.out (by simp only [Fe.x]; rw [h1, h2, h3]))
              have h2' : (dat == dat') = true := by simpa using h2
              have h3' : (sf != sf') = false := by simpa using h3
              clear h1 h2 h3
              go_upto_region 6 with fail
              go_quiet (fail)
              go_wp2_with fail
              go_roundw
              case rel => exact ⟨k + 1, by go_num, by have := HN1.out; omega, HT, Lib.hid (below_to_drewN HW.out _)⟩
              case measure => simp [intOf]; omega
            · have HT := Lib.hid (HNE.out (by simp only [Fe.x]; intro h; injection h; contradiction))
              have h2' : (dat == dat') = true := by simpa using h2
              have h3' : (sf != sf') = true := by simpa using h3
              clear h1 h2 h3
              go_upto_region 6 with fail
              go_quiet (fail)
              go_wp2_with fail
              go_ret
              exact ⟨ret_bool HT.out.symm, below_to_drewN HW.out _⟩
          · have HT := Lib.hid (HNE.out (by simp only [Fe.x]; intro h; injection h; contradiction))
            have h2' : (dat == dat') = false := by simpa using h2
            clear h1 h2
            go_upto_region 6 with fail
            go_quiet (fail)
            go_wp2_with fail
            go_ret
            exact ⟨ret_bool HT.out.symm, below_to_drewN HW.out _⟩
        · have HT := Lib.hid (HNE.out (by simp only [Fe.x]; intro h; injection h; contradiction))
          have h1' : (nm.toList == nm'.toList) = false := by simpa using h1
          clear h1
          go_upto_region 6 with fail
          go_quiet (fail)
          go_wp2_with fail
          go_ret
          exact ⟨ret_bool HT.out.symm, below_to_drewN HW.out _⟩
      · have hk' : k = n := by have := HN1.out; omega
        subst hk'
        have HT := Lib.hid (show decide (xs a = xs b) = true from decide_eq_true (by have := HP.out; rwa [List.take_of_length_le (by rw [xs_len]; have := HN1.out; omega), List.take_of_length_le (by rw [xs_len]; have := HN2.out; omega)] at this))
        go_wp2_with fail
        go_ret
        exact ⟨ret_bool HT.out.symm, HW.out⟩
  · have HT := Lib.hid (show decide (xs a = xs b) = false from decide_eq_false (fun h => hl (by have := congrArg List.length h; rwa [xs_len, xs_len] at this)))
    have hl' : ((a.length : Int) != (b.length : Int)) = true := by simp; omega
    clear hl
    go_enter Try.func17, Try.ntmps17
    go_wp2_with fail
    go_ret
    exact ⟨ret_bool HT.out.symm, Below.refl _ _⟩
end Go.Proofs.Ytdpmlpclhojcjaa
