import Derived.Test.YtgdgjkdigbohlaaRgB
/-
  The contracts of the document's own Has, SameInts, way and of the statements' own made. No condition but that the lists have at most a million numbers.
-/
namespace Go.Proofs.Ytgdgjkdigbohlaa
open Go.ChangeShapes Go.WideShapes Go.ChangeAt Go.RowKit
set_option linter.unusedVariables false

theorem take_mem {l : List Int} {k : Nat} {x : Int} (h : k < l.length) (h1 : x ∉ l.take k) (h2 : ¬ iAt l k = x) : x ∉ l.take (k + 1) := by
  rw [itake_at l k h, List.mem_append]
  intro h3
  rcases h3 with h3 | h3
  · exact h1 h3
  · simp at h3; exact h2 h3.symm
def HasRel (l : List Int) (x : Int) (w : World) (i : Value) (W : World) : Prop := ∃ k : Nat, i = .int .i64 k ∧ k ≤ l.length ∧ Hid (x ∉ l.take k) ∧ W = w
set_option maxHeartbeats 1000000 in
theorem has_any (A : Option Addr) (c : Nat) (l : List Int) (x : Int) (w : World) (hA : Lies w w.heap.size 1 A l.length (vc l)) (hn : l.length ≤ 1000000) :
    Calls Try.prog 24 #[.slice A l.length c, .int .i64 x] w fun e w' => e = .returned (.bool (decide (x ∈ l))) ∧ w = w' := by
  go_enter Try.func24, Try.ntmps24
  go_wp2_with fail
  go_loopw [5] (fun i W => HasRel l x w i W) (fun i W => l.length - (intOf i).toNat)
  case atStart => exact ⟨0, rfl, Nat.zero_le _, Lib.hid (by simp), rfl⟩
  case round =>
    obtain ⟨k, rfl, hk, HP, rfl⟩ := hrel
    by_cases hlt : k < l.length
    · obtain ⟨ad, rfl, hadb, e0⟩ := hA.vs k hlt
      have hkl : (k : Int) < (l.length : Int) := by omega
      by_cases he : iAt l k = x
      · have HT := Lib.hid (show decide (x ∈ l) = true from decide_eq_true (he ▸ iAt_mem l k hlt))
        have he' : (iAt l k == x) = true := by simpa using he
        clear he
        go_wp2_with fail
        go_ret
        exact ⟨ret_bool HT.out.symm, rfl⟩
      · have HT := Lib.hid (take_mem hlt HP.out he)
        have he' : (iAt l k == x) = false := by simpa using he
        clear he
        go_wp2_with fail
        go_roundw
        case rel => exact ⟨k + 1, by go_num, by omega, HT, rfl⟩
        case measure => simp [intOf]; omega
    · have hk' : k = l.length := by omega
      subst hk'
      have HT := Lib.hid (show decide (x ∈ l) = false from decide_eq_false (by have := HP.out; rwa [List.take_length] at this))
      go_wp2_with fail
      go_ret
      exact ⟨ret_bool HT.out.symm, rfl⟩
theorem way_any (k p : Int) (w : World) (hk : 0 ≤ k ∧ k < 4294967296) (hp : 0 ≤ p ∧ p < 4294967296) : Calls Try.prog 30 #[.int .u32 k, .int .u32 p] w fun e w' => e = .returned (.int .u32 (wayI k p)) ∧ w = w' := by
  have H := Lib.hid (show IntKind.u32.wrap (p - k) = wayI k p by rw [IntKind.wrap_u32]; rfl)
  go_enter Try.func30, Try.ntmps30
  go_wp2_with fail
  go_ret
  exact ⟨ret_int H.out, rfl⟩
def SamRel (a b : List Int) (w : World) (i : Value) (W : World) : Prop := ∃ k : Nat, i = .int .i64 k ∧ k ≤ a.length ∧ Hid (a.take k = b.take k) ∧ Below w.heap.size w W
set_option maxHeartbeats 1000000 in
theorem same_any (A : Option Addr) (c : Nat) (a : List Int) (B : Option Addr) (d : Nat) (b : List Int) (w : World) (hA : Lies w w.heap.size 1 A a.length (vc a)) (hB : Lies w w.heap.size 1 B b.length (vc b)) (hn : a.length ≤ 1000000) (hm : b.length ≤ 1000000) :
    Calls Try.prog 18 #[.slice A a.length c, .slice B b.length d] w fun e w' => e = .returned (.bool (decide (a = b))) ∧ Below w.heap.size w w' := by
  have HA := Lib.hid hA
  have HB := Lib.hid hB
  clear hA hB
  by_cases hl : a.length = b.length
  · obtain ⟨n, hn'⟩ : ∃ n : Nat, n = a.length := ⟨_, rfl⟩
    have HN1 := Lib.hid hn'
    have HN2 := Lib.hid (show n = b.length by omega)
    rw [← hl, ← hn']
    have hn6 : n ≤ 1000000 := by omega
    clear hn hm hl hn'
    go_enter Try.func18, Try.ntmps18
    go_wp2_with fail
    go_loopw [5] (fun i W => SamRel a b w i W) (fun i W => n - (intOf i).toNat)
    case atStart => exact ⟨0, rfl, Nat.zero_le _, Lib.hid (by simp), Below.refl _ _⟩
    case round =>
      obtain ⟨k, rfl, hk, HP, hb⟩ := hrel
      have HBW := Lib.hid hb
      by_cases hlt : k < n
      · obtain ⟨ad, rfl, hadb, e0⟩ := (HA.out.below hb).vs k (by have := HN1.out; omega)
        obtain ⟨ad', rfl, hadb', e1⟩ := (HB.out.below hb).vs k (by have := HN2.out; omega)
        have hkl : (k : Int) < (n : Int) := by omega
        clear hb
        by_cases he : iAt a k = iAt b k
        · have HT := Lib.hid (show a.take (k + 1) = b.take (k + 1) by rw [itake_at a k (by have := HN1.out; omega), itake_at b k (by have := HN2.out; omega), HP.out, he])
          have he' : (iAt a k != iAt b k) = false := by simpa using he
          clear he
          go_wp2_with fail
          go_quiet (fail)
          go_wp2_with fail
          go_roundw
          case rel => exact ⟨k + 1, by go_num, by have := HN1.out; omega, HT, below_to_drewN HBW.out _⟩
          case measure => simp [intOf]; omega
        · have HT := Lib.hid (show decide (a = b) = false from decide_eq_false (fun h => he (by rw [h])))
          have he' : (iAt a k != iAt b k) = true := by simpa using he
          clear he
          go_wp2_with fail
          go_quiet (fail)
          go_wp2_with fail
          go_ret
          exact ⟨ret_bool HT.out.symm, below_to_drewN HBW.out _⟩
      · have hk' : k = n := by have := HN1.out; omega
        subst hk'
        have HT := Lib.hid (show decide (a = b) = true from decide_eq_true (by have := HP.out; rwa [List.take_of_length_le (by have := HN1.out; omega), List.take_of_length_le (by have := HN2.out; omega)] at this))
        clear hb
        go_wp2_with fail
        go_ret
        exact ⟨ret_bool HT.out.symm, HBW.out⟩
  · have HT := Lib.hid (show decide (a = b) = false from decide_eq_false (fun h => hl (by rw [h])))
    have hl' : ((a.length : Int) != (b.length : Int)) = true := by simp; omega
    clear hl
    go_enter Try.func18, Try.ntmps18
    go_wp2_with fail
    go_ret
    exact ⟨ret_bool HT.out.symm, Below.refl _ _⟩
theorem lies_cells (w : World) (vs : List Value) (t : TypeId) (n s : Nat) (hn : vs.length = n * s) : Lies (w.alloc (.cells vs.toArray t)) (w.heap.size + 1) s (some ⟨w.heap.size, 0, none⟩) n vs := by
  refine ⟨hn, fun j u hj => ⟨_, rfl, Nat.lt_succ_self _, ?_⟩⟩
  have : (⟨w.heap.size, 0, none⟩ : Addr).add j = ⟨w.heap.size, j, none⟩ := by unfold Addr.add; split <;> simp_all
  rw [this, cell_of_row _ _ j _ t (0, 0) (heap_alloc_new _ _)]
  simpa using hj
def MaRel (l : List Int) (n : Nat) (w : World) (o i : Value) (W : World) : Prop := ∃ (k : Nat) (D : Option Addr) (d : Nat), i = .int .i64 ((k : Int) + 1) ∧ k ≤ 99 ∧ o = .slice D (made l n k).length d ∧ Hid (Below w.heap.size w W) ∧ Hid (W.ownsRow w.heap.size 3 1 (.slice D (made l n k).length d) (made l n k).length (vc (made l n k)))
set_option maxHeartbeats 1000000 in
theorem made_any (A : Option Addr) (c : Nat) (l : List Int) (n : Nat) (w : World) (hA : Lies w w.heap.size 1 A l.length (vc l)) (hn : l.length ≤ 1000000) (hn5 : n ≤ 5) :
    Calls Try.prog 23 #[.slice A l.length c, .int .i64 n] w fun e w' => ∃ D d, e = .returned (.slice D (made l n 99).length d) ∧ w'.ownsRow w.heap.size 3 1 (.slice D (made l n 99).length d) (made l n 99).length (vc (made l n 99)) ∧ Below w.heap.size w w' := by
  obtain ⟨iv, hiv, hzv, hzsv, hzbv⟩ := info_parts (show (Try.prog.info? 3).map (fun i => (i.zero, i.size, i.bytes)) = some (some (.int .i64 0), 1, 8) by kernel_rfl)
  have IV := Lib.hid hiv
  have ZV := Lib.hid hzv
  have SV := Lib.hid hzsv
  have BV := Lib.hid hzbv
  have HA := Lib.hid hA
  clear hiv hzv hzsv hzbv hA
  go_enter Try.func23, Try.ntmps23
  go_wp2_with fail
  go_loopw [5, 6] (fun o i W => MaRel l n w o i W) (fun o i W => 100 - (intOf i).toNat)
  case atStart => exact ⟨0, none, 0, rfl, by omega, rfl, Lib.hid (Below.refl _ _), Lib.hid (World.ownsRow_nil _ _ _ _)⟩
  case round =>
    obtain ⟨k, D, d, rfl, hk, rfl, HB, HO⟩ := hrel
    by_cases hlt : k < 99
    · have h99 : (k : Int) + 1 ≤ 99 := by omega
      have hml := made_len l n k
      by_cases hf : (made l n k).length < n
      · have hf' : ((made l n k).length : Int) < (n : Int) := by omega
        have HAW := Lib.hid ((HA.out.below HB.out).more HB.out.size)
        by_cases hm : ((k : Int) + 1) ∈ l
        · have HT := Lib.hid (decide_eq_true hm)
          have HY := Lib.hid (made_yes hf hm)
          clear hf hm
          go_wp2_with fail
          refine (has_any A c l _ _ HAW.out hn).mono ?_
          rintro e w1 ⟨rfl, rfl⟩
          rw [HT.out]
          have HO1 := Lib.hid (own_next HO.out (below_alloc wr (.cells #[.int .i64 ((k : Int) + 1)] 3)))
          have HL1 := Lib.hid (lies_cells wr (vc [(k : Int) + 1]) 3 1 1 rfl)
          have HB1 := Lib.hid (HB.out.trans ((below_alloc wr (.cells #[.int .i64 ((k : Int) + 1)] 3)).mono HB.out.size))
          go_wp2_with (at_builtin; go_must (refine wpList_app2 _ rfl (.tmp 20) (.tmp 22) 30 rfl w.heap.size 3 iv _ 1 8 Try.underlying30 IV.out ZV.out SV.out BV.out rfl (by decide) D (made l n k).length d (vc (made l n k)) rfl HO1.out (wr.heap.size + 1) (some ⟨wr.heap.size, 0, none⟩) 1 1 (vc [(k : Int) + 1]) rfl HL1.out (vc_one _) ((made l n k).length + 1) (vc (made l n k) ++ vc [(k : Int) + 1]) rfl rfl (by unfold maxLen; omega) (by omega) HB1.out.size ?_))
          intro A9 c9 w9 ho9 hb9 hg9
          have HO9 := Lib.hid ho9
          have HB9 := Lib.hid (HB1.out.trans hb9)
          clear ho9 hb9 hg9
          go_wp2_with fail
          go_roundw
          case rel => exact ⟨k + 1, A9, c9, by go_num, by omega, by rw [HY.out]; simp, HB9, by rw [HY.out, vc_app, List.length_append]; exact HO9⟩
          case measure => simp [intOf]; omega
        · have HT := Lib.hid (decide_eq_false hm)
          have HY := Lib.hid (made_no (n := n) hm)
          clear hf hm
          go_wp2_with fail
          refine (has_any A c l _ _ HAW.out hn).mono ?_
          rintro e w1 ⟨rfl, rfl⟩
          rw [HT.out]
          go_wp2_with fail
          go_roundw
          case rel => exact ⟨k + 1, D, d, by go_num, by omega, by rw [HY.out], HB, by rw [HY.out]; exact HO⟩
          case measure => simp [intOf]; omega
      · have HF := Lib.hid (show made l n 99 = made l n k by have := made_full_all hf (99 - k); rwa [show k + (99 - k) = 99 by omega] at this)
        have hf' : ¬ ((made l n k).length : Int) < (n : Int) := by omega
        clear hf
        go_wp2_with fail
        go_ret
        rw [HF.out]
        exact ⟨D, d, rfl, HO.out, HB.out⟩
    · have hk' : k = 99 := by omega
      subst hk'
      go_wp2_with fail
      go_ret
      exact ⟨D, d, rfl, HO.out, HB.out⟩
end Go.Proofs.Ytgdgjkdigbohlaa
