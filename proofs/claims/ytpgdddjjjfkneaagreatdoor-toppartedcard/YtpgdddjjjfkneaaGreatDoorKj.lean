import Derived.Test.YtpgdddjjjfkneaaGreatDoorKi
/-
  The contract of symMergeCmpFunc, where one of the two ranges is of one message. No condition but the ranges.
-/
namespace Go.Proofs.YtpgdddjjjfkneaaGreatDoor
open Go.RowKit Go.Sort
set_option linter.unusedVariables false
variable {w0 : World} {blk off N : Nat}

/-- What a merge leaves. -/
def SymPost (w0 : World) (blk off a b : Nat) (d : Array Ms) (e : Ending) (w' : World) : Prop :=
  e = .returned (.tuple #[]) ∧ ∃ d', Sw w0 blk off d' w' ∧ PermIn a b d d' ∧ SortedIn ltM a b d'
set_option maxHeartbeats 2000000 in
set_option maxRecDepth 20000 in
theorem sym1_any (cap a b : Nat) (d : Array Ms) (w : World) (R : Row w0 blk off N) (hs : d.size = N) (S : Sw w0 blk off d w) (hmb : a + 1 < b) (hb : b ≤ N) (hsz : N < 4611686018427387904) (hB : SortedIn ltM (a + 1) b d) :
    Calls Tryz.prog 140 #[.slice (some ⟨blk, off, none⟩) N cap, .int .i64 a, .int .i64 ((a + 1 : Nat) : Int), .int .i64 b, .func (.func 85) #[] #[]] w (SymPost w0 blk off a b d) := by
  have mixed : Tryz.prog.follows .mixedOrders = true := by kernel_rfl
  have S0 := Lib.hid S
  have HB := Lib.hid hB
  have i0 : ((a + 1 : Nat) : Int) - (a : Int) = 1 := by omega
  obtain ⟨m, hm⟩ : ∃ m, m = a + 1 := ⟨_, rfl⟩
  rw [← hm] at i0 hmb ⊢
  have HM := Lib.hid hm
  clear S hB hm
  go_enter Tryz.func140, Tryz.ntmps140
  go_wp2_with fail
  go_loopg [10, 11] (b - m) (fun g vi vj wr => ∃ (i j : Nat), vi = .int .i64 i ∧ vj = .int .i64 j ∧ m ≤ i ∧ i ≤ j ∧ j ≤ b ∧ j - i ≤ g ∧ Hid (Sw w0 blk off d wr) ∧ Hid (Se1 ltM d a m b i j))
  case atStart => exact ⟨m, b, rfl, rfl, Nat.le_refl _, by omega, Nat.le_refl _, Nat.le_refl _, S0, Lib.hid ⟨fun c h1 h2 => by omega, fun c h1 h2 => by omega⟩⟩
  case round =>
    clear S0
    obtain ⟨i, j, rfl, rfl, hmi, hij, hjb, hg, S1, E1⟩ := hrel
    by_cases hlt : i < j
    · have hltz : (i : Int) < (j : Int) := by omega
      obtain ⟨h, hh⟩ : ∃ h, h = (i + j) / 2 := ⟨_, rfl⟩
      have eh : ((i : Int) + (j : Int)) / 2 = (h : Int) := by omega
      have bh : i ≤ h ∧ h < j := by omega
      have ma : a < N := by have := HM.out; omega
      have ha0 := S1.out.ld R hs (i := a) (by omega)
      have hh0 := S1.out.ld R hs (i := h) (by omega)
      have hcg := S1.out.cmp d[h]! d[a]!
      have za : (a : Int) < (N : Int) := by omega
      have zh : (h : Int) < (N : Int) := by omega
      have a0 := fun n os => (ha0 n os).1
      have a1 := fun n os => (ha0 n os).2
      have b0 := fun n os => (hh0 n os).1
      have b1 := fun n os => (hh0 n os).2
      clear ha0 hh0 hh
      generalize hxa : d[a]! = xa at a0 a1 hcg
      generalize hxh : d[h]! = xh at b0 b1 hcg
      have HX := Lib.hid (And.intro hxa hxh)
      clear hxa hxh hs
      by_cases hl : cmpM xh xa < 0
      · have E2 := Lib.hid (Se1.up ltM_swo E1.out (by rw [← HM.out] at HB; exact HB.out) (h := h) (by omega) (by rw [HX.out.1, HX.out.2]; exact decide_eq_true hl))
        go_wp2_with fail
        go_quiet_grown (refine Calls.grown_of (hcg _ _))
        go_wp2_with fail
        go_roundg (j - (h + 1))
        case measure => omega
        case rel => exact ⟨h + 1, j, by go_num, rfl, by omega, by omega, hjb, Nat.le_refl _, Lib.hid (S1.out.grown nq osq), E2⟩
      · have E2 := Lib.hid (Se1.down ltM_swo E1.out (by rw [← HM.out] at HB; exact HB.out) (h := h) (by omega) (by rw [HX.out.1, HX.out.2]; exact decide_eq_false hl))
        go_wp2_with fail
        go_quiet_grown (refine Calls.grown_of (hcg _ _))
        go_wp2_with fail
        go_roundg (h - i)
        case measure => omega
        case rel => exact ⟨i, h, rfl, rfl, by omega, by omega, by omega, Nat.le_refl _, Lib.hid (S1.out.grown nq osq), E2⟩
    · have e : i = j := by omega
      subst e
      clear hlt
      have hai : a + 1 ≤ i := by have := HM.out; omega
      go_wp2_with fail
      go_loopg [13] (i - a) (fun g vk wr2 => ∃ (k : Nat) (dk : Array Ms), vk = .int .i64 k ∧ a ≤ k ∧ k + 1 ≤ i ∧ i - k ≤ g ∧ Hid (Sw w0 blk off dk wr2) ∧ Hid (PermIn a b d dk) ∧ Hid (∀ t, dk[t]! = rotA d a (a + 1) (k + 1) t))
      case atStart => exact ⟨a, d, rfl, Nat.le_refl _, hai, Nat.le_refl _, S1, Lib.hid (permIn_refl _ _ _), Lib.hid (rotA_none_up d a)⟩
      case round =>
        clear S1
        obtain ⟨k, dk, rfl, hak, hki, hg2, S1, P1, V1⟩ := hrel
        have hds : dk.size = d.size := P1.out.1
        by_cases hk : k + 1 < i
        · have hkz : (k : Int) < (i : Int) - 1 := by omega
          obtain ⟨ca0, ca1⟩ := S1.out.cell R (hds.trans hs) (i := k) (by omega)
          obtain ⟨cb0, cb1⟩ := S1.out.cell R (hds.trans hs) (i := k + 1) (by omega)
          obtain ⟨fa0, fa1⟩ := S1.out.fr R (hds.trans hs) (i := k) (by omega)
          obtain ⟨fb0, fb1⟩ := S1.out.fr R (hds.trans hs) (i := k + 1) (by omega)
          obtain ⟨x1, x2, x3, x4⟩ := S1.out.sw R (hds.trans hs) k (k + 1) (by omega) (by omega)
          have S2 := Lib.hid x4
          have P2 := Lib.hid (permIn_trans _ _ _ _ _ P1.out (swp_permIn dk a b k (k + 1) (by omega) (by omega) (by omega) (by omega) (by omega)))
          have V2 := Lib.hid (rotA_up d dk a k b hak (by omega) (by omega) hds V1.out)
          have za : (k : Int) + 1 < (N : Int) := by omega
          have zb : (k : Int) < (N : Int) := by omega
          clear x4 S1 P1 V1 hds hs E1 HB
          go_wp2_with fail
          go_region
          all_goals go_wp2_with fail
          all_goals go_roundg (i - (k + 1))
          case measure => omega
          case rel => exact ⟨k + 1, _, by go_num, by omega, by omega, Nat.le_refl _, S2, P2, V2⟩
        · have hkz : ¬ (k : Int) < (i : Int) - 1 := by omega
          have e : k + 1 = i := by omega
          go_wp2_with fail
          go_end0
          refine ⟨rfl, dk, S1.out, P1.out, ?_⟩
          have := V1.out
          rw [e] at this
          have h1 := E1.out
          rw [HM.out] at h1
          exact Se1.sorted ltM_swo h1 HB.out hai hjb this
set_option maxHeartbeats 2000000 in
set_option maxRecDepth 20000 in
theorem sym2_any (cap a m : Nat) (d : Array Ms) (w : World) (R : Row w0 blk off N) (hs : d.size = N) (S : Sw w0 blk off d w) (ham : a + 1 < m) (hb : m + 1 ≤ N) (hsz : N < 4611686018427387904) (hA : SortedIn ltM a m d) :
    Calls Tryz.prog 140 #[.slice (some ⟨blk, off, none⟩) N cap, .int .i64 a, .int .i64 m, .int .i64 ((m + 1 : Nat) : Int), .func (.func 85) #[] #[]] w (SymPost w0 blk off a (m + 1) d) := by
  have mixed : Tryz.prog.follows .mixedOrders = true := by kernel_rfl
  have S0 := Lib.hid S
  have HA := Lib.hid hA
  have n0 : ((m : Int) - (a : Int) == 1) = false := beq_eq_false_iff_ne.2 (by omega)
  obtain ⟨b, hbm⟩ : ∃ b, b = m + 1 := ⟨_, rfl⟩
  have i0 : (b : Int) - (m : Int) = 1 := by omega
  rw [← hbm] at hb ⊢
  have HM := Lib.hid hbm
  clear S hA hbm
  go_enter Tryz.func140, Tryz.ntmps140
  go_wp2_with fail
  go_loopg [14, 15] (m - a) (fun g vi vj wr => ∃ (i j : Nat), vi = .int .i64 i ∧ vj = .int .i64 j ∧ a ≤ i ∧ i ≤ j ∧ j ≤ m ∧ j - i ≤ g ∧ Hid (Sw w0 blk off d wr) ∧ Hid (Se2 ltM d a m i j))
  case atStart => exact ⟨a, m, rfl, rfl, Nat.le_refl _, by omega, Nat.le_refl _, Nat.le_refl _, S0, Lib.hid ⟨fun c h1 h2 => by omega, fun c h1 h2 => by omega⟩⟩
  case round =>
    clear S0
    obtain ⟨i, j, rfl, rfl, hmi, hij, hjb, hg, S1, E1⟩ := hrel
    by_cases hlt : i < j
    · have hltz : (i : Int) < (j : Int) := by omega
      obtain ⟨h, hh⟩ : ∃ h, h = (i + j) / 2 := ⟨_, rfl⟩
      have eh : ((i : Int) + (j : Int)) / 2 = (h : Int) := by omega
      have bh : i ≤ h ∧ h < j := by omega
      have mN : m < N := by have := HM.out; omega
      have ha0 := S1.out.ld R hs (i := m) (by omega)
      have hh0 := S1.out.ld R hs (i := h) (by omega)
      have hcg := S1.out.cmp d[m]! d[h]!
      have za : (m : Int) < (N : Int) := by omega
      have zh : (h : Int) < (N : Int) := by omega
      have a0 := fun n os => (ha0 n os).1
      have a1 := fun n os => (ha0 n os).2
      have b0 := fun n os => (hh0 n os).1
      have b1 := fun n os => (hh0 n os).2
      clear ha0 hh0 hh
      generalize hxa : d[m]! = xa at a0 a1 hcg
      generalize hxh : d[h]! = xh at b0 b1 hcg
      have HX := Lib.hid (And.intro hxa hxh)
      clear hxa hxh hs
      by_cases hl : cmpM xa xh < 0
      · have E2 := Lib.hid (Se2.down ltM_swo E1.out HA.out (h := h) (by omega) (by rw [HX.out.1, HX.out.2]; exact decide_eq_true hl))
        go_wp2_with fail
        go_quiet_grown (refine Calls.grown_of (hcg _ _))
        go_wp2_with fail
        go_roundg (h - i)
        case measure => omega
        case rel => exact ⟨i, h, rfl, rfl, by omega, by omega, by omega, Nat.le_refl _, Lib.hid (S1.out.grown nq osq), E2⟩
      · have E2 := Lib.hid (Se2.up ltM_swo E1.out HA.out (h := h) (by omega) (by rw [HX.out.1, HX.out.2]; exact decide_eq_false hl))
        go_wp2_with fail
        go_quiet_grown (refine Calls.grown_of (hcg _ _))
        go_wp2_with fail
        all_goals first | (exfalso; rename_i hx; rw [decide_eq_false (show ¬ cmpM xa xh < 0 by omega)] at hx; cases hx; done) | skip
        go_roundg (j - (h + 1))
        case measure => omega
        case rel => exact ⟨h + 1, j, by go_num, rfl, by omega, by omega, hjb, Nat.le_refl _, Lib.hid (S1.out.grown nq osq), E2⟩
    · have e : i = j := by omega
      subst e
      clear hlt
      have hmN : m < N := by have := HM.out; omega
      go_wp2_with fail
      go_loopg [17] (m - i) (fun g vk wr2 => ∃ (k : Nat) (dk : Array Ms), vk = .int .i64 k ∧ i ≤ k ∧ k ≤ m ∧ k - i ≤ g ∧ Hid (Sw w0 blk off dk wr2) ∧ Hid (PermIn a (m + 1) d dk) ∧ Hid (∀ t, dk[t]! = rotA d k m (m + 1) t))
      case atStart => exact ⟨m, d, rfl, hjb, Nat.le_refl _, Nat.le_refl _, S1, Lib.hid (permIn_refl _ _ _), Lib.hid (rotA_none_down d m)⟩
      case round =>
        clear S1
        obtain ⟨k, dk, rfl, hik, hkm, hg2, S1, P1, V1⟩ := hrel
        have hds : dk.size = d.size := P1.out.1
        by_cases hk : i < k
        · obtain ⟨k, rfl⟩ : ∃ q, k = q + 1 := ⟨k - 1, by omega⟩
          obtain ⟨ca0, ca1⟩ := S1.out.cell R (hds.trans hs) (i := k) (by omega)
          obtain ⟨cb0, cb1⟩ := S1.out.cell R (hds.trans hs) (i := k + 1) (by omega)
          obtain ⟨fa0, fa1⟩ := S1.out.fr R (hds.trans hs) (i := k) (by omega)
          obtain ⟨fb0, fb1⟩ := S1.out.fr R (hds.trans hs) (i := k + 1) (by omega)
          obtain ⟨x1, x2, x3, x4⟩ := S1.out.sw R (hds.trans hs) (k + 1) k (by omega) (by omega)
          have S2 := Lib.hid x4
          have P2 := Lib.hid (permIn_trans _ _ _ _ _ P1.out (swp_permIn dk a (m + 1) (k + 1) k (by omega) (by omega) (by omega) (by omega) (by omega)))
          have V2 := Lib.hid (rotA_down d dk k m (by omega) (by omega) hds V1.out)
          have za : (k : Int) + 1 < (N : Int) := by omega
          have zb : (k : Int) < (N : Int) := by omega
          have hkz : (i : Int) < ((k + 1 : Nat) : Int) := by omega
          have e1 : ((k + 1 : Nat) : Int) - 1 = (k : Int) := by omega
          clear x4 S1 P1 V1 hds hs E1 HA
          go_wp2_with fail
          go_region
          all_goals go_wp2_with fail
          all_goals go_roundg (k - i)
          case measure => omega
          case rel => exact ⟨k, _, by first | rfl | go_num, by omega, by omega, Nat.le_refl _, S2, P2, V2⟩
        · have e : k = i := by omega
          subst e
          go_wp2_with fail
          go_end0
          unfold SymPost
          rw [HM.out]
          exact ⟨rfl, dk, S1.out, P1.out, Se2.sorted ltM_swo E1.out HA.out hmi hjb V1.out⟩
end Go.Proofs.YtpgdddjjjfkneaaGreatDoor


