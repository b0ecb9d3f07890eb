import Derived.Test.YtpgdddjjjfkneaaGreatDoorKj
/-
  The contract of symMergeCmpFunc: two sorted ranges become one sorted range of the same messages, all else as it was. No condition but the ranges.
-/
namespace Go.Proofs.YtpgdddjjjfkneaaGreatDoor
open Go.RowKit Go.Sort
set_option linter.unusedVariables false
variable {w0 : World} {blk off N : Nat}

/-- The contract at ranges that are shorter than L. -/
def SymIH (w0 : World) (blk off N cap L : Nat) : Prop := ∀ (a m b : Nat) (d : Array Ms) (w : World), Sw w0 blk off d w → d.size = N → a < m → m < b → b ≤ N → b - a < L → SortedIn ltM a m d → SortedIn ltM m b d →
  Calls Tryz.prog 140 #[.slice (some ⟨blk, off, none⟩) N cap, .int .i64 a, .int .i64 m, .int .i64 b, .func (.func 85) #[] #[]] w (SymPost w0 blk off a b d)
theorem rotA_trivial (d : Array Ms) (s m e : Nat) (h1 : s ≤ m) (h2 : m ≤ e) (h : s = m ∨ e = m) (t : Nat) : rotA d s m e t = d[t]! := by
  unfold rotA
  repeat' split
  all_goals first | rfl | (exfalso; omega) | (congr 1; omega)
set_option maxHeartbeats 2000000 in
set_option maxRecDepth 20000 in
theorem sym3a_any (cap a m b mid : Nat) (d : Array Ms) (w : World) (R : Row w0 blk off N) (hs : d.size = N) (S : Sw w0 blk off d w) (ham : a + 1 < m) (hmb : m + 1 < b) (hb : b ≤ N) (hsz : N < 4611686018427387904) (hA : SortedIn ltM a m d) (hB : SortedIn ltM m b d)
    (hmid : mid = (a + b) / 2) (hmm : mid < m) (IH : SymIH w0 blk off N cap (b - a)) :
    Calls Tryz.prog 140 #[.slice (some ⟨blk, off, none⟩) N cap, .int .i64 a, .int .i64 m, .int .i64 b, .func (.func 85) #[] #[]] w (SymPost w0 blk off a b d) := by
  have mixed : Tryz.prog.follows .mixedOrders = true := by kernel_rfl
  have S0 := Lib.hid S
  have HA := Lib.hid hA
  have HB := Lib.hid hB
  have HI := Lib.hid IH
  have n0 : ((m : Int) - (a : Int) == 1) = false := beq_eq_false_iff_ne.2 (by omega)
  have n1 : ((b : Int) - (m : Int) == 1) = false := beq_eq_false_iff_ne.2 (by omega)
  have em : ((a : Int) + (b : Int)) / 2 = (mid : Int) := by omega
  obtain ⟨s0, hs0⟩ : ∃ s0, s0 = mid + m - b := ⟨_, rfl⟩
  obtain ⟨r0, hr0⟩ : ∃ r0, r0 = mid := ⟨_, rfl⟩
  obtain ⟨p, hp⟩ : ∃ p, p = mid + m - 1 := ⟨_, rfl⟩
  have ep : (mid : Int) + (m : Int) - 1 = (p : Int) := by omega
  have zm : (mid : Int) < (m : Int) := by omega
  have es0 : (mid : Int) + (m : Int) - (b : Int) = (s0 : Int) := by omega
  have g1 : a ≤ s0 := by omega
  have g2 : s0 ≤ r0 := by omega
  have g3 : r0 ≤ m := by omega
  have g4 : m + r0 ≤ p + 1 := by omega
  have g5 : p - s0 < b := by omega
  have g6 : p + 1 = mid + m := by omega
  have g7 : a < mid ∧ mid < b := by omega
  have HE : Hid (∀ s, s0 ≤ s → s ≤ r0 → (s = s0 → s = a ∨ mid + m - s = b) ∧ (s = r0 → s = m ∨ mid + m - s = m) ∧ s ≤ m ∧ m ≤ mid + m - s ∧ mid + m - s ≤ b) := fun s h1 h2 => by omega
  have G : Hid ((a + 1 < m ∧ m + 1 < b ∧ b ≤ N) ∧ a ≤ s0 ∧ s0 ≤ r0 ∧ r0 ≤ m ∧ m + r0 ≤ p + 1 ∧ p - s0 < b ∧ p + 1 = mid + m ∧ a < mid ∧ mid < b) := ⟨⟨ham, hmb, hb⟩, g1, g2, g3, g4, g5, g6, g7⟩
  have r0N : r0 < N := by omega
  clear g1 g3 g4 g5 g6 g7 hmm
  have HR0 := Lib.hid hr0
  have HS0 := Lib.hid hs0
  clear S hA hB IH hmid hp hr0 hs0
  go_enter Tryz.func140, Tryz.ntmps140
  go_wp2_with fail
  go_loopg [20, 21] (r0 - s0) (fun g vi vj wr => ∃ (s r : Nat), vi = .int .i64 s ∧ vj = .int .i64 r ∧ s0 ≤ s ∧ s ≤ r ∧ r ≤ r0 ∧ r - s ≤ g ∧ Hid (Sw w0 blk off d wr) ∧ Hid (Se3 ltM d p s0 r0 s r))
  case atStart => exact ⟨s0, r0, rfl, by rw [HR0.out], Nat.le_refl _, g2, Nat.le_refl _, Nat.le_refl _, S0, Lib.hid ⟨fun c h1 h2 => by omega, fun c h1 h2 => by omega⟩⟩
  case round =>
    clear S0 g2 n0 n1 em zm es0 ep
    obtain ⟨s, r, rfl, rfl, hmi, hij, hjb, hg, S1, E1⟩ := hrel
    obtain ⟨⟨ham, hmb, hb⟩, g1, g2, g3, g4, g5, g6, g7⟩ := G.out
    by_cases hlt : s < r
    · have hltz : (s : Int) < (r : Int) := by omega
      obtain ⟨c, hh⟩ : ∃ c, c = (s + r) / 2 := ⟨_, rfl⟩
      obtain ⟨f, hf⟩ : ∃ f, f = p - c := ⟨_, rfl⟩
      have eh : ((s : Int) + (r : Int)) / 2 = (c : Int) := by omega
      have ef : (p : Int) - (c : Int) = (f : Int) := by omega
      have bh : s ≤ c ∧ c < r := by omega
      have ha0 := S1.out.ld R hs (i := f) (by omega)
      have hh0 := S1.out.ld R hs (i := c) (by omega)
      have hcg := S1.out.cmp d[f]! d[c]!
      have za : (f : Int) < (N : Int) := by omega
      have zh : (c : Int) < (N : Int) := by omega
      have rf : IntKind.i64.wrap (f : Int) = (f : Int) := by rw [IntKind.wrap_i64]; omega
      have a0 := fun n os => (ha0 n os).1
      have a1 := fun n os => (ha0 n os).2
      have b0 := fun n os => (hh0 n os).1
      have b1 := fun n os => (hh0 n os).2
      clear ha0 hh0 hh
      generalize hxa : d[f]! = xa at a0 a1 hcg
      generalize hxh : d[c]! = xh at b0 b1 hcg
      have HX := Lib.hid (And.intro hxa hxh)
      have HF := Lib.hid hf
      have hf2 : p - c < b ∧ m ≤ p - c := by omega
      have HS2 := Lib.hid (show s ≤ c ∧ c < r ∧ r ≤ r0 ∧ r - s ≤ gk ∧ s0 ≤ s from by omega)
      have E2u := Lib.hid (fun (hl : ltM d[p - c]! d[c]! = false) => Se3.up ltM_swo E1.out HA.out HB.out (c := c) g1 (by omega) hf2.2 g5 hl)
      have E2d := Lib.hid (fun (hl : ltM d[p - c]! d[c]! = true) => Se3.down ltM_swo E1.out HA.out HB.out (c := c) (by omega) g3 g4 hf2.1 hl)
      have rc : IntKind.i64.wrap ((c : Int) + 1) = (c : Int) + 1 := by rw [IntKind.wrap_i64]; omega
      clear hxa hxh hs hf ham hmb hb g1 g2 g3 g4 g5 g6 g7 hf2 bh r0N hij hjb hg hmi hlt E1 HE HI R
      by_cases hl : cmpM xa xh < 0
      · have E2 := Lib.hid (E2d.out (by rw [← HF.out, HX.out.1, HX.out.2]; exact decide_eq_true hl))
        clear E2u E2d
        go_wp2_with fail
        go_quiet_grown (refine Calls.grown_of (hcg _ _))
        go_wp2_with fail
        go_roundg (c - s)
        case measure => have := HS2.out; omega
        case rel => exact ⟨s, c, rfl, rfl, by have := HS2.out; omega, by have := HS2.out; omega, by have := HS2.out; omega, Nat.le_refl _, Lib.hid (S1.out.grown nq osq), E2⟩
      · have E2 := Lib.hid (E2u.out (by rw [← HF.out, HX.out.1, HX.out.2]; exact decide_eq_false hl))
        clear E2u E2d
        go_wp2_with fail
        go_quiet_grown (refine Calls.grown_of (hcg _ _))
        go_wp2_with fail
        all_goals first | (exfalso; rename_i hx; rw [decide_eq_false (show ¬ cmpM xa xh < 0 by omega)] at hx; cases hx; done) | skip
        go_roundg (r - (c + 1))
        case measure => have := HS2.out; omega
        case rel => exact ⟨c + 1, r, by go_num, rfl, by have := HS2.out; omega, by have := HS2.out; omega, by have := HS2.out; omega, Nat.le_refl _, Lib.hid (S1.out.grown nq osq), E2⟩
    · have e : s = r := by omega
      subst e
      obtain ⟨q1, q2, q3, q4, q5⟩ := HE.out s hmi hjb
      obtain ⟨en, hen⟩ : ∃ en, en = mid + m - s := ⟨_, rfl⟩
      rw [← hen] at q1 q2 q4 q5
      have een : (mid : Int) + (m : Int) - (s : Int) = (en : Int) := by omega
      have hse : s + en = mid + m := by omega
      have HH := Lib.hid (fun (d1 : Array Ms) (h : ∀ t, d1[t]! = rotA d s m en t) => halves ltM_swo HA.out HB.out (show a ≤ s by omega) q3 q4 q5 hse
        (by
          by_cases k : s = s0
          · rcases q1 k with k | k
            · exact .inl k
            · exact .inr (.inl k)
          · have := E1.out.1 (s - 1) (by omega) (by omega)
            rw [show p - (s - 1) = en by omega] at this
            exact .inr (.inr this))
        (by
          by_cases k : s = r0
          · rcases q2 k with k | k
            · exact .inl k
            · exact .inr (.inl k)
          · have := E1.out.2 s (by omega) (by omega)
            rw [show p - s = en - 1 by omega] at this
            exact .inr (.inr this)) h)
      have K : Hid (a ≤ s ∧ s ≤ m ∧ m ≤ en ∧ en ≤ b ∧ s + en = mid + m ∧ a < mid ∧ mid < b ∧ b ≤ N ∧ a + 1 < m ∧ m + 1 < b) := ⟨by omega, q3, q4, q5, hse, g7.1, g7.2, hb, ham, hmb⟩
      have zen : en < 4611686018427387904 := by omega
      clear hlt E1 HE q1 q2 hen hg hij hse q3 q4 q5 hmi hjb ham hmb hb g1 g2 g3 g4 g5 g6 g7 r0N HR0 HS0 G HA HB
      by_cases k1 : s < m ∧ m < en
      · have z1 : (s : Int) < (m : Int) := by have := K.out; omega
        have z2 : (m : Int) < (en : Int) := by have := K.out; omega
        have hc := rotate_any (blk := blk) cap s m en d _ R hs S1.out k1.1 k1.2 (by have := K.out; omega) hsz
        have HC := Lib.hid hc
        have HS := Lib.hid hs
        clear hc hs
        go_wp2_with fail
        with_reducible refine HC.out.mono ?_
        rintro e w1 ⟨rfl, d1, S2, PX, V1⟩
        have H1 := Lib.hid (HH.out d1 V1)
        have PD := Lib.hid (permIn_mono d d1 s en a b K.out.1 (by have := K.out; omega) (by rw [HS.out]; have := K.out; omega) PX)
        have HD1 : Hid (d1.size = N) := PX.1.trans HS.out
        clear S1 HC PX V1 HH HS
        have S1 := Lib.hid S2
        clear S2
        by_cases k2 : a < s ∧ s < mid
        · have z3 : (a : Int) < (s : Int) := by have := K.out; omega
          have z4 : (s : Int) < (mid : Int) := by have := K.out; omega
          have hc := HI.out a s mid d1 _ S1.out HD1.out k2.1 k2.2 (show mid ≤ N by have := K.out; omega) (show mid - a < b - a by have := K.out; omega) H1.out.s1 H1.out.s2
          have HC := Lib.hid hc
          clear hc
          go_wp2_with fail
          with_reducible refine HC.out.mono ?_
          rintro e w2 ⟨rfl, d2, S2, P2, T2⟩
          have S2 := Lib.hid S2
          have P2 := Lib.hid P2
          have T2 := Lib.hid T2
          clear HC S1
          have hd2 : d2.size = N := by rw [P2.out.1]; exact HD1.out
          have s3 := Lib.hid (sorted_same H1.out.s3 (fun i h1 _ => P2.out.2.1 i (.inr h1)))
          have s4 := Lib.hid (sorted_same H1.out.s4 (fun i h1 _ => P2.out.2.1 i (.inr (by have := K.out; omega))))
          have HD2 := Lib.hid hd2
          clear hd2
          by_cases k3 : mid < en ∧ en < b
          · have z5 : (mid : Int) < (en : Int) := by have := K.out; omega
            have z6 : (en : Int) < (b : Int) := by have := K.out; omega
            have hc := HI.out mid en b d2 _ S2.out HD2.out k3.1 k3.2 (show b ≤ N by have := K.out; omega) (show b - mid < b - a by have := K.out; omega) s3.out s4.out
            have HC := Lib.hid hc
            clear hc
            go_wp2_with fail
            all_goals
              with_reducible refine HC.out.mono ?_
              rintro e w3 ⟨rfl, d3, S3, P3, T3⟩
              have J := join ltM_swo H1.out (by have := K.out; omega) (by have := K.out; omega) (by rw [HD1.out]; have := K.out; omega) P2.out T2.out P3 T3
              have JJ := Lib.hid J
              have S4 := Lib.hid S3
              clear HC J S3 P3 T3
              go_wp2_with fail
              go_end0
              exact ⟨rfl, d3, S4.out, permIn_trans _ _ _ _ _ PD.out JJ.out.1, JJ.out.2⟩
          · have J := join ltM_swo H1.out (by have := K.out; omega) (by have := K.out; omega) (by rw [HD1.out]; have := K.out; omega) P2.out T2.out (permIn_refl d2 mid b) (sorted_one s3.out s4.out (by have := K.out; omega))
            have JJ := Lib.hid J
            clear J
            by_cases k4 : mid < en
            · have z5 : (mid : Int) < (en : Int) := by have := K.out; omega
              have z6 : ¬ (en : Int) < (b : Int) := by have := K.out; omega
              go_wp2_with fail
              all_goals go_end0
              all_goals exact ⟨rfl, d2, S2.out, permIn_trans _ _ _ _ _ PD.out JJ.out.1, JJ.out.2⟩
            · have z5 : ¬ (mid : Int) < (en : Int) := by have := K.out; omega
              go_wp2_with fail
              all_goals go_end0
              all_goals exact ⟨rfl, d2, S2.out, permIn_trans _ _ _ _ _ PD.out JJ.out.1, JJ.out.2⟩
        · obtain ⟨d2, hd2e⟩ : ∃ d2, d2 = d1 := ⟨_, rfl⟩
          have S2 := S1
          rw [← hd2e] at S2
          have P2 : Hid (PermIn a mid d1 d2) := by rw [hd2e]; exact permIn_refl _ _ _
          have T2 : Hid (SortedIn ltM a mid d2) := by rw [hd2e]; exact sorted_one H1.out.s1 H1.out.s2 (by have := K.out; omega)
          clear hd2e S1
          by_cases k5 : a < s
          · have z3 : (a : Int) < (s : Int) := by have := K.out; omega
            have z4 : ¬ (s : Int) < (mid : Int) := by have := K.out; omega
            have hd2 : d2.size = N := by rw [P2.out.1]; exact HD1.out
            have s3 := Lib.hid (sorted_same H1.out.s3 (fun i h1 _ => P2.out.2.1 i (.inr h1)))
            have s4 := Lib.hid (sorted_same H1.out.s4 (fun i h1 _ => P2.out.2.1 i (.inr (by have := K.out; omega))))
            have HD2 := Lib.hid hd2
            clear hd2
            by_cases k3 : mid < en ∧ en < b
            · have z5 : (mid : Int) < (en : Int) := by have := K.out; omega
              have z6 : (en : Int) < (b : Int) := by have := K.out; omega
              have hc := HI.out mid en b d2 _ S2.out HD2.out k3.1 k3.2 (show b ≤ N by have := K.out; omega) (show b - mid < b - a by have := K.out; omega) s3.out s4.out
              have HC := Lib.hid hc
              clear hc
              go_wp2_with fail
              all_goals
                with_reducible refine HC.out.mono ?_
                rintro e w3 ⟨rfl, d3, S3, P3, T3⟩
                have J := join ltM_swo H1.out (by have := K.out; omega) (by have := K.out; omega) (by rw [HD1.out]; have := K.out; omega) P2.out T2.out P3 T3
                have JJ := Lib.hid J
                have S4 := Lib.hid S3
                clear HC J S3 P3 T3
                go_wp2_with fail
                go_end0
                exact ⟨rfl, d3, S4.out, permIn_trans _ _ _ _ _ PD.out JJ.out.1, JJ.out.2⟩
            · have J := join ltM_swo H1.out (by have := K.out; omega) (by have := K.out; omega) (by rw [HD1.out]; have := K.out; omega) P2.out T2.out (permIn_refl d2 mid b) (sorted_one s3.out s4.out (by have := K.out; omega))
              have JJ := Lib.hid J
              clear J
              by_cases k4 : mid < en
              · have z5 : (mid : Int) < (en : Int) := by have := K.out; omega
                have z6 : ¬ (en : Int) < (b : Int) := by have := K.out; omega
                go_wp2_with fail
                all_goals go_end0
                all_goals exact ⟨rfl, d2, S2.out, permIn_trans _ _ _ _ _ PD.out JJ.out.1, JJ.out.2⟩
              · have z5 : ¬ (mid : Int) < (en : Int) := by have := K.out; omega
                go_wp2_with fail
                all_goals go_end0
                all_goals exact ⟨rfl, d2, S2.out, permIn_trans _ _ _ _ _ PD.out JJ.out.1, JJ.out.2⟩
          · have z3 : ¬ (a : Int) < (s : Int) := by have := K.out; omega
            have hd2 : d2.size = N := by rw [P2.out.1]; exact HD1.out
            have s3 := Lib.hid (sorted_same H1.out.s3 (fun i h1 _ => P2.out.2.1 i (.inr h1)))
            have s4 := Lib.hid (sorted_same H1.out.s4 (fun i h1 _ => P2.out.2.1 i (.inr (by have := K.out; omega))))
            have HD2 := Lib.hid hd2
            clear hd2
            by_cases k3 : mid < en ∧ en < b
            · have z5 : (mid : Int) < (en : Int) := by have := K.out; omega
              have z6 : (en : Int) < (b : Int) := by have := K.out; omega
              have hc := HI.out mid en b d2 _ S2.out HD2.out k3.1 k3.2 (show b ≤ N by have := K.out; omega) (show b - mid < b - a by have := K.out; omega) s3.out s4.out
              have HC := Lib.hid hc
              clear hc
              go_wp2_with fail
              all_goals
                with_reducible refine HC.out.mono ?_
                rintro e w3 ⟨rfl, d3, S3, P3, T3⟩
                have J := join ltM_swo H1.out (by have := K.out; omega) (by have := K.out; omega) (by rw [HD1.out]; have := K.out; omega) P2.out T2.out P3 T3
                have JJ := Lib.hid J
                have S4 := Lib.hid S3
                clear HC J S3 P3 T3
                go_wp2_with fail
                go_end0
                exact ⟨rfl, d3, S4.out, permIn_trans _ _ _ _ _ PD.out JJ.out.1, JJ.out.2⟩
            · have J := join ltM_swo H1.out (by have := K.out; omega) (by have := K.out; omega) (by rw [HD1.out]; have := K.out; omega) P2.out T2.out (permIn_refl d2 mid b) (sorted_one s3.out s4.out (by have := K.out; omega))
              have JJ := Lib.hid J
              clear J
              by_cases k4 : mid < en
              · have z5 : (mid : Int) < (en : Int) := by have := K.out; omega
                have z6 : ¬ (en : Int) < (b : Int) := by have := K.out; omega
                go_wp2_with fail
                all_goals go_end0
                all_goals exact ⟨rfl, d2, S2.out, permIn_trans _ _ _ _ _ PD.out JJ.out.1, JJ.out.2⟩
              · have z5 : ¬ (mid : Int) < (en : Int) := by have := K.out; omega
                go_wp2_with fail
                all_goals go_end0
                all_goals exact ⟨rfl, d2, S2.out, permIn_trans _ _ _ _ _ PD.out JJ.out.1, JJ.out.2⟩
      · have H1 := Lib.hid (HH.out d (fun t => (rotA_trivial d s m en K.out.2.1 K.out.2.2.1 (by have := K.out; omega) t).symm))
        have PD : Hid (PermIn a b d d) := permIn_refl _ _ _
        clear HH
        obtain ⟨d1, hd1e⟩ : ∃ d1, d1 = d := ⟨_, rfl⟩
        rw [← hd1e] at H1 S1
        have HD1 : Hid (d1.size = N) := by rw [hd1e]; exact hs
        have PD : Hid (PermIn a b d d1) := by rw [hd1e]; exact permIn_refl _ _ _
        clear hd1e hs
        by_cases k6 : s < m
        · have z1 : (s : Int) < (m : Int) := by have := K.out; omega
          have z2 : ¬ (m : Int) < (en : Int) := by have := K.out; omega
          by_cases k2 : a < s ∧ s < mid
          · have z3 : (a : Int) < (s : Int) := by have := K.out; omega
            have z4 : (s : Int) < (mid : Int) := by have := K.out; omega
            have hc := HI.out a s mid d1 _ S1.out HD1.out k2.1 k2.2 (show mid ≤ N by have := K.out; omega) (show mid - a < b - a by have := K.out; omega) H1.out.s1 H1.out.s2
            have HC := Lib.hid hc
            clear hc
            go_wp2_with fail
            with_reducible refine HC.out.mono ?_
            rintro e w2 ⟨rfl, d2, S2, P2, T2⟩
            have S2 := Lib.hid S2
            have P2 := Lib.hid P2
            have T2 := Lib.hid T2
            clear HC S1
            have hd2 : d2.size = N := by rw [P2.out.1]; exact HD1.out
            have s3 := Lib.hid (sorted_same H1.out.s3 (fun i h1 _ => P2.out.2.1 i (.inr h1)))
            have s4 := Lib.hid (sorted_same H1.out.s4 (fun i h1 _ => P2.out.2.1 i (.inr (by have := K.out; omega))))
            have HD2 := Lib.hid hd2
            clear hd2
            by_cases k3 : mid < en ∧ en < b
            · have z5 : (mid : Int) < (en : Int) := by have := K.out; omega
              have z6 : (en : Int) < (b : Int) := by have := K.out; omega
              have hc := HI.out mid en b d2 _ S2.out HD2.out k3.1 k3.2 (show b ≤ N by have := K.out; omega) (show b - mid < b - a by have := K.out; omega) s3.out s4.out
              have HC := Lib.hid hc
              clear hc
              go_wp2_with fail
              all_goals
                with_reducible refine HC.out.mono ?_
                rintro e w3 ⟨rfl, d3, S3, P3, T3⟩
                have J := join ltM_swo H1.out (by have := K.out; omega) (by have := K.out; omega) (by rw [HD1.out]; have := K.out; omega) P2.out T2.out P3 T3
                have JJ := Lib.hid J
                have S4 := Lib.hid S3
                clear HC J S3 P3 T3
                go_wp2_with fail
                go_end0
                exact ⟨rfl, d3, S4.out, permIn_trans _ _ _ _ _ PD.out JJ.out.1, JJ.out.2⟩
            · have J := join ltM_swo H1.out (by have := K.out; omega) (by have := K.out; omega) (by rw [HD1.out]; have := K.out; omega) P2.out T2.out (permIn_refl d2 mid b) (sorted_one s3.out s4.out (by have := K.out; omega))
              have JJ := Lib.hid J
              clear J
              by_cases k4 : mid < en
              · have z5 : (mid : Int) < (en : Int) := by have := K.out; omega
                have z6 : ¬ (en : Int) < (b : Int) := by have := K.out; omega
                go_wp2_with fail
                all_goals go_end0
                all_goals exact ⟨rfl, d2, S2.out, permIn_trans _ _ _ _ _ PD.out JJ.out.1, JJ.out.2⟩
              · have z5 : ¬ (mid : Int) < (en : Int) := by have := K.out; omega
                go_wp2_with fail
                all_goals go_end0
                all_goals exact ⟨rfl, d2, S2.out, permIn_trans _ _ _ _ _ PD.out JJ.out.1, JJ.out.2⟩
          · obtain ⟨d2, hd2e⟩ : ∃ d2, d2 = d1 := ⟨_, rfl⟩
            have S2 := S1
            rw [← hd2e] at S2
            have P2 : Hid (PermIn a mid d1 d2) := by rw [hd2e]; exact permIn_refl _ _ _
            have T2 : Hid (SortedIn ltM a mid d2) := by rw [hd2e]; exact sorted_one H1.out.s1 H1.out.s2 (by have := K.out; omega)
            clear hd2e S1
            by_cases k5 : a < s
            · have z3 : (a : Int) < (s : Int) := by have := K.out; omega
              have z4 : ¬ (s : Int) < (mid : Int) := by have := K.out; omega
              have hd2 : d2.size = N := by rw [P2.out.1]; exact HD1.out
              have s3 := Lib.hid (sorted_same H1.out.s3 (fun i h1 _ => P2.out.2.1 i (.inr h1)))
              have s4 := Lib.hid (sorted_same H1.out.s4 (fun i h1 _ => P2.out.2.1 i (.inr (by have := K.out; omega))))
              have HD2 := Lib.hid hd2
              clear hd2
              by_cases k3 : mid < en ∧ en < b
              · have z5 : (mid : Int) < (en : Int) := by have := K.out; omega
                have z6 : (en : Int) < (b : Int) := by have := K.out; omega
                have hc := HI.out mid en b d2 _ S2.out HD2.out k3.1 k3.2 (show b ≤ N by have := K.out; omega) (show b - mid < b - a by have := K.out; omega) s3.out s4.out
                have HC := Lib.hid hc
                clear hc
                go_wp2_with fail
                all_goals
                  with_reducible refine HC.out.mono ?_
                  rintro e w3 ⟨rfl, d3, S3, P3, T3⟩
                  have J := join ltM_swo H1.out (by have := K.out; omega) (by have := K.out; omega) (by rw [HD1.out]; have := K.out; omega) P2.out T2.out P3 T3
                  have JJ := Lib.hid J
                  have S4 := Lib.hid S3
                  clear HC J S3 P3 T3
                  go_wp2_with fail
                  go_end0
                  exact ⟨rfl, d3, S4.out, permIn_trans _ _ _ _ _ PD.out JJ.out.1, JJ.out.2⟩
              · have J := join ltM_swo H1.out (by have := K.out; omega) (by have := K.out; omega) (by rw [HD1.out]; have := K.out; omega) P2.out T2.out (permIn_refl d2 mid b) (sorted_one s3.out s4.out (by have := K.out; omega))
                have JJ := Lib.hid J
                clear J
                by_cases k4 : mid < en
                · have z5 : (mid : Int) < (en : Int) := by have := K.out; omega
                  have z6 : ¬ (en : Int) < (b : Int) := by have := K.out; omega
                  go_wp2_with fail
                  all_goals go_end0
                  all_goals exact ⟨rfl, d2, S2.out, permIn_trans _ _ _ _ _ PD.out JJ.out.1, JJ.out.2⟩
                · have z5 : ¬ (mid : Int) < (en : Int) := by have := K.out; omega
                  go_wp2_with fail
                  all_goals go_end0
                  all_goals exact ⟨rfl, d2, S2.out, permIn_trans _ _ _ _ _ PD.out JJ.out.1, JJ.out.2⟩
            · have z3 : ¬ (a : Int) < (s : Int) := by have := K.out; omega
              have hd2 : d2.size = N := by rw [P2.out.1]; exact HD1.out
              have s3 := Lib.hid (sorted_same H1.out.s3 (fun i h1 _ => P2.out.2.1 i (.inr h1)))
              have s4 := Lib.hid (sorted_same H1.out.s4 (fun i h1 _ => P2.out.2.1 i (.inr (by have := K.out; omega))))
              have HD2 := Lib.hid hd2
              clear hd2
              by_cases k3 : mid < en ∧ en < b
              · have z5 : (mid : Int) < (en : Int) := by have := K.out; omega
                have z6 : (en : Int) < (b : Int) := by have := K.out; omega
                have hc := HI.out mid en b d2 _ S2.out HD2.out k3.1 k3.2 (show b ≤ N by have := K.out; omega) (show b - mid < b - a by have := K.out; omega) s3.out s4.out
                have HC := Lib.hid hc
                clear hc
                go_wp2_with fail
                all_goals
                  with_reducible refine HC.out.mono ?_
                  rintro e w3 ⟨rfl, d3, S3, P3, T3⟩
                  have J := join ltM_swo H1.out (by have := K.out; omega) (by have := K.out; omega) (by rw [HD1.out]; have := K.out; omega) P2.out T2.out P3 T3
                  have JJ := Lib.hid J
                  have S4 := Lib.hid S3
                  clear HC J S3 P3 T3
                  go_wp2_with fail
                  go_end0
                  exact ⟨rfl, d3, S4.out, permIn_trans _ _ _ _ _ PD.out JJ.out.1, JJ.out.2⟩
              · have J := join ltM_swo H1.out (by have := K.out; omega) (by have := K.out; omega) (by rw [HD1.out]; have := K.out; omega) P2.out T2.out (permIn_refl d2 mid b) (sorted_one s3.out s4.out (by have := K.out; omega))
                have JJ := Lib.hid J
                clear J
                by_cases k4 : mid < en
                · have z5 : (mid : Int) < (en : Int) := by have := K.out; omega
                  have z6 : ¬ (en : Int) < (b : Int) := by have := K.out; omega
                  go_wp2_with fail
                  all_goals go_end0
                  all_goals exact ⟨rfl, d2, S2.out, permIn_trans _ _ _ _ _ PD.out JJ.out.1, JJ.out.2⟩
                · have z5 : ¬ (mid : Int) < (en : Int) := by have := K.out; omega
                  go_wp2_with fail
                  all_goals go_end0
                  all_goals exact ⟨rfl, d2, S2.out, permIn_trans _ _ _ _ _ PD.out JJ.out.1, JJ.out.2⟩
        · have z1 : ¬ (s : Int) < (m : Int) := by have := K.out; omega
          by_cases k2 : a < s ∧ s < mid
          · have z3 : (a : Int) < (s : Int) := by have := K.out; omega
            have z4 : (s : Int) < (mid : Int) := by have := K.out; omega
            have hc := HI.out a s mid d1 _ S1.out HD1.out k2.1 k2.2 (show mid ≤ N by have := K.out; omega) (show mid - a < b - a by have := K.out; omega) H1.out.s1 H1.out.s2
            have HC := Lib.hid hc
            clear hc
            go_wp2_with fail
            with_reducible refine HC.out.mono ?_
            rintro e w2 ⟨rfl, d2, S2, P2, T2⟩
            have S2 := Lib.hid S2
            have P2 := Lib.hid P2
            have T2 := Lib.hid T2
            clear HC S1
            have hd2 : d2.size = N := by rw [P2.out.1]; exact HD1.out
            have s3 := Lib.hid (sorted_same H1.out.s3 (fun i h1 _ => P2.out.2.1 i (.inr h1)))
            have s4 := Lib.hid (sorted_same H1.out.s4 (fun i h1 _ => P2.out.2.1 i (.inr (by have := K.out; omega))))
            have HD2 := Lib.hid hd2
            clear hd2
            by_cases k3 : mid < en ∧ en < b
            · have z5 : (mid : Int) < (en : Int) := by have := K.out; omega
              have z6 : (en : Int) < (b : Int) := by have := K.out; omega
              have hc := HI.out mid en b d2 _ S2.out HD2.out k3.1 k3.2 (show b ≤ N by have := K.out; omega) (show b - mid < b - a by have := K.out; omega) s3.out s4.out
              have HC := Lib.hid hc
              clear hc
              go_wp2_with fail
              all_goals
                with_reducible refine HC.out.mono ?_
                rintro e w3 ⟨rfl, d3, S3, P3, T3⟩
                have J := join ltM_swo H1.out (by have := K.out; omega) (by have := K.out; omega) (by rw [HD1.out]; have := K.out; omega) P2.out T2.out P3 T3
                have JJ := Lib.hid J
                have S4 := Lib.hid S3
                clear HC J S3 P3 T3
                go_wp2_with fail
                go_end0
                exact ⟨rfl, d3, S4.out, permIn_trans _ _ _ _ _ PD.out JJ.out.1, JJ.out.2⟩
            · have J := join ltM_swo H1.out (by have := K.out; omega) (by have := K.out; omega) (by rw [HD1.out]; have := K.out; omega) P2.out T2.out (permIn_refl d2 mid b) (sorted_one s3.out s4.out (by have := K.out; omega))
              have JJ := Lib.hid J
              clear J
              by_cases k4 : mid < en
              · have z5 : (mid : Int) < (en : Int) := by have := K.out; omega
                have z6 : ¬ (en : Int) < (b : Int) := by have := K.out; omega
                go_wp2_with fail
                all_goals go_end0
                all_goals exact ⟨rfl, d2, S2.out, permIn_trans _ _ _ _ _ PD.out JJ.out.1, JJ.out.2⟩
              · have z5 : ¬ (mid : Int) < (en : Int) := by have := K.out; omega
                go_wp2_with fail
                all_goals go_end0
                all_goals exact ⟨rfl, d2, S2.out, permIn_trans _ _ _ _ _ PD.out JJ.out.1, JJ.out.2⟩
          · obtain ⟨d2, hd2e⟩ : ∃ d2, d2 = d1 := ⟨_, rfl⟩
            have S2 := S1
            rw [← hd2e] at S2
            have P2 : Hid (PermIn a mid d1 d2) := by rw [hd2e]; exact permIn_refl _ _ _
            have T2 : Hid (SortedIn ltM a mid d2) := by rw [hd2e]; exact sorted_one H1.out.s1 H1.out.s2 (by have := K.out; omega)
            clear hd2e S1
            by_cases k5 : a < s
            · have z3 : (a : Int) < (s : Int) := by have := K.out; omega
              have z4 : ¬ (s : Int) < (mid : Int) := by have := K.out; omega
              have hd2 : d2.size = N := by rw [P2.out.1]; exact HD1.out
              have s3 := Lib.hid (sorted_same H1.out.s3 (fun i h1 _ => P2.out.2.1 i (.inr h1)))
              have s4 := Lib.hid (sorted_same H1.out.s4 (fun i h1 _ => P2.out.2.1 i (.inr (by have := K.out; omega))))
              have HD2 := Lib.hid hd2
              clear hd2
              by_cases k3 : mid < en ∧ en < b
              · have z5 : (mid : Int) < (en : Int) := by have := K.out; omega
                have z6 : (en : Int) < (b : Int) := by have := K.out; omega
                have hc := HI.out mid en b d2 _ S2.out HD2.out k3.1 k3.2 (show b ≤ N by have := K.out; omega) (show b - mid < b - a by have := K.out; omega) s3.out s4.out
                have HC := Lib.hid hc
                clear hc
                go_wp2_with fail
                all_goals
                  with_reducible refine HC.out.mono ?_
                  rintro e w3 ⟨rfl, d3, S3, P3, T3⟩
                  have J := join ltM_swo H1.out (by have := K.out; omega) (by have := K.out; omega) (by rw [HD1.out]; have := K.out; omega) P2.out T2.out P3 T3
                  have JJ := Lib.hid J
                  have S4 := Lib.hid S3
                  clear HC J S3 P3 T3
                  go_wp2_with fail
                  go_end0
                  exact ⟨rfl, d3, S4.out, permIn_trans _ _ _ _ _ PD.out JJ.out.1, JJ.out.2⟩
              · have J := join ltM_swo H1.out (by have := K.out; omega) (by have := K.out; omega) (by rw [HD1.out]; have := K.out; omega) P2.out T2.out (permIn_refl d2 mid b) (sorted_one s3.out s4.out (by have := K.out; omega))
                have JJ := Lib.hid J
                clear J
                by_cases k4 : mid < en
                · have z5 : (mid : Int) < (en : Int) := by have := K.out; omega
                  have z6 : ¬ (en : Int) < (b : Int) := by have := K.out; omega
                  go_wp2_with fail
                  all_goals go_end0
                  all_goals exact ⟨rfl, d2, S2.out, permIn_trans _ _ _ _ _ PD.out JJ.out.1, JJ.out.2⟩
                · have z5 : ¬ (mid : Int) < (en : Int) := by have := K.out; omega
                  go_wp2_with fail
                  all_goals go_end0
                  all_goals exact ⟨rfl, d2, S2.out, permIn_trans _ _ _ _ _ PD.out JJ.out.1, JJ.out.2⟩
            · have z3 : ¬ (a : Int) < (s : Int) := by have := K.out; omega
              have hd2 : d2.size = N := by rw [P2.out.1]; exact HD1.out
              have s3 := Lib.hid (sorted_same H1.out.s3 (fun i h1 _ => P2.out.2.1 i (.inr h1)))
              have s4 := Lib.hid (sorted_same H1.out.s4 (fun i h1 _ => P2.out.2.1 i (.inr (by have := K.out; omega))))
              have HD2 := Lib.hid hd2
              clear hd2
              by_cases k3 : mid < en ∧ en < b
              · have z5 : (mid : Int) < (en : Int) := by have := K.out; omega
                have z6 : (en : Int) < (b : Int) := by have := K.out; omega
                have hc := HI.out mid en b d2 _ S2.out HD2.out k3.1 k3.2 (show b ≤ N by have := K.out; omega) (show b - mid < b - a by have := K.out; omega) s3.out s4.out
                have HC := Lib.hid hc
                clear hc
                go_wp2_with fail
                all_goals
                  with_reducible refine HC.out.mono ?_
                  rintro e w3 ⟨rfl, d3, S3, P3, T3⟩
                  have J := join ltM_swo H1.out (by have := K.out; omega) (by have := K.out; omega) (by rw [HD1.out]; have := K.out; omega) P2.out T2.out P3 T3
                  have JJ := Lib.hid J
                  have S4 := Lib.hid S3
                  clear HC J S3 P3 T3
                  go_wp2_with fail
                  go_end0
                  exact ⟨rfl, d3, S4.out, permIn_trans _ _ _ _ _ PD.out JJ.out.1, JJ.out.2⟩
              · have J := join ltM_swo H1.out (by have := K.out; omega) (by have := K.out; omega) (by rw [HD1.out]; have := K.out; omega) P2.out T2.out (permIn_refl d2 mid b) (sorted_one s3.out s4.out (by have := K.out; omega))
                have JJ := Lib.hid J
                clear J
                by_cases k4 : mid < en
                · have z5 : (mid : Int) < (en : Int) := by have := K.out; omega
                  have z6 : ¬ (en : Int) < (b : Int) := by have := K.out; omega
                  go_wp2_with fail
                  all_goals go_end0
                  all_goals exact ⟨rfl, d2, S2.out, permIn_trans _ _ _ _ _ PD.out JJ.out.1, JJ.out.2⟩
                · have z5 : ¬ (mid : Int) < (en : Int) := by have := K.out; omega
                  go_wp2_with fail
                  all_goals go_end0
                  all_goals exact ⟨rfl, d2, S2.out, permIn_trans _ _ _ _ _ PD.out JJ.out.1, JJ.out.2⟩
set_option maxHeartbeats 2000000 in
set_option maxRecDepth 20000 in
theorem sym3b_any (cap a m b mid : Nat) (d : Array Ms) (w : World) (R : Row w0 blk off N) (hs : d.size = N) (S : Sw w0 blk off d w) (ham : a + 1 < m) (hmb : m + 1 < b) (hb : b ≤ N) (hsz : N < 4611686018427387904) (hA : SortedIn ltM a m d) (hB : SortedIn ltM m b d)
    (hmid : mid = (a + b) / 2) (hmm : m ≤ mid) (IH : SymIH w0 blk off N cap (b - a)) :
    Calls Tryz.prog 140 #[.slice (some ⟨blk, off, none⟩) N cap, .int .i64 a, .int .i64 m, .int .i64 b, .func (.func 85) #[] #[]] w (SymPost w0 blk off a b d) := by
  have mixed : Tryz.prog.follows .mixedOrders = true := by kernel_rfl
  have S0 := Lib.hid S
  have HA := Lib.hid hA
  have HB := Lib.hid hB
  have HI := Lib.hid IH
  have n0 : ((m : Int) - (a : Int) == 1) = false := beq_eq_false_iff_ne.2 (by omega)
  have n1 : ((b : Int) - (m : Int) == 1) = false := beq_eq_false_iff_ne.2 (by omega)
  have em : ((a : Int) + (b : Int)) / 2 = (mid : Int) := by omega
  obtain ⟨s0, hs0⟩ : ∃ s0, s0 = a := ⟨_, rfl⟩
  obtain ⟨r0, hr0⟩ : ∃ r0, r0 = m := ⟨_, rfl⟩
  obtain ⟨p, hp⟩ : ∃ p, p = mid + m - 1 := ⟨_, rfl⟩
  have ep : (mid : Int) + (m : Int) - 1 = (p : Int) := by omega
  have zm : ¬ (mid : Int) < (m : Int) := by omega
  have g1 : a ≤ s0 := by omega
  have g2 : s0 ≤ r0 := by omega
  have g3 : r0 ≤ m := by omega
  have g4 : m + r0 ≤ p + 1 := by omega
  have g5 : p - s0 < b := by omega
  have g6 : p + 1 = mid + m := by omega
  have g7 : a < mid ∧ mid < b := by omega
  have HE : Hid (∀ s, s0 ≤ s → s ≤ r0 → (s = s0 → s = a ∨ mid + m - s = b) ∧ (s = r0 → s = m ∨ mid + m - s = m) ∧ s ≤ m ∧ m ≤ mid + m - s ∧ mid + m - s ≤ b) := fun s h1 h2 => by omega
  have G : Hid ((a + 1 < m ∧ m + 1 < b ∧ b ≤ N) ∧ a ≤ s0 ∧ s0 ≤ r0 ∧ r0 ≤ m ∧ m + r0 ≤ p + 1 ∧ p - s0 < b ∧ p + 1 = mid + m ∧ a < mid ∧ mid < b) := ⟨⟨ham, hmb, hb⟩, g1, g2, g3, g4, g5, g6, g7⟩
  have r0N : r0 < N := by omega
  clear g1 g3 g4 g5 g6 g7 hmm
  have HR0 := Lib.hid hr0
  have HS0 := Lib.hid hs0
  clear S hA hB IH hmid hp hr0 hs0
  go_enter Tryz.func140, Tryz.ntmps140
  go_wp2_with fail
  go_loopg [20, 21] (r0 - s0) (fun g vi vj wr => ∃ (s r : Nat), vi = .int .i64 s ∧ vj = .int .i64 r ∧ s0 ≤ s ∧ s ≤ r ∧ r ≤ r0 ∧ r - s ≤ g ∧ Hid (Sw w0 blk off d wr) ∧ Hid (Se3 ltM d p s0 r0 s r))
  case atStart => exact ⟨s0, r0, by rw [HS0.out], by rw [HR0.out], Nat.le_refl _, g2, Nat.le_refl _, Nat.le_refl _, S0, Lib.hid ⟨fun c h1 h2 => by omega, fun c h1 h2 => by omega⟩⟩
  case round =>
    clear S0 g2 n0 n1 em zm ep
    obtain ⟨s, r, rfl, rfl, hmi, hij, hjb, hg, S1, E1⟩ := hrel
    obtain ⟨⟨ham, hmb, hb⟩, g1, g2, g3, g4, g5, g6, g7⟩ := G.out
    by_cases hlt : s < r
    · have hltz : (s : Int) < (r : Int) := by omega
      obtain ⟨c, hh⟩ : ∃ c, c = (s + r) / 2 := ⟨_, rfl⟩
      obtain ⟨f, hf⟩ : ∃ f, f = p - c := ⟨_, rfl⟩
      have eh : ((s : Int) + (r : Int)) / 2 = (c : Int) := by omega
      have ef : (p : Int) - (c : Int) = (f : Int) := by omega
      have bh : s ≤ c ∧ c < r := by omega
      have ha0 := S1.out.ld R hs (i := f) (by omega)
      have hh0 := S1.out.ld R hs (i := c) (by omega)
      have hcg := S1.out.cmp d[f]! d[c]!
      have za : (f : Int) < (N : Int) := by omega
      have zh : (c : Int) < (N : Int) := by omega
      have rf : IntKind.i64.wrap (f : Int) = (f : Int) := by rw [IntKind.wrap_i64]; omega
      have a0 := fun n os => (ha0 n os).1
      have a1 := fun n os => (ha0 n os).2
      have b0 := fun n os => (hh0 n os).1
      have b1 := fun n os => (hh0 n os).2
      clear ha0 hh0 hh
      generalize hxa : d[f]! = xa at a0 a1 hcg
      generalize hxh : d[c]! = xh at b0 b1 hcg
      have HX := Lib.hid (And.intro hxa hxh)
      have HF := Lib.hid hf
      have hf2 : p - c < b ∧ m ≤ p - c := by omega
      have HS2 := Lib.hid (show s ≤ c ∧ c < r ∧ r ≤ r0 ∧ r - s ≤ gk ∧ s0 ≤ s from by omega)
      have E2u := Lib.hid (fun (hl : ltM d[p - c]! d[c]! = false) => Se3.up ltM_swo E1.out HA.out HB.out (c := c) g1 (by omega) hf2.2 g5 hl)
      have E2d := Lib.hid (fun (hl : ltM d[p - c]! d[c]! = true) => Se3.down ltM_swo E1.out HA.out HB.out (c := c) (by omega) g3 g4 hf2.1 hl)
      have rc : IntKind.i64.wrap ((c : Int) + 1) = (c : Int) + 1 := by rw [IntKind.wrap_i64]; omega
      clear hxa hxh hs hf ham hmb hb g1 g2 g3 g4 g5 g6 g7 hf2 bh r0N hij hjb hg hmi hlt E1 HE HI R
      by_cases hl : cmpM xa xh < 0
      · have E2 := Lib.hid (E2d.out (by rw [← HF.out, HX.out.1, HX.out.2]; exact decide_eq_true hl))
        clear E2u E2d
        go_wp2_with fail
        go_quiet_grown (refine Calls.grown_of (hcg _ _))
        go_wp2_with fail
        go_roundg (c - s)
        case measure => have := HS2.out; omega
        case rel => exact ⟨s, c, rfl, rfl, by have := HS2.out; omega, by have := HS2.out; omega, by have := HS2.out; omega, Nat.le_refl _, Lib.hid (S1.out.grown nq osq), E2⟩
      · have E2 := Lib.hid (E2u.out (by rw [← HF.out, HX.out.1, HX.out.2]; exact decide_eq_false hl))
        clear E2u E2d
        go_wp2_with fail
        go_quiet_grown (refine Calls.grown_of (hcg _ _))
        go_wp2_with fail
        all_goals first | (exfalso; rename_i hx; rw [decide_eq_false (show ¬ cmpM xa xh < 0 by omega)] at hx; cases hx; done) | skip
        go_roundg (r - (c + 1))
        case measure => have := HS2.out; omega
        case rel => exact ⟨c + 1, r, by go_num, rfl, by have := HS2.out; omega, by have := HS2.out; omega, by have := HS2.out; omega, Nat.le_refl _, Lib.hid (S1.out.grown nq osq), E2⟩
    · have e : s = r := by omega
      subst e
      obtain ⟨q1, q2, q3, q4, q5⟩ := HE.out s hmi hjb
      obtain ⟨en, hen⟩ : ∃ en, en = mid + m - s := ⟨_, rfl⟩
      rw [← hen] at q1 q2 q4 q5
      have een : (mid : Int) + (m : Int) - (s : Int) = (en : Int) := by omega
      have hse : s + en = mid + m := by omega
      have HH := Lib.hid (fun (d1 : Array Ms) (h : ∀ t, d1[t]! = rotA d s m en t) => halves ltM_swo HA.out HB.out (show a ≤ s by omega) q3 q4 q5 hse
        (by
          by_cases k : s = s0
          · rcases q1 k with k | k
            · exact .inl k
            · exact .inr (.inl k)
          · have := E1.out.1 (s - 1) (by omega) (by omega)
            rw [show p - (s - 1) = en by omega] at this
            exact .inr (.inr this))
        (by
          by_cases k : s = r0
          · rcases q2 k with k | k
            · exact .inl k
            · exact .inr (.inl k)
          · have := E1.out.2 s (by omega) (by omega)
            rw [show p - s = en - 1 by omega] at this
            exact .inr (.inr this)) h)
      have K : Hid (a ≤ s ∧ s ≤ m ∧ m ≤ en ∧ en ≤ b ∧ s + en = mid + m ∧ a < mid ∧ mid < b ∧ b ≤ N ∧ a + 1 < m ∧ m + 1 < b) := ⟨by omega, q3, q4, q5, hse, g7.1, g7.2, hb, ham, hmb⟩
      have zen : en < 4611686018427387904 := by omega
      clear hlt E1 HE q1 q2 hen hg hij hse q3 q4 q5 hmi hjb ham hmb hb g1 g2 g3 g4 g5 g6 g7 r0N HR0 HS0 G HA HB
      by_cases k1 : s < m ∧ m < en
      · have z1 : (s : Int) < (m : Int) := by have := K.out; omega
        have z2 : (m : Int) < (en : Int) := by have := K.out; omega
        have hc := rotate_any (blk := blk) cap s m en d _ R hs S1.out k1.1 k1.2 (by have := K.out; omega) hsz
        have HC := Lib.hid hc
        have HS := Lib.hid hs
        clear hc hs
        go_wp2_with fail
        with_reducible refine HC.out.mono ?_
        rintro e w1 ⟨rfl, d1, S2, PX, V1⟩
        have H1 := Lib.hid (HH.out d1 V1)
        have PD := Lib.hid (permIn_mono d d1 s en a b K.out.1 (by have := K.out; omega) (by rw [HS.out]; have := K.out; omega) PX)
        have HD1 : Hid (d1.size = N) := PX.1.trans HS.out
        clear S1 HC PX V1 HH HS
        have S1 := Lib.hid S2
        clear S2
        by_cases k2 : a < s ∧ s < mid
        · have z3 : (a : Int) < (s : Int) := by have := K.out; omega
          have z4 : (s : Int) < (mid : Int) := by have := K.out; omega
          have hc := HI.out a s mid d1 _ S1.out HD1.out k2.1 k2.2 (show mid ≤ N by have := K.out; omega) (show mid - a < b - a by have := K.out; omega) H1.out.s1 H1.out.s2
          have HC := Lib.hid hc
          clear hc
          go_wp2_with fail
          with_reducible refine HC.out.mono ?_
          rintro e w2 ⟨rfl, d2, S2, P2, T2⟩
          have S2 := Lib.hid S2
          have P2 := Lib.hid P2
          have T2 := Lib.hid T2
          clear HC S1
          have hd2 : d2.size = N := by rw [P2.out.1]; exact HD1.out
          have s3 := Lib.hid (sorted_same H1.out.s3 (fun i h1 _ => P2.out.2.1 i (.inr h1)))
          have s4 := Lib.hid (sorted_same H1.out.s4 (fun i h1 _ => P2.out.2.1 i (.inr (by have := K.out; omega))))
          have HD2 := Lib.hid hd2
          clear hd2
          by_cases k3 : mid < en ∧ en < b
          · have z5 : (mid : Int) < (en : Int) := by have := K.out; omega
            have z6 : (en : Int) < (b : Int) := by have := K.out; omega
            have hc := HI.out mid en b d2 _ S2.out HD2.out k3.1 k3.2 (show b ≤ N by have := K.out; omega) (show b - mid < b - a by have := K.out; omega) s3.out s4.out
            have HC := Lib.hid hc
            clear hc
            go_wp2_with fail
            all_goals
              with_reducible refine HC.out.mono ?_
              rintro e w3 ⟨rfl, d3, S3, P3, T3⟩
              have J := join ltM_swo H1.out (by have := K.out; omega) (by have := K.out; omega) (by rw [HD1.out]; have := K.out; omega) P2.out T2.out P3 T3
              have JJ := Lib.hid J
              have S4 := Lib.hid S3
              clear HC J S3 P3 T3
              go_wp2_with fail
              go_end0
              exact ⟨rfl, d3, S4.out, permIn_trans _ _ _ _ _ PD.out JJ.out.1, JJ.out.2⟩
          · have J := join ltM_swo H1.out (by have := K.out; omega) (by have := K.out; omega) (by rw [HD1.out]; have := K.out; omega) P2.out T2.out (permIn_refl d2 mid b) (sorted_one s3.out s4.out (by have := K.out; omega))
            have JJ := Lib.hid J
            clear J
            by_cases k4 : mid < en
            · have z5 : (mid : Int) < (en : Int) := by have := K.out; omega
              have z6 : ¬ (en : Int) < (b : Int) := by have := K.out; omega
              go_wp2_with fail
              all_goals go_end0
              all_goals exact ⟨rfl, d2, S2.out, permIn_trans _ _ _ _ _ PD.out JJ.out.1, JJ.out.2⟩
            · have z5 : ¬ (mid : Int) < (en : Int) := by have := K.out; omega
              go_wp2_with fail
              all_goals go_end0
              all_goals exact ⟨rfl, d2, S2.out, permIn_trans _ _ _ _ _ PD.out JJ.out.1, JJ.out.2⟩
        · obtain ⟨d2, hd2e⟩ : ∃ d2, d2 = d1 := ⟨_, rfl⟩
          have S2 := S1
          rw [← hd2e] at S2
          have P2 : Hid (PermIn a mid d1 d2) := by rw [hd2e]; exact permIn_refl _ _ _
          have T2 : Hid (SortedIn ltM a mid d2) := by rw [hd2e]; exact sorted_one H1.out.s1 H1.out.s2 (by have := K.out; omega)
          clear hd2e S1
          by_cases k5 : a < s
          · have z3 : (a : Int) < (s : Int) := by have := K.out; omega
            have z4 : ¬ (s : Int) < (mid : Int) := by have := K.out; omega
            have hd2 : d2.size = N := by rw [P2.out.1]; exact HD1.out
            have s3 := Lib.hid (sorted_same H1.out.s3 (fun i h1 _ => P2.out.2.1 i (.inr h1)))
            have s4 := Lib.hid (sorted_same H1.out.s4 (fun i h1 _ => P2.out.2.1 i (.inr (by have := K.out; omega))))
            have HD2 := Lib.hid hd2
            clear hd2
            by_cases k3 : mid < en ∧ en < b
            · have z5 : (mid : Int) < (en : Int) := by have := K.out; omega
              have z6 : (en : Int) < (b : Int) := by have := K.out; omega
              have hc := HI.out mid en b d2 _ S2.out HD2.out k3.1 k3.2 (show b ≤ N by have := K.out; omega) (show b - mid < b - a by have := K.out; omega) s3.out s4.out
              have HC := Lib.hid hc
              clear hc
              go_wp2_with fail
              all_goals
                with_reducible refine HC.out.mono ?_
                rintro e w3 ⟨rfl, d3, S3, P3, T3⟩
                have J := join ltM_swo H1.out (by have := K.out; omega) (by have := K.out; omega) (by rw [HD1.out]; have := K.out; omega) P2.out T2.out P3 T3
                have JJ := Lib.hid J
                have S4 := Lib.hid S3
                clear HC J S3 P3 T3
                go_wp2_with fail
                go_end0
                exact ⟨rfl, d3, S4.out, permIn_trans _ _ _ _ _ PD.out JJ.out.1, JJ.out.2⟩
            · have J := join ltM_swo H1.out (by have := K.out; omega) (by have := K.out; omega) (by rw [HD1.out]; have := K.out; omega) P2.out T2.out (permIn_refl d2 mid b) (sorted_one s3.out s4.out (by have := K.out; omega))
              have JJ := Lib.hid J
              clear J
              by_cases k4 : mid < en
              · have z5 : (mid : Int) < (en : Int) := by have := K.out; omega
                have z6 : ¬ (en : Int) < (b : Int) := by have := K.out; omega
                go_wp2_with fail
                all_goals go_end0
                all_goals exact ⟨rfl, d2, S2.out, permIn_trans _ _ _ _ _ PD.out JJ.out.1, JJ.out.2⟩
              · have z5 : ¬ (mid : Int) < (en : Int) := by have := K.out; omega
                go_wp2_with fail
                all_goals go_end0
                all_goals exact ⟨rfl, d2, S2.out, permIn_trans _ _ _ _ _ PD.out JJ.out.1, JJ.out.2⟩
          · have z3 : ¬ (a : Int) < (s : Int) := by have := K.out; omega
            have hd2 : d2.size = N := by rw [P2.out.1]; exact HD1.out
            have s3 := Lib.hid (sorted_same H1.out.s3 (fun i h1 _ => P2.out.2.1 i (.inr h1)))
            have s4 := Lib.hid (sorted_same H1.out.s4 (fun i h1 _ => P2.out.2.1 i (.inr (by have := K.out; omega))))
            have HD2 := Lib.hid hd2
            clear hd2
            by_cases k3 : mid < en ∧ en < b
            · have z5 : (mid : Int) < (en : Int) := by have := K.out; omega
              have z6 : (en : Int) < (b : Int) := by have := K.out; omega
              have hc := HI.out mid en b d2 _ S2.out HD2.out k3.1 k3.2 (show b ≤ N by have := K.out; omega) (show b - mid < b - a by have := K.out; omega) s3.out s4.out
              have HC := Lib.hid hc
              clear hc
              go_wp2_with fail
              all_goals
                with_reducible refine HC.out.mono ?_
                rintro e w3 ⟨rfl, d3, S3, P3, T3⟩
                have J := join ltM_swo H1.out (by have := K.out; omega) (by have := K.out; omega) (by rw [HD1.out]; have := K.out; omega) P2.out T2.out P3 T3
                have JJ := Lib.hid J
                have S4 := Lib.hid S3
                clear HC J S3 P3 T3
                go_wp2_with fail
                go_end0
                exact ⟨rfl, d3, S4.out, permIn_trans _ _ _ _ _ PD.out JJ.out.1, JJ.out.2⟩
            · have J := join ltM_swo H1.out (by have := K.out; omega) (by have := K.out; omega) (by rw [HD1.out]; have := K.out; omega) P2.out T2.out (permIn_refl d2 mid b) (sorted_one s3.out s4.out (by have := K.out; omega))
              have JJ := Lib.hid J
              clear J
              by_cases k4 : mid < en
              · have z5 : (mid : Int) < (en : Int) := by have := K.out; omega
                have z6 : ¬ (en : Int) < (b : Int) := by have := K.out; omega
                go_wp2_with fail
                all_goals go_end0
                all_goals exact ⟨rfl, d2, S2.out, permIn_trans _ _ _ _ _ PD.out JJ.out.1, JJ.out.2⟩
              · have z5 : ¬ (mid : Int) < (en : Int) := by have := K.out; omega
                go_wp2_with fail
                all_goals go_end0
                all_goals exact ⟨rfl, d2, S2.out, permIn_trans _ _ _ _ _ PD.out JJ.out.1, JJ.out.2⟩
      · have H1 := Lib.hid (HH.out d (fun t => (rotA_trivial d s m en K.out.2.1 K.out.2.2.1 (by have := K.out; omega) t).symm))
        have PD : Hid (PermIn a b d d) := permIn_refl _ _ _
        clear HH
        obtain ⟨d1, hd1e⟩ : ∃ d1, d1 = d := ⟨_, rfl⟩
        rw [← hd1e] at H1 S1
        have HD1 : Hid (d1.size = N) := by rw [hd1e]; exact hs
        have PD : Hid (PermIn a b d d1) := by rw [hd1e]; exact permIn_refl _ _ _
        clear hd1e hs
        by_cases k6 : s < m
        · have z1 : (s : Int) < (m : Int) := by have := K.out; omega
          have z2 : ¬ (m : Int) < (en : Int) := by have := K.out; omega
          by_cases k2 : a < s ∧ s < mid
          · have z3 : (a : Int) < (s : Int) := by have := K.out; omega
            have z4 : (s : Int) < (mid : Int) := by have := K.out; omega
            have hc := HI.out a s mid d1 _ S1.out HD1.out k2.1 k2.2 (show mid ≤ N by have := K.out; omega) (show mid - a < b - a by have := K.out; omega) H1.out.s1 H1.out.s2
            have HC := Lib.hid hc
            clear hc
            go_wp2_with fail
            with_reducible refine HC.out.mono ?_
            rintro e w2 ⟨rfl, d2, S2, P2, T2⟩
            have S2 := Lib.hid S2
            have P2 := Lib.hid P2
            have T2 := Lib.hid T2
            clear HC S1
            have hd2 : d2.size = N := by rw [P2.out.1]; exact HD1.out
            have s3 := Lib.hid (sorted_same H1.out.s3 (fun i h1 _ => P2.out.2.1 i (.inr h1)))
            have s4 := Lib.hid (sorted_same H1.out.s4 (fun i h1 _ => P2.out.2.1 i (.inr (by have := K.out; omega))))
            have HD2 := Lib.hid hd2
            clear hd2
            by_cases k3 : mid < en ∧ en < b
            · have z5 : (mid : Int) < (en : Int) := by have := K.out; omega
              have z6 : (en : Int) < (b : Int) := by have := K.out; omega
              have hc := HI.out mid en b d2 _ S2.out HD2.out k3.1 k3.2 (show b ≤ N by have := K.out; omega) (show b - mid < b - a by have := K.out; omega) s3.out s4.out
              have HC := Lib.hid hc
              clear hc
              go_wp2_with fail
              all_goals
                with_reducible refine HC.out.mono ?_
                rintro e w3 ⟨rfl, d3, S3, P3, T3⟩
                have J := join ltM_swo H1.out (by have := K.out; omega) (by have := K.out; omega) (by rw [HD1.out]; have := K.out; omega) P2.out T2.out P3 T3
                have JJ := Lib.hid J
                have S4 := Lib.hid S3
                clear HC J S3 P3 T3
                go_wp2_with fail
                go_end0
                exact ⟨rfl, d3, S4.out, permIn_trans _ _ _ _ _ PD.out JJ.out.1, JJ.out.2⟩
            · have J := join ltM_swo H1.out (by have := K.out; omega) (by have := K.out; omega) (by rw [HD1.out]; have := K.out; omega) P2.out T2.out (permIn_refl d2 mid b) (sorted_one s3.out s4.out (by have := K.out; omega))
              have JJ := Lib.hid J
              clear J
              by_cases k4 : mid < en
              · have z5 : (mid : Int) < (en : Int) := by have := K.out; omega
                have z6 : ¬ (en : Int) < (b : Int) := by have := K.out; omega
                go_wp2_with fail
                all_goals go_end0
                all_goals exact ⟨rfl, d2, S2.out, permIn_trans _ _ _ _ _ PD.out JJ.out.1, JJ.out.2⟩
              · have z5 : ¬ (mid : Int) < (en : Int) := by have := K.out; omega
                go_wp2_with fail
                all_goals go_end0
                all_goals exact ⟨rfl, d2, S2.out, permIn_trans _ _ _ _ _ PD.out JJ.out.1, JJ.out.2⟩
          · obtain ⟨d2, hd2e⟩ : ∃ d2, d2 = d1 := ⟨_, rfl⟩
            have S2 := S1
            rw [← hd2e] at S2
            have P2 : Hid (PermIn a mid d1 d2) := by rw [hd2e]; exact permIn_refl _ _ _
            have T2 : Hid (SortedIn ltM a mid d2) := by rw [hd2e]; exact sorted_one H1.out.s1 H1.out.s2 (by have := K.out; omega)
            clear hd2e S1
            by_cases k5 : a < s
            · have z3 : (a : Int) < (s : Int) := by have := K.out; omega
              have z4 : ¬ (s : Int) < (mid : Int) := by have := K.out; omega
              have hd2 : d2.size = N := by rw [P2.out.1]; exact HD1.out
              have s3 := Lib.hid (sorted_same H1.out.s3 (fun i h1 _ => P2.out.2.1 i (.inr h1)))
              have s4 := Lib.hid (sorted_same H1.out.s4 (fun i h1 _ => P2.out.2.1 i (.inr (by have := K.out; omega))))
              have HD2 := Lib.hid hd2
              clear hd2
              by_cases k3 : mid < en ∧ en < b
              · have z5 : (mid : Int) < (en : Int) := by have := K.out; omega
                have z6 : (en : Int) < (b : Int) := by have := K.out; omega
                have hc := HI.out mid en b d2 _ S2.out HD2.out k3.1 k3.2 (show b ≤ N by have := K.out; omega) (show b - mid < b - a by have := K.out; omega) s3.out s4.out
                have HC := Lib.hid hc
                clear hc
                go_wp2_with fail
                all_goals
                  with_reducible refine HC.out.mono ?_
                  rintro e w3 ⟨rfl, d3, S3, P3, T3⟩
                  have J := join ltM_swo H1.out (by have := K.out; omega) (by have := K.out; omega) (by rw [HD1.out]; have := K.out; omega) P2.out T2.out P3 T3
                  have JJ := Lib.hid J
                  have S4 := Lib.hid S3
                  clear HC J S3 P3 T3
                  go_wp2_with fail
                  go_end0
                  exact ⟨rfl, d3, S4.out, permIn_trans _ _ _ _ _ PD.out JJ.out.1, JJ.out.2⟩
              · have J := join ltM_swo H1.out (by have := K.out; omega) (by have := K.out; omega) (by rw [HD1.out]; have := K.out; omega) P2.out T2.out (permIn_refl d2 mid b) (sorted_one s3.out s4.out (by have := K.out; omega))
                have JJ := Lib.hid J
                clear J
                by_cases k4 : mid < en
                · have z5 : (mid : Int) < (en : Int) := by have := K.out; omega
                  have z6 : ¬ (en : Int) < (b : Int) := by have := K.out; omega
                  go_wp2_with fail
                  all_goals go_end0
                  all_goals exact ⟨rfl, d2, S2.out, permIn_trans _ _ _ _ _ PD.out JJ.out.1, JJ.out.2⟩
                · have z5 : ¬ (mid : Int) < (en : Int) := by have := K.out; omega
                  go_wp2_with fail
                  all_goals go_end0
                  all_goals exact ⟨rfl, d2, S2.out, permIn_trans _ _ _ _ _ PD.out JJ.out.1, JJ.out.2⟩
            · have z3 : ¬ (a : Int) < (s : Int) := by have := K.out; omega
              have hd2 : d2.size = N := by rw [P2.out.1]; exact HD1.out
              have s3 := Lib.hid (sorted_same H1.out.s3 (fun i h1 _ => P2.out.2.1 i (.inr h1)))
              have s4 := Lib.hid (sorted_same H1.out.s4 (fun i h1 _ => P2.out.2.1 i (.inr (by have := K.out; omega))))
              have HD2 := Lib.hid hd2
              clear hd2
              by_cases k3 : mid < en ∧ en < b
              · have z5 : (mid : Int) < (en : Int) := by have := K.out; omega
                have z6 : (en : Int) < (b : Int) := by have := K.out; omega
                have hc := HI.out mid en b d2 _ S2.out HD2.out k3.1 k3.2 (show b ≤ N by have := K.out; omega) (show b - mid < b - a by have := K.out; omega) s3.out s4.out
                have HC := Lib.hid hc
                clear hc
                go_wp2_with fail
                all_goals
                  with_reducible refine HC.out.mono ?_
                  rintro e w3 ⟨rfl, d3, S3, P3, T3⟩
                  have J := join ltM_swo H1.out (by have := K.out; omega) (by have := K.out; omega) (by rw [HD1.out]; have := K.out; omega) P2.out T2.out P3 T3
                  have JJ := Lib.hid J
                  have S4 := Lib.hid S3
                  clear HC J S3 P3 T3
                  go_wp2_with fail
                  go_end0
                  exact ⟨rfl, d3, S4.out, permIn_trans _ _ _ _ _ PD.out JJ.out.1, JJ.out.2⟩
              · have J := join ltM_swo H1.out (by have := K.out; omega) (by have := K.out; omega) (by rw [HD1.out]; have := K.out; omega) P2.out T2.out (permIn_refl d2 mid b) (sorted_one s3.out s4.out (by have := K.out; omega))
                have JJ := Lib.hid J
                clear J
                by_cases k4 : mid < en
                · have z5 : (mid : Int) < (en : Int) := by have := K.out; omega
                  have z6 : ¬ (en : Int) < (b : Int) := by have := K.out; omega
                  go_wp2_with fail
                  all_goals go_end0
                  all_goals exact ⟨rfl, d2, S2.out, permIn_trans _ _ _ _ _ PD.out JJ.out.1, JJ.out.2⟩
                · have z5 : ¬ (mid : Int) < (en : Int) := by have := K.out; omega
                  go_wp2_with fail
                  all_goals go_end0
                  all_goals exact ⟨rfl, d2, S2.out, permIn_trans _ _ _ _ _ PD.out JJ.out.1, JJ.out.2⟩
        · have z1 : ¬ (s : Int) < (m : Int) := by have := K.out; omega
          by_cases k2 : a < s ∧ s < mid
          · have z3 : (a : Int) < (s : Int) := by have := K.out; omega
            have z4 : (s : Int) < (mid : Int) := by have := K.out; omega
            have hc := HI.out a s mid d1 _ S1.out HD1.out k2.1 k2.2 (show mid ≤ N by have := K.out; omega) (show mid - a < b - a by have := K.out; omega) H1.out.s1 H1.out.s2
            have HC := Lib.hid hc
            clear hc
            go_wp2_with fail
            with_reducible refine HC.out.mono ?_
            rintro e w2 ⟨rfl, d2, S2, P2, T2⟩
            have S2 := Lib.hid S2
            have P2 := Lib.hid P2
            have T2 := Lib.hid T2
            clear HC S1
            have hd2 : d2.size = N := by rw [P2.out.1]; exact HD1.out
            have s3 := Lib.hid (sorted_same H1.out.s3 (fun i h1 _ => P2.out.2.1 i (.inr h1)))
            have s4 := Lib.hid (sorted_same H1.out.s4 (fun i h1 _ => P2.out.2.1 i (.inr (by have := K.out; omega))))
            have HD2 := Lib.hid hd2
            clear hd2
            by_cases k3 : mid < en ∧ en < b
            · have z5 : (mid : Int) < (en : Int) := by have := K.out; omega
              have z6 : (en : Int) < (b : Int) := by have := K.out; omega
              have hc := HI.out mid en b d2 _ S2.out HD2.out k3.1 k3.2 (show b ≤ N by have := K.out; omega) (show b - mid < b - a by have := K.out; omega) s3.out s4.out
              have HC := Lib.hid hc
              clear hc
              go_wp2_with fail
              all_goals
                with_reducible refine HC.out.mono ?_
                rintro e w3 ⟨rfl, d3, S3, P3, T3⟩
                have J := join ltM_swo H1.out (by have := K.out; omega) (by have := K.out; omega) (by rw [HD1.out]; have := K.out; omega) P2.out T2.out P3 T3
                have JJ := Lib.hid J
                have S4 := Lib.hid S3
                clear HC J S3 P3 T3
                go_wp2_with fail
                go_end0
                exact ⟨rfl, d3, S4.out, permIn_trans _ _ _ _ _ PD.out JJ.out.1, JJ.out.2⟩
            · have J := join ltM_swo H1.out (by have := K.out; omega) (by have := K.out; omega) (by rw [HD1.out]; have := K.out; omega) P2.out T2.out (permIn_refl d2 mid b) (sorted_one s3.out s4.out (by have := K.out; omega))
              have JJ := Lib.hid J
              clear J
              by_cases k4 : mid < en
              · have z5 : (mid : Int) < (en : Int) := by have := K.out; omega
                have z6 : ¬ (en : Int) < (b : Int) := by have := K.out; omega
                go_wp2_with fail
                all_goals go_end0
                all_goals exact ⟨rfl, d2, S2.out, permIn_trans _ _ _ _ _ PD.out JJ.out.1, JJ.out.2⟩
              · have z5 : ¬ (mid : Int) < (en : Int) := by have := K.out; omega
                go_wp2_with fail
                all_goals go_end0
                all_goals exact ⟨rfl, d2, S2.out, permIn_trans _ _ _ _ _ PD.out JJ.out.1, JJ.out.2⟩
          · obtain ⟨d2, hd2e⟩ : ∃ d2, d2 = d1 := ⟨_, rfl⟩
            have S2 := S1
            rw [← hd2e] at S2
            have P2 : Hid (PermIn a mid d1 d2) := by rw [hd2e]; exact permIn_refl _ _ _
            have T2 : Hid (SortedIn ltM a mid d2) := by rw [hd2e]; exact sorted_one H1.out.s1 H1.out.s2 (by have := K.out; omega)
            clear hd2e S1
            by_cases k5 : a < s
            · have z3 : (a : Int) < (s : Int) := by have := K.out; omega
              have z4 : ¬ (s : Int) < (mid : Int) := by have := K.out; omega
              have hd2 : d2.size = N := by rw [P2.out.1]; exact HD1.out
              have s3 := Lib.hid (sorted_same H1.out.s3 (fun i h1 _ => P2.out.2.1 i (.inr h1)))
              have s4 := Lib.hid (sorted_same H1.out.s4 (fun i h1 _ => P2.out.2.1 i (.inr (by have := K.out; omega))))
              have HD2 := Lib.hid hd2
              clear hd2
              by_cases k3 : mid < en ∧ en < b
              · have z5 : (mid : Int) < (en : Int) := by have := K.out; omega
                have z6 : (en : Int) < (b : Int) := by have := K.out; omega
                have hc := HI.out mid en b d2 _ S2.out HD2.out k3.1 k3.2 (show b ≤ N by have := K.out; omega) (show b - mid < b - a by have := K.out; omega) s3.out s4.out
                have HC := Lib.hid hc
                clear hc
                go_wp2_with fail
                all_goals
                  with_reducible refine HC.out.mono ?_
                  rintro e w3 ⟨rfl, d3, S3, P3, T3⟩
                  have J := join ltM_swo H1.out (by have := K.out; omega) (by have := K.out; omega) (by rw [HD1.out]; have := K.out; omega) P2.out T2.out P3 T3
                  have JJ := Lib.hid J
                  have S4 := Lib.hid S3
                  clear HC J S3 P3 T3
                  go_wp2_with fail
                  go_end0
                  exact ⟨rfl, d3, S4.out, permIn_trans _ _ _ _ _ PD.out JJ.out.1, JJ.out.2⟩
              · have J := join ltM_swo H1.out (by have := K.out; omega) (by have := K.out; omega) (by rw [HD1.out]; have := K.out; omega) P2.out T2.out (permIn_refl d2 mid b) (sorted_one s3.out s4.out (by have := K.out; omega))
                have JJ := Lib.hid J
                clear J
                by_cases k4 : mid < en
                · have z5 : (mid : Int) < (en : Int) := by have := K.out; omega
                  have z6 : ¬ (en : Int) < (b : Int) := by have := K.out; omega
                  go_wp2_with fail
                  all_goals go_end0
                  all_goals exact ⟨rfl, d2, S2.out, permIn_trans _ _ _ _ _ PD.out JJ.out.1, JJ.out.2⟩
                · have z5 : ¬ (mid : Int) < (en : Int) := by have := K.out; omega
                  go_wp2_with fail
                  all_goals go_end0
                  all_goals exact ⟨rfl, d2, S2.out, permIn_trans _ _ _ _ _ PD.out JJ.out.1, JJ.out.2⟩
            · have z3 : ¬ (a : Int) < (s : Int) := by have := K.out; omega
              have hd2 : d2.size = N := by rw [P2.out.1]; exact HD1.out
              have s3 := Lib.hid (sorted_same H1.out.s3 (fun i h1 _ => P2.out.2.1 i (.inr h1)))
              have s4 := Lib.hid (sorted_same H1.out.s4 (fun i h1 _ => P2.out.2.1 i (.inr (by have := K.out; omega))))
              have HD2 := Lib.hid hd2
              clear hd2
              by_cases k3 : mid < en ∧ en < b
              · have z5 : (mid : Int) < (en : Int) := by have := K.out; omega
                have z6 : (en : Int) < (b : Int) := by have := K.out; omega
                have hc := HI.out mid en b d2 _ S2.out HD2.out k3.1 k3.2 (show b ≤ N by have := K.out; omega) (show b - mid < b - a by have := K.out; omega) s3.out s4.out
                have HC := Lib.hid hc
                clear hc
                go_wp2_with fail
                all_goals
                  with_reducible refine HC.out.mono ?_
                  rintro e w3 ⟨rfl, d3, S3, P3, T3⟩
                  have J := join ltM_swo H1.out (by have := K.out; omega) (by have := K.out; omega) (by rw [HD1.out]; have := K.out; omega) P2.out T2.out P3 T3
                  have JJ := Lib.hid J
                  have S4 := Lib.hid S3
                  clear HC J S3 P3 T3
                  go_wp2_with fail
                  go_end0
                  exact ⟨rfl, d3, S4.out, permIn_trans _ _ _ _ _ PD.out JJ.out.1, JJ.out.2⟩
              · have J := join ltM_swo H1.out (by have := K.out; omega) (by have := K.out; omega) (by rw [HD1.out]; have := K.out; omega) P2.out T2.out (permIn_refl d2 mid b) (sorted_one s3.out s4.out (by have := K.out; omega))
                have JJ := Lib.hid J
                clear J
                by_cases k4 : mid < en
                · have z5 : (mid : Int) < (en : Int) := by have := K.out; omega
                  have z6 : ¬ (en : Int) < (b : Int) := by have := K.out; omega
                  go_wp2_with fail
                  all_goals go_end0
                  all_goals exact ⟨rfl, d2, S2.out, permIn_trans _ _ _ _ _ PD.out JJ.out.1, JJ.out.2⟩
                · have z5 : ¬ (mid : Int) < (en : Int) := by have := K.out; omega
                  go_wp2_with fail
                  all_goals go_end0
                  all_goals exact ⟨rfl, d2, S2.out, permIn_trans _ _ _ _ _ PD.out JJ.out.1, JJ.out.2⟩
end Go.Proofs.YtpgdddjjjfkneaaGreatDoor


