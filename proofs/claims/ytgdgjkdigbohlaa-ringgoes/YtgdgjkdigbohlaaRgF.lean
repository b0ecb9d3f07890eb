import Derived.Test.YtgdgjkdigbohlaaRgE
/-
  The contracts of the document's own Owner and Owners. No condition but that the lists have at most a hundred numbers.
-/
namespace Go.Proofs.Ytgdgjkdigbohlaa
open Go.ChangeShapes Go.WideShapes Go.ChangeAt Go.RowKit
set_option linter.unusedVariables false

def RoRel (ms : List Int) (key : Int) (w : World) (b l i : Value) (W : World) : Prop := ∃ (k : Nat) (r : Sp), i = .int .i64 k ∧ k ≤ ms.length ∧ b = .int .i64 r.1 ∧ l = .int .u32 r.2 ∧ Hid (r = refL key (spL (ms.take k))) ∧ Below w.heap.size w W
def RiRel2 (X : List Sp) (v key : Int) (w : World) (b l i : Value) (W : World) : Prop := ∃ (j : Nat) (r : Sp), i = .int .i64 j ∧ j ≤ 8 ∧ b = .int .i64 r.1 ∧ l = .int .u32 r.2 ∧ Hid (r = refL key (X ++ sp1 v j)) ∧ Below w.heap.size w W
set_option maxHeartbeats 2000000 in
theorem rowner_any (A : Option Addr) (c : Nat) (ms : List Int) (p : Int) (w : World) (hA : Lies w w.heap.size 1 A ms.length (vc ms)) (hn : ms.length ≤ 1000000) :
    Calls Try.prog 22 #[.slice A ms.length c, .int .i64 p] w fun e w' => e = .returned (.int .i64 (rownI ms p)) ∧ Below w.heap.size w w' := by
  have HA := Lib.hid hA
  have HK := Lib.hid (keyI_bd p)
  have HR := Lib.hid (show rownI ms p = (refL (keyI p) (spL ms)).1 from rfl)
  have CK := Lib.hid (fun (W : World) (q : Nat) => quiet_left (n := q) (rkey_any p (W.drewN q)))
  obtain ⟨key, hkey⟩ : ∃ key, key = keyI p := ⟨_, rfl⟩
  rw [← hkey] at HK HR CK
  clear hA hkey
  go_enter Try.func22, Try.ntmps22
  go_wp2_with fail
  go_loopw [5, 6, 7] (fun b l i W => RoRel ms key w b l i W) (fun b l i W => ms.length - (intOf i).toNat)
  case atStart => exact ⟨0, (0, 0), rfl, Nat.zero_le _, rfl, rfl, Lib.hid rfl, Below.refl _ _⟩
  case round =>
    obtain ⟨wo, rfl⟩ : ∃ wo : World, wo = wr := ⟨_, rfl⟩
    obtain ⟨k, r, rfl, hk, rfl, rfl, HE, hb⟩ := hrel
    have HB := Lib.hid hb
    by_cases hlt : k < ms.length
    · obtain ⟨ad, rfl, hadb, e0⟩ := (HA.out.below hb).vs k hlt
      have E0 := Lib.hid (show ∀ W : World, Below w.heap.size w W → W.cell? (ad.add k) = some (.int .i64 (iAt ms k)) by
        intro W hb
        obtain ⟨ad', ea, _, e1⟩ := (HA.out.below hb).vs k hlt
        injection ea with ea
        subst ea
        exact e1)
      have hkl : (k : Int) < (ms.length : Int) := by omega
      have HT := Lib.hid (show spL (ms.take (k + 1)) = spL (ms.take k) ++ sp1 (iAt ms k) 8 by rw [itake_at ms k hlt, spL_snoc])
      clear hb e0
      go_wp2_with fail
      generalize spL (ms.take k) = L at *
      generalize iAt ms k = v at *
      go_loopw [5, 6, 8] (fun b l i W => RiRel2 L v key w b l i W) (fun b l i W => 8 - (intOf i).toNat)
      case atStart => exact ⟨0, r, rfl, by omega, rfl, rfl, by show Hid (r = refL key (L ++ [])); rw [List.append_nil]; exact HE, HB.out⟩
      case round =>
        obtain ⟨j, r, rfl, hj, rfl, rfl, HE, hb⟩ := hrel
        have HB := Lib.hid hb
        by_cases hlj : j < 8
        · have hj8 : (j : Int) < 8 := by omega
          have e0 := E0.out wr hb
          have HQ := Lib.hid (show L ++ sp1 v (j + 1) = (L ++ sp1 v j) ++ [(plI v j, v)] by rw [sp1_succ, List.append_assoc])
          have HS := Lib.hid (show refL key (L ++ sp1 v (j + 1)) = refS key r (plI v j, v) by rw [HQ.out, refL_snoc, ← HE.out])
          have CP := Lib.hid (fun (W : World) (q : Nat) => quiet_left (n := q) (rplace_any v j (W.drewN q)))
          have CW := Lib.hid (fun (W : World) (q : Nat) => quiet_left (n := q) (way_any key (plI v j) (W.drewN q) HK.out (plI_bd v j)))
          generalize plI v j = pl at *
          have HW1 := Lib.hid (show (r.1 = 0 ∨ wayI key pl < r.2) → (v, wayI key pl) = refS key r (pl, v) from fun h => (refS_yes (s := (pl, v)) h).symm)
          have HW2 := Lib.hid (show ¬ (r.1 = 0 ∨ wayI key pl < r.2) → r = refS key r (pl, v) from fun h => (refS_no (s := (pl, v)) h).symm)
          obtain ⟨d, hd⟩ : ∃ d, d = wayI key pl := ⟨_, rfl⟩
          rw [← hd] at CW HW1 HW2
          clear hb hd
          go_wp2_with fail
          go_quiet (first | (go_at_call 15; exact CK.out _ _) | (go_at_call 13; exact CP.out _ _) | (go_at_call 30; exact CW.out _ _))
          by_cases g1 : r.1 = 0
          · have HX := Lib.hid (HS.out.trans (HW1.out (.inl g1)).symm)
            have g1' : (r.1 == 0) = true := by simpa using g1
            clear g1
            go_wp2_with fail
            go_roundw
            case rel => exact ⟨j + 1, (v, d), by go_num, by omega, rfl, rfl, Lib.hid HX.out.symm, below_to_drewN HB.out _⟩
            case measure => simp [intOf]; omega
          · have g1' : (r.1 == 0) = false := by simpa using g1
            by_cases g2 : d < r.2
            · have HX := Lib.hid (HS.out.trans (HW1.out (.inr g2)).symm)
              clear g1
              go_wp2_with fail
              go_roundw
              case rel => exact ⟨j + 1, (v, d), by go_num, by omega, rfl, rfl, Lib.hid HX.out.symm, below_to_drewN HB.out _⟩
              case measure => simp [intOf]; omega
            · have HX := Lib.hid (HS.out.trans (HW2.out (by omega)).symm)
              clear g1
              go_wp2_with fail
              go_roundw
              case rel => exact ⟨j + 1, r, by go_num, by omega, rfl, rfl, Lib.hid HX.out.symm, below_to_drewN HB.out _⟩
              case measure => simp [intOf]; omega
        · have hj' : j = 8 := by omega
          subst hj'
          clear hb
          go_wp2_with fail
          go_roundw
          case rel => exact ⟨k + 1, r, by go_num, by omega, rfl, rfl, by rw [HT.out]; exact HE, HB.out⟩
          case measure => simp [intOf]; omega
    · have hk' : k = ms.length := by omega
      subst hk'
      have HT := Lib.hid (show r.1 = rownI ms p by rw [HR.out, HE.out, List.take_length])
      clear hb
      go_wp2_with fail
      go_ret
      exact ⟨ret_int HT.out, HB.out⟩
def rownsR (ms : List Int) (q : Int) : List Int := if okL ms q then rownL ms q.toNat else []
theorem rowns_same (ms : List Int) (q : Int) : rownsR ms q = ownsR ms q := by
  unfold rownsR ownsR
  cases h : okL ms q with
  | false => rfl
  | true =>
    unfold okL at h
    rw [Bool.and_eq_true] at h
    exact (ownL_same h.1 _).symm
theorem okLr_yes {ms : List Int} {q : Int} (h : okL ms q = true) : rownsR ms q = rownL ms q.toNat := by unfold rownsR; rw [h]; rfl
theorem olr_no {ms : List Int} {q : Int} {w w' : World} (h : okL ms q = false) (hb : Below w.heap.size w w') : OlPost (rownsR ms q) (ownsE ms q) w (.returned (.tuple #[.slice none 0 0, .int .i64 1])) w' := by
  rw [rowns_same]; exact ol_no h hb
def RwRel (ms : List Int) (m : Nat) (w : World) (o i : Value) (W : World) : Prop := ∃ (k : Nat) (D : Option Addr) (d : Nat), i = .int .i64 k ∧ k ≤ m ∧ o = .slice D (rownL ms k).length d ∧ Hid (Below w.heap.size w W) ∧ Hid (W.ownsRow w.heap.size 3 1 (.slice D (rownL ms k).length d) (rownL ms k).length (vc (rownL ms k)))
set_option maxHeartbeats 2000000 in
theorem rowners_any (A : Option Addr) (c : Nat) (ms : List Int) (q : Int) (w : World) (hA : Lies w w.heap.size 1 A ms.length (vc ms)) (hn : ms.length ≤ 1000000) :
    Calls Try.prog 17 #[.slice A ms.length c, .int .i64 q] w (OlPost (rownsR ms q) (ownsE ms q) w) := by
  have HA := Lib.hid hA
  clear hA
  cases hr : rgt ms with
  | false =>
    have HT := Lib.hid (show okL ms q = false by unfold okL; rw [hr]; rfl)
    have HR := Lib.hid hr
    clear hr
    go_enter Try.func17, Try.ntmps17
    go_wp2_with fail
    refine (rright_any A c ms _ HA.out hn).mono ?_
    rintro e w1 ⟨rfl, hb1⟩
    have HB := Lib.hid hb1
    clear hb1
    rw [HR.out]
    go_wp2_with fail
    go_ret2
    exact olr_no HT.out HB.out
  | true =>
    have HR := Lib.hid hr
    clear hr
    by_cases h1 : 1 ≤ q
    · by_cases h6 : q ≤ 6
      · obtain ⟨iv, hiv, hzv, hzsv, hzbv⟩ := info_parts (show (Try.prog.info? 3).map (fun i => (i.zero, i.size, i.bytes)) = some (some (.int .i64 0), 1, 8) by kernel_rfl)
        have IV := Lib.hid hiv
        have ZV := Lib.hid hzv
        have SV := Lib.hid hzsv
        have BV := Lib.hid hzbv
        clear hiv hzv hzsv hzbv
        have hok : okL ms q = true := by unfold okL; rw [HR.out, decide_eq_true ⟨h1, h6⟩]; rfl
        have HT := Lib.hid (okLr_yes hok)
        have HT2 := Lib.hid (okL_yes hok).2
        obtain ⟨m, rfl⟩ : ∃ m : Nat, q = m := ⟨q.toNat, by omega⟩
        have hm6 : m ≤ 6 := by omega
        have h1' : ¬ (m : Int) < 1 := by omega
        have h6' : ¬ (6 : Int) < (m : Int) := by omega
        clear hok
        go_enter Try.func17, Try.ntmps17
        go_wp2_with fail
        refine (rright_any A c ms _ HA.out hn).mono ?_
        rintro e w1 ⟨rfl, hb1⟩
        have HB1 := Lib.hid hb1
        clear hb1
        rw [HR.out]
        go_wp2_with fail
        go_loopw [6, 7] (fun o i W => RwRel ms m w o i W) (fun o i W => m - (intOf i).toNat)
        case atStart => exact ⟨0, none, 0, rfl, Nat.zero_le _, rfl, HB1, Lib.hid (World.ownsRow_nil _ _ _ _)⟩
        case round =>
          obtain ⟨k, D, d, rfl, hk, rfl, HB, HO⟩ := hrel
          have HS := Lib.hid (rownL_succ ms k)
          have HL := Lib.hid (rownL_len ms k)
          by_cases hkm : k < m
          · have hkl : (k : Int) < (m : Int) := by omega
            have hk6 : k < 6 := by omega
            have HAW := Lib.hid ((HA.out.below HB.out).more HB.out.size)
            obtain ⟨X, hX⟩ : ∃ X, X = rownL ms k := ⟨_, rfl⟩
            have HX := Lib.hid hX
            rw [← hX] at HO HS HL ⊢
            clear hX
            go_wp2_with fail
            refine (rowner_any A c ms k _ HAW.out hn).mono ?_
            rintro e w5 ⟨rfl, hb5⟩
            have HB5 := Lib.hid (HB.out.trans (hb5.mono HB.out.size))
            have HO5 := Lib.hid (own_next HO.out hb5)
            clear hb5
            generalize rownI ms k = x at HS ⊢
            have HO1 := Lib.hid (own_next HO5.out (below_alloc w5 (.cells #[.int .i64 x] 3)))
            have HL1 := Lib.hid (lies_cells w5 (vc [x]) 3 1 1 rfl)
            have HB6 := Lib.hid (HB5.out.trans ((below_alloc w5 (.cells #[.int .i64 x] 3)).mono HB5.out.size))
            go_wp2_with (at_builtin; go_must (refine wpList_app2 _ rfl (.tmp 24) (.tmp 28) 30 rfl w.heap.size 3 iv _ 1 8 Try.underlying30 IV.out ZV.out SV.out BV.out rfl (by decide) D X.length d (vc X) rfl HO1.out (w5.heap.size + 1) (some ⟨w5.heap.size, 0, none⟩) 1 1 (vc [x]) rfl HL1.out (vc_one _) (X.length + 1) (vc X ++ vc [x]) rfl rfl (by have := HL.out; unfold maxLen; omega) (by have := HL.out; omega) HB6.out.size ?_))
            intro A9 c9 w9 ho9 hb9 hg9
            have HO9 := Lib.hid ho9
            have HB9 := Lib.hid (HB6.out.trans hb9)
            clear ho9 hb9 hg9
            go_wp2_with fail
            go_roundw
            case rel => exact ⟨k + 1, A9, c9, by go_num, by omega, by rw [HS.out]; simp, HB9, by rw [HS.out, vc_app, List.length_append]; exact HO9⟩
            case measure => simp [intOf]; omega
          · have hk' : k = m := by omega
            subst hk'
            have HE := Lib.hid (show rownL ms k = rownsR ms k by rw [HT.out]; simp)
            rw [HE.out] at HO ⊢
            go_wp2_with fail
            go_ret2
            exact ⟨D, d, by rw [HT2.out]; rfl, HO.out, HB.out⟩
      · have HT := Lib.hid (show okL ms q = false by unfold okL; rw [HR.out, decide_eq_false (fun h => h6 h.2)]; rfl)
        have h1' : ¬ q < 1 := by omega
        have h6' : 6 < q := by omega
        go_enter Try.func17, Try.ntmps17
        go_wp2_with fail
        refine (rright_any A c ms _ HA.out hn).mono ?_
        rintro e w1 ⟨rfl, hb1⟩
        have HB := Lib.hid hb1
        clear hb1
        rw [HR.out]
        go_wp2_with fail
        go_ret2
        exact olr_no HT.out HB.out
    · have HT := Lib.hid (show okL ms q = false by unfold okL; rw [HR.out, decide_eq_false (fun h => h1 h.1)]; rfl)
      have h1' : q < 1 := by omega
      go_enter Try.func17, Try.ntmps17
      go_wp2_with fail
      refine (rright_any A c ms _ HA.out hn).mono ?_
      rintro e w1 ⟨rfl, hb1⟩
      have HB := Lib.hid hb1
      clear hb1
      rw [HR.out]
      go_wp2_with fail
      go_ret2
      exact olr_no HT.out HB.out
end Go.Proofs.Ytgdgjkdigbohlaa
