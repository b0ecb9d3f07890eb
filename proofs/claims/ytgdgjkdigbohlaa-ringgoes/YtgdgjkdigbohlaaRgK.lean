import Derived.Test.YtgdgjkdigbohlaaRgJ
import Derived.Deep.RegionLaw
/-
  The walk of RingGoes. No condition but that the numbers are of 64 bits.
-/
namespace Go.Proofs.Ytgdgjkdigbohlaa
open Go.ChangeShapes Go.WideShapes Go.ChangeAt Go.RowKit
set_option linter.unusedVariables false

section
variable {w w' : World} {B B' s n : Nat} {A : Option Addr} {xs : List Value}
/-- A cut: from k to m. -/
theorem Lies.cut (h : Lies w B 1 A n xs) {k m cap : Nat} (hk : k ≤ m) (hm : m ≤ n) (hc : n ≤ cap) :
    Lies w B 1 (if cap = k then A else A.map (·.add (k * 1))) (m - k) ((xs.drop k).take (m - k)) := by
  have hl : xs.length = n := by simpa using h.1
  refine ⟨by simp [List.length_take, List.length_drop]; omega, fun j u hu => ?_⟩
  have hj : j < m - k := by
    have := (List.getElem?_eq_some_iff.1 hu).1
    simp [List.length_take] at this
    omega
  rw [List.getElem?_take_of_lt hj, List.getElem?_drop] at hu
  obtain ⟨ad, rfl, hb, hcell⟩ := h.2 _ u hu
  rw [if_neg (by omega)]
  exact ⟨ad.add (k * 1), rfl, by rw [block_add]; exact hb, by rw [add_add, Nat.mul_one]; exact hcell⟩

end
theorem cut_l {P : Program} {t : TypeId} (ht : P.underlying t = some (.slice (P.elem t))) (hz : ∀ W, (sizeOf (P.elem t)).run P W = .ok 1 W) (A : Option Addr) (n c k : Nat) (i : Int) (ki : IntKind) (hi : i = (k : Int)) (hk : k ≤ n) (hc : n ≤ c) :
    ∃ A', (∀ W, (Instr.slice t (.slice A n c) (some (.int ki i)) none none).run P W = .ok (.slice A' (n - k) (c - k)) W) ∧
      ∀ (w : World) (B : Nat) (xs : List Value), Lies w B 1 A n xs → Lies w B 1 A' (n - k) (xs.drop k) := by
  subst hi
  refine ⟨if c = k then A else A.map (·.add (k * 1)), fun W => ?_, fun w B xs h => ?_⟩
  rotate_left
  · have h2 := h.cut (cap := c) hk (Nat.le_refl n) hc
    have : (xs.drop k).take (n - k) = xs.drop k := List.take_of_length_le (by have := h.1; simp [List.length_drop]; omega)
    rw [this] at h2
    exact h2
  · rw [run_slice_l W t A n c ht ki k (by omega) (by omega)]
    simp [hz, sliced, Result.andThen]

theorem cut_h {P : Program} {t : TypeId} (ht : P.underlying t = some (.slice (P.elem t))) (hz : ∀ W, (sizeOf (P.elem t)).run P W = .ok 1 W) (A : Option Addr) (n c m : Nat) (j : Int) (kj : IntKind) (hj : j = (m : Int)) (hm : m ≤ n) (hc : n ≤ c) :
    ∃ A', (∀ W, (Instr.slice t (.slice A n c) none (some (.int kj j)) none).run P W = .ok (.slice A' m c) W) ∧
      ∀ (w : World) (B : Nat) (xs : List Value), Lies w B 1 A n xs → Lies w B 1 A' m (xs.take m) := by
  subst hj
  refine ⟨if c = 0 then A else A.map (·.add (0 * 1)), fun W => ?_, fun w B xs h => ?_⟩
  rotate_left
  · have h2 := h.cut (cap := c) (Nat.zero_le m) hm hc
    simp only [List.drop_zero, Nat.sub_zero] at h2
    exact h2
  · rw [run_slice_h W t A n c ht kj m (by omega) (by omega)]
    simp [hz, sliced, Result.andThen]

theorem step_app {P : Program} {ops : Array Oper} {o : Oper} {a : Act} {w : World} {K : Act → World → Prop} {Q : Exit → Act → World → Prop} {E : Prop}
    (hg : o.guard = none) (d x : Operand) (dT sT : TypeId) (hop : o.op = Op.call { callee := Callee.builtin Builtin.append, args := #[d, x], argTypes := #[dT, sT] })
    (v u : Value) (hd : a.eval d = v) (hx : a.eval x = u) {v' : Value} {w' : World} (hr : (Builtin.append_ #[dT, sT] o.type #[v, u]).run P w = .ok v' w') (hK : K (a.put o.dst v') w') :
    if Region.wanted o (yielded ops a.tmps) = true then Oper.wp P o a w K Q else E := by
  have hw : Region.wanted o (yielded ops a.tmps) = true := by simp [Region.wanted, hg]
  rw [if_pos hw]
  unfold Oper.wp
  simp [execOp, hop, resolve, invoke, builtin, hd, hx, hr, Result.andThen]
  exact hK
theorem step_own1 {P : Program} {ops : Array Oper} {o : Oper} {a : Act} {w : World} {K : Act → World → Prop} {Q : Exit → Act → World → Prop} {E : Prop}
    (hg : o.guard = none) (d x : Operand) (t : TypeId) (hop : o.op = Op.call { callee := Callee.builtin Builtin.append, args := #[d, x], argTypes := #[t, t] })
    (base : Nat) (e : TypeId) (i : TypeInfo) (z : Value) (size bytes : Nat) (ht : P.underlying t = some (.slice e)) (hi : P.info? e = some i) (hz : i.zero = some z) (hsize : i.size = size) (hby : i.bytes = bytes) (hzs : z.cells.size = size) (hsz : 0 < size)
    (A : Option Addr) (n c : Nat) (xs : List Value) (hd : a.eval d = .slice A n c) (hown : w.ownsRow base e size (.slice A n c) n xs)
    (B : Nat) (A2 : Option Addr) (m c2 : Nat) (news : List Value) (hx : a.eval x = .slice A2 m c2) (hl : Lies w B size A2 m news) (h1 : ∀ u ∈ news, u.oneCell' = true)
    (h63 : n + m ≤ maxLen) (hbytes : (n + m) * bytes ≤ 140737488355328) (hb : base ≤ w.heap.size)
    (h : ∀ A' c' w', w'.ownsRow base e size (.slice A' (n + m) c') (n + m) (xs ++ news) → Below base w w' → w.grownBy w' (Value.slice A n c).ownBlock → K (a.put o.dst (.slice A' (n + m) c')) w') :
    if Region.wanted o (yielded ops a.tmps) = true then Oper.wp P o a w K Q else E := by
  obtain ⟨A', c', w', hr, h2, h3, h4, _⟩ := run_app (P := P) w base t o.type e i z size bytes ht hi hz hsize hby hzs hsz A n c xs hown B A2 m c2 news hl h1 h63 hbytes hb
  exact step_app hg d x t t hop _ _ hd hx hr (h A' c' w' h2 h3 h4)


theorem step_own2 {P : Program} {ops : Array Oper} {o : Oper} {a : Act} {w : World} {K : Act → World → Prop} {Q : Exit → Act → World → Prop} {E : Prop}
    (hg : o.guard = none) (d x : Operand) (t : TypeId) (hop : o.op = Op.call { callee := Callee.builtin Builtin.append, args := #[d, x], argTypes := #[t, t] })
    (base : Nat) (e : TypeId) (i : TypeInfo) (z : Value) (size bytes : Nat) (ht : P.underlying t = some (.slice e)) (hi : P.info? e = some i) (hz : i.zero = some z) (hsize : i.size = size) (hby : i.bytes = bytes) (hzs : z.cells.size = size) (hsz : 0 < size)
    (A : Option Addr) (n c : Nat) (xs : List Value) (hd : a.eval d = .slice A n c) (hown : w.ownsRow base e size (.slice A n c) n xs)
    (B : Nat) (A2 : Option Addr) (m c2 : Nat) (news : List Value) (hx : a.eval x = .slice A2 m c2) (hl : Lies w B size A2 m news) (h1 : ∀ u ∈ news, u.oneCell' = true)
    (k : Nat) (hk : n + m = k) (h63 : n + m ≤ maxLen) (hbytes : (n + m) * bytes ≤ 140737488355328) (hb : base ≤ w.heap.size)
    (h : ∀ A' c' w', w'.ownsRow base e size (.slice A' k c') k (xs ++ news) → Below base w w' → K (a.put o.dst (.slice A' k c')) w') :
    if Region.wanted o (yielded ops a.tmps) = true then Oper.wp P o a w K Q else E := by
  subst hk
  exact step_own1 hg d x t hop base e i z size bytes ht hi hz hsize hby hzs hsz A n c xs hd hown B A2 m c2 news hx hl h1 h63 hbytes hb (fun A' c' w' h2 h3 _ => h A' c' w' h2 h3)
theorem size3 (W : World) : (sizeOf (Try.prog.elem 30)).run Try.prog W = .ok 1 W := by kernel_rfl
theorem goes_at {ms : List Int} (h : rgt ms = true) (h2 : 2 ≤ ms.length) {k : Nat} (hk : k < ms.length) : rgt (ms.take k ++ ms.drop (k + 1)) = true ∧ ∀ p : Nat, p < 6 → iAt (ownL ms 6) p ≠ iAt ms k → iAt (ownL (ms.take k ++ ms.drop (k + 1)) 6) p = iAt (ownL ms 6) p := by
  have hlen := rgt_len h
  have hsub : ∀ x ∈ ms.take k ++ ms.drop (k + 1), x ∈ ms := fun x hx => by
    rcases List.mem_append.1 hx with hx | hx
    · exact List.mem_of_mem_take hx
    · exact List.mem_of_mem_drop hx
  have hsup : ∀ x ∈ ms, x ∈ ms.take k ++ ms.drop (k + 1) ∨ x = iAt ms k := fun x hx => by
    rw [← List.take_append_drop k ms, idrop_at ms k hk] at hx
    rcases List.mem_append.1 hx with hx | hx
    · exact .inl (List.mem_append_left _ hx)
    · rcases List.mem_cons.1 hx with hx | hx
      · exact .inr hx
      · exact .inl (List.mem_append_right _ hx)
  have hp : (ms.take k ++ ms.drop (k + 1)).Pairwise (· < ·) := by
    have e : ms.take k ++ ms.drop (k + 1) = ms.eraseIdx k := (List.eraseIdx_eq_take_drop_succ ms k).symm
    rw [e]
    exact (rise_pairs (rgt_rise h)).sublist (List.eraseIdx_sublist ms k)
  have hr : rgt (ms.take k ++ ms.drop (k + 1)) = true := by
    unfold rgt
    rw [Bool.and_eq_true, decide_eq_true_eq]
    refine ⟨by rw [List.length_append, List.length_take, List.length_drop]; omega, pairs_rise hp fun v hv => ?_⟩
    have := rgt_mem h (hsub v hv)
    omega
  refine ⟨hr, fun p hp6 hne => ?_⟩
  rw [own6_at _ hp6] at hne ⊢
  rw [own6_at _ hp6]
  exact own_goes (rgt_small h) hsub hsup (ownI_is h p) (ownI_is hr p) hne
set_option maxRecDepth 20000 in
set_option maxHeartbeats 2000000 in
theorem goes_walk (A : Option Addr) (c : Nat) (l : List Int) (x : Int) (w : World) (hA : Lies w w.heap.size 1 A l.length (vc l)) (hn : l.length ≤ maxLen) (hx : -9223372036854775808 ≤ x ∧ x ≤ 9223372036854775807) :
    Calls Try.prog 8 #[.slice A l.length c, .int .i64 x] w fun e w' => e = .returned (.bool true) ∧ Below w.heap.size w w' := by
  have mixed : Try.prog.follows .mixedOrders = true := by kernel_rfl
  have HA := Lib.hid hA
  have HX := Lib.hid hx
  clear hA hx
  by_cases hout : l.length ≤ 100
  · obtain ⟨iv, hiv, hzv, hzsv, hzbv⟩ := info_parts (show (Try.prog.info? 3).map (fun i => (i.zero, i.size, i.bytes)) = some (some (.int .i64 0), 1, 8) by kernel_rfl)
    have IV := Lib.hid hiv
    have ZV := Lib.hid hzv
    have SV := Lib.hid hzsv
    have BV := Lib.hid hzbv
    clear hiv hzv hzsv hzbv
    have h1 : ¬ (100 : Int) < (l.length : Int) := by omega
    have hn6 : l.length ≤ 1000000 := by omega
    clear hn hout
    go_enter Try.func8, Try.ntmps8
    go_wp2_with fail
    refine (made_any A c l 5 _ HA.out hn6 (by decide)).mono ?_
    rintro e w1 ⟨D1, d1, rfl, ho1, hb1⟩
    have HB1 := Lib.hid hb1
    have HL1 := Lib.hid (Lies.of_own ho1)
    have HO1 := Lib.hid ho1
    have HM5 := Lib.hid (made_len l 5 99)
    have HMR := Lib.hid (fun h => made_rgt (l := l) (n := 5) (by decide) h)
    have HCP := Lib.hid (show (made l 5 99).length ≤ d1 from own_cap ho1)
    clear ho1 hb1
    generalize made l 5 99 = ms at *
    by_cases h0 : (ms.length : Int) < 2
    · go_wp2_with fail
      refine (knows_any _).mono ?_
      rintro e w8 ⟨rfl, hb8⟩
      have HB8 := Lib.hid (HB1.out.trans (hb8.mono HB1.out.size))
      clear hb8
      go_wp2_with fail
      go_ret
      exact ⟨rfl, HB8.out⟩
    · have HR := Lib.hid (HMR.out (fun h => h0 (by rw [h]; decide)))
      have HL2 := Lib.hid (show 2 ≤ ms.length by omega)
      have hwn : IntKind.u64.wrap (ms.length : Int) = (ms.length : Int) := by rw [IntKind.wrap_u64]; have := HM5.out; omega
      have hnz : (ms.length : Int) ≠ 0 := by omega
      obtain ⟨k, hk, he⟩ : ∃ k : Nat, k < ms.length ∧ (IntKind.u64.wrap x).tmod (ms.length : Int) = (k : Int) := by
        have h3 : 0 ≤ IntKind.u64.wrap x := by rw [IntKind.wrap_u64]; omega
        have h4 := Int.emod_nonneg (IntKind.u64.wrap x) hnz
        have h5 := Int.emod_lt_of_pos (IntKind.u64.wrap x) (show (0 : Int) < (ms.length : Int) by omega)
        rw [Int.tmod_eq_emod_of_nonneg h3]
        exact ⟨((IntKind.u64.wrap x) % (ms.length : Int)).toNat, by omega, by omega⟩
      have hw : wrap64 (k : Int) = (k : Int) := by unfold wrap64; have := HM5.out; omega
      have hk5 : k < 5 := by have := HM5.out; omega
      have hkw : IntKind.i64.wrap ((k : Int) + 1) = (k : Int) + 1 := by simp [IntKind.wrap, IntKind.bits, IntKind.signed]; omega
      have GA := Lib.hid (goes_at HR.out HL2.out hk)
      have HKL := Lib.hid hk
      obtain ⟨C1, kc1, lc1⟩ := cut_h (P := Try.prog) (t := 30) (by kernel_rfl) size3 D1 ms.length d1 k (k : Int) .i64 rfl (by omega) HCP.out
      obtain ⟨C2, kc2, lc2⟩ := cut_l (P := Try.prog) (t := 30) (by kernel_rfl) size3 D1 ms.length d1 (k + 1) ((k : Int) + 1) .i64 (by omega) (by omega) HCP.out
      have HLC1 := Lib.hid lc1
      have HLC2 := Lib.hid lc2
      have HT1 := Lib.hid (show (vc ms).take k = vc (ms.take k) by unfold vc; rw [List.map_take])
      have HT2 := Lib.hid (show (vc ms).drop (k + 1) = vc (ms.drop (k + 1)) by unfold vc; rw [List.map_drop])
      have HLEN := Lib.hid (show k + (ms.length - (k + 1)) = (ms.take k ++ ms.drop (k + 1)).length by rw [List.length_append, List.length_take, List.length_drop]; omega)
      obtain ⟨m2, hm2⟩ : ∃ m2, m2 = ms.length - (k + 1) := ⟨_, rfl⟩
      rw [← hm2] at kc2 HLC2 HLEN
      have hm25 : m2 ≤ 5 := by have := HM5.out; omega
      obtain ⟨cc, hcc⟩ : ∃ cc, cc = d1 - (k + 1) := ⟨_, rfl⟩
      rw [← hcc] at kc2
      clear lc1 lc2 hk hm2 hcc
      go_upto_region 7 with fail
      clear he hw
      have HO3 := Lib.hid (show (w1.alloc (.cells #[] 3)).drew.ownsRow w1.heap.size 3 1 (.slice (some ⟨w1.heap.size, 0, none⟩) 0 0) 0 [] from own_empty w1 3 w1.heap.size (Nat.le_refl _))
      have HBA := Lib.hid (below_alloc w1 (.cells #[] 3)).drew
      have HL3 := Lib.hid (show Lies (w1.alloc (.cells #[] 3)).drew (w1.alloc (.cells #[] 3)).heap.size 1 C1 k (vc (ms.take k)) by have := HLC1.out _ _ _ (HL1.out.next (below_alloc w1 (.cells #[] 3))); rwa [HT1.out] at this)
      have HLX := Lib.hid (fun (W : World) (hb : Below w1.heap.size w1 W) => show Lies W W.heap.size 1 C2 m2 (vc (ms.drop (k + 1))) by have := HLC2.out _ _ _ (HL1.out.next hb); rwa [HT2.out] at this)
      go_cut [7] (fun s7 W => ∃ A5 c5, s7 = .slice A5 (ms.take k ++ ms.drop (k + 1)).length c5 ∧ Lies W W.heap.size 1 A5 (ms.take k ++ ms.drop (k + 1)).length (vc (ms.take k ++ ms.drop (k + 1))) ∧ Below w1.heap.size w1 W)
      case first =>
        go_region_law (first | (refine step_own2 rfl _ _ 30 rfl w1.heap.size 3 iv _ 1 8 Try.underlying30 IV.out ZV.out SV.out BV.out rfl (by decide) A3 k c3 (vc (ms.take k)) (by simp [Act.eval]) ho3 _ C2 m2 cc (vc (ms.drop (k + 1))) (by simp [Act.eval]) (HLX.out _ HB3.out) (vc_one _) (k + m2) rfl (by unfold maxLen; omega) (by omega) HB3.out.size ?_; intro A5 c5 w5 ho5 hb5; have HB5 := Lib.hid (HB3.out.trans hb5)) | (refine step_own2 rfl _ _ 30 rfl w1.heap.size 3 iv _ 1 8 Try.underlying30 IV.out ZV.out SV.out BV.out rfl (by decide) (some ⟨w1.heap.size, 0, none⟩) 0 0 [] (by simp [Act.eval]) HO3.out _ C1 k d1 (vc (ms.take k)) (by simp [Act.eval]) HL3.out (vc_one _) k (Nat.zero_add k) (by unfold maxLen; omega) (by omega) HBA.out.size ?_; intro A3 c3 w3 ho3 hb3; have HB3 := Lib.hid (HBA.out.trans hb3)) | fail)
        all_goals
          clear hkw kc1 kc2
          go_wp2_with fail
          go_meet
          refine ⟨A5, c5, ?_, ?_, HB5.out⟩
          · rw [HLEN.out]
          · rw [← HLEN.out, vc_app]; exact Lies.of_own ho5
      case rest =>
        obtain ⟨A5, c5, rfl, hl5, hb5⟩ := hcut
        have HL5 := Lib.hid hl5
        have HB5 := Lib.hid (HB1.out.trans (hb5.mono HB1.out.size))
        have HL15 := Lib.hid (HL1.out.next hb5)
        have HLL := Lib.hid (show (ms.take k ++ ms.drop (k + 1)).length ≤ 5 by rw [List.length_append, List.length_take, List.length_drop]; have := HM5.out; omega)
        clear hl5 hb5 HLX HLC1 HLC2 HL3 HT1 HT2 HLEN kc1 kc2 HO3 HBA
        generalize ms.take k ++ ms.drop (k + 1) = le at *
        have HC := Lib.hid GA.out.2
        have HRI := Lib.hid GA.out.1
        go_wp2_with fail
        refine (owners_any D1 d1 ms 6 _ HL15.out (by have := HM5.out; omega)).mono ?_
        rw [(own6 HR.out).1, (own6 HR.out).2]
        rintro e w7 ⟨D7, d7, rfl, ho7, hb7⟩
        have HB7 := Lib.hid (HB5.out.trans (hb7.mono HB5.out.size))
        have HL7 := Lib.hid (Lies.of_own ho7)
        have HL57 := Lib.hid (HL5.out.next hb7)
        have HL17 := Lib.hid (HL15.out.next hb7)
        clear ho7 hb7
        have HLA := Lib.hid (ownL_len ms 6)
        have HLB := Lib.hid (ownL_len le 6)
        generalize ownL ms 6 = oa at *
        rw [HLA.out] at HL7 ⊢
        go_wp2_with fail
        refine (owners_any A5 c5 le 6 _ HL57.out (by have := HLL.out; omega)).mono ?_
        rw [(own6 HRI.out).1, (own6 HRI.out).2]
        rintro e w8 ⟨D8, d8, rfl, ho8, hb8⟩
        have HB8 := Lib.hid (HB7.out.trans (hb8.mono HB7.out.size))
        have HL8 := Lib.hid (Lies.of_own ho8)
        have HL78 := Lib.hid (HL7.out.next hb8)
        have HL18 := Lib.hid (HL17.out.next hb8)
        clear ho8 hb8
        generalize ownL le 6 = ob at *
        rw [HLB.out] at HL8 ⊢
        go_wp2_with fail
        go_loopw [12] (fun i W => CoRel w8 i W) (fun i W => 6 - (intOf i).toNat)
        case atStart => exact ⟨0, rfl, Nat.zero_le _, Below.refl _ _⟩
        case round =>
          obtain ⟨j, rfl, hk, hb⟩ := hrel
          have HBR := Lib.hid hb
          have HBF := Lib.hid (HB8.out.trans (hb.mono HB8.out.size))
          by_cases hlt : j < 6
          · obtain ⟨ad, rfl, hadb, e0⟩ := (HL78.out.below hb).vs j (by have := HLA.out; omega)
            obtain ⟨ad', rfl, hadb', e1⟩ := (HL8.out.below hb).vs j (by have := HLB.out; omega)
            obtain ⟨am, rfl, hamb, e2⟩ := (HL18.out.below hb).vs k HKL.out
            have hkl : (j : Int) < 6 := by omega
            have hkm : (k : Int) < (ms.length : Int) := by have := HKL.out; omega
            have HCK := HC.out j hlt
            generalize iAt oa j = xa at *
            generalize iAt ob j = xb at *
            generalize iAt ms k = xm at *
            clear hb
            by_cases he : xa = xm
            · have he' : (xa != xm) = false := by simpa using he
              clear he HCK
              go_wp2_with fail
              go_quiet (fail)
              go_wp2_with fail
              go_roundw
              case rel => exact ⟨j + 1, by go_num, by omega, below_to_drewN HBR.out _⟩
              case measure => simp [intOf]; omega
            · have he' : (xa != xm) = true := by simpa using he
              have hv' : (xb != xa) = false := by simpa using HCK he
              clear he HCK
              go_wp2_with fail
              go_quiet (fail)
              go_wp2_with fail
              go_roundw
              case rel => exact ⟨j + 1, by go_num, by omega, below_to_drewN HBR.out _⟩
              case measure => simp [intOf]; omega
          · have hk' : j = 6 := by omega
            subst hk'
            clear hb
            go_wp2_with fail
            refine (knows_any _).mono ?_
            rintro e w9 ⟨rfl, hb9⟩
            have HB9 := Lib.hid (HBF.out.trans (hb9.mono HBF.out.size))
            clear hb9
            go_wp2_with fail
            go_ret
            exact ⟨rfl, HB9.out⟩
  · unfold maxLen at hn
    have h1 : (100 : Int) < (l.length : Int) := by omega
    clear hout
    go_enter Try.func8, Try.ntmps8
    go_wp2_with fail
    refine (knows_any _).mono ?_
    rintro e w8 ⟨rfl, hb8⟩
    have HB8 := Lib.hid hb8
    clear hb8
    go_wp2_with fail
    go_ret
    exact ⟨rfl, HB8.out⟩
end Go.Proofs.Ytgdgjkdigbohlaa
