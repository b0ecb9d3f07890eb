import Derived.Test.YtabbpccfdpphjaaPlE
/-
  The contracts of plan.first, lighten, Even. No condition but that the lists have at most a million numbers.
-/
namespace Go.Proofs.Ytabbpccfdpphjaa
open Go.ChangeShapes Go.WideShapes Go.ChangeAt Go.RowKit
set_option linter.unusedVariables false

theorem more_any (a b : Int) (w : World) : Calls Try.prog 41 #[.int .i64 a, .int .i64 b] w fun e w' => e = .returned (.bool (decide (b < a))) ∧ w = w' := by
  by_cases h : b < a
  · have HT := Lib.hid (decide_eq_true h)
    go_enter Try.func41, Try.ntmps41
    go_wp2_with fail
    go_ret
    exact ⟨ret_bool HT.out.symm, rfl⟩
  · have HT := Lib.hid (decide_eq_false h)
    go_enter Try.func41, Try.ntmps41
    go_wp2_with fail
    go_ret
    exact ⟨ret_bool HT.out.symm, rfl⟩
theorem less_any (a b : Int) (w : World) : Calls Try.prog 42 #[.int .i64 a, .int .i64 b] w fun e w' => e = .returned (.bool (decide (a < b))) ∧ w = w' := by
  by_cases h : a < b
  · have HT := Lib.hid (decide_eq_true h)
    go_enter Try.func42, Try.ntmps42
    go_wp2_with fail
    go_ret
    exact ⟨ret_bool HT.out.symm, rfl⟩
  · have HT := Lib.hid (decide_eq_false h)
    go_enter Try.func42, Try.ntmps42
    go_wp2_with fail
    go_ret
    exact ⟨ret_bool HT.out.symm, rfl⟩
/-- The place of the first number that no other one is ahead of. -/
def fstN (f : Int → Int → Bool) (l : List Int) : Nat → Nat
  | 0 => 0
  | k + 1 => if f (iAt l k) (iAt l (fstN f l k)) = true then k else fstN f l k
theorem fstN_lt (f : Int → Int → Bool) (l : List Int) (k : Nat) : fstN f l k ≤ k - 1 := by
  induction k with
  | zero => exact Nat.le_refl _
  | succ k ih => rw [fstN]; split <;> omega
theorem fstN_yes {f : Int → Int → Bool} {l : List Int} {k : Nat} (h : f (iAt l k) (iAt l (fstN f l k)) = true) : fstN f l (k + 1) = k := by rw [fstN, if_pos h]
theorem fstN_no {f : Int → Int → Bool} {l : List Int} {k : Nat} (h : f (iAt l k) (iAt l (fstN f l k)) = false) : fstN f l (k + 1) = fstN f l k := by rw [fstN, if_neg (by rw [h]; decide)]
theorem fst_max (l : List Int) (k : Nat) : fstN (fun a b => decide (b < a)) l k = amax l k := by
  induction k with
  | zero => rfl
  | succ k ih => rw [fstN, amax, ih]; simp only [decide_eq_true_eq]
theorem fst_min (l : List Int) (k : Nat) : fstN (fun a b => decide (a < b)) l k = amin l k := by
  induction k with
  | zero => rfl
  | succ k ih => rw [fstN, amin, ih]; simp only [decide_eq_true_eq]
def FiRel (f : Int → Int → Bool) (l : List Int) (w : World) (b i : Value) (W : World) : Prop := ∃ k : Nat, i = .int .i64 k ∧ b = .int .i64 (fstN f l k : Nat) ∧ k ≤ l.length ∧ W = w
set_option maxHeartbeats 1000000 in
theorem first_any (kf : Nat) (f : Int → Int → Bool) (hk : ∀ a W, (callFunc kf a).run Try.prog W = .ok (.enter kf a) W)
    (hf : ∀ a b W, Calls Try.prog kf #[.int .i64 a, .int .i64 b] W fun e W' => e = .returned (.bool (f a b)) ∧ W = W')
    (A : Option Addr) (c : Nat) (l : List Int) (w : World) (hA : Lies w w.heap.size 1 A l.length (vc l)) (hn : l.length ≤ 1000000) :
    Calls Try.prog 40 #[.slice A l.length c, .func (.func kf) #[] #[]] w fun e w' => e = .returned (.int .i64 (fstN f l l.length : Nat)) ∧ w = w' := by
  have HF := Lib.hid hf
  clear hf
  go_enter Try.func40, Try.ntmps40
  go_wp2_with fail
  go_loopw [5, 10] (fun b i W => FiRel f l w b i W) (fun b i W => l.length - (intOf i).toNat)
  case atStart => exact ⟨0, rfl, rfl, Nat.zero_le _, rfl⟩
  case round =>
    obtain ⟨k, rfl, rfl, hk2, rfl⟩ := hrel
    by_cases hlt : k < l.length
    · have hb := fstN_lt f l k
      have hbl : fstN f l k < l.length := by omega
      obtain ⟨ad, rfl, hadb, e0⟩ := hA.vs k hlt
      obtain ⟨ad', ea, hadb', e1⟩ := hA.vs (fstN f l k) hbl
      injection ea with ea
      subst ea
      have hkl : (k : Int) < (l.length : Int) := by omega
      have hbi : ((fstN f l k : Nat) : Int) < (l.length : Int) := by omega
      cases hfb : f (iAt l k) (iAt l (fstN f l k)) with
      | true =>
        have HT := Lib.hid (fstN_yes hfb)
        have HFB := Lib.hid hfb
        clear hfb
        generalize fstN f l k = b at *
        go_wp2_with fail
        refine (HF.out _ _ _).mono ?_
        rintro e w1 ⟨rfl, rfl⟩
        rw [HFB.out]
        go_wp2_with fail
        go_roundw
        case rel => exact ⟨k + 1, by go_num, by rw [HT.out], by omega, rfl⟩
        case measure => simp [intOf]; omega
      | false =>
        have HT := Lib.hid (fstN_no hfb)
        have HFB := Lib.hid hfb
        clear hfb
        generalize fstN f l k = b at *
        go_wp2_with fail
        refine (HF.out _ _ _).mono ?_
        rintro e w1 ⟨rfl, rfl⟩
        rw [HFB.out]
        go_wp2_with fail
        go_roundw
        case rel => exact ⟨k + 1, by go_num, by rw [HT.out], by omega, rfl⟩
        case measure => simp [intOf]; omega
    · have hk' : k = l.length := by omega
      subst hk'
      go_wp2_with fail
      go_ret
      exact ⟨rfl, rfl⟩
theorem most_any (A : Option Addr) (c : Nat) (l : List Int) (w : World) (hA : Lies w w.heap.size 1 A l.length (vc l)) (hn : l.length ≤ 1000000) :
    Calls Try.prog 40 #[.slice A l.length c, .func (.func 41) #[] #[]] w fun e w' => e = .returned (.int .i64 (amax l l.length : Nat)) ∧ w = w' := by
  have h := first_any 41 (fun a b => decide (b < a)) Try.call41 more_any A c l w hA hn
  rw [fst_max] at h
  exact h
theorem least_any (A : Option Addr) (c : Nat) (l : List Int) (w : World) (hA : Lies w w.heap.size 1 A l.length (vc l)) (hn : l.length ≤ 1000000) :
    Calls Try.prog 40 #[.slice A l.length c, .func (.func 42) #[] #[]] w fun e w' => e = .returned (.int .i64 (amin l l.length : Nat)) ∧ w = w' := by
  have h := first_any 42 (fun a b => decide (a < b)) Try.call42 less_any A c l w hA hn
  rw [fst_min] at h
  exact h
/-- The heaviest and the lightest member. -/
def heI (os ms cost slow : List Int) : Nat := amax (ldL os ms cost slow) ms.length
def liI (os ms cost slow : List Int) : Nat := amin (ldL os ms cost slow) ms.length
/-- The greater load of the two, as the code reckons it. -/
def gtI (os ms cost slow : List Int) (h w q : Nat) : Int :=
  max (iAt (ldL os ms cost slow) h - iAt cost q * iAt slow h) (iAt (ldL os ms cost slow) w + iAt cost q * iAt slow w)
theorem gt_try {os ms cost slow : List Int} (hr : rgt ms = true) {h w q : Nat} (hh : h < ms.length) (hw : w < ms.length) (hne : h ≠ w) (hq : q < os.length) (he : iAt os q = iAt ms h) : gtI os ms cost slow h w q = tryI os ms cost slow h w q := by
  have hne2 : ¬ iAt ms w = iAt ms h := fun e => hne (iAt_inj hr hw hh e).symm
  unfold gtI tryI
  rw [ldL_at hh, ldL_at hw, ldI_set hq, ldI_set hq, if_pos hq, if_pos hq, he, if_neg hne2, if_pos rfl, if_pos rfl, if_neg (fun e => hne2 e.symm)]
  congr 1 <;> omega
theorem bst_le (os ms cost slow : List Int) (h w : Nat) : ∀ n : Nat, (bst os ms cost slow h w n).2 ≤ iAt (ldL os ms cost slow) h := by
  intro n
  induction n with
  | zero => exact Int.le_refl _
  | succ n ih =>
    rw [bst]
    split
    · rename_i hc; simp only; omega
    · exact ih
theorem bst_skip {os ms cost slow : List Int} {h w q : Nat} (he : ¬ iAt os q = iAt ms h) : bst os ms cost slow h w (q + 1) = bst os ms cost slow h w q := by rw [bst, if_neg (fun hc => he hc.1)]
theorem bst_take {os ms cost slow : List Int} (h0 : ldE os ms cost slow = 0) {h w q : Nat} (hh : h < ms.length) (hw : w < ms.length) (hq : q < os.length) (he : iAt os q = iAt ms h) (hg : gtI os ms cost slow h w q < (bst os ms cost slow h w q).2) :
    bst os ms cost slow h w (q + 1) = ((q : Int), gtI os ms cost slow h w q) := by
  obtain ⟨⟨hro, hrm, hc, hs, hcb, hsb⟩, hin⟩ := ldE_zero h0
  by_cases hne : h = w
  · exfalso
    subst hne
    have h1 := bst_le os ms cost slow h h q
    have h2 := prod_bd (hcb _ (iAt_mem cost q (by omega))) (hsb _ (iAt_mem slow h (by omega)))
    unfold gtI at hg
    omega
  · have e := gt_try (cost := cost) (slow := slow) hrm hh hw hne hq he
    rw [e] at hg ⊢
    rw [bst, if_pos ⟨he, hne, hg⟩]
theorem bst_stay {os ms cost slow : List Int} (h0 : ldE os ms cost slow = 0) {h w q : Nat} (hh : h < ms.length) (hw : w < ms.length) (hq : q < os.length) (he : iAt os q = iAt ms h) (hg : ¬ gtI os ms cost slow h w q < (bst os ms cost slow h w q).2) :
    bst os ms cost slow h w (q + 1) = bst os ms cost slow h w q := by
  obtain ⟨⟨hro, hrm, hc, hs, hcb, hsb⟩, hin⟩ := ldE_zero h0
  rw [bst, if_neg]
  rintro ⟨_, hne, h3⟩
  rw [← gt_try (cost := cost) (slow := slow) hrm hh hw hne hq he] at h3
  exact hg h3
def btI (os ms cost slow : List Int) : Int := (bst os ms cost slow (heI os ms cost slow) (liI os ms cost slow) os.length).1
theorem once_no {os ms cost slow : List Int} (h : btI os ms cost slow < 0) : onceI os ms cost slow = os := by unfold onceI; unfold btI heI liI at h; rw [if_pos h]
theorem once_yes {os ms cost slow : List Int} {p : Nat} (h : btI os ms cost slow = p) : onceI os ms cost slow = os.set p (iAt ms (liI os ms cost slow)) := by
  unfold onceI; unfold btI heI liI at h; rw [if_neg (by rw [h]; omega), h]; rfl
theorem bt_spec (os ms cost slow : List Int) : btI os ms cost slow < 0 ∨ ∃ p : Nat, btI os ms cost slow = p ∧ p < os.length := by
  rcases bst_spec os ms cost slow (heI os ms cost slow) (liI os ms cost slow) os.length with h | ⟨⟨h1, h2, _⟩, _⟩
  · left; unfold btI; omega
  · right; exact ⟨(btI os ms cost slow).toNat, by unfold btI; omega, by unfold btI; omega⟩
/-- What lighten answers. -/
def LiPost (os ms cost slow : List Int) (w : World) (e : Ending) (w' : World) : Prop :=
  ((btI os ms cost slow < 0 ∧ e = .returned (.tuple #[.agg #[.int .i64 0, .int .i64 0, .int .i64 0], .bool false])) ∨
   (∃ p : Nat, btI os ms cost slow = p ∧ p < os.length ∧ e = .returned (.tuple #[.agg #[.int .i64 p, .int .i64 (iAt ms (heI os ms cost slow)), .int .i64 (iAt ms (liI os ms cost slow))], .bool true]))) ∧ Below w.heap.size w w'
def LiRel (os ms cost slow : List Int) (h l : Nat) (w : World) (g m i : Value) (W : World) : Prop := ∃ q : Nat, i = .int .i64 q ∧ g = .int .i64 (bst os ms cost slow h l q).1 ∧ m = .int .i64 (bst os ms cost slow h l q).2 ∧ q ≤ os.length ∧ Hid (Below w.heap.size w W)
theorem wrap_small {x : Int} (h : -1000000000 ≤ x ∧ x ≤ 1000000000) : IntKind.i64.wrap x = x := by simp [IntKind.wrap, IntKind.bits, IntKind.signed]; omega
set_option maxRecDepth 20000 in
set_option maxHeartbeats 4000000 in
theorem lighten_any (A1 : Option Addr) (c1 : Nat) (os : List Int) (A2 : Option Addr) (c2 : Nat) (ms : List Int) (A3 : Option Addr) (c3 : Nat) (cost : List Int) (A4 : Option Addr) (c4 : Nat) (slow : List Int) (A5 : Option Addr) (c5 : Nat) (w : World)
    (h1 : Lies w w.heap.size 1 A1 os.length (vc os)) (h2 : Lies w w.heap.size 1 A2 ms.length (vc ms)) (h3 : Lies w w.heap.size 1 A3 cost.length (vc cost)) (h4 : Lies w w.heap.size 1 A4 slow.length (vc slow))
    (h5 : Lies w w.heap.size 1 A5 ms.length (vc (ldL os ms cost slow))) (h0 : ldE os ms cost slow = 0) :
    Calls Try.prog 35 #[.slice A1 os.length c1, .slice A2 ms.length c2, .slice A3 cost.length c3, .slice A4 slow.length c4, .slice A5 ms.length c5] w (LiPost os ms cost slow w) := by
  have HE := Lib.hid h0
  have HP := Lib.hid (ldE_zero h0).1
  have HM5 := Lib.hid (rgt_len HP.out.2.1)
  have HO6 := Lib.hid (rightO_len HP.out.1)
  have HLL := Lib.hid (ldL_len os ms cost slow)
  have hm5 : ms.length ≤ 5 := HM5.out.2
  have ho6 : os.length ≤ 6 := HO6.out.2
  have hhl : heI os ms cost slow < ms.length := amax_lt _ _ HM5.out.1
  have hll : liI os ms cost slow < ms.length := amin_lt _ _ HM5.out.1
  have HBA := Lib.hid (below_alloc w (.cells #[.int .i64 0, .int .i64 0, .int .i64 0] 35))
  have H1 := Lib.hid (h1.next HBA.out)
  have H2 := Lib.hid (h2.next HBA.out)
  have H3 := Lib.hid (h3.next HBA.out)
  have H4 := Lib.hid (h4.next HBA.out)
  have H5 := Lib.hid (h5.next HBA.out)
  have HZ := Lib.hid (show w.heap.size < (w.alloc (.cells #[.int .i64 0, .int .i64 0, .int .i64 0] 35)).heap.size by simp)
  have d0 := Lib.hid (show (w.alloc (.cells #[.int .i64 0, .int .i64 0, .int .i64 0] 35)).cell? ⟨w.heap.size, 0, none⟩ = some (.int .i64 0) by simp [go_sem])
  have d1 := Lib.hid (show (w.alloc (.cells #[.int .i64 0, .int .i64 0, .int .i64 0] 35)).cell? ⟨w.heap.size, 1, none⟩ = some (.int .i64 0) by simp [go_sem])
  have d2 := Lib.hid (show (w.alloc (.cells #[.int .i64 0, .int .i64 0, .int .i64 0] 35)).cell? ⟨w.heap.size, 2, none⟩ = some (.int .i64 0) by simp [go_sem])
  have z0 := Lib.hid (show ∀ o, (w.alloc (.cells #[.int .i64 0, .int .i64 0, .int .i64 0] 35)).frozen? ⟨w.heap.size, o, none⟩ = false by intro o; simp [go_sem])
  have CMX := Lib.hid (fun (W : World) (h : Lies W W.heap.size 1 A5 ms.length (vc (ldL os ms cost slow))) => show Calls Try.prog 40 #[.slice A5 ms.length c5, .func (.func 41) #[] #[]] W (fun e w' => e = .returned (.int .i64 (heI os ms cost slow : Nat)) ∧ W = w') by
    have hx := most_any A5 c5 (ldL os ms cost slow) W (by rw [HLL.out]; exact h) (by rw [HLL.out]; omega)
    rw [HLL.out] at hx
    exact hx)
  have CMN := Lib.hid (fun (W : World) (h : Lies W W.heap.size 1 A5 ms.length (vc (ldL os ms cost slow))) => show Calls Try.prog 40 #[.slice A5 ms.length c5, .func (.func 42) #[] #[]] W (fun e w' => e = .returned (.int .i64 (liI os ms cost slow : Nat)) ∧ W = w') by
    have hx := least_any A5 c5 (ldL os ms cost slow) W (by rw [HLL.out]; exact h) (by rw [HLL.out]; omega)
    rw [HLL.out] at hx
    exact hx)
  have HFIN := Lib.hid (show btI os ms cost slow = (bst os ms cost slow (heI os ms cost slow) (liI os ms cost slow) os.length).1 from rfl)
  clear h0 h1 h2 h3 h4 h5
  go_enter Try.func35, Try.ntmps35
  go_upto_region 1 with fail
  generalize w.alloc (.cells #[.int .i64 0, .int .i64 0, .int .i64 0] 35) = w1 at HBA H1 H2 H3 H4 H5 HZ d0 d1 d2 z0 ⊢
  go_wp2_with fail
  refine (CMX.out _ H5.out).mono ?_
  rintro e w2 ⟨rfl, rfl⟩
  go_wp2_with fail
  refine (CMN.out _ H5.out).mono ?_
  rintro e w2 ⟨rfl, rfl⟩
  generalize hhe : heI os ms cost slow = h at *
  generalize hli : liI os ms cost slow = l at *
  have HHE := Lib.hid hhe
  have HLI := Lib.hid hli
  clear hhe hli
  obtain ⟨a2, rfl, _, e2h⟩ := H2.out.vs h hhl
  obtain ⟨a2', ea2, _, e2l⟩ := H2.out.vs l hll
  injection ea2 with ea2
  subst ea2
  obtain ⟨a5, rfl, _, e5h⟩ := H5.out.vs h (by rw [HLL.out]; exact hhl)
  have hhi : (h : Int) < (ms.length : Int) := by omega
  have hli : (l : Int) < (ms.length : Int) := by omega
  have hL5 : (ldL os ms cost slow).length = ms.length := HLL.out
  go_upto_region 3 with fail
  go_quiet (fail)
  go_upto_region 4 with fail
  go_quiet (fail)
  clear e2h e2l e5h hL5
  go_wp2_with fail
  go_loopw [16, 17, 39] (fun g m i W => LiRel os ms cost slow h l w1 g m i W) (fun g m i W => os.length - (intOf i).toNat)
  case atStart => exact ⟨0, rfl, rfl, rfl, Nat.zero_le _, Lib.hid (below_to_drewN (Below.refl _ _) _)⟩
  case round =>
    obtain ⟨q, rfl, rfl, rfl, hq, HW⟩ := hrel
    by_cases hlt : q < os.length
    · obtain ⟨ad, rfl, _, e0⟩ := (H1.out.below HW.out).vs q hlt
      have hql : (q : Int) < (os.length : Int) := by omega
      by_cases he : iAt os q = iAt ms h
      · have HTK := Lib.hid (bst_take HE.out hhl hll hlt he)
        have HST := Lib.hid (bst_stay HE.out hhl hll hlt he)
        have he' : (iAt os q != iAt ms h) = false := by simpa using he
        clear he
        obtain ⟨a3, rfl, _, e3⟩ := (H3.out.below HW.out).vs q (by have := HP.out.2.2.1; omega)
        obtain ⟨a4, rfl, _, e4h⟩ := (H4.out.below HW.out).vs h (by have := HP.out.2.2.2.1; omega)
        obtain ⟨a4', ea4, _, e4l⟩ := (H4.out.below HW.out).vs l (by have := HP.out.2.2.2.1; omega)
        injection ea4 with ea4
        subst ea4
        obtain ⟨a5', ea5, _, e5h⟩ := (H5.out.below HW.out).vs h (by rw [HLL.out]; exact hhl)
        injection ea5 with ea5
        subst ea5
        obtain ⟨a5', ea5, _, e5l⟩ := (H5.out.below HW.out).vs l (by rw [HLL.out]; exact hll)
        injection ea5 with ea5
        subst ea5
        have hqc : (q : Int) < (cost.length : Int) := by have := HP.out.2.2.1; omega
        have hhs : (h : Int) < (slow.length : Int) := by have := HP.out.2.2.2.1; omega
        have hls : (l : Int) < (slow.length : Int) := by have := HP.out.2.2.2.1; omega
        have hc := HP.out.2.2.2.2.1 _ (iAt_mem cost q (by omega))
        have hsh := HP.out.2.2.2.2.2 _ (iAt_mem slow h (by omega))
        have hsl := HP.out.2.2.2.2.2 _ (iAt_mem slow l (by omega))
        have hp1 := prod_bd hc hsh
        have hp2 := prod_bd hc hsl
        have hyh := ldI_bd (os := os) (w := iAt ms h) HP.out.2.2.2.2.1 hsh os.length (by have := HP.out.2.2.1; omega)
        have hyl := ldI_bd (os := os) (w := iAt ms l) HP.out.2.2.2.2.1 hsl os.length (by have := HP.out.2.2.1; omega)
        rw [← ldL_at hhl] at hyh
        rw [← ldL_at hll] at hyl
        have HG := Lib.hid (show gtI os ms cost slow h l q = max (iAt (ldL os ms cost slow) h - iAt cost q * iAt slow h) (iAt (ldL os ms cost slow) l + iAt cost q * iAt slow l) from rfl)
        clear hc hsh hsl
        generalize iAt (ldL os ms cost slow) h = yh at *
        generalize iAt (ldL os ms cost slow) l = yl at *
        generalize iAt cost q = cx at *
        generalize iAt slow h = sh at *
        generalize iAt slow l = sl at *
        obtain ⟨q1, hq1⟩ : ∃ q1, cx * sh = q1 := ⟨_, rfl⟩
        obtain ⟨q2, hq2⟩ : ∃ q2, cx * sl = q2 := ⟨_, rfl⟩
        rw [hq1] at hp1 HG
        rw [hq2] at hp2 HG
        obtain ⟨z1, hz1⟩ : ∃ z1, yh - q1 = z1 := ⟨_, rfl⟩
        obtain ⟨z2, hz2⟩ : ∃ z2, yl + q2 = z2 := ⟨_, rfl⟩
        rw [hz1, hz2] at HG
        obtain ⟨gq, hgq⟩ : ∃ gq, max z1 z2 = gq := ⟨_, rfl⟩
        rw [hgq] at HG
        rw [HG.out] at HTK HST
        have hw1 := wrap_small (x := q1) (by omega)
        have hw2 := wrap_small (x := q2) (by omega)
        have hw3 := wrap_small (x := z1) (by omega)
        have hw4 := wrap_small (x := z2) (by omega)
        clear hp1 hp2 hyh hyl
        go_upto_region 9 with fail
        go_quiet (fail)
        clear hq1 hq2 hz1 hz2 hgq hw1 hw2 hw3 hw4 e3 e4h e4l e5h e5l
        have HWD := Lib.hid (below_to_drewN HW.out nq)
        by_cases hg : gq < (bst os ms cost slow h l q).2
        · have HB := Lib.hid (HTK.out hg)
          generalize bst os ms cost slow h l q = b at *
          go_wp2_with fail
          go_roundw
          case rel => exact ⟨q + 1, by go_num, by rw [HB.out], by rw [HB.out], by omega, HWD⟩
          case measure => simp [intOf]; omega
        · have HB := Lib.hid (HST.out hg)
          generalize bst os ms cost slow h l q = b at *
          go_wp2_with fail
          go_roundw
          case rel => exact ⟨q + 1, by go_num, by rw [HB.out], by rw [HB.out], by omega, HWD⟩
          case measure => simp [intOf]; omega
      · have HB := Lib.hid (bst_skip (cost := cost) (slow := slow) (w := l) he)
        have he' : (iAt os q != iAt ms h) = true := by simpa using he
        clear he
        generalize bst os ms cost slow h l q = b at *
        go_wp2_with fail
        go_roundw
        case rel => exact ⟨q + 1, by go_num, by rw [HB.out], by rw [HB.out], by omega, HW⟩
        case measure => simp [intOf]; omega
    · have hk' : q = os.length := by omega
      subst hk'
      rw [← HFIN.out]
      have r0 := (HW.out.cell (p := ⟨w.heap.size, 0, none⟩) HZ.out).trans d0.out
      have r1 := (HW.out.cell (p := ⟨w.heap.size, 1, none⟩) HZ.out).trans d1.out
      have r2 := (HW.out.cell (p := ⟨w.heap.size, 2, none⟩) HZ.out).trans d2.out
      have f0 := (HW.out.frozen (p := ⟨w.heap.size, 0, none⟩) HZ.out).trans (z0.out 0)
      have f1 := (HW.out.frozen (p := ⟨w.heap.size, 1, none⟩) HZ.out).trans (z0.out 1)
      have f2 := (HW.out.frozen (p := ⟨w.heap.size, 2, none⟩) HZ.out).trans (z0.out 2)
      have HBL := Lib.hid (HBA.out.trans (HW.out.mono HBA.out.size))
      rcases bt_spec os ms cost slow with hb | ⟨p, hb, hpl⟩
      · have HBT := Lib.hid hb
        generalize btI os ms cost slow = bt at hb ⊢
        go_wp2_with fail
        refine bodyPost_ret (v := .tuple #[.agg #[.int .i64 0, .int .i64 0, .int .i64 0], .bool false]) (by simp [results, Try.results35, go_sem, r0, r1, r2]) rfl ?_
        exact ⟨.inl ⟨HBT.out, rfl⟩, ((HBL.out.setCell (by simp) _).setCell (by simp) _).setCell (by simp) _⟩
      · have HBT := Lib.hid hb
        rw [hb]
        clear hb
        go_wp2_with fail
        refine bodyPost_ret (v := .tuple #[.agg #[.int .i64 p, .int .i64 (iAt ms h), .int .i64 (iAt ms l)], .bool true]) (by simp [results, Try.results35, go_sem, r0, r1, r2]) rfl ?_
        exact ⟨.inr ⟨p, HBT.out, hpl, by rw [HHE.out, HLI.out]⟩, ((HBL.out.setCell (by simp) _).setCell (by simp) _).setCell (by simp) _⟩
end Go.Proofs.Ytabbpccfdpphjaa
