/-
  The contracts of the document's own To and SameOuts (chapter 8). No condition but that the numbers are of 64 bits and not too many.
-/
import Derived.Test.YtcaccjfnibjbpaaWc
import Derived.BigQuiet
import Derived.BigRegion
import Derived.Deep.RegionHeld3
import Derived.Deep.DeepCutAuto
namespace Go.Proofs.Ytcaccjfnibjbpaa
open Go.ChangeShapes Go.WideShapes Go.ChangeAt Go.RowKit
set_option linter.unusedVariables false

theorem toK_next {a k i : Nat} {L : List Ms} (h : i < L.length) : toK a k (L.take (i + 1)) = toK a k (L.take i) ++ (if toHome a k (mAt L i) = true then [mAt L i] else []) := by
  unfold toK
  rw [List.take_succ_eq_append_getElem h, List.filter_append, mAt_get L i h]
  by_cases ht : toHome a k L[i] = true
  · rw [if_pos ht, List.filter_cons_of_pos ht]; rfl
  · rw [if_neg ht, List.filter_cons_of_neg ht]; rfl
theorem toK_le (a k i : Nat) (L : List Ms) : (toK a k (L.take i)).length ≤ L.length := by
  unfold toK
  exact Nat.le_trans (List.length_filter_le _ _) (by rw [List.length_take]; omega)
def ToRel8 (a k : Nat) (L : List Ms) (w1 : World) (o i : Value) (W : World) : Prop := ∃ (j : Nat) (B : Option Addr) (cB : Nat), i = .int .i64 j ∧ j ≤ L.length ∧ o = .slice B (toK a k (L.take j)).length cB ∧ Hid (W.ownsRow w1.heap.size 59 2 (.slice B (toK a k (L.take j)).length cB) (toK a k (L.take j)).length (mc (toK a k (L.take j)))) ∧ Hid (Below w1.heap.size w1 W)
set_option maxRecDepth 20000 in
set_option maxHeartbeats 2000000 in
theorem rto_any (p s l q : Int) (P : Nat) (A : Option Addr) (c : Nat) (L : List Ms) (w : World) (hA : Lies w w.heap.size 2 A L.length (mc L)) (hn : L.length ≤ 100000) (hb : ∀ m ∈ L, bd m.1) (hq1 : 1 ≤ q) (hq6 : q ≤ 6) :
    Calls Try.prog 34 #[.agg #[.int .i64 p, .int .i64 s, .int .i64 l, .int .i64 q], .slice A L.length c, .int .i64 P] w (MlPost (toK q.toNat P L) w) := by
  have mixed : Try.prog.follows .mixedOrders = true := by kernel_rfl
  obtain ⟨i0, hi0, hz0, hzs, hzb⟩ := info_parts (show (Try.prog.info? 59).map (fun i => (i.zero, i.size, i.bytes)) = some (some (.agg #[.int .i64 0, .int .i64 0]), 2, 16) by kernel_rfl)
  have HI0 := Lib.hid hi0
  have HZ0 := Lib.hid hz0
  have HZS := Lib.hid hzs
  have HZB := Lib.hid hzb
  clear hi0 hz0 hzs hzb
  have hb1 := below_alloc w (.cells #[.int .i64 p, .int .i64 s, .int .i64 l, .int .i64 q] 26)
  have HA := Lib.hid (hA.next hb1)
  have HB1 := Lib.hid hb1
  have HBB := Lib.hid hb
  have HJ := Lib.hid (show ∀ W : World, Below (w.alloc (.cells #[.int .i64 p, .int .i64 s, .int .i64 l, .int .i64 q] 26)).heap.size (w.alloc (.cells #[.int .i64 p, .int .i64 s, .int .i64 l, .int .i64 q] 26)) W → W.cell? ⟨w.heap.size, 0, none⟩ = some (.int .i64 p) ∧ W.cell? ⟨w.heap.size, 1, none⟩ = some (.int .i64 s) ∧ W.cell? ⟨w.heap.size, 2, none⟩ = some (.int .i64 l) ∧ W.cell? ⟨w.heap.size, 3, none⟩ = some (.int .i64 q) by
    intro W hb
    refine ⟨?_, ?_, ?_, ?_⟩
    · rw [hb.cell (p := ⟨w.heap.size, 0, none⟩) (by simp)]; simp [go_sem]
    · rw [hb.cell (p := ⟨w.heap.size, 1, none⟩) (by simp)]; simp [go_sem]
    · rw [hb.cell (p := ⟨w.heap.size, 2, none⟩) (by simp)]; simp [go_sem]
    · rw [hb.cell (p := ⟨w.heap.size, 3, none⟩) (by simp)]; simp [go_sem])
  obtain ⟨a, ha⟩ : ∃ a, a = q.toNat := ⟨_, rfl⟩
  rw [← ha]
  have HQA := Lib.hid ha
  clear ha hA hb hb1
  go_enter Try.func34, Try.ntmps34
  go_wp2_with fail
  generalize w.alloc (.cells #[.int .i64 p, .int .i64 s, .int .i64 l, .int .i64 q] 26) = w1 at HA HB1 HJ ⊢
  go_loopw [7, 8] (fun o i W => ToRel8 a P L w1 o i W) (fun o i W => L.length - (intOf i).toNat)
  case atStart => exact ⟨0, none, 0, rfl, Nat.zero_le _, rfl, Lib.hid (World.ownsRow_nil _ _ _ _), Lib.hid (Below.refl _ _)⟩
  case round =>
    obtain ⟨k, B, cB, rfl, hk, rfl, HO, HB⟩ := hrel
    by_cases hlt : k < L.length
    · have hkl : (k : Int) < (L.length : Int) := by omega
      obtain ⟨ad, hA', hadb, e0, e1⟩ := (HA.out.next HB.out).ms k hlt
      subst hA'
      have HNX := Lib.hid (toK_next (a := a) (k := P) hlt)
      have hle := toK_le a P k L
      have HBD := Lib.hid (HBB.out (mAt L k) (by rw [mAt_get L k hlt]; exact List.getElem_mem hlt))
      generalize mAt L k = m at *
      generalize toK a P (L.take k) = X at *
      obtain ⟨m1, m2⟩ := m
      have e0 : wr.cell? (ad.add (k * 2)) = some (.int .i64 m1) := e0
      have HHM := Lib.hid (show decide (homeI q m1 = (P : Int)) = toHome a P (m1, m2) by rw [HQA.out]; have := toHome_iff hq1 hq6 (Int.natCast_nonneg P) (m1, m2); rw [Int.toNat_natCast] at this; exact this)
      have CH := Lib.hid (fun (W : World) (hb : Below wr.heap.size wr W) => rhome_any p s l q m1 W HBD.out)
      have HF := Lib.hid (show ∀ W : World, Below wr.heap.size wr W → W.cell? ⟨w.heap.size, 0, none⟩ = some (.int .i64 p) ∧ W.cell? ⟨w.heap.size, 1, none⟩ = some (.int .i64 s) ∧ W.cell? ⟨w.heap.size, 2, none⟩ = some (.int .i64 l) ∧ W.cell? ⟨w.heap.size, 3, none⟩ = some (.int .i64 q) ∧ W.cell? (ad.add (k * 2)) = some (.int .i64 m1) ∧ Below wr.heap.size wr W by
        intro W hb
        obtain ⟨h0, h1, h2, h3⟩ := HJ.out W (HB.out.trans (hb.mono HB.out.size))
        exact ⟨h0, h1, h2, h3, (hb.cell (by rw [block_add]; exact hadb)).trans e0, hb⟩)
      have HE1 := Lib.hid (show ∀ W : World, Below wr.heap.size wr W → W.cell? ⟨(ad.add (k * 2)).block, (ad.add (k * 2)).off + 1, none⟩ = some (.int .i64 m2) from fun W hb => (hb.cell (p := ⟨(ad.add (k * 2)).block, (ad.add (k * 2)).off + 1, none⟩) (by show (ad.add (k * 2)).block < _; rw [block_add]; exact hadb)).trans e1)
      have q0 := HF.out wr.drew (Below.refl _ _).drew
      generalize homeI q m1 = hm at HHM CH
      clear e0 e1
      go_upto_region 5 with fail
      go_cut [23] (fun s23 W => s23 = .bool (hm == (P : Int)) ∧ ∃ V, V = W ∧ Below wr.heap.size wr V)
      case first =>
        go_region_held3 (fun w' => w'.cell? ⟨w.heap.size, 0, none⟩ = some (.int .i64 p) ∧ w'.cell? ⟨w.heap.size, 1, none⟩ = some (.int .i64 s) ∧ w'.cell? ⟨w.heap.size, 2, none⟩ = some (.int .i64 l) ∧ w'.cell? ⟨w.heap.size, 3, none⟩ = some (.int .i64 q) ∧ w'.cell? (ad.add (k * 2)) = some (.int .i64 m1) ∧ Below wr.heap.size wr w')
          (first | with_reducible exact q1 | with_reducible exact q0)
          (first | ((go_at_call 62); (with_reducible refine (CH.out _ q0.2.2.2.2.2).mono ?_); rintro e w5 ⟨rfl, hb5⟩; have q1 := HF.out w5 (q0.2.2.2.2.2.trans (hb5.mono q0.2.2.2.2.2.size))))
        go_wp2_with fail
        go_meet
        exact ⟨rfl, _, rfl, q1.2.2.2.2.2⟩
      case rest =>
        obtain ⟨rfl, V, hV, hb⟩ := hcut
        subst hV
        have HB5 := Lib.hid (HB.out.trans (hb.mono HB.out.size))
        have HO5 := Lib.hid (own_next HO.out hb)
        have f0 := (HF.out _ hb).2.2.2.2.1
        have f1 := HE1.out _ hb
        clear hb q0 HF HE1 CH hadb
        by_cases hh : hm = (P : Int)
        · have hh' : (hm == (P : Int)) = true := by simpa using hh
          have HN1 := Lib.hid (show toK a P (L.take (k + 1)) = X ++ [(m1, m2)] by rw [HNX.out, if_pos (by rw [← HHM.out]; exact decide_eq_true hh)])
          clear hh
          have hb8 := below_alloc V (.cells #[.int .i64 m1, .int .i64 m2] 59)
          have HO8 := Lib.hid (own_next HO5.out hb8)
          have HB8 := Lib.hid (HB5.out.trans (hb8.mono HB5.out.size))
          have HL8 := Lib.hid (lies_m V (m1, m2))
          clear hb8
          go_wp2_with (at_builtin; go_must (refine wpList_app2 _ rfl (.tmp 24) (.tmp 29) 29 rfl w1.heap.size 59 i0 _ 2 16 Try.underlying29 HI0.out HZ0.out HZS.out HZB.out rfl (by decide) B X.length cB (mc X) rfl HO8.out (V.heap.size + 1) (some ⟨V.heap.size, 0, none⟩) 1 1 (mc [(m1, m2)]) rfl HL8.out (mc_one _) (X ++ [(m1, m2)]).length (mc (X ++ [(m1, m2)])) (by rw [List.length_append]; rfl) (by rw [mc_append]) (by rw [List.length_append]; unfold maxLen; show X.length + 1 ≤ _; omega) (by rw [List.length_append]; show (X.length + 1) * 16 ≤ _; omega) HB8.out.size ?_))
          intro A9 c9 w9 ho9 hb9 hg9
          have HO9 := Lib.hid ho9
          have HB9 := Lib.hid (HB8.out.trans hb9)
          clear ho9 hb9 hg9 f0 f1
          go_wp2_with fail
          go_roundw
          case rel => exact ⟨k + 1, A9, c9, by go_num, by omega, by rw [HN1.out, List.length_append]; rfl, by rw [HN1.out, List.length_append]; exact HO9, HB9⟩
          case measure => simp [intOf]; omega
        · have hh' : (hm == (P : Int)) = false := by simpa using hh
          have HN1 := Lib.hid (show toK a P (L.take (k + 1)) = X by rw [HNX.out, if_neg (by rw [← HHM.out, decide_eq_false hh]; decide), List.append_nil])
          clear hh
          go_wp2_with fail
          go_roundw
          case rel => exact ⟨k + 1, B, cB, by go_num, by omega, by rw [HN1.out], by rw [HN1.out]; exact HO5, HB5⟩
          case measure => simp [intOf]; omega
    · have hk' : k = L.length := by omega
      subst hk'
      rw [List.take_length] at HO ⊢
      have HBF := Lib.hid (HB1.out.trans (HB.out.mono HB1.out.size))
      have HOF := Lib.hid (HO.out.lower HB1.out.size)
      go_wp2_with fail
      go_ret
      exact ⟨B, cB, rfl, HOF.out, HBF.out⟩
def SoRel (n : Nat) (w : World) (i : Value) (W : World) : Prop := ∃ k : Nat, i = .int .i64 k ∧ k ≤ n ∧ Hid (Below w.heap.size w W)
set_option maxRecDepth 20000 in
set_option maxHeartbeats 2000000 in
theorem sameouts_yes (A : Option Addr) (c : Nat) (os : List Le) (B : Option Addr) (d : Nat) (ot : List Le) (w : World) (hA : Lls w w.heap.size A c os) (hB : Lls w w.heap.size B d ot) (he : os.map Le.ms = ot.map Le.ms) (hl : os.length ≤ 100) (hm : ∀ e ∈ os, e.ms.length ≤ 100000) :
    Calls Try.prog 14 #[.slice A os.length c, .slice B ot.length d] w fun e w' => e = .returned (.bool true) ∧ Below w.heap.size w w' := by
  have mixed : Try.prog.follows .mixedOrders = true := by kernel_rfl
  have hlen : ot.length = os.length := by have := congrArg List.length he; simpa using this.symm
  rw [hlen]
  have HLN := Lib.hid hlen
  have HA := Lib.hid hA
  have HB := Lib.hid hB
  have HM := Lib.hid hm
  have HE := Lib.hid he
  clear hlen hA hB hm he
  go_enter Try.func14, Try.ntmps14
  go_wp2_with fail
  go_loopw [5] (fun i W => SoRel os.length w i W) (fun i W => os.length - (intOf i).toNat)
  case atStart => exact ⟨0, rfl, Nat.zero_le _, Lib.hid (Below.refl _ _)⟩
  case round =>
    obtain ⟨k, rfl, hk, HW⟩ := hrel
    by_cases hlt : k < os.length
    · have hlt2 : k < ot.length := by rw [HLN.out]; exact hlt
      have hkl : (k : Int) < (os.length : Int) := by omega
      obtain ⟨ad, hA', hadb, e0⟩ := (HA.out.next HW.out).L.2 k _ (lcl_at os k hlt)
      subst hA'
      obtain ⟨ad2, hB', hadb2, e1⟩ := (HB.out.next HW.out).L.2 k _ (lcl_at ot k hlt2)
      subst hB'
      have h1 := (HA.out.next HW.out).el _ (List.getElem_mem hlt)
      have h2 := (HB.out.next HW.out).el _ (List.getElem_mem hlt2)
      have h3 : ot[k].ms = os[k].ms := by
        have h := congrArg (fun l => l[k]?) HE.out
        simpa [List.getElem?_map, List.getElem?_eq_getElem hlt, List.getElem?_eq_getElem hlt2] using h.symm
      rw [h3] at h2 e1
      have h4 := HM.out _ (List.getElem_mem hlt)
      generalize os[k].A = XA at *
      generalize os[k].c = Xc at *
      generalize os[k].ms = Xm at *
      generalize ot[k].A = YA at *
      generalize ot[k].c = Yc at *
      have C1 := Lib.hid (show ∀ W : World, Below wr.heap.size wr W → Calls Try.prog 37 #[.slice XA Xm.length Xc, .slice YA Xm.length Yc] W fun e w' => e = .returned (.bool true) ∧ Below W.heap.size W w' from fun W hb => by
        have h := sameM_any XA Xm.length Xc Xm YA Xm.length Yc Xm W (h1.next hb) (h2.next hb) (by omega) (by omega)
        rw [decide_eq_true rfl] at h
        exact h)
      have HF := Lib.hid (show ∀ W : World, Below wr.heap.size wr W → W.cell? (ad.add k) = some (.slice XA Xm.length Xc) ∧ W.cell? (ad2.add k) = some (.slice YA Xm.length Yc) ∧ Below wr.heap.size wr W from fun W hb => ⟨(hb.cell (by rw [block_add]; exact hadb)).trans e0, (hb.cell (by rw [block_add]; exact hadb2)).trans e1, hb⟩)
      have q0 := HF.out wr.drew (Below.refl _ _).drew
      clear h1 h2 h3 e0 e1 hadb hadb2
      go_wp2_with fail
      go_region_held3 (fun w' => w'.cell? (ad.add k) = some (.slice XA Xm.length Xc) ∧ w'.cell? (ad2.add k) = some (.slice YA Xm.length Yc) ∧ Below wr.heap.size wr w')
        (first | with_reducible exact q1 | with_reducible exact q0)
        (first | ((go_at_call 37); (with_reducible refine (C1.out _ q0.2.2).mono ?_); rintro e w5 ⟨rfl, hb5⟩; have q1 := HF.out w5 (q0.2.2.trans (hb5.mono q0.2.2.size))))
      have HW5 := Lib.hid (HW.out.trans (q1.2.2.mono HW.out.size))
      clear q0 q1 hb5
      go_wp2_with fail
      go_roundw
      case rel => exact ⟨k + 1, by go_num, by omega, HW5⟩
      case measure => simp [intOf]; omega
    · have hk' : k = os.length := by omega
      subst hk'
      go_wp2_with fail
      go_ret
      exact ⟨rfl, HW.out⟩
end Go.Proofs.Ytcaccjfnibjbpaa
