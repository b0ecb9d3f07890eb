import Derived.Test.YtgdgjkdigbohlaaRgC
import Derived.Laws.EntriesVeiled
/-
  Words for spots in memory; the contracts of ring.spots and ring.next. No condition but that there are at most five members, and at most a thousand spots.
-/
namespace Go.Proofs.Ytgdgjkdigbohlaa
open Go.ChangeShapes Go.WideShapes Go.ChangeAt Go.RowKit
set_option linter.unusedVariables false

def sc (l : List Sp) : List Value := l.flatMap fun s => [.int .u32 s.1, .int .i64 s.2]
theorem sc_length (l : List Sp) : (sc l).length = l.length * 2 := by
  unfold sc
  induction l with
  | nil => rfl
  | cons e r ih => simp only [List.flatMap_cons, List.length_append, ih, List.length_cons, List.length_nil]; omega
theorem sc_append (a b : List Sp) : sc (a ++ b) = sc a ++ sc b := by unfold sc; simp
theorem sc_one (l : List Sp) : ∀ u ∈ sc l, u.oneCell' = true := by
  intro u hu
  unfold sc at hu
  obtain ⟨e, _, he⟩ := List.mem_flatMap.1 hu
  simp at he
  rcases he with rfl | rfl <;> rfl
def sAt (l : List Sp) (k : Nat) : Sp := l.getD k (0, 0)
theorem sAt_get (l : List Sp) (k : Nat) (h : k < l.length) : sAt l k = l[k] := by unfold sAt; rw [List.getD_eq_getElem?_getD, List.getElem?_eq_getElem h]; rfl
theorem sAt_mem (l : List Sp) (k : Nat) (h : k < l.length) : sAt l k ∈ l := by rw [sAt_get l k h]; exact List.getElem_mem h
theorem stake_at (l : List Sp) (k : Nat) (h : k < l.length) : l.take (k + 1) = l.take k ++ [sAt l k] := by rw [sAt_get l k h]; exact List.take_succ_eq_append_getElem h
theorem sc_at (l : List Sp) (k : Nat) (h : k < l.length) : (sc l)[k * 2]? = some (.int .u32 (sAt l k).1) ∧ (sc l)[k * 2 + 1]? = some (.int .i64 (sAt l k).2) := by
  induction l generalizing k with
  | nil => simp at h
  | cons e r ih =>
    cases k with
    | zero => simp [sc, sAt]
    | succ k =>
      have := ih k (by simpa using h)
      have e1 : (k + 1) * 2 = k * 2 + 2 := by omega
      have e2 : k * 2 + 2 + 1 = k * 2 + 1 + 2 := by omega
      rw [e1, e2]
      exact this
theorem Lies.sp {w : World} {B : Nat} {A : Option Addr} {n : Nat} {l : List Sp} (h : Lies w B 2 A n (sc l)) (k : Nat) (hk : k < l.length) :
    ∃ ad, A = some ad ∧ ad.block < B ∧ w.cell? (ad.add (k * 2)) = some (.int .u32 (sAt l k).1) ∧ w.cell? ⟨(ad.add (k * 2)).block, (ad.add (k * 2)).off + 1, none⟩ = some (.int .i64 (sAt l k).2) := by
  obtain ⟨a0, a1⟩ := sc_at l k hk
  obtain ⟨ad, e, hb, c0⟩ := h.2 _ _ a0
  obtain ⟨ad1, e1, _, c1⟩ := h.2 _ _ a1
  rw [e] at e1
  injection e1 with e1
  subst e1
  rw [← add_add] at c1
  exact ⟨ad, e, hb, c0, c1⟩
def SoRel (ms : List Int) (w : World) (o i : Value) (W : World) : Prop := ∃ (k : Nat) (D : Option Addr) (d : Nat), i = .int .i64 k ∧ k ≤ ms.length ∧ o = .slice D (spL (ms.take k)).length d ∧ Hid (Below w.heap.size w W) ∧ Hid (W.ownsRow w.heap.size 49 2 (.slice D (spL (ms.take k)).length d) (spL (ms.take k)).length (sc (spL (ms.take k))))
def SnRel (L : List Sp) (v : Int) (w : World) (o i : Value) (W : World) : Prop := ∃ (j : Nat) (D : Option Addr) (d : Nat), i = .int .i64 j ∧ j ≤ 8 ∧ o = .slice D (L ++ sp1 v j).length d ∧ Hid (Below w.heap.size w W) ∧ Hid (W.ownsRow w.heap.size 49 2 (.slice D (L ++ sp1 v j).length d) (L ++ sp1 v j).length (sc (L ++ sp1 v j)))
set_option maxHeartbeats 1000000 in
theorem spots_any (A : Option Addr) (c : Nat) (ms : List Int) (w : World) (hA : Lies w w.heap.size 1 A ms.length (vc ms)) (hn : ms.length ≤ 5) :
    Calls Try.prog 28 #[.slice A ms.length c] w fun e w' => ∃ D d, e = .returned (.slice D (spL ms).length d) ∧ w'.ownsRow w.heap.size 49 2 (.slice D (spL ms).length d) (spL ms).length (sc (spL ms)) ∧ Below w.heap.size w w' := by
  obtain ⟨iv, hiv, hzv, hzsv, hzbv⟩ := info_parts (show (Try.prog.info? 49).map (fun i => (i.zero, i.size, i.bytes)) = some (some (.agg #[.int .u32 0, .int .i64 0]), 2, 16) by kernel_rfl)
  have IV := Lib.hid hiv
  have ZV := Lib.hid hzv
  have SV := Lib.hid hzsv
  have BV := Lib.hid hzbv
  have HA := Lib.hid hA
  clear hiv hzv hzsv hzbv hA
  go_enter Try.func28, Try.ntmps28
  go_wp2_with fail
  go_loopw [3, 9, 13] (fun o i _ W => SoRel ms w o i W) (fun o i _ W => ms.length - (intOf i).toNat)
  case atStart => exact ⟨0, none, 0, rfl, Nat.zero_le _, rfl, Lib.hid (Below.refl _ _), Lib.hid (World.ownsRow_nil _ _ _ _)⟩
  case round =>
    obtain ⟨wo, rfl⟩ : ∃ wo : World, wo = wr := ⟨_, rfl⟩
    obtain ⟨k, D, d, rfl, hk, rfl, HB, HO⟩ := hrel
    by_cases hlt : k < ms.length
    · obtain ⟨ad, rfl, hadb, e0⟩ := (HA.out.below HB.out).vs k hlt
      have hkl : (k : Int) < (ms.length : Int) := by omega
      have HT := Lib.hid (show spL (ms.take (k + 1)) = spL (ms.take k) ++ sp1 (iAt ms k) 8 by rw [itake_at ms k hlt, spL_snoc])
      have HL := Lib.hid (show (spL (ms.take k)).length ≤ 40 by rw [spL_len, List.length_take]; omega)
      go_wp2_with fail
      generalize spL (ms.take k) = L at *
      generalize iAt ms k = v at *
      go_loopw [3, 13] (fun o i W => SnRel L v w o i W) (fun o i W => 8 - (intOf i).toNat)
      case atStart => exact ⟨0, D, d, rfl, by omega, by show _ = Value.slice D (L ++ []).length d; rw [List.append_nil], HB, by show Hid (wo.ownsRow w.heap.size 49 2 (.slice D (L ++ []).length d) (L ++ []).length (sc (L ++ []))); rw [List.append_nil]; exact HO⟩
      case round =>
        obtain ⟨j, D, d, rfl, hj, rfl, HB, HO⟩ := hrel
        by_cases hlj : j < 8
        · have hj8 : (j : Int) < 8 := by omega
          have HQ := Lib.hid (sp1_succ v j)
          have HN := Lib.hid (show (L ++ sp1 v j).length ≤ 48 by rw [List.length_append, sp1_len]; have := HL.out; omega)
          obtain ⟨X, hX⟩ : ∃ X, X = L ++ sp1 v j := ⟨_, rfl⟩
          have HX := Lib.hid hX
          rw [← hX] at HO HN ⊢
          clear hX
          go_wp2_with fail
          refine (place_any v j _).mono ?_
          rintro e w1 ⟨rfl, rfl⟩
          have HO1 := Lib.hid (own_next HO.out (below_alloc wr (.cells #[.int .u32 (plI v j), .int .i64 v] 49)))
          have HL1 := Lib.hid (lies_cells wr (sc [(plI v j, v)]) 49 1 2 rfl)
          have HB1 := Lib.hid (HB.out.trans ((below_alloc wr (.cells #[.int .u32 (plI v j), .int .i64 v] 49)).mono HB.out.size))
          go_wp2_with (at_builtin; go_must (refine wpList_app2 _ rfl (.tmp 16) (.tmp 22) 46 rfl w.heap.size 49 iv _ 2 16 Try.underlying46 IV.out ZV.out SV.out BV.out rfl (by decide) D X.length d (sc X) rfl HO1.out (wr.heap.size + 1) (some ⟨wr.heap.size, 0, none⟩) 1 1 (sc [(plI v j, v)]) rfl HL1.out (sc_one _) (X.length + 1) (sc X ++ sc [(plI v j, v)]) rfl rfl (by have := HN.out; unfold maxLen; omega) (by have := HN.out; omega) HB1.out.size ?_))
          intro A9 c9 w9 ho9 hb9 hg9
          have HO9 := Lib.hid ho9
          have HB9 := Lib.hid (HB1.out.trans hb9)
          clear ho9 hb9 hg9
          go_wp2_with fail
          go_roundw
          case rel => exact ⟨j + 1, A9, c9, by go_num, by omega, by rw [HQ.out, ← List.append_assoc, ← HX.out, List.length_append]; rfl, HB9, by rw [HQ.out, ← List.append_assoc, ← HX.out, sc_append, List.length_append]; exact HO9⟩
          case measure => simp [intOf]; omega
        · have hj' : j = 8 := by omega
          subst hj'
          go_wp2_with fail
          go_roundw
          case rel => exact ⟨k + 1, D, d, by go_num, by omega, by rw [HT.out], HB, by rw [HT.out]; exact HO⟩
          case measure => simp [intOf]; omega
    · have hk' : k = ms.length := by omega
      subst hk'
      have HT := Lib.hid (show ms.take ms.length = ms from List.take_length)
      rw [HT.out] at HO ⊢
      go_wp2_with fail
      go_ret
      exact ⟨D, d, rfl, HO.out, HB.out⟩
theorem ear_at (f s : Sp) (w : World) : Calls Try.prog 31 #[.agg #[.int .u32 f.1, .int .i64 f.2], .agg #[.int .u32 s.1, .int .i64 s.2]] w fun e w' => e = .returned (.agg #[.int .u32 (earI f s).1, .int .i64 (earI f s).2]) ∧ Below w.heap.size w w' :=
  ear_any f.1 f.2 s.1 s.2 w
/-- The two spots of 'next' and its result stand in the first three blocks behind w; all that lay in w lies there still. -/
structure Nx (w : World) (f b : Sp) (W : World) : Prop where
  z : w.heap.size + 3 ≤ W.heap.size
  f0 : W.cell? ⟨w.heap.size + 1, 0, none⟩ = some (.int .u32 f.1)
  f1 : W.cell? ⟨w.heap.size + 1, 1, none⟩ = some (.int .i64 f.2)
  b0 : W.cell? ⟨w.heap.size + 1 + 1, 0, none⟩ = some (.int .u32 b.1)
  b1 : W.cell? ⟨w.heap.size + 1 + 1, 1, none⟩ = some (.int .i64 b.2)
  r0 : ∃ v, W.cell? ⟨w.heap.size, 0, none⟩ = some v
  r1 : ∃ v, W.cell? ⟨w.heap.size, 1, none⟩ = some v
  z0 : ∀ d o, d < 3 → W.frozen? ⟨w.heap.size + d, o, none⟩ = false
  bl : Below w.heap.size w W
theorem Nx.next {w W W' : World} {f b : Sp} (h : Nx w f b W) (hb : Below W.heap.size W W') : Nx w f b W' := by
  have hz := h.z
  have k : ∀ d o, d < 3 → W'.cell? ⟨w.heap.size + d, o, none⟩ = W.cell? ⟨w.heap.size + d, o, none⟩ := fun d o hd => hb.cell (p := ⟨w.heap.size + d, o, none⟩) (by show w.heap.size + d < _; omega)
  have kf : ∀ d o, d < 3 → W'.frozen? ⟨w.heap.size + d, o, none⟩ = W.frozen? ⟨w.heap.size + d, o, none⟩ := fun d o hd => hb.frozen (p := ⟨w.heap.size + d, o, none⟩) (by show w.heap.size + d < _; omega)
  obtain ⟨v0, hv0⟩ := h.r0
  obtain ⟨v1, hv1⟩ := h.r1
  exact ⟨Nat.le_trans hz hb.size, (k 1 0 (by omega)).trans h.f0, (k 1 1 (by omega)).trans h.f1, (k 2 0 (by omega)).trans h.b0, (k 2 1 (by omega)).trans h.b1, ⟨v0, (k 0 0 (by omega)).trans hv0⟩, ⟨v1, (k 0 1 (by omega)).trans hv1⟩, fun d o hd => (kf d o hd).trans (h.z0 d o hd), h.bl.trans (hb.mono h.bl.size)⟩
theorem Nx.init (w : World) : Nx w (0, 0) (0, 0) (((w.alloc (.cells #[.int .u32 0, .int .i64 0] 49)).alloc (.cells #[.int .u32 0, .int .i64 0] 49)).alloc (.cells #[.int .u32 0, .int .i64 0] 49)) := by
  refine ⟨by simp, by simp [go_sem], by simp [go_sem], by simp [go_sem], by simp [go_sem], ⟨.int .u32 0, by simp [go_sem]⟩, ⟨.int .i64 0, by simp [go_sem]⟩, ?_, ((((Below.refl _ w).alloc (Nat.le_refl _) _).alloc (by simp) _).alloc (by simp; omega) _)⟩
  intro d o hd
  obtain rfl | rfl | rfl : d = 0 ∨ d = 1 ∨ d = 2 := by omega
  all_goals simp [go_sem]
theorem cell_set {W : World} {p a : Addr} {u v : Value} (h : a.block ≠ p.block) (hc : W.cell? a = some v) : (W.setCell p u).cell? a = some v := (World.cell?_of_block (w := W) (Below.heap_setCell _ _ _ _ h)).trans hc
theorem frozen_setAny {W : World} {p a : Addr} {u : Value} (hc : W.frozen? a = false) : (W.setCell p u).frozen? a = false := by simpa [go_sem] using hc
theorem Nx.setF {w W : World} {f b : Sp} (h : Nx w f b W) (x : Int) (y : Int) : Nx w (x, y) b ((W.setCell ⟨w.heap.size + 1, 0, none⟩ (.int .u32 x)).setCell ⟨w.heap.size + 1, 1, none⟩ (.int .i64 y)) := by
  obtain ⟨z, f0, f1, b0, b1, ⟨v0, r0⟩, ⟨v1, r1⟩, z0, bl⟩ := h
  refine ⟨by simpa [World.setCell] using z, by simp [go_sem, f0], by simp [go_sem, f1], cell_set (by simp) (cell_set (by simp) b0), cell_set (by simp) (cell_set (by simp) b1), ⟨v0, cell_set (by simp) (cell_set (by simp) r0)⟩, ⟨v1, cell_set (by simp) (cell_set (by simp) r1)⟩, fun d o hd => frozen_setAny (frozen_setAny (z0 d o hd)), (bl.setCell (by simp) _).setCell (by simp) _⟩
theorem Nx.setB {w W : World} {f b : Sp} (h : Nx w f b W) (x : Int) (y : Int) : Nx w f (x, y) ((W.setCell ⟨w.heap.size + 1 + 1, 0, none⟩ (.int .u32 x)).setCell ⟨w.heap.size + 1 + 1, 1, none⟩ (.int .i64 y)) := by
  obtain ⟨z, f0, f1, b0, b1, ⟨v0, r0⟩, ⟨v1, r1⟩, z0, bl⟩ := h
  refine ⟨by simpa [World.setCell] using z, cell_set (by simp) (cell_set (by simp) f0), cell_set (by simp) (cell_set (by simp) f1), by simp [go_sem, b0], by simp [go_sem, b1], ⟨v0, cell_set (by simp; omega) (cell_set (by simp; omega) r0)⟩, ⟨v1, cell_set (by simp; omega) (cell_set (by simp; omega) r1)⟩, fun d o hd => frozen_setAny (frozen_setAny (z0 d o hd)), (bl.setCell (by simp; omega) _).setCell (by simp; omega) _⟩
def NxRel (l : List Sp) (key : Int) (w : World) (i : Value) (W : World) : Prop := ∃ k : Nat, i = .int .i64 k ∧ k ≤ l.length ∧ Hid (Nx w (fstI (l.take k)) (behI key (l.take k)) W)
set_option maxHeartbeats 2000000 in
theorem next_any (A : Option Addr) (c : Nat) (l : List Sp) (key : Int) (w : World) (hA : Lies w w.heap.size 2 A l.length (sc l)) (hn : l.length ≤ 1000) :
    Calls Try.prog 29 #[.slice A l.length c, .int .u32 key] w fun e w' => e = .returned (.agg #[.int .u32 (nextI key l).1, .int .i64 (nextI key l).2]) ∧ Below w.heap.size w w' := by
  have HA := Lib.hid hA
  have hI := Nx.init w
  clear hA
  go_enter Try.func29, Try.ntmps29
  go_wp2_with fail
  generalize ((w.alloc (.cells #[.int .u32 0, .int .i64 0] 49)).alloc (.cells #[.int .u32 0, .int .i64 0] 49)).alloc (.cells #[.int .u32 0, .int .i64 0] 49) = w3 at hI ⊢
  have HI := Lib.hid hI
  clear hI
  go_loopw [11] (fun i W => NxRel l key w i W) (fun i W => l.length - (intOf i).toNat)
  case atStart => exact ⟨0, rfl, Nat.zero_le _, HI⟩
  case round =>
    obtain ⟨k, rfl, hk, HN⟩ := hrel
    by_cases hlt : k < l.length
    · obtain ⟨ad, rfl, hadb, e0, e1⟩ := (HA.out.below HN.out.bl).sp k hlt
      have hkl : (k : Int) < (l.length : Int) := by omega
      have HF := Lib.hid (show fstI (l.take (k + 1)) = earI (fstI (l.take k)) (sAt l k) by rw [stake_at l k hlt, fstI_snoc])
      have HY := Lib.hid (show key ≤ (sAt l k).1 → behI key (l.take (k + 1)) = earI (behI key (l.take k)) (sAt l k) by intro h; rw [stake_at l k hlt, behI_yes _ h])
      have HZ := Lib.hid (show ¬ key ≤ (sAt l k).1 → behI key (l.take (k + 1)) = behI key (l.take k) by intro h; rw [stake_at l k hlt, behI_no _ h])
      generalize fstI (l.take k) = f at HN HF
      generalize behI key (l.take k) = b at HN HY HZ
      generalize sAt l k = s at *
      have HN4 := Lib.hid (HN.out.next (below_alloc wr (.cells #[.int .u32 s.1, .int .i64 s.2] 49)))
      have d0 : (wr.alloc (.cells #[.int .u32 s.1, .int .i64 s.2] 49)).cell? ⟨wr.heap.size, 0, none⟩ = some (.int .u32 s.1) := by simp [go_sem]
      have d1 : (wr.alloc (.cells #[.int .u32 s.1, .int .i64 s.2] 49)).cell? ⟨wr.heap.size, 1, none⟩ = some (.int .i64 s.2) := by simp [go_sem]
      have hsz : w.heap.size + 3 ≤ wr.heap.size := HN.out.z
      have f0 := HN4.out.f0
      have f1 := HN4.out.f1
      go_upto_region 5 with fail
      clear e0 e1
      have HSZ := Lib.hid (show wr.heap.size < (wr.alloc (.cells #[.int .u32 s.1, .int .i64 s.2] 49)).heap.size by simp)
      generalize wr.alloc (.cells #[.int .u32 s.1, .int .i64 s.2] 49) = w4 at HN4 d0 d1 f0 f1 HSZ ⊢
      go_wp2_with fail
      refine (ear_at f s _).mono ?_
      rintro e w5 ⟨rfl, hb5⟩
      have HN5 := Lib.hid (HN4.out.next hb5)
      have g0 := HN5.out.f0
      have g1 := HN5.out.f1
      have gz := HN5.out.z0 1 0 (by omega)
      have gz' := HN5.out.z0 1 1 (by omega)
      have gsz := HN5.out.z
      have D0 := Lib.hid ((hb5.cell (p := ⟨wr.heap.size, 0, none⟩) HSZ.out).trans d0)
      have D1 := Lib.hid ((hb5.cell (p := ⟨wr.heap.size, 1, none⟩) HSZ.out).trans d1)
      have hs4 : wr.heap.size < w5.heap.size := Nat.lt_of_lt_of_le HSZ.out hb5.size
      clear hb5 f0 f1 d0 d1
      generalize earI f s = f' at HF ⊢
      go_upto_region 6 with fail
      have HN6 := Lib.hid (HN5.out.setF f'.1 f'.2)
      have q0 : ((w5.setCell ⟨w.heap.size + 1, 0, none⟩ (.int .u32 f'.1)).setCell ⟨w.heap.size + 1, 1, none⟩ (.int .i64 f'.2)).cell? ⟨wr.heap.size, 0, none⟩ = some (.int .u32 s.1) := cell_set (by simp; omega) (cell_set (by simp; omega) D0.out)
      have q1 : ((w5.setCell ⟨w.heap.size + 1, 0, none⟩ (.int .u32 f'.1)).setCell ⟨w.heap.size + 1, 1, none⟩ (.int .i64 f'.2)).cell? ⟨wr.heap.size, 1, none⟩ = some (.int .i64 s.2) := cell_set (by simp; omega) (cell_set (by simp; omega) D1.out)
      have HS6 := Lib.hid (show wr.heap.size < ((w5.setCell ⟨w.heap.size + 1, 0, none⟩ (.int .u32 f'.1)).setCell ⟨w.heap.size + 1, 1, none⟩ (.int .i64 f'.2)).heap.size by simpa [World.setCell] using hs4)
      clear g0 g1 gz gz' gsz hs4
      generalize (w5.setCell ⟨w.heap.size + 1, 0, none⟩ (.int .u32 f'.1)).setCell ⟨w.heap.size + 1, 1, none⟩ (.int .i64 f'.2) = w6 at HN6 q0 q1 HS6 ⊢
      by_cases hg : key ≤ s.1
      · have HB := Lib.hid (HY.out hg)
        have b0 := HN6.out.b0
        have b1 := HN6.out.b1
        go_wp2_with fail
        refine (ear_at b s _).mono ?_
        rintro e w7 ⟨rfl, hb7⟩
        have HN7 := Lib.hid (HN6.out.next hb7)
        have g0 := HN7.out.b0
        have g1 := HN7.out.b1
        have gz := HN7.out.z0 2 0 (by omega)
        have gz' := HN7.out.z0 2 1 (by omega)
        have gsz := HN7.out.z
        clear hb7 b0 b1 q0 q1
        generalize earI b s = b' at HB ⊢
        go_wp2_with fail
        go_roundw
        case rel => exact ⟨k + 1, by go_num, by omega, by rw [HF.out, HB.out]; exact Lib.hid (HN7.out.setB b'.1 b'.2)⟩
        case measure => simp [intOf]; omega
      · have HB := Lib.hid (HZ.out (by omega))
        go_wp2_with fail
        go_roundw
        case rel => exact ⟨k + 1, by go_num, by omega, by rw [HF.out, HB.out]; exact HN6⟩
        case measure => simp [intOf]; omega
    · have hk' : k = l.length := by omega
      subst hk'
      have HT := Lib.hid (show l.take l.length = l from List.take_length)
      rw [HT.out] at HN
      have f0 := HN.out.f0
      have f1 := HN.out.f1
      have b0 := HN.out.b0
      have b1 := HN.out.b1
      obtain ⟨v0, r0⟩ := HN.out.r0
      obtain ⟨v1, r1⟩ := HN.out.r1
      have gz : wr.frozen? ⟨w.heap.size, 0, none⟩ = false := HN.out.z0 0 0 (by omega)
      have gz' : wr.frozen? ⟨w.heap.size, 1, none⟩ = false := HN.out.z0 0 1 (by omega)
      have gsz := HN.out.z
      have HBL := Lib.hid HN.out.bl
      have HV := Lib.hid (show nextI key l = if (behI key l).1 = 0 ∧ (behI key l).2 = 0 then fstI l else behI key l from rfl)
      generalize behI key l = b at *
      generalize fstI l = f at *
      by_cases h1 : b.1 = 0
      · by_cases h2 : b.2 = 0
        · have HE := Lib.hid (show nextI key l = f by rw [HV.out, if_pos ⟨h1, h2⟩])
          have h1' : (b.1 == 0) = true := by simpa using h1
          have h2' : (b.2 == 0) = true := by simpa using h2
          clear h1 h2
          go_wp2_with fail
          refine bodyPost_ret (v := .agg #[.int .u32 f.1, .int .i64 f.2]) (by simp [results, Try.results29, go_sem, r0, r1]) rfl ?_
          exact ⟨by rw [HE.out], (HBL.out.setCell (by simp) _).setCell (by simp) _⟩
        · have HE := Lib.hid (show nextI key l = b by rw [HV.out, if_neg (fun h => h2 h.2)])
          have h1' : (b.1 == 0) = true := by simpa using h1
          have h2' : (b.2 == 0) = false := by simpa using h2
          clear h1 h2
          go_wp2_with fail
          refine bodyPost_ret (v := .agg #[.int .u32 b.1, .int .i64 b.2]) (by simp [results, Try.results29, go_sem, r0, r1]) rfl ?_
          exact ⟨by rw [HE.out], (HBL.out.setCell (by simp) _).setCell (by simp) _⟩
      · have HE := Lib.hid (show nextI key l = b by rw [HV.out, if_neg (fun h => h1 h.1)])
        have h1' : (b.1 == 0) = false := by simpa using h1
        clear h1
        go_wp2_with fail
        refine bodyPost_ret (v := .agg #[.int .u32 b.1, .int .i64 b.2]) (by simp [results, Try.results29, go_sem, r0, r1]) rfl ?_
        exact ⟨by rw [HE.out], (HBL.out.setCell (by simp) _).setCell (by simp) _⟩
end Go.Proofs.Ytgdgjkdigbohlaa
