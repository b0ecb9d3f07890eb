import Derived.Test.YtpgdddjjjfkneaaGreatDoorKm
import Derived.Test.YtpgdddjjjfkneaaGreatDoorKl
import Derived.Lib.AppendZeros
import Derived.Deep.DeepMust
/-
  A row of messages of the call's own, as the sort wants it and leaves it; the contracts of slices.Grow at nil, slices.SortStableFunc at a row of the call's own. No condition but that the messages are not too many.
-/
namespace Go.Proofs.YtpgdddjjjfkneaaGreatDoor
open Go.RowKit Go.Sort
set_option linter.unusedVariables false

theorem flat_mc (l : List Ms) : (flatK me 2 l.toArray).toList = mc l := by
  apply List.ext_getElem?
  intro t
  by_cases ht : t < l.length * 2
  · have hs : t < (flatK me 2 l.toArray).size := by rw [size_flatK]; simpa using ht
    rw [Array.getElem?_toList, Array.getElem?_eq_getElem hs, ← getElem!_pos _ t hs, get_flatK _ _ _ _ (by simpa using ht)]
    have hq : t / 2 < l.length := by omega
    obtain ⟨e0, e1⟩ := mc_at l (t / 2) hq
    have ea : l.toArray[t / 2]! = mAt l (t / 2) := by rw [mAt_get l _ hq, getElem!_pos _ _ (by simpa using hq)]; simp
    rw [ea]
    rcases Nat.mod_two_eq_zero_or_one t with h | h
    · rw [h]
      have : t = t / 2 * 2 := by omega
      rw [← this] at e0
      rw [e0]; rfl
    · rw [h]
      have : t = t / 2 * 2 + 1 := by omega
      rw [← this] at e1
      rw [e1]; rfl
  · rw [Array.getElem?_toList, Array.getElem?_eq_none (show (flatK me 2 l.toArray).size ≤ t by rw [size_flatK]; simp; omega), List.getElem?_eq_none (show (mc l).length ≤ t by rw [mc_length]; omega)]
section
variable {w w' : World} {base g n cap : Nat} {l : List Ms}

theorem own_len {A : Option Addr} {c : Nat} (h : w.ownsRow base 118 2 (.slice A n c) n (mc l)) : l.length = n := by
  have := h.1
  rw [mc_length] at this
  omega
theorem own_holds (h : w.ownsRow base 118 2 (.slice (some ⟨g, 0, none⟩) n cap) n (mc l)) : HoldsK me 2 w g 0 l.toArray := by
  intro j hj
  have hj' : j < (mc l).length := by rw [mc_length]; rw [size_flatK] at hj; simpa using hj
  have e : (mc l)[j]? = some ((flatK me 2 l.toArray)[j]!) := by
    rw [← flat_mc, Array.getElem?_toList, Array.getElem?_eq_getElem hj, getElem!_pos _ j hj]
  refine ⟨?_, h.frozenAt _⟩
  have := h.cells (g := g) rfl j _ e
  rw [show (⟨g, 0, none⟩ : Addr).add j = ⟨g, 0 + j, none⟩ by unfold Addr.add; split <;> simp_all] at this
  exact this
theorem own_row (h : w.ownsRow base 118 2 (.slice (some ⟨g, 0, none⟩) n cap) n (mc l)) : Row w g 0 n :=
  ⟨⟨l.toArray, by simpa using own_len h, own_holds h⟩, (h.lt g rfl).2⟩
theorem own_sorted (h : w.ownsRow base 118 2 (.slice (some ⟨g, 0, none⟩) n cap) n (mc l)) (d : Array Ms) (hd : d.size = n) (S : Sw w g 0 d w') :
    w'.ownsRow base 118 2 (.slice (some ⟨g, 0, none⟩) n cap) n (mc d.toList) ∧ Below base w w' := by
  obtain ⟨q, os, rfl⟩ := S
  have hlt := (h.lt g rfl).2
  have hb0 := (h.lt g rfl).1
  rcases h.2 with ⟨e0, _⟩ | ⟨g', cap', cur, e0, hb, hg, hn, hm, hs, ht⟩
  · cases e0
  · injection e0 with e1 _ e3
    injection e1 with e1
    injection e1 with e1
    subst e1; subst e3
    have hsz : (flatK me 2 d).size = n * 2 := by rw [size_flatK, hd]
    have hgs : ∀ k, k < w.heap.size → (grow (putRowK me 2 (Sort.ahead w q) g 0 d) os).heap[k]? = (putRowK me 2 (Sort.ahead w q) g 0 d).heap[k]? := by
      intro k hk
      show ((putRowK me 2 (Sort.ahead w q) g 0 d).heap ++ os)[k]? = _
      rw [Array.getElem?_append_left]
      simpa [putRowK, putRow, mapBlock, Sort.ahead] using hk
    refine ⟨⟨by rw [mc_length]; simp; omega, .inr ⟨g, cap, putCells id 0 (flatK me 2 d) cur, rfl, hb, ?_, hn, hm, by simpa [putCells] using hs, ?_⟩⟩, ?_⟩
    · rw [hgs g hlt]
      simp [putRowK, putRow, mapBlock, Sort.ahead, Array.getElem?_modify, hg, onCells]
    · have hf : mc d.toList = (flatK me 2 d).toList := by rw [← flat_mc]
      rw [hf]
      apply List.ext_getElem?
      intro j
      rw [List.getElem?_take, Array.getElem?_toList, Array.getElem?_toList]
      by_cases hj : j < n * 2
      · have hjc : j < cur.size := by rw [hs]; have := Nat.mul_le_mul_right 2 hn; omega
        simp only [if_pos hj, putCells, Array.getElem?_mapIdx, Array.getElem?_eq_getElem hjc, Option.map_some]
        rw [if_pos (by omega), Array.getElem?_eq_getElem (by omega)]
        simp
        exact getElem!_pos _ j _
      · rw [if_neg hj, Array.getElem?_eq_none (by omega)]
    · refine ⟨rfl, rfl, rfl, ?_, fun k hk => ?_⟩
      · show w.heap.size ≤ ((putRowK me 2 (Sort.ahead w q) g 0 d).heap ++ os).size
        simp [putRowK, putRow, mapBlock, Sort.ahead]
      · rw [hgs k (by omega)]
        simp [putRowK, putRow, mapBlock, Sort.ahead, Array.getElem?_modify, show g ≠ k by omega]
end

/-- The sort at nil. -/
theorem ins_nil (w : World) : Calls Tryz.prog 109 #[.slice none 0 0, .int .i64 0, .int .i64 0, .func (.func 85) #[] #[]] w fun e w' => e = .returned (.tuple #[]) ∧ w = w' := by
  go_enter Tryz.func109, Tryz.ntmps109
  go_wp2_with fail
  go_loopw [8] (fun i W => i = .int .i64 1 ∧ w = W) (fun i W => 0)
  case atStart => exact ⟨rfl, rfl⟩
  case round =>
    obtain ⟨rfl, rfl⟩ := hrel
    go_wp2_with fail
    go_end0
    exact ⟨rfl, rfl⟩
theorem stable_nil (w : World) : Calls Tryz.prog 127 #[.slice none 0 0, .int .i64 0, .func (.func 85) #[] #[]] w fun e w' => e = .returned (.tuple #[]) ∧ w = w' := by
  go_enter Tryz.func127, Tryz.ntmps127
  go_wp2_with fail
  go_loopw [7, 8] (fun a b W => a = .int .i64 0 ∧ b = .int .i64 20 ∧ w = W) (fun a b W => 0)
  case atStart => exact ⟨rfl, rfl, rfl⟩
  case round =>
    obtain ⟨rfl, rfl, rfl⟩ := hrel
    go_wp2_with fail
    refine (ins_nil _).mono ?_
    rintro e w2 ⟨rfl, rfl⟩
    go_wp2_with fail
    go_loopw [6] (fun s W => s = .int .i64 20 ∧ w = W) (fun s W => 0)
    case atStart => exact ⟨rfl, rfl⟩
    case round =>
      obtain ⟨rfl, rfl⟩ := hrel
      go_wp2_with fail
      go_end0
      exact ⟨rfl, rfl⟩
/-- SortStableFunc at a row of the call's own. -/
theorem sortf_any (base : Nat) (A : Option Addr) (n c : Nat) (l : List Ms) (w : World) (h : w.ownsRow base 118 2 (.slice A n c) n (mc l)) (hn : n ≤ 1000000) :
    Calls Tryz.prog 106 #[.slice A n c, .func (.func 85) #[] #[]] w fun e w' => e = .returned (.tuple #[]) ∧ w'.ownsRow base 118 2 (.slice A n c) n (mc (msort l)) ∧ Below base w w' := by
  have hl := own_len h
  rcases h.2 with ⟨e0, h0⟩ | ⟨g, cap, cur, e0, hb, hg, rest⟩
  · injection e0 with e1 e2 e3
    subst e1 e2 e3
    have : l = [] := List.eq_nil_of_length_eq_zero hl
    subst this
    go_enter Tryz.func106, Tryz.ntmps106
    go_wp2_with fail
    refine (stable_nil _).mono ?_
    rintro e w2 ⟨rfl, rfl⟩
    go_wp2_with fail
    go_end0
    exact ⟨rfl, World.ownsRow_nil _ _ _ _, Below.refl _ _⟩
  · injection e0 with e1 e2 e3
    subst e1 e3
    have HC := Lib.hid (stable_any c l.toArray w (own_row h) (by simpa using hl) (Sw.start (own_holds h)) (by omega))
    have HO := Lib.hid h
    have HL := Lib.hid hl
    clear rest hg hb h hl
    go_enter Tryz.func106, Tryz.ntmps106
    go_wp2_with fail
    refine HC.out.mono ?_
    rintro e w2 ⟨rfl, d, S, P, T⟩
    have hd : d.size = n := by rw [P.1]; simpa using HL.out
    obtain ⟨o2, b2⟩ := own_sorted HO.out d hd S
    have hp : d.toList = msort l := by
      refine msort_is ?_ ?_
      · have := P.2.2
        rw [show d.extract 0 n = d by rw [← hd]; simp, show l.toArray.extract 0 n = l.toArray by rw [← HL.out]; simp] at this
        simpa using this
      · unfold Srt
        rw [List.pairwise_iff_getElem]
        intro i j hi hj hij
        have := T i j (Nat.zero_le _) hij (by rw [← hd]; simpa using hj)
        rw [getElem!_pos d i (by simpa using hi), getElem!_pos d j (by simpa using hj)] at this
        simpa using this
    rw [hp] at o2
    have HO2 := Lib.hid o2
    have HB2 := Lib.hid b2
    clear o2 b2 S P T hd hp
    go_wp2_with fail
    go_end0
    exact ⟨rfl, HO2.out, HB2.out⟩
end Go.Proofs.YtpgdddjjjfkneaaGreatDoor

/-
  The contracts of slices.Grow at nil, slices.Concat, sorted, Sort and Join: the messages of all lists, in order, in memory of the call's own. No condition but that the messages are not too many.
-/
namespace Go.Proofs.YtpgdddjjjfkneaaGreatDoor
open Go.RowKit Go.Sort
set_option linter.unusedVariables false

theorem own_zero (w : World) (cur : Array Value) (cap : Nat) (hm : cap ≤ maxLen) (hs : cur.size = cap * 2) : (w.drew.alloc (.cells cur 118)).ownsRow w.heap.size 118 2 (.slice (some ⟨w.heap.size, 0, none⟩) 0 cap) 0 (mc []) :=
  ⟨rfl, .inr ⟨w.heap.size, cap, cur, rfl, Nat.le_refl _, heap_alloc_new w.drew _, Nat.zero_le _, hm, hs, by simp [mc]⟩⟩
set_option maxHeartbeats 1000000 in
set_option maxRecDepth 20000 in
theorem grow_nil (n : Nat) (w : World) (hn : n ≤ 1000000) :
    Calls Tryz.prog 126 #[.slice none 0 0, .int .i64 n] w fun e w' => ∃ A c, e = .returned (.slice A 0 c) ∧ w'.ownsRow w.heap.size 118 2 (.slice A 0 c) 0 (mc []) ∧ Below w.heap.size w w' := by
  have h1 : ¬ ((n : Int) < 0) := by omega
  by_cases h0 : n = 0
  · subst h0
    go_enter Tryz.func126, Tryz.ntmps126
    go_wp2_with fail
    go_ret
    exact ⟨none, 0, rfl, World.ownsRow_nil _ _ _ _, Below.refl _ _⟩
  · obtain ⟨i0, hi0, hz0, hzs, hzb⟩ := info_parts (show (Tryz.prog.info? 118).map (fun i => (i.zero, i.size, i.bytes)) = some (some (.agg #[.int .i64 0, .int .i64 0]), 2, 16) by kernel_rfl)
    have hr := Lib.run_append_nil_zeros (P := Tryz.prog) w 37 3 37 118 i0 _ .i64 .i64 Tryz.underlying37 Tryz.underlying3 hi0 hz0 n (by omega) (by rw [hzs]; decide) (by omega) (by rw [hzb]; omega)
    have q1 := grownCap_ge w n 0 118
    have q2 := grownCap_le_maxLen w n 0 118 (by unfold maxLen; omega)
    generalize hq : grownCap w n 0 118 = q at hr q1 q2
    have hs : (Builtin.zeroCells (Value.agg #[.int .i64 0, .int .i64 0]).cells n ++ Builtin.zeroCells (Value.agg #[.int .i64 0, .int .i64 0]).cells (q - n)).size = q * 2 := by
      rw [Array.size_append, size_zeroCells, size_zeroCells]
      show n * 2 + (q - n) * 2 = q * 2
      omega
    generalize hcur : Builtin.zeroCells (Value.agg #[.int .i64 0, .int .i64 0]).cells n ++ Builtin.zeroCells (Value.agg #[.int .i64 0, .int .i64 0]).cells (q - n) = cur at hr hs
    have HO := Lib.hid (own_zero w cur q q2 hs)
    have HR := Lib.hid hr
    have hpos : (n : Int) > 0 := by omega
    have hq0 : ¬ q = 0 := by omega
    clear hcur hq hr hs hi0 hz0 hzs hzb
    go_enter Tryz.func126, Tryz.ntmps126
    go_wp2_with (at_builtin; go_must (refine Lib.wpList_append_run _ rfl _ _ _ _ rfl _ _ rfl rfl _ _ HR.out ?_))
    go_wp2_with fail
    go_ret
    exact ⟨_, _, rfl, HO.out, ((Below.refl _ _).drew).alloc (Nat.le_refl _) _⟩
/-- A list of messages: where it lies, how many, its room, the messages. -/
abbrev Ls := Option Addr × Nat × Nat × List Ms
def lc (ls : List Ls) : List Value := ls.map fun x => .slice x.1 x.2.1 x.2.2.1
/-- All messages. -/
def lcat (ls : List Ls) : List Ms := ls.flatMap fun x => x.2.2.2
def noL : Ls := (none, 0, 0, [])
def lAt (ls : List Ls) (k : Nat) : Ls := ls.getD k noL
theorem lAt_get (ls : List Ls) (k : Nat) (h : k < ls.length) : lAt ls k = ls[k] := by unfold lAt; simp [List.getD, List.getElem?_eq_getElem h]
theorem lcat_take (ls : List Ls) (k : Nat) (h : k < ls.length) : lcat (ls.take (k + 1)) = lcat (ls.take k) ++ (lAt ls k).2.2.2 := by
  unfold lcat
  rw [List.take_succ_eq_append_getElem h, List.flatMap_append, lAt_get ls k h]; simp
theorem lcat_le (ls : List Ls) (k : Nat) : (lcat (ls.take k)).length ≤ (lcat ls).length := by
  have e : lcat ls = lcat (ls.take k) ++ lcat (ls.drop k) := by unfold lcat; rw [← List.flatMap_append, List.take_append_drop]
  rw [e, List.length_append]; omega
/-- Lists of messages in memory. -/
structure LL (w : World) (B : Nat) (A : Option Addr) (n : Nat) (ls : List Ls) : Prop where
  lies : Lies w B 1 A n (lc ls)
  each : ∀ x ∈ ls, Lies w B 2 x.1 x.2.1 (mc x.2.2.2)
theorem LL.len {w : World} {B : Nat} {A : Option Addr} {n : Nat} {ls : List Ls} (h : LL w B A n ls) : ls.length = n := by
  have := h.lies.1
  unfold lc at this
  simpa using this
theorem LL.at {w : World} {B : Nat} {A : Option Addr} {n : Nat} {ls : List Ls} (h : LL w B A n ls) (k : Nat) (hk : k < n) :
    ∃ ad, A = some ad ∧ ad.block < B ∧ w.cell? (ad.add k) = some (.slice (lAt ls k).1 (lAt ls k).2.1 (lAt ls k).2.2.1) ∧ Lies w B 2 (lAt ls k).1 (lAt ls k).2.1 (mc (lAt ls k).2.2.2) := by
  have hl : k < ls.length := by rw [h.len]; exact hk
  obtain ⟨ad, e, hb, hc⟩ := h.lies.2 k (.slice (lAt ls k).1 (lAt ls k).2.1 (lAt ls k).2.2.1) (by unfold lc; rw [List.getElem?_map, List.getElem?_eq_getElem hl, lAt_get ls k hl]; rfl)
  exact ⟨ad, e, hb, hc, h.each _ (by rw [lAt_get ls k hl]; exact List.getElem_mem hl)⟩
theorem LL.next {w w' : World} {A : Option Addr} {n : Nat} {ls : List Ls} (h : LL w w.heap.size A n ls) (hb : Below w.heap.size w w') : LL w' w'.heap.size A n ls :=
  ⟨h.lies.next hb, fun x hx => (h.each x hx).next hb⟩
theorem LL.below {w w' : World} {B : Nat} {A : Option Addr} {n : Nat} {ls : List Ls} (h : LL w B A n ls) (hb : Below B w w') : LL w' B A n ls :=
  ⟨h.lies.below hb, fun x hx => (h.each x hx).below hb⟩
theorem LL.more {w : World} {B B' : Nat} {A : Option Addr} {n : Nat} {ls : List Ls} (h : LL w B A n ls) (hB : B ≤ B') : LL w B' A n ls :=
  ⟨h.lies.more hB, fun x hx => (h.each x hx).more hB⟩
/-- What a call answers that makes messages. -/
def MlPost (l : List Ms) (w : World) (r : Ending) (w' : World) : Prop :=
  ∃ A c, r = .returned (.slice A l.length c) ∧ w'.ownsRow w.heap.size 118 2 (.slice A l.length c) l.length (mc l) ∧ Below w.heap.size w w'
set_option maxHeartbeats 1000000 in
theorem concat_any (A : Option Addr) (n c : Nat) (ls : List Ls) (w : World) (hA : LL w w.heap.size A n ls) (hn : n ≤ 1000000) (hs : (lcat ls).length ≤ 1000000) :
    Calls Tryz.prog 105 #[.slice A n c] w (MlPost (lcat ls) w) := by
  obtain rfl := hA.len
  obtain ⟨i0, hi0, hz0, hzs, hzb⟩ := info_parts (show (Tryz.prog.info? 118).map (fun i => (i.zero, i.size, i.bytes)) = some (some (.agg #[.int .i64 0, .int .i64 0]), 2, 16) by kernel_rfl)
  have HI0 := Lib.hid hi0
  have HZ0 := Lib.hid hz0
  have HZS := Lib.hid hzs
  have HZB := Lib.hid hzb
  have HA := Lib.hid hA
  clear hi0 hz0 hzs hzb hA
  go_enter Tryz.func105, Tryz.ntmps105
  go_wp2_with fail
  go_loopw [3, 11] (fun s i W => ∃ k : Nat, i = .int .i64 k ∧ k ≤ ls.length ∧ s = .int .i64 ((lcat (ls.take k)).length : Nat) ∧ w = W) (fun s i W => ls.length - (intOf i).toNat)
  case atStart => exact ⟨0, rfl, Nat.zero_le _, rfl, rfl⟩
  case round =>
    obtain ⟨k, rfl, hk, rfl, rfl⟩ := hrel
    by_cases hlt : k < ls.length
    · obtain ⟨ad, rfl, hadb, e0, hl⟩ := HA.out.at k hlt
      have h1 := lcat_le ls (k + 1)
      have h2 := lcat_take ls k hlt
      have h3 := hl.ms_len
      rw [h2, List.length_append, h3] at h1
      have HE := Lib.hid (show (lcat (ls.take (k + 1))).length = (lcat (ls.take k)).length + (lAt ls k).2.1 by rw [h2, List.length_append, h3])
      clear h2 h3 hl
      generalize (lcat (ls.take k)).length = m at *
      have h4 : ¬ ((m : Int) + ((lAt ls k).2.1 : Int) < 0) := by omega
      go_wp2_with fail
      go_roundw
      case rel => exact ⟨k + 1, by go_num, by omega, by rw [HE.out]; go_num, trivial⟩
      case measure => simp [intOf]; omega
    · have hk' : k = ls.length := by omega
      subst hk'
      rw [List.take_length]
      go_wp2_with fail
      refine (grow_nil _ _ hs).mono ?_
      rintro e w1 ⟨A1, c1, rfl, ho1, hb1⟩
      have HO1 := Lib.hid ho1
      have HB1 := Lib.hid hb1
      clear ho1 hb1
      go_wp2_with fail
      go_loopw [6, 27] (fun o i W => ∃ (k : Nat) (A2 : Option Addr) (c2 : Nat), i = .int .i64 k ∧ k ≤ ls.length ∧ o = .slice A2 (lcat (ls.take k)).length c2 ∧ Hid (W.ownsRow w.heap.size 118 2 (.slice A2 (lcat (ls.take k)).length c2) (lcat (ls.take k)).length (mc (lcat (ls.take k)))) ∧ Hid (Below w.heap.size w W)) (fun o i W => ls.length - (intOf i).toNat)
      case atStart => exact ⟨0, A1, c1, rfl, Nat.zero_le _, rfl, HO1, HB1⟩
      case round =>
        clear HO1 HB1
        obtain ⟨k, A2, c2, rfl, hk, rfl, HO, HB⟩ := hrel
        by_cases hlt : k < ls.length
        · obtain ⟨ad, rfl, hadb, e0, hl⟩ := (HA.out.below HB.out).at k hlt
          have h1 := lcat_le ls (k + 1)
          have h2 := lcat_take ls k hlt
          have h3 := hl.ms_len
          have HL := Lib.hid hl
          have HE := Lib.hid (show (lcat (ls.take k)).length + (lAt ls k).2.1 = (lcat (ls.take (k + 1))).length by rw [h2, List.length_append, h3])
          have HC := Lib.hid (show mc (lcat (ls.take k)) ++ mc (lAt ls k).2.2.2 = mc (lcat (ls.take (k + 1))) by rw [h2, mc_append])
          have HN := Lib.hid (show (lcat (ls.take (k + 1))).length ≤ 1000000 by omega)
          have hz := HB.out.size
          clear h1 h2 h3 hl
          go_wp2_with (at_builtin; go_must (refine wpList_app _ rfl (.tmp 31) (.tmp 32) 37 rfl w.heap.size 118 i0 _ 2 16 Tryz.underlying37 HI0.out HZ0.out HZS.out HZB.out rfl (by decide) A2 (lcat (ls.take k)).length c2 (mc (lcat (ls.take k))) rfl HO.out w.heap.size (lAt ls k).1 (lAt ls k).2.1 (lAt ls k).2.2.1 (mc (lAt ls k).2.2.2) rfl HL.out (mc_one _) (lcat (ls.take (k + 1))).length (mc (lcat (ls.take (k + 1)))) HE.out HC.out (by have := HN.out; unfold maxLen; omega) (by have := HN.out; omega) (by omega) ?_))
          intro A4 c4 w4 ho4 hb4
          have HO4 := Lib.hid ho4
          have HB4 := Lib.hid (HB.out.trans hb4)
          clear ho4 hb4
          go_wp2_with fail
          go_roundw
          case rel => exact ⟨k + 1, A4, c4, by go_num, by omega, rfl, HO4, HB4⟩
          case measure => simp [intOf]; omega
        · have hk' : k = ls.length := by omega
          subst hk'
          rw [List.take_length] at HO ⊢
          go_wp2_with fail
          go_ret
          exact ⟨A2, c2, rfl, HO.out, HB.out⟩
set_option maxHeartbeats 1000000 in
theorem sorted_any (A : Option Addr) (n c : Nat) (ls : List Ls) (w : World) (hA : LL w w.heap.size A n ls) (hn : n ≤ 1000000) (hs : (lcat ls).length ≤ 1000000) :
    Calls Tryz.prog 84 #[.func (.func 85) #[] #[], .slice A n c] w (MlPost (msort (lcat ls)) w) := by
  have HA := Lib.hid hA
  clear hA
  go_enter Tryz.func84, Tryz.ntmps84
  go_wp2_with fail
  refine (concat_any A n c ls _ HA.out hn hs).mono ?_
  rintro e w1 ⟨A1, c1, rfl, ho1, hb1⟩
  have HO1 := Lib.hid ho1
  have HB1 := Lib.hid hb1
  clear ho1 hb1
  go_wp2_with fail
  refine (sortf_any w.heap.size A1 _ c1 _ _ HO1.out hs).mono ?_
  rintro e w2 ⟨rfl, ho2, hb2⟩
  have HO2 := Lib.hid ho2
  have HB2 := Lib.hid (HB1.out.trans hb2)
  clear ho2 hb2
  go_wp2_with fail
  go_ret
  unfold MlPost
  rw [msort_len]
  exact ⟨A1, c1, rfl, HO2.out, HB2.out⟩
theorem lies_cells (w : World) (vs : List Value) (t : TypeId) (n s : Nat) (hn : vs.length = n * s) : Lies (w.alloc (.cells vs.toArray t)) (w.heap.size + 1) s (some ⟨w.heap.size, 0, none⟩) n vs := by
  refine ⟨hn, fun j u hj => ⟨_, rfl, Nat.lt_succ_self _, ?_⟩⟩
  have : (⟨w.heap.size, 0, none⟩ : Addr).add j = ⟨w.heap.size, j, none⟩ := by unfold Addr.add; split <;> simp_all
  rw [this, cell_of_row _ _ j _ t (0, 0) (heap_alloc_new _ _)]
  simpa using hj
/-- An answer's memory, told of the world ahead. -/
theorem MlPost.up {l : List Ms} {w w1 : World} (hb : Below w.heap.size w w1) {r : Ending} {w' : World} (h : MlPost l w1 r w') : MlPost l w r w' := by
  obtain ⟨A, c, e, ho, h1⟩ := h
  exact ⟨A, c, e, ho.lower hb.size, hb.trans (h1.mono hb.size)⟩
theorem sort_any (A : Option Addr) (n c : Nat) (l : List Ms) (w : World) (hA : Lies w w.heap.size 2 A n (mc l)) (hn : n ≤ 1000000) :
    Calls Tryz.prog 89 #[.slice A n c] w (MlPost (msort l) w) := by
  obtain rfl := hA.ms_len
  have hll : LL (w.alloc (.cells #[.slice A l.length c] 37)) (w.alloc (.cells #[.slice A l.length c] 37)).heap.size (some ⟨w.heap.size, 0, none⟩) 1 [(A, l.length, c, l)] := by
    refine ⟨(lies_cells w [.slice A l.length c] 37 1 1 rfl).more (by simp), fun x hx => ?_⟩
    rw [List.mem_singleton.1 hx]
    exact hA.next (below_alloc _ _)
  have hcat : lcat [(A, l.length, c, l)] = l := by simp [lcat]
  have hc := sorted_any _ 1 1 _ _ hll (by omega) (by rw [hcat]; exact hn)
  rw [hcat] at hc
  have HC := Lib.hid hc
  clear hc hll hA hcat
  go_enter Tryz.func89, Tryz.ntmps89
  go_wp2_with fail
  refine HC.out.mono ?_
  rintro e w1 h1
  obtain ⟨A1, c1, rfl, ho1, hb1⟩ := h1.up (below_alloc _ _)
  have HO1 := Lib.hid ho1
  have HB1 := Lib.hid hb1
  clear ho1 hb1 h1
  go_wp2_with fail
  go_ret
  exact ⟨A1, c1, rfl, HO1.out, HB1.out⟩
end Go.Proofs.YtpgdddjjjfkneaaGreatDoor


