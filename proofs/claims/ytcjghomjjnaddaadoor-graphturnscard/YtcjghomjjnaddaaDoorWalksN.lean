/-
  The contract of Parse: any text is read as parseL says. No condition but that the text is one.
-/
import Derived.Test.YtcjghomjjnaddaaDoorWalksM
import Derived.WalkMore
namespace Go.Proofs.YtcjghomjjnaddaaDoor
open Go.RowKit
set_option linter.unusedVariables false

theorem rises_iff (es : List Ed) : Rises es ↔ es.Pairwise ltE := by
  rw [List.pairwise_iff_getElem]
  constructor
  · intro h i j hi hj hij
    have := h i j hij hj
    rwa [show eAt es i = es[i] by simp [eAt, hi], show eAt es j = es[j] by simp [eAt, hj]] at this
  · intro h a b hab hb
    have := h a b (by omega) hb hab
    rwa [show eAt es a = es[a] by simp [eAt, (by omega : a < es.length)], show eAt es b = es[b] by simp [eAt, hb]]

theorem mem_ins {es : List Ed} {e y : Ed} : y ∈ insE es e ↔ y = e ∨ y ∈ es := by
  induction es with
  | nil => simp [insE]
  | cons x r ih =>
    unfold insE
    by_cases h : ltE x e
    · rw [if_pos h, List.mem_cons, ih, List.mem_cons]
      constructor
      · rintro (h | h | h)
        · exact .inr (.inl h)
        · exact .inl h
        · exact .inr (.inr h)
      · rintro (h | h | h)
        · exact .inr (.inl h)
        · exact .inl h
        · exact .inr (.inr h)
    · rw [if_neg h, List.mem_cons, List.mem_cons]

theorem ins_len (es : List Ed) (e : Ed) : (insE es e).length = es.length + 1 := by
  induction es with
  | nil => rfl
  | cons x r ih =>
    unfold insE
    split
    · simp [ih]
    · simp

theorem ins_sorted {es : List Ed} {e : Ed} (h : es.Pairwise ltE) (hh : hasE es e = false) : (insE es e).Pairwise ltE := by
  induction es with
  | nil => simp [insE]
  | cons x r ih =>
    rw [List.pairwise_cons] at h
    have hx : ¬ (x.1 = e.1 ∧ x.2.1 = e.2.1) := by
      intro hc
      unfold hasE at hh
      rw [List.any_cons] at hh
      simp [hc.1, hc.2] at hh
    have hr : hasE r e = false := by
      unfold hasE at hh ⊢
      rw [List.any_cons] at hh
      simp only [Bool.or_eq_false_iff] at hh
      exact hh.2
    unfold insE
    by_cases hl : ltE x e
    · rw [if_pos hl, List.pairwise_cons]
      refine ⟨fun y hy => ?_, ih h.2 hr⟩
      rcases mem_ins.1 hy with rfl | hy
      · exact hl
      · exact h.1 y hy
    · rw [if_neg hl, List.pairwise_cons, List.pairwise_cons]
      have hex : ltE e x := by unfold ltE at hl ⊢; omega
      refine ⟨fun y hy => ?_, h.1, h.2⟩
      rcases List.mem_cons.1 hy with rfl | hy
      · exact hex
      · exact ltE_trans hex (h.1 y hy)

/-- A text from a line on: the graph, the line's number, the error. -/
def goL : Nat → Nat → Int → List Ed → List UInt8 → (Int × List Ed) × Nat × Int
  | 0, _, _, _, _ => ((0, []), 0, 0)
  | f + 1, k, N, es, l =>
    if k = 0 then
      if (readH (cutA l)).2 = 0 then (if cutB l = [] then (((readH (cutA l)).1, []), 0, 0) else goL f (k + 1) (readH (cutA l)).1 [] (cutB l))
      else ((0, []), k + 1, (readH (cutA l)).2)
    else
      if (readE N es (cutA l)).1 = 0 then (if cutB l = [] then ((N, (readE N es (cutA l)).2), 0, 0) else goL f (k + 1) N (readE N es (cutA l)).2 (cutB l))
      else ((0, []), k + 1, (readE N es (cutA l)).1)

/-- What a text is read as. -/
def parseL (l : List UInt8) : (Int × List Ed) × Nat × Int := if 4000 < l.length then ((0, []), 0, 3) else goL (l.length + 1) 0 0 [] l

theorem readE_sorted {N : Int} {es : List Ed} {l : List UInt8} (h : es.Pairwise ltE) : (readE N es l).2.Pairwise ltE := by
  unfold readE
  split
  · exact h
  · split
    · exact h
    · split
      · split
        · exact h
        · rename_i hh
          exact ins_sorted h (by simpa using hh)
      · exact h
theorem readE_len {N : Int} {es : List Ed} {l : List UInt8} (h : es.length ≤ 80) : (readE N es l).2.length ≤ 80 := by
  unfold readE
  split
  · exact h
  · split
    · exact h
    · split
      · split
        · exact h
        · rw [ins_len]; omega
      · exact h

theorem blk_set2 {w : World} {g : Nat} {t : TypeId} {a b u v : Value} (h : w.heap[g]? = some (.cells #[a, b] t (0, 0))) : ((w.setCell ⟨g, 0, none⟩ u).setCell ⟨g, 1, none⟩ v).heap[g]? = some (.cells #[u, v] t (0, 0)) := by
  simp [World.setCell, Array.getElem?_modify, h]
theorem blk_far {w : World} {g g' k : Nat} {u : Value} (h : g ≠ g') : (w.setCell ⟨g', k, none⟩ u).heap[g]? = w.heap[g]? := Below.heap_setCell w ⟨g', k, none⟩ u g h
theorem blk_cell {w : World} {g : Nat} {t : TypeId} {cs : Array Value} (h : w.heap[g]? = some (.cells cs t (0, 0))) (i : Nat) : w.cell? ⟨g, i, none⟩ = cs[i]? := cell_of_row w g i cs t (0, 0) h
theorem blk_frozen {w : World} {g : Nat} {t : TypeId} {cs : Array Value} (h : w.heap[g]? = some (.cells cs t (0, 0))) (i : Nat) : w.frozen? ⟨g, i, none⟩ = false := by simp [World.frozen?, h]

def PaRel (q : (Int × List Ed) × Nat × Int) (w : World) (s at_ : Value) (W : World) : Prop :=
  ∃ (f k : Nat) (l : List UInt8) (t : ByteArray) (N : Int) (es : List Ed) (A : Option Addr) (c : Nat), s = .string t ∧ t = ⟨l.toArray⟩ ∧ at_ = .int .i64 k ∧ l.length ≤ 4000 ∧ l.length < f ∧ k + l.length ≤ 4000 ∧ goL f k N es l = q ∧ es.Pairwise ltE ∧ es.length ≤ 80 ∧
    W.heap[w.heap.size]? = some (.cells #[.int .i64 0, .slice none 0 0] 24 (0, 0)) ∧ W.heap[w.heap.size + 1]? = some (.cells #[.int .i64 N, .slice A es.length c] 24 (0, 0)) ∧
    W.ownsRow (w.heap.size + 2) 42 3 (.slice A es.length c) es.length (ec es) ∧ Below w.heap.size w W

def PaPost (q : (Int × List Ed) × Nat × Int) (w : World) (r : Ending) (w' : World) : Prop :=
  Below w.heap.size w w' ∧ ∃ A' c', r = .returned (.tuple #[.agg #[.int .i64 q.1.1, .slice A' q.1.2.length c'], .int .i64 q.2.1, .int .i64 q.2.2]) ∧ Lies w' w'.heap.size 3 A' q.1.2.length (ec q.1.2) ∧ q.1.2.length ≤ c'

set_option maxHeartbeats 1000000 in
set_option maxRecDepth 100000 in
theorem parse_any (s : ByteArray) (l0 : List UInt8) (w : World) (hs : s = ⟨l0.toArray⟩) (hz : s.size ≤ maxLen) : Calls Tryd.prog 18 #[.string s] w (PaPost (parseL l0) w) := by
  have hsz : s.size = l0.length := by rw [hs]; simp [ByteArray.size]
  have hz' : (s.size : Int) ≤ 9223372036854775807 := by unfold maxLen at hz; omega
  clear hz
  by_cases h4 : 4000 < l0.length
  · have HQ := Lib.hid (show parseL l0 = ((0, []), 0, 3) by unfold parseL; rw [if_pos h4])
    have h5 : 4000 < s.size := by omega
    clear hs hsz h4
    go_enter Tryd.func18, Tryd.ntmps18
    go_wp2_with fail
    go_step3
    go_wp2_with fail
    exact bodyPost_ret (v := .tuple #[.agg #[.int .i64 0, .slice none 0 0], .int .i64 0, .int .i64 3]) (by simp [results, Tryd.results18, go_sem]) rfl (by rw [HQ.out]; exact ⟨below_alloc _ _, none, 0, rfl, Lies.nil, Nat.le_refl _⟩)
  · have h5 : ¬ 4000 < s.size := by omega
    have HS := Lib.hid hs
    have HQ := Lib.hid (show goL (l0.length + 1) 0 0 [] l0 = parseL l0 by unfold parseL; rw [if_neg h4])
    generalize parseL l0 = q at *
    clear hs hsz
    go_enter Tryd.func18, Tryd.ntmps18
    go_wp2_with fail
    go_step3
    go_wp2_with fail
    go_step3
    go_wp2_with fail
    go_loopw [0, 6] (fun s k W => PaRel q w s k W) (fun s k W => 4000 - (intOf k).toNat)
    case atStart => 
      refine ⟨l0.length + 1, 0, l0, s, 0, [], none, 0, rfl, HS.out, rfl, by omega, by omega, by omega, HQ.out, List.Pairwise.nil, by simp, ?_, ?_, World.ownsRow_nil _ _ _ _, ?_⟩
      · exact (Below.heap_alloc _ _ _ (by simp)).trans (heap_alloc_new w _)
      · have := heap_alloc_new (w.alloc (.cells #[.int .i64 0, .slice none 0 0] 24)) (.cells #[.int .i64 0, .slice none 0 0] 24); simpa using this
      · exact ((Below.refl _ _).alloc (Nat.le_refl _) _).alloc (by simp) _
    case round =>
      obtain ⟨f, k, l, t, N, es, A, c, rfl, ht, rfl, hl, hf, hkl, hgo, hsort, hlen, hB0, hB1, hown, hb⟩ := hrel
      obtain ⟨f, rfl⟩ : ∃ f', f = f' + 1 := ⟨f - 1, by omega⟩
      have hbl := cutB_len l
      have hal := cutA_len l
      have HGO := Lib.hid hgo
      have HSO := Lib.hid hsort
      have HOW := Lib.hid hown
      have HT := Lib.hid ht
      have Z0 : w.heap.size + 2 ≤ wr.heap.size := by have := (Array.getElem?_eq_some_iff.1 hB1).1; omega
      have HB0 := Lib.hid hB0
      have HB1 := Lib.hid hB1
      clear hgo hsort hown ht hB0 hB1
      go_wp2_with fail
      refine (cut_nl t l _ HT.out hl).mono ?_
      rintro e w1 ⟨a, b, cc, rfl, ha, hbe, hbel⟩
      have had : a.data.toList = cutA l := by rw [ha]
      have haz : a.size ≤ 4000 := by rw [Lib.size_eq, had]; omega
      have D0 := Lib.hid ((hbel.block w.heap.size (by omega)).trans HB0.out)
      have D1 := Lib.hid ((hbel.block (w.heap.size + 1) (by omega)).trans HB1.out)
      have HO1 := Lib.hid (own_next HOW.out hbel)
      have hb1 : Below w.heap.size w w1 := hb.trans (hbel.mono (by omega))
      have Z1 : w.heap.size + 2 ≤ w1.heap.size := by have := hbel.size; omega
      have HAD := Lib.hid had
      have HBE := Lib.hid hbe
      clear had ha hbe HB0 HB1 HOW hbel
      by_cases hk0 : k = 0
      · have hk1 : ((k : Int) + 1 == 1) = true := by rw [hk0]; rfl
        have HK := Lib.hid hk0
        clear hk0
        go_wp2_with fail
        refine (readHead_any a _ haz).mono ?_
        rintro e w2 ⟨rfl, hb12⟩
        rw [HAD.out]
        have E0 := (hb12.block w.heap.size (by omega)).trans D0.out
        have E1 := (hb12.block (w.heap.size + 1) (by omega)).trans D1.out
        have c0 := blk_cell E0 0
        have c1 := blk_cell E0 1
        have c2 := blk_cell E1 0
        have c3 := blk_cell E1 1
        have f0 := blk_frozen E0 0
        have f1 := blk_frozen E0 1
        have f2 := blk_frozen E1 0
        have f3 := blk_frozen E1 1
        simp only [List.getElem?_toArray, List.getElem?_cons_zero, List.getElem?_cons_succ] at c0 c1 c2 c3
        have HE0 := Lib.hid E0
        have HE1 := Lib.hid E1
        have hb2 : Below w.heap.size w w2 := hb1.trans (hb12.mono (by omega))
        have hZ2 : w.heap.size + 2 ≤ w2.heap.size := by have := hb12.size; omega
        clear E0 E1 hb12
        by_cases he : (readH (cutA l)).2 = 0
        · have he1 : ((readH (cutA l)).2 != 0) = false := by simpa using he
          have HE := Lib.hid he
          clear he
          by_cases hre : cutB l = []
          · have HQ2 := Lib.hid (show q = (((readH (cutA l)).1, []), 0, 0) by rw [← HGO.out]; unfold goL; rw [if_pos HK.out]; rw [if_pos HE.out, if_pos hre])
            have hbe : b.toList.isEmpty = true := by rw [Lib.toList_data, HBE.out, hre]; rfl
            clear hre
            go_wp2_with fail
            exact bodyPost_ret (v := .tuple #[.agg #[.int .i64 (readH (cutA l)).1, .slice none 0 0], .int .i64 0, .int .i64 0]) (by simp [results, Tryd.results18, go_sem, c0, c1]) rfl (by
              rw [HQ2.out]
              exact ⟨(((hb2.setCell (p := ⟨w.heap.size + 1, 0, none⟩) (by simp) _).setCell (p := ⟨w.heap.size + 1, 1, none⟩) (by simp) _).setCell (p := ⟨w.heap.size, 0, none⟩) (by simp) _).setCell (p := ⟨w.heap.size, 1, none⟩) (by simp) _, _, _, rfl, Lies.nil, Nat.le_refl _⟩)
          · have HQ2 := Lib.hid (show goL f (k + 1) (readH (cutA l)).1 [] (cutB l) = q by rw [← HGO.out]; conv => rhs; unfold goL; rw [if_pos HK.out]; rw [if_pos HE.out, if_neg hre])
            have hbe : b.toList.isEmpty = false := by rw [Lib.toList_data, HBE.out]; simpa using hre
            have hpos : 0 < l.length := by
              rcases Nat.eq_zero_or_pos l.length with h | h
              · rw [List.eq_nil_of_length_eq_zero h] at hre; exact absurd rfl hre
              · exact h
            clear hre
            go_wp2_with fail
            go_roundw
            case rel => exact ⟨f, k + 1, cutB l, b, (readH (cutA l)).1, [], _, _, rfl, HBE.out, by go_num, by omega, by omega, by omega, HQ2.out, List.Pairwise.nil, Nat.zero_le _, (blk_far (by omega)).trans ((blk_far (by omega)).trans HE0.out), blk_set2 HE1.out, World.ownsRow_nil _ _ _ _, (hb2.setCell (p := ⟨w.heap.size + 1, 0, none⟩) (by simp) _).setCell (p := ⟨w.heap.size + 1, 1, none⟩) (by simp) _⟩
            case measure => simp [intOf]; omega
        · have he1 : ((readH (cutA l)).2 != 0) = true := by simpa using he
          have HQ2 := Lib.hid (show q = ((0, []), k + 1, (readH (cutA l)).2) by rw [← HGO.out]; unfold goL; rw [if_pos HK.out]; rw [if_neg he])
          clear he
          go_wp2_with fail
          exact bodyPost_ret (v := .tuple #[.agg #[.int .i64 0, .slice none 0 0], .int .i64 ((k : Int) + 1), .int .i64 (readH (cutA l)).2]) (by simp [results, Tryd.results18, go_sem, c0, c1]) rfl (by
              rw [HQ2.out]
              exact ⟨(((hb2.setCell (p := ⟨w.heap.size + 1, 0, none⟩) (by simp) _).setCell (p := ⟨w.heap.size + 1, 1, none⟩) (by simp) _).setCell (p := ⟨w.heap.size, 0, none⟩) (by simp) _).setCell (p := ⟨w.heap.size, 1, none⟩) (by simp) _, none, 0, by simp, Lies.nil, Nat.le_refl _⟩)
      · have hk1 : ((k : Int) + 1 == 1) = false := by rw [beq_eq_false_iff_ne]; omega
        have HK := Lib.hid hk0
        clear hk0
        have C2 := blk_cell D1.out 0
        have C3 := blk_cell D1.out 1
        simp only [List.getElem?_toArray, List.getElem?_cons_zero, List.getElem?_cons_succ] at C2 C3
        go_wp2_with fail
        refine (readEdge_any (w.heap.size + 2) N A es.length c es a _ HO1.out Z1 ((rises_iff es).2 HSO.out) hlen haz).mono ?_
        rintro e w2 ⟨hb12, A', c', rfl, ho2⟩
        rw [HAD.out] at ho2 ⊢
        have HO2 := Lib.hid ho2
        have LN := Lib.hid (readE_len (N := N) (l := cutA l) hlen)
        have SN := Lib.hid (readE_sorted (N := N) (l := cutA l) HSO.out)
        have E0 := (hb12.block w.heap.size (by omega)).trans D0.out
        have E1 := (hb12.block (w.heap.size + 1) (by omega)).trans D1.out
        have c0 := blk_cell E0 0
        have c1 := blk_cell E0 1
        have c2 := blk_cell E1 0
        have c3 := blk_cell E1 1
        have f0 := blk_frozen E0 0
        have f1 := blk_frozen E0 1
        have f2 := blk_frozen E1 0
        have f3 := blk_frozen E1 1
        simp only [List.getElem?_toArray, List.getElem?_cons_zero, List.getElem?_cons_succ] at c0 c1 c2 c3
        have HE0 := Lib.hid E0
        have HE1 := Lib.hid E1
        have hb2 : Below w.heap.size w w2 := hb1.trans (hb12.mono (by omega))
        have hZ2 : w.heap.size + 2 ≤ w2.heap.size := by have := hb12.size; omega
        have HN0 := Lib.hid (own_blk_ne ho2 E0 (by decide))
        have HN1 := Lib.hid (own_blk_ne ho2 E1 (by decide))
        clear E0 E1 hb12 ho2 C2 C3
        by_cases he : (readE N es (cutA l)).1 = 0
        · have he1 : ((readE N es (cutA l)).1 != 0) = false := by simpa using he
          have HE := Lib.hid he
          clear he
          by_cases hre : cutB l = []
          · have HQ2 := Lib.hid (show q = ((N, (readE N es (cutA l)).2), 0, 0) by rw [← HGO.out]; unfold goL; rw [if_neg HK.out]; rw [if_pos HE.out, if_pos hre])
            have hbe : b.toList.isEmpty = true := by rw [Lib.toList_data, HBE.out, hre]; rfl
            clear hre
            go_wp2_with fail
            exact bodyPost_ret (v := .tuple #[.agg #[.int .i64 N, .slice A' (readE N es (cutA l)).2.length c'], .int .i64 0, .int .i64 0]) (by simp [results, Tryd.results18, go_sem, c0, c1]) rfl (by
              rw [HQ2.out]
              exact ⟨(((hb2.setCell (p := ⟨w.heap.size + 1, 0, none⟩) (by simp) _).setCell (p := ⟨w.heap.size + 1, 1, none⟩) (by simp) _).setCell (p := ⟨w.heap.size, 0, none⟩) (by simp) _).setCell (p := ⟨w.heap.size, 1, none⟩) (by simp) _, _, _, rfl, Lies.of_own (own_set (own_set (own_set (own_set HO2.out _ _ _ HN1.out) _ _ _ HN1.out) _ _ _ HN0.out) _ _ _ HN0.out), own_cap HO2.out⟩)
          · have HQ2 := Lib.hid (show goL f (k + 1) N (readE N es (cutA l)).2 (cutB l) = q by rw [← HGO.out]; conv => rhs; unfold goL; rw [if_neg HK.out]; rw [if_pos HE.out, if_neg hre])
            have hbe : b.toList.isEmpty = false := by rw [Lib.toList_data, HBE.out]; simpa using hre
            have hpos : 0 < l.length := by
              rcases Nat.eq_zero_or_pos l.length with h | h
              · rw [List.eq_nil_of_length_eq_zero h] at hre; exact absurd rfl hre
              · exact h
            clear hre
            go_wp2_with fail
            go_roundw
            case rel => exact ⟨f, k + 1, cutB l, b, N, (readE N es (cutA l)).2, _, _, rfl, HBE.out, by go_num, by omega, by omega, by omega, HQ2.out, SN.out, LN.out, (blk_far (by omega)).trans ((blk_far (by omega)).trans HE0.out), blk_set2 HE1.out, own_set (own_set HO2.out _ _ _ HN1.out) _ _ _ HN1.out, (hb2.setCell (p := ⟨w.heap.size + 1, 0, none⟩) (by simp) _).setCell (p := ⟨w.heap.size + 1, 1, none⟩) (by simp) _⟩
            case measure => simp [intOf]; omega
        · have he1 : ((readE N es (cutA l)).1 != 0) = true := by simpa using he
          have HQ2 := Lib.hid (show q = ((0, []), k + 1, (readE N es (cutA l)).1) by rw [← HGO.out]; unfold goL; rw [if_neg HK.out]; rw [if_neg he])
          clear he
          go_wp2_with fail
          exact bodyPost_ret (v := .tuple #[.agg #[.int .i64 0, .slice none 0 0], .int .i64 ((k : Int) + 1), .int .i64 (readE N es (cutA l)).1]) (by simp [results, Tryd.results18, go_sem, c0, c1]) rfl (by
              rw [HQ2.out]
              exact ⟨(((hb2.setCell (p := ⟨w.heap.size + 1, 0, none⟩) (by simp) _).setCell (p := ⟨w.heap.size + 1, 1, none⟩) (by simp) _).setCell (p := ⟨w.heap.size, 0, none⟩) (by simp) _).setCell (p := ⟨w.heap.size, 1, none⟩) (by simp) _, none, 0, by simp, Lies.nil, Nat.le_refl _⟩)
end Go.Proofs.YtcjghomjjnaddaaDoor
