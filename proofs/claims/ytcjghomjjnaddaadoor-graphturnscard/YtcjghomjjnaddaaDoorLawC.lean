/-
  The walks of GraphBack and GraphAgain. Condition: Go's own table of powers of ten lies in memory.
-/
import Derived.Test.YtcjghomjjnaddaaDoorLawA
import Derived.Test.YtcjghomjjnaddaaDoorTextM
namespace Go.Proofs.YtcjghomjjnaddaaDoor
open Go.RowKit
set_option linter.unusedVariables false

theorem txt_len {N : Int} {es : List Ed} (h : chk N es = 0) : (txt N es).length ≤ 10000 := by
  obtain ⟨h1, h2, h3, h4, h5⟩ := good_of h
  have a := lines_len N h2 es h4
  have b := dec_len N (by omega)
  unfold txt headL
  simp only [List.length_append, List.length_cons, List.length_nil]
  omega

set_option maxHeartbeats 1000000 in
theorem back_walk (N : Int) (A : Option Addr) (n c : Nat) (es : List Ed) (w : World) (hA : Lies w w.heap.size 3 A n (ec es)) (hnc : n ≤ c) (hn : n ≤ maxLen) (hg : Gr w) :
    Calls Tryd.prog 6 #[.agg #[.int .i64 N, .slice A n c]] w fun e w' => e = .returned (.bool true) ∧ Below w.heap.size w w' := by
  have HG := Lib.hid hg
  clear hg
  by_cases h200 : 200 < n
  · go_enter Tryd.func6, Tryd.ntmps6
    go_wp2_with fail
    refine (great_any N A n c _ true (by simpa using h200)).mono ?_
    rintro e w1 ⟨rfl, hb1⟩
    have hb01 : Below w.heap.size w w1 := (below_alloc _ _).trans (hb1.mono (by simp))
    go_wp2_with fail
    refine (knows_any _ (HG.out.next hb01)).mono ?_
    rintro e w2 ⟨rfl, hb2⟩
    have hb02 := hb01.trans (hb2.mono hb01.size)
    go_wp2_with fail
    go_ret
    exact ⟨rfl, hb02⟩
  · by_cases hok : chk N es = 0
    · obtain rfl := hA.ed_len
      obtain ⟨t, ht⟩ : ∃ t : ByteArray, t = ⟨(txt N es).toArray⟩ := ⟨_, rfl⟩
      have hts : t.size = (txt N es).length := by rw [ht]; simp [ByteArray.size]
      have htm : t.size ≤ maxLen := by have := txt_len hok; unfold maxLen; omega
      have HQ : Hid ((4000 < t.size ∧ parseL (txt N es) = ((0, []), 0, 3)) ∨ (¬ 4000 < t.size ∧ parseL (txt N es) = ((N, es), 0, 0))) := Lib.hid (by
        by_cases h4 : 4000 < t.size
        · exact .inl ⟨h4, parse_long (by omega)⟩
        · exact .inr ⟨h4, parse_txt hok (by omega)⟩)
      have HT := Lib.hid ht
      have HOK := Lib.hid hok
      clear ht hok hts
      go_enter Tryd.func6, Tryd.ntmps6
      go_wp2_with fail
      refine (great_any N A es.length c _ false (by simpa using h200)).mono ?_
      rintro e w1 ⟨rfl, hb1⟩
      have hp1 : w.heap.size + 1 ≤ w1.heap.size ∧ w1.cell? ⟨w.heap.size, 0, none⟩ = some (.int .i64 N) ∧ w1.cell? ⟨w.heap.size, 1, none⟩ = some (.slice A es.length c) ∧ Below w.heap.size w w1 :=
        pk4 ⟨by simp, by simp [go_sem], by simp [go_sem], below_alloc _ _⟩ hb1
      obtain ⟨g1, g2, g3, g4⟩ := id hp1
      clear hb1
      go_wp2_with fail
      refine (print_any N A es.length c es w1 (hA.next g4) hnc hn (HG.out.next g4) HOK.out).mono ?_
      rintro e w2 ⟨he, hb2⟩
      rw [← HT.out] at he
      subst he
      have hp2 := pk4 hp1 hb2
      clear hp1 hb2 g1 g2 g3 g4
      go_wp2_with fail
      refine (parse_any t (txt N es) w2 HT.out htm).mono ?_
      rintro e w3 ⟨hb3, A3, c3, he, hL3, hc3⟩
      have hp3 := pk4 hp2 hb3
      clear hp2 hb3
      have al : ∀ (W : World) (o : Obj) (b k : Nat), b < W.heap.size → (W.alloc o).cell? ⟨b, k, none⟩ = W.cell? ⟨b, k, none⟩ := fun W o b k h => World.cell?_alloc_lt W o ⟨b, k, none⟩ h
      obtain ⟨g1, g2, g3, g4⟩ := id hp3
      have hl : w.heap.size < w3.heap.size := g1
      have g4n : ∀ o, Below w.heap.size w (w3.alloc o) := fun o => g4.alloc g4.size o
      rcases HQ.out with ⟨h4, hq⟩ | ⟨h4, hq⟩
      · rw [hq] at he hL3 hc3
        subst he
        clear HQ hq hL3 hc3
        go_wp2_with fail
        refine (knows_any _ (HG.out.next (g4n _))).mono ?_
        rintro e w5 ⟨rfl, hb5⟩
        have hb05 := (g4n _).trans (hb5.mono (g4n _).size)
        clear al g4n
        go_wp2_with fail
        go_ret
        exact ⟨rfl, hb05⟩
      · rw [hq] at he hL3 hc3
        subst he
        clear HQ hq
        go_wp2_with fail
        refine (same_yes N A es.length c A3 c3 es _ (hA.next (g4n _)) (hL3.next (below_alloc w3 _)) hn).mono ?_
        rintro e w4 ⟨rfl, hb4⟩
        have hb04 := (g4n _).trans (hb4.mono (g4n _).size)
        clear al g4n hb4 hL3 hc3 g1 g2 g3 g4 hp3
        go_wp2_with fail
        refine (knows_any _ (HG.out.next hb04)).mono ?_
        rintro e w5 ⟨rfl, hb5⟩
        have hb05 := hb04.trans (hb5.mono hb04.size)
        go_wp2_with fail
        go_ret
        exact ⟨rfl, hb05⟩
    · have h1 : (chk N es != 0) = true := by simpa using hok
      have HOK := Lib.hid hok
      clear hok
      go_enter Tryd.func6, Tryd.ntmps6
      go_wp2_with fail
      refine (great_any N A n c _ false (by simpa using h200)).mono ?_
      rintro e w1 ⟨rfl, hb1⟩
      have hp1 : w.heap.size + 1 ≤ w1.heap.size ∧ w1.cell? ⟨w.heap.size, 0, none⟩ = some (.int .i64 N) ∧ w1.cell? ⟨w.heap.size, 1, none⟩ = some (.slice A n c) ∧ Below w.heap.size w w1 :=
        pk4 ⟨by simp, by simp [go_sem], by simp [go_sem], below_alloc _ _⟩ hb1
      obtain ⟨g1, g2, g3, g4⟩ := id hp1
      clear hb1
      go_wp2_with fail
      refine (print_no N A n c es w1 (hA.next g4) hnc hn HOK.out).mono ?_
      rintro e w2 ⟨rfl, hb2⟩
      have hp2 := pk4 hp1 hb2
      clear hp1 hb2 g1 g2 g3 g4
      obtain ⟨g1, g2, g3, g4⟩ := id hp2
      go_wp2_with fail
      refine (rcheck_any N A n c es w2 (hA.next g4) hnc hn).mono ?_
      rintro e w3 ⟨rfl, hb3⟩
      have hp3 := pk4 hp2 hb3
      clear hp2 hb3 g1 g2 g3 g4
      obtain ⟨g1, g2, g3, g4⟩ := id hp3
      go_wp2_with fail
      refine (knows_any _ (HG.out.next g4)).mono ?_
      rintro e w5 ⟨rfl, hb5⟩
      have hp5 := pk4 hp3 hb5
      go_wp2_with fail
      go_ret
      exact ⟨rfl, hp5.2.2.2⟩

set_option maxRecDepth 100000 in
set_option maxHeartbeats 1000000 in
theorem again_walk (s : ByteArray) (w : World) (hs0 : s.size ≤ 140737488351232) (hg : Gr w) :
    Calls Tryd.prog 8 #[.string s] w fun e w' => e = .returned (.bool true) ∧ Below w.heap.size w w' := by
  have HG := Lib.hid hg
  clear hg
  have hsl : s.size = s.data.toList.length := Lib.size_eq s
  have hs : s.size ≤ maxLen := by unfold maxLen; omega
  have hs9 : (s.size : Int) < 9223372036854775807 := by omega
  have HP := Lib.hid (parse_any s s.data.toList w (by cases s; rfl) hs)
  have HQ := Lib.hid (parse_good s.data.toList)
  obtain ⟨⟨⟨N, es⟩, at_, er⟩, hq⟩ : ∃ q, q = parseL s.data.toList := ⟨_, rfl⟩
  rw [← hq] at HP HQ
  clear hq
  have al : ∀ (W : World) (o : Obj) (b k : Nat), b < W.heap.size → (W.alloc o).cell? ⟨b, k, none⟩ = W.cell? ⟨b, k, none⟩ := fun W o b k h => World.cell?_alloc_lt W o ⟨b, k, none⟩ h
  rcases HQ.out with ⟨h1, h2, h3⟩ | ⟨h1, h2, h3⟩
  · replace h1 : er = 0 := h1
    replace h2 : at_ = 0 := h2
    replace h3 : chk N es = 0 := h3
    subst h1 h2
    obtain ⟨t, ht⟩ : ∃ t : ByteArray, t = ⟨(txt N es).toArray⟩ := ⟨_, rfl⟩
    have hts : t.size = (txt N es).length := by rw [ht]; simp [ByteArray.size]
    have htm : t.size ≤ maxLen := by have := txt_len h3; unfold maxLen; omega
    have hn : es.length ≤ maxLen := by have := (good_of h3).2.2.1; unfold maxLen; omega
    have HR : Hid (¬ 4000 < t.size → parseL (txt N es) = ((N, es), 0, 0)) := Lib.hid (fun h4 => parse_txt h3 (by omega))
    have HT := Lib.hid ht
    have HOK := Lib.hid h3
    clear ht h3 hts HQ hsl
    go_enter Tryd.func8, Tryd.ntmps8
    go_wp2_with fail
    refine HP.out.mono ?_
    rintro e w1 ⟨hb1, A1, c1, rfl, hL1, hc1⟩
    clear HP
    have hc1' : es.length ≤ c1 := hc1
    have hL1' : Lies w1 w1.heap.size 3 A1 es.length (ec es) := hL1
    clear hc1 hL1
    go_wp2_with fail
    have hpA : w1.heap.size + 1 ≤ (w1.alloc (.cells #[.int .i64 N, .slice A1 es.length c1] 24)).heap.size ∧ (w1.alloc (.cells #[.int .i64 N, .slice A1 es.length c1] 24)).cell? ⟨w1.heap.size, 0, none⟩ = some (.int .i64 N) ∧ (w1.alloc (.cells #[.int .i64 N, .slice A1 es.length c1] 24)).cell? ⟨w1.heap.size, 1, none⟩ = some (.slice A1 es.length c1) ∧ Below w1.heap.size w1 (w1.alloc (.cells #[.int .i64 N, .slice A1 es.length c1] 24)) :=
      ⟨by simp, by simp [go_sem], by simp [go_sem], below_alloc _ _⟩
    refine (rcheck_any N A1 es.length c1 es _ (hL1'.next hpA.2.2.2) hc1' hn).mono ?_
    rintro e w2 ⟨rfl, hb2⟩
    rw [HOK.out]
    have hp2 := pk4 hpA hb2
    clear hpA hb2
    obtain ⟨g1, g2, g3, g4⟩ := id hp2
    go_wp2_with fail
    refine (check_any N A1 es.length c1 es w2 (hL1'.next g4) hc1' hn).mono ?_
    rintro e w3 ⟨rfl, hb3⟩
    rw [HOK.out]
    have hp3 := pk4 hp2 hb3
    clear hp2 hb3 g1 g2 g3 g4
    obtain ⟨g1, g2, g3, g4⟩ := id hp3
    go_wp2_with fail
    refine (print_any N A1 es.length c1 es w3 (hL1'.next g4) hc1' hn (HG.out.next (hb1.trans (g4.mono hb1.size))) HOK.out).mono ?_
    rintro e w4 ⟨he, hb4⟩
    rw [← HT.out] at he
    subst he
    have hp4 := pk4 hp3 hb4
    clear hp3 hb4 g1 g2 g3 g4
    obtain ⟨g1, g2, g3, g4⟩ := id hp4
    have hb04 := hb1.trans (g4.mono hb1.size)
    have HTM := Lib.hid htm
    have HL1 := Lib.hid hL1'
    have HN := Lib.hid hn
    clear htm hL1' hn hs hs0 hs9 hc1' al
    by_cases h4 : 4000 < t.size
    · go_wp2_with fail
      refine (knows_any _ (HG.out.next hb04)).mono ?_
      rintro e w5 ⟨rfl, hb5⟩
      have hb05 := hb04.trans (hb5.mono hb04.size)
      go_wp2_with fail
      go_ret
      exact ⟨rfl, hb05⟩
    · go_wp2_with fail
      refine (parse_any t (txt N es) w4 HT.out HTM.out).mono ?_
      rintro e w5 ⟨hb5, A5, c5, he, hL5, hc5⟩
      rw [HR.out h4] at he hL5 hc5
      subst he
      have hp5 := pk4 hp4 hb5
      clear hp4 hb5 g1 g2 g3 g4 HR
      obtain ⟨g1, g2, g3, g4⟩ := id hp5
      have hl : w1.heap.size < w5.heap.size := g1
      have al : ∀ (W : World) (o : Obj) (b k : Nat), b < W.heap.size → (W.alloc o).cell? ⟨b, k, none⟩ = W.cell? ⟨b, k, none⟩ := fun W o b k h => World.cell?_alloc_lt W o ⟨b, k, none⟩ h
      have hL1n : ∀ o, Lies (w5.alloc o) (w5.alloc o).heap.size 3 A1 es.length (ec es) := fun o => HL1.out.next (g4.alloc g4.size o)
      have g5n : ∀ o, Below w.heap.size w (w5.alloc o) := fun o => hb1.trans ((g4.alloc g4.size o).mono hb1.size)
      go_wp2_with fail
      refine (same_yes N A1 es.length c1 A5 c5 es _ (hL1n _) (hL5.next (below_alloc w5 _)) HN.out).mono ?_
      rintro e w6 ⟨rfl, hb6⟩
      have hb06 := (g5n _).trans (hb6.mono (g5n _).size)
      clear al g5n hL1n hL5 hc5 g1 g2 g3 g4 hp5 hb6
      go_wp2_with fail
      refine (knows_any _ (HG.out.next hb06)).mono ?_
      rintro e w7 ⟨rfl, hb7⟩
      have hb07 := hb06.trans (hb7.mono hb06.size)
      go_wp2_with fail
      go_ret
      exact ⟨rfl, hb07⟩
  · replace h1 : er ≠ 0 := h1
    obtain ⟨rfl, rfl⟩ : N = 0 ∧ es = [] := by
      replace h2 : (N, es) = (0, []) := h2
      exact ⟨congrArg Prod.fst h2, congrArg Prod.snd h2⟩
    replace h3 : at_ ≤ s.data.toList.length + 1 := h3
    rw [← hsl] at h3
    have e1 : (er != 0) = true := by simpa using h1
    have e2 : ((at_ : Int) ≤ (s.size : Int) + 1) := by omega
    clear HQ hsl h2 h1
    go_enter Tryd.func8, Tryd.ntmps8
    go_wp2_with fail
    refine HP.out.mono ?_
    rintro e w1 ⟨hb1, A1, c1, rfl, hL1, hc1⟩
    clear HP
    have hL1' : Lies w1 w1.heap.size 3 A1 0 (ec []) := hL1
    clear hL1 hc1
    have g1n : ∀ o, Below w.heap.size w (w1.alloc o) := fun o => hb1.alloc hb1.size o
    go_wp2_with fail
    refine (same_yes 0 A1 0 c1 none 0 [] _ (hL1'.next (below_alloc w1 _)) ⟨rfl, by intro j u h; simp [ec] at h⟩ (Nat.zero_le _)).mono ?_
    rintro e w2 ⟨rfl, hb2⟩
    have hb02 := (g1n _).trans (hb2.mono (g1n _).size)
    clear al g1n hb2
    go_wp2_with fail
    refine (knows_any _ (HG.out.next hb02)).mono ?_
    rintro e w3 ⟨rfl, hb3⟩
    have hb03 := hb02.trans (hb3.mono hb02.size)
    go_wp2_with fail
    go_ret
    exact ⟨rfl, hb03⟩
end Go.Proofs.YtcjghomjjnaddaaDoor
