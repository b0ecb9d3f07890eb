import Derived.Test.YtdpmlpclhojcjaaEc
/-
  The place of a name among names that rise; the contracts of sort.Search with find's closure, and of find. No condition but that there are not too many files and their names rise.
-/
namespace Go.Proofs.Ytdpmlpclhojcjaa
open Go.ChangeShapes Go.WideShapes Go.ChangeAt Go.RowKit
set_option linter.unusedVariables false

/-- How many names are less than a name. -/
def place : List Fl → By → Nat
  | [], _ => 0
  | f :: d, n => if f.name < n then place d n + 1 else 0
theorem place_le : ∀ (d : List Fl) (n : By), place d n ≤ d.length
  | [], _ => Nat.le_refl _
  | f :: d, n => by unfold place; split <;> simp [place_le d n]
theorem place_lt : ∀ {d : List Fl} {n : By} {k : Nat} {f : Fl}, d[k]? = some f → k < place d n → f.name < n
  | [], _, _, _, h, _ => by simp at h
  | x :: d, n, 0, f, h, hk => by
    simp only [List.getElem?_cons_zero, Option.some.injEq] at h
    subst h
    unfold place at hk
    by_cases hx : x.name < n
    · exact hx
    · rw [if_neg hx] at hk; omega
  | x :: d, n, k + 1, f, h, hk => by
    unfold place at hk
    by_cases hx : x.name < n
    · rw [if_pos hx] at hk; exact place_lt (d := d) (by simpa using h) (by omega)
    · rw [if_neg hx] at hk; omega
theorem place_ge : ∀ {d : List Fl} (hr : Rises d) {n : By} {k : Nat} {f : Fl}, d[k]? = some f → place d n ≤ k → ¬ f.name < n
  | [], _, _, _, _, h, _ => by simp at h
  | x :: d, hr, n, 0, f, h, hk => by
    simp only [List.getElem?_cons_zero, Option.some.injEq] at h
    subst h
    unfold place at hk
    by_cases hx : x.name < n
    · rw [if_pos hx] at hk; omega
    · exact hx
  | x :: d, hr, n, k + 1, f, h, hk => by
    have h' : d[k]? = some f := by simpa using h
    unfold place at hk
    by_cases hx : x.name < n
    · rw [if_pos hx] at hk; exact place_ge hr.tail h' (by omega)
    · intro hf
      exact hx (by_trans (hr.head f (List.mem_of_getElem? h')) hf)
theorem place_has : ∀ {d : List Fl} (hr : Rises d) {n : By}, hasF d n = true ↔ ∃ f, d[place d n]? = some f ∧ f.name = n
  | [], _, n => by simp [hasF]
  | x :: d, hr, n => by
    unfold place
    by_cases hx : x.name < n
    · have e : (x.name == n) = false := by simpa using by_ne hx
      have : hasF (x :: d) n = hasF d n := by simp [hasF, e]
      rw [if_pos hx, this, place_has hr.tail]
      simp
    · rw [if_neg hx]
      by_cases he : x.name = n
      · simp [hasF, he]
      · have : hasF d n = false := hasF_no.2 fun g hg hgn => hx (hgn ▸ hr.head g hg)
        simp only [List.getElem?_cons_zero, Option.some.injEq]
        constructor
        · intro h
          have h2 : hasF (x :: d) n = hasF d n := by simp [hasF, he]
          rw [h2, this] at h; cases h
        · rintro ⟨f, rfl, hf⟩
          exact absurd hf he
theorem xs_at (ls : List Fe) (k : Nat) (hk : k < ls.length) : (xs ls)[k]? = some (fAt ls k).x := by
  unfold xs; rw [List.getElem?_map, List.getElem?_eq_getElem hk, fAt_get ls k hk]; rfl
set_option maxHeartbeats 1000000 in
theorem closure_any (b1 b2 : Nat) (A : Option Addr) (c : Nat) (ls : List Fe) (s : ByteArray) (k : Nat) (W : World) (hk : k < ls.length) (h1 : W.cell? ⟨b1, 0, none⟩ = some (.slice A ls.length c)) (h2 : W.cell? ⟨b2, 0, none⟩ = some (.string s)) (hL : Lies W W.heap.size 3 A ls.length (fc ls)) :
    Calls Try.prog 45 (#[.int .i64 k] ++ #[.pointer (some ⟨b1, 0, none⟩), .pointer (some ⟨b2, 0, none⟩)]) W fun e w' => e = .returned (.bool (!decide ((fAt ls k).nm.toList < s.toList))) ∧ ∃ q, w' = W.drewN q := by
  obtain ⟨ad, rfl, hadb, e0, _⟩ := hL.fe k hk
  have hkl : (k : Int) < (ls.length : Int) := by omega
  have HS := Lib.hid (less_of (fAt ls k).nm.toList s.toList)
  rw [← HS.out]
  generalize fAt ls k = m at *
  clear hL
  go_enter Try.func45, Try.ntmps45
  go_upto_region 1 with fail
  go_quiet (fail)
  go_wp2_with fail
  go_ret
  exact ⟨rfl, nq, rfl⟩
def SrRel (p n : Nat) (w : World) (a b : Value) (W : World) : Prop := ∃ lo hi q : Nat, a = .int .i64 lo ∧ b = .int .i64 hi ∧ lo ≤ p ∧ p ≤ hi ∧ hi ≤ n ∧ W = w.drewN q
set_option maxHeartbeats 2000000 in
set_option maxRecDepth 100000 in
theorem search_any (cb : Array Value) (p n : Nat) (w : World) (hp : p ≤ n) (hn : n ≤ 1000) (hf : ∀ (m i : Nat), i < n → Calls Try.prog 45 (#[.int .i64 i] ++ cb) (w.drewN m) fun e w' => e = .returned (.bool (decide (p ≤ i))) ∧ ∃ q, w' = w.drewN q) :
    Calls Try.prog 44 #[.int .i64 n, .func (.func 45) #[] cb] w fun e w' => e = .returned (.int .i64 (p : Nat)) ∧ ∃ q, w' = w.drewN q := by
  have HF := Lib.hid hf
  have hk := Try.call45
  clear hf
  go_enter Try.func44, Try.ntmps44
  go_wp2_with fail
  go_loopw [5, 6] (fun a b W => SrRel p n w a b W) (fun a b W => (intOf b).toNat - (intOf a).toNat)
  case atStart => exact ⟨0, n, 0, rfl, rfl, Nat.zero_le _, hp, Nat.le_refl _, rfl⟩
  case round =>
    obtain ⟨lo, hi, q, rfl, rfl, h1, h2, h3, rfl⟩ := hrel
    by_cases hlt : lo < hi
    · have hlti : (lo : Int) < (hi : Int) := by omega
      have hc := HF.out q ((lo + hi) / 2) (by omega)
      rw [show (((lo + hi) / 2 : Nat) : Int) = ((lo : Int) + (hi : Int)) / 2 by omega] at hc
      by_cases hpm : p ≤ (lo + hi) / 2
      · rw [decide_eq_true hpm] at hc
        go_wp2_with fail
        refine hc.mono ?_
        rintro e w' ⟨rfl, q', rfl⟩
        go_wp2_with fail
        go_roundw
        case rel => exact ⟨lo, (lo + hi) / 2, q', rfl, by rw [show (((lo + hi) / 2 : Nat) : Int) = ((lo : Int) + (hi : Int)) / 2 by omega], h1, hpm, by omega, rfl⟩
        case measure => simp [intOf]; omega
      · rw [decide_eq_false hpm] at hc
        go_wp2_with fail
        refine hc.mono ?_
        rintro e w' ⟨rfl, q', rfl⟩
        go_wp2_with fail
        go_roundw
        case rel => exact ⟨(lo + hi) / 2 + 1, hi, q', by rw [show (((lo + hi) / 2 + 1 : Nat) : Int) = ((lo : Int) + (hi : Int)) / 2 + 1 by omega], rfl, by omega, h2, h3, rfl⟩
        case measure => simp [intOf]; omega
    · have e1 : lo = p := by omega
      have e2 : hi = p := by omega
      subst e1
      go_wp2_with fail
      go_ret
      exact ⟨rfl, q, rfl⟩
set_option maxHeartbeats 2000000 in
set_option maxRecDepth 20000 in
theorem find_any (A : Option Addr) (c : Nat) (ls : List Fe) (s : ByteArray) (w : World) (hA : Lies w w.heap.size 3 A ls.length (fc ls)) (hr : Rises (xs ls)) (hn : ls.length ≤ 1000) :
    Calls Try.prog 35 #[.agg #[.slice A ls.length c], .string s] w fun e w' => e = .returned (.tuple #[.int .i64 (place (xs ls) s.toList : Nat), .bool (hasF (xs ls) s.toList)]) ∧ Below w.heap.size w w' := by
  have HB := Lib.hid (show Below w.heap.size w ((w.alloc (.cells #[.slice A ls.length c] 24)).alloc (.cells #[.string s] 9)) from ((Below.refl _ w).alloc (Nat.le_refl _) _).alloc (by simp) _)
  have HA := Lib.hid (hA.next HB.out)
  have d0 : ((w.alloc (.cells #[.slice A ls.length c] 24)).alloc (.cells #[.string s] 9)).cell? ⟨w.heap.size, 0, none⟩ = some (.slice A ls.length c) := by
    refine c1_0 (t := 24) ?_
    exact (Below.heap_alloc _ _ _ (by simp)).trans (heap_alloc_new w _)
  have d1 : ((w.alloc (.cells #[.slice A ls.length c] 24)).alloc (.cells #[.string s] 9)).cell? ⟨w.heap.size + 1, 0, none⟩ = some (.string s) := by
    refine c1_0 (t := 9) ?_
    have := heap_alloc_new (w.alloc (.cells #[.slice A ls.length c] 24)) (.cells #[.string s] 9)
    rwa [World.size_alloc] at this
  have HPL := Lib.hid (show place (xs ls) s.toList ≤ ls.length by have := place_le (xs ls) s.toList; rwa [xs_len] at this)
  have HIS := Lib.hid (place_has hr (n := s.toList))
  have HCL := Lib.hid (show ∀ k, k < ls.length → decide (place (xs ls) s.toList ≤ k) = !decide ((fAt ls k).nm.toList < s.toList) from fun k hk => by
    by_cases h : place (xs ls) s.toList ≤ k
    · rw [decide_eq_true h, decide_eq_false (show ¬ (fAt ls k).nm.toList < s.toList from place_ge hr (xs_at ls k hk) h)]; rfl
    · rw [decide_eq_false h, decide_eq_true (show (fAt ls k).nm.toList < s.toList from place_lt (xs_at ls k hk) (by omega))]; rfl)
  generalize place (xs ls) s.toList = p at *
  clear hA hr
  go_enter Try.func35, Try.ntmps35
  go_upto_region 1 with fail
  generalize (w.alloc (.cells #[.slice A ls.length c] 24)).alloc (.cells #[.string s] 9) = w2 at HB HA d0 d1 ⊢
  have CS := Lib.hid (search_any #[.pointer (some ⟨w.heap.size, 0, none⟩), .pointer (some ⟨w.heap.size + 1, 0, none⟩)] p ls.length w2 HPL.out hn (fun m i hi => by
    rw [HCL.out i hi]
    refine (closure_any w.heap.size (w.heap.size + 1) A c ls s i (w2.drewN m) hi d0 d1 HA.out).mono ?_
    rintro e w' ⟨rfl, q, rfl⟩
    exact ⟨rfl, m + q, World.drewN_drewN _ _ _⟩))
  go_wp2_with fail
  refine CS.out.mono ?_
  rintro e w3 ⟨rfl, q, rfl⟩
  have HB3 := Lib.hid (below_to_drewN HB.out q)
  have HA3 := Lib.hid (HA.out.drewN q)
  have e0 : (w2.drewN q).cell? ⟨w.heap.size, 0, none⟩ = some (.slice A ls.length c) := d0
  have e1 : (w2.drewN q).cell? ⟨w.heap.size + 1, 0, none⟩ = some (.string s) := d1
  generalize w2.drewN q = w3 at HB3 HA3 e0 e1 ⊢
  clear d0 d1 CS
  by_cases hlt : p < ls.length
  · have hpl : (p : Int) < (ls.length : Int) := by omega
    obtain ⟨ad, rfl, hadb, c0, _⟩ := HA3.out.fe p hlt
    have HXA := Lib.hid (xs_at ls p hlt)
    by_cases he : (fAt ls p).nm.toList = s.toList
    · have HT := Lib.hid (show hasF (xs ls) s.toList = true from HIS.out.2 ⟨_, HXA.out, he⟩)
      have he' : ((fAt ls p).nm.toList == s.toList) = true := by simpa using he
      clear he
      go_upto_region 2 with fail
      go_quiet (fail)
      go_wp2_with fail
      go_ret2
      exact ⟨by rw [HT.out]; rfl, below_to_drewN HB3.out _⟩
    · have HT := Lib.hid (show hasF (xs ls) s.toList = false by
        cases h : hasF (xs ls) s.toList with
        | false => rfl
        | true =>
          obtain ⟨f, h1, h2⟩ := HIS.out.1 h
          rw [HXA.out] at h1
          injection h1 with h1
          subst h1
          exact absurd h2 he)
      have he' : ((fAt ls p).nm.toList == s.toList) = false := by simpa using he
      clear he
      go_upto_region 2 with fail
      go_quiet (fail)
      go_wp2_with fail
      go_ret2
      exact ⟨by rw [HT.out]; rfl, below_to_drewN HB3.out _⟩
  · have hpl : decide ((p : Int) < (ls.length : Int)) = false := decide_eq_false (by omega)
    have hpl' : decide (p < ls.length) = false := decide_eq_false hlt
    have HT := Lib.hid (show hasF (xs ls) s.toList = false by
      cases h : hasF (xs ls) s.toList with
      | false => rfl
      | true =>
        obtain ⟨f, h1, h2⟩ := HIS.out.1 h
        have := (List.getElem?_eq_some_iff.1 h1).1
        rw [xs_len] at this
        exact absurd this hlt)
    clear hlt
    go_upto_region 2 with fail
    go_quiet (fail)
    go_wp2_with fail
    go_ret2
    exact ⟨by rw [HT.out]; rfl, below_to_drewN HB3.out _⟩
end Go.Proofs.Ytdpmlpclhojcjaa
