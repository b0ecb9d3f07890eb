/-
  What comes in: lists of messages, as they read in memory; the contract of 'many'. No condition.
-/
import Derived.Test.YtcaccjfnibjbpaaDoor
import Derived.Test.YtcaccjfnibjbpaaWa
namespace Go.Proofs.Ytcaccjfnibjbpaa
open Go.ChangeShapes Go.WideShapes Go.ChangeAt Go.RowKit Go.Deep
set_option linter.unusedVariables false

/-- Lists of messages that came in. -/
structure LmI (W : World) (D : Option Addr) (d : Nat) (ls : List Le) : Prop where
  l : Lls W W.heap.size D d ls
  b : ∀ e ∈ ls, ∀ m ∈ e.ms, bd m.2
  n : ls.length ≤ maxLen
section
variable {H : Type} {enc : TypeId × Value → H} {W : World} {base : Nat} {spare : Nat → Bool} {held : Bool}
theorem lists_in {fuel : Nat} {v : Value} {x : DataW H × List MemPlace} (h : DataW.trod enc Try.prog W base spare held fuel 35 [v] = some x) :
    ∃ (A : Option Addr) (c : Nat) (ls : List Le), v = .slice A ls.length c ∧ LmI W A c ls := by
  rcases open_slice Try.underlying35 h with ⟨hc, _⟩ | ⟨a, len, cap, m, n, D, Pl, hc, _, hl, hm, hmm, _, hi⟩
  · have : v = .slice none 0 0 := by simpa using hc
    exact ⟨none, 0, [], this, ⟨Lies.nil, Nat.le_refl _, fun x hx => by cases hx⟩, fun e he => (by cases he), Nat.zero_le _⟩
  · have hv : v = .slice (some a) len cap := by simpa using hc
    have c22 : Try.prog.cellsOf 29 = 1 := by kernel_rfl
    rw [c22] at hi
    have hlm : len ≤ m := by rw [hmm]; split <;> omega
    have hex : ∀ i : Nat, ∃ e : Le, Lies W W.heap.size 2 e.A e.ms.length (mc e.ms) ∧ (∀ m ∈ e.ms, bd m.2) ∧ (i < len → W.cell? (a.add i) = some (.slice e.A e.ms.length e.c)) := fun i => by
      by_cases hil : i < len
      · obtain ⟨cs', h1, h2⟩ := hi i (by omega)
        obtain ⟨_, hsz, hat⟩ := World.cells?_some h1
        rw [Nat.mul_one] at hat
        match cs', hsz with
        | [u], _ =>
          obtain ⟨A, k, c, ms, rfl, hL, _, _, hb⟩ := msgs_in h2
          obtain rfl := hL.ms_len
          refine ⟨⟨A, c, ms⟩, hL, hb, fun _ => ?_⟩
          have := hat 0 (by decide); rw [Ytcaccjfnibjbpaa.add_zero] at this; simpa using this
      · exact ⟨noLe, Lies.nil, fun m hm => (by cases hm), fun h => absurd h hil⟩
    obtain ⟨f, hf⟩ := Classical.axiomOfChoice hex
    have hfl : ((List.range len).map f).length = len := by simp
    refine ⟨some a, cap, (List.range len).map f, by rw [hfl]; exact hv, ⟨⟨by simp [lcl], fun j u hj => ⟨a, rfl, ?_, ?_⟩⟩, by rw [hfl]; exact hl, fun x hx => ?_⟩, fun e he => ?_, by rw [hfl]; omega⟩
    · have hjl : j < len := by have := (List.getElem?_eq_some_iff.1 hj).1; simpa [lcl] using this
      have := (hf 0).2.2 (by omega)
      have h2 := World.block_lt_of_cell? W _ this
      rwa [block_add] at h2
    · have hjl : j < len := by have := (List.getElem?_eq_some_iff.1 hj).1; simpa [lcl] using this
      rw [(hf j).2.2 hjl]
      unfold lcl at hj
      simp [hjl] at hj
      rw [hj]
    · obtain ⟨i, _, rfl⟩ := List.mem_map.1 hx
      exact (hf i).1
    · obtain ⟨i, _, rfl⟩ := List.mem_map.1 he
      exact (hf i).2.1
end
def bigL (e : Le) : Bool := decide (100 < e.ms.length)
/-- Are there more lists, or longer ones, than are looked at? -/
def manyB (ls : List Le) : Bool := decide (20 < ls.length) || ls.any bigL
theorem many_no {ls : List Le} (h : manyB ls = false) : ls.length ≤ 20 ∧ ∀ e ∈ ls, e.ms.length ≤ 100 := by
  unfold manyB at h
  rw [Bool.or_eq_false_iff] at h
  refine ⟨by have := of_decide_eq_false h.1; omega, fun e he => ?_⟩
  have := List.any_eq_false.1 h.2 e he
  unfold bigL at this
  simp at this; exact this
theorem cat_len {ls : List Le} (h : ls.length ≤ 20) (h2 : ∀ e ∈ ls, e.ms.length ≤ 100) : (lcatl ls).length ≤ 2000 := by
  have : ∀ r : List Le, (∀ e ∈ r, e.ms.length ≤ 100) → (lcatl r).length ≤ 100 * r.length := by
    intro r
    induction r with
    | nil => intro _; simp [lcatl]
    | cons e r ih =>
      intro hr
      have h1 := ih fun x hx => hr x (List.mem_cons_of_mem _ hx)
      have h3 := hr e (List.mem_cons_self ..)
      have e1 : lcatl (e :: r) = e.ms ++ lcatl r := rfl
      rw [e1, List.length_append, List.length_cons]; omega
  have := this ls h2
  omega
def MnRel (ls : List Le) (w : World) (i : Value) (W : World) : Prop := ∃ k : Nat, i = .int .i64 k ∧ k ≤ ls.length ∧ (ls.take k).any bigL = false ∧ W = w
theorem any_take (ls : List Le) (k : Nat) (h : k < ls.length) : (ls.take (k + 1)).any bigL = ((ls.take k).any bigL || bigL ls[k]) := by
  rw [List.take_succ_eq_append_getElem h, List.any_append]; simp
set_option maxRecDepth 20000 in
set_option maxHeartbeats 1000000 in
theorem many_any (D : Option Addr) (d : Nat) (ls : List Le) (w : World) (hD : Lls w w.heap.size D d ls) (hn : ls.length ≤ maxLen) :
    Calls Try.prog 15 #[.slice D ls.length d] w fun e w' => e = .returned (.bool (manyB ls)) ∧ Below w.heap.size w w' := by
  by_cases h20 : 20 < ls.length
  · have HR := Lib.hid (show manyB ls = true by unfold manyB; rw [decide_eq_true h20]; rfl)
    have h20' : (20 : Int) < (ls.length : Int) := by omega
    go_enter Try.func15, Try.ntmps15
    go_wp2_with fail
    go_ret
    exact ⟨ret_bool HR.out.symm, Below.refl _ _⟩
  · have HD := Lib.hid hD
    have HR := Lib.hid (show manyB ls = ls.any bigL by unfold manyB; rw [decide_eq_false h20]; rfl)
    clear hD
    go_enter Try.func15, Try.ntmps15
    go_wp2_with fail
    go_loopw [3] (fun i W => MnRel ls w i W) (fun i W => ls.length - (intOf i).toNat)
    case atStart => exact ⟨0, rfl, Nat.zero_le _, rfl, rfl⟩
    case round =>
      obtain ⟨k, rfl, hk, hp, rfl⟩ := hrel
      have HP := Lib.hid hp
      clear hp
      by_cases hlt : k < ls.length
      · have hkl : (k : Int) < (ls.length : Int) := by omega
        obtain ⟨ad, hD', hadb, e0⟩ := HD.out.L.2 k _ (lcl_at ls k hlt)
        subst hD'
        have HT := Lib.hid (any_take ls k hlt)
        have HM := Lib.hid (show bigL ls[k] = true → ls.any bigL = true from fun h => List.any_eq_true.2 ⟨_, List.getElem_mem hlt, h⟩)
        unfold bigL at HT HM
        clear hadb
        by_cases hb : 100 < ls[k].ms.length
        · have HE := Lib.hid (show ls.any bigL = true from HM.out (by simpa using hb))
          generalize ls[k].A = X at *
          generalize ls[k].c = xc at *
          generalize ls[k].ms = xm at *
          have hb' : (100 : Int) < (xm.length : Int) := by omega
          go_wp2_with fail
          go_ret
          exact ⟨ret_bool (by rw [HR.out, HE.out]), Below.refl _ _⟩
        · have HE := Lib.hid (show (ls.take (k + 1)).any bigL = false by
            have h1 := HT.out
            rw [decide_eq_false hb] at h1
            rw [show (ls.take (k + 1)).any bigL = _ from h1]
            have := HP.out
            rw [show (ls.take k).any (fun e => decide (100 < e.ms.length)) = false from this]; rfl)
          generalize ls[k].A = X at *
          generalize ls[k].c = xc at *
          generalize ls[k].ms = xm at *
          have hb' : ¬ (100 : Int) < (xm.length : Int) := by omega
          go_wp2_with fail
          go_roundw
          case rel => exact ⟨k + 1, by go_num, by omega, HE.out, rfl⟩
          case measure => simp [intOf]; omega
      · have hk' : k = ls.length := by omega
        subst hk'
        have HE := Lib.hid (show ls.any bigL = false by have := HP.out; rw [List.take_length] at this; exact this)
        go_wp2_with fail
        go_ret
        exact ⟨ret_bool (by rw [HR.out, HE.out]), Below.refl _ _⟩
end Go.Proofs.Ytcaccjfnibjbpaa
