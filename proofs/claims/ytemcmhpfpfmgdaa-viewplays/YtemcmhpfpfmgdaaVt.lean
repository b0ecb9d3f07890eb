import Derived.Test.YtemcmhpfpfmgdaaVs
import Derived.Test.YtemcmhpfpfmgdaaShelf
import Derived.Lib.AppendZeros
/-
  A row of members of the call's own, as the sort wants it and leaves it; the contracts of the comparison by Ids, of slices.SortFunc and slices.SortedFunc at members, and of view.next. No condition but that there are at most a thousand.
-/
namespace Go.Proofs.Ytemcmhpfpfmgdaa
open Go.RowKit Go.Sort Go.Shelf Go.Lib Go.Maps
set_option linter.unusedVariables false

def me (m : Mb) : List Value := [.int .i64 m.1, .int .i64 m.2]
def c3 (a b : Int) : Int := if a < b then -1 else if b < a then 1 else 0
theorem c3_lt {a b : Int} (h : a < b) : c3 a b = -1 := by unfold c3; rw [if_pos h]
theorem c3_gt {a b : Int} (h : b < a) : c3 a b = 1 := by unfold c3; rw [if_neg (by omega), if_pos h]
theorem c3_eq (a : Int) : c3 a a = 0 := by unfold c3; simp
def Sw (w0 : World) (blk off : Nat) (dk : Array Mb) (W : World) : Prop := ∃ n os, W = grow (putRowK me 2 (Sort.ahead w0 n) blk off dk) os
theorem flat_mc (l : List Mb) : (flatK me 2 l.toArray).toList = mc l := by
  apply List.ext_getElem?
  intro t
  by_cases ht : t < l.length * 2
  · have hs : t < (flatK me 2 l.toArray).size := by rw [size_flatK]; simpa using ht
    rw [Array.getElem?_toList, Array.getElem?_eq_getElem hs, ← getElem!_pos _ t hs, get_flatK _ _ _ _ (by simpa using ht)]
    have hq : t / 2 < l.length := by omega
    obtain ⟨e0, e1⟩ := mc_at l (t / 2) hq
    have ea : l.toArray[t / 2]! = mAt l (t / 2) := by rw [mAt_get l _ hq, getElem!_pos _ _ (by simpa using hq)]; simp
    rw [ea]
    rcases Nat.mod_two_eq_zero_or_one t with h | h
    · rw [h]
      have : t = t / 2 * 2 := by omega
      rw [← this] at e0
      rw [e0]; rfl
    · rw [h]
      have : t = t / 2 * 2 + 1 := by omega
      rw [← this] at e1
      rw [e1]; rfl
  · rw [Array.getElem?_toList, Array.getElem?_eq_none (show (flatK me 2 l.toArray).size ≤ t by rw [size_flatK]; simp; omega), List.getElem?_eq_none (show (mc l).length ≤ t by rw [mc_length]; omega)]
section
variable {w w' : World} {base g n cap : Nat} {l : List Mb}
theorem own_len {A : Option Addr} {c : Nat} (h : w.ownsRow base 59 2 (.slice A n c) n (mc l)) : l.length = n := by
  have := h.1
  rw [mc_length] at this
  omega
theorem own_holds (h : w.ownsRow base 59 2 (.slice (some ⟨g, 0, none⟩) n cap) n (mc l)) : HoldsK me 2 w g 0 l.toArray := by
  intro j hj
  have hj' : j < (mc l).length := by rw [mc_length]; rw [size_flatK] at hj; simpa using hj
  have e : (mc l)[j]? = some ((flatK me 2 l.toArray)[j]!) := by
    rw [← flat_mc, Array.getElem?_toList, Array.getElem?_eq_getElem hj, getElem!_pos _ j hj]
  refine ⟨?_, h.frozenAt _⟩
  have := h.cells (g := g) rfl j _ e
  rw [show (⟨g, 0, none⟩ : Addr).add j = ⟨g, 0 + j, none⟩ by unfold Addr.add; split <;> simp_all] at this
  exact this
end
theorem own_some {w : World} {base n : Nat} {A : Option Addr} {c : Nat} {l : List Mb} (h : w.ownsRow base 59 2 (.slice A n c) n (mc l)) (hn : 0 < n) : ∃ g, A = some ⟨g, 0, none⟩ ∧ base ≤ g ∧ g < w.heap.size := by
  rcases h.2 with ⟨hv, h0⟩ | ⟨g, cap, cur, hv, hb, hg, _⟩
  · omega
  · injection hv with e1 e2 e3
    exact ⟨g, e1, hb, (Array.getElem?_eq_some_iff.1 hg).1⟩
section
variable {w w' : World} {base g n cap : Nat} {l : List Mb}
theorem own_sorted7 (h : w.ownsRow base 59 2 (.slice (some ⟨g, 0, none⟩) n cap) n (mc l)) (d : Array Mb) (hd : d.size = n) (S : Sw w g 0 d w') :
    w'.ownsRow base 59 2 (.slice (some ⟨g, 0, none⟩) n cap) n (mc d.toList) ∧ w.grownBy w' (some g) := by
  obtain ⟨q, os, rfl⟩ := S
  have hlt := (h.lt g rfl).2
  have hb0 := (h.lt g rfl).1
  rcases h.2 with ⟨e0, _⟩ | ⟨g', cap', cur, e0, hb, hg, hn, hm, hs, ht⟩
  · cases e0
  · injection e0 with e1 _ e3
    injection e1 with e1
    injection e1 with e1
    subst e1; subst e3
    have hsz : (flatK me 2 d).size = n * 2 := by rw [size_flatK, hd]
    have hgs : ∀ k, k < w.heap.size → (grow (putRowK me 2 (Sort.ahead w q) g 0 d) os).heap[k]? = (putRowK me 2 (Sort.ahead w q) g 0 d).heap[k]? := by
      intro k hk
      show ((putRowK me 2 (Sort.ahead w q) g 0 d).heap ++ os)[k]? = _
      rw [Array.getElem?_append_left]
      simpa [putRowK, putRow, mapBlock, Sort.ahead] using hk
    refine ⟨⟨by rw [mc_length]; simp; omega, .inr ⟨g, cap, putCells id 0 (flatK me 2 d) cur, rfl, hb, ?_, hn, hm, by simpa [putCells] using hs, ?_⟩⟩, ?_⟩
    · rw [hgs g hlt]
      simp [putRowK, putRow, mapBlock, Sort.ahead, Array.getElem?_modify, hg, onCells]
    · have hf : mc d.toList = (flatK me 2 d).toList := by rw [← flat_mc]
      rw [hf]
      apply List.ext_getElem?
      intro j
      rw [List.getElem?_take, Array.getElem?_toList, Array.getElem?_toList]
      by_cases hj : j < n * 2
      · have hjc : j < cur.size := by rw [hs]; have := Nat.mul_le_mul_right 2 hn; omega
        simp only [if_pos hj, putCells, Array.getElem?_mapIdx, Array.getElem?_eq_getElem hjc, Option.map_some]
        rw [if_pos (by omega), Array.getElem?_eq_getElem (by omega)]
        simp
        exact getElem!_pos _ j _
      · rw [if_neg hj, Array.getElem?_eq_none (by omega)]
    · refine ⟨rfl, rfl, rfl, ?_, fun k hk hne => ?_⟩
      · show w.heap.size ≤ ((putRowK me 2 (Sort.ahead w q) g 0 d).heap ++ os).size
        simp [putRowK, putRow, mapBlock, Sort.ahead]
      · have hgk : g ≠ k := fun e => hne (by rw [e])
        rw [hgs k hk]
        simp [putRowK, putRow, mapBlock, Sort.ahead, Array.getElem?_modify, hgk]
end
def cmpTo (a b : Mb) : Int := c3 a.1 b.1
theorem ltTo (a b : Mb) : ltOf cmpTo a b = decide (a.1 < b.1) := by
  unfold ltOf cmpTo c3
  by_cases h1 : a.1 < b.1
  · simp [h1]
  · by_cases h2 : b.1 < a.1 <;> simp [h1, h2]
theorem swoTo : SWO (ltOf cmpTo) where
  irrefl x := by rw [ltTo]; simp
  trans x y z h1 h2 := by rw [ltTo] at *; simp at *; omega
  ntrans x y z h1 h2 := by rw [ltTo] at *; simp at *; omega
theorem compareI_any (x y : Int) (w : World) : Calls Try.prog 34 #[.int .i64 x, .int .i64 y] w fun e w' => e = .returned (.int .i64 (c3 x y)) ∧ w = w' := by
  rcases Int.lt_trichotomy x y with h | h | h
  · have HV := Lib.hid (c3_lt h)
    go_enter Try.func34, Try.ntmps34
    go_wp2
    go_ret
    exact ⟨ret_int HV.out.symm, rfl⟩
  · subst h
    have HV := Lib.hid (c3_eq x)
    go_enter Try.func34, Try.ntmps34
    go_wp2
    go_ret
    exact ⟨ret_int HV.out.symm, rfl⟩
  · have HV := Lib.hid (c3_gt h)
    have h2 : ¬ x < y := by omega
    go_enter Try.func34, Try.ntmps34
    go_wp2
    go_ret
    exact ⟨ret_int HV.out.symm, rfl⟩
theorem compareI_still (x y : Int) (w : World) : Calls Try.prog 34 #[.int .i64 x, .int .i64 y] w fun e w' => e = .returned (.int .i64 (c3 x y)) ∧ w' = w := (compareI_any x y w).mono fun _ _ ⟨a, b⟩ => ⟨a, b.symm⟩
set_option maxHeartbeats 1000000 in
theorem closure39 (x y : Mb) (W : World) : Calls Try.prog 33 #[.agg #[.int .i64 x.1, .int .i64 x.2], .agg #[.int .i64 y.1, .int .i64 y.2]] W fun e w' => e = .returned (.int .i64 (cmpTo x y)) ∧ ∃ q os', w' = grow (W.drewN q) os' := by
  have hcon := fun W' => compareI_still x.1 y.1 W'
  have HE := Lib.hid (show c3 x.1 y.1 = cmpTo x y from rfl)
  generalize c3 x.1 y.1 = r at hcon HE
  go_enter Try.func33, Try.ntmps33
  go_wp2_with (go_at_call 34; refine (hcon _).mono ?_; rintro e w' ⟨rfl, rfl⟩)
  go_ret
  exact ⟨ret_int HE.out, 0, _, by rw [alloc_eq_grow, alloc_eq_grow, grow_grow]; rfl⟩
theorem cmpLays39 (blk off size : Nat) (w : World) : CmpLays Try.prog 33 #[] me 2 cmpTo blk off size w :=
  fun _ _ _ _ x y => closure39 x y _
set_option maxHeartbeats 1000000 in
theorem sortTo_any (w : World) (base : Nat) (M : Option Addr) (cap : Nat) (l : List Mb) (h : w.ownsRow base 59 2 (.slice M l.length cap) l.length (mc l)) (hn : l.length ≤ 1000000) :
    Calls Try.prog 39 #[.slice M l.length cap, .func (.func 33) #[] #[]] w fun e w' => e = .returned (.tuple #[]) ∧ ∃ l', l'.Perm l ∧ (l'.Pairwise fun a b => a.1 ≤ b.1) ∧ w'.ownsRow base 59 2 (.slice M l.length cap) l.length (mc l') ∧ w.grownBy w' (Value.slice M l.length cap).ownBlock := by
  by_cases h0 : l.length = 0
  · have hl : l = [] := List.eq_nil_of_length_eq_zero h0
    have hcon := AnyF.slices_SortFunc_none Try.sortMs M cap (.func (.func 33) #[] #[]) w
    change Calls Try.prog 39 _ _ _ at hcon
    rw [h0]
    rw [h0] at h
    refine hcon.mono ?_
    rintro e w' ⟨rfl, rfl⟩
    exact ⟨rfl, l, List.Perm.refl _, by rw [hl]; exact List.Pairwise.nil, h, ⟨rfl, rfl, rfl, Nat.le_refl _, fun _ _ _ => rfl⟩⟩
  · obtain ⟨g, rfl, hbg, hgl⟩ := own_some h (by omega)
    have eg : ∀ args w, (callFunc 33 args).run Try.prog w = .ok (.enter 33 args) w := enters_of Try.func33 (by kernel_rfl) rfl
    have hcon := AnyQ.slices_SortFunc Try.sortMs 2 Try.isAgg59 Try.sizeOf59 me (fun _ => rfl) (fun x v hv => by simp [me] at hv; rcases hv with rfl | rfl <;> rfl) cmpTo swoTo 33 #[] g 0 cap l.toArray w eg (cmpLays39 g 0 l.toArray.size w) (own_holds h) hgl (by simp; omega)
    change Calls Try.prog 39 _ _ _ at hcon
    rw [List.size_toArray] at hcon
    refine hcon.mono ?_
    rintro e w' ⟨rfl, d', q, os, hp, hs, hw⟩
    obtain ⟨ho, hg⟩ := own_sorted7 h d' (by rw [hp.1]; simp) ⟨q, os, hw⟩
    have hds : d'.size = l.length := by rw [hp.1]; simp
    refine ⟨rfl, d'.toList, ?_, ?_, ho, hg⟩
    · have := hp.2.2
      rw [show d'.extract 0 l.length = d' by rw [← hds]; simp, show l.toArray.extract 0 l.length = l.toArray by simp] at this
      exact this
    · rw [List.pairwise_iff_getElem]
      intro i j hi hj hij
      have h1 := hs i j (Nat.zero_le _) hij (by rw [← hds]; simpa using hj)
      rw [ltTo, getElem!_pos _ _ (by simpa using hj), getElem!_pos _ _ (by simpa using hi)] at h1
      have := of_decide_eq_false h1
      simp only [Array.getElem_toList]
      omega

set_option maxHeartbeats 1000000 in
/-- slices.SortedFunc by Ids, against whatever iterator gives members. -/
theorem sortedf_any (g : Nat) (lb : Array Value) (eg : ∀ args w, (callFunc g args).run Try.prog w = .ok (.enter g args) w)
    (S : List Mb → Prop) (N : Nat) (hN : N ≤ 1000) (w : World) (hseq : SeqGives Fence.wide 3 Try.prog g lb mv S N w) (hS : ∀ ms, S ms → ms.length ≤ 1000) :
    Calls Try.prog 35 #[.func (.func g) #[] lb, .func (.func 33) #[] #[]] w fun e w' => ∃ A c ms, e = .returned (.slice A ms.length c) ∧ (∃ ms0, S ms0 ∧ ms.Perm ms0) ∧ (ms.Pairwise fun a b => a.1 ≤ b.1) ∧ w'.ownsRow w.heap.size 59 2 (.slice A ms.length c) ms.length (mc ms) ∧ Below w.heap.size w w' := by
  have hcon := (callsIn_wide (n := 5)).1 (collect_in 5 (by omega) g lb eg S N hN w hseq)
  go_enter Try.func35, Try.ntmps35
  go_wp2_with (go_at_call 38; refine hcon.mono ?_; rintro e w1 ⟨A, c, ms, rfl, hs, ho, hb⟩)
  have HO := Lib.hid ho
  have HB := Lib.hid hb
  have HS := Lib.hid hs
  have hso := sortTo_any w1 w.heap.size A c ms ho (by have := hS ms hs; omega)
  clear hcon ho hb hs
  go_wp2_with (go_at_call 39; refine hso.mono ?_; rintro e w2 ⟨rfl, ms', hp, hpw, ho2, hg2⟩)
  go_ret
  have hl : ms.length = ms'.length := hp.length_eq.symm
  rw [hl] at ho2 ⊢
  exact ⟨A, c, ms', rfl, ⟨ms, HS.out, hp⟩, hpw, ho2, HB.out.grown hg2 HB.out.size (fun k e => (HO.out.lt k e).1)⟩
end Go.Proofs.Ytemcmhpfpfmgdaa
