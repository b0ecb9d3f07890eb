import Derived.Test.YtpgdddjjjfkneaaGreatDoorPtC
import Derived.Test.YtpgdddjjjfkneaaGreatDoorKo
import Derived.Test.YtpgdddjjjfkneaaGreatDoorShelf
namespace Go.Proofs.YtpgdddjjjfkneaaGreatDoor
open Go.RowKit Go.Sort Go.Shelf Go.Lib
set_option linter.unusedVariables false

section
variable {w w' : World} {base g n cap : Nat} {l : List Ms}
theorem own_sorted7 (h : w.ownsRow base 118 2 (.slice (some ⟨g, 0, none⟩) n cap) n (mc l)) (d : Array Ms) (hd : d.size = n) (S : Sw w g 0 d w') :
    w'.ownsRow base 118 2 (.slice (some ⟨g, 0, none⟩) n cap) n (mc d.toList) ∧ w.grownBy w' (some g) := by
  obtain ⟨q, os, rfl⟩ := S
  have hlt := (h.lt g rfl).2
  have hb0 := (h.lt g rfl).1
  rcases h.2 with ⟨e0, _⟩ | ⟨g', cap', cur, e0, hb, hg, hn, hm, hs, ht⟩
  · cases e0
  · injection e0 with e1 _ e3
    injection e1 with e1
    injection e1 with e1
    subst e1; subst e3
    have hsz : (flatK me 2 d).size = n * 2 := by rw [size_flatK, hd]
    have hgs : ∀ k, k < w.heap.size → (grow (putRowK me 2 (Sort.ahead w q) g 0 d) os).heap[k]? = (putRowK me 2 (Sort.ahead w q) g 0 d).heap[k]? := by
      intro k hk
      show ((putRowK me 2 (Sort.ahead w q) g 0 d).heap ++ os)[k]? = _
      rw [Array.getElem?_append_left]
      simpa [putRowK, putRow, mapBlock, Sort.ahead] using hk
    refine ⟨⟨by rw [mc_length]; simp; omega, .inr ⟨g, cap, putCells id 0 (flatK me 2 d) cur, rfl, hb, ?_, hn, hm, by simpa [putCells] using hs, ?_⟩⟩, ?_⟩
    · rw [hgs g hlt]
      simp [putRowK, putRow, mapBlock, Sort.ahead, Array.getElem?_modify, hg, onCells]
    · have hf : mc d.toList = (flatK me 2 d).toList := by rw [← flat_mc]
      rw [hf]
      apply List.ext_getElem?
      intro j
      rw [List.getElem?_take, Array.getElem?_toList, Array.getElem?_toList]
      by_cases hj : j < n * 2
      · have hjc : j < cur.size := by rw [hs]; have := Nat.mul_le_mul_right 2 hn; omega
        simp only [if_pos hj, putCells, Array.getElem?_mapIdx, Array.getElem?_eq_getElem hjc, Option.map_some]
        rw [if_pos (by omega), Array.getElem?_eq_getElem (by omega)]
        simp
        exact getElem!_pos _ j _
      · rw [if_neg hj, Array.getElem?_eq_none (by omega)]
    · refine ⟨rfl, rfl, rfl, ?_, fun k hk hne => ?_⟩
      · show w.heap.size ≤ ((putRowK me 2 (Sort.ahead w q) g 0 d).heap ++ os).size
        simp [putRowK, putRow, mapBlock, Sort.ahead]
      · have hgk : g ≠ k := fun e => hne (by rw [e])
        rw [hgs k hk]
        simp [putRowK, putRow, mapBlock, Sort.ahead, Array.getElem?_modify, hgk]
end
/-- The comparison by To. -/
def cmpTo (a b : Ms) : Int := c3 a.1 b.1
theorem ltTo (a b : Ms) : ltOf cmpTo a b = decide (a.1 < b.1) := by
  unfold ltOf cmpTo c3
  by_cases h1 : a.1 < b.1
  · simp [h1]
  · by_cases h2 : b.1 < a.1 <;> simp [h1, h2]
theorem swoTo : SWO (ltOf cmpTo) where
  irrefl x := by rw [ltTo]; simp
  trans x y z h1 h2 := by rw [ltTo] at *; simp at *; omega
  ntrans x y z h1 h2 := by rw [ltTo] at *; simp at *; omega
set_option maxHeartbeats 1000000 in
theorem closure39 (x y : Ms) (W : World) : Calls Tryz.prog 50 #[.agg #[.int .i64 x.1, .int .i64 x.2], .agg #[.int .i64 y.1, .int .i64 y.2]] W fun e w' => e = .returned (.int .i64 (cmpTo x y)) ∧ ∃ q os', w' = grow (W.drewN q) os' := by
  have hcon := fun W' => compareI_still x.1 y.1 W'
  have HE := Lib.hid (show c3 x.1 y.1 = cmpTo x y from rfl)
  generalize c3 x.1 y.1 = r at hcon HE
  go_enter Tryz.func50, Tryz.ntmps50
  go_wp2_with (go_at_call 51; refine (hcon _).mono ?_; rintro e w' ⟨rfl, rfl⟩)
  go_ret
  exact ⟨ret_int HE.out, 0, _, by rw [alloc_eq_grow, alloc_eq_grow, grow_grow]; rfl⟩
theorem cmpLays39 (blk off size : Nat) (w : World) : CmpLays Tryz.prog 50 #[] me 2 cmpTo blk off size w :=
  fun _ _ _ _ x y => closure39 x y _
set_option maxHeartbeats 1000000 in
theorem sortTo_any (w : World) (base : Nat) (M : Option Addr) (cap : Nat) (l : List Ms) (h : w.ownsRow base 118 2 (.slice M l.length cap) l.length (mc l)) (hn : l.length ≤ 1000000) :
    Calls Tryz.prog 49 #[.slice M l.length cap, .func (.func 50) #[] #[]] w fun e w' => e = .returned (.tuple #[]) ∧ ∃ l', l'.Perm l ∧ (l'.Pairwise fun a b => a.1 ≤ b.1) ∧ w'.ownsRow base 118 2 (.slice M l.length cap) l.length (mc l') ∧ w.grownBy w' (Value.slice M l.length cap).ownBlock := by
  by_cases h0 : l.length = 0
  · have hl : l = [] := List.eq_nil_of_length_eq_zero h0
    have hcon := AnyF.slices_SortFunc_none Tryz.sortMs M cap (.func (.func 50) #[] #[]) w
    change Calls Tryz.prog 49 _ _ _ at hcon
    rw [h0]
    rw [h0] at h
    refine hcon.mono ?_
    rintro e w' ⟨rfl, rfl⟩
    exact ⟨rfl, l, List.Perm.refl _, by rw [hl]; exact List.Pairwise.nil, h, ⟨rfl, rfl, rfl, Nat.le_refl _, fun _ _ _ => rfl⟩⟩
  · obtain ⟨g, rfl, hbg, hgl⟩ := own_some h (by omega)
    have eg : ∀ args w, (callFunc 50 args).run Tryz.prog w = .ok (.enter 50 args) w := enters_of Tryz.func50 (by kernel_rfl) rfl
    have hcon := AnyQ.slices_SortFunc Tryz.sortMs 2 Tryz.isAgg118 Tryz.sizeOf118 me (fun _ => rfl) (fun x v hv => by simp [me] at hv; rcases hv with rfl | rfl <;> rfl) cmpTo swoTo 50 #[] g 0 cap l.toArray w eg (cmpLays39 g 0 l.toArray.size w) (own_holds h) hgl (by simp; omega)
    change Calls Tryz.prog 49 _ _ _ at hcon
    rw [List.size_toArray] at hcon
    refine hcon.mono ?_
    rintro e w' ⟨rfl, d', q, os, hp, hs, hw⟩
    obtain ⟨ho, hg⟩ := own_sorted7 h d' (by rw [hp.1]; simp) ⟨q, os, hw⟩
    have hds : d'.size = l.length := by rw [hp.1]; simp
    refine ⟨rfl, d'.toList, ?_, ?_, ho, hg⟩
    · have := hp.2.2
      rw [show d'.extract 0 l.length = d' by rw [← hds]; simp, show l.toArray.extract 0 l.length = l.toArray by simp] at this
      exact this
    · rw [List.pairwise_iff_getElem]
      intro i j hi hj hij
      have h1 := hs i j (Nat.zero_le _) hij (by rw [← hds]; simpa using hj)
      rw [ltTo, getElem!_pos _ _ (by simpa using hj), getElem!_pos _ _ (by simpa using hi)] at h1
      have := of_decide_eq_false h1
      simp only [Array.getElem_toList]
      omega
end Go.Proofs.YtpgdddjjjfkneaaGreatDoor

