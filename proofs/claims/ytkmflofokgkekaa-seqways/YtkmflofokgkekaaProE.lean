/-
  The contract of messages: what goes along the edges, in their order, or that one is too great. No condition but that the numbers are of 64 bits.
-/
import Derived.Test.YtkmflofokgkekaaProD
import Derived.Deep.DeepMust
namespace Go.Proofs.Ytkmflofokgkekaa
open Go.ChangeShapes Go.WideShapes Go.ChangeAt Go.RowKit
set_option linter.unusedVariables false

theorem mc_length (ms : List Ms) : (mc ms).length = ms.length * 2 := by
  unfold mc
  induction ms with
  | nil => rfl
  | cons e r ih => simp only [List.flatMap_cons, List.length_append, ih, List.length_cons, List.length_nil]; omega
theorem mc_append (a b : List Ms) : mc (a ++ b) = mc a ++ mc b := by unfold mc; simp
theorem mc_one (ms : List Ms) : ∀ u ∈ mc ms, u.oneCell' = true := by
  intro u hu
  unfold mc at hu
  obtain ⟨e, _, he⟩ := List.mem_flatMap.1 hu
  simp at he
  rcases he with rfl | rfl <;> rfl
theorem mc_at (ms : List Ms) (k : Nat) (h : k < ms.length) : (mc ms)[k * 2]? = some (.int .i64 (mAt ms k).1) ∧ (mc ms)[k * 2 + 1]? = some (.int .i64 (mAt ms k).2) := by
  induction ms generalizing k with
  | nil => simp at h
  | cons e r ih =>
    cases k with
    | zero => simp [mc, mAt]
    | succ k =>
      have := ih k (by simpa using h)
      have e1 : (k + 1) * 2 = k * 2 + 2 := by omega
      have e2 : k * 2 + 2 + 1 = k * 2 + 1 + 2 := by omega
      rw [e1, e2]
      exact this
theorem Lies.ms_len {w : World} {B : Nat} {A : Option Addr} {n : Nat} {ms : List Ms} (h : Lies w B 2 A n (mc ms)) : ms.length = n := by
  have := h.1
  rw [mc_length] at this
  omega
/-- The cells of a message. -/
theorem Lies.ms {w : World} {B : Nat} {A : Option Addr} {n : Nat} {ms : List Ms} (h : Lies w B 2 A n (mc ms)) (k : Nat) (hk : k < n) :
    ∃ ad, A = some ad ∧ ad.block < B ∧ w.cell? (ad.add (k * 2)) = some (.int .i64 (mAt ms k).1) ∧ w.cell? ⟨(ad.add (k * 2)).block, (ad.add (k * 2)).off + 1, none⟩ = some (.int .i64 (mAt ms k).2) := by
  have hl := h.ms_len
  obtain ⟨a0, a1⟩ := mc_at ms k (by omega)
  obtain ⟨ad, e, hb, c0⟩ := h.2 _ _ a0
  obtain ⟨ad1, e1, _, c1⟩ := h.2 _ _ a1
  rw [e] at e1
  injection e1 with e1
  subst e1
  rw [← add_add] at c1
  exact ⟨ad, e, hb, c0, c1⟩

theorem msgL_take (p now m : Int) (es : List Ed) (k : Nat) (h : k < es.length) : msgL p now m (es.take (k + 1)) = msgL p now m (es.take k) ++ [((eAt es k).2.1, alX p now (eAt es k) m)] := by
  unfold msgL
  rw [List.take_succ_eq_append_getElem h, List.map_append, eAt_get es k h]; rfl
theorem msgL_len (p now m : Int) (es : List Ed) : (msgL p now m es).length = es.length := by unfold msgL; simp
theorem msgB_take (p now m : Int) (es : List Ed) (k : Nat) (h : k < es.length) : msgB p now m (es.take (k + 1)) = (msgB p now m (es.take k) && alB p now (eAt es k) m) := by
  unfold msgB
  rw [List.take_succ_eq_append_getElem h, List.all_append, eAt_get es k h]; simp
theorem msgB_no (p now m : Int) (es : List Ed) (k : Nat) (h : k < es.length) (hf : alB p now (eAt es k) m = false) : msgB p now m es = false := by
  unfold msgB
  rw [List.all_eq_false]
  exact ⟨es[k], List.getElem_mem h, by rw [← eAt_get es k h]; simpa using hf⟩

def MsRel (p now m : Int) (es : List Ed) (cs : Array Value) (w : World) (out i : Value) (W : World) : Prop :=
  ∃ (k : Nat) (A : Option Addr) (c : Nat), i = .int .i64 k ∧ k ≤ es.length ∧ out = .slice A k c ∧ W.ownsRow (w.heap.size + 1) 57 2 (.slice A k c) k (mc (msgL p now m (es.take k))) ∧
    Below (w.heap.size + 1) (w.alloc (.cells cs 78)) W ∧ msgB p now m (es.take k) = true

/-- What messages answers: the messages, or none and false. -/
def msL (p now m : Int) (es : List Ed) : List Ms := if msgB p now m es then msgL p now m es else []
def MsPost (l : List Ms) (b : Bool) (w : World) (r : Ending) (w' : World) : Prop :=
  Below w.heap.size w w' ∧ ∃ A c, r = .returned (.tuple #[.slice A l.length c, .bool b]) ∧ w'.ownsRow w.heap.size 57 2 (.slice A l.length c) l.length (mc l)

set_option maxHeartbeats 1000000 in
theorem messages_any (p : Int) (k0 k1 k2 k3 k4 k5 : Nat) (y : Array Value) (hP : Prg p k0 k1 k2 k3 k4 k5 y) (now : Int) (A : Option Addr) (n c : Nat) (es : List Ed) (w : World)
    (hA : Lies w w.heap.size 3 A n (ec es)) (hnc : n ≤ c) (hn : n ≤ 80) (hnow : bd now) (hW : ∀ e ∈ es, bd e.2.2) :
    Calls Try.prog 76 #[.agg #[.func (.func k0) #[] #[], .func (.func k1) #[] #[], .func (.func k2) #[] y, .func (.func k3) #[] #[], .func (.func k4) #[] #[], .func (.func k5) #[] #[]], .int .i64 now, .slice A n c] w
      (MsPost (msL p now n es) (msgB p now n es) w) := by
  obtain rfl := hA.ed_len
  obtain ⟨cs, hcs⟩ : ∃ cs : Array Value, cs = #[.func (.func k0) #[] #[], .func (.func k1) #[] #[], .func (.func k2) #[] y, .func (.func k3) #[] #[], .func (.func k4) #[] #[], .func (.func k5) #[] #[]] := ⟨_, rfl⟩
  have HCS := Lib.hid hcs
  have HPR := Lib.hid hP
  have hc4 := hP.c4
  have HW := Lib.hid hW
  have HM := Lib.hid (show bd (es.length : Int) from ⟨by omega, by omega⟩)
  clear hP hW
  obtain ⟨i0, hi0, hz0, hzs, hzb⟩ := info_parts (show (Try.prog.info? 57).map (fun i => (i.zero, i.size, i.bytes)) = some (some (.agg #[.int .i64 0, .int .i64 0]), 2, 16) by kernel_rfl)
  have HI0 := Lib.hid hi0
  have HZ0 := Lib.hid hz0
  have HZS := Lib.hid hzs
  have HZB := Lib.hid hzb
  clear hi0 hz0 hzs hzb
  go_enter Try.func76, Try.ntmps76
  go_wp2_with fail
  rw [← HCS.out]
  clear hcs
  go_loopw [8, 15] (fun o i W => MsRel p now es.length es cs w o i W) (fun o i W => es.length - (intOf i).toNat)
  case atStart => exact ⟨0, none, 0, rfl, Nat.zero_le _, rfl, World.ownsRow_nil _ _ _ _, Below.refl _ _, rfl⟩
  case round =>
    obtain ⟨k, A1, c1, rfl, hk, rfl, hown, hbb, hok⟩ := hrel
    have HOWN := Lib.hid hown
    have HOK := Lib.hid hok
    clear hown hok
    have hb : Below w.heap.size w wr := (below_alloc _ _).trans (hbb.mono (by omega))
    have hz : w.heap.size + 1 ≤ wr.heap.size := by have := hbb.size; simpa using this
    have hAr := hA.below hb
    by_cases hlt : k < es.length
    · obtain ⟨ad, rfl, hadb, e0, e1, e2⟩ := hAr.ed k hlt
      have q4 : ∀ o, (wr.alloc o).cell? ⟨w.heap.size, 4, none⟩ = some (.func (.func k4) #[] #[]) := fun o => (World.cell?_alloc_lt wr o _ (by show w.heap.size < _; omega)).trans ((hbb.cell (p := ⟨w.heap.size, 4, none⟩) (by simp)).trans (by rw [HCS.out]; simp [go_sem]))
      obtain ⟨o, ho⟩ : ∃ o : Obj, o = .cells #[.int .i64 (eAt es k).1, .int .i64 (eAt es k).2.1, .int .i64 (eAt es k).2.2] 54 := ⟨_, rfl⟩
      have hbo := below_alloc wr o
      have HX := Lib.hid (show bd (eAt es k).2.2 from HW.out _ (by rw [eAt_get es k hlt]; exact List.getElem_mem hlt))
      have hbbo := hbb.alloc hz o
      have HO1 := Lib.hid (own_next HOWN.out hbo)
      have t1 : (wr.alloc o).cell? ⟨wr.heap.size, 1, none⟩ = some (.int .i64 (eAt es k).2.1) := by rw [ho]; simp [go_sem]
      have hzo : wr.heap.size < (wr.alloc o).heap.size := by simp
      have HT1 := Lib.hid t1
      have HBO := Lib.hid hbbo
      rw [ho] at HT1 HBO HO1 hzo
      clear ho hbo t1 hbbo
      by_cases hf : alB p now (eAt es k) es.length = true
      · have HF := Lib.hid hf
        have HL := Lib.hid (msgL_take p now es.length es k hlt)
        have HB := Lib.hid (show msgB p now es.length (es.take (k + 1)) = true by rw [msgB_take p now _ es k hlt, HOK.out, hf]; rfl)
        clear hf
        go_wp2_with fail
        refine (HPR.out.along now (eAt es k) es.length _ hnow HX.out HM.out).mono ?_
        rintro e w2 ⟨rfl, hb2⟩
        rw [HF.out]
        have t1 := (hb2.cell (p := ⟨wr.heap.size, 1, none⟩) hzo).trans HT1.out
        have hbb2 := HBO.out.trans (hb2.mono (Nat.le_trans hz (Nat.le_of_lt hzo)))
        have HO2 := Lib.hid (own_next HO1.out hb2)
        have hz2 : w.heap.size + 1 ≤ w2.heap.size := Nat.le_trans (Nat.le_trans hz (Nat.le_of_lt hzo)) hb2.size
        clear hb2 HO1 HT1 HBO hbb e0 e1 e2 hAr hb
        obtain ⟨x, hx⟩ : ∃ x : Int, x = alX p now (eAt es k) es.length := ⟨_, rfl⟩
        rw [← hx] at HL ⊢
        clear hx
        have hl3 : Lies (w2.alloc (.cells #[.int .i64 (eAt es k).2.1, .int .i64 x] 57)) (w2.heap.size + 1) 2 (some ⟨w2.heap.size, 0, none⟩) 1 (mc [((eAt es k).2.1, x)]) := by
          refine ⟨rfl, fun j u hj => ⟨_, rfl, Nat.lt_succ_self _, ?_⟩⟩
          have : (⟨w2.heap.size, 0, none⟩ : Addr).add j = ⟨w2.heap.size, j, none⟩ := by unfold Addr.add; split <;> simp_all
          rw [this, cell_of_row _ _ j _ 57 (0, 0) (heap_alloc_new _ _)]
          simpa [mc] using hj
        have HL3 := Lib.hid hl3
        have HO3 := Lib.hid (own_next HO2.out (below_alloc w2 (.cells #[.int .i64 (eAt es k).2.1, .int .i64 x] 57)))
        have HB3 := Lib.hid (hbb2.alloc hz2 (.cells #[.int .i64 (eAt es k).2.1, .int .i64 x] 57))
        clear hl3 hbb2 HO2
        go_wp2_with (at_builtin; go_must (refine wpList_app _ rfl (.tmp 31) (.tmp 36) 29 rfl (w.heap.size + 1) 57 i0 _ 2 16 Try.underlying29 HI0.out HZ0.out HZS.out HZB.out rfl (by decide) A1 k c1 _ rfl HO3.out _ _ 1 1 (mc [((eAt es k).2.1, x)]) (by simp [Act.eval]) HL3.out (mc_one _) (k + 1) (mc (msgL p now es.length (es.take (k + 1)))) rfl (by rw [HL.out, mc_append]) (by unfold maxLen; omega) (by omega) (by simp; omega) ?_))
        intro A4 c4 w4 ho4 hb4
        have HO4 := Lib.hid ho4
        have HB4 := Lib.hid (HB3.out.trans hb4)
        clear ho4 hb4
        go_wp2_with fail
        go_roundw
        case rel => exact ⟨k + 1, A4, c4, by go_num, by omega, rfl, HO4.out, HB4.out, HB.out⟩
        case measure => simp [intOf]; omega
      · have hf' : alB p now (eAt es k) es.length = false := by simpa using hf
        have HF := Lib.hid hf'
        have HB := Lib.hid (msgB_no p now es.length es k hlt hf')
        clear hf hf'
        go_wp2_with fail
        refine (HPR.out.along now (eAt es k) es.length _ hnow HX.out HM.out).mono ?_
        rintro e w2 ⟨rfl, hb2⟩
        rw [HF.out]
        have HB2 := Lib.hid (HBO.out.trans (hb2.mono (Nat.le_trans hz (Nat.le_of_lt hzo))))
        clear hb2
        go_wp2_with fail
        refine bodyPost_ret (v := .tuple #[.slice none 0 0, .bool false]) (by simp [results, Try.results76, go_sem]) rfl ?_
        have e1 : msL p now es.length es = [] := by unfold msL; rw [HB.out]; rfl
        rw [e1, HB.out]
        exact ⟨(below_alloc _ _).trans (HB2.out.mono (by omega)), none, 0, rfl, World.ownsRow_nil _ _ _ _⟩
    · have hk' : k = es.length := by omega
      subst hk'
      have HT := Lib.hid (show es.take es.length = es from List.take_of_length_le (Nat.le_refl _))
      go_wp2_with fail
      refine bodyPost_ret (v := .tuple #[.slice A1 es.length c1, .bool true]) (by simp [results, Try.results76, go_sem]) rfl ?_
      have ok := HOK.out
      rw [HT.out] at ok
      have e1 : msL p now es.length es = msgL p now es.length es := by unfold msL; rw [ok]; rfl
      have own := HOWN.out
      rw [HT.out] at own
      have hlen := msgL_len p now es.length es
      rw [e1, ok]
      refine ⟨hb, A1, c1, by rw [hlen], ?_⟩
      rw [hlen]
      exact own.lower (by omega)
end Go.Proofs.Ytkmflofokgkekaa
