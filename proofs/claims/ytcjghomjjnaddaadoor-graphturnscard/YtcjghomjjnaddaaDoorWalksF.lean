/-
  The contract of the document's own Print, of a graph that is right. No other condition.
-/
import Derived.Test.YtcjghomjjnaddaaDoorWalksE
namespace Go.Proofs.YtcjghomjjnaddaaDoor
open Go.RowKit
set_option linter.unusedVariables false

theorem firstErr_zero (N : Int) (es : List Ed) : ∀ (n k : Nat), firstErr N es k n = 0 → ∀ j, k ≤ j → j < k + n → errAt N es j = 0
  | 0, k, _, j, h1, h2 => by omega
  | n + 1, k, h, j, h1, h2 => by
    unfold firstErr at h
    by_cases he : errAt N es k = 0
    · rw [if_pos he] at h
      by_cases hj : j = k
      · subst hj; exact he
      · exact firstErr_zero N es n (k + 1) h j (by omega) (by omega)
    · rw [if_neg he] at h
      exact absurd h he

theorem chk_zero {N : Int} {es : List Ed} (h : chk N es = 0) : 1 ≤ N ∧ N ≤ 24 ∧ es.length ≤ 80 ∧ ∀ k, k < es.length → errAt N es k = 0 := by
  unfold chk at h
  by_cases h1 : N < 1 ∨ 24 < N
  · rw [if_pos h1] at h; cases h
  · rw [if_neg h1] at h
    by_cases h2 : 80 < es.length
    · rw [if_pos h2] at h; cases h
    · rw [if_neg h2] at h
      exact ⟨by omega, by omega, by omega, fun k hk => firstErr_zero N es _ 0 h k (Nat.zero_le _) (by omega)⟩

theorem errAt_ok {N : Int} {es : List Ed} {k : Nat} (h : errAt N es k = 0) : okEd N (eAt es k) := by
  unfold errAt at h
  by_cases he : edge1 N (eAt es k).1 (eAt es k).2.1 (eAt es k).2.2 = 0
  · exact he
  · rw [if_neg he] at h; exact absurd h he

theorem eAt_get (es : List Ed) (k : Nat) (h : k < es.length) : eAt es k = es[k] := by simp [eAt, h]

theorem chk_ok {N : Int} {es : List Ed} (h : chk N es = 0) : ∀ e ∈ es, okEd N e := by
  intro e he
  obtain ⟨k, hk, rfl⟩ := List.mem_iff_getElem.1 he
  have := errAt_ok ((chk_zero h).2.2.2 k hk)
  rwa [eAt_get es k hk] at this

theorem digits_int (n : Int) (w : World) (h0 : 0 ≤ n) (hn : n ≤ 4611686018427387904) :
    Calls Tryd.prog 19 #[.int .i64 n] w fun e w' => e = .returned (.string ⟨(dec n).toArray⟩) ∧ Below w.heap.size w w' := by
  obtain ⟨m, rfl⟩ : ∃ m : Nat, n = m := ⟨n.toNat, by omega⟩
  exact digits_any m w (by omega)

theorem digits_let (n : Int) (d : ByteArray) (w : World) (hd : d = ⟨(dec n).toArray⟩) (h0 : 0 ≤ n) (hn : n ≤ 4611686018427387904) :
    Calls Tryd.prog 19 #[.int .i64 n] w fun e w' => e = .returned (.string d) ∧ Below w.heap.size w w' := by
  subst hd
  exact digits_int n w h0 hn

/-- Three cells of a block stand, and all that lay below B. -/
theorem digits_held (b B : Nat) (x y z : Value) (W : World) (n : Int) (d : ByteArray) (w : World) (hd : d = ⟨(dec n).toArray⟩) (h0 : 0 ≤ n) (hn : n ≤ 4611686018427387904)
    (hS : b < w.heap.size ∧ B ≤ w.heap.size ∧ w.cell? ⟨b, 0, none⟩ = some x ∧ w.cell? ⟨b, 1, none⟩ = some y ∧ w.cell? ⟨b, 2, none⟩ = some z ∧ Below B W w) :
    Calls Tryd.prog 19 #[.int .i64 n] w fun e w' => e = .returned (.string d) ∧ b < w'.heap.size ∧ B ≤ w'.heap.size ∧ w'.cell? ⟨b, 0, none⟩ = some x ∧ w'.cell? ⟨b, 1, none⟩ = some y ∧ w'.cell? ⟨b, 2, none⟩ = some z ∧ Below B W w' := by
  obtain ⟨h1, h2, c0, c1, c2, hb⟩ := hS
  subst hd
  refine (digits_int n w h0 hn).mono fun e w' ⟨he, hb'⟩ => ⟨he, Nat.lt_of_lt_of_le h1 hb'.size, Nat.le_trans h2 hb'.size, ?_, ?_, ?_, hb.trans (hb'.mono h2)⟩
  · rw [hb'.cell (p := ⟨b, 0, none⟩) h1]; exact c0
  · rw [hb'.cell (p := ⟨b, 1, none⟩) h1]; exact c1
  · rw [hb'.cell (p := ⟨b, 2, none⟩) h1]; exact c2

def RpRel (N : Int) (es : List Ed) (w : World) (s i : Value) (W : World) : Prop :=
  ∃ (k : Nat) (t : ByteArray), i = .int .i64 k ∧ k ≤ es.length ∧ s = .string t ∧ t = ⟨(headL N ++ lines (es.take k)).toArray⟩ ∧ Below w.heap.size w W

set_option maxHeartbeats 1000000 in
theorem rprint_any (N : Int) (A : Option Addr) (n c : Nat) (es : List Ed) (w : World) (hA : Lies w w.heap.size 3 A n (ec es)) (hnc : n ≤ c) (hok : chk N es = 0) :
    Calls Tryd.prog 14 #[.agg #[.int .i64 N, .slice A n c]] w fun e w' => e = .returned (.string ⟨(txt N es).toArray⟩) ∧ Below w.heap.size w w' := by
  obtain rfl := hA.ed_len
  obtain ⟨n1, n2, n3, _⟩ := chk_zero hok
  have hall := chk_ok hok
  obtain ⟨d, hd⟩ : ∃ d : ByteArray, d = ⟨(dec N).toArray⟩ := ⟨_, rfl⟩
  have hds : d.size ≤ 20 := by have := dec_len N (by omega); rw [hd]; simpa [ByteArray.size] using this
  have q1 : ¬ 9223372036854775807 < 6 + d.size := by omega
  have q2 : ¬ 9223372036854775807 < 6 + d.size + 1 := by omega
  have HD := Lib.hid hd
  have HOK := Lib.hid hok
  clear hd hok
  go_enter Tryd.func14, Tryd.ntmps14
  go_wp2_with fail
  refine (digits_let N d _ HD.out (by omega) (by omega)).mono ?_
  rintro e w1 ⟨rfl, hb1⟩
  have hb01 : Below w.heap.size w w1 := (below_alloc _ _).trans (hb1.mono (by simp))
  have hz1 : w.heap.size + 1 ≤ w1.heap.size := by have := hb1.size; simpa using this
  have hb11 : Below (w.heap.size + 1) (w.alloc (.cells #[.int .i64 N, .slice A es.length c] 24)) w1 := hb1.mono (by simp)
  clear hb1
  go_wp2_with fail
  go_loopw [3, 4] (fun s i W => RpRel N es w s i W ∧ Below (w.heap.size + 1) (w.alloc (.cells #[.int .i64 N, .slice A es.length c] 24)) W) (fun s i W => es.length - (intOf i).toNat)
  case atStart => exact ⟨⟨0, _, rfl, Nat.zero_le _, rfl, by rw [HD.out]; exact (by rw [show (⟨#[103, 114, 97, 112, 104, 32]⟩ : ByteArray) = ⟨([103, 114, 97, 112, 104, 32] : List UInt8).toArray⟩ from rfl, show (⟨#[10]⟩ : ByteArray) = ⟨([10] : List UInt8).toArray⟩ from rfl, str_app, str_app]; simp [headL, lines]), hb01⟩, hb11⟩
  case round =>
    obtain ⟨⟨k, t, rfl, hk, rfl, ht, hb⟩, hbb⟩ := hrel
    have HT := Lib.hid ht
    clear ht
    have c1 : wr.cell? ⟨w.heap.size, 1, none⟩ = some (.slice A es.length c) := (hbb.cell (p := ⟨w.heap.size, 1, none⟩) (by simp)).trans (by simp [go_sem])
    have hz : w.heap.size + 1 ≤ wr.heap.size := by have := hbb.size; simpa using this
    have hAr := hA.below hb
    by_cases hlt : k < es.length
    · obtain ⟨ad, rfl, hadb, e0, e1, e2⟩ := hAr.ed k hlt
      have hok := hall (eAt es k) (by rw [eAt_get es k hlt]; exact List.getElem_mem hlt)
      obtain ⟨o1, o2, o3, o4, o5, o6⟩ := edge1_zero.1 hok
      have hl0 : (headL N ++ lines (es.take k)).length ≤ 28 + 68 * 80 := by
        have h1 := lines_len N n2 (es.take k) (fun e he => hall e (List.mem_of_mem_take he))
        have h2 := dec_len N (by omega)
        have h3 : (es.take k).length ≤ 80 := by rw [List.length_take]; omega
        rw [List.length_append]
        unfold headL
        simp only [List.length_append, List.length_cons, List.length_nil]
        omega
      have l1 := dec_len (eAt es k).1 (by omega)
      have l2 := dec_len (eAt es k).2.1 (by omega)
      have l3 := dec_len (eAt es k).2.2 (by omega)
      obtain ⟨d1, hd1⟩ : ∃ d : ByteArray, d = ⟨(dec (eAt es k).1).toArray⟩ := ⟨_, rfl⟩
      obtain ⟨d2, hd2⟩ : ∃ d : ByteArray, d = ⟨(dec (eAt es k).2.1).toArray⟩ := ⟨_, rfl⟩
      obtain ⟨d3, hd3⟩ : ∃ d : ByteArray, d = ⟨(dec (eAt es k).2.2).toArray⟩ := ⟨_, rfl⟩
      have z0 : t.size ≤ 28 + 68 * 80 := by rw [HT.out]; simpa [ByteArray.size] using hl0
      have z1 : d1.size ≤ 20 := by rw [hd1]; simpa [ByteArray.size] using l1
      have z2 : d2.size ≤ 20 := by rw [hd2]; simpa [ByteArray.size] using l2
      have z3 : d3.size ≤ 20 := by rw [hd3]; simpa [ByteArray.size] using l3
      have HS : Hid (t ++ ⟨#[101, 100, 103, 101, 32]⟩ ++ d1 ++ ⟨#[32]⟩ ++ d2 ++ ⟨#[32]⟩ ++ d3 ++ ⟨#[10]⟩ = ⟨(headL N ++ lines (es.take (k + 1))).toArray⟩) := Lib.hid (by
        rw [HT.out, hd1, hd2, hd3, lines_take es k hlt, show (⟨#[101, 100, 103, 101, 32]⟩ : ByteArray) = ⟨([101, 100, 103, 101, 32] : List UInt8).toArray⟩ from rfl, show (⟨#[32]⟩ : ByteArray) = ⟨([32] : List UInt8).toArray⟩ from rfl, show (⟨#[10]⟩ : ByteArray) = ⟨([10] : List UInt8).toArray⟩ from rfl]
        simp only [str_app, line, List.append_assoc])
      have HD1 := Lib.hid hd1
      have HD2 := Lib.hid hd2
      have HD3 := Lib.hid hd3
      clear hd1 hd2 hd3 hl0 l1 l2 l3 hok
      have q1 : ¬ 9223372036854775807 < t.size + 5 := by omega
      have q2 : ¬ 9223372036854775807 < t.size + 5 + d1.size := by omega
      have q3 : ¬ 9223372036854775807 < t.size + 5 + d1.size + 1 := by omega
      have q4 : ¬ 9223372036854775807 < t.size + 5 + d1.size + 1 + d2.size := by omega
      have q5 : ¬ 9223372036854775807 < t.size + 5 + d1.size + 1 + d2.size + 1 := by omega
      have q6 : ¬ 9223372036854775807 < t.size + 5 + d1.size + 1 + d2.size + 1 + d3.size := by omega
      have q7 : ¬ 9223372036854775807 < t.size + 5 + d1.size + 1 + d2.size + 1 + d3.size + 1 := by omega
      clear z0 z1 z2 z3
      have hbn : ∀ o, Below w.heap.size w (wr.alloc o) := fun o => hb.alloc hb.size o
      have hbbn : ∀ o, Below (w.heap.size + 1) (w.alloc (.cells #[.int .i64 N, .slice (some ad) es.length c] 24)) (wr.alloc o) := fun o => hbb.alloc hz o
      go_wp2_with fail
      have hz3 : w.heap.size ≤ wr.heap.size := by omega
      go_region_held3 (fun w' => wr.heap.size < w'.heap.size ∧ wr.heap.size ≤ w'.heap.size ∧ w'.cell? ⟨wr.heap.size, 0, none⟩ = some (.int .i64 (eAt es k).1) ∧ w'.cell? ⟨wr.heap.size, 1, none⟩ = some (.int .i64 (eAt es k).2.1) ∧ w'.cell? ⟨wr.heap.size, 2, none⟩ = some (.int .i64 (eAt es k).2.2) ∧ Below wr.heap.size wr w')
        (first | exact ⟨g1, g2, g3, g4, g5, g6⟩ | (refine ⟨?_, ?_, ?_, ?_, ?_, ?_⟩ <;> first | (simp; done) | (simp [go_sem]; done) | exact (below_alloc _ _).drew))
        (first | ((go_at_call 19); (with_reducible refine (digits_held wr.heap.size wr.heap.size (.int .i64 (eAt es k).1) (.int .i64 (eAt es k).2.1) (.int .i64 (eAt es k).2.2) wr (eAt es k).1 d1 _ HD1.out o1 (by omega) ⟨?c1, ?c2, ?c3, ?c4, ?c5, ?c6⟩).mono ?_); (case c1 => first | assumption | (simp; done)); (case c2 => first | assumption | (simp; done)); (case c3 => first | assumption | (simp [go_sem]; done)); (case c4 => first | assumption | (simp [go_sem]; done)); (case c5 => first | assumption | (simp [go_sem]; done)); (case c6 => first | assumption | exact (below_alloc _ _).drew); rintro e w2 ⟨rfl, g1, g2, g3, g4, g5, g6⟩) | ((go_at_call 19); (with_reducible refine (digits_held wr.heap.size wr.heap.size (.int .i64 (eAt es k).1) (.int .i64 (eAt es k).2.1) (.int .i64 (eAt es k).2.2) wr (eAt es k).2.1 d2 _ HD2.out o3 (by omega) ⟨?c1, ?c2, ?c3, ?c4, ?c5, ?c6⟩).mono ?_); (case c1 => first | assumption | (simp; done)); (case c2 => first | assumption | (simp; done)); (case c3 => first | assumption | (simp [go_sem]; done)); (case c4 => first | assumption | (simp [go_sem]; done)); (case c5 => first | assumption | (simp [go_sem]; done)); (case c6 => first | assumption | exact (below_alloc _ _).drew); rintro e w2 ⟨rfl, g1, g2, g3, g4, g5, g6⟩) | ((go_at_call 19); (with_reducible refine (digits_held wr.heap.size wr.heap.size (.int .i64 (eAt es k).1) (.int .i64 (eAt es k).2.1) (.int .i64 (eAt es k).2.2) wr (eAt es k).2.2 d3 _ HD3.out o5 (by omega) ⟨?c1, ?c2, ?c3, ?c4, ?c5, ?c6⟩).mono ?_); (case c1 => first | assumption | (simp; done)); (case c2 => first | assumption | (simp; done)); (case c3 => first | assumption | (simp [go_sem]; done)); (case c4 => first | assumption | (simp [go_sem]; done)); (case c5 => first | assumption | (simp [go_sem]; done)); (case c6 => first | assumption | exact (below_alloc _ _).drew); rintro e w2 ⟨rfl, g1, g2, g3, g4, g5, g6⟩))
      have hf1 : Below w.heap.size w w2 := hb.trans (g6.mono (by omega))
      have hf2 : Below (w.heap.size + 1) (w.alloc (.cells #[.int .i64 N, .slice (some ad) es.length c] 24)) w2 := hbb.trans (g6.mono hz)
      go_wp2_with fail
      go_roundw
      case rel => exact ⟨⟨k + 1, _, by go_num, by omega, rfl, HS.out, hf1⟩, hf2⟩
      case measure => simp [intOf]; omega
    · go_wp2_with fail
      go_ret
      exact ⟨ret_str (by rw [HT.out, List.take_of_length_le (by omega)]; rfl), hb⟩
end Go.Proofs.YtcjghomjjnaddaaDoor
