/-
  The contract of Print. Conditions: Go's own table of powers of ten lies in memory.
-/
import Derived.Test.YtcjghomjjnaddaaDoorWalksB
import Derived.Test.YtcjghomjjnaddaaDoorWalksD
import Derived.Test.YtcjghomjjnaddaaDoorWalksF
import Derived.Test.YtcjghomjjnaddaaDoorWalksG
namespace Go.Proofs.YtcjghomjjnaddaaDoor
open Go.RowKit
set_option linter.unusedVariables false

theorem retS {a b : ByteArray} {x y : Int} (h : a = b) (g : x = y) : Ending.returned (.tuple #[.string a, .int .i64 x]) = .returned (.tuple #[.string b, .int .i64 y]) := by rw [h, g]

theorem str_cells (l : List UInt8) : Lib.strCells ⟨l.toArray⟩ = Lib.byteCells l := rfl

theorem itoa_left (n : Int) (d : ByteArray) (w : World) (h0 : 0 ≤ n) (h1 : n < 100) (hd : d = ⟨(dec n).toArray⟩) : Calls Tryd.prog 23 #[.int .i64 n] w fun e w' => e = .returned (.string d) ∧ w = w' :=
  (itoa_still n d w h0 h1 hd).mono fun _ _ ⟨a, b⟩ => ⟨a, b.symm⟩

theorem blk_cell' {w : World} {g : Nat} {t : TypeId} {cs : Array Value} (h : w.heap[g]? = some (.cells cs t (0, 0))) (i : Nat) : w.cell? ⟨g, i, none⟩ = cs[i]? := cell_of_row w g i cs t (0, 0) h

theorem builder_next {B b : Nat} {bs : List Value} {w w' : World} (h : Lib.IsBuilder 50 5 B b bs w) (hb : Below w.heap.size w w') : Lib.IsBuilder 50 5 B b bs w' := by
  have g : ∀ p, Lib.BuilderAt 50 5 B b p bs w → Lib.BuilderAt 50 5 B b p bs w' := fun p hp => by
    have hl := hp.lt
    obtain ⟨h1, v, h2, h3, h4⟩ := hp
    exact ⟨h1, v, (hb.block b hl).trans h2, own_next h3 hb, h4⟩
  rcases h with h | h
  · exact .inl (g _ h)
  · exact .inr (g _ h)

def PrRel (N : Int) (es : List Ed) (B : Nat) (w : World) (i : Value) (W : World) : Prop :=
  ∃ k : Nat, i = .int .i64 k ∧ k ≤ es.length ∧ Lib.IsBuilder 50 5 B B (Lib.byteCells (headL N ++ lines (es.take k))) W ∧ Below w.heap.size w W ∧ B + 1 ≤ W.heap.size

attribute [local irreducible] wpStill in
set_option maxHeartbeats 1000000 in
set_option maxRecDepth 100000 in
theorem print_any (N : Int) (A : Option Addr) (n c : Nat) (es : List Ed) (w : World) (hA : Lies w w.heap.size 3 A n (ec es)) (hnc : n ≤ c) (hn : n ≤ maxLen) (hgr : Gr w) (hok : chk N es = 0) :
    Calls Tryd.prog 13 #[.agg #[.int .i64 N, .slice A n c]] w fun e w' => e = .returned (.tuple #[.string ⟨(txt N es).toArray⟩, .int .i64 0]) ∧ Below w.heap.size w w' := by
  obtain rfl := hA.ed_len
  obtain ⟨n1, n2, n3, _⟩ := chk_zero hok
  have hall := chk_ok hok
  obtain ⟨d, hd⟩ : ∃ d : ByteArray, d = ⟨(dec N).toArray⟩ := ⟨_, rfl⟩
  have hds : d.size ≤ 20 := by have := dec_len N (by omega); rw [hd]; simpa [ByteArray.size] using this
  have q1 : ¬ 9223372036854775807 < 6 + d.size := by omega
  have q2 : ¬ 9223372036854775807 < 6 + d.size + 1 := by omega
  have HD := Lib.hid hd
  have HOK := Lib.hid hok
  have HGR := Lib.hid hgr
  have HALL := Lib.hid hall
  clear hd hok hgr hall
  have hA0 := hA.next (below_alloc w (.cells #[.int .i64 N, .slice A es.length c] 24))
  go_enter Tryd.func13, Tryd.ntmps13
  go_wp2_with fail
  refine (check_any N A es.length c es _ hA0 hnc hn).mono ?_
  rintro e w1 ⟨rfl, hb1⟩
  rw [HOK.out]
  have hz1 : w.heap.size + 1 ≤ w1.heap.size := by have := hb1.size; simpa using this
  have hb01 : Below w.heap.size w w1 := (below_alloc _ _).trans (hb1.mono (by simp))
  have c0 : w1.cell? ⟨w.heap.size, 0, none⟩ = some (.int .i64 N) := (hb1.cell (p := ⟨w.heap.size, 0, none⟩) (by simp)).trans (by simp [go_sem])
  have c1 : w1.cell? ⟨w.heap.size, 1, none⟩ = some (.slice A es.length c) := (hb1.cell (p := ⟨w.heap.size, 1, none⟩) (by simp)).trans (by simp [go_sem])
  have al : ∀ (W : World) (o : Obj) (b k : Nat), b < W.heap.size → (W.alloc o).cell? ⟨b, k, none⟩ = W.cell? ⟨b, k, none⟩ := fun W o b k h => World.cell?_alloc_lt W o ⟨b, k, none⟩ h
  have l0 : w.heap.size < w1.heap.size := by omega
  have hn4 : (N : Int) < 100 := by omega
  clear hb1 hA0
  go_wp2_with fail
  refine (itoa_still N d _ (by omega) hn4 HD.out).mono ?_
  rintro e w' ⟨rfl, rfl⟩
  go_wp2_with fail
  obtain ⟨t0, ht0⟩ : ∃ t : ByteArray, t = ⟨#[103, 114, 97, 112, 104, 32]⟩ ++ d ++ ⟨#[10]⟩ := ⟨_, rfl⟩
  have HT0 := Lib.hid (show t0 = ⟨(headL N).toArray⟩ by rw [ht0, HD.out, show (⟨#[103, 114, 97, 112, 104, 32]⟩ : ByteArray) = ⟨([103, 114, 97, 112, 104, 32] : List UInt8).toArray⟩ from rfl, show (⟨#[10]⟩ : ByteArray) = ⟨([10] : List UInt8).toArray⟩ from rfl, str_app, str_app]; simp [headL])
  have hts : t0.size ≤ 30 := by
    have := dec_len N (by omega)
    rw [HT0.out]
    simp only [ByteArray.size, List.size_toArray, headL, List.length_append, List.length_cons, List.length_nil]
    omega
  rw [← ht0]
  clear ht0
  refine (writeString_any w1.heap.size w1.heap.size [] t0 _ (.inl ⟨Nat.le_refl _, .slice none 0 0, heap_alloc_new w1 _, World.ownsRow_nil _ _ _ _, by simp [Value.ownBlock]⟩) (by simp; omega) (by simp)).mono ?_
  rintro e w2 ⟨rfl, ⟨hB2, hb12⟩, -⟩
  have hb02 : Below w.heap.size w w2 := (hb01.alloc (by omega) _).trans (hb12.mono (by omega))
  have HB2 : Hid (Lib.IsBuilder 50 5 w1.heap.size w1.heap.size (Lib.byteCells (headL N ++ lines (es.take 0))) w2) := Lib.hid (.inr (by
    have h := hB2
    rw [HT0.out, List.nil_append, str_cells] at h
    simpa [lines] using h))
  have hz2 : w1.heap.size + 1 ≤ w2.heap.size := by have := hb12.size; simpa using this
  have hb12' : Below w1.heap.size w1 w2 := (below_alloc _ _).trans hb12
  have d1 : w2.cell? ⟨w.heap.size, 1, none⟩ = some (.slice A es.length c) := (hb12'.cell (p := ⟨w.heap.size, 1, none⟩) l0).trans c1
  clear c0 c1 hB2 hb12 hb12' q1 q2
  go_wp2_with fail
  go_loopw [22] (fun i W => PrRel N es w1.heap.size w i W) (fun i W => es.length - (intOf i).toNat)
  case atStart => exact ⟨0, rfl, Nat.zero_le _, HB2.out, hb02, hz2⟩
  case round =>
    obtain ⟨k, rfl, hk, hB, hb, hz⟩ := hrel
    have HB := Lib.hid hB
    clear hB d1 HB2
    have hAr := hA.below hb
    by_cases hlt : k < es.length
    · obtain ⟨ad, rfl, hadb, e0, e1, e2⟩ := hAr.ed k hlt
      have hok := HALL.out (eAt es k) (by rw [eAt_get es k hlt]; exact List.getElem_mem hlt)
      obtain ⟨o1, o2, o3, o4, o5, o6⟩ := edge1_zero.1 hok
      have lt1 : (eAt es k).1 < 100 := by omega
      have lt2 : (eAt es k).2.1 < 100 := by omega
      have y1 := dec_len (eAt es k).1 (by omega)
      have y2 := dec_len (eAt es k).2.1 (by omega)
      have y3 := dec_len (eAt es k).2.2 (by omega)
      obtain ⟨d1, hd1⟩ : ∃ d : ByteArray, d = ⟨(dec (eAt es k).1).toArray⟩ := ⟨_, rfl⟩
      obtain ⟨d2, hd2⟩ : ∃ d : ByteArray, d = ⟨(dec (eAt es k).2.1).toArray⟩ := ⟨_, rfl⟩
      obtain ⟨d3, hd3⟩ : ∃ d : ByteArray, d = ⟨(dec (eAt es k).2.2).toArray⟩ := ⟨_, rfl⟩
      have z1 : d1.size ≤ 20 := by rw [hd1]; simpa [ByteArray.size] using y1
      have z2 : d2.size ≤ 20 := by rw [hd2]; simpa [ByteArray.size] using y2
      have z3 : d3.size ≤ 20 := by rw [hd3]; simpa [ByteArray.size] using y3
      have HS : Hid ((⟨#[101, 100, 103, 101, 32]⟩ : ByteArray) ++ d1 ++ ⟨#[32]⟩ ++ d2 ++ ⟨#[32]⟩ ++ d3 ++ ⟨#[10]⟩ = ⟨(line (eAt es k)).toArray⟩) := Lib.hid (by
        rw [hd1, hd2, hd3, show (⟨#[101, 100, 103, 101, 32]⟩ : ByteArray) = ⟨([101, 100, 103, 101, 32] : List UInt8).toArray⟩ from rfl, show (⟨#[32]⟩ : ByteArray) = ⟨([32] : List UInt8).toArray⟩ from rfl, show (⟨#[10]⟩ : ByteArray) = ⟨([10] : List UInt8).toArray⟩ from rfl]
        simp only [str_app, line, List.append_assoc])
      have hl0 : (headL N ++ lines (es.take k)).length ≤ 28 + 68 * 80 := by
        have h1 := lines_len N n2 (es.take k) (fun e he => HALL.out e (List.mem_of_mem_take he))
        have h2 := dec_len N (by omega)
        have h3 : (es.take k).length ≤ 80 := by rw [List.length_take]; omega
        rw [List.length_append]
        unfold headL
        simp only [List.length_append, List.length_cons, List.length_nil]
        omega
      have HL0 := Lib.hid hl0
      have HD1 := Lib.hid hd1
      have HD2 := Lib.hid hd2
      have HD3 := Lib.hid hd3
      have HLL := Lib.hid (line_len N (eAt es k) n2 hok)
      clear hd1 hd2 hd3 hl0 y1 y2 y3 hok
      have q1 : ¬ 9223372036854775807 < 5 + d1.size := by omega
      have q2 : ¬ 9223372036854775807 < 5 + d1.size + 1 := by omega
      have q3 : ¬ 9223372036854775807 < 5 + d1.size + 1 + d2.size := by omega
      have q4 : ¬ 9223372036854775807 < 5 + d1.size + 1 + d2.size + 1 := by omega
      have q5 : ¬ 9223372036854775807 < 5 + d1.size + 1 + d2.size + 1 + d3.size := by omega
      have q6 : ¬ 9223372036854775807 < 5 + d1.size + 1 + d2.size + 1 + d3.size + 1 := by omega
      clear z1 z2 z3
      have hbn : ∀ o, Below w.heap.size w (wr.alloc o) := fun o => hb.alloc hb.size o
      go_wp2_with fail
      obtain ⟨o, ho⟩ : ∃ o : Obj, o = .cells #[.int .i64 (eAt es k).1, .int .i64 (eAt es k).2.1, .int .i64 (eAt es k).2.2] 42 := ⟨_, rfl⟩
      have hbo : (wr.alloc o).heap[wr.heap.size]? = some (.cells #[.int .i64 (eAt es k).1, .int .i64 (eAt es k).2.1, .int .i64 (eAt es k).2.2] 42 (0, 0)) := by rw [ho]; exact heap_alloc_new wr _
      have hgw := HGR.out.next (hbn o)
      have hBo := builder_next HB.out (below_alloc wr o)
      have hzo : (wr.alloc o).heap.size = wr.heap.size + 1 := by simp
      have hbo2 := hbn o
      rw [← ho]
      clear hbn HB e0 e1 e2
      generalize wr.alloc o = V at *
      have hne : wr.heap.size ≠ w1.heap.size := by omega
      have hlV : wr.heap.size < V.heap.size := by omega
      have g0 := blk_cell' hbo 0
      have g1 := blk_cell' hbo 1
      have g2 := blk_cell' hbo 2
      simp only [List.getElem?_toArray, List.getElem?_cons_zero, List.getElem?_cons_succ] at g0 g1 g2
      have HBO := Lib.hid (show V.drew.heap[wr.heap.size]? = _ from hbo)
      have HGW := Lib.hid (show Gr V.drew from hgw)
      have HBB := Lib.hid (show Lib.IsBuilder 50 5 w1.heap.size w1.heap.size (Lib.byteCells (headL N ++ lines (es.take k))) V.drew from hBo)
      have HZO : Hid (V.heap.size = wr.heap.size + 1) := Lib.hid hzo
      have hzV : w1.heap.size + 1 ≤ V.heap.size := by omega
      clear hbo hgw hBo hzo ho
      go_region_held3 (fun w' => w'.cell? ⟨wr.heap.size, 0, none⟩ = some (.int .i64 (eAt es k).1) ∧ w'.cell? ⟨wr.heap.size, 1, none⟩ = some (.int .i64 (eAt es k).2.1) ∧ w'.cell? ⟨wr.heap.size, 2, none⟩ = some (.int .i64 (eAt es k).2.2))
        (first | exact ⟨g0, g1, g2⟩ | exact ⟨j0, j1, j2⟩ | exact ⟨i0, i1, i2⟩)
        (first | ((go_at_call 23); (with_reducible refine (itoa_left (eAt es k).1 d1 _ o1 lt1 HD1.out).mono ?_); rintro e w3 ⟨rfl, rfl⟩) | ((go_at_call 23); (with_reducible refine (itoa_left (eAt es k).2.1 d2 _ o3 lt2 HD2.out).mono ?_); rintro e w3 ⟨rfl, rfl⟩) | ((go_at_call 24); (with_reducible refine (format_any (eAt es k).2.2 d3 _ HGW.out o5 o6 HD3.out).mono ?_); rintro e w4 ⟨rfl, hb4⟩; have i0 := (hb4.cell (p := ⟨wr.heap.size, 0, none⟩) hlV).trans g0; have i1 := (hb4.cell (p := ⟨wr.heap.size, 1, none⟩) hlV).trans g1; have i2 := (hb4.cell (p := ⟨wr.heap.size, 2, none⟩) hlV).trans g2; have HB4 := Lib.hid (builder_next HBB.out hb4); have HK4 := Lib.hid ((hb4.block wr.heap.size hlV).trans HBO.out); have hbz4 : V.heap.size ≤ w4.heap.size := hb4.size) | ((go_at_call 22); (with_reducible refine (writeString_any w1.heap.size w1.heap.size _ _ w4 HB4.out ?c1 ?c2).mono ?_); (case c1 => rw [HS.out]; have h1 := HL0.out; have h2 := HLL.out; simp only [Lib.byteCells_length, ByteArray.size, List.size_toArray]; omega); (case c2 => exact Nat.le_trans (by omega) hbz4); rintro e w5 ⟨rfl, ⟨hB5, hb5⟩, hk5⟩; have hK5 := hk5 _ _ _ hne (by decide) HK4.out; have j0 := blk_cell' hK5 0; have j1 := blk_cell' hK5 1; have j2 := blk_cell' hK5 2; simp only [List.getElem?_toArray, List.getElem?_cons_zero, List.getElem?_cons_succ] at j0 j1 j2))
      have HB5 : Hid (Lib.IsBuilder 50 5 w1.heap.size w1.heap.size (Lib.byteCells (headL N ++ lines (es.take (k + 1)))) w5) := Lib.hid (.inr (by
        have h := hB5
        rw [HS.out, str_cells, ← Lib.byteCells_append] at h
        rw [lines_take es k hlt, ← List.append_assoc]
        exact h))
      have hf4 : Below w.heap.size w w4 := hbo2.drew.trans (hb4.mono hbo2.size)
      have hf5 : Below w.heap.size w w5 := hf4.trans (hb5.mono (by omega))
      have hz5 : w1.heap.size + 1 ≤ w5.heap.size := Nat.le_trans (by omega) hb5.size
      clear hB5 hk5 hK5 hb5 hb4 HK4 HB4 g0 g1 g2 i0 i1 i2 j0 j1 j2
      go_wp2_with fail
      go_roundw
      case rel => exact ⟨k + 1, by go_num, by omega, HB5.out, hf5, hz5⟩
      case measure => simp [intOf]; omega
    · go_wp2_with fail
      refine (Tryd.Builder_String_any w1.heap.size w1.heap.size (headL N ++ lines (es.take k)) _ HB.out (by omega)).mono ?_
      rintro e w3 ⟨rfl, hb3⟩
      go_wp2_with fail
      go_ret2
      exact ⟨retS (by rw [List.take_of_length_le (by omega)]; rfl) rfl, hb.trans (hb3.mono (by omega))⟩

theorem print_no (N : Int) (A : Option Addr) (n c : Nat) (es : List Ed) (w : World) (hA : Lies w w.heap.size 3 A n (ec es)) (hnc : n ≤ c) (hn : n ≤ maxLen) (hok : chk N es ≠ 0) :
    Calls Tryd.prog 13 #[.agg #[.int .i64 N, .slice A n c]] w fun e w' => e = .returned (.tuple #[.string ⟨#[]⟩, .int .i64 (chk N es)]) ∧ Below w.heap.size w w' := by
  have h1 : (chk N es != 0) = true := by simpa using hok
  have hA0 := hA.next (below_alloc w (.cells #[.int .i64 N, .slice A n c] 24))
  clear hok
  go_enter Tryd.func13, Tryd.ntmps13
  go_wp2_with fail
  refine (check_any N A n c es _ hA0 hnc hn).mono ?_
  rintro e w1 ⟨rfl, hb1⟩
  have hb01 : Below w.heap.size w w1 := (below_alloc _ _).trans (hb1.mono (by simp))
  go_wp2_with fail
  go_ret2
  exact ⟨rfl, hb01⟩

end Go.Proofs.YtcjghomjjnaddaaDoor
