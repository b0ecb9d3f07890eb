import Derived.Test.YtpgdddjjjfkneaaGreatDoorPtG
import Derived.Test.YtpgdddjjjfkneaaGreatDoorPtB
import Derived.BigQuiet
import Derived.Deep.RegionHeld3
namespace Go.Proofs.YtpgdddjjjfkneaaGreatDoor
open Go.RowKit Go.Sort
open Go.RowKit
open Go.ChangeShapes Go.WideShapes Go.ChangeAt Go.RowKit
set_option linter.unusedVariables false

theorem Lies.pe7 {w : World} {B : Nat} {A : Option Addr} {ls : List Pe} (h : Lies w B 5 A ls.length (pc ls)) (k : Nat) (hk : k < ls.length) :
    ∃ ad, A = some ad ∧ ad.block < B ∧ w.cell? (ad.add (k * 5)) = some (.int .i64 ls[k].P) ∧ w.cell? ⟨(ad.add (k * 5)).block, (ad.add (k * 5)).off + 1, none⟩ = some (.int .i64 ls[k].S.step) ∧ w.cell? ⟨(ad.add (k * 5)).block, (ad.add (k * 5)).off + 2, none⟩ = some (.slice ls[k].A1 ls[k].S.vals.length ls[k].c1) ∧
      w.cell? ⟨(ad.add (k * 5)).block, (ad.add (k * 5)).off + 3, none⟩ = some (.slice ls[k].A2 ls[k].S.rest.length ls[k].c2) ∧ w.cell? ⟨(ad.add (k * 5)).block, (ad.add (k * 5)).off + 4, none⟩ = some (.slice ls[k].A3 ls[k].S.inn.length ls[k].c3) := by
  obtain ⟨a0, a1, a2, a3, a4⟩ := pc_at ls k hk
  obtain ⟨ad, e, hb, c0⟩ := h.2 _ _ a0
  obtain ⟨ad1, e1, _, c1⟩ := h.2 _ _ a1
  obtain ⟨ad2, e2, _, c2⟩ := h.2 _ _ a2
  obtain ⟨ad3, e3, _, c3⟩ := h.2 _ _ a3
  obtain ⟨ad4, e4, _, c4⟩ := h.2 _ _ a4
  rw [e] at e1 e2 e3 e4
  injection e1 with e1
  injection e2 with e2
  injection e3 with e3
  injection e4 with e4
  subst e1 e2 e3 e4
  rw [← add_add] at c1 c2 c3 c4
  exact ⟨ad, e, hb, c0, c1, c2, c3, c4⟩
section
variable {w : World} {base g n c : Nat} {l : List Ms}
end
theorem ris_to (N a : Int) (l : List Ms) (h : risB N a l = true) : ∀ m ∈ l, a < m.1 ∧ m.1 < N := by
  induction l generalizing a with
  | nil => intro m hm; simp at hm
  | cons x r ih =>
    unfold risB at h
    simp only [Bool.and_eq_true, decide_eq_true_eq] at h
    intro m hm
    rcases List.mem_cons.1 hm with rfl | hm
    · exact ⟨h.1, h.2.1⟩
    · have := ih _ h.2.2 m hm; omega
theorem ris_ris (N a : Int) (l : List Ms) (h : risB N a l = true) : Ris l := by
  induction l generalizing a with
  | nil => exact List.Pairwise.nil
  | cons x r ih =>
    unfold risB at h
    simp only [Bool.and_eq_true, decide_eq_true_eq] at h
    exact List.Pairwise.cons (fun m hm => (ris_to N _ r h.2.2 m hm).1) (ih _ h.2.2)
theorem pAt_get (l : List Pt) (k : Nat) (h : k < l.length) : pAt l k = l[k] := by unfold pAt; simp [List.getD, List.getElem?_eq_getElem h]
/-- May these be joined? -/
def joinB (N : Int) (es : List Ed) (p s l q : Int) (L : List Pt) : Bool :=
  decide ((L.length : Int) = q) && (List.range L.length).all fun i => decide ((pAt L i).P = i) && (decide ((pAt L i).step = (pAt L 0).step) && rightP N es p s l q (pAt L i))
def joinS (n q : Nat) (L : List Pt) : St :=
  ⟨(pAt L 0).step, (List.range n).map fun v => vAt (pAt L (v % q)).vals (v / q), (List.range n).map fun v => rAt (pAt L (v % q)).rest (v / q), (List.range n).flatMap fun (v : Nat) => (pAt L (v % q)).inn.filter fun m => m.1 == (v : Int)⟩
def joinR (N : Int) (es : List Ed) (p s l q : Int) (L : List Pt) : St × Int :=
  if jchk N es p s l q = 0 then (if joinB N es p s l q L = true then (joinS N.toNat q.toNat L, 0) else (noSt, 1)) else (noSt, jchk N es p s l q)
/-! Rising messages, one vertex after the other. -/
theorem filter_lt {l : List Ms} (h : Ris l) (n : Int) : (l.filter fun m => decide (m.1 < n)) ++ (l.filter fun m => m.1 == n) = l.filter fun m => decide (m.1 < n + 1) := by
  induction l with
  | nil => rfl
  | cons x r ih =>
    obtain ⟨hx, hr⟩ := List.pairwise_cons.1 h
    have ih := ih hr
    by_cases h1 : x.1 < n
    · rw [List.filter_cons_of_pos (by simpa using h1), List.filter_cons_of_neg (by simp; omega), List.filter_cons_of_pos (by simp; omega), List.cons_append, ih]
    · by_cases h2 : x.1 = n
      · have e1 : (r.filter fun m => decide (m.1 < n)) = [] := List.filter_eq_nil_iff.2 fun m hm => by have := hx m hm; simp; omega
        have e2 : (r.filter fun m => m.1 == n) = [] := List.filter_eq_nil_iff.2 fun m hm => by have := hx m hm; simp; omega
        have e3 : (r.filter fun m => decide (m.1 < n + 1)) = [] := List.filter_eq_nil_iff.2 fun m hm => by have := hx m hm; simp; omega
        rw [List.filter_cons_of_neg (by simpa using h1), List.filter_cons_of_pos (by simpa using h2), List.filter_cons_of_pos (by simp; omega), e1, e2, e3]
        rfl
      · rw [List.filter_cons_of_neg (by simpa using h1), List.filter_cons_of_neg (by simpa using h2), List.filter_cons_of_neg (by simp; omega), ih]
theorem flat_ris {l : List Ms} (h : Ris l) (h0 : ∀ m ∈ l, 0 ≤ m.1) (n : Nat) : ((List.range n).flatMap fun (v : Nat) => l.filter fun m => m.1 == (v : Int)) = l.filter fun m => decide (m.1 < (n : Int)) := by
  induction n with
  | zero =>
    have : (l.filter fun m => decide (m.1 < ((0 : Nat) : Int))) = [] := List.filter_eq_nil_iff.2 fun m hm => by have := h0 m hm; simp; omega
    rw [this]; rfl
  | succ n ih =>
    rw [List.range_succ, List.flatMap_append, ih]
    have := filter_lt h (n : Int)
    simp only [List.flatMap_cons, List.flatMap_nil, List.append_nil]
    rw [this]
    rfl
theorem split_len (N : Int) (es : List Ed) (p s l q : Int) (S : St) (k : Nat) (hk : k < q.toNat) : pAt ((List.range q.toNat).map (cutP N.toNat q.toNat S)) k = cutP N.toNat q.toNat S k := by
  rw [pAt_get _ _ (by simpa using hk)]; simp
/-- Parted and joined a state is what it was. -/
theorem join_split {N : Int} {es : List Ed} {p s l q : Int} {S : St} (h : rightB N es p s l q S = true) : joinS N.toNat q.toNat ((List.range q.toNat).map (cutP N.toNat q.toNat S)) = S := by
  obtain ⟨hj, hs, hv, hr, hm⟩ := right_of h
  have hb := badJ_not (jchk_zero hj).2
  obtain ⟨hN1, hN2⟩ := jchk_N hj
  have hq1 : 1 ≤ q.toNat := by omega
  have hq6 : q.toNat ≤ 6 := by omega
  have hP : ∀ v, pAt ((List.range q.toNat).map (cutP N.toNat q.toNat S)) (v % q.toNat) = cutP N.toNat q.toNat S (v % q.toNat) := fun v => split_len N es p s l q S _ (Nat.mod_lt _ (by omega))
  have hto := ris_to N (-1) S.inn hm
  obtain ⟨st, vs, rs, ms⟩ := S
  unfold joinS
  simp only [hP]
  have h0 : pAt ((List.range q.toNat).map (cutP N.toNat q.toNat ⟨st, vs, rs, ms⟩)) 0 = cutP N.toNat q.toNat ⟨st, vs, rs, ms⟩ 0 := split_len N es p s l q _ 0 (by omega)
  rw [h0]
  congr 1
  · apply List.ext_getElem
    · simp; dsimp only at hv; omega
    · intro i h1 h2
      simp only [List.length_map, List.length_range] at h1
      obtain ⟨hlt, he⟩ := verts_at (q := q.toNat) hq1 hq6 h1
      simp only [List.getElem_map, List.getElem_range, cutP]
      rw [vAt_get _ _ (by simpa using hlt)]
      simp only [List.getElem_map, he]
      exact vAt_get _ _ h2
  · apply List.ext_getElem
    · simp; dsimp only at hr; omega
    · intro i h1 h2
      simp only [List.length_map, List.length_range] at h1
      obtain ⟨hlt, he⟩ := verts_at (q := q.toNat) hq1 hq6 h1
      simp only [List.getElem_map, List.getElem_range, cutP]
      rw [rAt_get _ _ (by simpa using hlt)]
      simp only [List.getElem_map, he]
      exact rAt_get _ _ h2
  · have hf : ∀ v : Nat, ((cutP N.toNat q.toNat ⟨st, vs, rs, ms⟩ (v % q.toNat)).inn.filter fun m => m.1 == (v : Int)) = ms.filter fun m => m.1 == (v : Int) := by
      intro v
      show ((ms.filter (toHome q.toNat (v % q.toNat))).filter fun m => m.1 == (v : Int)) = _
      rw [List.filter_filter]
      apply List.filter_congr
      intro m hmm
      by_cases e : m.1 = (v : Int)
      · simp [toHome, e]
      · simp [e]
    simp only [hf]
    rw [flat_ris (ris_ris N (-1) ms hm) (fun m hmm => by have := hto m hmm; omega)]
    apply List.filter_eq_self.2
    intro m hmm
    have := hto m hmm
    simp; omega
/-- Is the partition k as it should be? -/
def goodB (N : Int) (es : List Ed) (p s l q : Int) (L : List Pt) (k : Nat) : Bool := decide ((pAt L k).P = k) && (decide ((pAt L k).step = (pAt L 0).step) && rightP N es p s l q (pAt L k))
theorem join_len {N : Int} {es : List Ed} {p s l q : Int} {L : List Pt} (h : ¬ (L.length : Int) = q) : joinB N es p s l q L = false := by unfold joinB; rw [decide_eq_false h]; rfl
theorem join_bad {N : Int} {es : List Ed} {p s l q : Int} {L : List Pt} {k : Nat} (hk : k < L.length) (h : goodB N es p s l q L k = false) : joinB N es p s l q L = false := by
  unfold joinB
  rw [Bool.and_eq_false_iff]
  right
  rw [List.all_eq_false]
  exact ⟨k, List.mem_range.2 hk, by unfold goodB at h; rw [h]; simp⟩
theorem join_good {N : Int} {es : List Ed} {p s l q : Int} {L : List Pt} (hl : (L.length : Int) = q) (h : ∀ k, k < L.length → goodB N es p s l q L k = true) : joinB N es p s l q L = true := by
  unfold joinB
  rw [decide_eq_true hl, Bool.true_and, List.all_eq_true]
  intro k hk
  exact h k (List.mem_range.1 hk)
theorem good_of {N : Int} {es : List Ed} {p s l q : Int} {L : List Pt} (h : joinB N es p s l q L = true) : (L.length : Int) = q ∧ ∀ k, k < L.length → goodB N es p s l q L k = true := by
  unfold joinB at h
  rw [Bool.and_eq_true, decide_eq_true_eq, List.all_eq_true] at h
  exact ⟨h.1, fun k hk => h.2 k (List.mem_range.2 hk)⟩
theorem pAt_pe (ls : List Pe) (k : Nat) (h : k < ls.length) : pAt (ls.map Pe.x) k = mkP ls[k].P ls[k].S := by
  rw [pAt_get _ _ (by simpa using h)]; simp [Pe.x]
theorem good_p {N : Int} {es : List Ed} {p s l q : Int} {ls : List Pe} {k : Nat} (h : k < ls.length) (hp : ¬ ls[k].P = k) : goodB N es p s l q (ls.map Pe.x) k = false := by
  unfold goodB; rw [pAt_pe ls k h, decide_eq_false (show ¬ (mkP ls[k].P ls[k].S).P = k from hp)]; rfl
theorem good_s {N : Int} {es : List Ed} {p s l q : Int} {ls : List Pe} {k : Nat} (h : k < ls.length) (h0 : 0 < ls.length) (hp : ¬ ls[k].S.step = ls[0].S.step) : goodB N es p s l q (ls.map Pe.x) k = false := by
  unfold goodB; rw [pAt_pe ls k h, pAt_pe ls 0 h0, decide_eq_false (show ¬ (mkP ls[k].P ls[k].S).step = (mkP ls[0].P ls[0].S).step from hp)]; simp
theorem good_r {N : Int} {es : List Ed} {p s l q : Int} {ls : List Pe} {k : Nat} (h : k < ls.length) (h0 : 0 < ls.length) (hp : ls[k].P = k) (hs : ls[k].S.step = ls[0].S.step) : goodB N es p s l q (ls.map Pe.x) k = rightP N es p s l q (mkP ls[k].P ls[k].S) := by
  unfold goodB; rw [pAt_pe ls k h, pAt_pe ls 0 h0, decide_eq_true (show (mkP ls[k].P ls[k].S).P = k from hp), decide_eq_true (show (mkP ls[k].P ls[k].S).step = (mkP ls[0].P ls[0].S).step from hs)]; simp
def ToRel (N : Int) (es : List Ed) (p s l q : Int) (L : List Pt) (m : Nat) (w2 : World) (i : Value) (W : World) : Prop := ∃ k : Nat, i = .int .i64 k ∧ k ≤ m ∧ Hid (∀ j, j < k → goodB N es p s l q L j = true) ∧ Below w2.heap.size w2 W
set_option maxHeartbeats 2000000 in
theorem together_any (N : Int) (A : Option Addr) (n c : Nat) (es : List Ed) (p s l q : Int) (D : Option Addr) (d : Nat) (ls : List Pe) (w : World)
    (hA : Lies w w.heap.size 3 A n (ec es)) (hnc : n ≤ c) (hn : n ≤ maxLen) (hD : Pls w w.heap.size D d ls) (hq : 1 ≤ q ∧ q ≤ 6) :
    Calls Tryz.prog 48 #[.agg #[.int .i64 N, .slice A n c], .agg #[.int .i64 p, .int .i64 s, .int .i64 l, .int .i64 q], .slice D ls.length d] w fun e w' =>
      e = .returned (.bool (joinB N es p s l q (ls.map Pe.x))) ∧ Below w.heap.size w w' := by
  have mixed : Tryz.prog.follows .mixedOrders = true := by kernel_rfl
  have HML := Lib.hid (show (ls.map Pe.x).length = ls.length from List.length_map ..)
  obtain ⟨w2, hw2⟩ : ∃ w2, w2 = (w.alloc (.cells #[.int .i64 N, .slice A n c] 27)).alloc (.cells #[.int .i64 p, .int .i64 s, .int .i64 l, .int .i64 q] 23) := ⟨_, rfl⟩
  have HBX := Lib.hid (show Bx w N A n c p s l q w2 by rw [hw2]; exact Bx.init w N A n c p s l q)
  have HA := Lib.hid (hA.next HBX.out.bl)
  have HD := Lib.hid (hD.next HBX.out.bl)
  clear hA hD
  go_enter Tryz.func48, Tryz.ntmps48
  go_upto_region 1 with fail
  rw [← hw2]
  clear hw2
  have j3 := HBX.out.j3
  by_cases hl : (ls.length : Int) = q
  · have HL := Lib.hid hl
    have hl' : ((ls.length : Int) != q) = false := by simpa using hl
    obtain ⟨m, hm⟩ : ∃ m : Nat, m = ls.length := ⟨_, rfl⟩
    have hm6 : 1 ≤ m ∧ m ≤ 6 := by omega
    have HM := Lib.hid hm
    have HQM := Lib.hid (show q = (m : Int) by omega)
    clear hl
    go_wp2_with fail
    clear j3 hl'
    go_loopw [15] (fun i W => ToRel N es p s l q (ls.map Pe.x) m w2 i W) (fun i W => m - (intOf i).toNat)
    case atStart => exact ⟨0, rfl, Nat.zero_le _, Lib.hid (fun j hj => absurd hj (Nat.not_lt_zero _)), Below.refl _ _⟩
    case round =>
      obtain ⟨k, rfl, hk, HG, hb⟩ := hrel
      have HB := Lib.hid hb
      have HBL := Lib.hid (HBX.out.next hb).bl
      by_cases hkm : k < m
      · have hlt : k < ls.length := by omega
        have h0 : 0 < ls.length := by omega
        have hkq : (k : Int) < q := by have := HQM.out; omega
        have hkl : (k : Int) < (ls.length : Int) := by omega
        have h0l : (0 : Int) < (ls.length : Int) := by omega
        have HDW := Lib.hid (HD.out.next hb)
        have HAW := Lib.hid (HA.out.next hb)
        obtain ⟨ad, rfl, _, x0, x1, x2, x3, x4⟩ := Lies.pe7 HDW.out.L k hlt
        obtain ⟨ad', ea, _, _, y1, _, _, _⟩ := Lies.pe7 HDW.out.L 0 h0
        injection ea with ea
        subst ea
        rw [Nat.zero_mul, YtpgdddjjjfkneaaGreatDoor.add_zero] at y1
        have HSA := Lib.hid (HDW.out.at k hlt)
        have HGP := Lib.hid (good_p (N := N) (es := es) (p := p) (s := s) (l := l) (q := q) hlt)
        have HGS := Lib.hid (good_s (N := N) (es := es) (p := p) (s := s) (l := l) (q := q) hlt h0)
        have HGR := Lib.hid (good_r (N := N) (es := es) (p := p) (s := s) (l := l) (q := q) hlt h0)
        have HJB := Lib.hid (fun h => join_bad (N := N) (es := es) (p := p) (s := s) (l := l) (q := q) (L := ls.map Pe.x) (k := k) (by rw [HML.out]; exact hlt) h)
        generalize ls[0].S.step = st0 at *
        generalize ls[k].P = P at *
        generalize ls[k].S = S at *
        generalize ls[k].A1 = A1 at *
        generalize ls[k].A2 = A2 at *
        generalize ls[k].A3 = A3 at *
        generalize ls[k].c1 = c1 at *
        generalize ls[k].c2 = c2 at *
        generalize ls[k].c3 = c3 at *
        clear hb
        go_upto_region 6 with fail
        by_cases g1 : P = (k : Int)
        · by_cases g2 : S.step = st0
          · have g1' : (P != (k : Int)) = false := by simpa using g1
            have g2' : (S.step != st0) = false := by simpa using g2
            have HGO := Lib.hid (HGR.out g1 g2)
            have HK := Lib.hid (show ∀ (W : World) (a : Addr) (v : Value), Below wr.heap.size wr W → wr.cell? a = some v → W.cell? a = some v from fun W a v hb h => (hb.cell (p := a) (World.block_lt_of_cell? wr a h)).trans h)
            have CR := Lib.hid (fun (W : World) (hb : Below wr.heap.size wr W) => pright_any N A n c es p s l q P S A1 c1 A2 c2 A3 c3 W (HAW.out.next hb) hnc hn (HSA.out.next hb))
            obtain ⟨z1, g0, g10, j0, j1, j2, j3, bl1⟩ := HBX.out.next HB.out
            clear z1 bl1 g1 g2
            have HF := Lib.hid (show ∀ W : World, Below wr.heap.size wr W → W.cell? ⟨w.heap.size, 0, none⟩ = some (.int .i64 N) ∧ W.cell? ⟨w.heap.size, 1, none⟩ = some (.slice A n c) ∧ W.cell? ⟨w.heap.size + 1, 0, none⟩ = some (.int .i64 p) ∧ W.cell? ⟨w.heap.size + 1, 1, none⟩ = some (.int .i64 s) ∧ W.cell? ⟨w.heap.size + 1, 2, none⟩ = some (.int .i64 l) ∧ W.cell? ⟨w.heap.size + 1, 3, none⟩ = some (.int .i64 q) ∧ W.cell? (ad.add (k * 5)) = some (.int .i64 P) ∧ W.cell? ⟨(ad.add (k * 5)).block, (ad.add (k * 5)).off + 1, none⟩ = some (.int .i64 S.step) ∧ W.cell? ⟨(ad.add (k * 5)).block, (ad.add (k * 5)).off + 2, none⟩ = some (.slice A1 S.vals.length c1) ∧ W.cell? ⟨(ad.add (k * 5)).block, (ad.add (k * 5)).off + 3, none⟩ = some (.slice A2 S.rest.length c2) ∧ W.cell? ⟨(ad.add (k * 5)).block, (ad.add (k * 5)).off + 4, none⟩ = some (.slice A3 S.inn.length c3) ∧ W.cell? ⟨ad.block, ad.off + 1, none⟩ = some (.int .i64 st0) ∧ Below wr.heap.size wr W by
              intro W hb
              exact ⟨HK.out _ _ _ hb g0, HK.out _ _ _ hb g10, HK.out _ _ _ hb j0, HK.out _ _ _ hb j1, HK.out _ _ _ hb j2, HK.out _ _ _ hb j3, HK.out _ _ _ hb x0, HK.out _ _ _ hb x1, HK.out _ _ _ hb x2, HK.out _ _ _ hb x3, HK.out _ _ _ hb x4, HK.out _ _ _ hb y1, hb⟩)
            have q0 := HF.out wr.drew (Below.refl _ _).drew
            generalize rightP N es p s l q (mkP P S) = br at CR HGO
            clear x0 x1 x2 x3 x4 y1 g0 g10 j0 j1 j2 j3
            go_cut [46] (fun s46 W => s46 = .bool (!br) ∧ Below wr.heap.size wr W)
            case first =>
              go_region_held3 (fun w' => w'.cell? ⟨w.heap.size, 0, none⟩ = some (.int .i64 N) ∧ w'.cell? ⟨w.heap.size, 1, none⟩ = some (.slice A n c) ∧ w'.cell? ⟨w.heap.size + 1, 0, none⟩ = some (.int .i64 p) ∧ w'.cell? ⟨w.heap.size + 1, 1, none⟩ = some (.int .i64 s) ∧ w'.cell? ⟨w.heap.size + 1, 2, none⟩ = some (.int .i64 l) ∧ w'.cell? ⟨w.heap.size + 1, 3, none⟩ = some (.int .i64 q) ∧ w'.cell? (ad.add (k * 5)) = some (.int .i64 P) ∧ w'.cell? ⟨(ad.add (k * 5)).block, (ad.add (k * 5)).off + 1, none⟩ = some (.int .i64 S.step) ∧ w'.cell? ⟨(ad.add (k * 5)).block, (ad.add (k * 5)).off + 2, none⟩ = some (.slice A1 S.vals.length c1) ∧ w'.cell? ⟨(ad.add (k * 5)).block, (ad.add (k * 5)).off + 3, none⟩ = some (.slice A2 S.rest.length c2) ∧ w'.cell? ⟨(ad.add (k * 5)).block, (ad.add (k * 5)).off + 4, none⟩ = some (.slice A3 S.inn.length c3) ∧ w'.cell? ⟨ad.block, ad.off + 1, none⟩ = some (.int .i64 st0) ∧ Below wr.heap.size wr w')
                (first | exact q1 | exact q0)
                (first | ((go_at_call 40); (with_reducible refine (CR.out _ (by first | exact q1.2.2.2.2.2.2.2.2.2.2.2.2 | exact q0.2.2.2.2.2.2.2.2.2.2.2.2)).mono ?_); rintro e w5 ⟨rfl, hb2⟩; have q1 := HF.out w5 (((by first | exact q1.2.2.2.2.2.2.2.2.2.2.2.2 | exact q0.2.2.2.2.2.2.2.2.2.2.2.2) : Below wr.heap.size wr _).trans (hb2.mono (((by first | exact q1.2.2.2.2.2.2.2.2.2.2.2.2 | exact q0.2.2.2.2.2.2.2.2.2.2.2.2) : Below wr.heap.size wr _)).size))))
              go_wp2_with fail
              go_meet
              exact ⟨rfl, q1.2.2.2.2.2.2.2.2.2.2.2.2⟩
            case rest =>
              obtain ⟨rfl, hb5⟩ := hcut
              have HB5 := Lib.hid (HB.out.trans (hb5.mono HB.out.size))
              have HBE := Lib.hid (HBX.out.next HB5.out).bl
              clear hb5 q0
              cases br with
              | true =>
                go_wp2_with fail
                go_roundw
                case rel => exact ⟨k + 1, by go_num, by omega, Lib.hid (fun j hj => by
                  rcases Nat.lt_succ_iff_lt_or_eq.1 hj with h | rfl
                  · exact HG.out j h
                  · exact HGO.out), HB5.out⟩
                case measure => simp [intOf]; omega
              | false =>
                have HFF := Lib.hid (HJB.out HGO.out)
                go_wp2_with fail
                go_ret
                exact ⟨ret_bool HFF.out.symm, HBE.out⟩
          · have g1' : (P != (k : Int)) = false := by simpa using g1
            have g2' : (S.step != st0) = true := by simpa using g2
            have HFF := Lib.hid (HJB.out (HGS.out g2))
            clear g1 g2
            go_quiet (fail)
            go_wp2_with fail
            go_ret
            exact ⟨ret_bool HFF.out.symm, below_to_drewN HBL.out _⟩
        · have g1' : (P != (k : Int)) = true := by simpa using g1
          have HFF := Lib.hid (HJB.out (HGP.out g1))
          clear g1
          go_quiet (fail)
          go_wp2_with fail
          go_ret
          exact ⟨ret_bool HFF.out.symm, below_to_drewN HBL.out _⟩
      · have hk' : k = m := by omega
        subst hk'
        have hkq : ¬ ((k : Int) < q) := by have := HQM.out; omega
        have HFF := Lib.hid (join_good (N := N) (es := es) (p := p) (s := s) (l := l) (L := ls.map Pe.x) (by rw [HML.out]; exact HL.out) (fun j hj => HG.out j (by rw [HML.out, ← HM.out] at hj; exact hj)))
        go_wp2_with fail
        go_ret
        exact ⟨ret_bool HFF.out.symm, HBL.out⟩
  · have hl' : ((ls.length : Int) != q) = true := by simpa using hl
    have HFF := Lib.hid (join_len (N := N) (es := es) (p := p) (s := s) (l := l) (L := ls.map Pe.x) (q := q) (by rw [HML.out]; exact hl))
    clear hl
    go_wp2_with fail
    go_ret
    exact ⟨ret_bool HFF.out.symm, HBX.out.bl⟩
end Go.Proofs.YtpgdddjjjfkneaaGreatDoor

