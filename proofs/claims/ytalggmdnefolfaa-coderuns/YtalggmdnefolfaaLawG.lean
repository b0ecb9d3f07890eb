/-
  The walk of CodeRuns: frames one behind the other are taken one by one. No condition.
-/
import Derived.Test.YtalggmdnefolfaaLawB
namespace Go.Proofs.Ytalggmdnefolfaa
open Go.RowKit
set_option linter.unusedVariables false

theorem Try.info22 : (Try.prog.info? 22).map (fun i => (i.zero, i.size, i.bytes)) = some (some (.slice none 0 0), 1, 24) := by kernel_rfl

/-- Two slices of the call's own whose elements are of different types never share a row. -/
theorem own_apart {w w' : World} {b b' s s' n n' : Nat} {e e' : TypeId} {v v' : Value} {xs xs' : List Value} (h : w.ownsRow b e s v n xs) (h' : w.ownsRow b' e' s' v' n' xs') (hg : w.grownBy w' v'.ownBlock) (hne : e ≠ e') :
    w'.ownsRow b e s v n xs := by
  refine h.kept hg ?_
  rcases h.2 with ⟨rfl, _⟩ | ⟨g, cap, cur, rfl, _, hh, _⟩
  · exact .inl rfl
  · right
    rcases h'.2 with ⟨rfl, _⟩ | ⟨g', cap', cur', rfl, _, hh', _⟩
    · simp [Value.ownBlock]
    · intro e1
      have : g = g' := by simpa [Value.ownBlock] using e1
      subst this
      rw [hh] at hh'
      injection hh' with hh'
      injection hh' with _ ht
      exact hne ht

theorem wpList_app2 {P : Program} (w : World) {ops : Array Oper} {rest : List Oper} {o : Oper} {a : Act} {Q : Exit → Act → World → Prop} (hgd : o.guard = none) (s x : Operand) (t : TypeId)
    (ho : o.op = .call { callee := .builtin .append, args := #[s, x], argTypes := #[t, t] })
    (base : Nat) (e : TypeId) (i : TypeInfo) (z : Value) (size bytes : Nat) (ht : P.underlying t = some (.slice e)) (hi : P.info? e = some i) (hz : i.zero = some z)
    (hsize : i.size = size) (hby : i.bytes = bytes) (hzs : z.cells.size = size) (hsz : 0 < size)
    (A : Option Addr) (n c : Nat) (xs : List Value) (hs : a.eval s = .slice A n c) (hown : w.ownsRow base e size (.slice A n c) n xs)
    (B : Nat) (A2 : Option Addr) (m c2 : Nat) (news : List Value) (hx : a.eval x = .slice A2 m c2) (hl : Lies w B size A2 m news) (h1 : ∀ u ∈ news, u.oneCell' = true)
    (k : Nat) (ys : List Value) (hk : n + m = k) (hy : xs ++ news = ys) (h63 : k ≤ maxLen) (hbytes : k * bytes ≤ 140737488355328) (hbase : base ≤ w.heap.size)
    (h : ∀ A' c' w', w'.ownsRow base e size (.slice A' k c') k ys → Below base w w' → w.grownBy w' (Value.slice A n c).ownBlock → wpList P ops Q rest (a.put o.dst (.slice A' k c')) w') :
    wpList P ops Q (o :: rest) a w := by
  subst hk hy
  refine wpList_plain hgd fun K hK => ?_
  obtain ⟨A', c', w', hr, h2, h3, h4, _⟩ := run_app (P := P) w base t o.type e i z size bytes ht hi hz hsize hby hzs hsz A n c xs hown B A2 m c2 news hl h1 h63 hbytes hbase
  unfold Oper.wp execOp
  simp only [ho, resolve, invoke, builtin, Sem.run_bind, Sem.run_pure, Result.andThen_ok, List.map_toArray, List.map_cons, List.map_nil, hs, hx, hr]
  exact hK _ _ (h A' c' w' h2 h3 h4)

/-- What is told of a list of byte lists. -/
def RowsAt (w : World) (O : Option Addr) (on : Nat) (A : Nat → Option Addr) (L C : Nat → Nat) (Z : Nat → List UInt8) : Prop :=
  ∀ i, i < on → (∃ oa, O = some oa ∧ oa.block < w.heap.size ∧ w.cell? (oa.add i) = some (.slice (A i) (L i) (C i))) ∧ L i ≤ C i ∧ C i ≤ maxLen ∧ Lies w w.heap.size 1 (A i) (L i) (bc (Z i))

/-- The places of those that are short enough. -/
def kx (L : Nat → Nat) (i : Nat) : List Nat := (List.range i).filter fun j => decide (L j ≤ 500)
theorem kx_yes (L : Nat → Nat) (i : Nat) (h : L i ≤ 500) : kx L (i + 1) = kx L i ++ [i] := by unfold kx; rw [List.range_succ, List.filter_append]; simp [h]
theorem kx_no (L : Nat → Nat) (i : Nat) (h : 500 < L i) : kx L (i + 1) = kx L i := by unfold kx; rw [List.range_succ, List.filter_append]; simp; omega
theorem kx_mem (L : Nat → Nat) (i j : Nat) (h : j ∈ kx L i) : j < i ∧ L j ≤ 500 := by unfold kx at h; simpa using h

/-- All frames, one behind the other. -/
def fl (Z : Nat → List UInt8) (K : List Nat) : List UInt8 := K.flatMap fun j => frameOf (Z j)
theorem fl_snoc (Z : Nat → List UInt8) (K : List Nat) (j : Nat) : fl Z (K ++ [j]) = fl Z K ++ frameOf (Z j) := by unfold fl; simp
theorem fl_cons (Z : Nat → List UInt8) (K : List Nat) (j : Nat) : fl Z (j :: K) = frameOf (Z j) ++ fl Z K := by unfold fl; simp

/-- How long the last frame is. -/
def lastIs (L : Nat → Nat) (K : List Nat) (x : Nat) : Prop := (K = [] ∧ x = 0) ∨ ∃ K' j, K = K' ++ [j] ∧ x = 8 + L j

theorem cut_at (x : Int) (m : Nat) (h0 : 0 < m) (h : m ≤ 508) : ∃ r : Nat, wrap64 ((IntKind.u64.wrap x).tmod (m : Int)) = (r : Int) ∧ r < m := by
  rw [u64_eq]
  have e : ((u64 x : Int)).tmod (m : Int) = ((u64 x % m : Nat) : Int) := by rw [Int.ofNat_tmod]
  rw [e]
  have hlt : u64 x % m < m := Nat.mod_lt _ h0
  refine ⟨u64 x % m, ?_, hlt⟩
  generalize u64 x % m = i at *
  unfold wrap64
  omega

/-- What is left behind i frames, cut off at the end. -/
def rem (Z : Nat → List UInt8) (K : List Nat) (r i : Nat) : List UInt8 := (fl Z (K.drop i)).take ((fl Z (K.drop i)).length - 1 - r)

theorem rem_last (Z : Nat → List UInt8) (K K' : List Nat) (j r i : Nat) (hK : K = K' ++ [j]) (hi : i + 1 = K.length) : rem Z K r i = (frameOf (Z j)).take (8 + (Z j).length - 1 - r) := by
  subst hK
  have hi' : i = K'.length := by simp at hi; omega
  unfold rem
  rw [hi', List.drop_left]
  have : fl Z [j] = frameOf (Z j) := by unfold fl; simp
  rw [this, frameOf_length]

theorem suf_len (Z : Nat → List UInt8) (K' : List Nat) (j i : Nat) (hi : i ≤ K'.length) : 8 + (Z j).length ≤ (fl Z ((K' ++ [j]).drop i)).length := by
  rw [List.drop_append_of_le_length hi, fl_snoc, List.length_append, frameOf_length]; omega

theorem rem_step (Z : Nat → List UInt8) (K K' : List Nat) (j r i : Nat) (hK : K = K' ++ [j]) (hi : i + 1 < K.length) (hr : r < 8 + (Z j).length) :
    rem Z K r i = frameOf (Z (K[i]'(by omega))) ++ rem Z K r (i + 1) := by
  have h1 : K.drop i = K[i]'(by omega) :: K.drop (i + 1) := by rw [List.getElem_cons_drop]
  have h2 : 8 + (Z j).length ≤ (fl Z (K.drop (i + 1))).length := by
    subst hK
    exact suf_len Z K' j (i + 1) (by simp at hi; omega)
  unfold rem
  rw [h1, fl_cons, List.length_append, List.take_append, List.take_of_length_le (by omega)]
  congr 2
  omega

theorem takeFrame_cut (p : List UInt8) (m : Nat) (A : Option Addr) (cp : Nat) (w : World) (h : m < 8 + p.length) (hp : p.length ≤ 4000) (hc : m ≤ cp) (hA : Lies w w.heap.size 1 A m (bc ((frameOf p).take m))) :
    Calls Try.prog 24 #[.slice A m cp] w fun e w' => e = .returned (.tuple #[.slice none 0 0, .slice none 0 0, .int .i64 2]) ∧ Below w.heap.size w w' := by
  by_cases h8 : m < 8
  · exact (takeFrame_short A m cp w h8).mono fun e w' ⟨he, hw⟩ => ⟨he, hw ▸ Below.refl _ _⟩
  · refine takeFrame_form A m cp _ w hc (by omega) hA (by omega) (.inr ?_)
    have hv := (frame_back p [] hp).1
    rw [List.append_nil] at hv
    rw [List.take_take, Nat.min_eq_left (by omega), hv]
    omega

set_option maxHeartbeats 2000000 in
theorem runs_walk (O : Option Addr) (on oc : Nat) (A : Nat → Option Addr) (L C : Nat → Nat) (Z : Nat → List UInt8) (x : Int) (w : World) (x1 : -9223372036854775808 ≤ x) (x2 : x ≤ 9223372036854775807)
    (hR : RowsAt w O on A L C Z) (hc : on ≤ oc) (hm : oc ≤ maxLen) :
    Calls Try.prog 9 #[.slice O on oc, .int .i64 x] w fun e w' => e = .returned (.bool true) ∧ Below w.heap.size w w' := by
  obtain ⟨i0, hi, hz0, hz1, hz2⟩ := info_parts Try.info5
  obtain ⟨i1, qi, qz0, qz1, qz2⟩ := info_parts Try.info22
  have hon : on ≤ 9223372036854775807 := by unfold maxLen at hm; omega
  go_enter Try.func9, Try.ntmps9
  go_wp2_with fail
  go_loopw [5, 6, 7, 8] (fun al la ke i wr => ∃ (k na la' nk : Nat) (Aa : Option Addr) (ca : Nat) (Ak : Option Addr) (ck : Nat), k ≤ on ∧ k ≤ 20 ∧ i = .int .i64 k ∧ al = .slice Aa na ca ∧ la = .int .i64 la' ∧ ke = .slice Ak nk ck ∧
      na ≤ 508 * k ∧ nk ≤ k ∧ la' ≤ 508 ∧ lastIs L (kx L k) la' ∧
      wr.ownsRow w.heap.size 5 1 (.slice Aa na ca) na (bc (fl Z (kx L k))) ∧ wr.ownsRow w.heap.size 22 1 (.slice Ak nk ck) nk ((kx L k).map fun j => .slice (A j) (L j) (C j)) ∧ Below w.heap.size w wr) (fun _ _ _ i _ => on - (intOf i).toNat)
  case atStart => exact ⟨0, 0, 0, 0, none, 0, none, 0, Nat.zero_le _, Nat.zero_le _, rfl, rfl, rfl, rfl, Nat.zero_le _, Nat.zero_le _, Nat.zero_le _, .inl ⟨rfl, rfl⟩, World.ownsRow_nil _ _ _ _, World.ownsRow_nil _ _ _ _, Below.refl _ _⟩
  case round =>
    obtain ⟨k, na, la', nk, Aa, ca, Ak, ck, hk1, hk2, rfl, rfl, rfl, rfl, hna, hnk, hla, hlast, hoa, hok, hb⟩ := hrel
    by_cases hlt : k < on ∧ k < 20
    · obtain ⟨hlt1, hlt2⟩ := hlt
      obtain ⟨⟨oa, rfl, hob, hoc⟩, hr1, hr2, hr3⟩ := hR k hlt1
      have hcell : wr.cell? (oa.add k) = some (.slice (A k) (L k) (C k)) := (hb.cell (by rw [block_add]; exact hob)).trans hoc
      have hCk : C k ≤ 9223372036854775807 := by unfold maxLen at hr2; omega
      by_cases h500 : 500 < L k
      · have HK := Lib.hid (kx_no L k h500)
        go_wp2_with fail
        go_roundw
        case rel => exact ⟨k + 1, na, la', nk, Aa, ca, Ak, ck, by omega, by omega, by go_num, rfl, rfl, rfl, by omega, by omega, hla, by rw [HK.out]; exact hlast, by rw [HK.out]; exact hoa, by rw [HK.out]; exact hok, hb⟩
        case measure => simp [intOf]; omega
      · have HK := Lib.hid (kx_yes L k (by omega))
        have HM : Hid ((kx L k).map (fun j => Value.slice (A j) (L j) (C j)) ++ [Value.slice (A k) (L k) (C k)] = (kx L (k + 1)).map fun j => .slice (A j) (L j) (C j)) := by
          show _ = _; rw [HK.out, List.map_append]; rfl
        have HF : Hid (bc (fl Z (kx L k)) ++ bc (frameOf (Z k)) = bc (fl Z (kx L (k + 1)))) := by
          show _ = _; rw [HK.out, fl_snoc, bc_append]
        have hcw : ∀ W', Below w.heap.size w W' → W'.cell? (oa.add k) = some (.slice (A k) (L k) (C k)) := fun W' hW => (hW.cell (by rw [block_add]; exact hob)).trans hoc
        have HC := Lib.hid hcw
        clear hcw
        have hba : Below w.heap.size w (wr.alloc (.cells #[] 5)) := hb.alloc hb.size _
        have hcella := HC.out _ hba
        have hLa := hr3.below hba
        go_wp2_with (at_builtin; go_must (refine wpList_app _ rfl (.tmp 32) (.tmp 36) 22 rfl wr.heap.size 5 i0 (.int .u8 0) 1 1 Try.underlying22 hi hz0 hz1 hz2 rfl (by decide) _ 0 0 [] rfl (own_empty wr 5 _ (Nat.le_refl _)) _ (A k) (L k) (C k) _ rfl hLa (bc_one _) (L k) (bc (Z k)) (by omega) rfl (by unfold maxLen; omega) (by omega) (below_alloc wr (.cells #[] 5)).size ?_))
        intro A1 c1 w1 ho1 hb1
        have hr1b : Below wr.heap.size wr w1 := (below_alloc wr (.cells #[] 5)).trans hb1
        clear hba hcella hLa hb1
        go_wp2_with fail
        refine (frame_yes A1 (L k) c1 (Z k) w1 (by omega) (Lies.of_own ho1)).mono ?_
        rintro e w2 ⟨Af, cf, rfl, hof, hbf⟩
        have hr2b : Below wr.heap.size wr w2 := hr1b.trans (hbf.mono hr1b.size)
        have hb2 : Below w.heap.size w w2 := hb.trans (hr2b.mono hb.size)
        have hoa2 := own_next hoa hr2b
        have hok2 := own_next hok hr2b
        have hLf := Lies.of_own hof
        clear ho1 hr1b hbf hof hr2b hoa hok hcell
        have h00 : ((0 : Int) != 0) = false := rfl
        go_wp2_with (at_builtin; go_must (refine wpList_app2 _ rfl (.tmp 50) (.tmp 51) 22 rfl w.heap.size 5 i0 (.int .u8 0) 1 1 Try.underlying22 hi hz0 hz1 hz2 rfl (by decide) Aa na ca _ rfl hoa2 _ Af (8 + L k) cf _ rfl hLf (bc_one _) (na + (8 + L k)) _ rfl HF.out (by unfold maxLen; omega) (by omega) hb2.size ?_))
        intro A3 c3 w3 ho3 hb3 hg3
        have hok3 := own_apart hok2 hoa2 hg3 (by decide)
        have hb03 : Below w.heap.size w w3 := hb2.trans hb3
        have hcell3 := HC.out _ hb03
        have ho3a := ho3.alloc (.cells #[.slice (A k) (L k) (C k)] 22)
        clear hoa2 hok2 hLf hb2 hb3 hg3
        go_wp2_with (at_builtin; go_must (refine wpList_app2 _ rfl (.tmp 53) (.tmp 58) 50 rfl w.heap.size 22 i1 (.slice none 0 0) 1 24 Try.underlying50 qi qz0 qz1 qz2 rfl (by decide) Ak nk ck _ rfl (hok3.alloc _) _ _ 1 1 _ rfl (lies_new w3 _ 22 (w3.heap.size + 1) (Nat.lt_succ_self _)) ?c1 (nk + 1) _ rfl HM.out ?c3 ?c4 ?c5 ?_))
        case c1 => intro u hu; simp at hu; subst hu; rfl
        case c3 => unfold maxLen; omega
        case c4 => omega
        case c5 => have := hb03.size; simp; omega
        intro A4 c4 w4 ho4 hb4 hg4
        have ho34 := own_apart ho3a (hok3.alloc _) hg4 (by decide)
        have hb04 : Below w.heap.size w w4 := (hb03.alloc hb03.size _).trans hb4
        clear ho3 hok3 hb03 hcell3 ho3a hb4 hg4
        go_wp2_with fail
        go_roundw
        case rel => exact ⟨k + 1, na + (8 + L k), 8 + L k, nk + 1, A3, c3, A4, c4, by omega, by omega, by go_num, rfl, by go_num, rfl, by omega, by omega, by omega, .inr ⟨kx L k, k, HK.out, rfl⟩, ho34, ho4, hb04⟩
        case measure => simp [intOf]; omega
    · have hKl : Hid ((kx L k).length = nk) := by have := hok.1; simp at this; exact this
      have hT : Hid ((fl Z (kx L k)).length = na) := (Lies.of_own hoa).len
      have hlen : ∀ j, j < on → (Z j).length = L j := fun j hj => (hR j hj).2.2.2.len
      have HZ := Lib.hid hlen
      have hmem : ∀ j, j ∈ kx L k → j < on ∧ L j ≤ 500 := fun j hj => ⟨by have := (kx_mem L k j hj).1; omega, (kx_mem L k j hj).2⟩
      have HM := Lib.hid hmem
      have HR := Lib.hid hR
      clear hlen hmem hR
      generalize hKe : kx L k = K at *
      clear hKe
      have hcond : ¬ (k < on) ∨ (k < on ∧ ¬ k < 20) := by omega
      rcases hlast with ⟨hK0, hl0⟩ | ⟨K', j, hKj, hlj⟩
      · have hn0 : nk = 0 := by rw [← hKl.out, hK0]; rfl
        subst hn0
        have e0 : (((0 : Nat) : Int) == 0) = true := rfl
        rcases hcond with hq | ⟨hq1, hq2⟩
        · go_wp2_with fail
          refine (knows_any _).mono ?_
          rintro e w1 ⟨rfl, hb1⟩
          have hb01 : Below w.heap.size w w1 := hb.trans (hb1.mono hb.size)
          go_wp2_with fail
          go_ret
          exact ⟨rfl, hb01⟩
        · go_wp2_with fail
          refine (knows_any _).mono ?_
          rintro e w1 ⟨rfl, hb1⟩
          have hb01 : Below w.heap.size w w1 := hb.trans (hb1.mono hb.size)
          go_wp2_with fail
          go_ret
          exact ⟨rfl, hb01⟩
      · have hjm := HM.out j (by rw [hKj]; simp)
        have hjl := HZ.out j hjm.1
        have hlen1 : 8 + L j ≤ na := by rw [← hT.out, hKj, fl_snoc, List.length_append, frameOf_length, hjl]; omega
        have hnk0 : 0 < nk := by rw [← hKl.out, hKj]; simp
        obtain ⟨gk, rfl⟩ : ∃ gk, Ak = some ⟨gk, 0, none⟩ := by
          rcases hok.2 with ⟨_, h0⟩ | ⟨g, cap, cur, hv, _⟩
          · omega
          · injection hv with e1; exact ⟨g, e1⟩
        have HJ := Lib.hid hKj
        have hl8 : 8 ≤ la' := by omega
        have HLA := Lib.hid hlj
        obtain ⟨r, hr, hrl⟩ := cut_at x la' (by omega) hla
        have hrna : r + 1 ≤ na := by omega
        have hrj : r < 8 + L j := by omega
        clear hKj hlj
        obtain ⟨Ab, hcutb, hLb⟩ := cut_h Try.under22 Try.size22 Aa na ca (na - 1 - r) ((na : Int) - 1 - (r : Int)) .i64 (by omega) (by omega) (own_cap hoa)
        have hAb := hLb _ _ _ (Lies.of_own hoa)
        rw [bc_take] at hAb
        have hcab := own_cap hoa
        clear hLb hoa
        have e0 : ((nk : Int) == 0) = false := by simp; omega
        have e1 : ((la' : Int) == 0) = false := by simp; omega
        have hb0 := hb
        have hok0 := hok
        have hrem0 : Hid ((fl Z K).take (na - 1 - r) = rem Z K r 0) := by show _ = _; unfold rem; rw [List.drop_zero, hT.out]
        rw [hrem0.out] at hAb
        rcases hcond with hq | ⟨hq1, hq2⟩
        all_goals
          go_wp2_with fail
          clear hcutb hr e0 e1 hrem0
          go_loopw [5, 11] (fun al i ws => ∃ (q nb : Nat) (Ac : Option Addr) (cc : Nat), q < nk ∧ i = .int .i64 q ∧ al = .slice Ac nb cc ∧ nb ≤ cc ∧ nb ≤ na ∧ Lies ws ws.heap.size 1 Ac nb (bc (rem Z K r q)) ∧
              ws.ownsRow w.heap.size 22 1 (.slice (some ⟨gk, 0, none⟩) nk ck) nk (K.map fun j => .slice (A j) (L j) (C j)) ∧ Below w.heap.size w ws) (fun _ i _ => nk - (intOf i).toNat)
          case atStart => exact ⟨0, na - 1 - r, Ab, ca, hnk0, rfl, rfl, by omega, by omega, hAb, hok, hb⟩
          case round =>
            obtain ⟨q, nb, Ac, cc, hqn, rfl, rfl, hnc, hnb, hLc, hokq, hbq⟩ := hrel
            have hqK : q < K.length := by rw [hKl.out]; exact hqn
            by_cases hqlast : q + 1 = nk
            · have HR1 := Lib.hid (rem_last Z K K' j r q HJ.out (by rw [hKl.out]; exact hqlast))
              rw [HR1.out] at hLc
              have hnb' : Hid (nb = 8 + (Z j).length - 1 - r) := by
                have := hLc.len; rw [List.length_take, frameOf_length] at this; show _ = _; omega
              have t1 : ((q : Int) == (nk : Int) - 1) = true := by simp; omega
              have hcut : nb < 8 + (Z j).length := by rw [hnb'.out, hjl]; omega
              rw [← hnb'.out] at hLc
              go_wp2_with fail
              refine (takeFrame_cut (Z j) nb Ac cc _ hcut (by omega) hnc hLc).mono ?_
              rintro e w5 ⟨rfl, hb5⟩
              have hb05 : Below w.heap.size w w5 := hbq.trans (hb5.mono hbq.size)
              go_wp2_with fail
              refine (knows_any _).mono ?_
              rintro e w6 ⟨rfl, hb6⟩
              have hb06 : Below w.heap.size w w6 := hb05.trans (hb6.mono hb05.size)
              go_wp2_with fail
              go_ret
              exact ⟨rfl, hb06⟩
            · have HR1 := Lib.hid (rem_step Z K K' j r q HJ.out (by rw [hKl.out]; omega) (by rw [hjl]; omega))
              rw [HR1.out] at hLc
              have hjq := HM.out (K[q]'hqK) (List.getElem_mem hqK)
              have hjql := HZ.out _ hjq.1
              obtain ⟨_, _, _, hLj⟩ := HR.out _ hjq.1
              have hxq : Hid ((K.map fun j => Value.slice (A j) (L j) (C j))[q]? = some (.slice (A (K[q]'hqK)) (L (K[q]'hqK)) (C (K[q]'hqK)))) := by
                show _ = _; rw [List.getElem?_map, List.getElem?_eq_getElem hqK]; rfl
              generalize K[q]'hqK = j0 at *
              have t1 : ((q : Int) == (nk : Int) - 1) = false := by simp; omega
              have hfb := frame_back (Z j0) (rem Z K r (q + 1)) (by omega)
              rw [hjql] at hfb
              have HFB := Lib.hid hfb
              clear hfb
              have hnb2 := hLc.len
              rw [List.length_append, frameOf_length, hjql] at hnb2
              have hn8 : 8 + L j0 ≤ nb := by omega
              clear hnb2
              go_wp2_with fail
              refine (takeFrame_yes Ac nb cc (L j0) _ _ hnc (by omega) hLc (by omega) HFB.out.1 (by omega) (by omega) HFB.out.2.1).mono ?_
              rintro e w5 ⟨A5, c5, A6, c6, rfl, hL5, ho6, hb5⟩
              rw [HFB.out.2.2.1] at hL5
              rw [HFB.out.2.2.2] at ho6
              have hb05 : Below w.heap.size w w5 := hbq.trans (hb5.mono hbq.size)
              have hok5 := own_next hokq hb5
              have hcl := hok5.cellAt q (by omega)
              rw [hxq.out] at hcl
              have hLj5 := hLj.next hb05
              have k1 : ∀ z, (convert 22 9 (.slice A5 (L j0) c5)).run Try.prog (w5.drewN z) = .ok (.string ⟨(Z j0).toArray⟩) (w5.drewN z) := fun z => run_str _ w5.heap.size 22 9 5 A5 _ c5 _ Try.underlying22 Try.underlying5 Try.underlying9 (hL5.drewN z)
              have k2 : ∀ z, (convert 22 9 (.slice (A j0) (L j0) (C j0))).run Try.prog (w5.drewN z) = .ok (.string ⟨(Z j0).toArray⟩) (w5.drewN z) := fun z => run_str _ w5.heap.size 22 9 5 (A j0) _ (C j0) _ Try.underlying22 Try.underlying5 Try.underlying9 (hLj5.drewN z)
              have h00 : ((0 : Int) != 0) = false := rfl
              clear hLc hokq hbq hb5 hL5 hLj5 hLj
              go_wp2_with fail
              go_quiet (fail)
              have hb05d := below_to_drewN hb05 nq
              have hok5d : (w5.drewN nq).ownsRow w.heap.size 22 1 (.slice (some ⟨gk, 0, none⟩) nk ck) nk (K.map fun j => .slice (A j) (L j) (C j)) := hok5
              have hL6 : Lies (w5.drewN nq) (w5.drewN nq).heap.size 1 A6 (nb - 8 - L j0) (bc (rem Z K r (q + 1))) := Lies.of_own ho6
              have hc6 := own_cap ho6
              clear k1 k2 hcl hok5 ho6 hb05
              generalize w5.drewN nq = w6 at *
              go_wp2_with fail
              go_roundw
              case rel => exact ⟨q + 1, nb - 8 - L j0, A6, c6, by omega, by go_num, rfl, hc6, by omega, hL6, hok5d, hb05d⟩
              case measure => simp [intOf]; omega
end Go.Proofs.Ytalggmdnefolfaa
