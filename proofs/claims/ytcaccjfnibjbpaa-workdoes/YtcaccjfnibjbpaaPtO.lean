import Derived.Test.YtcaccjfnibjbpaaPtA
/-
  Lists of messages in memory; the contract of the document's own Join of them (chapter 5). No condition but that the messages are not too many.
-/
namespace Go.Proofs.Ytcaccjfnibjbpaa
open Go.RowKit Go.Sort
set_option linter.unusedVariables false

/-- A list of messages, and where it lies. -/
structure Le where
  A : Option Addr
  c : Nat
  ms : List Ms
def lcl (ls : List Le) : List Value := ls.map fun e => .slice e.A e.ms.length e.c
theorem lcl_at (ls : List Le) (k : Nat) (h : k < ls.length) : (lcl ls)[k]? = some (.slice ls[k].A ls[k].ms.length ls[k].c) := by unfold lcl; simp [List.getElem?_eq_getElem h]
def lcatl (ls : List Le) : List Ms := ls.flatMap Le.ms
theorem lcatl_take (ls : List Le) (k : Nat) (h : k < ls.length) : lcatl (ls.take (k + 1)) = lcatl (ls.take k) ++ ls[k].ms := by
  unfold lcatl; rw [List.take_succ_eq_append_getElem h, List.flatMap_append]; simp
theorem lcatl_le (ls : List Le) (k : Nat) : (lcatl (ls.take k)).length ≤ (lcatl ls).length := by
  have : lcatl ls = lcatl (ls.take k) ++ lcatl (ls.drop k) := by unfold lcatl; rw [← List.flatMap_append, List.take_append_drop]
  rw [this, List.length_append]; omega
/-- A list of lists lies in memory. -/
structure Lls (w : World) (B : Nat) (A : Option Addr) (c : Nat) (ls : List Le) : Prop where
  L : Lies w B 1 A ls.length (lcl ls)
  cc : ls.length ≤ c
  el : ∀ e ∈ ls, Lies w B 2 e.A e.ms.length (mc e.ms)
theorem Lls.next {w w' : World} {A : Option Addr} {c : Nat} {ls : List Le} (h : Lls w w.heap.size A c ls) (hb : Below w.heap.size w w') : Lls w' w'.heap.size A c ls :=
  ⟨h.L.next hb, h.cc, fun e he => (h.el e he).next hb⟩
def JmRel (ls : List Le) (w : World) (o i : Value) (W : World) : Prop := ∃ (k : Nat) (A2 : Option Addr) (c2 : Nat), i = .int .i64 k ∧ k ≤ ls.length ∧ o = .slice A2 (lcatl (ls.take k)).length c2 ∧ Hid (W.ownsRow w.heap.size 59 2 (.slice A2 (lcatl (ls.take k)).length c2) (lcatl (ls.take k)).length (mc (lcatl (ls.take k)))) ∧ Hid (Below w.heap.size w W)
set_option maxHeartbeats 1000000 in
theorem mjoin_any (A : Option Addr) (c : Nat) (ls : List Le) (w : World) (hA : Lls w w.heap.size A c ls) (hn : ls.length ≤ 1000) (hs : (lcatl ls).length ≤ 1000000) :
    Calls Try.prog 43 #[.slice A ls.length c] w (MlPost (msort (lcatl ls)) w) := by
  obtain ⟨i0, hi0, hz0, hzs, hzb⟩ := info_parts (show (Try.prog.info? 59).map (fun i => (i.zero, i.size, i.bytes)) = some (some (.agg #[.int .i64 0, .int .i64 0]), 2, 16) by kernel_rfl)
  have HI0 := Lib.hid hi0
  have HZ0 := Lib.hid hz0
  have HZS := Lib.hid hzs
  have HZB := Lib.hid hzb
  have HA := Lib.hid hA
  clear hi0 hz0 hzs hzb hA
  go_enter Try.func43, Try.ntmps43
  go_wp2_with fail
  go_loopw [3, 4] (fun o i W => JmRel ls w o i W) (fun o i W => ls.length - (intOf i).toNat)
  case atStart => exact ⟨0, none, 0, rfl, Nat.zero_le _, rfl, Lib.hid (World.ownsRow_nil _ _ _ _), Lib.hid (Below.refl _ _)⟩
  case round =>
    obtain ⟨k, A2, c2, rfl, hk, rfl, HO, HB⟩ := hrel
    by_cases hlt : k < ls.length
    · have HAW := Lib.hid (HA.out.next HB.out)
      obtain ⟨ad, rfl, hadb, e0⟩ := HAW.out.L.2 k _ (lcl_at ls k hlt)
      have hl := HAW.out.el _ (List.getElem_mem hlt)
      have h1 := lcatl_le ls (k + 1)
      have h2 := lcatl_take ls k hlt
      have HL := Lib.hid hl
      generalize ls[k].A = X at *
      generalize ls[k].c = xc at *
      generalize ls[k].ms = xm at *
      have HE := Lib.hid (show (lcatl (ls.take k)).length + xm.length = (lcatl (ls.take (k + 1))).length by rw [h2, List.length_append])
      have HC := Lib.hid (show mc (lcatl (ls.take k)) ++ mc xm = mc (lcatl (ls.take (k + 1))) by rw [h2, mc_append])
      have HN := Lib.hid (show (lcatl (ls.take (k + 1))).length ≤ 1000000 by omega)
      have hkl : (k : Int) < (ls.length : Int) := by omega
      clear h1 h2 hl HAW hadb
      go_wp2_with (at_builtin; go_must (refine wpList_app2 _ rfl (.tmp 11) (.tmp 15) 29 rfl w.heap.size 59 i0 _ 2 16 Try.underlying29 HI0.out HZ0.out HZS.out HZB.out rfl (by decide) A2 (lcatl (ls.take k)).length c2 (mc (lcatl (ls.take k))) rfl HO.out wr.heap.size X xm.length xc (mc xm) rfl HL.out (mc_one _) (lcatl (ls.take (k + 1))).length (mc (lcatl (ls.take (k + 1)))) HE.out HC.out (by have := HN.out; unfold maxLen; omega) (by have := HN.out; omega) HB.out.size ?_))
      intro A4 c4 w4 ho4 hb4 hg4
      have HO4 := Lib.hid ho4
      have HB4 := Lib.hid (HB.out.trans hb4)
      clear ho4 hb4 hg4
      go_wp2_with fail
      go_roundw
      case rel => exact ⟨k + 1, A4, c4, by go_num, by omega, rfl, HO4, HB4⟩
      case measure => simp [intOf]; omega
    · have hk' : k = ls.length := by omega
      subst hk'
      rw [List.take_length] at HO ⊢
      have HL := Lib.hid (Lies.of_own HO.out)
      go_wp2_with fail
      refine (rsort_any A2 _ c2 (lcatl ls) _ HL.out hs).mono ?_
      rintro e w5 ⟨A5, c5, rfl, ho5, hb5⟩
      have HO5 := Lib.hid (ho5.lower HB.out.size)
      have HB5 := Lib.hid (HB.out.trans (hb5.mono HB.out.size))
      clear ho5 hb5
      go_wp2_with fail
      go_ret
      exact ⟨A5, c5, rfl, HO5.out, HB5.out⟩
end Go.Proofs.Ytcaccjfnibjbpaa

