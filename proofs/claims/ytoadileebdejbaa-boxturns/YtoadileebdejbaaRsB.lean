/-
  The contract of the document's own Join. No condition but that the messages are not too many.
-/
import Derived.Test.YtoadileebdejbaaRsA
namespace Go.Proofs.Ytoadileebdejbaa
open Go.RowKit Go.Sort
set_option linter.unusedVariables false

def JnRel (ls : List Ls) (w : World) (o i : Value) (W : World) : Prop := ∃ (k : Nat) (A2 : Option Addr) (c2 : Nat), i = .int .i64 k ∧ k ≤ ls.length ∧ o = .slice A2 (lcat (ls.take k)).length c2 ∧ Hid (W.ownsRow w.heap.size 40 2 (.slice A2 (lcat (ls.take k)).length c2) (lcat (ls.take k)).length (mc (lcat (ls.take k)))) ∧ Hid (Below w.heap.size w W)

set_option maxHeartbeats 1000000 in
theorem rjoin_any (A : Option Addr) (n c : Nat) (ls : List Ls) (w : World) (hA : LL w w.heap.size A n ls) (hn : n ≤ 1000000) (hs : (lcat ls).length ≤ 1000000) :
    Calls Try.prog 17 #[.slice A n c] w (MsPost (msort (lcat ls)) w) := by
  obtain rfl := hA.len
  obtain ⟨i0, hi0, hz0, hzs, hzb⟩ := info_parts (show (Try.prog.info? 40).map (fun i => (i.zero, i.size, i.bytes)) = some (some (.agg #[.int .i64 0, .int .i64 0]), 2, 16) by kernel_rfl)
  have HI0 := Lib.hid hi0
  have HZ0 := Lib.hid hz0
  have HZS := Lib.hid hzs
  have HZB := Lib.hid hzb
  have HA := Lib.hid hA
  clear hi0 hz0 hzs hzb hA
  go_enter Try.func17, Try.ntmps17
  go_wp2_with fail
  go_loopw [3, 4] (fun o i W => JnRel ls w o i W) (fun o i W => ls.length - (intOf i).toNat)
  case atStart => exact ⟨0, none, 0, rfl, Nat.zero_le _, rfl, World.ownsRow_nil _ _ _ _, Below.refl _ _⟩
  case round =>
    obtain ⟨k, A2, c2, rfl, hk, rfl, HO, HB⟩ := hrel
    by_cases hlt : k < ls.length
    · obtain ⟨ad, rfl, hadb, e0, hl⟩ := (HA.out.below HB.out).at k hlt
      have h1 := lcat_le ls (k + 1)
      have h2 := lcat_take ls k hlt
      have h3 := hl.ms_len
      have HL := Lib.hid hl
      have HE := Lib.hid (show (lcat (ls.take k)).length + (lAt ls k).2.1 = (lcat (ls.take (k + 1))).length by rw [h2, List.length_append, h3])
      have HC := Lib.hid (show mc (lcat (ls.take k)) ++ mc (lAt ls k).2.2.2 = mc (lcat (ls.take (k + 1))) by rw [h2, mc_append])
      have HN := Lib.hid (show (lcat (ls.take (k + 1))).length ≤ 1000000 by omega)
      have hz := HB.out.size
      have hkl : (k : Int) < (ls.length : Int) := by omega
      clear h1 h2 h3 hl
      go_wp2_with (at_builtin; go_must (refine wpList_app _ rfl (.tmp 11) (.tmp 15) 22 rfl w.heap.size 40 i0 _ 2 16 Try.underlying22 HI0.out HZ0.out HZS.out HZB.out rfl (by decide) A2 (lcat (ls.take k)).length c2 (mc (lcat (ls.take k))) rfl HO.out w.heap.size (lAt ls k).1 (lAt ls k).2.1 (lAt ls k).2.2.1 (mc (lAt ls k).2.2.2) rfl HL.out (mc_one _) (lcat (ls.take (k + 1))).length (mc (lcat (ls.take (k + 1)))) HE.out HC.out (by have := HN.out; unfold maxLen; omega) (by have := HN.out; omega) (by omega) ?_))
      intro A4 c4 w4 ho4 hb4
      have HO4 := Lib.hid ho4
      have HB4 := Lib.hid (HB.out.trans hb4)
      clear ho4 hb4
      go_wp2_with fail
      go_roundw
      case rel => exact ⟨k + 1, A4, c4, by go_num, by omega, rfl, HO4, HB4⟩
      case measure => simp [intOf]; omega
    · have hk' : k = ls.length := by omega
      subst hk'
      rw [List.take_length] at HO ⊢
      have HL := Lib.hid (Lies.of_own HO.out)
      go_wp2_with fail
      refine (rsort_any A2 _ c2 (lcat ls) _ HL.out hs).mono ?_
      rintro e w5 h5
      obtain ⟨A5, c5, rfl, ho5, hb5⟩ := h5.up HB.out
      have HO5 := Lib.hid ho5
      have HB5 := Lib.hid hb5
      clear h5 ho5 hb5
      go_wp2_with fail
      go_ret
      exact ⟨A5, c5, rfl, HO5.out, HB5.out⟩

end Go.Proofs.Ytoadileebdejbaa
