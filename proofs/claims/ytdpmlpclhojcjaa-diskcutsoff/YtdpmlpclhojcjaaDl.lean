import Derived.Test.YtdpmlpclhojcjaaDk
import Derived.Lib.SlBytesConst
/-
  A disk's variable in its box; the document's examples hold. No condition.
-/
namespace Go.Proofs.Ytdpmlpclhojcjaa
open Go.ChangeShapes Go.WideShapes Go.ChangeAt Go.RowKit
set_option linter.unusedVariables false

theorem goodOf_nil : goodOf [] = [] := rfl
def na : By := [97]
def ex1 : List Fl := [⟨na, [120, 121], 0⟩]
def ex2 : List Fl := [⟨na, [120, 121], 2⟩]
def ex3 : List Fl := [⟨na, [120, 121, 122, 119], 2⟩]
theorem ex_1 : putD (goodOf []) na [120, 121] = ex1 := by decide
theorem ex_2 : syncD (goodOf ex1) na = ex2 ∧ syncE (goodOf ex1) na = 0 := by decide
theorem ex_3 : putD (goodOf ex2) na [122, 119] = ex3 ∧ putE (goodOf ex2) na [122, 119] = 0 := by decide
theorem ex_g : Good ex1 ∧ Good ex2 ∧ Good ex3 := ⟨(goodB_iff _).1 (by decide), (goodB_iff _).1 (by decide), (goodB_iff _).1 (by decide)⟩
theorem ex_4 : getF (goodOf ex3) na = [120, 121, 122, 119] ∧ syncE (goodOf ex3) na = 0 := by decide
theorem ex_5 : getF (goodOf (crash (goodOf ex3) [1])) na = [120, 121, 122] ∧ syncE (goodOf (crash (goodOf ex3) [1])) na = 0 := by decide
theorem ex_6 : getF (goodOf (crash (goodOf ex3) [])) na = [120, 121] ∧ goodB ex3 = true ∧ (goodOf ex3).length = 1 := by decide
theorem mod_xs {ls : List Fe} {d : List Fl} (h : xs ls = d) (g : Good d) : Mod ls := mod_good (by rw [h]; exact g)
set_option maxHeartbeats 4000000 in
theorem knows_any (w : World) : Calls Try.prog 10 #[] w fun e w' => e = .returned (.bool true) ∧ Below w.heap.size w w' := by
  have N := Lib.hid (show (⟨#[97]⟩ : ByteArray).toList = na from str_of [97])
  have C1 := Lib.hid (fun (W : World) (b : Nat) (hb : b = W.heap.size) => (show Calls Try.prog 24 #[.agg #[.slice none 0 0], .string ⟨#[97]⟩, .slice (some ⟨b, 0, none⟩) 2 2] (W.alloc (.cells #[.int .u8 120, .int .u8 121] 5 (2, 3))) (DePost ex1 0 (W.alloc (.cells #[.int .u8 120, .int .u8 121] 5 (2, 3)))) by
    have h := dput_any none 0 [] (W.alloc (.cells #[.int .u8 120, .int .u8 121] 5 (2, 3))) (Fls.no _ _) ⟨by simp, fun e he => by cases he⟩ ⟨#[97]⟩ (by decide) (some ⟨b, 0, none⟩) 2 [120, 121] (by subst hb; exact lies_row W #[.int .u8 120, .int .u8 121] 5 (2, 3) 2 rfl _ (by simp)) (by decide) (by decide)
    rw [N.out, show xs [] = [] from rfl, ex_1] at h
    exact h))
  have C3 := Lib.hid (fun (W : World) (b : Nat) (hb : b = W.heap.size) (A : Option Addr) (c : Nat) (ls : List Fe) (hx : xs ls = ex2) (hL : Fls W W.heap.size A c ls) => (show Calls Try.prog 24 #[.agg #[.slice A ls.length c], .string ⟨#[97]⟩, .slice (some ⟨b, 0, none⟩) 2 2] (W.alloc (.cells #[.int .u8 122, .int .u8 119] 5 (2, 3))) (DePost ex3 0 (W.alloc (.cells #[.int .u8 122, .int .u8 119] 5 (2, 3)))) by
    have h := dput_any A c ls (W.alloc (.cells #[.int .u8 122, .int .u8 119] 5 (2, 3))) (hL.next (below_alloc _ _)) (mod_xs hx ex_g.2.1) ⟨#[97]⟩ (by decide) (some ⟨b, 0, none⟩) 2 [122, 119] (by subst hb; exact lies_row W #[.int .u8 122, .int .u8 119] 5 (2, 3) 2 rfl _ (by simp)) (by decide) (by decide)
    rw [N.out, hx, ex_3.1, ex_3.2] at h
    exact h))
  have C5 := Lib.hid (fun (W : World) (b : Nat) (hb : b = W.heap.size) (A : Option Addr) (c : Nat) (ls : List Fe) (hx : xs ls = ex3) (hL : Fls W W.heap.size A c ls) => (show Calls Try.prog 23 #[.agg #[.slice A ls.length c], .slice (some ⟨b, 0, none⟩) 1 1] (W.alloc (.cells #[.int .i64 1] 3)) (DkPost (crash (goodOf ex3) [1]) (W.alloc (.cells #[.int .i64 1] 3))) by
    have h := dcrash_any A c ls (W.alloc (.cells #[.int .i64 1] 3)) (hL.next (below_alloc _ _)) (mod_xs hx ex_g.2.2) (some ⟨b, 0, none⟩) 1 [1] (by subst hb; exact lies_row W #[.int .i64 1] 3 (0, 0) 1 rfl _ (by simp)) (by decide) (by decide)
    rw [hx] at h
    exact h))
  have C6 := Lib.hid (fun (W : World) (A : Option Addr) (c : Nat) (ls : List Fe) (hx : xs ls = ex3) (hL : Fls W W.heap.size A c ls) => (show Calls Try.prog 23 #[.agg #[.slice A ls.length c], .slice none 0 0] W (DkPost (crash (goodOf ex3) []) W) by
    have h := dcrash_any A c ls W hL (mod_xs hx ex_g.2.2) none 0 [] Lies.nil (by decide) (by decide)
    rw [hx] at h
    exact h))
  have CG := Lib.hid (fun (W : World) (A : Option Addr) (c : Nat) (ls : List Fe) (d : List Fl) (b : By) (n : Int) (hx : xs ls = d) (hd : getF (goodOf d) na = b ∧ syncE (goodOf d) na = n) (hm : Mod ls) (hL : Fls W W.heap.size A c ls) => (show Calls Try.prog 19 #[.agg #[.slice A ls.length c], .string ⟨#[97]⟩] W fun e w' => ∃ G gc, e = .returned (.tuple #[.slice G b.length gc, .int .i64 n]) ∧ Lies w' w'.heap.size 1 G b.length (bc b) ∧ Below W.heap.size W w' by
    refine (dget_any A c ls W hL hm ⟨#[97]⟩ (by decide)).mono ?_
    rintro e w' ⟨hb, G, gc, b', rfl, hb', hl⟩
    rw [N.out, hx, hd.1] at hb'
    rw [N.out, hx, hd.2]
    subst hb'
    exact ⟨G, gc, rfl, hl, hb⟩))
  have kc := fun (w : World) (C : Array Value) (n c : Nat) => Lib.run_convert_bytes_const (P := Try.prog) w 31 5 C n c Try.underlying31 Try.underlying5
  go_enter Try.func10, Try.ntmps10
  go_wp2_with fail
  refine (C1.out _ _ (by first | rfl | simp)).mono ?_
  rintro e w1 ⟨hb1, A1, c1, l1, rfl, hL1, hx1⟩
  have HX1 := Lib.hid hx1
  have HD1 := Lib.hid (Dx.new (below_then (below_alloc w (.cells #[.int .u8 120, .int .u8 121] 5 (2, 3))) hb1) hL1)
  clear hb1 hL1 hx1 C1
  go_upto_region 2 with fail
  generalize w1.alloc (.cells #[.slice A1 l1.length c1] 24) = w2 at HD1 ⊢
  generalize w1.heap.size = bx at HD1 ⊢
  have z0 := HD1.out.c0
  go_wp2_with fail
  refine (dsync_any A1 c1 l1 w2 HD1.out.L (mod_xs HX1.out ex_g.1) ⟨#[97]⟩ (by decide)).mono ?_
  rintro e w3 ⟨hb3, A3, c3, l3, rfl, hL3, hx3⟩
  rw [N.out, HX1.out, ex_2.1] at hx3
  rw [N.out, HX1.out, ex_2.2]
  have HX3 := Lib.hid hx3
  have z1 := (HD1.out.next hb3).c0
  have zf := (HD1.out.next hb3).fz
  have HD3 := Lib.hid ((HD1.out.next hb3).set hL3)
  clear hb3 hL3 hx3 z0 HD1 HX1
  go_upto_region 3 with fail
  generalize w3.setCell ⟨bx, 0, none⟩ (.slice A3 l3.length c3) = w4 at HD3 ⊢
  clear z1 zf
  have z0 := HD3.out.c0
  go_wp2_with fail
  refine (C3.out w4 _ (by first | rfl | simp) A3 c3 l3 HX3.out HD3.out.L).mono ?_
  rintro e w5 ⟨hb5, A5, c5, l5, rfl, hL5, hx5⟩
  have HX5 := Lib.hid hx5
  have HDN := Lib.hid (HD3.out.next (below_then (below_alloc w4 (.cells #[.int .u8 122, .int .u8 119] 5 (2, 3))) hb5))
  have z1 := HDN.out.c0
  have zf := HDN.out.fz
  have HD5 := Lib.hid (HDN.out.set hL5)
  clear hb5 hL5 hx5 z0 HDN HD3 HX3 C3
  go_upto_region 4 with fail
  generalize w5.setCell ⟨bx, 0, none⟩ (.slice A5 l5.length c5) = w6 at HD5 ⊢
  clear z1 zf
  have z0 := HD5.out.c0
  go_wp2_with fail
  refine (CG.out w6 A5 c5 l5 _ _ _ HX5.out ex_4 (mod_xs HX5.out ex_g.2.2) HD5.out.L).mono ?_
  rintro e w7 ⟨G7, g7, rfl, hl7, hb7⟩
  have HD7 := Lib.hid (HD5.out.next hb7)
  have HL7 := Lib.hid hl7
  clear z0 HD5 hb7 hl7
  go_upto_region 5 with fail
  have z0 := HD7.out.c0
  go_wp2_with fail
  refine (C5.out w7 _ (by first | rfl | simp) A5 c5 l5 HX5.out HD7.out.L).mono ?_
  rintro e w8 ⟨hb8, A8, c8, l8, rfl, hL8, hx8⟩
  have HD8 := Lib.hid (HD7.out.next (below_then (below_alloc w7 (.cells #[.int .i64 1] 3)) hb8))
  have HL78 := Lib.hid ((HL7.out.next (below_alloc w7 (.cells #[.int .i64 1] 3))).next hb8)
  have HX8 := Lib.hid hx8
  have HF8 := Lib.hid hL8
  clear z0 HD7 hb8 hL8 hx8 HL7 C5
  go_wp2_with fail
  refine (CG.out w8 A8 c8 l8 _ _ _ HX8.out ex_5 (mod_xs HX8.out ((goodOf_good ex3).crash _)) HF8.out).mono ?_
  rintro e w9 ⟨G9, g9, rfl, hl9, hb9⟩
  have HD9 := Lib.hid (HD8.out.next hb9)
  have HL79 := Lib.hid (HL78.out.next hb9)
  have HL9 := Lib.hid hl9
  clear HD8 HL78 HX8 HF8 hl9 hb9
  go_upto_region 6 with fail
  have z0 := HD9.out.c0
  go_wp2_with fail
  refine (C6.out w9 A5 c5 l5 HX5.out HD9.out.L).mono ?_
  rintro e w10 ⟨hb10, A10, c10, l10, rfl, hL10, hx10⟩
  have HD10 := Lib.hid (HD9.out.next hb10)
  have HL710 := Lib.hid (HL79.out.next hb10)
  have HL910 := Lib.hid (HL9.out.next hb10)
  have HX10 := Lib.hid hx10
  have HF10 := Lib.hid hL10
  clear z0 HD9 hb10 hL10 hx10 HL79 HL9 C6
  go_wp2_with fail
  refine (CG.out w10 A10 c10 l10 _ _ 0 HX10.out ⟨ex_6.1, by decide⟩ (mod_xs HX10.out ((goodOf_good ex3).crash _)) HF10.out).mono ?_
  rintro e w11 ⟨G11, g11, rfl, hl11, hb11⟩
  have HD11 := Lib.hid (HD10.out.next hb11)
  have K1 : (convert 31 9 (.slice G7 4 g7)).run Try.prog w11 = .ok (.string ⟨#[120, 121, 122, 119]⟩) w11 := run_str _ _ 31 9 5 G7 4 g7 [120, 121, 122, 119] Try.underlying31 Try.underlying5 Try.underlying9 (HL710.out.next hb11)
  have K2 : (convert 31 9 (.slice G9 3 g9)).run Try.prog w11 = .ok (.string ⟨#[120, 121, 122]⟩) w11 := run_str _ _ 31 9 5 G9 3 g9 [120, 121, 122] Try.underlying31 Try.underlying5 Try.underlying9 (HL910.out.next hb11)
  have K3 : (convert 31 9 (.slice G11 2 g11)).run Try.prog w11 = .ok (.string ⟨#[120, 121]⟩) w11 := run_str _ _ 31 9 5 G11 2 g11 [120, 121] Try.underlying31 Try.underlying5 Try.underlying9 hl11
  clear HD10 HL710 HL910 HX10 HF10 hl11 hb11 CG
  have z0 := HD11.out.c0
  go_wp2_with fail
  refine (dright_any A5 c5 l5 w11 HD11.out.L (mod_xs HX5.out ex_g.2.2)).mono ?_
  rintro e w12 ⟨rfl, hb12⟩
  rw [HX5.out, ex_6.2.1]
  have HD12 := Lib.hid (HD11.out.next hb12)
  clear HD11 hb12 z0 K1 K2 K3
  have z0 := HD12.out.c0
  go_wp2_with fail
  refine (dnames_any A5 c5 l5 w12 HD12.out.L (mod_xs HX5.out ex_g.2.2)).mono ?_
  rintro e w13 ⟨hb13, G13, g13, ns, rfl, hns, _⟩
  have hn1 : ns.length = 1 := by have := congrArg List.length hns; rw [List.length_map, List.length_map, HX5.out, ex_6.2.2] at this; exact this
  have HD13 := Lib.hid (HD12.out.next hb13)
  rw [hn1]
  clear HD12 hb13 z0 hns hn1
  go_wp2_with fail
  go_ret
  exact ⟨rfl, HD13.out.bl⟩
end Go.Proofs.Ytdpmlpclhojcjaa
