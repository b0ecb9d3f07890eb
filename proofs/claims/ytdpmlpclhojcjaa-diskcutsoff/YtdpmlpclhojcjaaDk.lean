import Derived.Test.YtdpmlpclhojcjaaEk
/-
  The contracts of the program's Right, Get, Names, Put, Sync, Cut, Drop and Crash. No condition but that there are not too many files and bytes.
-/
namespace Go.Proofs.Ytdpmlpclhojcjaa
open Go.ChangeShapes Go.WideShapes Go.ChangeAt Go.RowKit
set_option linter.unusedVariables false

section
variable (A : Option Addr) (c : Nat) (ls : List Fe) (w : World) (hA : Fls w w.heap.size A c ls) (hm : Mod ls)
include hA hm
theorem dright_any : Calls Try.prog 12 #[.agg #[.slice A ls.length c]] w fun e w' => e = .returned (.bool (goodB (xs ls))) ∧ Below w.heap.size w w' := pright_any A c ls w hA.L hm
theorem dgetc_any (s : ByteArray) (hs : s.size ≤ 100000) : Calls Try.prog 19 #[.agg #[.slice A ls.length c], .string s] w fun e w' => Below w.heap.size w w' ∧ ∃ G gc b, e = .returned (.tuple #[.slice G b.length gc, .int .i64 (syncE (goodOf (xs ls)) s.toList)]) ∧ b = getF (goodOf (xs ls)) s.toList ∧ Lies w' w'.heap.size 1 G b.length (bc b) ∧ b.length ≤ gc := pget_any A c ls w hA hm s
theorem dget_any (s : ByteArray) (hs : s.size ≤ 100000) : Calls Try.prog 19 #[.agg #[.slice A ls.length c], .string s] w fun e w' => Below w.heap.size w w' ∧ ∃ G gc b, e = .returned (.tuple #[.slice G b.length gc, .int .i64 (syncE (goodOf (xs ls)) s.toList)]) ∧ b = getF (goodOf (xs ls)) s.toList ∧ Lies w' w'.heap.size 1 G b.length (bc b) := by
  refine (pget_any A c ls w hA hm s).mono ?_
  rintro e w' ⟨hb, G, gc, b, he, h1, h2, _⟩
  exact ⟨hb, G, gc, b, he, h1, h2⟩
theorem dnames_any : Calls Try.prog 22 #[.agg #[.slice A ls.length c]] w fun e w' => Below w.heap.size w w' ∧ ∃ G gc, ∃ ns : List ByteArray, e = .returned (.slice G ns.length gc) ∧ ns.map ByteArray.toList = (goodOf (xs ls)).map Fl.name ∧ Lies w' w'.heap.size 1 G ns.length (ns.map Value.string) := pnames_any A c ls w hA hm
theorem dcrash_any (KA : Option Addr) (kc : Nat) (l : List Int) (hK : Lies w w.heap.size 1 KA l.length (vc l)) (hl : l.length ≤ 100000) (hb : ∀ x ∈ l, -9223372036854775808 ≤ x ∧ x ≤ 9223372036854775807) : Calls Try.prog 23 #[.agg #[.slice A ls.length c], .slice KA l.length kc] w (DkPost (crash (goodOf (xs ls)) l) w) := pcrash_any A c ls w hA hm KA kc l hK hl hb
theorem dput_any (s : ByteArray) (hs : s.size ≤ 100000) (BA : Option Addr) (bcap : Nat) (b : List UInt8) (hB : Lies w w.heap.size 1 BA b.length (bc b)) (hb : b.length ≤ 100000) (hc : b.length ≤ bcap) : Calls Try.prog 24 #[.agg #[.slice A ls.length c], .string s, .slice BA b.length bcap] w (DePost (putD (goodOf (xs ls)) s.toList b) (putE (goodOf (xs ls)) s.toList b) w) := pput_any A c ls w hA hm s hs BA bcap b hB hb
theorem dsync_any (s : ByteArray) (hs : s.size ≤ 100000) : Calls Try.prog 27 #[.agg #[.slice A ls.length c], .string s] w (DePost (syncD (goodOf (xs ls)) s.toList) (syncE (goodOf (xs ls)) s.toList) w) := psync_any A c ls w hA hm s
theorem dcut_any (s : ByteArray) (hs : s.size ≤ 100000) (n : Int) (n1 : -9223372036854775808 ≤ n) (n2 : n ≤ 9223372036854775807) : Calls Try.prog 25 #[.agg #[.slice A ls.length c], .string s, .int .i64 n] w (DePost (cutD (goodOf (xs ls)) s.toList n) (cutE (goodOf (xs ls)) s.toList n) w) := pcut_any A c ls w hA hm s n n1 n2
theorem ddrop_any (s : ByteArray) (hs : s.size ≤ 100000) : Calls Try.prog 26 #[.agg #[.slice A ls.length c], .string s] w (DePost (dropF (goodOf (xs ls)) s.toList) (dropE (goodOf (xs ls)) s.toList) w) := pdrop_any A c ls w hA hm s
end
end Go.Proofs.Ytdpmlpclhojcjaa
