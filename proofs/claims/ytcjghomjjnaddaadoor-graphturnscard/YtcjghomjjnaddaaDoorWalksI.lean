/-
  Contracts of readHead and edgeNumbers. Condition: at most 4000 bytes.
-/
import Derived.Test.YtcjghomjjnaddaaDoorWalksH
namespace Go.Proofs.YtcjghomjjnaddaaDoor
open Go.RowKit
set_option linter.unusedVariables false

def graphW : List UInt8 := [103, 114, 97, 112, 104, 32]
def edgeW : List UInt8 := [101, 100, 103, 101, 32]

/-- The first line: N and the error. -/
def readH (l : List UInt8) : Int × Int :=
  if Lib.hasPrefix l graphW then
    if numOk (Lib.trimPrefix l graphW) then
      if numV (Lib.trimPrefix l graphW) < 1 ∨ 24 < numV (Lib.trimPrefix l graphW) then (0, 1) else (numV (Lib.trimPrefix l graphW), 0)
    else (0, 2)
  else (0, 2)

theorem trim_len (l p : List UInt8) : (Lib.trimPrefix l p).length ≤ l.length := by unfold Lib.trimPrefix; split <;> simp

theorem retG {a b : Int} {x y : Int} {v : Value} (h : a = b) (g : x = y) : Ending.returned (.tuple #[.agg #[.int .i64 a, v], .int .i64 x]) = .returned (.tuple #[.agg #[.int .i64 b, v], .int .i64 y]) := by rw [h, g]

set_option maxHeartbeats 1000000 in
theorem readHead_any (s : ByteArray) (w : World) (hs : s.size ≤ 4000) :
    Calls Tryd.prog 27 #[.string s] w fun e w' => e = .returned (.tuple #[.agg #[.int .i64 (readH s.data.toList).1, .slice none 0 0], .int .i64 (readH s.data.toList).2]) ∧ Below w.heap.size w w' := by
  have HR : Hid (readH s.data.toList = _) := Lib.hid (by unfold readH; rfl)
  obtain ⟨d, hd⟩ : ∃ d : ByteArray, d = ⟨(Lib.trimPrefix s.data.toList graphW).toArray⟩ := ⟨_, rfl⟩
  have hdl : d.data.toList = Lib.trimPrefix s.data.toList graphW := by rw [hd]
  have hdz : d.size ≤ 4000 := by
    have := trim_len s.data.toList graphW
    rw [Lib.size_eq, hdl]
    rw [Lib.size_eq] at hs
    omega
  have HP : Hid (∀ W : World, Calls Tryd.prog 35 #[.string s, .string ⟨#[103, 114, 97, 112, 104, 32]⟩] W fun e w' => e = .returned (.tuple #[.string d, .bool (Lib.hasPrefix s.data.toList graphW)]) ∧ W = w') := Lib.hid (fun W => by
    refine (prefix_any s ⟨#[103, 114, 97, 112, 104, 32]⟩ W).mono ?_
    rintro e w' ⟨rfl, rfl⟩
    exact ⟨by rw [hd]; rfl, rfl⟩)
  rw [← hdl] at HR
  clear hd
  have HDL := Lib.hid hdl
  clear hdl
  rcases hp : Lib.hasPrefix s.data.toList graphW with _ | _
  · rw [hp] at HR HP
    have H1 := Lib.hid (show readH s.data.toList = (0, 2) from HR.out)
    clear hp HR
    go_enter Tryd.func27, Tryd.ntmps27
    go_wp2_with fail
    refine (HP.out _).mono ?_
    rintro e w' ⟨rfl, rfl⟩
    go_wp2_with fail
    exact bodyPost_ret (v := .tuple #[.agg #[.int .i64 0, .slice none 0 0], .int .i64 2]) (by simp [results, Tryd.results27, go_sem]) rfl ⟨by rw [H1.out], below_alloc _ _⟩
  · rw [hp] at HR HP
    clear hp
    rcases hn : numOk d.data.toList with _ | _
    · rw [hn] at HR
      have H1 := Lib.hid (show readH s.data.toList = (0, 2) from HR.out)
      have HN := Lib.hid hn
      clear HR hn
      go_enter Tryd.func27, Tryd.ntmps27
      go_wp2_with fail
      refine (HP.out _).mono ?_
      rintro e w' ⟨rfl, rfl⟩
      go_wp2_with fail
      refine (number_any d _ hdz).mono ?_
      rintro e w' ⟨rfl, rfl⟩
      rw [HN.out]
      go_wp2_with fail
      exact bodyPost_ret (v := .tuple #[.agg #[.int .i64 0, .slice none 0 0], .int .i64 2]) (by simp [results, Tryd.results27, go_sem]) rfl ⟨by rw [H1.out], below_alloc _ _⟩
    · rw [hn] at HR
      have HN := Lib.hid hn
      clear hn
      by_cases hv : numV d.data.toList < 1 ∨ 24 < numV d.data.toList
      · have H1 := Lib.hid (show readH s.data.toList = (0, 1) by rw [HR.out, if_pos rfl, if_pos rfl, if_pos hv])
        clear HR
        by_cases hv1 : numV d.data.toList < 1
        · clear hv
          go_enter Tryd.func27, Tryd.ntmps27
          go_wp2_with fail
          refine (HP.out _).mono ?_
          rintro e w' ⟨rfl, rfl⟩
          go_wp2_with fail
          refine (number_any d _ hdz).mono ?_
          rintro e w' ⟨rfl, rfl⟩
          rw [HN.out]
          go_wp2_with fail
          exact bodyPost_ret (v := .tuple #[.agg #[.int .i64 0, .slice none 0 0], .int .i64 1]) (by simp [results, Tryd.results27, go_sem]) rfl ⟨by rw [H1.out], below_alloc _ _⟩
        · have hv2 : 24 < numV d.data.toList := by omega
          clear hv
          go_enter Tryd.func27, Tryd.ntmps27
          go_wp2_with fail
          refine (HP.out _).mono ?_
          rintro e w' ⟨rfl, rfl⟩
          go_wp2_with fail
          refine (number_any d _ hdz).mono ?_
          rintro e w' ⟨rfl, rfl⟩
          rw [HN.out]
          go_wp2_with fail
          exact bodyPost_ret (v := .tuple #[.agg #[.int .i64 0, .slice none 0 0], .int .i64 1]) (by simp [results, Tryd.results27, go_sem]) rfl ⟨by rw [H1.out], below_alloc _ _⟩
      · have H1 := Lib.hid (show readH s.data.toList = (numV d.data.toList, 0) by rw [HR.out, if_pos rfl, if_pos rfl, if_neg hv])
        obtain ⟨hv1, hv2⟩ : ¬ numV d.data.toList < 1 ∧ ¬ 24 < numV d.data.toList := by omega
        clear HR hv
        go_enter Tryd.func27, Tryd.ntmps27
        go_wp2_with fail
        refine (HP.out _).mono ?_
        rintro e w' ⟨rfl, rfl⟩
        go_wp2_with fail
        refine (number_any d _ hdz).mono ?_
        rintro e w' ⟨rfl, rfl⟩
        rw [HN.out]
        go_wp2_with fail
        exact bodyPost_ret (v := .tuple #[.agg #[.int .i64 (numV d.data.toList), .slice none 0 0], .int .i64 0]) (by simp [results, Tryd.results27, go_sem]) rfl ⟨by rw [H1.out], below_alloc _ _⟩
theorem splitK_len (sep : List UInt8) : ∀ (k : Nat) (l x : List UInt8), x ∈ Lib.splitK sep 0 k l → x.length ≤ l.length
  | 0, l, x, h => by simp [Lib.splitK] at h; subst h; exact Nat.le_refl _
  | k + 1, l, x, h => by
    unfold Lib.splitK at h
    split at h
    · simp at h; subst h; exact Nat.le_refl _
    · rcases List.mem_cons.1 h with rfl | h
      · simp; omega
      · have := splitK_len sep k _ x h
        simp at this
        omega
theorem words_len (l x : List UInt8) (h : x ∈ words l) : x.length ≤ l.length := splitK_len _ _ _ _ h

/-- The three numbers of a list of words. -/
def threeNums : List (List UInt8) → Option Ed
  | [a, b, c] => if numOk a && numOk b && numOk c then some (numV a, numV b, numV c) else none
  | _ => none
theorem three_eq (a b c : List UInt8) : threeNums [a, b, c] = if numOk a && numOk b && numOk c then some (numV a, numV b, numV c) else none := rfl
/-- The edge of a line. -/
def edgeNums (l : List UInt8) : Option Ed := if Lib.hasPrefix l edgeW then threeNums (words (Lib.trimPrefix l edgeW)) else none

def enW (w : World) (a b c : ByteArray) (x y z : Int) : World :=
  ((w.alloc (.cells #[.int .i64 0, .int .i64 0, .int .i64 0] 70)).alloc (.cells #[.int .i64 x, .int .i64 y, .int .i64 z] 70)).alloc (.cells #[.string a, .string b, .string c] 9)

def EnRel (w : World) (a b c : ByteArray) (i : Value) (W : World) : Prop :=
  (i = .int .i64 0 ∧ W = enW w a b c 0 0 0) ∨
  (i = .int .i64 1 ∧ numOk a.data.toList = true ∧ W = enW w a b c (numV a.data.toList) 0 0) ∨
  (i = .int .i64 2 ∧ numOk a.data.toList = true ∧ numOk b.data.toList = true ∧ W = enW w a b c (numV a.data.toList) (numV b.data.toList) 0) ∨
  (i = .int .i64 3 ∧ numOk a.data.toList = true ∧ numOk b.data.toList = true ∧ numOk c.data.toList = true ∧ W = enW w a b c (numV a.data.toList) (numV b.data.toList) (numV c.data.toList))

theorem enW_below (w : World) (a b c : ByteArray) (x y z : Int) : Below w.heap.size w (enW w a b c x y z) :=
  (((Below.refl _ _).alloc (Nat.le_refl _) _).alloc (by simp) _).alloc (by simp; omega) _

theorem en_fin (w : World) (a b c : ByteArray) (r x y : Array Value) (z : Array Value) (t1 t2 : TypeId) : Below w.heap.size w (((w.alloc (.cells r t1)).alloc (.cells x t1)).alloc (.cells z t2)) :=
  (((Below.refl _ _).alloc (Nat.le_refl _) _).alloc (by simp) _).alloc (by simp; omega) _

def EnPost (r : Option Ed) (w : World) (e : Ending) (w' : World) : Prop :=
  Below w.heap.size w w' ∧ ((∃ x y z : Int, r = some (x, y, z) ∧ e = .returned (.tuple #[.agg #[.int .i64 x, .int .i64 y, .int .i64 z], .bool true])) ∨ (∃ x y z : Int, r = none ∧ e = .returned (.tuple #[.agg #[.int .i64 x, .int .i64 y, .int .i64 z], .bool false])))

set_option maxHeartbeats 1000000 in
set_option maxRecDepth 100000 in
theorem edgeNumbers_any (s : ByteArray) (w : World) (hs : s.size ≤ 4000) : Calls Tryd.prog 37 #[.string s] w (EnPost (edgeNums s.data.toList) w) := by
  have HR : Hid (edgeNums s.data.toList = _) := Lib.hid (by unfold edgeNums; rfl)
  obtain ⟨d, hd⟩ : ∃ d : ByteArray, d = ⟨(Lib.trimPrefix s.data.toList edgeW).toArray⟩ := ⟨_, rfl⟩
  have hdl : d.data.toList = Lib.trimPrefix s.data.toList edgeW := by rw [hd]
  have hdz : d.size ≤ 4000 := by
    have := trim_len s.data.toList edgeW
    rw [Lib.size_eq, hdl]
    rw [Lib.size_eq] at hs
    omega
  have HP : Hid (∀ W : World, Calls Tryd.prog 35 #[.string s, .string ⟨#[101, 100, 103, 101, 32]⟩] W fun e w' => e = .returned (.tuple #[.string d, .bool (Lib.hasPrefix s.data.toList edgeW)]) ∧ W = w') := Lib.hid (fun W => by
    refine (prefix_any s ⟨#[101, 100, 103, 101, 32]⟩ W).mono ?_
    rintro e w' ⟨rfl, rfl⟩
    exact ⟨by rw [hd]; rfl, rfl⟩)
  rw [← hdl] at HR
  clear hd hdl
  rcases hp : Lib.hasPrefix s.data.toList edgeW with _ | _
  · rw [hp] at HR HP
    have H1 := Lib.hid (show edgeNums s.data.toList = none from HR.out)
    clear hp HR
    go_enter Tryd.func37, Tryd.ntmps37
    go_wp2_with fail
    refine (HP.out _).mono ?_
    rintro e w' ⟨rfl, rfl⟩
    go_wp2_with fail
    exact bodyPost_ret (v := .tuple #[.agg #[.int .i64 0, .int .i64 0, .int .i64 0], .bool false]) (by simp [results, Tryd.results37, go_sem]) rfl ⟨((Below.refl _ _).alloc (Nat.le_refl _) _).alloc (by simp) _, .inr ⟨0, 0, 0, H1.out, rfl⟩⟩
  · rw [hp] at HR HP
    clear hp
    have H1 := Lib.hid (show edgeNums s.data.toList = threeNums (words d.data.toList) from HR.out)
    clear HR
    go_enter Tryd.func37, Tryd.ntmps37
    go_wp2_with fail
    refine (HP.out _).mono ?_
    rintro e w' ⟨rfl, rfl⟩
    go_wp2_with fail
    refine (split_sp d _ hdz).mono ?_
    rintro e w' ⟨ws, rfl, hws, rfl⟩
    by_cases h3 : ws.length = 3
    · obtain ⟨a, b, c, rfl⟩ : ∃ a b c, ws = [a, b, c] := by
        match ws, h3 with
        | [a, b, c], _ => exact ⟨a, b, c, rfl⟩
      have H2 := Lib.hid (show edgeNums s.data.toList = threeNums [a.data.toList, b.data.toList, c.data.toList] by rw [H1.out, ← hws]; rfl)
      have sz : a.size ≤ 4000 ∧ b.size ≤ 4000 ∧ c.size ≤ 4000 := by
        have m : ∀ x : ByteArray, x ∈ [a, b, c] → x.size ≤ 4000 := fun x hx => by
          have h1 := words_len d.data.toList x.data.toList (by rw [← hws]; exact List.mem_map_of_mem hx)
          rw [← Lib.size_eq, ← Lib.size_eq] at h1
          omega
        exact ⟨m a (by simp), m b (by simp), m c (by simp)⟩
      obtain ⟨za, zb, zc⟩ := sz
      clear hws h3
      go_wp2_with fail
      go_loopw [26] (fun i W => EnRel w a b c i W) (fun i W => 3 - (intOf i).toNat)
      case atStart => exact .inl ⟨rfl, rfl⟩
      case round =>
        rcases hrel with ⟨rfl, rfl⟩ | ⟨rfl, ha, rfl⟩ | ⟨rfl, ha, hb, rfl⟩ | ⟨rfl, ha, hb, hc, rfl⟩
        · unfold enW
          rcases hn : numOk a.data.toList with _ | _
          · have HN := Lib.hid hn
            have HZ := Lib.hid (show edgeNums s.data.toList = none by rw [H2.out]; rw [three_eq, hn]; rfl)
            clear hn
            go_wp2_with fail
            refine (number_any a _ za).mono ?_
            rintro e w' ⟨rfl, rfl⟩
            rw [HN.out]
            go_wp2_with fail
            exact bodyPost_ret (v := .tuple #[.agg #[.int .i64 (numV a.data.toList), .int .i64 0, .int .i64 0], .bool false]) (by simp [results, Tryd.results37, go_sem]) rfl ⟨en_fin w a b c _ _ #[] _ _ _, .inr ⟨_, _, _, HZ.out, rfl⟩⟩
          · have HN := Lib.hid hn
            clear hn
            go_wp2_with fail
            refine (number_any a _ za).mono ?_
            rintro e w' ⟨rfl, rfl⟩
            rw [HN.out]
            go_wp2_with fail
            go_roundw
            case rel => exact .inr (.inl ⟨rfl, HN.out, rfl⟩)
            case measure => simp [intOf]
        · unfold enW
          have HNa := Lib.hid ha
          clear ha
          rcases hn : numOk b.data.toList with _ | _
          · have HN := Lib.hid hn
            have HZ := Lib.hid (show edgeNums s.data.toList = none by rw [H2.out]; rw [three_eq, hn]; simp)
            clear hn
            go_wp2_with fail
            refine (number_any b _ zb).mono ?_
            rintro e w' ⟨rfl, rfl⟩
            rw [HN.out]
            go_wp2_with fail
            exact bodyPost_ret (v := .tuple #[.agg #[.int .i64 (numV a.data.toList), .int .i64 (numV b.data.toList), .int .i64 0], .bool false]) (by simp [results, Tryd.results37, go_sem]) rfl ⟨en_fin w a b c _ _ #[] _ _ _, .inr ⟨_, _, _, HZ.out, rfl⟩⟩
          · have HN := Lib.hid hn
            clear hn
            go_wp2_with fail
            refine (number_any b _ zb).mono ?_
            rintro e w' ⟨rfl, rfl⟩
            rw [HN.out]
            go_wp2_with fail
            go_roundw
            case rel => exact .inr (.inr (.inl ⟨rfl, HNa.out, HN.out, rfl⟩))
            case measure => simp [intOf]
        · unfold enW
          have HNa := Lib.hid ha
          have HNb := Lib.hid hb
          clear ha hb
          rcases hn : numOk c.data.toList with _ | _
          · have HN := Lib.hid hn
            have HZ := Lib.hid (show edgeNums s.data.toList = none by rw [H2.out]; rw [three_eq, hn]; simp)
            clear hn
            go_wp2_with fail
            refine (number_any c _ zc).mono ?_
            rintro e w' ⟨rfl, rfl⟩
            rw [HN.out]
            go_wp2_with fail
            exact bodyPost_ret (v := .tuple #[.agg #[.int .i64 (numV a.data.toList), .int .i64 (numV b.data.toList), .int .i64 (numV c.data.toList)], .bool false]) (by simp [results, Tryd.results37, go_sem]) rfl ⟨en_fin w a b c _ _ #[] _ _ _, .inr ⟨_, _, _, HZ.out, rfl⟩⟩
          · have HN := Lib.hid hn
            clear hn
            go_wp2_with fail
            refine (number_any c _ zc).mono ?_
            rintro e w' ⟨rfl, rfl⟩
            rw [HN.out]
            go_wp2_with fail
            go_roundw
            case rel => exact .inr (.inr (.inr ⟨rfl, HNa.out, HNb.out, HN.out, rfl⟩))
            case measure => simp [intOf]
        · unfold enW
          have HZ := Lib.hid (show edgeNums s.data.toList = some (numV a.data.toList, numV b.data.toList, numV c.data.toList) by rw [H2.out]; rw [three_eq, ha, hb, hc]; rfl)
          clear ha hb hc
          go_wp2_with fail
          exact bodyPost_ret (v := .tuple #[.agg #[.int .i64 (numV a.data.toList), .int .i64 (numV b.data.toList), .int .i64 (numV c.data.toList)], .bool true]) (by simp [results, Tryd.results37, go_sem]) rfl ⟨en_fin w a b c _ _ #[] _ _ _, .inl ⟨_, _, _, HZ.out, rfl⟩⟩
    · have H2 := Lib.hid (show edgeNums s.data.toList = none by
        rw [H1.out, ← hws]
        match ws, h3 with
        | [], _ => rfl
        | [_], _ => rfl
        | [_, _], _ => rfl
        | [_, _, _], h => exact absurd rfl h
        | _ :: _ :: _ :: _ :: _, _ => rfl)
      have h3' : ((ws.length : Int) != 3) = true := by simp; omega
      clear hws h3
      go_wp2_with fail
      exact bodyPost_ret (v := .tuple #[.agg #[.int .i64 0, .int .i64 0, .int .i64 0], .bool false]) (by simp [results, Tryd.results37, go_sem]) rfl ⟨(((Below.refl _ _).alloc (Nat.le_refl _) _).alloc (by simp) _).alloc (by simp; omega) _, .inr ⟨0, 0, 0, H2.out, rfl⟩⟩
end Go.Proofs.YtcjghomjjnaddaaDoor
