import Derived.Test.YtpgdddjjjfkneaaGreatDoorKd
import Derived.Deep.RegionHeld3
/-
  The contract of Turn: what a vertex does in a superstep, or what is told. No condition but that the value and what came are numbers of 62 bits.
-/
namespace Go.Proofs.YtpgdddjjjfkneaaGreatDoor
open Go.ChangeShapes Go.WideShapes Go.ChangeAt Go.RowKit
set_option linter.unusedVariables false

/-- A turn's answer: the value, what is sent, whether it rests, the error. -/
def turnR (N : Int) (es : List Ed) (p s l q st v val got : Int) (sm : Bool) : Int × List Ms × Bool × Int :=
  if vchk N es p s l q v = 0 then
    if st < 0 ∨ 40 < st then (0, [], false, 1)
    else if valB p st val got sm = true then
      if sendB p s st v val (valX p st val got sm) = true then
        if msgB p (valX p st val got sm) (outE N es v).length (outE N es v) = true then (valX p st val got sm, msgL p (valX p st val got sm) (outE N es v).length (outE N es v), restB p st, 0)
        else (0, [], false, 8)
      else (valX p st val got sm, [], restB p st, 0)
    else (0, [], false, 8)
  else (0, [], false, vchk N es p s l q v)
def TuPost (t : Int × List Ms × Bool × Int) (w : World) (r : Ending) (w' : World) : Prop :=
  Below w.heap.size w w' ∧ ∃ A c, r = .returned (.tuple #[.int .i64 t.1, .slice A t.2.1.length c, .bool t.2.2.1, .int .i64 t.2.2.2]) ∧ w'.ownsRow w.heap.size 118 2 (.slice A t.2.1.length c) t.2.1.length (mc t.2.1)
theorem tu_none {t : Int × List Ms × Bool × Int} {x : Int} {b : Bool} {e : Int} {w w' : World} (h : t = (x, [], b, e)) (hb : Below w.heap.size w w') : TuPost t w (.returned (.tuple #[.int .i64 x, .slice none 0 0, .bool b, .int .i64 e])) w' := by
  subst h
  exact ⟨hb, none, 0, rfl, World.ownsRow_nil _ _ _ _⟩
/-- What stands boxed in Turn: the graph, the job, the program's row (block b), the turn (block b + 1). -/
structure Tb (w : World) (b : Nat) (N : Int) (A : Option Addr) (n c : Nat) (p s l q : Int) (k0 k1 k2 k3 k4 k5 : Nat) (y : Array Value) (st v val got : Int) (sm : Bool) (W : World) : Prop where
  x : Bx w N A n c p s l q W
  z : b + 2 ≤ W.heap.size
  hb : w.heap.size + 2 ≤ b
  r0 : W.cell? ⟨b, 0, none⟩ = some (.func (.func k0) #[] #[])
  r1 : W.cell? ⟨b, 1, none⟩ = some (.func (.func k1) #[] #[])
  r2 : W.cell? ⟨b, 2, none⟩ = some (.func (.func k2) #[] y)
  r3 : W.cell? ⟨b, 3, none⟩ = some (.func (.func k3) #[] #[])
  r4 : W.cell? ⟨b, 4, none⟩ = some (.func (.func k4) #[] #[])
  r5 : W.cell? ⟨b, 5, none⟩ = some (.func (.func k5) #[] #[])
  t0 : W.cell? ⟨b + 1, 0, none⟩ = some (.int .i64 s)
  t1 : W.cell? ⟨b + 1, 1, none⟩ = some (.int .i64 st)
  t2 : W.cell? ⟨b + 1, 2, none⟩ = some (.int .i64 v)
  t3 : W.cell? ⟨b + 1, 3, none⟩ = some (.int .i64 val)
  t4 : W.cell? ⟨b + 1, 4, none⟩ = some (.int .i64 got)
  t5 : W.cell? ⟨b + 1, 5, none⟩ = some (.bool sm)
  cap : Cap w.heap.size p y W
theorem Tb.next {w : World} {b : Nat} {N : Int} {A : Option Addr} {n c : Nat} {p s l q : Int} {k0 k1 k2 k3 k4 k5 : Nat} {y : Array Value} {st v val got : Int} {sm : Bool} {W W' : World} (h : Tb w b N A n c p s l q k0 k1 k2 k3 k4 k5 y st v val got sm W) (hb : Below W.heap.size W W') : Tb w b N A n c p s l q k0 k1 k2 k3 k4 k5 y st v val got sm W' :=
  have k : ∀ g o, g < b + 2 → W'.cell? ⟨g, o, none⟩ = W.cell? ⟨g, o, none⟩ := fun g o hl => hb.cell (p := ⟨g, o, none⟩) (Nat.lt_of_lt_of_le hl h.z)
  ⟨h.x.next hb, Nat.le_trans h.z hb.size, h.hb, (k _ 0 (by omega)).trans h.r0, (k _ 1 (by omega)).trans h.r1, (k _ 2 (by omega)).trans h.r2, (k _ 3 (by omega)).trans h.r3, (k _ 4 (by omega)).trans h.r4, (k _ 5 (by omega)).trans h.r5, (k _ 0 (by omega)).trans h.t0, (k _ 1 (by omega)).trans h.t1, (k _ 2 (by omega)).trans h.t2, (k _ 3 (by omega)).trans h.t3, (k _ 4 (by omega)).trans h.t4, (k _ 5 (by omega)).trans h.t5, h.cap.next hb⟩
theorem Tb.init {w w1 : World} {N : Int} {A : Option Addr} {n c : Nat} {p s l q : Int} {k0 k1 k2 k3 k4 k5 : Nat} {y : Array Value} {st v val got : Int} {sm : Bool} (hx : Bx w N A n c p s l q w1) (hc : Cap w.heap.size p y w1) :
    Tb w w1.heap.size N A n c p s l q k0 k1 k2 k3 k4 k5 y st v val got sm ((w1.alloc (.cells #[.func (.func k0) #[] #[], .func (.func k1) #[] #[], .func (.func k2) #[] y, .func (.func k3) #[] #[], .func (.func k4) #[] #[], .func (.func k5) #[] #[]] 94)).alloc (.cells #[.int .i64 s, .int .i64 st, .int .i64 v, .int .i64 val, .int .i64 got, .bool sm] 151)) :=
  ⟨(hx.alloc _).alloc _, by simp, hx.z, by simp [go_sem], by simp [go_sem], by simp [go_sem], by simp [go_sem], by simp [go_sem], by simp [go_sem], by simp [go_sem], by simp [go_sem], by simp [go_sem], by simp [go_sem], by simp [go_sem], by simp [go_sem], (hc.next (below_alloc _ _)).next (below_alloc _ _)⟩
theorem pkS {w : World} {b : Nat} {N : Int} {A : Option Addr} {n c : Nat} {p s l q : Int} {k0 k1 k2 k3 k4 k5 : Nat} {y : Array Value} {st v val got : Int} {sm : Bool} {W W' : World} (h : Tb w b N A n c p s l q k0 k1 k2 k3 k4 k5 y st v val got sm W) (hb : Below W.heap.size W W') :
    W'.cell? ⟨w.heap.size, 0, none⟩ = some (.int .i64 N) ∧ W'.cell? ⟨w.heap.size, 1, none⟩ = some (.slice A n c) ∧ W'.cell? ⟨b, 0, none⟩ = some (.func (.func k0) #[] #[]) ∧ W'.cell? ⟨b, 1, none⟩ = some (.func (.func k1) #[] #[]) ∧ W'.cell? ⟨b, 2, none⟩ = some (.func (.func k2) #[] y) ∧ W'.cell? ⟨b, 3, none⟩ = some (.func (.func k3) #[] #[]) ∧ W'.cell? ⟨b, 4, none⟩ = some (.func (.func k4) #[] #[]) ∧ W'.cell? ⟨b, 5, none⟩ = some (.func (.func k5) #[] #[]) ∧ Tb w b N A n c p s l q k0 k1 k2 k3 k4 k5 y st v val got sm W' :=
  have t := h.next hb
  ⟨t.x.g0, t.x.g1, t.r0, t.r1, t.r2, t.r3, t.r4, t.r5, t⟩
theorem out_len (N : Int) (es : List Ed) (v : Int) (h : es.length ≤ 80) : (outE N es v).length ≤ 80 := by
  unfold outE
  split
  · exact Nat.le_trans (fromV_len v es) h
  · simp
theorem out_bd {N : Int} {es : List Ed} {v : Int} (h : chk N es = 0) : ∀ e ∈ outE N es v, bd e.2.2 := by
  intro e he
  unfold outE at he
  rw [if_pos h] at he
  have hm : e ∈ es := (List.mem_filter.1 he).1
  have := chk_ok h e hm
  unfold okEd at this
  rw [edge1_zero] at this
  exact ⟨by omega, by omega⟩
set_option maxHeartbeats 1000000 in
theorem turn_v (N : Int) (A : Option Addr) (n c : Nat) (es : List Ed) (p s l q st v val got : Int) (sm : Bool) (w : World) (hA : Lies w w.heap.size 3 A n (ec es)) (hnc : n ≤ c) (hn : n ≤ maxLen) (hv : ¬ vchk N es p s l q v = 0) :
    Calls Tryz.prog 83 #[.agg #[.int .i64 N, .slice A n c], .agg #[.int .i64 p, .int .i64 s, .int .i64 l, .int .i64 q], .int .i64 st, .int .i64 v, .int .i64 val, .int .i64 got, .bool sm] w (TuPost (turnR N es p s l q st v val got sm) w) := by
  have hbx := Bx.init w N A n c p s l q
  have hA1 := hA.next hbx.bl
  have HBX := Lib.hid hbx
  clear hbx
  have HR := Lib.hid (show turnR N es p s l q st v val got sm = (0, [], false, vchk N es p s l q v) by unfold turnR; rw [if_neg hv])
  have hv1 : (vchk N es p s l q v != 0) = true := by simpa using hv
  have HV := Lib.hid hv
  clear hv
  go_enter Tryz.func83, Tryz.ntmps83
  go_wp2_with fail
  refine (for_no N A n c es p s l q v _ hA1 hnc hn HV.out).mono ?_
  rintro e w1 ⟨rfl, hb1⟩
  have H2 := Lib.hid ((HBX.out.next hb1).alloc (.cells #[.nilFunc, .nilFunc, .nilFunc, .nilFunc, .nilFunc, .nilFunc] 94)).bl
  clear hb1 hA1 HBX
  go_wp2_with fail
  refine bodyPost_ret (v := .tuple #[.int .i64 0, .slice none 0 0, .bool false, .int .i64 (vchk N es p s l q v)]) (by simp [results, Tryz.results83, go_sem]) rfl ?_
  exact tu_none HR.out H2.out
set_option maxHeartbeats 1000000 in
theorem turn_step (N : Int) (A : Option Addr) (n c : Nat) (es : List Ed) (p s l q st v val got : Int) (sm : Bool) (w : World) (hA : Lies w w.heap.size 3 A n (ec es)) (hnc : n ≤ c) (hn : n ≤ maxLen) (hv : vchk N es p s l q v = 0) (hst : st < 0 ∨ 40 < st) :
    Calls Tryz.prog 83 #[.agg #[.int .i64 N, .slice A n c], .agg #[.int .i64 p, .int .i64 s, .int .i64 l, .int .i64 q], .int .i64 st, .int .i64 v, .int .i64 val, .int .i64 got, .bool sm] w (TuPost (turnR N es p s l q st v val got sm) w) := by
  have hbx := Bx.init w N A n c p s l q
  have hA1 := hA.next hbx.bl
  have HBX := Lib.hid hbx
  clear hbx
  have HR := Lib.hid (show turnR N es p s l q st v val got sm = (0, [], false, 1) by unfold turnR; rw [if_pos hv, if_pos hst])
  have HV := Lib.hid hv
  have HST := Lib.hid hst
  clear hv hst
  go_enter Tryz.func83, Tryz.ntmps83
  go_wp2_with fail
  refine (for_ok N A n c es p s l q v _ hA1 hnc hn HV.out).mono ?_
  rintro e w1 ⟨hb1, k0, k1, k2, k3, k4, k5, y, rfl, hP, hC⟩
  have hx1 := HBX.out.next hb1
  have HC1 := Lib.hid (hC.low (B' := w.heap.size) (by simp; omega))
  have HX1 := Lib.hid hx1
  have HPR := Lib.hid hP
  have H2 := Lib.hid (hx1.alloc (.cells #[.func (.func k0) #[] #[], .func (.func k1) #[] #[], .func (.func k2) #[] y, .func (.func k3) #[] #[], .func (.func k4) #[] #[], .func (.func k5) #[] #[]] 94)).bl
  clear hb1 hA1 hP hC hx1 HBX
  by_cases h1 : st < 0
  · go_wp2_with fail
    refine bodyPost_ret (v := .tuple #[.int .i64 0, .slice none 0 0, .bool false, .int .i64 1]) (by simp [results, Tryz.results83, go_sem]) rfl ?_
    exact tu_none HR.out H2.out
  · have h2 : 40 < st := by have := HST.out; omega
    go_wp2_with fail
    refine bodyPost_ret (v := .tuple #[.int .i64 0, .slice none 0 0, .bool false, .int .i64 1]) (by simp [results, Tryz.results83, go_sem]) rfl ?_
    exact tu_none HR.out H2.out
set_option maxHeartbeats 1000000 in
theorem turn_val (N : Int) (A : Option Addr) (n c : Nat) (es : List Ed) (p s l q st v val got : Int) (sm : Bool) (w : World) (hA : Lies w w.heap.size 3 A n (ec es)) (hnc : n ≤ c) (hn : n ≤ maxLen) (hv : bd val) (hg : bd got) (hvc : vchk N es p s l q v = 0) (hst : ¬ (st < 0 ∨ 40 < st)) (hvb : ¬ valB p st val got sm = true) :
    Calls Tryz.prog 83 #[.agg #[.int .i64 N, .slice A n c], .agg #[.int .i64 p, .int .i64 s, .int .i64 l, .int .i64 q], .int .i64 st, .int .i64 v, .int .i64 val, .int .i64 got, .bool sm] w (TuPost (turnR N es p s l q st v val got sm) w) := by
  have hbx := Bx.init w N A n c p s l q
  have hA1 := hA.next hbx.bl
  have HBX := Lib.hid hbx
  clear hbx
  have HR := Lib.hid (show turnR N es p s l q st v val got sm = (0, [], false, 8) by unfold turnR; rw [if_pos hvc, if_neg hst, if_neg hvb])
  have HV := Lib.hid hvc
  have HVB := Lib.hid (show valB p st val got sm = false by simpa using hvb)
  obtain ⟨s1, s2⟩ : ¬ st < 0 ∧ ¬ 40 < st := by omega
  clear hvc hst hvb
  go_enter Tryz.func83, Tryz.ntmps83
  go_wp2_with fail
  refine (for_ok N A n c es p s l q v _ hA1 hnc hn HV.out).mono ?_
  rintro e w1 ⟨hb1, k0, k1, k2, k3, k4, k5, y, rfl, hP, hC⟩
  have hx1 := HBX.out.next hb1
  have HC1 := Lib.hid (hC.low (B' := w.heap.size) (by simp; omega))
  have HX1 := Lib.hid hx1
  have HPR := Lib.hid hP
  have hT := Tb.init (st := st) (v := v) (val := val) (got := got) (sm := sm) (k0 := k0) (k1 := k1) (k2 := k2) (k3 := k3) (k4 := k4) (k5 := k5) HX1.out HC1.out
  have HT := Lib.hid hT
  have hc2 := hP.c2
  have hc3 := hP.c3
  have hc5 := hP.c5
  have j1 := (hx1.alloc (.cells #[.func (.func k0) #[] #[], .func (.func k1) #[] #[], .func (.func k2) #[] y, .func (.func k3) #[] #[], .func (.func k4) #[] #[], .func (.func k5) #[] #[]] 94)).j1
  clear hT hb1 hA1 hP hC hx1 HBX
  go_wp2_with fail
  refine (HPR.out.value s st v val got sm _ _ HT.out.cap hv hg).mono ?_
  rintro e w2 ⟨rfl, hb2⟩
  have hT2 := HT.out.next hb2
  have HT2 := Lib.hid hT2
  clear HT hb2 j1
  rw [HVB.out]
  have H2 := Lib.hid hT2.x.bl
  clear hT2
  go_wp2_with fail
  refine bodyPost_ret (v := .tuple #[.int .i64 0, .slice none 0 0, .bool false, .int .i64 8]) (by simp [results, Tryz.results83, go_sem]) rfl ?_
  exact tu_none HR.out H2.out
set_option maxHeartbeats 1000000 in
theorem turn_no (N : Int) (A : Option Addr) (n c : Nat) (es : List Ed) (p s l q st v val got : Int) (sm : Bool) (w : World) (hA : Lies w w.heap.size 3 A n (ec es)) (hnc : n ≤ c) (hn : n ≤ maxLen) (hv : bd val) (hg : bd got) (hvc : vchk N es p s l q v = 0) (hst : ¬ (st < 0 ∨ 40 < st)) (hvb : valB p st val got sm = true) (hsb : ¬ sendB p s st v val (valX p st val got sm) = true) :
    Calls Tryz.prog 83 #[.agg #[.int .i64 N, .slice A n c], .agg #[.int .i64 p, .int .i64 s, .int .i64 l, .int .i64 q], .int .i64 st, .int .i64 v, .int .i64 val, .int .i64 got, .bool sm] w (TuPost (turnR N es p s l q st v val got sm) w) := by
  have hbx := Bx.init w N A n c p s l q
  have hA1 := hA.next hbx.bl
  have HBX := Lib.hid hbx
  clear hbx
  have HR := Lib.hid (show turnR N es p s l q st v val got sm = (valX p st val got sm, [], restB p st, 0) by unfold turnR; rw [if_pos hvc, if_neg hst, if_pos hvb, if_neg hsb])
  have HV := Lib.hid hvc
  have HVB := Lib.hid hvb
  have HSB := Lib.hid (show sendB p s st v val (valX p st val got sm) = false by simpa using hsb)
  obtain ⟨s1, s2⟩ : ¬ st < 0 ∧ ¬ 40 < st := by omega
  clear hvc hst hvb hsb
  go_enter Tryz.func83, Tryz.ntmps83
  go_wp2_with fail
  refine (for_ok N A n c es p s l q v _ hA1 hnc hn HV.out).mono ?_
  rintro e w1 ⟨hb1, k0, k1, k2, k3, k4, k5, y, rfl, hP, hC⟩
  have hx1 := HBX.out.next hb1
  have HC1 := Lib.hid (hC.low (B' := w.heap.size) (by simp; omega))
  have HX1 := Lib.hid hx1
  have HPR := Lib.hid hP
  have hT := Tb.init (st := st) (v := v) (val := val) (got := got) (sm := sm) (k0 := k0) (k1 := k1) (k2 := k2) (k3 := k3) (k4 := k4) (k5 := k5) HX1.out HC1.out
  have HT := Lib.hid hT
  have hc2 := hP.c2
  have hc3 := hP.c3
  have hc5 := hP.c5
  have j1 := (hx1.alloc (.cells #[.func (.func k0) #[] #[], .func (.func k1) #[] #[], .func (.func k2) #[] y, .func (.func k3) #[] #[], .func (.func k4) #[] #[], .func (.func k5) #[] #[]] 94)).j1
  clear hT hb1 hA1 hP hC hx1 HBX
  go_wp2_with fail
  refine (HPR.out.value s st v val got sm _ _ HT.out.cap hv hg).mono ?_
  rintro e w2 ⟨rfl, hb2⟩
  have hT2 := HT.out.next hb2
  have HT2 := Lib.hid hT2
  clear HT hb2 j1
  rw [HVB.out]
  generalize valX p st val got sm = now at *
  obtain ⟨hx, hz, hzb, r0, r1, r2, r3, r4, r5, t0, t1, t2, t3, t4, t5, hcap⟩ := hT2
  clear hx hz hzb hcap
  go_wp2_with fail
  refine (HPR.out.sends s st v val got sm now _).mono ?_
  rintro e w3 ⟨rfl, hb3⟩
  rw [HSB.out]
  have hT3 := HT2.out.next hb3
  have H3 := Lib.hid hT3.x.bl
  clear r0 r1 r2 r3 r4 r5 t0 t1 t2 t3 t4 t5 HT2 hb3
  obtain ⟨hx, hz, hzb, r0, r1, r2, r3, r4, r5, t0, t1, t2, t3, t4, t5, hcap⟩ := hT3
  clear hx hz hzb hcap
  go_wp2_with fail
  refine (HPR.out.rests st _).mono ?_
  rintro e w4 ⟨rfl, rfl⟩
  go_wp2_with fail
  refine bodyPost_ret (v := .tuple #[.int .i64 now, .slice none 0 0, .bool (restB p st), .int .i64 0]) (by simp [results, Tryz.results83, go_sem]) rfl ?_
  exact tu_none HR.out H3.out
set_option maxHeartbeats 1000000 in
theorem turn_yes (N : Int) (A : Option Addr) (n c : Nat) (es : List Ed) (p s l q st v val got : Int) (sm : Bool) (w : World) (hA : Lies w w.heap.size 3 A n (ec es)) (hnc : n ≤ c) (hn : n ≤ maxLen) (hv : bd val) (hg : bd got) (hvc : vchk N es p s l q v = 0) (hst : ¬ (st < 0 ∨ 40 < st)) (hvb : valB p st val got sm = true) (hsb : sendB p s st v val (valX p st val got sm) = true) :
    Calls Tryz.prog 83 #[.agg #[.int .i64 N, .slice A n c], .agg #[.int .i64 p, .int .i64 s, .int .i64 l, .int .i64 q], .int .i64 st, .int .i64 v, .int .i64 val, .int .i64 got, .bool sm] w (TuPost (turnR N es p s l q st v val got sm) w) := by
  have hbx := Bx.init w N A n c p s l q
  have hA1 := hA.next hbx.bl
  have HBX := Lib.hid hbx
  clear hbx
  have HR := Lib.hid (show turnR N es p s l q st v val got sm = if msgB p (valX p st val got sm) (outE N es v).length (outE N es v) = true then (valX p st val got sm, msgL p (valX p st val got sm) (outE N es v).length (outE N es v), restB p st, 0) else (0, [], false, 8) by unfold turnR; rw [if_pos hvc, if_neg hst, if_pos hvb, if_pos hsb])
  have hok := (jchk_zero (vchk_zero hvc).1).1
  have HLEN := Lib.hid (out_len N es v (chk_zero hok).2.2.1)
  have HWB := Lib.hid (out_bd (v := v) hok)
  have HNB := Lib.hid (valX_bd (p := p) (st := st) (sm := sm) hv hg)
  have HV := Lib.hid hvc
  have HVB := Lib.hid hvb
  have HSB := Lib.hid hsb
  obtain ⟨s1, s2⟩ : ¬ st < 0 ∧ ¬ 40 < st := by omega
  clear hvc hst hvb hsb hok
  go_enter Tryz.func83, Tryz.ntmps83
  go_wp2_with fail
  refine (for_ok N A n c es p s l q v _ hA1 hnc hn HV.out).mono ?_
  rintro e w1 ⟨hb1, k0, k1, k2, k3, k4, k5, y, rfl, hP, hC⟩
  have hx1 := HBX.out.next hb1
  have HC1 := Lib.hid (hC.low (B' := w.heap.size) (by simp; omega))
  have HX1 := Lib.hid hx1
  have HPR := Lib.hid hP
  have hT := Tb.init (st := st) (v := v) (val := val) (got := got) (sm := sm) (k0 := k0) (k1 := k1) (k2 := k2) (k3 := k3) (k4 := k4) (k5 := k5) HX1.out HC1.out
  have HT := Lib.hid hT
  have hc2 := hP.c2
  have hc3 := hP.c3
  have hc5 := hP.c5
  have j1 := (hx1.alloc (.cells #[.func (.func k0) #[] #[], .func (.func k1) #[] #[], .func (.func k2) #[] y, .func (.func k3) #[] #[], .func (.func k4) #[] #[], .func (.func k5) #[] #[]] 94)).j1
  clear hT hb1 hA1 hP hC hx1 HBX
  go_wp2_with fail
  refine (HPR.out.value s st v val got sm _ _ HT.out.cap hv hg).mono ?_
  rintro e w2 ⟨rfl, hb2⟩
  have hT2 := HT.out.next hb2
  have HT2 := Lib.hid hT2
  clear HT hb2 j1
  rw [HVB.out]
  generalize valX p st val got sm = now at *
  obtain ⟨hx, hz, hzb, r0, r1, r2, r3, r4, r5, t0, t1, t2, t3, t4, t5, hcap⟩ := hT2
  clear hx hz hzb hcap
  go_wp2_with fail
  refine (HPR.out.sends s st v val got sm now _).mono ?_
  rintro e w3 ⟨rfl, hb3⟩
  rw [HSB.out]
  have hT3 := HT2.out.next hb3
  have HT3 := Lib.hid hT3
  have HOU := Lib.hid (fun W (h : Below w.heap.size w W) => out_any N A n c es v W (hA.next h) hnc hn)
  have HME0 := Lib.hid (fun (A' : Option Addr) (c' : Nat) (W : World) (h1 : Lies W W.heap.size 3 A' (outE N es v).length (ec (outE N es v))) (h2 : (outE N es v).length ≤ c') => messages_any p k0 k1 k2 k3 k4 k5 y HPR.out now A' (outE N es v).length c' (outE N es v) W h1 h2 HLEN.out HNB.out HWB.out)
  obtain ⟨ok, hok⟩ : ∃ ok, ok = msgB p now (outE N es v).length (outE N es v) := ⟨_, rfl⟩
  obtain ⟨ms, hms⟩ : ∃ ms, ms = msL p now (outE N es v).length (outE N es v) := ⟨_, rfl⟩
  have HME := Lib.hid (fun (A' : Option Addr) (c' : Nat) (W : World) (h1 : Lies W W.heap.size 3 A' (outE N es v).length (ec (outE N es v))) (h2 : (outE N es v).length ≤ c') => by have := HME0.out A' c' W h1 h2; rw [← hok, ← hms] at this; exact this)
  have HMS := Lib.hid (show ms = if ok = true then msgL p now (outE N es v).length (outE N es v) else [] by rw [hms, hok]; rfl)
  rw [← hok] at HR
  clear hok hms HME0
  generalize outE N es v = out at *
  clear r0 r1 r2 r3 r4 r5 t0 t1 t2 t3 t4 t5 HT2 hb3
  obtain ⟨hx, hz, hzb, r0, r1, r2, r3, r4, r5, t0, t1, t2, t3, t4, t5, hcap⟩ := hT3
  have g0 := hx.g0
  have g1 := hx.g1
  clear hx hz hzb hcap t0 t1 t2 t3 t4 t5
  go_wp2_with fail
  have q0 : w3.drew.cell? ⟨w.heap.size, 0, none⟩ = some (.int .i64 N) ∧ w3.drew.cell? ⟨w.heap.size, 1, none⟩ = some (.slice A n c) ∧ w3.drew.cell? ⟨w1.heap.size, 0, none⟩ = some (.func (.func k0) #[] #[]) ∧ w3.drew.cell? ⟨w1.heap.size, 1, none⟩ = some (.func (.func k1) #[] #[]) ∧ w3.drew.cell? ⟨w1.heap.size, 2, none⟩ = some (.func (.func k2) #[] y) ∧ w3.drew.cell? ⟨w1.heap.size, 3, none⟩ = some (.func (.func k3) #[] #[]) ∧ w3.drew.cell? ⟨w1.heap.size, 4, none⟩ = some (.func (.func k4) #[] #[]) ∧ w3.drew.cell? ⟨w1.heap.size, 5, none⟩ = some (.func (.func k5) #[] #[]) ∧ Tb w w1.heap.size N A n c p s l q k0 k1 k2 k3 k4 k5 y st v val got sm w3.drew := ⟨g0, g1, r0, r1, r2, r3, r4, r5, HT3.out.next ⟨rfl, rfl, rfl, Nat.le_refl _, fun _ _ => rfl⟩⟩
  clear g0 g1 r0 r1 r2 r3 r4 r5
  go_region_held3 (fun w' => w'.cell? ⟨w.heap.size, 0, none⟩ = some (.int .i64 N) ∧ w'.cell? ⟨w.heap.size, 1, none⟩ = some (.slice A n c) ∧ w'.cell? ⟨w1.heap.size, 0, none⟩ = some (.func (.func k0) #[] #[]) ∧ w'.cell? ⟨w1.heap.size, 1, none⟩ = some (.func (.func k1) #[] #[]) ∧ w'.cell? ⟨w1.heap.size, 2, none⟩ = some (.func (.func k2) #[] y) ∧ w'.cell? ⟨w1.heap.size, 3, none⟩ = some (.func (.func k3) #[] #[]) ∧ w'.cell? ⟨w1.heap.size, 4, none⟩ = some (.func (.func k4) #[] #[]) ∧ w'.cell? ⟨w1.heap.size, 5, none⟩ = some (.func (.func k5) #[] #[]) ∧ Tb w w1.heap.size N A n c p s l q k0 k1 k2 k3 k4 k5 y st v val got sm w')
    (first | exact q2 | exact q1 | exact q0)
    (first | ((go_at_call 104); (with_reducible refine (HOU.out _ q0.2.2.2.2.2.2.2.2.x.bl).mono ?_); rintro e w4 ⟨hb4, A4, c4, rfl, ho4⟩; have q1 := pkS q0.2.2.2.2.2.2.2.2 hb4) | ((go_at_call 103); (with_reducible refine (HME.out A4 c4 _ (Lies.of_own ho4) (own_cap ho4)).mono ?_); rintro e w5 ⟨hb5, A5, c5, rfl, ho5⟩; have q2 := pkS q1.2.2.2.2.2.2.2.2 hb5))
  have HT5 := Lib.hid q2.2.2.2.2.2.2.2.2
  have HO5 := Lib.hid (ho5.lower (base' := w.heap.size) (Nat.le_trans q1.2.2.2.2.2.2.2.2.x.bl.size (Nat.le_refl _)))
  have r5 := HT5.out.r5
  clear q0 q1 q2 hb4 hb5 ho4 ho5
  cases ok with
  | true =>
    go_wp2_with fail
    refine (HPR.out.rests st _).mono ?_
    rintro e w6 ⟨rfl, rfl⟩
    go_wp2_with fail
    refine bodyPost_ret (v := .tuple #[.int .i64 now, .slice A5 ms.length c5, .bool (restB p st), .int .i64 0]) (by simp [results, Tryz.results83, go_sem]) rfl ?_
    have e1 : turnR N es p s l q st v val got sm = (now, msgL p now out.length out, restB p st, 0) := by simpa using HR.out
    have e2 : ms = msgL p now out.length out := by simpa using HMS.out
    rw [e1, ← e2]
    exact ⟨HT5.out.x.bl, A5, c5, rfl, HO5.out⟩
  | false =>
    go_wp2_with fail
    refine bodyPost_ret (v := .tuple #[.int .i64 0, .slice none 0 0, .bool false, .int .i64 8]) (by simp [results, Tryz.results83, go_sem]) rfl ?_
    exact tu_none HR.out HT5.out.x.bl
theorem turn_any (N : Int) (A : Option Addr) (n c : Nat) (es : List Ed) (p s l q st v val got : Int) (sm : Bool) (w : World) (hA : Lies w w.heap.size 3 A n (ec es)) (hnc : n ≤ c) (hn : n ≤ maxLen) (hv : bd val) (hg : bd got) :
    Calls Tryz.prog 83 #[.agg #[.int .i64 N, .slice A n c], .agg #[.int .i64 p, .int .i64 s, .int .i64 l, .int .i64 q], .int .i64 st, .int .i64 v, .int .i64 val, .int .i64 got, .bool sm] w (TuPost (turnR N es p s l q st v val got sm) w) := by
  by_cases h1 : vchk N es p s l q v = 0
  · by_cases h2 : st < 0 ∨ 40 < st
    · exact turn_step N A n c es p s l q st v val got sm w hA hnc hn h1 h2
    · by_cases h3 : valB p st val got sm = true
      · by_cases h4 : sendB p s st v val (valX p st val got sm) = true
        · exact turn_yes N A n c es p s l q st v val got sm w hA hnc hn hv hg h1 h2 h3 h4
        · exact turn_no N A n c es p s l q st v val got sm w hA hnc hn hv hg h1 h2 h3 h4
      · exact turn_val N A n c es p s l q st v val got sm w hA hnc hn hv hg h1 h2 h3
  · exact turn_v N A n c es p s l q st v val got sm w hA hnc hn h1
end Go.Proofs.YtpgdddjjjfkneaaGreatDoor


