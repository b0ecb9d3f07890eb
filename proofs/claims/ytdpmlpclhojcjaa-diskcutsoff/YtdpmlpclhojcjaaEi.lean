import Derived.Test.YtdpmlpclhojcjaaEh
/-
  What is done to a list of files in place: a file's cells, a file taken out, bytes put behind; plain facts of places. No condition.
-/
namespace Go.Proofs.Ytdpmlpclhojcjaa
open Go.ChangeShapes Go.WideShapes Go.ChangeAt Go.RowKit
set_option linter.unusedVariables false

theorem with_set : ∀ {d : List Fl} (hr : Rises d) {g : Fl}, hasF d g.name = true → withF d g = d.set (place d g.name) g
  | [], _, g, h => by simp [hasF] at h
  | x :: d, hr, g, h => by
    unfold withF place
    by_cases hx : x.name < g.name
    · have e : (x.name == g.name) = false := by simpa using by_ne hx
      have h' : hasF d g.name = true := by simpa [hasF, e] using h
      rw [if_pos hx, if_pos hx, with_set hr.tail h', List.set_cons_succ]
    · rw [if_neg hx, if_neg hx, List.set_cons_zero]
      obtain ⟨f, h1, h2⟩ := (place_has hr).1 h
      have hp : place (x :: d) g.name = 0 := by unfold place; rw [if_neg hx]
      rw [hp] at h1
      simp only [List.getElem?_cons_zero, Option.some.injEq] at h1
      subst h1
      have hno : hasF d g.name = false := hasF_no.2 fun y hy he => by_ne (hr.head y hy) (h2.trans he.symm)
      have : dropF (x :: d) g.name = dropF d g.name := by simp [dropF, h2]
      rw [this, dropF_none hno]
theorem with_ins : ∀ {d : List Fl} {g : Fl}, hasF d g.name = false → withF d g = d.take (place d g.name) ++ g :: d.drop (place d g.name)
  | [], g, _ => rfl
  | x :: d, g, h => by
    unfold withF place
    by_cases hx : x.name < g.name
    · have h' : hasF d g.name = false := hasF_no.2 fun f hf => hasF_no.1 h f (List.mem_cons_of_mem _ hf)
      rw [if_pos hx, if_pos hx, with_ins h']
      rfl
    · rw [if_neg hx, if_neg hx, dropF_none h]
      rfl
theorem drop_del : ∀ {d : List Fl} (hr : Rises d) {n : By}, hasF d n = true → dropF d n = d.take (place d n) ++ d.drop (place d n + 1)
  | [], _, n, h => by simp [hasF] at h
  | x :: d, hr, n, h => by
    by_cases hx : x.name < n
    · have e := by_ne hx
      have h' : hasF d n = true := by simpa [hasF, e] using h
      have hp : place (x :: d) n = place d n + 1 := by rw [place, if_pos hx]
      have : dropF (x :: d) n = x :: dropF d n := by simp [dropF, e]
      rw [this, hp, drop_del hr.tail h']
      rfl
    · obtain ⟨f, h1, h2⟩ := (place_has hr).1 h
      have hp : place (x :: d) n = 0 := by rw [place, if_neg hx]
      rw [hp] at h1 ⊢
      simp only [List.getElem?_cons_zero, Option.some.injEq] at h1
      subst h1
      have hno : hasF d n = false := hasF_no.2 fun y hy he => by_ne (hr.head y hy) (h2.trans he.symm)
      have : dropF (x :: d) n = dropF d n := by simp [dropF, h2]
      rw [this, dropF_none hno]
      rfl
theorem fc_set2 (X : List Fe) (k : Nat) (hk : k < X.length) (x : Int) : (fc X).set (k * 3 + 2) (.int .i64 x) = fc (X.set k ⟨(fAt X k).nm, (fAt X k).dat, x, (fAt X k).A, (fAt X k).c⟩) := by
  induction X generalizing k with
  | nil => simp at hk
  | cons e r ih =>
    cases k with
    | zero => rfl
    | succ k =>
      have := ih k (by simpa using hk)
      rw [show (k + 1) * 3 + 2 = (k * 3 + 2) + 1 + 1 + 1 by omega, fc_cons]
      show _ :: _ :: _ :: (fc r).set (k * 3 + 2) _ = fc (e :: r.set k _)
      rw [this, fc_cons]
      rfl
theorem fc_set1' (X : List Fe) (k : Nat) (hk : k < X.length) (A' : Option Addr) (dat' : List UInt8) (c' : Nat) : (fc X).set (k * 3 + 1) (.slice A' dat'.length c') = fc (X.set k ⟨(fAt X k).nm, dat', (fAt X k).safe, A', c'⟩) := by
  induction X generalizing k with
  | nil => simp at hk
  | cons e r ih =>
    cases k with
    | zero => rfl
    | succ k =>
      have := ih k (by simpa using hk)
      rw [show (k + 1) * 3 + 1 = (k * 3 + 1) + 1 + 1 + 1 by omega, fc_cons]
      show _ :: _ :: _ :: (fc r).set (k * 3 + 1) _ = fc (e :: r.set k _)
      rw [this, fc_cons]
      rfl
/-- How much of a file lasts is written. -/
theorem Of.put1 {base : Nat} {W : World} {ad : Addr} {d : Nat} {X : List Fe} (h : Of base (some ad) d X W) {k : Nat} (hk : k < X.length) (x : Int) :
    Of base (some ad) d (X.set k ⟨(fAt X k).nm, (fAt X k).dat, x, (fAt X k).A, (fAt X k).c⟩) (W.setCell ⟨ad.block, k * 3 + 2, none⟩ (.int .i64 x)) := by
  obtain ⟨ad', cur, e1, e2, hb, hg⟩ := own_at h.ow (by omega)
  injection e1 with e1
  subst e1
  have hd : ∀ y, Dt W y → Dt (W.setCell ⟨ad.block, k * 3 + 2, none⟩ (.int .i64 x)) y := fun y hy => hy.set hg (by decide) _
  refine ⟨?_, fun y hy => ?_⟩
  · rw [← fc_set2 X k hk x, List.length_set]
    exact own_put h.ow (k * 3 + 2) (by omega) (.int .i64 x)
  · rcases List.mem_or_eq_of_mem_set hy with hy | rfl
    · exact hd y (h.el y hy)
    · have := h.el _ (fAt_mem X k hk)
      exact hd _ ⟨this.L, this.c, this.h⟩
theorem Dt.grown {W W' : World} {e : Fe} {g : Nat} {cs : Array Value} {fr : Nat × Nat} (h : Dt W e) (hg : W.grownBy W' (some g)) (hh : W.heap[g]? = some (.cells cs 53 fr)) : Dt W' e := by
  have hne : ∀ p, e.A = some p → p.block ≠ g := fun p hp hpb => by
    obtain ⟨cs', fr', h2⟩ := h.h p hp
    rw [hpb, hh] at h2
    injection h2 with h2
    injection h2 with _ h2
    exact absurd h2 (by decide)
  have hk : ∀ p, e.A = some p → p.block < W.heap.size → W'.heap[p.block]? = W.heap[p.block]? := fun p hp hl => hg.block _ hl (fun e1 => hne p hp (by injection e1))
  refine ⟨⟨h.L.1, fun j u hu => ?_⟩, h.c, fun p hp => ?_⟩
  · obtain ⟨ad, ea, hl, hc⟩ := h.L.2 j u hu
    exact ⟨ad, ea, Nat.lt_of_lt_of_le hl hg.size, (World.cell?_of_block (w := W) (by rw [block_add]; exact hk ad ea hl)).trans hc⟩
  · obtain ⟨cs', fr', h2⟩ := h.h p hp
    exact ⟨cs', fr', (hk p hp (lt_of_block h2)).trans h2⟩
theorem Bb.grown {w W W' : World} {v r : Value} {row : Option Nat} (h : Bb w v r W) (hr : ∀ g, row = some g → w.heap.size + 2 ≤ g) (hg : W.grownBy W' row) : Bb w v r W' :=
  ⟨Nat.le_trans h.z hg.size, (hg.block _ (by have := h.z; omega) (fun e => by have := hr _ e.symm; omega)).trans h.h0, (hg.block _ (by have := h.z; omega) (fun e => by have := hr _ e.symm; omega)).trans h.h1, h.bl.grown hg h.bl.size (fun k e => by have := hr k e; omega)⟩
/-- A disk, and an error, are answered. -/
theorem de_post {t : List Fl} {n m : Int} {w w' : World} {A : Option Addr} {c k : Nat} {ls : List Fe} (hn : n = m) (hb : Below w.heap.size w w') (hk : ls.length = k) (hL : Fls w' w'.heap.size A c ls) (ht : xs ls = t) : DePost t m w (.returned (.tuple #[.agg #[.slice A k c], .int .i64 n])) w' := by
  subst hn hk; exact ⟨hb, A, c, ls, rfl, hL, ht⟩
/-- Bytes are put behind a file's. -/
theorem Oz.app {base : Nat} {W W' : World} {ad : Addr} {d p n9 : Nat} {X : List Fe} {b : List UInt8} {A9 : Option Addr} {c9 : Nat} (h : Oz base (some ad) d X W) (hp : p < X.length) (hg : W.grownBy W' (Value.slice (fAt X p).A (fAt X p).dat.length (fAt X p).c).ownBlock)
    (hn : n9 = ((fAt X p).dat ++ b).length) (ho : W'.ownsRow base 5 1 (.slice A9 n9 c9) n9 (bc ((fAt X p).dat ++ b))) :
    Of base (some ad) d (X.set p ⟨(fAt X p).nm, (fAt X p).dat ++ b, (fAt X p).safe, A9, c9⟩) (W'.setCell ⟨ad.block, p * 3 + 1, none⟩ (.slice A9 n9 c9)) ∧ W'.cell? ⟨ad.block, p * 3 + 1, none⟩ = some (.slice (fAt X p).A (fAt X p).dat.length (fAt X p).c) ∧ W'.frozen? ⟨ad.block, p * 3 + 1, none⟩ = false := by
  have hoe := h.el _ (fAt_mem X p hp)
  have how : W'.ownsRow base 53 3 (.slice (some ad) X.length d) X.length (fc X) := own_apart h.ow hoe hg (by decide)
  obtain ⟨ad', cur, e1, e2, hb, hh⟩ := own_at how (by omega)
  injection e1 with e1
  subst e1
  obtain ⟨ad', e, _, _, c1, _⟩ := (Lies.of_own how).fe p hp
  injection e with e
  subst e
  rw [add_at ad e2] at c1
  subst hn
  have hoth : ∀ j (hj : j < X.length), j ≠ p → Dt W' X[j] := by
    intro j hj hne
    have hx := h.el _ (List.getElem_mem hj)
    refine Dt.own (base := base) (World.ownsRow.kept hx hg ?_)
    rw [fAt_get X p hp]
    have hap := List.pairwise_iff_getElem.1 h.ap
    cases ha : X[j].A with
    | none => exact .inl rfl
    | some a =>
      right
      cases hbq : X[p].A with
      | none => simp [Value.ownBlock]
      | some q =>
        show some a.block ≠ some q.block
        intro e
        injection e with e
        rcases Nat.lt_or_gt_of_ne hne with hlt | hgt
        · exact hap j p hj hp hlt a q ha hbq e
        · exact hap p j hp hj hgt q a hbq ha e.symm
  refine ⟨⟨?_, fun y hy => ?_⟩, c1, unfrozen hh _⟩
  · rw [← fc_set1' X p hp A9 ((fAt X p).dat ++ b) c9, List.length_set]
    exact own_put how (p * 3 + 1) (by omega) _
  · obtain ⟨j, hj, rfl⟩ := List.mem_iff_getElem.1 hy
    rw [List.length_set] at hj
    rw [List.getElem_set]
    split
    · exact (Dt.own (e := ⟨(fAt X p).nm, (fAt X p).dat ++ b, (fAt X p).safe, A9, c9⟩) ho).set hh (by decide) _
    · exact (hoth j hj (by omega)).set hh (by decide) _
end Go.Proofs.Ytdpmlpclhojcjaa
