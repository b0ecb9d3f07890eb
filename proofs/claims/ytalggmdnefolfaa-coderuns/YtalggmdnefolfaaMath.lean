/-
  Plain mathematics: the published sum (CRC-32) over numbers, and numbers as bytes, the highest one first. No program, no condition.
-/
namespace Go.Proofs.Ytalggmdnefolfaa

/-- One bit of the sum. -/
def crcBit (c : Nat) : Nat := if c % 2 = 1 then (c / 2) ^^^ 3988292384 else c / 2

/-- So many bits of the sum. -/
def crcBits : Nat → Nat → Nat
  | 0, c => c
  | k + 1, c => crcBit (crcBits k c)

/-- The sum behind some bytes, from c on. -/
def crcOn (c : Nat) (l : List UInt8) : Nat := l.foldl (fun c b => crcBits 8 (c ^^^ b.toNat)) c

theorem crcBit_lt (c : Nat) (h : c < 4294967296) : crcBit c < 4294967296 := by
  unfold crcBit
  split
  · exact Nat.xor_lt_two_pow (n := 32) (by omega) (by omega)
  · omega

theorem crcBits_lt (k c : Nat) (h : c < 4294967296) : crcBits k c < 4294967296 := by
  induction k with
  | zero => exact h
  | succ k ih => exact crcBit_lt _ ih

theorem byte_lt (b : UInt8) : b.toNat < 256 := b.toNat_lt

theorem xor_byte_lt (c : Nat) (b : UInt8) (h : c < 4294967296) : c ^^^ b.toNat < 4294967296 :=
  Nat.xor_lt_two_pow (n := 32) h (by have := byte_lt b; omega)

theorem crcOn_lt (l : List UInt8) : ∀ c : Nat, c < 4294967296 → crcOn c l < 4294967296 := by
  induction l with
  | nil => intro c h; exact h
  | cons b l ih => intro c h; exact ih _ (crcBits_lt 8 _ (xor_byte_lt c b h))

theorem crcOn_append (c : Nat) (l m : List UInt8) : crcOn c (l ++ m) = crcOn (crcOn c l) m := by
  unfold crcOn; rw [List.foldl_append]

theorem crcOn_take (c : Nat) (l : List UInt8) (k : Nat) (h : k < l.length) :
    crcOn c (l.take (k + 1)) = crcBits 8 (crcOn c (l.take k) ^^^ l[k].toNat) := by
  rw [List.take_succ_eq_append_getElem h, crcOn_append]; rfl

theorem xor_cancel (a b c : Nat) (h : a ^^^ c = b ^^^ c) : a = b := by
  have : (a ^^^ c) ^^^ c = (b ^^^ c) ^^^ c := by rw [h]
  rwa [Nat.xor_assoc, Nat.xor_assoc, Nat.xor_self, Nat.xor_zero, Nat.xor_zero] at this

/-- A bit of the sum can be taken back. -/
theorem crcBit_inj (a b : Nat) (ha : a < 4294967296) (hb : b < 4294967296) (h : crcBit a = crcBit b) : a = b := by
  have top : ∀ x y : Nat, x < 2147483648 → y < 2147483648 → x ^^^ 3988292384 ≠ y := by
    intro x y hx hy e
    have t1 : (x ^^^ 3988292384).testBit 31 = true := by
      rw [Nat.testBit_xor, Nat.testBit_lt_two_pow (x := x) (i := 31) (by omega)]; rfl
    rw [e, Nat.testBit_lt_two_pow (x := y) (i := 31) (by omega)] at t1
    cases t1
  unfold crcBit at h
  split at h <;> split at h
  · have := xor_cancel _ _ _ h
    omega
  · exact absurd h (top _ _ (by omega) (by omega))
  · exact absurd h.symm (top _ _ (by omega) (by omega))
  · omega

theorem crcBits_inj (k a b : Nat) (ha : a < 4294967296) (hb : b < 4294967296) (h : crcBits k a = crcBits k b) : a = b := by
  induction k with
  | zero => exact h
  | succ k ih => exact ih (crcBit_inj _ _ (crcBits_lt k a ha) (crcBits_lt k b hb) h)

theorem crcOn_inj (l : List UInt8) : ∀ a b : Nat, a < 4294967296 → b < 4294967296 → crcOn a l = crcOn b l → a = b := by
  induction l with
  | nil => intro a b _ _ h; exact h
  | cons x l ih =>
    intro a b ha hb h
    have h1 := ih _ _ (crcBits_lt 8 _ (xor_byte_lt a x ha)) (crcBits_lt 8 _ (xor_byte_lt b x hb)) h
    have h2 := crcBits_inj 8 _ _ (xor_byte_lt a x ha) (xor_byte_lt b x hb) h1
    exact xor_cancel _ _ _ h2

/-- The k lowest bytes of a number, the highest one first. -/
def be : Nat → Nat → List UInt8
  | 0, _ => []
  | k + 1, n => be k (n / 256) ++ [UInt8.ofNat (n % 256)]

/-- The number of some bytes. -/
def valOf (l : List UInt8) : Nat := l.foldl (fun n b => n * 256 + b.toNat) 0

theorem be_length (k : Nat) : ∀ n, (be k n).length = k := by
  induction k with
  | zero => intro n; rfl
  | succ k ih => intro n; simp [be, ih]

theorem be_left (k : Nat) : ∀ n, be (k + 1) n = UInt8.ofNat (n / 256 ^ k % 256) :: be k n := by
  induction k with
  | zero => intro n; simp [be]
  | succ k ih =>
    intro n
    rw [be, ih (n / 256), Nat.div_div_eq_div_mul, ← Nat.pow_succ', List.cons_append]
    rfl

theorem valOf_snoc (l : List UInt8) (b : UInt8) : valOf (l ++ [b]) = valOf l * 256 + b.toNat := by
  unfold valOf; rw [List.foldl_append]; rfl

theorem valOf_take (l : List UInt8) (k : Nat) (h : k < l.length) : valOf (l.take (k + 1)) = valOf (l.take k) * 256 + l[k].toNat := by
  rw [List.take_succ_eq_append_getElem h, valOf_snoc]

theorem snoc_ind {P : List UInt8 → Prop} (h0 : P []) (h1 : ∀ l b, P l → P (l ++ [b])) (l : List UInt8) : P l := by
  have : ∀ k, k ≤ l.length → P (l.take k) := by
    intro k
    induction k with
    | zero => intro _; simpa using h0
    | succ k ih =>
      intro hk
      rw [List.take_succ_eq_append_getElem (by omega)]
      exact h1 _ _ (ih (by omega))
  have h := this l.length (Nat.le_refl _)
  rwa [List.take_length] at h

theorem valOf_lt (l : List UInt8) : valOf l < 256 ^ l.length := by
  induction l using snoc_ind with
  | h0 => simp [valOf]
  | h1 l b ih =>
    rw [valOf_snoc, List.length_append, List.length_singleton, Nat.pow_succ]
    have := byte_lt b
    omega

theorem byte_ofNat (n : Nat) : (UInt8.ofNat n).toNat = n % 256 := by simp

theorem valOf_be (k : Nat) : ∀ n, valOf (be k n) = n % 256 ^ k := by
  induction k with
  | zero => intro n; simp [be, valOf, Nat.mod_one]
  | succ k ih =>
    intro n
    rw [be, valOf_snoc, ih, byte_ofNat, Nat.mod_mod, Nat.pow_succ', Nat.mod_mul]
    omega

theorem be_valOf (l : List UInt8) : be l.length (valOf l) = l := by
  induction l using snoc_ind with
  | h0 => rfl
  | h1 l b ih =>
    have := byte_lt b
    rw [List.length_append, List.length_singleton, be, valOf_snoc, show (valOf l * 256 + b.toNat) / 256 = valOf l by omega, ih,
      show (valOf l * 256 + b.toNat) % 256 = b.toNat by omega, UInt8.ofNat_toNat]

theorem be_mod (k : Nat) (n : Nat) : be k n = be k (n % 256 ^ k) := by
  have h := be_valOf (be k n)
  rw [be_length, valOf_be] at h
  exact h.symm

theorem be_inj (k a b : Nat) (ha : a < 256 ^ k) (hb : b < 256 ^ k) (h : be k a = be k b) : a = b := by
  have := congrArg valOf h
  rw [valOf_be, valOf_be, Nat.mod_eq_of_lt ha, Nat.mod_eq_of_lt hb] at this
  exact this

end Go.Proofs.Ytalggmdnefolfaa
