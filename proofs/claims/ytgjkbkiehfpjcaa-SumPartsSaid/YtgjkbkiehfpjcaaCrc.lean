/- Plain mathematics of the sum: nothing of a dump. -/
namespace Go.Proofs.Ytgjkbkiehfpjcaa.Crc

/-- one bit -/
def tb (s : Nat) : Nat := s / 2 ^^^ (if s % 2 = 1 then 2197175160 else 0)
/-- n bits -/
def tbn : Nat → Nat → Nat
  | 0, s => s
  | k + 1, s => tb (tbn k s)

theorem tb_lt {s : Nat} (h : s < 4294967296) : tb s < 4294967296 := by
  unfold tb
  exact Nat.xor_lt_two_pow (n := 32) (by omega) (by split <;> omega)
theorem tbn_lt (k : Nat) {s : Nat} (h : s < 4294967296) : tbn k s < 4294967296 := by
  induction k with
  | zero => exact h
  | succ k ih => exact tb_lt ih

theorem xor_mod2 (a b : Nat) : (a ^^^ b) % 2 = (a % 2 + b % 2) % 2 := by
  have h := Nat.testBit_xor a b 0
  simp only [Nat.testBit_zero] at h
  rcases Nat.mod_two_eq_zero_or_one a with ha | ha <;> rcases Nat.mod_two_eq_zero_or_one b with hb | hb <;> rcases Nat.mod_two_eq_zero_or_one (a ^^^ b) with hc | hc <;> simp_all
theorem xor_div2 (a b : Nat) : (a ^^^ b) / 2 = a / 2 ^^^ b / 2 := by
  apply Nat.eq_of_testBit_eq
  intro i
  simp [Nat.testBit_xor, Nat.testBit_div_two]

theorem tb_xor (a b : Nat) : tb (a ^^^ b) = tb a ^^^ tb b := by
  unfold tb
  rw [xor_div2, xor_mod2]
  have lc : ∀ x y z : Nat, x ^^^ (y ^^^ z) = y ^^^ (x ^^^ z) := fun x y z => by rw [← Nat.xor_assoc, Nat.xor_comm x y, Nat.xor_assoc]
  rcases Nat.mod_two_eq_zero_or_one a with ha | ha <;> rcases Nat.mod_two_eq_zero_or_one b with hb | hb <;> simp [ha, hb, Nat.xor_assoc]
  · ac_rfl
  · rw [Nat.xor_comm (b / 2), ← Nat.xor_assoc 2197175160, Nat.xor_self, Nat.zero_xor]
theorem tbn_xor (k a b : Nat) : tbn k (a ^^^ b) = tbn k a ^^^ tbn k b := by
  induction k with
  | zero => rfl
  | succ k ih => simp only [tbn, ih, tb_xor]

theorem tb_zero : tb 0 = 0 := by decide
theorem tbn_zero (k : Nat) : tbn k 0 = 0 := by
  induction k with
  | zero => rfl
  | succ k ih => simp only [tbn, ih, tb_zero]

/-- a number whose last bits are 0 is shifted -/
theorem tbn_shift (k n : Nat) : tbn k (n * 2 ^ k) = n := by
  induction k generalizing n with
  | zero => simp [tbn]
  | succ k ih =>
    have e : n * 2 ^ (k + 1) = (n * 2) * 2 ^ k := by rw [Nat.pow_succ]; ac_rfl
    simp only [tbn, e, ih]
    unfold tb
    have h1 : (n * 2) % 2 = 0 := by omega
    have h2 : (n * 2) / 2 = n := by omega
    simp [h1, h2]

theorem split16 (s : Nat) : s = (s / 16 * 2 ^ 4) ^^^ (s % 16) := by
  apply Nat.eq_of_testBit_eq
  intro i
  rw [Nat.testBit_xor, show (16 : Nat) = 2 ^ 4 from rfl, Nat.testBit_mul_two_pow, Nat.testBit_div_two_pow, Nat.testBit_mod_two_pow]
  by_cases h : i < 4
  · have h4 : ¬ 4 ≤ i := by omega
    simp [h, h4]
  · have h4 : 4 ≤ i := by omega
    simp [h, h4, Nat.sub_add_cancel h4]

/-- half a byte by the table -/
theorem half_table (s : Nat) : tbn 4 s = s / 16 ^^^ tbn 4 (s % 16) := by
  have h := tbn_xor 4 (s / 16 * 2 ^ 4) (s % 16)
  rw [← split16, tbn_shift] at h
  exact h

theorem tbn_add (j k s : Nat) : tbn (j + k) s = tbn j (tbn k s) := by
  induction j with
  | zero => simp [tbn]
  | succ j ih => rw [Nat.succ_add]; simp only [tbn, ih]

/-- one byte -/
def bs (s c : Nat) : Nat := tbn 8 (s ^^^ c)
theorem bs_lt {s c : Nat} (h : s < 4294967296) (hc : c < 256) : bs s c < 4294967296 := tbn_lt 8 (Nat.xor_lt_two_pow (n := 32) h (by omega))
/-- the state behind bytes -/
def st (l : List Nat) : Nat := l.foldl bs 4294967295
/-- the sum of bytes -/
def sum (l : List Nat) : Nat := st l ^^^ 4294967295

theorem foldl_lt (l : List Nat) (hl : ∀ c ∈ l, c < 256) : ∀ s, s < 4294967296 → l.foldl bs s < 4294967296 := by
  induction l with
  | nil => intro s h; exact h
  | cons c r ih => intro s h; exact ih (fun x hx => hl x (List.mem_cons_of_mem _ hx)) _ (bs_lt h (hl c (List.mem_cons_self ..)))
theorem st_lt (l : List Nat) (hl : ∀ c ∈ l, c < 256) : st l < 4294967296 := foldl_lt l hl _ (by omega)
theorem sum_lt (l : List Nat) (hl : ∀ c ∈ l, c < 256) : sum l < 4294967296 := Nat.xor_lt_two_pow (n := 32) (st_lt l hl) (by omega)
theorem st_snoc (l : List Nat) (c : Nat) : st (l ++ [c]) = bs (st l) c := by simp [st]

/-- a bit step that makes 0 was one of 0 -/
theorem tb_eq_zero {s : Nat} (h : s < 4294967296) (e : tb s = 0) : s = 0 := by
  unfold tb at e
  by_cases h1 : s % 2 = 1
  · rw [if_pos h1] at e
    have : s / 2 = 2197175160 := by
      have := congrArg (· ^^^ 2197175160) e
      simpa [Nat.xor_assoc] using this
    omega
  · rw [if_neg h1] at e
    simp at e; omega
theorem tbn_eq_zero (k : Nat) {s : Nat} (h : s < 4294967296) (e : tbn k s = 0) : s = 0 := by
  induction k with
  | zero => exact e
  | succ k ih => exact ih (tb_eq_zero (tbn_lt k h) e)
theorem xor_eq_zero {a b : Nat} (h : a ^^^ b = 0) : a = b := by
  have := congrArg (· ^^^ b) h
  simpa [Nat.xor_assoc] using this
theorem tbn_inj (k : Nat) {a b : Nat} (ha : a < 4294967296) (hb : b < 4294967296) (e : tbn k a = tbn k b) : a = b := by
  refine xor_eq_zero (tbn_eq_zero k (Nat.xor_lt_two_pow (n := 32) ha hb) ?_)
  rw [tbn_xor, e, Nat.xor_self]
theorem xor_left_inj {a b c : Nat} (h : a ^^^ c = b ^^^ c) : a = b := by
  have := congrArg (· ^^^ c) h
  simpa [Nat.xor_assoc] using this
theorem xor_right_inj {a b c : Nat} (h : c ^^^ a = c ^^^ b) : a = b := xor_left_inj (c := c) (by rw [Nat.xor_comm a, Nat.xor_comm b]; exact h)

/-- from unlike states the same bytes lead to unlike states -/
theorem foldl_inj (l : List Nat) (hl : ∀ c ∈ l, c < 256) : ∀ s t, s < 4294967296 → t < 4294967296 → l.foldl bs s = l.foldl bs t → s = t := by
  induction l with
  | nil => intro s t _ _ h; exact h
  | cons c r ih =>
    intro s t hs ht h
    have hc := hl c (List.mem_cons_self ..)
    have h2 := ih (fun x hx => hl x (List.mem_cons_of_mem _ hx)) _ _ (bs_lt hs hc) (bs_lt ht hc) h
    exact xor_left_inj (tbn_inj 8 (Nat.xor_lt_two_pow (n := 32) hs (by omega)) (Nat.xor_lt_two_pow (n := 32) ht (by omega)) h2)

/-- bytes as one number, the first the lowest -/
def word : List Nat → Nat
  | [] => 0
  | c :: r => c ^^^ word r * 2 ^ 8

theorem foldl_word (l : List Nat) : ∀ s, l.foldl bs s = tbn (8 * l.length) (s ^^^ word l) := by
  induction l with
  | nil => intro s; simp [word, tbn]
  | cons c r ih =>
    intro s
    rw [List.foldl_cons, ih, List.length_cons, Nat.mul_succ, tbn_add, bs]
    congr 1
    rw [word, ← Nat.xor_assoc, tbn_xor 8 (s ^^^ c), tbn_shift]

theorem word_lt (l : List Nat) (hl : ∀ c ∈ l, c < 256) : word l < 2 ^ (8 * l.length) := by
  induction l with
  | nil => simp [word]
  | cons c r ih =>
    have h1 := ih fun x hx => hl x (List.mem_cons_of_mem _ hx)
    have hc := hl c (List.mem_cons_self ..)
    rw [word, List.length_cons, Nat.mul_succ]
    have e : 2 ^ (8 * r.length + 8) = 2 ^ (8 * r.length) * 2 ^ 8 := Nat.pow_add ..
    have h0 : 0 < 2 ^ (8 * r.length) := Nat.two_pow_pos _
    have k1 : c < 2 ^ (8 * r.length + 8) := by rw [e]; omega
    have k2 : word r * 2 ^ 8 < 2 ^ (8 * r.length + 8) := by rw [e]; exact Nat.mul_lt_mul_of_pos_right h1 (by decide)
    exact Nat.xor_lt_two_pow k1 k2

theorem word_inj (u v : List Nat) (hu : ∀ c ∈ u, c < 256) (hv : ∀ c ∈ v, c < 256) (h : u.length = v.length) (e : word u = word v) : u = v := by
  induction u generalizing v with
  | nil => cases v with
    | nil => rfl
    | cons _ _ => simp at h
  | cons c r ih =>
    cases v with
    | nil => simp at h
    | cons d t =>
      have hc := hu c (List.mem_cons_self ..)
      have hd := hv d (List.mem_cons_self ..)
      simp only [word] at e
      have low : ∀ x n : Nat, x < 256 → (x ^^^ n * 2 ^ 8) % 2 ^ 8 = x := fun x n hx => by
        apply Nat.eq_of_testBit_eq
        intro i
        rw [Nat.testBit_mod_two_pow, Nat.testBit_xor, Nat.testBit_mul_two_pow]
        by_cases h8 : i < 8
        · have : ¬ 8 ≤ i := by omega
          simp [h8, this]
        · have : x.testBit i = false := Nat.testBit_lt_two_pow (Nat.lt_of_lt_of_le hx (Nat.pow_le_pow_right (n := 2) (i := 8) (by decide) (by omega)))
          simp [h8, this]
      have e1 : c = d := by rw [← low c (word r) hc, ← low d (word t) hd, e]
      subst e1
      have e2 : word r * 2 ^ 8 = word t * 2 ^ 8 := xor_right_inj e
      have e3 : word r = word t := Nat.eq_of_mul_eq_mul_right (by decide) e2
      rw [ih t (fun x hx => hu x (List.mem_cons_of_mem _ hx)) (fun x hx => hv x (List.mem_cons_of_mem _ hx)) (by simpa using h) e3]

/-- at most four bytes: unlike bytes lead to unlike states -/
theorem foldl_four (u v : List Nat) (hu : ∀ c ∈ u, c < 256) (hv : ∀ c ∈ v, c < 256) (h : u.length = v.length) (h4 : u.length ≤ 4) (s : Nat) (hs : s < 4294967296) (e : u.foldl bs s = v.foldl bs s) : u = v := by
  rw [foldl_word, foldl_word, h] at e
  have hw : ∀ l : List Nat, (∀ c ∈ l, c < 256) → l.length ≤ 4 → word l < 4294967296 := fun l h1 h2 =>
    Nat.lt_of_lt_of_le (word_lt l h1) (Nat.pow_le_pow_right (n := 2) (j := 32) (by decide) (by omega))
  have := tbn_inj _ (Nat.xor_lt_two_pow (n := 32) hs (hw u hu h4)) (Nat.xor_lt_two_pow (n := 32) hs (hw v hv (by omega))) e
  exact word_inj u v hu hv h (xor_right_inj this)

/-- three rows turned by one another -/
theorem foldl_three : ∀ (a b c : List Nat), a.length = b.length → a.length = c.length → ∀ s t u : Nat,
    (List.zipWith (fun x y => x ^^^ y) (List.zipWith (fun x y => x ^^^ y) a b) c).foldl bs (s ^^^ t ^^^ u) = a.foldl bs s ^^^ b.foldl bs t ^^^ c.foldl bs u := by
  intro a
  induction a with
  | nil => intro b c hb hc s t u; cases b <;> cases c <;> simp_all
  | cons x a ih =>
    intro b c hb hc s t u
    match b, c, hb, hc with
    | y :: b, z :: c, hb, hc =>
      simp only [List.zipWith_cons_cons, List.foldl_cons]
      have e : bs (s ^^^ t ^^^ u) (x ^^^ y ^^^ z) = bs s x ^^^ bs t y ^^^ bs u z := by
        unfold bs
        rw [← tbn_xor, ← tbn_xor]
        congr 1
        ac_rfl
      rw [e, ih b c (by simpa using hb) (by simpa using hc)]
theorem sum_three (a b c : List Nat) (hb : a.length = b.length) (hc : a.length = c.length) :
    sum (List.zipWith (fun x y => x ^^^ y) (List.zipWith (fun x y => x ^^^ y) a b) c) = sum a ^^^ sum b ^^^ sum c := by
  have h := foldl_three a b c hb hc 4294967295 4294967295 4294967295
  have e : (4294967295 : Nat) ^^^ 4294967295 ^^^ 4294967295 = 4294967295 := by decide
  rw [e] at h
  unfold sum st
  rw [h]
  have k : ∀ p q r m : Nat, p ^^^ q ^^^ r ^^^ m = (p ^^^ m) ^^^ (q ^^^ m) ^^^ (r ^^^ m) := fun p q r m => by
    have : (p ^^^ m) ^^^ (q ^^^ m) ^^^ (r ^^^ m) = (p ^^^ q ^^^ r ^^^ m) ^^^ (m ^^^ m) := by ac_rfl
    rw [this]; simp
  exact k _ _ _ _

/-- a sum's own four bytes behind -/
theorem sum_own (b own : List Nat) (h4 : own.length = 4) (hw : word own = sum b) : sum (b ++ own) = 1214729159 := by
  unfold sum st at *
  rw [List.foldl_append, foldl_word own, h4, hw, ← Nat.xor_assoc, Nat.xor_self, Nat.zero_xor]
  decide +kernel
theorem sum_other (b other own : List Nat) (hb : ∀ c ∈ b, c < 256) (ho : ∀ c ∈ other, c < 256) (hn : ∀ c ∈ own, c < 256) (h4 : own.length = 4) (k4 : other.length = 4) (hw : word own = sum b) : sum (b ++ other) = 1214729159 ↔ own = other := by
  constructor
  · intro h
    rw [← sum_own b own h4 hw] at h
    unfold sum st at h
    have h2 := xor_left_inj h
    rw [List.foldl_append, List.foldl_append] at h2
    exact (foldl_four other own ho hn (by omega) (by omega) _ (foldl_lt b hb _ (by omega)) h2).symm
  · rintro rfl; exact sum_own b own h4 hw
end Go.Proofs.Ytgjkbkiehfpjcaa.Crc
