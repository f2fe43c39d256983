/-
  Numbers: Fermat's little theorem; Pocklington's criterion; 2^255 - 19 is prime.
-/
import Derived.KernelRfl
namespace Go.Proofs.YtdeigmjbcbjgeaaDoor

def Pr (p : Nat) : Prop := 2 ≤ p ∧ ∀ d, d ∣ p → d = 1 ∨ d = p
theorem Pr.pos {p : Nat} (h : Pr p) : 0 < p := by have := h.1; omega
theorem Pr.coprime {p a : Nat} (h : Pr p) (ha : ¬ p ∣ a) : Nat.Coprime p a := by
  rcases h.2 _ (Nat.gcd_dvd_left p a) with e | e
  · exact e
  · exact absurd (e ▸ Nat.gcd_dvd_right p a) ha
theorem Pr.euclid {p a b : Nat} (h : Pr p) (hd : p ∣ a * b) : p ∣ a ∨ p ∣ b := by
  by_cases ha : p ∣ a
  · exact .inl ha
  · exact .inr ((h.coprime ha).dvd_of_dvd_mul_left hd)
theorem Pr.small {p a : Nat} (_ : Pr p) (h0 : 0 < a) (h1 : a < p) : ¬ p ∣ a := fun hd => by have := Nat.le_of_dvd h0 hd; omega
/-! binomials -/
def ch : Nat → Nat → Nat
  | _, 0 => 1
  | 0, _ + 1 => 0
  | n + 1, k + 1 => ch n k + ch n (k + 1)
theorem ch_zero (n : Nat) : ch n 0 = 1 := by cases n <;> rfl
theorem ch_gt : ∀ (n k : Nat), n < k → ch n k = 0
  | 0, k + 1, _ => rfl
  | n + 1, k + 1, h => by rw [ch, ch_gt n k (by omega), ch_gt n (k + 1) (by omega)]
theorem ch_self : ∀ n : Nat, ch n n = 1
  | 0 => rfl
  | n + 1 => by rw [ch, ch_self n, ch_gt n (n + 1) (by omega)]
theorem ch_absorb : ∀ (n k : Nat), (k + 1) * ch (n + 1) (k + 1) = (n + 1) * ch n k
  | 0, 0 => rfl
  | 0, k + 1 => by show (k + 1 + 1) * (0 + 0) = (0 + 1) * 0; simp
  | n + 1, 0 => by
    have h := ch_absorb n 0
    rw [ch_zero] at h
    show (0 + 1) * (ch (n + 1) 0 + ch (n + 1) (0 + 1)) = (n + 1 + 1) * ch (n + 1) 0
    rw [ch_zero]
    omega
  | n + 1, k + 1 => by
    have h1 := ch_absorb n (k + 1)
    have h2 := ch_absorb n k
    have e1 : ch (n + 1 + 1) (k + 1 + 1) = ch (n + 1) (k + 1) + ch (n + 1) (k + 1 + 1) := rfl
    have e2 : ch (n + 1) (k + 1) = ch n k + ch n (k + 1) := rfl
    rw [e1, Nat.mul_add, h1]
    have e3 : (k + 1 + 1) * ch (n + 1) (k + 1) = (k + 1) * ch (n + 1) (k + 1) + ch (n + 1) (k + 1) := Nat.succ_mul _ _
    have e4 : (n + 1 + 1) * ch (n + 1) (k + 1) = (n + 1) * ch (n + 1) (k + 1) + ch (n + 1) (k + 1) := Nat.succ_mul _ _
    rw [e3, h2, e4]
    have e5 : (n + 1) * ch (n + 1) (k + 1) = (n + 1) * ch n k + (n + 1) * ch n (k + 1) := by rw [e2, Nat.mul_add]
    omega
theorem ch_dvd {p k : Nat} (hp : Pr p) (h0 : 0 < k) (hk : k < p) : p ∣ ch p k := by
  obtain ⟨j, rfl⟩ : ∃ j, k = j + 1 := ⟨k - 1, by omega⟩
  obtain ⟨n, rfl⟩ : ∃ n, p = n + 1 := ⟨p - 1, by omega⟩
  have h : n + 1 ∣ (j + 1) * ch (n + 1) (j + 1) := by rw [ch_absorb]; exact Nat.dvd_mul_right _ _
  rcases hp.euclid h with h | h
  · exact absurd h (hp.small (by omega) hk)
  · exact h
/-! sums -/
def sm (f : Nat → Nat) : Nat → Nat
  | 0 => 0
  | n + 1 => sm f n + f n
theorem sm_shift (f : Nat → Nat) : ∀ n, sm f (n + 1) = f 0 + sm (fun k => f (k + 1)) n
  | 0 => by simp [sm]
  | n + 1 => by rw [sm, sm_shift f n, sm]; omega
theorem sm_add (f g : Nat → Nat) : ∀ n, sm (fun k => f k + g k) n = sm f n + sm g n
  | 0 => rfl
  | n + 1 => by rw [sm, sm_add f g n, sm, sm]; omega
theorem sm_mul (f : Nat → Nat) (c : Nat) : ∀ n, sm (fun k => f k * c) n = sm f n * c
  | 0 => by simp [sm]
  | n + 1 => by rw [sm, sm_mul f c n, sm, Nat.add_mul]
theorem sm_congr {f g : Nat → Nat} : ∀ {n : Nat}, (∀ k, k < n → f k = g k) → sm f n = sm g n
  | 0, _ => rfl
  | n + 1, h => by rw [sm, sm, sm_congr (fun k hk => h k (by omega)), h n (by omega)]
theorem sm_dvd {f : Nat → Nat} {p : Nat} : ∀ {n : Nat}, (∀ k, k < n → p ∣ f k) → p ∣ sm f n
  | 0, _ => Nat.dvd_zero _
  | n + 1, h => Nat.dvd_add (sm_dvd fun k hk => h k (by omega)) (h n (by omega))
theorem binom (x : Nat) : ∀ n, (x + 1) ^ n = sm (fun k => ch n k * x ^ k) (n + 1)
  | 0 => by simp [sm, ch]
  | n + 1 => by
    have h1 : sm (fun k => ch (n + 1) k * x ^ k) (n + 1 + 1) = 1 + sm (fun k => ch n k * x ^ k * x + ch n (k + 1) * x ^ (k + 1)) (n + 1) := by
      have hc : sm (fun k => ch (n + 1) (k + 1) * x ^ (k + 1)) (n + 1) = sm (fun k => ch n k * x ^ k * x + ch n (k + 1) * x ^ (k + 1)) (n + 1) := sm_congr fun k _ => by
        show (ch n k + ch n (k + 1)) * x ^ (k + 1) = _
        rw [Nat.add_mul, Nat.pow_succ, Nat.mul_assoc]
      rw [sm_shift, hc, ch_zero, Nat.pow_zero, Nat.mul_one]
    have h2 : sm (fun k => ch n k * x ^ k) (n + 1 + 1) = 1 + sm (fun k => ch n (k + 1) * x ^ (k + 1)) (n + 1) := by
      rw [sm_shift, ch_zero]
      simp
    have h3 : sm (fun k => ch n k * x ^ k) (n + 1 + 1) = sm (fun k => ch n k * x ^ k) (n + 1) := by
      rw [sm, ch_gt n (n + 1) (by omega)]
      simp
    rw [h1, sm_add, sm_mul, Nat.pow_succ, binom x n, Nat.mul_add, Nat.mul_one]
    omega
theorem fermat_step {p : Nat} (hp : Pr p) (x : Nat) : (x + 1) ^ p % p = (x ^ p + 1) % p := by
  obtain ⟨n, rfl⟩ : ∃ n, p = n + 1 := ⟨p - 1, by have := hp.1; omega⟩
  rw [binom, sm, sm_shift, ch_self, ch_zero]
  obtain ⟨c, hc⟩ : n + 1 ∣ sm (fun k => ch (n + 1) (k + 1) * x ^ (k + 1)) n := sm_dvd fun k hk => Nat.dvd_mul_right_of_dvd (ch_dvd hp (by omega) (by omega)) _
  rw [hc]
  simp only [Nat.pow_zero, Nat.mul_one, Nat.one_mul]
  rw [show 1 + (n + 1) * c + x ^ (n + 1) = x ^ (n + 1) + 1 + (n + 1) * c by omega, Nat.add_mul_mod_self_left]
theorem fermat {p : Nat} (hp : Pr p) : ∀ x, x ^ p % p = x % p
  | 0 => by rw [Nat.zero_pow hp.pos]
  | x + 1 => by rw [fermat_step hp, ← Nat.mod_add_mod, fermat hp x, Nat.mod_add_mod]
theorem dvd_of_mod_eq {a b p : Nat} (h : a % p = b % p) (hab : b ≤ a) : p ∣ a - b := by
  have h1 := Nat.div_add_mod a p
  have h2 := Nat.div_add_mod b p
  refine ⟨a / p - b / p, ?_⟩
  rw [Nat.mul_sub]
  have := Nat.mul_le_mul_left p (Nat.div_le_div_right (c := p) hab)
  omega
theorem mod_of_dvd {a b p : Nat} (h : p ∣ a - b) (hab : b ≤ a) : a % p = b % p := by
  obtain ⟨c, hc⟩ := h
  rw [show a = b + p * c by omega, Nat.add_mul_mod_self_left]
theorem fermat1 {p : Nat} (hp : Pr p) {a : Nat} (ha : ¬ p ∣ a) : a ^ (p - 1) % p = 1 := by
  have h2 := hp.1
  have hpos : 0 < a := Nat.pos_of_ne_zero fun e => ha (e ▸ Nat.dvd_zero _)
  have h1 : 1 ≤ a ^ (p - 1) := Nat.pow_pos hpos
  have e : a ^ p = a ^ (p - 1) * a := by rw [← Nat.pow_succ]; congr 1; omega
  have hd : p ∣ a * (a ^ (p - 1) - 1) := by
    have := dvd_of_mod_eq (fermat hp a) (by rw [e]; exact Nat.le_mul_of_pos_left a h1)
    rw [e] at this
    rwa [Nat.mul_sub, Nat.mul_one, Nat.mul_comm a]
  rcases hp.euclid hd with h | h
  · exact absurd h ha
  · rw [mod_of_dvd h h1]
    exact Nat.mod_eq_of_lt (by omega)
/-! powers -/
theorem pow_mod_one {a m p k : Nat} (hp : 2 ≤ p) (h : a ^ m % p = 1) : a ^ (m * k) % p = 1 := by
  rw [Nat.pow_mul, Nat.pow_mod, h, Nat.one_pow]
  exact Nat.mod_eq_of_lt (by omega)
theorem pow_gcd {a p : Nat} (hp : 2 ≤ p) : ∀ m n : Nat, a ^ m % p = 1 → a ^ n % p = 1 → a ^ Nat.gcd m n % p = 1 := by
  intro m
  induction m using Nat.strongRecOn with
  | _ m ih =>
    intro n hm hn
    cases m with
    | zero => rwa [Nat.gcd_zero_left]
    | succ m =>
      rw [Nat.gcd_succ]
      refine ih _ (Nat.mod_lt _ (by omega)) _ ?_ hm
      have h1 := pow_mod_one (k := n / (m + 1)) hp hm
      have h2 : a ^ n = a ^ ((m + 1) * (n / (m + 1))) * a ^ (n % (m + 1)) := by rw [← Nat.pow_add, Nat.div_add_mod]
      rw [h2, Nat.mul_mod, h1, Nat.one_mul, Nat.mod_mod] at hn
      exact hn
/-! the least divisor -/
theorem least_div (n : Nat) (hn : 2 ≤ n) : ∃ d, Pr d ∧ d ∣ n := by
  induction n using Nat.strongRecOn with
  | _ n ih =>
    by_cases h : Pr n
    · exact ⟨n, h, Nat.dvd_refl n⟩
    · have : ∃ d, d ∣ n ∧ d ≠ 1 ∧ d ≠ n := Classical.byContradiction fun hc => h ⟨hn, fun d hd => by
        by_cases e1 : d = 1
        · exact .inl e1
        · by_cases e2 : d = n
          · exact .inr e2
          · exact absurd ⟨d, hd, e1, e2⟩ hc⟩
      obtain ⟨d, hd, h1, h2⟩ := this
      have hle := Nat.le_of_dvd (by omega) hd
      have h0 : d ≠ 0 := fun e => by rw [e, Nat.zero_dvd] at hd; omega
      obtain ⟨q, hq, hqd⟩ := ih d (by omega) (by omega)
      exact ⟨q, hq, Nat.dvd_trans hqd hd⟩
theorem small_div {n : Nat} (hn : 2 ≤ n) (h : ¬ Pr n) : ∃ d, Pr d ∧ d ∣ n ∧ d * d ≤ n := by
  have : ∃ d, d ∣ n ∧ d ≠ 1 ∧ d ≠ n := Classical.byContradiction fun hc => h ⟨hn, fun d hd => by
    by_cases e1 : d = 1
    · exact .inl e1
    · by_cases e2 : d = n
      · exact .inr e2
      · exact absurd ⟨d, hd, e1, e2⟩ hc⟩
  obtain ⟨d, hd, h1, h2⟩ := this
  obtain ⟨e, he⟩ := hd
  have hd0 : d ≠ 0 := fun q => by rw [q] at he; omega
  have he0 : e ≠ 0 := fun q => by rw [q] at he; omega
  have he1 : e ≠ 1 := fun q => by rw [q] at he; omega
  by_cases hde : d ≤ e
  · obtain ⟨q, hq, hqd⟩ := least_div d (by omega)
    have := Nat.le_of_dvd (by omega) hqd
    exact ⟨q, hq, Nat.dvd_trans hqd ⟨e, he⟩, by rw [he]; exact Nat.mul_le_mul this (by omega)⟩
  · obtain ⟨q, hq, hqe⟩ := least_div e (by omega)
    have := Nat.le_of_dvd (by omega) hqe
    exact ⟨q, hq, Nat.dvd_trans hqe ⟨d, by rw [he, Nat.mul_comm]⟩, by rw [he]; exact Nat.mul_le_mul (by omega) this⟩
/-! Pocklington -/
theorem pock_one {n d r m a : Nat} (hd : Pr d) (hdn : d ∣ n) (hr : Pr r) (hm : n - 1 = r * m) (h1 : a ^ (n - 1) % n = 1) (h2 : Nat.Coprime (a ^ m % n + (n - 1)) n) (hn : 2 ≤ n) : r ∣ d - 1 := by
  refine Classical.byContradiction fun hnd => ?_
  have e1 : a ^ (n - 1) % d = 1 := by
    rw [← Nat.mod_mod_of_dvd _ hdn, h1]
    exact Nat.mod_eq_of_lt hd.1
  have hda : ¬ d ∣ a := fun h => by
    obtain ⟨c, rfl⟩ := h
    have hm0 : 0 < n - 1 := by omega
    rw [Nat.mul_pow, Nat.mul_mod, Nat.pow_mod, Nat.mod_self, Nat.zero_pow hm0] at e1
    simp at e1
  have e2 := fermat1 hd hda
  have e3 := pow_gcd hd.1 _ _ e1 e2
  have hg : Nat.gcd (n - 1) (d - 1) ∣ m := by
    have hc : Nat.Coprime (Nat.gcd (n - 1) (d - 1)) r := by
      rw [Nat.coprime_comm]
      refine hr.coprime fun h => hnd (Nat.dvd_trans h (Nat.gcd_dvd_right _ _))
    refine hc.dvd_of_dvd_mul_left ?_
    rw [← hm]
    exact Nat.gcd_dvd_left _ _
  obtain ⟨c, hc⟩ := hg
  have e4 : a ^ m % d = 1 := by rw [hc]; exact pow_mod_one hd.1 e3
  have e5 : d ∣ a ^ m % n + (n - 1) := by
    apply Nat.dvd_of_mod_eq_zero
    rw [Nat.add_mod, Nat.mod_mod_of_dvd _ hdn, e4]
    obtain ⟨q, hq⟩ := hdn
    have hd2 := hd.1
    have hq0 : q ≠ 0 := fun e => by rw [e] at hq; omega
    have e6 : (n - 1) % d = d - 1 := by
      have : n - 1 = (d - 1) + d * (q - 1) := by
        obtain ⟨k, rfl⟩ : ∃ k, q = k + 1 := ⟨q - 1, by omega⟩
        rw [hq, Nat.mul_add]
        simp
        omega
      rw [this, Nat.add_mul_mod_self_left, Nat.mod_eq_of_lt (by omega)]
    rw [e6, show 1 + (d - 1) = d by omega, Nat.mod_self]
  have e7 : d ∣ 1 := by
    rw [← h2]
    exact Nat.dvd_gcd e5 hdn
  have := Nat.le_of_dvd (by omega) e7
  have := hd.1
  omega
theorem pock {n F : Nat} (hn : 2 ≤ n) (hF : ∀ d, Pr d → d ∣ n → F ∣ d - 1) (hs : n < (F + 1) * (F + 1)) : Pr n := by
  refine Classical.byContradiction fun h => ?_
  obtain ⟨d, hd, hdn, hdd⟩ := small_div hn h
  have h2 := hd.1
  have := Nat.le_of_dvd (by omega) (hF d hd hdn)
  have := Nat.mul_le_mul (show F + 1 ≤ d by omega) (show F + 1 ≤ d by omega)
  omega
theorem pock1 {n r m a : Nat} (hn : 2 ≤ n) (hr : Pr r) (hm : n - 1 = r * m) (h1 : a ^ (n - 1) % n = 1) (h2 : Nat.Coprime (a ^ m % n + (n - 1)) n) (hs : n < (r + 1) * (r + 1)) : Pr n :=
  pock hn (fun _ hd hdn => pock_one hd hdn hr hm h1 h2 hn) hs
theorem pock2 {n r s m k a : Nat} (hn : 2 ≤ n) (hr : Pr r) (hq : Pr s) (hrs : r ≠ s) (hm : n - 1 = r * m) (hk : n - 1 = s * k) (h1 : a ^ (n - 1) % n = 1) (h2 : Nat.Coprime (a ^ m % n + (n - 1)) n) (h3 : Nat.Coprime (a ^ k % n + (n - 1)) n)
    (hs : n < (r * s + 1) * (r * s + 1)) : Pr n :=
  pock hn (fun d hd hdn => by
    have hc : Nat.Coprime r s := hr.coprime fun h => by
      rcases hq.2 r h with e | e
      · have := hr.1; omega
      · exact hrs e
    exact hc.mul_dvd_of_dvd_of_dvd (pock_one hd hdn hr hm h1 h2 hn) (pock_one hd hdn hq hk h1 h3 hn)) hs
/-! powers, reckoned -/
/-- x to the number of e's upper bits, modulo n. -/
def pmk (x e n : Nat) : Nat → Nat
  | 0 => 1
  | k + 1 => if Nat.testBit e (255 - k) then pmk x e n k * pmk x e n k % n * x % n else pmk x e n k * pmk x e n k % n
theorem pmk_eq (x e n : Nat) (hn : 2 ≤ n) (he : e < 2 ^ 256) : ∀ k, k ≤ 256 → pmk x e n k = x ^ (e / 2 ^ (256 - k)) % n := by
  intro k
  induction k with
  | zero =>
    intro _
    rw [pmk, Nat.sub_zero, Nat.div_eq_of_lt he, Nat.pow_zero, Nat.mod_eq_of_lt (by omega)]
  | succ k ih =>
    intro hk
    have ih := ih (by omega)
    have hdd : e / 2 ^ (256 - k) = e / 2 ^ (256 - (k + 1)) / 2 := by
      rw [Nat.div_div_eq_div_mul, ← Nat.pow_succ]
      congr 2
      omega
    have hb : Nat.testBit e (255 - k) = decide (e / 2 ^ (256 - (k + 1)) % 2 = 1) := by
      rw [Nat.testBit_eq_decide_div_mod_eq, show 255 - k = 256 - (k + 1) by omega]
    rw [pmk, hb, ih, hdd]
    generalize e / 2 ^ (256 - (k + 1)) = y
    have hsq : x ^ (y / 2) % n * (x ^ (y / 2) % n) % n = x ^ (y / 2 * 2) % n := by rw [← Nat.mul_mod, ← Nat.pow_two, ← Nat.pow_mul]
    rw [hsq]
    have : y % 2 = 0 ∨ y % 2 = 1 := by omega
    rcases this with h | h
    · rw [h, if_neg (by decide), show y / 2 * 2 = y by omega]
    · rw [h, if_pos (by decide), Nat.mod_mul_mod, ← Nat.pow_succ]
      show x ^ (y / 2 * 2 + 1) % n = _
      rw [show y / 2 * 2 + 1 = y by omega]
def pm (x e n : Nat) : Nat := pmk x e n 256
theorem pm_eq (x e n : Nat) (hn : 2 ≤ n) (he : e < 2 ^ 256) : pm x e n = x ^ e % n := by
  rw [pm, pmk_eq x e n hn he 256 (Nat.le_refl _)]
  simp
theorem pock1' {n r m a : Nat} (hn : 2 ≤ n) (hb : n < 2 ^ 256) (hr : Pr r) (hm : n - 1 = r * m) (h1 : pm a (n - 1) n = 1) (h2 : Nat.gcd (pm a m n + (n - 1)) n = 1) (hs : n < (r + 1) * (r + 1)) : Pr n := by
  have hr0 := hr.pos
  have hmb : m < 2 ^ 256 := by
    have := Nat.le_mul_of_pos_left m hr0
    omega
  rw [pm_eq _ _ _ hn (by omega)] at h1
  rw [pm_eq _ _ _ hn hmb] at h2
  exact pock1 hn hr hm h1 h2 hs
theorem pock2' {n r s m k a : Nat} (hn : 2 ≤ n) (hb : n < 2 ^ 256) (hr : Pr r) (hq : Pr s) (hrs : r ≠ s) (hm : n - 1 = r * m) (hk : n - 1 = s * k) (h1 : pm a (n - 1) n = 1) (h2 : Nat.gcd (pm a m n + (n - 1)) n = 1) (h3 : Nat.gcd (pm a k n + (n - 1)) n = 1)
    (hs : n < (r * s + 1) * (r * s + 1)) : Pr n := by
  have hr0 := hr.pos
  have hs0 := hq.pos
  have hmb : m < 2 ^ 256 := by
    have := Nat.le_mul_of_pos_left m hr0
    omega
  have hkb : k < 2 ^ 256 := by
    have := Nat.le_mul_of_pos_left k hs0
    omega
  rw [pm_eq _ _ _ hn (by omega)] at h1
  rw [pm_eq _ _ _ hn hmb] at h2
  rw [pm_eq _ _ _ hn hkb] at h3
  exact pock2 hn hr hq hrs hm hk h1 h2 h3 hs
/-! small primes -/
def noDiv (n : Nat) : Nat → Nat → Bool
  | 0, _ => true
  | f + 1, d => n % d != 0 && noDiv n f (d + 1)
theorem noDiv_of {n : Nat} : ∀ (f d : Nat), noDiv n f d = true → ∀ q, d ≤ q → q < d + f → ¬ q ∣ n
  | 0, d, _, q, h1, h2 => by omega
  | f + 1, d, h, q, h1, h2 => by
    rw [noDiv, Bool.and_eq_true] at h
    by_cases e : q = d
    · subst e
      intro hd
      have := Nat.mod_eq_zero_of_dvd hd
      simp [this] at h
    · exact noDiv_of f (d + 1) h.2 q (by omega) (by omega)
theorem trial {n f : Nat} (hn : 2 ≤ n) (h : noDiv n f 2 = true) (hs : n < (f + 2) * (f + 2)) : Pr n := by
  refine Classical.byContradiction fun hp => ?_
  obtain ⟨d, hd, hdn, hdd⟩ := small_div hn hp
  have hlt : d < f + 2 := Nat.lt_of_not_le fun hle => by
    have := Nat.mul_le_mul hle hle
    omega
  exact noDiv_of f 2 h d hd.1 (by omega) hdn
set_option maxRecDepth 100000
theorem pr_127 : Pr 127 := trial (f := 12) (by decide) (by kernel_rfl) (by decide)
theorem pr_4153 : Pr 4153 := trial (f := 70) (by decide) (by kernel_rfl) (by decide)
theorem pr_430751 : Pr 430751 := trial (f := 660) (by decide) (by kernel_rfl) (by decide)
theorem pr_569003 : Pr 569003 := trial (f := 760) (by decide) (by kernel_rfl) (by decide)
theorem pr_8574133 : Pr 8574133 := trial (f := 2930) (by decide) (by kernel_rfl) (by decide)
theorem pr_2773320623 : Pr 2773320623 := pock1' (r := 569003) (m := 4874) (a := 2) (by decide) (by decide) pr_569003 (by decide) (by kernel_rfl) (by kernel_rfl) (by decide)
theorem pr_72106336199 : Pr 72106336199 := pock1' (r := 2773320623) (m := 26) (a := 2) (by decide) (by decide) pr_2773320623 (by decide) (by kernel_rfl) (by kernel_rfl) (by decide)
theorem pr_1919519569386763 : Pr 1919519569386763 := pock2' (r := 8574133) (s := 127) (m := 223873314) (k := 15114327318006) (a := 2) (by decide) (by decide) pr_8574133 pr_127 (by decide) (by decide) (by decide) (by kernel_rfl) (by kernel_rfl) (by kernel_rfl) (by decide)
theorem pr_75445702479781427272750846543864801 : Pr 75445702479781427272750846543864801 := pock2' (r := 1919519569386763) (s := 72106336199) (m := 39304471641247389600) (k := 1046311689884858398375200) (a := 2) (by decide) (by decide) pr_1919519569386763 pr_72106336199 (by decide) (by decide) (by decide) (by kernel_rfl) (by kernel_rfl) (by kernel_rfl) (by decide)
theorem pr_31757755568855353 : Pr 31757755568855353 := pock2' (r := 430751) (s := 4153) (m := 73726481352) (k := 7646943310584) (a := 2) (by decide) (by decide) pr_430751 pr_4153 (by decide) (by decide) (by decide) (by kernel_rfl) (by kernel_rfl) (by kernel_rfl) (by decide)
theorem pr_74058212732561358302231226437062788676166966415465897661863160754340907 : Pr 74058212732561358302231226437062788676166966415465897661863160754340907 := pock2' (r := 75445702479781427272750846543864801) (s := 31757755568855353) (m := 981609426360740691344999861639072106) (k := 2331972502653487852620185443007392165117953542933313402) (a := 2) (by decide) (by decide) pr_75445702479781427272750846543864801 pr_31757755568855353 (by decide) (by decide) (by decide) (by kernel_rfl) (by kernel_rfl) (by kernel_rfl) (by decide)
theorem pr_57896044618658097711785492504343953926634992332820282019728792003956564819949 : Pr 57896044618658097711785492504343953926634992332820282019728792003956564819949 := pock1' (r := 74058212732561358302231226437062788676166966415465897661863160754340907) (m := 781764) (a := 2) (by decide) (by decide) pr_74058212732561358302231226437062788676166966415465897661863160754340907 (by decide) (by kernel_rfl) (by kernel_rfl) (by decide)
end Go.Proofs.YtdeigmjbcbjgeaaDoor
