/-
  Numbers: Fermat's little theorem; Pocklington's criterion; 2^255 - 19 is prime.
-/
import Derived.KernelRfl
namespace Go.Proofs.YtdeigmjbcbjgeaaGreatDoor

def Pr (p : Nat) : Prop := 2 ≤ p ∧ ∀ d, d ∣ p → d = 1 ∨ d = p
theorem Pr.pos {p : Nat} (h : Pr p) : 0 < p := by have := h.1; omega
theorem Pr.coprime {p a : Nat} (h : Pr p) (ha : ¬ p ∣ a) : Nat.Coprime p a := by
  rcases h.2 _ (Nat.gcd_dvd_left p a) with e | e
  · exact e
  · exact absurd (e ▸ Nat.gcd_dvd_right p a) ha
theorem Pr.euclid {p a b : Nat} (h : Pr p) (hd : p ∣ a * b) : p ∣ a ∨ p ∣ b := by
  by_cases ha : p ∣ a
  · exact .inl ha
  · exact .inr ((h.coprime ha).dvd_of_dvd_mul_left hd)
theorem Pr.small {p a : Nat} (_ : Pr p) (h0 : 0 < a) (h1 : a < p) : ¬ p ∣ a := fun hd => by have := Nat.le_of_dvd h0 hd; omega
/-! binomials -/
def ch : Nat → Nat → Nat
  | _, 0 => 1
  | 0, _ + 1 => 0
  | n + 1, k + 1 => ch n k + ch n (k + 1)
theorem ch_zero (n : Nat) : ch n 0 = 1 := by cases n <;> rfl
theorem ch_gt : ∀ (n k : Nat), n < k → ch n k = 0
  | 0, k + 1, _ => rfl
  | n + 1, k + 1, h => by rw [ch, ch_gt n k (by omega), ch_gt n (k + 1) (by omega)]
theorem ch_self : ∀ n : Nat, ch n n = 1
  | 0 => rfl
  | n + 1 => by rw [ch, ch_self n, ch_gt n (n + 1) (by omega)]
theorem ch_absorb : ∀ (n k : Nat), (k + 1) * ch (n + 1) (k + 1) = (n + 1) * ch n k
  | 0, 0 => rfl
  | 0, k + 1 => by show (k + 1 + 1) * (0 + 0) = (0 + 1) * 0; simp
  | n + 1, 0 => by
    have h := ch_absorb n 0
    rw [ch_zero] at h
    show (0 + 1) * (ch (n + 1) 0 + ch (n + 1) (0 + 1)) = (n + 1 + 1) * ch (n + 1) 0
    rw [ch_zero]
    omega
  | n + 1, k + 1 => by
    have h1 := ch_absorb n (k + 1)
    have h2 := ch_absorb n k
    have e1 : ch (n + 1 + 1) (k + 1 + 1) = ch (n + 1) (k + 1) + ch (n + 1) (k + 1 + 1) := rfl
    have e2 : ch (n + 1) (k + 1) = ch n k + ch n (k + 1) := rfl
    rw [e1, Nat.mul_add, h1]
    have e3 : (k + 1 + 1) * ch (n + 1) (k + 1) = (k + 1) * ch (n + 1) (k + 1) + ch (n + 1) (k + 1) := Nat.succ_mul _ _
    have e4 : (n + 1 + 1) * ch (n + 1) (k + 1) = (n + 1) * ch (n + 1) (k + 1) + ch (n + 1) (k + 1) := Nat.succ_mul _ _
    rw [e3, h2, e4]
    have e5 : (n + 1) * ch (n + 1) (k + 1) = (n + 1) * ch n k + (n + 1) * ch n (k + 1) := by rw [e2, Nat.mul_add]
    omega
theorem ch_dvd {p k : Nat} (hp : Pr p) (h0 : 0 < k) (hk : k < p) : p ∣ ch p k := by
  obtain ⟨j, rfl⟩ : ∃ j, k = j + 1 := ⟨k - 1, by omega⟩
  obtain ⟨n, rfl⟩ : ∃ n, p = n + 1 := ⟨p - 1, by omega⟩
  have h : n + 1 ∣ (j + 1) * ch (n + 1) (j + 1) := by rw [ch_absorb]; exact Nat.dvd_mul_right _ _
  rcases hp.euclid h with h | h
  · exact absurd h (hp.small (by omega) hk)
  · exact h
/-! sums -/
def sm (f : Nat → Nat) : Nat → Nat
  | 0 => 0
  | n + 1 => sm f n + f n
theorem sm_shift (f : Nat → Nat) : ∀ n, sm f (n + 1) = f 0 + sm (fun k => f (k + 1)) n
  | 0 => by simp [sm]
  | n + 1 => by rw [sm, sm_shift f n, sm]; omega
theorem sm_add (f g : Nat → Nat) : ∀ n, sm (fun k => f k + g k) n = sm f n + sm g n
  | 0 => rfl
  | n + 1 => by rw [sm, sm_add f g n, sm, sm]; omega
theorem sm_mul (f : Nat → Nat) (c : Nat) : ∀ n, sm (fun k => f k * c) n = sm f n * c
  | 0 => by simp [sm]
  | n + 1 => by rw [sm, sm_mul f c n, sm, Nat.add_mul]
theorem sm_congr {f g : Nat → Nat} : ∀ {n : Nat}, (∀ k, k < n → f k = g k) → sm f n = sm g n
  | 0, _ => rfl
  | n + 1, h => by rw [sm, sm, sm_congr (fun k hk => h k (by omega)), h n (by omega)]
theorem sm_dvd {f : Nat → Nat} {p : Nat} : ∀ {n : Nat}, (∀ k, k < n → p ∣ f k) → p ∣ sm f n
  | 0, _ => Nat.dvd_zero _
  | n + 1, h => Nat.dvd_add (sm_dvd fun k hk => h k (by omega)) (h n (by omega))
theorem binom (x : Nat) : ∀ n, (x + 1) ^ n = sm (fun k => ch n k * x ^ k) (n + 1)
  | 0 => by simp [sm, ch]
  | n + 1 => by
    have h1 : sm (fun k => ch (n + 1) k * x ^ k) (n + 1 + 1) = 1 + sm (fun k => ch n k * x ^ k * x + ch n (k + 1) * x ^ (k + 1)) (n + 1) := by
      have hc : sm (fun k => ch (n + 1) (k + 1) * x ^ (k + 1)) (n + 1) = sm (fun k => ch n k * x ^ k * x + ch n (k + 1) * x ^ (k + 1)) (n + 1) := sm_congr fun k _ => by
        show (ch n k + ch n (k + 1)) * x ^ (k + 1) = _
        rw [Nat.add_mul, Nat.pow_succ, Nat.mul_assoc]
      rw [sm_shift, hc, ch_zero, Nat.pow_zero, Nat.mul_one]
    have h2 : sm (fun k => ch n k * x ^ k) (n + 1 + 1) = 1 + sm (fun k => ch n (k + 1) * x ^ (k + 1)) (n + 1) := by
      rw [sm_shift, ch_zero]
      simp
    have h3 : sm (fun k => ch n k * x ^ k) (n + 1 + 1) = sm (fun k => ch n k * x ^ k) (n + 1) := by
      rw [sm, ch_gt n (n + 1) (by omega)]
      simp
    rw [h1, sm_add, sm_mul, Nat.pow_succ, binom x n, Nat.mul_add, Nat.mul_one]
    omega
theorem fermat_step {p : Nat} (hp : Pr p) (x : Nat) : (x + 1) ^ p % p = (x ^ p + 1) % p := by
  obtain ⟨n, rfl⟩ : ∃ n, p = n + 1 := ⟨p - 1, by have := hp.1; omega⟩
  rw [binom, sm, sm_shift, ch_self, ch_zero]
  obtain ⟨c, hc⟩ : n + 1 ∣ sm (fun k => ch (n + 1) (k + 1) * x ^ (k + 1)) n := sm_dvd fun k hk => Nat.dvd_mul_right_of_dvd (ch_dvd hp (by omega) (by omega)) _
  rw [hc]
  simp only [Nat.pow_zero, Nat.mul_one, Nat.one_mul]
  rw [show 1 + (n + 1) * c + x ^ (n + 1) = x ^ (n + 1) + 1 + (n + 1) * c by omega, Nat.add_mul_mod_self_left]
theorem fermat {p : Nat} (hp : Pr p) : ∀ x, x ^ p % p = x % p
  | 0 => by rw [Nat.zero_pow hp.pos]
  | x + 1 => by rw [fermat_step hp, ← Nat.mod_add_mod, fermat hp x, Nat.mod_add_mod]
theorem dvd_of_mod_eq {a b p : Nat} (h : a % p = b % p) (hab : b ≤ a) : p ∣ a - b := by
  have h1 := Nat.div_add_mod a p
  have h2 := Nat.div_add_mod b p
  refine ⟨a / p - b / p, ?_⟩
  rw [Nat.mul_sub]
  have := Nat.mul_le_mul_left p (Nat.div_le_div_right (c := p) hab)
  omega
theorem mod_of_dvd {a b p : Nat} (h : p ∣ a - b) (hab : b ≤ a) : a % p = b % p := by
  obtain ⟨c, hc⟩ := h
  rw [show a = b + p * c by omega, Nat.add_mul_mod_self_left]
theorem fermat1 {p : Nat} (hp : Pr p) {a : Nat} (ha : ¬ p ∣ a) : a ^ (p - 1) % p = 1 := by
  have h2 := hp.1
  have hpos : 0 < a := Nat.pos_of_ne_zero fun e => ha (e ▸ Nat.dvd_zero _)
  have h1 : 1 ≤ a ^ (p - 1) := Nat.pow_pos hpos
  have e : a ^ p = a ^ (p - 1) * a := by rw [← Nat.pow_succ]; congr 1; omega
  have hd : p ∣ a * (a ^ (p - 1) - 1) := by
    have := dvd_of_mod_eq (fermat hp a) (by rw [e]; exact Nat.le_mul_of_pos_left a h1)
    rw [e] at this
    rwa [Nat.mul_sub, Nat.mul_one, Nat.mul_comm a]
  rcases hp.euclid hd with h | h
  · exact absurd h ha
  · rw [mod_of_dvd h h1]
    exact Nat.mod_eq_of_lt (by omega)
/-! powers -/
theorem pow_mod_one {a m p k : Nat} (hp : 2 ≤ p) (h : a ^ m % p = 1) : a ^ (m * k) % p = 1 := by
  rw [Nat.pow_mul, Nat.pow_mod, h, Nat.one_pow]
  exact Nat.mod_eq_of_lt (by omega)
theorem pow_gcd {a p : Nat} (hp : 2 ≤ p) : ∀ m n : Nat, a ^ m % p = 1 → a ^ n % p = 1 → a ^ Nat.gcd m n % p = 1 := by
  intro m
  induction m using Nat.strongRecOn with
  | _ m ih =>
    intro n hm hn
    cases m with
    | zero => rwa [Nat.gcd_zero_left]
    | succ m =>
      rw [Nat.gcd_succ]
      refine ih _ (Nat.mod_lt _ (by omega)) _ ?_ hm
      have h1 := pow_mod_one (k := n / (m + 1)) hp hm
      have h2 : a ^ n = a ^ ((m + 1) * (n / (m + 1))) * a ^ (n % (m + 1)) := by rw [← Nat.pow_add, Nat.div_add_mod]
      rw [h2, Nat.mul_mod, h1, Nat.one_mul, Nat.mod_mod] at hn
      exact hn
/-! the least divisor -/
theorem least_div (n : Nat) (hn : 2 ≤ n) : ∃ d, Pr d ∧ d ∣ n := by
  induction n using Nat.strongRecOn with
  | _ n ih =>
    by_cases h : Pr n
    · exact ⟨n, h, Nat.dvd_refl n⟩
    · have : ∃ d, d ∣ n ∧ d ≠ 1 ∧ d ≠ n := Classical.byContradiction fun hc => h ⟨hn, fun d hd => by
        by_cases e1 : d = 1
        · exact .inl e1
        · by_cases e2 : d = n
          · exact .inr e2
          · exact absurd ⟨d, hd, e1, e2⟩ hc⟩
      obtain ⟨d, hd, h1, h2⟩ := this
      have hle := Nat.le_of_dvd (by omega) hd
      have h0 : d ≠ 0 := fun e => by rw [e, Nat.zero_dvd] at hd; omega
      obtain ⟨q, hq, hqd⟩ := ih d (by omega) (by omega)
      exact ⟨q, hq, Nat.dvd_trans hqd hd⟩
theorem small_div {n : Nat} (hn : 2 ≤ n) (h : ¬ Pr n) : ∃ d, Pr d ∧ d ∣ n ∧ d * d ≤ n := by
  have : ∃ d, d ∣ n ∧ d ≠ 1 ∧ d ≠ n := Classical.byContradiction fun hc => h ⟨hn, fun d hd => by
    by_cases e1 : d = 1
    · exact .inl e1
    · by_cases e2 : d = n
      · exact .inr e2
      · exact absurd ⟨d, hd, e1, e2⟩ hc⟩
  obtain ⟨d, hd, h1, h2⟩ := this
  obtain ⟨e, he⟩ := hd
  have hd0 : d ≠ 0 := fun q => by rw [q] at he; omega
  have he0 : e ≠ 0 := fun q => by rw [q] at he; omega
  have he1 : e ≠ 1 := fun q => by rw [q] at he; omega
  by_cases hde : d ≤ e
  · obtain ⟨q, hq, hqd⟩ := least_div d (by omega)
    have := Nat.le_of_dvd (by omega) hqd
    exact ⟨q, hq, Nat.dvd_trans hqd ⟨e, he⟩, by rw [he]; exact Nat.mul_le_mul this (by omega)⟩
  · obtain ⟨q, hq, hqe⟩ := least_div e (by omega)
    have := Nat.le_of_dvd (by omega) hqe
    exact ⟨q, hq, Nat.dvd_trans hqe ⟨d, by rw [he, Nat.mul_comm]⟩, by rw [he]; exact Nat.mul_le_mul (by omega) this⟩
/-! Pocklington -/
theorem pock_one {n d r m a : Nat} (hd : Pr d) (hdn : d ∣ n) (hr : Pr r) (hm : n - 1 = r * m) (h1 : a ^ (n - 1) % n = 1) (h2 : Nat.Coprime (a ^ m % n + (n - 1)) n) (hn : 2 ≤ n) : r ∣ d - 1 := by
  refine Classical.byContradiction fun hnd => ?_
  have e1 : a ^ (n - 1) % d = 1 := by
    rw [← Nat.mod_mod_of_dvd _ hdn, h1]
    exact Nat.mod_eq_of_lt hd.1
  have hda : ¬ d ∣ a := fun h => by
    obtain ⟨c, rfl⟩ := h
    have hm0 : 0 < n - 1 := by omega
    rw [Nat.mul_pow, Nat.mul_mod, Nat.pow_mod, Nat.mod_self, Nat.zero_pow hm0] at e1
    simp at e1
  have e2 := fermat1 hd hda
  have e3 := pow_gcd hd.1 _ _ e1 e2
  have hg : Nat.gcd (n - 1) (d - 1) ∣ m := by
    have hc : Nat.Coprime (Nat.gcd (n - 1) (d - 1)) r := by
      rw [Nat.coprime_comm]
      refine hr.coprime fun h => hnd (Nat.dvd_trans h (Nat.gcd_dvd_right _ _))
    refine hc.dvd_of_dvd_mul_left ?_
    rw [← hm]
    exact Nat.gcd_dvd_left _ _
  obtain ⟨c, hc⟩ := hg
  have e4 : a ^ m % d = 1 := by rw [hc]; exact pow_mod_one hd.1 e3
  have e5 : d ∣ a ^ m % n + (n - 1) := by
    apply Nat.dvd_of_mod_eq_zero
    rw [Nat.add_mod, Nat.mod_mod_of_dvd _ hdn, e4]
    obtain ⟨q, hq⟩ := hdn
    have hd2 := hd.1
    have hq0 : q ≠ 0 := fun e => by rw [e] at hq; omega
    have e6 : (n - 1) % d = d - 1 := by
      have : n - 1 = (d - 1) + d * (q - 1) := by
        obtain ⟨k, rfl⟩ : ∃ k, q = k + 1 := ⟨q - 1, by omega⟩
        rw [hq, Nat.mul_add]
        simp
        omega
      rw [this, Nat.add_mul_mod_self_left, Nat.mod_eq_of_lt (by omega)]
    rw [e6, show 1 + (d - 1) = d by omega, Nat.mod_self]
  have e7 : d ∣ 1 := by
    rw [← h2]
    exact Nat.dvd_gcd e5 hdn
  have := Nat.le_of_dvd (by omega) e7
  have := hd.1
  omega
theorem pock {n F : Nat} (hn : 2 ≤ n) (hF : ∀ d, Pr d → d ∣ n → F ∣ d - 1) (hs : n < (F + 1) * (F + 1)) : Pr n := by
  refine Classical.byContradiction fun h => ?_
  obtain ⟨d, hd, hdn, hdd⟩ := small_div hn h
  have h2 := hd.1
  have := Nat.le_of_dvd (by omega) (hF d hd hdn)
  have := Nat.mul_le_mul (show F + 1 ≤ d by omega) (show F + 1 ≤ d by omega)
  omega
theorem pock1 {n r m a : Nat} (hn : 2 ≤ n) (hr : Pr r) (hm : n - 1 = r * m) (h1 : a ^ (n - 1) % n = 1) (h2 : Nat.Coprime (a ^ m % n + (n - 1)) n) (hs : n < (r + 1) * (r + 1)) : Pr n :=
  pock hn (fun _ hd hdn => pock_one hd hdn hr hm h1 h2 hn) hs
theorem pock2 {n r s m k a : Nat} (hn : 2 ≤ n) (hr : Pr r) (hq : Pr s) (hrs : r ≠ s) (hm : n - 1 = r * m) (hk : n - 1 = s * k) (h1 : a ^ (n - 1) % n = 1) (h2 : Nat.Coprime (a ^ m % n + (n - 1)) n) (h3 : Nat.Coprime (a ^ k % n + (n - 1)) n)
    (hs : n < (r * s + 1) * (r * s + 1)) : Pr n :=
  pock hn (fun d hd hdn => by
    have hc : Nat.Coprime r s := hr.coprime fun h => by
      rcases hq.2 r h with e | e
      · have := hr.1; omega
      · exact hrs e
    exact hc.mul_dvd_of_dvd_of_dvd (pock_one hd hdn hr hm h1 h2 hn) (pock_one hd hdn hq hk h1 h3 hn)) hs
/-! powers, reckoned -/
/-- x to the number of e's upper bits, modulo n. -/
def pmk (x e n : Nat) : Nat → Nat
  | 0 => 1
  | k + 1 => if Nat.testBit e (255 - k) then pmk x e n k * pmk x e n k % n * x % n else pmk x e n k * pmk x e n k % n
theorem pmk_eq (x e n : Nat) (hn : 2 ≤ n) (he : e < 2 ^ 256) : ∀ k, k ≤ 256 → pmk x e n k = x ^ (e / 2 ^ (256 - k)) % n := by
  intro k
  induction k with
  | zero =>
    intro _
    rw [pmk, Nat.sub_zero, Nat.div_eq_of_lt he, Nat.pow_zero, Nat.mod_eq_of_lt (by omega)]
  | succ k ih =>
    intro hk
    have ih := ih (by omega)
    have hdd : e / 2 ^ (256 - k) = e / 2 ^ (256 - (k + 1)) / 2 := by
      rw [Nat.div_div_eq_div_mul, ← Nat.pow_succ]
      congr 2
      omega
    have hb : Nat.testBit e (255 - k) = decide (e / 2 ^ (256 - (k + 1)) % 2 = 1) := by
      rw [Nat.testBit_eq_decide_div_mod_eq, show 255 - k = 256 - (k + 1) by omega]
    rw [pmk, hb, ih, hdd]
    generalize e / 2 ^ (256 - (k + 1)) = y
    have hsq : x ^ (y / 2) % n * (x ^ (y / 2) % n) % n = x ^ (y / 2 * 2) % n := by rw [← Nat.mul_mod, ← Nat.pow_two, ← Nat.pow_mul]
    rw [hsq]
    have : y % 2 = 0 ∨ y % 2 = 1 := by omega
    rcases this with h | h
    · rw [h, if_neg (by decide), show y / 2 * 2 = y by omega]
    · rw [h, if_pos (by decide), Nat.mod_mul_mod, ← Nat.pow_succ]
      show x ^ (y / 2 * 2 + 1) % n = _
      rw [show y / 2 * 2 + 1 = y by omega]
def pm (x e n : Nat) : Nat := pmk x e n 256
theorem pm_eq (x e n : Nat) (hn : 2 ≤ n) (he : e < 2 ^ 256) : pm x e n = x ^ e % n := by
  rw [pm, pmk_eq x e n hn he 256 (Nat.le_refl _)]
  simp
theorem pock1' {n r m a : Nat} (hn : 2 ≤ n) (hb : n < 2 ^ 256) (hr : Pr r) (hm : n - 1 = r * m) (h1 : pm a (n - 1) n = 1) (h2 : Nat.gcd (pm a m n + (n - 1)) n = 1) (hs : n < (r + 1) * (r + 1)) : Pr n := by
  have hr0 := hr.pos
  have hmb : m < 2 ^ 256 := by
    have := Nat.le_mul_of_pos_left m hr0
    omega
  rw [pm_eq _ _ _ hn (by omega)] at h1
  rw [pm_eq _ _ _ hn hmb] at h2
  exact pock1 hn hr hm h1 h2 hs
theorem pock2' {n r s m k a : Nat} (hn : 2 ≤ n) (hb : n < 2 ^ 256) (hr : Pr r) (hq : Pr s) (hrs : r ≠ s) (hm : n - 1 = r * m) (hk : n - 1 = s * k) (h1 : pm a (n - 1) n = 1) (h2 : Nat.gcd (pm a m n + (n - 1)) n = 1) (h3 : Nat.gcd (pm a k n + (n - 1)) n = 1)
    (hs : n < (r * s + 1) * (r * s + 1)) : Pr n := by
  have hr0 := hr.pos
  have hs0 := hq.pos
  have hmb : m < 2 ^ 256 := by
    have := Nat.le_mul_of_pos_left m hr0
    omega
  have hkb : k < 2 ^ 256 := by
    have := Nat.le_mul_of_pos_left k hs0
    omega
  rw [pm_eq _ _ _ hn (by omega)] at h1
  rw [pm_eq _ _ _ hn hmb] at h2
  rw [pm_eq _ _ _ hn hkb] at h3
  exact pock2 hn hr hq hrs hm hk h1 h2 h3 hs
/-! small primes -/
def noDiv (n : Nat) : Nat → Nat → Bool
  | 0, _ => true
  | f + 1, d => n % d != 0 && noDiv n f (d + 1)
theorem noDiv_of {n : Nat} : ∀ (f d : Nat), noDiv n f d = true → ∀ q, d ≤ q → q < d + f → ¬ q ∣ n
  | 0, d, _, q, h1, h2 => by omega
  | f + 1, d, h, q, h1, h2 => by
    rw [noDiv, Bool.and_eq_true] at h
    by_cases e : q = d
    · subst e
      intro hd
      have := Nat.mod_eq_zero_of_dvd hd
      simp [this] at h
    · exact noDiv_of f (d + 1) h.2 q (by omega) (by omega)
theorem trial {n f : Nat} (hn : 2 ≤ n) (h : noDiv n f 2 = true) (hs : n < (f + 2) * (f + 2)) : Pr n := by
  refine Classical.byContradiction fun hp => ?_
  obtain ⟨d, hd, hdn, hdd⟩ := small_div hn hp
  have hlt : d < f + 2 := Nat.lt_of_not_le fun hle => by
    have := Nat.mul_le_mul hle hle
    omega
  exact noDiv_of f 2 h d hd.1 (by omega) hdn
set_option maxRecDepth 100000
theorem pr_127 : Pr 127 := trial (f := 12) (by decide) (by kernel_rfl) (by decide)
theorem pr_4153 : Pr 4153 := trial (f := 70) (by decide) (by kernel_rfl) (by decide)
theorem pr_430751 : Pr 430751 := trial (f := 660) (by decide) (by kernel_rfl) (by decide)
theorem pr_569003 : Pr 569003 := trial (f := 760) (by decide) (by kernel_rfl) (by decide)
theorem pr_8574133 : Pr 8574133 := trial (f := 2930) (by decide) (by kernel_rfl) (by decide)
theorem pr_2773320623 : Pr 2773320623 := pock1' (r := 569003) (m := 4874) (a := 2) (by decide) (by decide) pr_569003 (by decide) (by kernel_rfl) (by kernel_rfl) (by decide)
theorem pr_72106336199 : Pr 72106336199 := pock1' (r := 2773320623) (m := 26) (a := 2) (by decide) (by decide) pr_2773320623 (by decide) (by kernel_rfl) (by kernel_rfl) (by decide)
theorem pr_1919519569386763 : Pr 1919519569386763 := pock2' (r := 8574133) (s := 127) (m := 223873314) (k := 15114327318006) (a := 2) (by decide) (by decide) pr_8574133 pr_127 (by decide) (by decide) (by decide) (by kernel_rfl) (by kernel_rfl) (by kernel_rfl) (by decide)
theorem pr_75445702479781427272750846543864801 : Pr 75445702479781427272750846543864801 := pock2' (r := 1919519569386763) (s := 72106336199) (m := 39304471641247389600) (k := 1046311689884858398375200) (a := 2) (by decide) (by decide) pr_1919519569386763 pr_72106336199 (by decide) (by decide) (by decide) (by kernel_rfl) (by kernel_rfl) (by kernel_rfl) (by decide)
theorem pr_31757755568855353 : Pr 31757755568855353 := pock2' (r := 430751) (s := 4153) (m := 73726481352) (k := 7646943310584) (a := 2) (by decide) (by decide) pr_430751 pr_4153 (by decide) (by decide) (by decide) (by kernel_rfl) (by kernel_rfl) (by kernel_rfl) (by decide)
theorem pr_74058212732561358302231226437062788676166966415465897661863160754340907 : Pr 74058212732561358302231226437062788676166966415465897661863160754340907 := pock2' (r := 75445702479781427272750846543864801) (s := 31757755568855353) (m := 981609426360740691344999861639072106) (k := 2331972502653487852620185443007392165117953542933313402) (a := 2) (by decide) (by decide) pr_75445702479781427272750846543864801 pr_31757755568855353 (by decide) (by decide) (by decide) (by kernel_rfl) (by kernel_rfl) (by kernel_rfl) (by decide)
theorem pr_57896044618658097711785492504343953926634992332820282019728792003956564819949 : Pr 57896044618658097711785492504343953926634992332820282019728792003956564819949 := pock1' (r := 74058212732561358302231226437062788676166966415465897661863160754340907) (m := 781764) (a := 2) (by decide) (by decide) pr_74058212732561358302231226437062788676166966415465897661863160754340907 (by decide) (by kernel_rfl) (by kernel_rfl) (by decide)
end Go.Proofs.YtdeigmjbcbjgeaaGreatDoor
/-
  Layers 9 and 10: the field of 2^255 - 19 numbers, and the group of the curve.
-/
namespace Go.Proofs.YtdeigmjbcbjgeaaGreatDoor

abbrev FF := Fin 57896044618658097711785492504343953926634992332820282019728792003956564819949
theorem prF : Pr 57896044618658097711785492504343953926634992332820282019728792003956564819949 := pr_57896044618658097711785492504343953926634992332820282019728792003956564819949
theorem inv_gen {p a : Nat} (hp : Pr p) (ha : ¬ p ∣ a) : ∃ b, b < p ∧ a * b % p = 1 := by
  have h2 := hp.1
  refine ⟨a ^ (p - 2) % p, Nat.mod_lt _ (by omega), ?_⟩
  rw [Nat.mul_mod_mod, Nat.mul_comm, ← Nat.pow_succ, show (p - 2).succ = p - 1 by omega]
  exact fermat1 hp ha
theorem ff_dvd {a : FF} (h : a ≠ 0) : ¬ 57896044618658097711785492504343953926634992332820282019728792003956564819949 ∣ a.val := by
  refine prF.small (Nat.pos_of_ne_zero fun e => h (Fin.ext e)) a.isLt
theorem ff_zero {a b : FF} (h : a * b = 0) : a = 0 ∨ b = 0 := by
  have h1 := congrArg Fin.val h
  rw [Fin.val_mul] at h1
  rcases prF.euclid (Nat.dvd_of_mod_eq_zero h1) with hd | hd
  · exact .inl (Classical.byContradiction fun hn => ff_dvd hn hd)
  · exact .inr (Classical.byContradiction fun hn => ff_dvd hn hd)
theorem ff_mul_ne {a b : FF} (ha : a ≠ 0) (hb : b ≠ 0) : a * b ≠ 0 := fun h => (ff_zero h).elim ha hb
theorem ff_inv {a : FF} (h : a ≠ 0) : ∃ b : FF, a * b = 1 := by
  obtain ⟨b, hb, e⟩ := inv_gen prF (ff_dvd h)
  exact ⟨⟨b, hb⟩, Fin.ext (by rw [Fin.val_mul]; exact e)⟩
open Classical in
/-- The inverse, and 0 for 0. -/
noncomputable def ffi (a : FF) : FF := if h : ∃ b, a * b = 1 then Classical.choose h else 0
theorem ffi_mul {a : FF} (h : a ≠ 0) : a * ffi a = 1 := by
  unfold ffi
  rw [dif_pos (ff_inv h)]
  exact Classical.choose_spec (ff_inv h)
theorem ffi_zero : ffi 0 = 0 := by
  unfold ffi
  rw [dif_neg]
  rintro ⟨b, h⟩
  have : (0 : FF) * b = 0 := by grind
  rw [this] at h
  exact absurd h (by decide)
theorem ff_cancel {k a b : FF} (hk : k ≠ 0) (h : k * a = k * b) : a = b := by
  have h1 : k * (a - b) = 0 := by grind -lia -linarith (splits := 0)
  rcases ff_zero h1 with e | e
  · exact absurd e hk
  · grind -lia -linarith (splits := 0)
theorem ffi_uniq {a b : FF} (h : a * b = 1) : ffi a = b := by
  have ha : a ≠ 0 := by
    rintro rfl
    have : (0 : FF) * b = 0 := by grind
    rw [this] at h
    exact absurd h (by decide)
  exact ff_cancel ha ((ffi_mul ha).trans h.symm)
/-- A quotient. -/
theorem ffi_div {a b x : FF} (hb : b ≠ 0) : x = a * ffi b ↔ x * b = a := by
  have h1 := ffi_mul hb
  generalize ffi b = z at h1 ⊢
  constructor
  · intro e
    rw [e]
    grind -lia -linarith (splits := 0)
  · intro h
    apply ff_cancel hb
    grind -lia -linarith (splits := 0)
theorem ff_two : (2 : FF) ≠ 0 := by decide

/-! the curve -/
@[irreducible] def cE : FF := 29203323570479832313932222820853031755424015489030106335172286495629888845891
@[irreducible] def iE : FF := 19681161376707505956807079304988542015446066515923890162744021073123829784752
set_option maxRecDepth 100000 in
theorem iE_sq : iE * iE = -1 := by unfold iE; decide
theorem cE_ne : cE ≠ 0 := by unfold cE; decide
theorem cE_pow : pm 29203323570479832313932222820853031755424015489030106335172286495629888845891 28948022309329048855892746252171976963317496166410141009864396001978282409974 57896044618658097711785492504343953926634992332820282019728792003956564819949 ≠ 1 := by
  have : pm 29203323570479832313932222820853031755424015489030106335172286495629888845891 28948022309329048855892746252171976963317496166410141009864396001978282409974 57896044618658097711785492504343953926634992332820282019728792003956564819949 = 57896044618658097711785492504343953926634992332820282019728792003956564819948 := by kernel_rfl
  rw [this]
  decide
theorem nsq_gen {p c s h : Nat} (hp : Pr p) (hb : h < 2 ^ 256) (e : p - 1 = 2 * h) (hc : pm c h p ≠ 1) (hs : ¬ p ∣ s) : s * s % p ≠ c % p := by
  intro hq
  apply hc
  rw [pm_eq c h p hp.1 hb, Nat.pow_mod, ← hq, ← Nat.pow_mod, ← Nat.pow_two, ← Nat.pow_mul, ← e]
  exact fermat1 hp hs
theorem cE_nsq (s : FF) : s * s ≠ cE := by
  intro h
  by_cases hs : s = 0
  · rw [hs] at h
    exact cE_ne (h.symm.trans (by decide))
  · refine nsq_gen prF (by decide) (by decide) cE_pow (ff_dvd hs) ?_
    have h1 := congrArg Fin.val h
    rw [Fin.val_mul] at h1
    rw [h1]
    unfold cE
    decide
/-- A point's coordinates. -/
def On (x y : FF) : Prop := x * x * y * y = cE * (y * y - x * x - 1)
theorem on_ne {x1 y1 x2 y2 i c : FF} (hc : ∀ s : FF, s * s ≠ c) (hi : i * i = -1) (h1 : x1 * x1 * y1 * y1 = c * (y1 * y1 - x1 * x1 - 1)) (h2 : x2 * x2 * y2 * y2 = c * (y2 * y2 - x2 * x2 - 1)) : (x1 * x2 * y1 * y2) * (x1 * x2 * y1 * y2) ≠ c * c := by
  intro he
  have hc0 : c ≠ 0 := by
    rintro rfl
    exact hc 0 (by decide)
  have hx : x1 * y1 ≠ 0 := by
    intro e
    have : c * c = 0 := by rw [← he]; grind -lia -linarith (splits := 0)
    exact ff_mul_ne hc0 hc0 this
  have ea : (c * i * x1 + x1 * x2 * y1 * y2 * y1) * (c * i * x1 + x1 * x2 * y1 * y2 * y1) = c * (x1 * x1 * y1 * y1) * ((i * x2 + y2) * (i * x2 + y2)) := by grind -lia -linarith (splits := 0)
  have eb : (c * i * x1 - x1 * x2 * y1 * y2 * y1) * (c * i * x1 - x1 * x2 * y1 * y2 * y1) = c * (x1 * x1 * y1 * y1) * ((i * x2 - y2) * (i * x2 - y2)) := by grind -lia -linarith (splits := 0)
  have key : ∀ u v : FF, u * u = c * (x1 * x1 * y1 * y1) * (v * v) → v = 0 := by
    intro u v e
    refine Classical.byContradiction fun hv => ?_
    have hw := ff_mul_ne hx hv
    have h3 := ffi_mul hw
    refine hc (u * ffi (x1 * y1 * v)) ?_
    generalize ffi (x1 * y1 * v) = z at h3 ⊢
    have h4 : (x1 * y1 * v) * (x1 * y1 * v) * (u * z * (u * z)) = (x1 * y1 * v) * (x1 * y1 * v) * c := by grind -lia -linarith (splits := 0)
    exact ff_cancel (ff_mul_ne hw hw) h4
  have va := key _ _ ea
  have vb := key _ _ eb
  have hy2 : 2 * y2 = 0 := by grind -lia -linarith (splits := 0)
  rcases ff_zero hy2 with e | e
  · exact ff_two e
  · have : c * c = 0 := by rw [← he, e]; grind -lia -linarith (splits := 0)
    exact ff_mul_ne hc0 hc0 this
theorem den_ne {x1 y1 x2 y2 : FF} (h1 : On x1 y1) (h2 : On x2 y2) : cE + x1 * x2 * y1 * y2 ≠ 0 ∧ cE - x1 * x2 * y1 * y2 ≠ 0 := by
  have h := on_ne cE_nsq iE_sq h1 h2
  generalize x1 * x2 * y1 * y2 = e at h ⊢
  generalize cE = c at h ⊢
  constructor
  · intro h3
    exact h (by grind -lia -linarith (splits := 0))
  · intro h3
    exact h (by grind -lia -linarith (splits := 0))
@[ext] structure Pt where
  x : FF
  y : FF
  on : On x y
theorem closed_id {c x1 y1 x2 y2 : FF} (h1 : x1 * x1 * y1 * y1 = c * (y1 * y1 - x1 * x1 - 1)) (h2 : x2 * x2 * y2 * y2 = c * (y2 * y2 - x2 * x2 - 1)) :
    (c * (x1 * y2 + x2 * y1)) * (c * (x1 * y2 + x2 * y1)) * (c * (y1 * y2 + x1 * x2)) * (c * (y1 * y2 + x1 * x2)) = c * ((c * (y1 * y2 + x1 * x2)) * (c * (y1 * y2 + x1 * x2)) * ((c + x1 * x2 * y1 * y2) * (c + x1 * x2 * y1 * y2)) - (c * (x1 * y2 + x2 * y1)) * (c * (x1 * y2 + x2 * y1)) * ((c - x1 * x2 * y1 * y2) * (c - x1 * x2 * y1 * y2)) - (c + x1 * x2 * y1 * y2) * (c + x1 * x2 * y1 * y2) * ((c - x1 * x2 * y1 * y2) * (c - x1 * x2 * y1 * y2))) := by
  grind -lia -linarith (splits := 0)
theorem closed_gen {c a b u v n m : FF} (hu : u ≠ 0) (hv : v ≠ 0) (ha : a * u = n) (hb : b * v = m) (h : n * n * m * m = c * (m * m * (u * u) - n * n * (v * v) - u * u * (v * v))) : a * a * b * b = c * (b * b - a * a - 1) := by
  refine ff_cancel (ff_mul_ne (ff_mul_ne hu hv) (ff_mul_ne hu hv)) ?_
  subst ha hb
  grind -lia -linarith (splits := 0)
theorem closed {x1 y1 x2 y2 a b : FF} (h1 : On x1 y1) (h2 : On x2 y2) (ha : a * (cE + x1 * x2 * y1 * y2) = cE * (x1 * y2 + x2 * y1)) (hb : b * (cE - x1 * x2 * y1 * y2) = cE * (y1 * y2 + x1 * x2)) : On a b :=
  closed_gen (den_ne h1 h2).1 (den_ne h1 h2).2 ha hb (closed_id h1 h2)
noncomputable def Pt.add (P Q : Pt) : Pt where
  x := cE * (P.x * Q.y + Q.x * P.y) * ffi (cE + P.x * Q.x * P.y * Q.y)
  y := cE * (P.y * Q.y + P.x * Q.x) * ffi (cE - P.x * Q.x * P.y * Q.y)
  on := closed P.on Q.on ((ffi_div (den_ne P.on Q.on).1).1 rfl) ((ffi_div (den_ne P.on Q.on).2).1 rfl)
theorem add_x (P Q : Pt) : (P.add Q).x * (cE + P.x * Q.x * P.y * Q.y) = cE * (P.x * Q.y + Q.x * P.y) := (ffi_div (den_ne P.on Q.on).1).1 rfl
theorem add_y (P Q : Pt) : (P.add Q).y * (cE - P.x * Q.x * P.y * Q.y) = cE * (P.y * Q.y + P.x * Q.x) := (ffi_div (den_ne P.on Q.on).2).1 rfl
theorem add_eq {P Q R : Pt} (hx : R.x * (cE + P.x * Q.x * P.y * Q.y) = cE * (P.x * Q.y + Q.x * P.y)) (hy : R.y * (cE - P.x * Q.x * P.y * Q.y) = cE * (P.y * Q.y + P.x * Q.x)) : P.add Q = R :=
  Pt.ext ((ffi_div (den_ne P.on Q.on).1).2 hx).symm ((ffi_div (den_ne P.on Q.on).2).2 hy).symm
def Pt.zero : Pt := ⟨0, 1, by unfold On; grind -lia -linarith (splits := 0)⟩
def Pt.neg (P : Pt) : Pt := ⟨-P.x, P.y, by have h := P.on; unfold On at h ⊢; grind -lia -linarith (splits := 0)⟩
theorem Pt.add_comm (P Q : Pt) : P.add Q = Q.add P := by
  have hx := add_x Q P
  have hy := add_y Q P
  exact add_eq (by grind -lia -linarith (splits := 0)) (by grind -lia -linarith (splits := 0))
theorem Pt.add_zero (P : Pt) : P.add .zero = P := by
  refine add_eq ?_ ?_
  · show P.x * (cE + P.x * 0 * P.y * 1) = cE * (P.x * 1 + 0 * P.y)
    grind -lia -linarith (splits := 0)
  · show P.y * (cE - P.x * 0 * P.y * 1) = cE * (P.y * 1 + P.x * 0)
    grind -lia -linarith (splits := 0)
theorem Pt.zero_add (P : Pt) : Pt.zero.add P = P := (Pt.add_comm _ _).trans P.add_zero
theorem as_x {c x1 y1 x2 y2 x3 y3 : FF} (h1 : x1 * x1 * y1 * y1 = c * (y1 * y1 - x1 * x1 - 1)) (h2 : x2 * x2 * y2 * y2 = c * (y2 * y2 - x2 * x2 - 1)) (h3 : x3 * x3 * y3 * y3 = c * (y3 * y3 - x3 * x3 - 1)) :
    ((x1 * y2 + x2 * y1) * (c - x1 * x2 * y1 * y2) * y3 + x3 * (y1 * y2 + x1 * x2) * (c + x1 * x2 * y1 * y2)) * ((c + x2 * x3 * y2 * y3) * (c - x2 * x3 * y2 * y3) + c * (x1 * y1 * (x2 * y3 + x3 * y2) * (y2 * y3 + x2 * x3))) =
    (x1 * (y2 * y3 + x2 * x3) * (c + x2 * x3 * y2 * y3) + y1 * (x2 * y3 + x3 * y2) * (c - x2 * x3 * y2 * y3)) * ((c + x1 * x2 * y1 * y2) * (c - x1 * x2 * y1 * y2) + c * (x3 * y3 * (x1 * y2 + x2 * y1) * (y1 * y2 + x1 * x2))) := by
  grind -lia -linarith (splits := 0)
theorem as_y {c x1 y1 x2 y2 x3 y3 : FF} (h1 : x1 * x1 * y1 * y1 = c * (y1 * y1 - x1 * x1 - 1)) (h2 : x2 * x2 * y2 * y2 = c * (y2 * y2 - x2 * x2 - 1)) (h3 : x3 * x3 * y3 * y3 = c * (y3 * y3 - x3 * x3 - 1)) :
    ((y1 * y2 + x1 * x2) * (c + x1 * x2 * y1 * y2) * y3 + x3 * (x1 * y2 + x2 * y1) * (c - x1 * x2 * y1 * y2)) * ((c + x2 * x3 * y2 * y3) * (c - x2 * x3 * y2 * y3) - c * (x1 * y1 * (x2 * y3 + x3 * y2) * (y2 * y3 + x2 * x3))) =
    (y1 * (y2 * y3 + x2 * x3) * (c + x2 * x3 * y2 * y3) + x1 * (x2 * y3 + x3 * y2) * (c - x2 * x3 * y2 * y3)) * ((c + x1 * x2 * y1 * y2) * (c - x1 * x2 * y1 * y2) - c * (x3 * y3 * (x1 * y2 + x2 * y1) * (y1 * y2 + x1 * x2))) := by
  grind -lia -linarith (splits := 0)
theorem as_num {c a b u v n m x y : FF} (ha : a * u = n) (hb : b * v = m) : c * (x * b + a * y) * (u * v) = c * (x * m * u + y * n * v) := by
  subst ha hb
  grind -lia -linarith (splits := 0)
theorem as_nuy {c a b u v n m x y : FF} (ha : a * u = n) (hb : b * v = m) : c * (y * b + x * a) * (u * v) = c * (y * m * u + x * n * v) := by
  subst ha hb
  grind -lia -linarith (splits := 0)
theorem as_den {c a b u v n m x y : FF} (ha : a * u = n) (hb : b * v = m) : (c + x * a * y * b) * (u * v) = c * (u * v) + x * y * (n * m) := by
  subst ha hb
  grind -lia -linarith (splits := 0)
theorem as_dey {c a b u v n m x y : FF} (ha : a * u = n) (hb : b * v = m) : (c - x * a * y * b) * (u * v) = c * (u * v) - x * y * (n * m) := by
  subst ha hb
  grind -lia -linarith (splits := 0)
theorem as_fin {X k1 L1 k2 L2 s t l1 d2 d1 l2 : FF} (hs : s ≠ 0) (ht : t ≠ 0) (hk : k1 ≠ 0) (hX : X * k1 = L1) (e1 : L1 * t = l1) (e2 : k2 * s = d2) (e3 : k1 * t = d1) (e4 : L2 * s = l2) (e : l1 * d2 = l2 * d1) : X * k2 = L2 := by
  refine ff_cancel (ff_mul_ne hk (ff_mul_ne hs ht)) ?_
  subst hX e1 e2 e3 e4
  grind -lia -linarith (splits := 0)
theorem Pt.add_assoc (P Q R : Pt) : (P.add Q).add R = P.add (Q.add R) := by
  have ha := add_x P Q
  have hb := add_y P Q
  have hc := add_x Q R
  have hd := add_y Q R
  have hu := (den_ne P.on Q.on).1
  have hv := (den_ne P.on Q.on).2
  have hw := (den_ne Q.on R.on).1
  have hz := (den_ne Q.on R.on).2
  have hs := ff_mul_ne hu hv
  have ht := ff_mul_ne hw hz
  have k1 := den_ne P.on (Q.add R).on
  have f1 := add_x P (Q.add R)
  have f2 := add_y P (Q.add R)
  have x1 := as_x P.on Q.on R.on
  have y1 := as_y P.on Q.on R.on
  refine add_eq ?_ ?_
  · rw [show (P.add Q).x * R.x * (P.add Q).y * R.y = R.x * (P.add Q).x * R.y * (P.add Q).y by grind -lia -linarith (splits := 0), show (P.add Q).x * R.y + R.x * (P.add Q).y = R.x * (P.add Q).y + (P.add Q).x * R.y by grind -lia -linarith (splits := 0)]
    rw [show P.x * (Q.add R).y + (Q.add R).x * P.y = P.x * (Q.add R).y + (Q.add R).x * P.y from rfl, show P.x * (Q.add R).x * P.y * (Q.add R).y = P.x * (Q.add R).x * P.y * (Q.add R).y from rfl] at f1
    refine as_fin hs ht k1.1 f1 (as_num hc hd) (as_den ha hb) (as_den hc hd) (as_num ha hb) ?_
    clear ha hb hc hd hu hv hw hz hs ht k1 f1 f2 y1
    revert x1
    generalize cE = c
    generalize P.x * Q.y + Q.x * P.y = n
    generalize P.y * Q.y + P.x * Q.x = m
    generalize Q.x * R.y + R.x * Q.y = n'
    generalize Q.y * R.y + Q.x * R.x = m'
    generalize c + P.x * Q.x * P.y * Q.y = u
    generalize c - P.x * Q.x * P.y * Q.y = v
    generalize c + Q.x * R.x * Q.y * R.y = u'
    generalize c - Q.x * R.x * Q.y * R.y = v'
    intro x1
    grind -lia -linarith (splits := 0)
  · rw [show (P.add Q).x * R.x * (P.add Q).y * R.y = R.x * (P.add Q).x * R.y * (P.add Q).y by grind -lia -linarith (splits := 0), show (P.add Q).y * R.y + (P.add Q).x * R.x = R.y * (P.add Q).y + R.x * (P.add Q).x by grind -lia -linarith (splits := 0)]
    refine as_fin hs ht k1.2 f2 (as_nuy hc hd) (as_dey ha hb) (as_dey hc hd) (as_nuy ha hb) ?_
    clear ha hb hc hd hu hv hw hz hs ht k1 f1 f2 x1
    revert y1
    generalize cE = c
    generalize P.x * Q.y + Q.x * P.y = n
    generalize P.y * Q.y + P.x * Q.x = m
    generalize Q.x * R.y + R.x * Q.y = n'
    generalize Q.y * R.y + Q.x * R.x = m'
    generalize c + P.x * Q.x * P.y * Q.y = u
    generalize c - P.x * Q.x * P.y * Q.y = v
    generalize c + Q.x * R.x * Q.y * R.y = u'
    generalize c - Q.x * R.x * Q.y * R.y = v'
    intro y1
    grind -lia -linarith (splits := 0)
/-! multiples -/
noncomputable def Pt.mul : Nat → Pt → Pt
  | 0, _ => .zero
  | n + 1, P => (Pt.mul n P).add P
theorem Pt.mul_add (m n : Nat) (P : Pt) : Pt.mul (m + n) P = (Pt.mul m P).add (Pt.mul n P) := by
  induction n with
  | zero => exact (Pt.add_zero _).symm
  | succ n ih =>
    show (Pt.mul (m + n) P).add P = (Pt.mul m P).add ((Pt.mul n P).add P)
    rw [ih, Pt.add_assoc]
theorem Pt.mul_zero (n : Nat) : Pt.mul n .zero = .zero := by
  induction n with
  | zero => rfl
  | succ n ih =>
    show (Pt.mul n .zero).add .zero = .zero
    rw [ih, Pt.add_zero]
theorem Pt.mul_one (P : Pt) : Pt.mul 1 P = P := Pt.zero_add P
theorem Pt.mul_mul (m n : Nat) (P : Pt) : Pt.mul (m * n) P = Pt.mul m (Pt.mul n P) := by
  induction m with
  | zero =>
    rw [Nat.zero_mul]
    rfl
  | succ m ih =>
    rw [Nat.succ_mul, Pt.mul_add, ih]
    rfl
theorem Pt.mul_comm (m n : Nat) (P : Pt) : Pt.mul m (Pt.mul n P) = Pt.mul n (Pt.mul m P) := by rw [← Pt.mul_mul, Nat.mul_comm, Pt.mul_mul]
theorem Pt.neg_neg (P : Pt) : P.neg.neg = P := Pt.ext (show - -P.x = P.x by grind -lia -linarith (splits := 0)) rfl
end Go.Proofs.YtdeigmjbcbjgeaaGreatDoor
/-
  Layers 9 and 10: the base point and its order; the ladder's step on the curve.
-/
namespace Go.Proofs.YtdeigmjbcbjgeaaGreatDoor
/-- The base point. -/
def Bx : FF := 15112221349535400772501151409588531511454012693041857206046113283949847762202
def By' : FF := 46316835694926478169428394003475163141307993866256225615783033603165251855960
theorem on_base : On Bx By' := by unfold On cE Bx By'; decide
def Bp : Pt := ⟨Bx, By', on_base⟩
/-! points as four numbers, reckoned -/
structure Exq where
  X : FF
  Y : FF
  Z : FF
  T : FF
/-- Four numbers stand for a point. -/
def Exq.For (e : Exq) (P : Pt) : Prop := e.Z ≠ 0 ∧ e.X = P.x * e.Z ∧ e.Y = P.y * e.Z ∧ e.T * e.Z = e.X * e.Y
/-- The sum, with k = 2 d, of c = 1 / d. -/
def Exq.add (k : FF) (a b : Exq) : Exq :=
  let A := (a.Y - a.X) * (b.Y - b.X)
  let B := (a.Y + a.X) * (b.Y + b.X)
  let C := a.T * b.T * k
  let Z := a.Z * b.Z
  let D := Z + Z
  ⟨(B - A) * (D - C), (D + C) * (B + A), (D - C) * (D + C), (B - A) * (B + A)⟩
theorem ext_t {t x y z : FF} (h : z ≠ 0) (e : t * z = x * z * (y * z)) : t = x * (y * z) := ff_cancel h (by grind -lia -linarith (splits := 0))
theorem ext_gen {c k x1 y1 z1 t1 x2 y2 z2 t2 X Y : FF} (hk : k * c = 2) (h1 : z1 ≠ 0) (h2 : z2 ≠ 0) (hc : c ≠ 0) (e1 : t1 * z1 = x1 * z1 * (y1 * z1)) (e2 : t2 * z2 = x2 * z2 * (y2 * z2)) (hu : c + x1 * x2 * y1 * y2 ≠ 0) (hv : c - x1 * x2 * y1 * y2 ≠ 0)
    (hX : X * (c + x1 * x2 * y1 * y2) = c * (x1 * y2 + x2 * y1)) (hY : Y * (c - x1 * x2 * y1 * y2) = c * (y1 * y2 + x1 * x2)) :
    ∀ A B C D : FF, A = (y1 * z1 - x1 * z1) * (y2 * z2 - x2 * z2) → B = (y1 * z1 + x1 * z1) * (y2 * z2 + x2 * z2) → C = t1 * t2 * k → D = z1 * z2 + z1 * z2 →
    (D - C) * (D + C) ≠ 0 ∧ (B - A) * (D - C) = X * ((D - C) * (D + C)) ∧ (D + C) * (B + A) = Y * ((D - C) * (D + C)) ∧ (B - A) * (B + A) * ((D - C) * (D + C)) = (B - A) * (D - C) * ((D + C) * (B + A)) := by
  intro A B C D hA hB hC hD
  have g1 := ext_t h1 e1
  have g2 := ext_t h2 e2
  clear e1 e2
  have hz := ff_mul_ne h1 h2
  have d1 : c * (D - C) = 2 * (z1 * z2) * (c - x1 * x2 * y1 * y2) := by rw [hD, hC, g1, g2]; clear hX hY hA hB hC hD; grind -lia -linarith (splits := 0)
  have d2 : c * (D + C) = 2 * (z1 * z2) * (c + x1 * x2 * y1 * y2) := by rw [hD, hC, g1, g2]; clear hX hY hA hB hC hD; grind -lia -linarith (splits := 0)
  have d3 : B - A = 2 * (z1 * z2) * (x1 * y2 + x2 * y1) := by rw [hA, hB]; clear hX hY hA hB hC hD; grind -lia -linarith (splits := 0)
  have d4 : B + A = 2 * (z1 * z2) * (y1 * y2 + x1 * x2) := by rw [hA, hB]; clear hX hY hA hB hC hD; grind -lia -linarith (splits := 0)
  clear hA hB hC hD g1 g2 hk
  generalize D - C = F at *
  generalize D + C = E at *
  generalize B - A = I at *
  generalize B + A = J at *
  generalize x1 * y2 + x2 * y1 = n at *
  generalize y1 * y2 + x1 * x2 = m at *
  generalize c + x1 * x2 * y1 * y2 = u at *
  generalize c - x1 * x2 * y1 * y2 = v at *
  generalize z1 * z2 = z at *
  have h2z : 2 * z ≠ 0 := ff_mul_ne ff_two hz
  refine ⟨?_, ?_, ?_, ?_⟩
  · intro e
    rcases ff_zero e with e | e
    · rw [e] at d1
      exact ff_mul_ne h2z hv (by grind -lia -linarith (splits := 0))
    · rw [e] at d2
      exact ff_mul_ne h2z hu (by grind -lia -linarith (splits := 0))
  · refine ff_cancel hc ?_
    have : c * (X * (F * E)) = X * F * (c * E) := by grind -lia -linarith (splits := 0)
    rw [this, d2, d3]
    have : X * F * (2 * z * u) = F * (2 * z) * (X * u) := by grind -lia -linarith (splits := 0)
    rw [this, hX]
    grind -lia -linarith (splits := 0)
  · refine ff_cancel hc ?_
    have : c * (Y * (F * E)) = Y * E * (c * F) := by grind -lia -linarith (splits := 0)
    rw [this, d1, d4]
    have : Y * E * (2 * z * v) = E * (2 * z) * (Y * v) := by grind -lia -linarith (splits := 0)
    rw [this, hY]
    grind -lia -linarith (splits := 0)
  · grind -lia -linarith (splits := 0)
theorem Exq.add_for {k : FF} (hk : k * cE = 2) {a b : Exq} {P Q : Pt} (ha : a.For P) (hb : b.For Q) : (a.add k b).For (P.add Q) := by
  obtain ⟨a1, a2, a3, a4⟩ := ha
  obtain ⟨b1, b2, b3, b4⟩ := hb
  obtain ⟨X, Y, Z, T⟩ := a
  obtain ⟨X', Y', Z', T'⟩ := b
  simp only at a1 a2 a3 a4 b1 b2 b3 b4
  subst a2 a3 b2 b3
  exact ext_gen hk a1 b1 cE_ne a4 b4 (den_ne P.on Q.on).1 (den_ne P.on Q.on).2 (add_x P Q) (add_y P Q) _ _ _ _ rfl rfl rfl rfl
def Exq.zero : Exq := ⟨0, 1, 1, 0⟩
theorem Exq.zero_for : Exq.zero.For .zero := ⟨by decide, by decide, by decide, by decide⟩
def Pt.toE (P : Pt) : Exq := ⟨P.x, P.y, 1, P.x * P.y⟩
/-- The multiple, from bit 255 on. -/
def Exq.mulk (k : FF) (n : Nat) (e : Exq) : Nat → Exq
  | 0 => .zero
  | j + 1 =>
    let d := (mulk k n e j).add k (mulk k n e j)
    if n.testBit (255 - j) then d.add k e else d
theorem two_mul (n : Nat) (P : Pt) : Pt.mul (2 * n) P = (Pt.mul n P).add (Pt.mul n P) := by rw [Nat.two_mul, Pt.mul_add]
theorem bit_step (n j : Nat) (hj : j < 256) : n / 2 ^ (255 - j) = 2 * (n / 2 ^ (256 - j)) + if n.testBit (255 - j) then 1 else 0 := by
  have h1 : n / 2 ^ (256 - j) = n / 2 ^ (255 - j) / 2 := by
    rw [Nat.div_div_eq_div_mul, ← Nat.pow_succ]
    congr 2
    omega
  rw [Nat.testBit_eq_decide_div_mod_eq, h1]
  generalize n / 2 ^ (255 - j) = y
  by_cases h : y % 2 = 1
  · rw [if_pos (decide_eq_true h)]; omega
  · rw [if_neg (by simpa using h)]; omega
theorem Exq.mulk_for {k : FF} (hk : k * cE = 2) {n : Nat} {e : Exq} {P : Pt} (hn : n < 2 ^ 256) (he : e.For P) : ∀ j, j ≤ 256 → (Exq.mulk k n e j).For (Pt.mul (n / 2 ^ (256 - j)) P) := by
  intro j
  induction j with
  | zero =>
    intro _
    rw [Nat.sub_zero, Nat.div_eq_of_lt hn]
    exact Exq.zero_for
  | succ j ih =>
    intro hj
    have ih := ih (by omega)
    have hd := Exq.add_for hk ih ih
    rw [← two_mul] at hd
    rw [show 256 - (j + 1) = 255 - j by omega, bit_step n j (by omega), mulk]
    split
    · exact Exq.add_for hk hd he
    · exact hd
theorem Exq.mulk_all {k : FF} (hk : k * cE = 2) {n : Nat} {e : Exq} {P : Pt} (hn : n < 2 ^ 256) (he : e.For P) : (Exq.mulk k n e 256).For (Pt.mul n P) := by
  have := Exq.mulk_for hk hn he 256 (Nat.le_refl _)
  rwa [Nat.sub_self, Nat.pow_zero, Nat.div_one] at this
end Go.Proofs.YtdeigmjbcbjgeaaGreatDoor
