/- Plain mathematics of digits by base 2^32: no program is named here. -/
namespace Go.Proofs.YtlomgfgedkkhkaaGreatDoor.Dig

def val : List Nat → Nat
  | [] => 0
  | d :: ds => d + 4294967296 * val ds
def OK (ds : List Nat) : Prop := ∀ d, d ∈ ds → d < 4294967296
def strip : List Nat → List Nat
  | [] => []
  | d :: ds => if strip ds = [] ∧ d = 0 then [] else d :: strip ds
def digF : Nat → Nat → List Nat
  | 0, _ => []
  | f + 1, n => if n = 0 then [] else (n % 4294967296) :: digF f (n / 4294967296)
/-- The canonical digits of a number. -/
def dig (n : Nat) : List Nat := digF n n
/-- 2^32 to the n. -/
def pw : Nat → Nat
  | 0 => 1
  | n + 1 => 4294967296 * pw n
theorem pw_pos (n : Nat) : 0 < pw n := by
  induction n with
  | zero => simp [pw]
  | succ n ih => simp only [pw]; omega
theorem pw_add (m n : Nat) : pw (m + n) = pw m * pw n := by
  induction m with
  | zero => simp [pw]
  | succ m ih => rw [Nat.succ_add]; simp only [pw, ih, Nat.mul_assoc]
theorem pw_mono {m n : Nat} (h : m ≤ n) : pw m ≤ pw n := by
  obtain ⟨k, rfl⟩ := Nat.le.dest h
  rw [pw_add]
  exact Nat.le_mul_of_pos_right _ (pw_pos k)
theorem pw_eq (n : Nat) : pw n = 2 ^ (32 * n) := by
  induction n with
  | zero => rfl
  | succ n ih => simp only [pw]; rw [ih, Nat.mul_succ, Nat.pow_add, Nat.mul_comm]
theorem OK.nil : OK [] := fun _ h => by cases h
theorem OK.cons {d : Nat} {ds : List Nat} (h : d < 4294967296) (k : OK ds) : OK (d :: ds) := fun x hx => by
  cases hx with
  | head => exact h
  | tail _ hx => exact k x hx
theorem OK.head {d : Nat} {ds : List Nat} (h : OK (d :: ds)) : d < 4294967296 := h d (List.mem_cons_self ..)
theorem OK.tail {d : Nat} {ds : List Nat} (h : OK (d :: ds)) : OK ds := fun x hx => h x (List.mem_cons_of_mem _ hx)
theorem OK.append {as bs : List Nat} (h : OK as) (k : OK bs) : OK (as ++ bs) := fun x hx => by
  rcases List.mem_append.1 hx with hx | hx
  · exact h x hx
  · exact k x hx
theorem OK.take {as : List Nat} (h : OK as) (n : Nat) : OK (as.take n) := fun x hx => h x (List.mem_of_mem_take hx)
theorem OK.drop {as : List Nat} (h : OK as) (n : Nat) : OK (as.drop n) := fun x hx => h x (List.mem_of_mem_drop hx)
theorem OK.get {as : List Nat} (h : OK as) (i : Nat) : as[i]?.getD 0 < 4294967296 := by
  by_cases hi : i < as.length
  · rw [List.getElem?_eq_getElem hi]; exact h _ (List.getElem_mem hi)
  · rw [List.getElem?_eq_none (by omega)]; decide
theorem OK.set {as : List Nat} (h : OK as) (i : Nat) {d : Nat} (hd : d < 4294967296) : OK (as.set i d) := fun x hx => by
  rcases List.mem_or_eq_of_mem_set hx with hx | rfl
  · exact h x hx
  · exact hd
theorem OK.replicate (n : Nat) {d : Nat} (hd : d < 4294967296) : OK (List.replicate n d) := fun x hx => by
  rw [List.eq_of_mem_replicate hx]; exact hd
theorem val_append (as bs : List Nat) : val (as ++ bs) = val as + pw as.length * val bs := by
  induction as with
  | nil => simp [val, pw]
  | cons d as ih => simp only [List.cons_append, val, ih, List.length_cons, pw, Nat.mul_add, Nat.mul_assoc, Nat.add_assoc]
theorem val_lt {ds : List Nat} (h : OK ds) : val ds < pw ds.length := by
  induction ds with
  | nil => simp [val, pw]
  | cons d ds ih =>
    have h1 := ih h.tail
    have h2 := h.head
    simp only [val, List.length_cons, pw]
    omega
theorem val_replicate_zero (n : Nat) : val (List.replicate n 0) = 0 := by
  induction n with
  | zero => rfl
  | succ n ih => simp [List.replicate_succ, val, ih]
theorem val_eq_zero {ds : List Nat} (h : val ds = 0) : strip ds = [] := by
  induction ds with
  | nil => rfl
  | cons d ds ih =>
    simp only [val] at h
    have hd : d = 0 := by omega
    have hv : val ds = 0 := by omega
    simp [strip, ih hv, hd]
theorem strip_nil_val {ds : List Nat} (h : strip ds = []) : val ds = 0 := by
  induction ds with
  | nil => rfl
  | cons d ds ih =>
    simp only [strip] at h
    split at h
    · rename_i hc
      simp [val, ih hc.1, hc.2]
    · cases h
theorem val_strip (ds : List Nat) : val (strip ds) = val ds := by
  induction ds with
  | nil => rfl
  | cons d ds ih =>
    simp only [strip]
    split
    · rename_i hc
      simp [val, strip_nil_val hc.1, hc.2]
    · simp only [val, ih]
theorem digF_fuel : ∀ (f g n : Nat), n ≤ f → n ≤ g → digF f n = digF g n
  | 0, 0, _, _, _ => rfl
  | 0, g + 1, n, hf, _ => by have : n = 0 := by omega
                             simp [digF, this]
  | f + 1, 0, n, _, hg => by have : n = 0 := by omega
                             simp [digF, this]
  | f + 1, g + 1, n, hf, hg => by
    simp only [digF]
    split
    · rfl
    · rw [digF_fuel f g (n / 4294967296) (by omega) (by omega)]
theorem dig_zero : dig 0 = [] := rfl
theorem dig_pos {n : Nat} (h : 0 < n) : dig n = (n % 4294967296) :: dig (n / 4294967296) := by
  unfold dig
  match n, h with
  | n + 1, _ =>
    simp only [digF]
    rw [if_neg (by omega), digF_fuel n ((n + 1) / 4294967296) ((n + 1) / 4294967296) (by omega) (by omega)]
theorem dig_eq_nil {n : Nat} : dig n = [] ↔ n = 0 := by
  constructor
  · intro h
    by_cases hn : n = 0
    · exact hn
    · rw [dig_pos (by omega)] at h; cases h
  · rintro rfl; rfl
theorem dig_cons {d n : Nat} (hd : d < 4294967296) (h : 0 < d + 4294967296 * n) : dig (d + 4294967296 * n) = d :: dig n := by
  rw [dig_pos h]
  have e1 : (d + 4294967296 * n) % 4294967296 = d := by omega
  have e2 : (d + 4294967296 * n) / 4294967296 = n := by omega
  rw [e1, e2]
theorem dig_val {ds : List Nat} (h : OK ds) : dig (val ds) = strip ds := by
  induction ds with
  | nil => rfl
  | cons d ds ih =>
    have ht := ih h.tail
    simp only [val, strip]
    by_cases hz : d + 4294967296 * val ds = 0
    · have h1 : d = 0 := by omega
      have h2 : val ds = 0 := by omega
      rw [if_pos ⟨val_eq_zero h2, h1⟩, hz]; rfl
    · rw [dig_cons h.head (by omega), ht, if_neg]
      rintro ⟨h1, h2⟩
      have := strip_nil_val h1
      omega
theorem val_dig (n : Nat) : val (dig n) = n := by
  induction n using Nat.strongRecOn with
  | _ n ih =>
    by_cases hn : n = 0
    · subst hn; rfl
    · rw [dig_pos (by omega)]
      simp only [val]
      rw [ih (n / 4294967296) (by omega)]
      omega
theorem OK_dig (n : Nat) : OK (dig n) := by
  induction n using Nat.strongRecOn with
  | _ n ih =>
    by_cases hn : n = 0
    · subst hn; exact OK.nil
    · rw [dig_pos (by omega)]
      exact OK.cons (by omega) (ih _ (by omega))
theorem strip_dig (n : Nat) : strip (dig n) = dig n := by rw [← dig_val (OK_dig n), val_dig]
theorem strip_length_le (ds : List Nat) : (strip ds).length ≤ ds.length := by
  induction ds with
  | nil => simp [strip]
  | cons d ds ih =>
    simp only [strip]
    split
    · simp
    · simp only [List.length_cons]; omega
theorem strip_take (ds : List Nat) : strip ds = ds.take (strip ds).length := by
  induction ds with
  | nil => rfl
  | cons d ds ih =>
    simp only [strip]
    split
    · rfl
    · simp only [List.length_cons, List.take_succ_cons]; rw [← ih]
/-- 'n' is where the trimming stops: nothing but 0 above, and a digit that is not 0 right below. -/
theorem strip_length_of {ds : List Nat} {n : Nat} (hn : n ≤ ds.length) (h0 : ∀ i, n ≤ i → ds[i]?.getD 0 = 0) (h1 : n = 0 ∨ ds[n - 1]?.getD 0 ≠ 0) : (strip ds).length = n := by
  induction ds generalizing n with
  | nil => simp at hn; subst hn; rfl
  | cons d ds ih =>
    match n, hn, h1 with
    | 0, _, _ =>
      have e : strip ds = [] := by
        have := ih (n := 0) (Nat.zero_le _) (fun i _ => by simpa using h0 (i + 1) (Nat.zero_le _)) (.inl rfl)
        exact List.length_eq_zero_iff.1 this
      have hd : d = 0 := by simpa using h0 0 (Nat.zero_le _)
      simp [strip, e, hd]
    | 1, hn, h1 =>
      have e : strip ds = [] := by
        have := ih (n := 0) (Nat.zero_le _) (fun i _ => by simpa using h0 (i + 1) (by omega)) (.inl rfl)
        exact List.length_eq_zero_iff.1 this
      have hd : d ≠ 0 := by simpa using h1
      simp [strip, e, hd]
    | n + 2, hn, h1 =>
      have e := ih (n := n + 1) (by simp at hn; omega) (fun i hi => by simpa using h0 (i + 1) (by omega)) (.inr (by simpa using h1))
      have hne : strip ds ≠ [] := fun h => by rw [h] at e; simp at e
      simp [strip, hne, e]
theorem strip_top {ds : List Nat} (h : strip ds ≠ []) : (strip ds)[(strip ds).length - 1]?.getD 0 ≠ 0 := by
  induction ds with
  | nil => exact absurd rfl h
  | cons d ds ih =>
    simp only [strip] at h ⊢
    split at h
    · exact absurd rfl h
    · rename_i hc
      rw [if_neg hc]
      by_cases he : strip ds = []
      · have hd : d ≠ 0 := fun hd => hc ⟨he, hd⟩
        simp [he, hd]
      · have := ih he
        have hl : 0 < (strip ds).length := List.length_pos_iff.2 he
        have e : (d :: strip ds).length - 1 = (strip ds).length - 1 + 1 := by simp; omega
        rw [e]; simpa using this
theorem dig_length_le {n k : Nat} (h : n < pw k) : (dig n).length ≤ k := by
  induction k generalizing n with
  | zero => simp [pw] at h; subst h; simp [dig_zero]
  | succ k ih =>
    by_cases hn : n = 0
    · subst hn; simp [dig_zero]
    · rw [dig_pos (by omega)]
      simp only [pw] at h
      have := ih (n := n / 4294967296) (by omega)
      simp only [List.length_cons]; omega
theorem pw_le_dig {n : Nat} (hn : n ≠ 0) : pw ((dig n).length - 1) ≤ n := by
  induction n using Nat.strongRecOn with
  | _ n ih =>
    rw [dig_pos (by omega)]
    simp only [List.length_cons, Nat.add_sub_cancel]
    by_cases hq : n / 4294967296 = 0
    · rw [hq]; simp [dig_zero, pw]; omega
    · have h := ih (n / 4294967296) (by omega) hq
      have hl : 0 < (dig (n / 4294967296)).length := List.length_pos_iff.2 (fun e => hq (dig_eq_nil.1 e))
      have e : (dig (n / 4294967296)).length = (dig (n / 4294967296)).length - 1 + 1 := by omega
      rw [e]; simp only [pw]; omega
theorem lt_pw_dig (n : Nat) : n < pw (dig n).length := by
  have := val_lt (OK_dig n)
  rwa [val_dig] at this
/-- Of canonical digits the longer list is the greater number. -/
theorem lt_of_length_lt {m n : Nat} (h : (dig m).length < (dig n).length) : m < n := by
  have h1 := lt_pw_dig m
  have hn : n ≠ 0 := fun e => by subst e; simp [dig_zero] at h
  have h2 := pw_le_dig hn
  have h3 := pw_mono (show (dig m).length ≤ (dig n).length - 1 by omega)
  omega
theorem dig_inj {m n : Nat} (h : dig m = dig n) : m = n := by rw [← val_dig m, ← val_dig n, h]
theorem dig_length_mono {m n : Nat} (h : m ≤ n) : (dig m).length ≤ (dig n).length :=
  dig_length_le (Nat.lt_of_le_of_lt h (lt_pw_dig n))
/-- From digit k on both are alike, and digit k decides. -/
theorem val_lt_of_top {as bs : List Nat} {k : Nat} (ha : OK as) (hab : as.length = bs.length) (hk : k < as.length) (hs : as.drop (k + 1) = bs.drop (k + 1)) (hd : as[k]?.getD 0 < bs[k]?.getD 0) : val as < val bs := by
  induction k generalizing as bs with
  | zero =>
    match as, bs, hab, hk with
    | a :: as, b :: bs, hab, hk =>
      simp at hs hd
      simp only [val, hs]; omega
  | succ k ih =>
    match as, bs, hab, hk with
    | a :: as, b :: bs, hab, hk =>
      have := ih (as := as) (bs := bs) ha.tail (by simpa using hab) (by simpa using hk) (by simpa using hs) (by simpa using hd)
      have := ha.head
      simp only [val]; omega
theorem drop_eq_of_top {as bs : List Nat} {k : Nat} (hab : as.length = bs.length) (hk : k < as.length) (hs : as.drop (k + 1) = bs.drop (k + 1)) (hd : as[k]?.getD 0 = bs[k]?.getD 0) : as.drop k = bs.drop k := by
  rw [List.drop_eq_getElem_cons hk, List.drop_eq_getElem_cons (by omega : k < bs.length), hs]
  rw [List.getElem?_eq_getElem hk, List.getElem?_eq_getElem (by omega : k < bs.length)] at hd
  simp only [Option.getD_some] at hd
  rw [hd]
theorem getD_set_same {as : List Nat} {i d : Nat} (h : i < as.length) : (as.set i d)[i]?.getD 0 = d := by simp [h]
theorem getD_set_other {as : List Nat} {i j d : Nat} (h : i ≠ j) : (as.set i d)[j]?.getD 0 = as[j]?.getD 0 := by simp [List.getElem?_set_ne h]
theorem val_take_succ {xs : List Nat} {k : Nat} (h : k < xs.length) : val (xs.take (k + 1)) = val (xs.take k) + pw k * xs[k]?.getD 0 := by
  rw [List.take_succ_eq_append_getElem h, val_append, List.getElem?_eq_getElem h]
  simp only [val, List.length_take, Option.getD_some]
  rw [Nat.min_eq_left (by omega)]; simp
theorem val_split (as : List Nat) (k : Nat) (h : k ≤ as.length) : val as = val (as.take k) + pw k * val (as.drop k) := by
  conv => lhs; rw [← List.take_append_drop k as]
  rw [val_append, List.length_take, Nat.min_eq_left h]
theorem drop_succ_val {as : List Nat} {k : Nat} (h : k < as.length) : val (as.drop k) = as[k]?.getD 0 + 4294967296 * val (as.drop (k + 1)) := by
  rw [List.drop_eq_getElem_cons h, List.getElem?_eq_getElem h]; rfl
end Go.Proofs.YtlomgfgedkkhkaaGreatDoor.Dig

