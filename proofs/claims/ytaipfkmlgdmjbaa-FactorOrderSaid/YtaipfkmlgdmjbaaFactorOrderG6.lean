/- Contracts of functions of the program, and what they lean on: V2, V3, V4, V5, V6, Pa, Pb, P1, D7, D8, D9. -/
import Derived.Test.YtaipfkmlgdmjbaaFactorOrderG5
set_option linter.unusedVariables false
set_option linter.unusedSimpArgs false
namespace Go.Proofs.Ytaipfkmlgdmjbaa
/-! ### the test of a description -/
theorem any_iff {l : List Int} {f : Int → Bool} : l.any f = true ↔ ∃ i, i < l.length ∧ f (vo l i) = true := by
  rw [List.any_eq_true]
  constructor
  · rintro ⟨x, hx, hf⟩
    obtain ⟨i, hi, rfl⟩ := List.mem_iff_getElem.1 hx
    refine ⟨i, hi, ?_⟩
    unfold vo; rw [List.getD_eq_getElem?_getD, List.getElem?_eq_getElem hi]; exact hf
  · rintro ⟨i, hi, hf⟩
    unfold vo at hf
    rw [List.getD_eq_getElem?_getD, List.getElem?_eq_getElem hi] at hf
    exact ⟨l[i], List.getElem_mem hi, hf⟩
theorem v_contains {l : List Int} {p : Int → (Bool → Prop) → Prop} {f : Int → Bool} {Q : Bool → Prop} (hl : l.length ≤ 1000000000) (hp : ∀ x (R : Bool → Prop), R (f x) → p x R) (h : Q (l.any f)) : V_contains l p Q := by
  refine ⟨fun z => ∃ k : Nat, z = k ∧ k ≤ l.length ∧ ∀ j, j < k → f (vo l j) = false, fun z => (l.length - z).toNat, ⟨0, rfl, Nat.zero_le _, fun j hj => by omega⟩, ?_⟩
  rintro _ ⟨k, rfl, hk, hv⟩
  dsimp only
  refine ⟨fun hlt => ⟨⟨by omega, by omega⟩, hp _ _ ⟨fun hb => ?_, fun hb => ⟨small (by omega) (by omega), ⟨k + 1, by push_cast; rfl, by omega, fun j hj => ?_⟩, by omega⟩⟩⟩, fun hge => ?_⟩
  · rw [any_iff.2 ⟨k, by omega, hb⟩] at h
    rw [decide_eq_true (by omega)]; exact h
  · rw [gi_nat] at hb
    by_cases hjk : j = k
    · subst hjk; exact hb
    · exact hv j (by omega)
  · have : l.any f = false := by
      cases hb : l.any f with
      | false => rfl
      | true =>
        obtain ⟨i, hi, hf⟩ := any_iff.1 hb
        rw [hv i (by omega)] at hf; cases hf
    rw [this] at h
    exact h
theorem red_eq {p : Nat} {a l c : Int} (hp : 0 < p) (ha : 0 ≤ a) (hl : l ≤ p) (hc : 0 ≤ c) : (a + ((p : Int) - l) * c).tmod p = (a - l * c) % (p : Int) := by
  have h1 : 0 ≤ ((p : Int) - l) * c := Int.mul_nonneg (by omega) hc
  rw [Int.tmod_eq_emod_of_nonneg (by omega)]
  have : a + ((p : Int) - l) * c = (a - l * c) + p * c := by rw [Int.sub_mul]; omega
  rw [this, Int.add_mul_emod_self_left]
theorem rem_cn {p d n : Nat} {l R : Vec} (hp : 0 < p) {N : Nat} (hR : Cn p N R) : ∀ k, Cn p N (rem p d l R n k)
  | 0 => hR
  | k + 1 => fun j hj => by
    show 0 ≤ rst _ _ _ _ _ j ∧ rst _ _ _ _ _ j < _
    unfold rst
    split
    · exact ⟨Int.emod_nonneg _ (by omega), Int.emod_lt_of_pos _ (by omega)⟩
    · exact rem_cn hp hR k j hj
theorem bd_mul {a b : Int} {p : Nat} (hp : p ≤ 256) (ha : 0 ≤ a ∧ a ≤ p) (hb : 0 ≤ b ∧ b ≤ p) : 0 ≤ a * b ∧ a * b ≤ 65536 := by
  obtain ⟨x, rfl⟩ := Int.eq_ofNat_of_zero_le ha.1
  obtain ⟨y, rfl⟩ := Int.eq_ofNat_of_zero_le hb.1
  have : x * y ≤ 256 * 256 := Nat.mul_le_mul (by omega) (by omega)
  have e : ((x : Int)) * (y : Int) = ((x * y : Nat) : Int) := by push_cast; rfl
  rw [e]; omega
theorem take_vo {l : List Int} {n i : Nat} (h : i < n) : vo (l.take n) i = vo l i := by
  unfold vo
  rw [List.getD_eq_getElem?_getD, List.getD_eq_getElem?_getD, List.getElem?_take, if_pos h]
theorem v_divides {p : Nat} {l o : List Int} {Q : Bool → Prop} (hp : 0 < p) (hp2 : p ≤ 256) (hl : Cn p l.length (vo l)) (ho : Cn p o.length (vo o)) (hd : 0 < l.length) (hdn : l.length ≤ o.length) (hn : o.length ≤ 1000)
    (h : ∀ b : Bool, (b = true ↔ Dvd p l.length (vo l) (vo o) o.length) → Q b) : V_divides p l o Q := by
  refine v_clone (by omega) ⟨small (by omega) (by omega), ?_⟩
  generalize hdd : l.length = d at *
  generalize hnn : o.length = n at *
  refine ⟨fun x z => ∃ k : Nat, z = (n : Int) - 1 - k ∧ k ≤ n - d ∧ x.length = n ∧ ∀ j, j < n → vo x j = rem p d (vo l) (vo o) n k j, fun x z => (z + 1).toNat, ⟨0, by omega, by omega, hnn, fun j _ => rfl⟩, ?_⟩
  rintro x _ ⟨k, rfl, hk, hx, hv⟩
  dsimp only
  have hc := rem_cn (d := d) (l := vo l) (n := n) hp ho k
  refine ⟨fun hle => ?_, fun hgt => ?_⟩
  · obtain ⟨i, hi⟩ : ∃ i : Nat, (n : Int) - 1 - k = i := ⟨n - 1 - k, by omega⟩
    rw [hi]
    have hin : i = n - 1 - k := by omega
    refine ⟨fun y z => ∃ t : Nat, z = t ∧ t ≤ d ∧ y.length = n ∧ ∀ j, j < n → vo y j = if i ≤ j + d ∧ j + d < i + t then rem p d (vo l) (vo o) n (k + 1) j else rem p d (vo l) (vo o) n k j, fun y z => (d - z).toNat, ⟨0, rfl, Nat.zero_le _, hx, fun j hj => by rw [if_neg (by omega)]; exact hv j hj⟩, ?_⟩
    rintro y _ ⟨t, rfl, ht, hy, hw⟩
    dsimp only
    have e1 : (i : Int) - (d : Int) + (t : Int) = ((i - d + t : Nat) : Int) := by omega
    rw [e1, gi_nat, gi_nat, gi_nat, si_nat]
    have hyi : vo y i = rem p d (vo l) (vo o) n k i := by rw [hw i (by omega), if_neg (by omega)]
    refine ⟨fun hlt => ?_, fun hge => ?_⟩
    · have hyj : vo y (i - d + t) = rem p d (vo l) (vo o) n k (i - d + t) := by rw [hw _ (by omega), if_neg (by omega)]
      have c1 := hl t (by omega)
      have c2 := hc i (by omega)
      have c3 := hc (i - d + t) (by omega)
      rw [hyi, hyj]
      have c4 := bd_mul (a := (p : Int) - vo l t) (b := rem p d (vo l) (vo o) n k i) hp2 ⟨by omega, by omega⟩ ⟨c2.1, by omega⟩
      refine ⟨⟨by omega, by omega⟩, small (by omega) (by omega), small (by omega) (by omega), ⟨by omega, by omega⟩, small (by omega) (by omega), ⟨by omega, by omega⟩, small (by omega) (by omega), small (by omega) (by omega), by omega, ⟨by omega, by omega⟩, small (by omega) (by omega), ⟨t + 1, by push_cast; rfl, by omega, by rw [List.length_set, hy], fun j hj => ?_⟩, by omega⟩
      rw [vo_set]
      by_cases hjt : i - d + t = j
      · subst hjt
        rw [if_pos ⟨rfl, by omega⟩, if_pos (by omega), red_eq hp c3.1 (by omega) c2.1]
        show _ = rst p d (n - 1 - k) (vo l) (rem p d (vo l) (vo o) n k) (i - d + t)
        unfold rst
        rw [← hin, if_pos (by omega), show i - d + t + d - i = t by omega]
      · rw [if_neg (fun h => hjt h.1), hw j hj]
        by_cases hc2 : i ≤ j + d ∧ j + d < i + t
        · rw [if_pos hc2, if_pos (by omega)]
        · rw [if_neg hc2, if_neg (by omega)]
    · refine ⟨small (by omega) (by omega), ⟨k + 1, by omega, by omega, hy, fun j hj => ?_⟩, by omega⟩
      rw [hw j hj]
      have htd : t = d := by omega
      by_cases hc2 : i ≤ j + d ∧ j + d < i + t
      · rw [if_pos hc2]
      · rw [if_neg hc2]
        show _ = rst p d (n - 1 - k) (vo l) (rem p d (vo l) (vo o) n k) j
        unfold rst
        rw [← hin, if_neg (by omega)]
  · refine ⟨⟨by omega, by omega⟩, v_contains (f := fun x => decide (x ≠ 0)) (by rw [List.length_take]; omega) (fun x R hR => hR) (h _ ?_)⟩
    have hkk : k = n - d := by omega
    have hlen : (x.take (d : Int).toNat).length = d := by rw [List.length_take]; omega
    rw [Bool.not_eq_true']
    constructor
    · intro hb j hj
      have h2 : ¬ (x.take (d : Int).toNat).any (fun x => decide (x ≠ 0)) = true := by rw [hb]; decide
      rw [any_iff] at h2
      have h3 : decide (vo (x.take (d : Int).toNat) j ≠ 0) = false := by
        cases hc3 : decide (vo (x.take (d : Int).toNat) j ≠ 0) with
        | false => rfl
        | true => exact absurd ⟨j, by omega, hc3⟩ h2
      rw [take_vo (by simpa using hj), hv j (by omega), hkk] at h3
      have h4 := of_decide_eq_false h3
      omega
    · intro hD
      cases hb : (x.take (d : Int).toNat).any (fun x => decide (x ≠ 0)) with
      | false => rfl
      | true =>
        obtain ⟨i, hi, hf⟩ := any_iff.1 hb
        rw [take_vo (by simpa using (by omega : i < d)), hv i (by omega), hkk, hD i (by omega)] at hf
        exact absurd hf (by decide)
theorem vo_snoc (o : List Int) : vo (o ++ [(1 : Int)]) = fun i => if i = o.length then 1 else vo o i := by
  funext i
  unfold vo
  rw [List.getD_eq_getElem?_getD, List.getD_eq_getElem?_getD]
  rcases Nat.lt_trichotomy i o.length with h | h | h
  · rw [List.getElem?_append_left h, if_neg (by omega)]
  · subst h; simp
  · rw [if_neg (by omega), List.getElem?_eq_none (by simp; omega), List.getElem?_eq_none (by omega)]
theorem snoc_cn {p : Nat} {o : List Int} (hp : 2 ≤ p) (ho : Cn p o.length (vo o)) : Cn p (o.length + 1) (vo (o ++ [(1 : Int)])) := fun i hi => by
  rw [vo_snoc]
  dsimp only
  split
  · omega
  · exact ho i (by omega)
theorem v_rdivides {p : Nat} {l o : List Int} {Q : Bool → Prop} (hp : 2 ≤ p) (hp2 : p ≤ 256) (hl : Cn p l.length (vo l)) (ho : Cn p o.length (vo o)) (hd : 0 < l.length) (hdn : l.length ≤ o.length) (hn : o.length ≤ 1000)
    (h : ∀ b : Bool, (b = true ↔ Dvd p l.length (vo l) (fun i => if i = o.length then 1 else vo o i) (o.length + 1)) → Q b) : V_rdivides l o p Q := by
  unfold V_rdivides
  simp only [List.nil_append]
  rw [← vo_snoc] at h
  have hcR := snoc_cn hp ho
  have hnn : (o ++ [(1 : Int)]).length = o.length + 1 := by simp
  refine ⟨by omega, by omega, small (by omega) (by omega), ?_⟩
  generalize hdd : l.length = d at *
  generalize hN : o.length + 1 = n at *
  generalize hoo : o ++ [(1 : Int)] = r at *
  refine ⟨fun x z => ∃ k : Nat, z = (n : Int) - 1 - k ∧ k ≤ n - d ∧ x.length = n ∧ ∀ j, j < n → vo x j = if j + k < n then rem p d (vo l) (vo r) n k j else 0, fun x z => (z + 1).toNat, ⟨0, by omega, by omega, hnn, fun j hj => by rw [if_pos (by omega)]; rfl⟩, ?_⟩
  rintro x _ ⟨k, rfl, hk, hx, hv⟩
  dsimp only
  have hc := rem_cn (d := d) (l := vo l) (n := n) (p := p) (by omega) hcR k
  refine ⟨fun hle => ⟨⟨by omega, by omega⟩, ?_⟩, fun hgt => ?_⟩
  · obtain ⟨i, hi⟩ : ∃ i : Nat, (n : Int) - 1 - k = i := ⟨n - 1 - k, by omega⟩
    rw [hi]
    have hin : i = n - 1 - k := by omega
    have hxi : vo x i = rem p d (vo l) (vo r) n k i := by rw [hv i (by omega), if_pos (by omega)]
    refine ⟨fun y z => ∃ t : Nat, z = t ∧ t ≤ d ∧ y.length = n ∧ ∀ j, j < n → vo y j = if i ≤ j + d ∧ j + d < i + t then rem p d (vo l) (vo r) n (k + 1) j else vo x j, fun y z => (d - z).toNat, ⟨0, rfl, Nat.zero_le _, hx, fun j hj => by rw [if_neg (by omega)]⟩, ?_⟩
    rintro y _ ⟨t, rfl, ht, hy, hw⟩
    dsimp only
    have e1 : (i : Int) - (d : Int) + (t : Int) = ((i - d + t : Nat) : Int) := by omega
    rw [e1, gi_nat, gi_nat, gi_nat, si_nat, si_nat]
    refine ⟨fun hlt => ?_, fun hge => ?_⟩
    · have hyj : vo y (i - d + t) = rem p d (vo l) (vo r) n k (i - d + t) := by rw [hw _ (by omega), if_neg (by omega), hv _ (by omega), if_pos (by omega)]
      have c1 := hl t (by omega)
      have c2 := hc i (by omega)
      have c3 := hc (i - d + t) (by omega)
      rw [hxi, hyj]
      have c4 := bd_mul (a := (p : Int) - rem p d (vo l) (vo r) n k i) (b := vo l t) hp2 ⟨by omega, by omega⟩ ⟨c1.1, by omega⟩
      refine ⟨small (by omega) (by omega), small (by omega) (by omega), small (by omega) (by omega), small (by omega) (by omega), ⟨by omega, by omega⟩, small (by omega) (by omega), ⟨by omega, by omega⟩, small (by omega) (by omega), small (by omega) (by omega), by omega, ⟨by omega, by omega⟩, small (by omega) (by omega), ⟨t + 1, by push_cast; rfl, by omega, by rw [List.length_set, hy], fun j hj => ?_⟩, by omega⟩
      rw [vo_set]
      by_cases hjt : i - d + t = j
      · subst hjt
        rw [if_pos ⟨rfl, by omega⟩, if_pos (by omega), red_eq (by omega) c3.1 (by omega) c1.1]
        show _ = rst p d (n - 1 - k) (vo l) (rem p d (vo l) (vo r) n k) (i - d + t)
        unfold rst
        rw [← hin, if_pos (by omega), show i - d + t + d - i = t by omega, Int.mul_comm]
      · rw [if_neg (fun h => hjt h.1), hw j hj]
        by_cases hc2 : i ≤ j + d ∧ j + d < i + t
        · rw [if_pos hc2, if_pos (by omega)]
        · rw [if_neg hc2, if_neg (by omega)]
    · refine ⟨⟨by omega, by omega⟩, small (by omega) (by omega), ⟨k + 1, by omega, by omega, by rw [List.length_set, hy], fun j hj => ?_⟩, by omega⟩
      rw [vo_set]
      by_cases hij : i = j
      · subst hij
        rw [if_pos ⟨rfl, by omega⟩, if_neg (by omega)]
      · rw [if_neg (fun h => hij h.1), hw j hj]
        have htd : t = d := by omega
        by_cases hc2 : i ≤ j + d ∧ j + d < i + t
        · rw [if_pos hc2, if_pos (by omega)]
        · rw [if_neg hc2, hv j hj]
          by_cases hjk : j + k < n
          · rw [if_pos hjk, if_pos (by omega)]
            show _ = rst p d (n - 1 - k) (vo l) (rem p d (vo l) (vo r) n k) j
            unfold rst
            rw [← hin, if_neg (by omega)]
          · rw [if_neg hjk, if_neg (by omega)]
  · have hkk : k = n - d := by omega
    refine ⟨fun z => ∃ t : Nat, z = t ∧ t ≤ n ∧ ∀ j, j < t → vo x j = 0, fun z => (n - z).toNat, ⟨0, rfl, Nat.zero_le _, fun j hj => by omega⟩, ?_⟩
    rintro _ ⟨t, rfl, ht, hz⟩
    dsimp only
    rw [gi_nat]
    refine ⟨fun hlt => ⟨⟨by omega, by omega⟩, fun hne => ?_, fun heq => ⟨small (by omega) (by omega), ⟨t + 1, by push_cast; rfl, by omega, fun j hj => ?_⟩, by omega⟩⟩, fun hge => ?_⟩
    · refine h false ⟨fun h' => absurd h' (by decide), fun hD => ?_⟩
      rw [hv t (by omega)] at hne
      by_cases hc2 : t + k < n
      · rw [if_pos hc2, hkk, hD t (by omega)] at hne; exact absurd rfl hne
      · rw [if_neg hc2] at hne; exact absurd rfl hne
    · by_cases hjt : j = t
      · subst hjt; omega
      · exact hz j (by omega)
    · refine h true ⟨fun _ j hj => ?_, fun _ => rfl⟩
      have h1 := hz j (by omega)
      rw [hv j (by omega), if_pos (by omega), hkk] at h1
      exact h1
theorem dgi_vo {p d w : Nat} (hw : w < p ^ d) : vo (dgi p d w) = dv p w := by
  funext i
  rcases Nat.lt_or_ge i d with h | h
  · exact dgi_at h
  · rw [vo_hi (by rw [dgi_len]; exact h), dv_hi hw h]
theorem dgi_cn {p d w : Nat} (hp : 0 < p) (hw : w < p ^ d) (n : Nat) : Cn p n (vo (dgi p d w)) := by rw [dgi_vo hw]; exact dv_cn hp w n
theorem v_isIrr {p m : Nat} {mf : List Int} {Q : Bool → Prop} (hp : 2 ≤ p) (hp2 : p ≤ 256) (hm : mf.length = m) (hq : p ^ m ≤ 256) (hc : Cn p m (vo mf))
    (h : ∀ b : Bool, (b = true ↔ Irr p m (vo mf)) → Q b) : V_isIrreducible p m mf Q := by
  have hm9 : m ≤ 8 := by
    rcases Nat.lt_or_ge 8 m with h1 | h1
    · have e1 : 2 ^ 9 ≤ p ^ 9 := Nat.pow_le_pow_left (by omega) 9
      have e2 := pow_mono (p := p) (by omega) (show 9 ≤ m by omega)
      omega
    · exact h1
  refine v_clone (by omega) ⟨by omega, ?_⟩
  have hlen : (mf ++ [(1 : Int)]).length = m + 1 := by simp [hm]
  have hcs : Cn p (m + 1) (vo (mf ++ [(1 : Int)])) := by have := snoc_cn hp (o := mf) (by rw [hm]; exact hc); rwa [hm] at this
  have hpd : ∀ d, 2 * d ≤ m → p ^ d ≤ 256 := fun d hd => Nat.le_trans (pow_mono (by omega) (by omega)) hq
  refine ⟨fun a b => ∃ d : Nat, a = d ∧ 1 ≤ d ∧ 2 * (d - 1) ≤ m ∧ b = ((p ^ d : Nat) : Int) ∧ p ^ d ≤ 65536 ∧ ∀ e, 0 < e → e < d → 2 * e ≤ m → ∀ w, w < p ^ e → ¬ Dvd p e (dv p w) (fun i => if i = m then 1 else vo mf i) (m + 1), fun a b => (20 - a).toNat, ⟨1, rfl, by omega, by omega, by simp, by simp; omega, fun e h1 h2 => by omega⟩, ?_⟩
  rintro _ _ ⟨d, rfl, hd1, hd2, rfl, hdp, hnd⟩
  dsimp only
  refine ⟨small (by omega) (by omega), fun hle => ?_, fun hgt => ?_⟩
  · have hpd' := hpd d (by omega)
    refine ⟨fun z => ∃ w : Nat, z = w ∧ w ≤ p ^ d ∧ ∀ u, u < w → ¬ Dvd p d (dv p u) (fun i => if i = m then 1 else vo mf i) (m + 1), fun z => ((p ^ d : Nat) - z).toNat, ⟨0, rfl, Nat.zero_le _, fun u hu => by omega⟩, ?_⟩
    rintro _ ⟨w, rfl, hw, hnw⟩
    dsimp only
    refine ⟨fun hlt => ?_, fun hge => ?_⟩
    · have hw2 : w < p ^ d := by omega
      refine ⟨_, v_digits (by omega) (by omega) (by omega) rfl, ?_⟩
      have hdl := dgi_len p d w
      refine (?_ : ∃ r : Bool, V_divides p (dgi p d w) (mf ++ [(1 : Int)]) (fun q => q = r) ∧ _)
      by_cases hD : Dvd p d (dv p w) (fun i => if i = m then 1 else vo mf i) (m + 1)
      · refine ⟨true, v_divides (by omega) hp2 (by rw [hdl]; exact dgi_cn (by omega) hw2 d) (by rw [hlen]; exact hcs) (by omega) (by omega) (by omega) fun b hb => ?_, fun _ => ?_, fun h' => absurd h' (by decide)⟩
        · rw [hdl, hlen, dgi_vo hw2, vo_snoc, hm] at hb
          exact hb.2 hD
        · exact h false ⟨fun h' => absurd h' (by decide), fun hI => absurd hD (hI d (by omega) (by omega) w hw2)⟩
      · refine ⟨false, v_divides (by omega) hp2 (by rw [hdl]; exact dgi_cn (by omega) hw2 d) (by rw [hlen]; exact hcs) (by omega) (by omega) (by omega) fun b hb => ?_, fun h' => absurd h' (by decide), fun _ => ?_⟩
        · rw [hdl, hlen, dgi_vo hw2, vo_snoc, hm] at hb
          cases b with
          | false => rfl
          | true => exact absurd (hb.1 rfl) hD
        · refine ⟨small (by omega) (by omega), ⟨w + 1, by push_cast; rfl, by omega, fun u hu => ?_⟩, by omega⟩
          by_cases huw : u = w
          · subst huw; exact hD
          · exact hnw u (by omega)
    · have e1 : ((p ^ d : Nat) : Int) * (p : Int) = ((p ^ (d + 1) : Nat) : Int) := by rw [Nat.pow_succ]; push_cast; rfl
      have hb2 : p ^ (d + 1) ≤ 65536 := by
        rw [Nat.pow_succ]
        have := Nat.mul_le_mul hpd' hp2; omega
      rw [e1]
      refine ⟨small (by omega) (by omega), smallN (by omega), ⟨d + 1, by push_cast; rfl, by omega, by omega, rfl, hb2, fun e he0 he h2 u hu => ?_⟩, by omega⟩
      by_cases hed : e = d
      · subst hed; exact hnw u (by omega)
      · exact hnd e he0 (by omega) h2 u hu
  · exact h true ⟨fun _ e he0 h2 u hu => hnd e he0 (by omega) h2 u hu, fun _ => rfl⟩
theorem v_rirr {p m : Nat} {mf : List Int} {Q : Bool → Prop} (hp : 2 ≤ p) (hp2 : p ≤ 256) (hm : mf.length = m) (hq : p ^ m ≤ 256) (hc : Cn p m (vo mf))
    (h : ∀ b : Bool, (b = true ↔ Irr p m (vo mf)) → Q b) : V_rirr mf p Q := by
  have hm9 : m ≤ 8 := by
    rcases Nat.lt_or_ge 8 m with h1 | h1
    · have e1 : 2 ^ 9 ≤ p ^ 9 := Nat.pow_le_pow_left (by omega) 9
      have e2 := pow_mono (p := p) (by omega) (show 9 ≤ m by omega)
      omega
    · exact h1
  unfold V_rirr
  rw [hm]
  have hpd : ∀ d, 2 * d ≤ m → p ^ d ≤ 256 := fun d hd => Nat.le_trans (pow_mono (by omega) (by omega)) hq
  refine ⟨fun b a => ∃ d : Nat, a = d + 1 ∧ 2 * d ≤ m ∧ b = ((p ^ d : Nat) : Int) ∧ ∀ e, 0 < e → e ≤ d → 2 * e ≤ m → ∀ w, w < p ^ e → ¬ Dvd p e (dv p w) (fun i => if i = m then 1 else vo mf i) (m + 1), fun b a => (20 - a).toNat, ⟨0, rfl, by omega, by simp, fun e h1 h2 => by omega⟩, ?_⟩
  rintro _ _ ⟨d, rfl, hd2, rfl, hnd⟩
  dsimp only
  have hpd' := hpd d hd2
  refine ⟨small (by omega) (by omega), fun hle => ?_, fun hgt => ?_⟩
  · have e1 : ((p ^ d : Nat) : Int) * (p : Int) = ((p ^ (d + 1) : Nat) : Int) := by rw [Nat.pow_succ]; push_cast; rfl
    have hpd2 := hpd (d + 1) (by omega)
    rw [e1]
    refine ⟨smallN (by omega), ?_⟩
    refine ⟨fun z => ∃ w : Nat, z = w ∧ w ≤ p ^ (d + 1) ∧ ∀ u, u < w → ¬ Dvd p (d + 1) (dv p u) (fun i => if i = m then 1 else vo mf i) (m + 1), fun z => ((p ^ (d + 1) : Nat) - z).toNat, ⟨0, rfl, Nat.zero_le _, fun u hu => by omega⟩, ?_⟩
    rintro _ ⟨w, rfl, hw, hnw⟩
    dsimp only
    rw [show (d : Int) + 1 = ((d + 1 : Nat) : Int) by push_cast; rfl]
    refine ⟨fun hlt => ?_, fun hge => ?_⟩
    · have hw2 : w < p ^ (d + 1) := by omega
      have hdl := dgi_len p (d + 1) w
      refine v_rdigits (by omega) (by omega) (by omega) (v_rdivides hp hp2 (by rw [hdl]; exact dgi_cn (by omega) hw2 _) (by rw [hm]; exact hc) (by omega) (by omega) (by omega) fun b hb => ?_)
      rw [hdl, hm, dgi_vo hw2] at hb
      refine ⟨fun hb1 => ?_, fun hb0 => ?_⟩
      · exact h false ⟨fun h' => absurd h' (by decide), fun hI => absurd (hb.1 hb1) (hI (d + 1) (by omega) (by omega) w hw2)⟩
      · refine ⟨small (by omega) (by omega), ⟨w + 1, by push_cast; rfl, by omega, fun u hu => ?_⟩, by omega⟩
        by_cases huw : u = w
        · subst huw; intro hD; rw [hb.2 hD] at hb0; exact absurd hb0 (by decide)
        · exact hnw u (by omega)
    · refine ⟨small (by omega) (by omega), ⟨d + 1, rfl, by omega, rfl, fun e he0 he h2 u hu => ?_⟩, by omega⟩
      by_cases hed : e = d + 1
      · subst hed; exact hnw u (by omega)
      · exact hnd e he0 (by omega) h2 u hu
  · exact h true ⟨fun _ e he0 h2 u hu => hnd e he0 (by omega) h2 u hu, fun _ => rfl⟩
/-! a description of a field -/
structure FV (P M : Int) (mf : List Int) (p m v : Nat) : Prop where
  eP : P = p
  eM : M = m
  pr : IsLf p p
  m0 : 0 < m
  q : p ^ m ≤ 256
  vlt : v < p ^ m
  m1 : m = 1 → mf = [] ∧ v = 0
  m2 : m ≠ 1 → mf = dgi p m v
  irr : Irr p m (dv p v)
def Valid (P M : Int) (mf : List Int) : Prop := ∃ p m v, FV P M mf p m v
open Classical in
noncomputable def ck (P M : Int) (mf : List Int) : Int := if Valid P M mf then 0 else 1
theorem ck_ok {P M : Int} {mf : List Int} (h : Valid P M mf) : ck P M mf = 0 := if_pos h
theorem ck_no {P M : Int} {mf : List Int} (h : ¬ Valid P M mf) : ck P M mf = 1 := if_neg h
theorem irr_one (p : Nat) (c : Vec) : Irr p 1 c := fun d h1 h2 => by omega
theorem valid_one {p : Nat} (hp : IsLf p p) (hq : p ≤ 256) : FV p ((1 : Nat) : Int) [] p 1 0 := ⟨rfl, rfl, hp, by omega, by simpa using hq, by have := hp.two; simp; omega, fun _ => ⟨rfl, rfl⟩, fun h => absurd rfl h, irr_one p _⟩
theorem cn_list {p m : Nat} {mf : List Int} (hp : 0 < p) (hl : mf.length = m) (hc : Cn p m (vo mf)) : nm p m (vo mf) < p ^ m ∧ mf = dgi p m (nm p m (vo mf)) ∧ vo mf = dv p (nm p m (vo mf)) := by
  have hlt := nm_lt (m := m) hp (vo mf)
  have he : mf = dgi p m (nm p m (vo mf)) := vo_ext (by rw [hl, dgi_len]) fun i hi => by
    have h1 := hc i (by omega)
    rw [dgi_at (by omega), dv_nm hp _ (by omega), Int.emod_eq_of_lt h1.1 h1.2]
  exact ⟨hlt, he, by have := congrArg vo he; rw [dgi_vo hlt] at this; exact this⟩
theorem FV.cn {P M : Int} {mf : List Int} {p m v : Nat} (h : FV P M mf p m v) (hm : m ≠ 1) : mf.length = m ∧ Cn p m (vo mf) ∧ Irr p m (vo mf) := by
  have := h.pr.two
  rw [h.m2 hm]
  exact ⟨dgi_len p m v, dgi_cn (by omega) h.vlt m, by rw [dgi_vo h.vlt]; exact h.irr⟩
theorem FV.vo {P M : Int} {mf : List Int} {p m v : Nat} (h : FV P M mf p m v) : Go.Proofs.Ytaipfkmlgdmjbaa.vo mf = dv p v := by
  by_cases hm : m = 1
  · rw [(h.m1 hm).1, (h.m1 hm).2, dv_z]; rfl
  · rw [h.m2 hm, dgi_vo h.vlt]
theorem v_check {P M : Int} {mf : List Int} {Q : Int → Prop} (h : Q (ck P M mf)) : V_check P M mf Q := by
  refine ⟨fun h1 => ?_, fun h1 => v_isPrime (by omega) fun b hb => ⟨fun hb0 => ?_, fun hb1 => ?_⟩⟩
  · rw [ck_no] at h
    · exact h
    · rintro ⟨p, m, v, hV⟩
      have e1 := pow_mono (p := p) (by have := hV.pr.two; omega) hV.m0
      have := hV.q
      have := hV.eP
      rw [show p ^ (0 + 1) = p from Nat.pow_one p] at e1
      omega
  · rw [ck_no] at h
    · exact h
    · rintro ⟨p, m, v, hV⟩
      have := hV.pr.two
      have : b = true := hb.2 ⟨by rw [hV.eP]; omega, by rw [hV.eP]; exact hV.pr⟩
      rw [this] at hb0; exact absurd hb0 (by decide)
  · have hbt : b = true := by cases b <;> first | rfl | exact absurd hb1 (by decide)
    obtain ⟨hP2, hPr⟩ := hb.1 hbt
    obtain ⟨p, rfl⟩ := Int.eq_ofNat_of_zero_le (show 0 ≤ P by omega)
    rw [Int.toNat_natCast] at hPr
    refine ⟨fun h2 => ?_, fun h2 => v_order (by omega) (by omega) fun r hr1 hr2 => ⟨fun h3 => ?_, fun h3 => ?_⟩⟩
    · rw [ck_no] at h
      · exact h
      · rintro ⟨p', m, v, hV⟩
        have := hV.m0; have := hV.eM; omega
    · rw [ck_no] at h
      · exact h
      · rintro ⟨p', m, v, hV⟩
        have e1 := hV.eM; have e2 := hV.eP; have e3 := hV.q
        have : p = p' := by omega
        subst this
        rw [e1, Int.toNat_natCast] at hr1
        have := hr1 e3; omega
    · obtain ⟨m, rfl⟩ := Int.eq_ofNat_of_zero_le (show 0 ≤ M by omega)
      rw [Int.toNat_natCast] at hr1 hr2
      have hq : p ^ m ≤ 256 := by
        rcases Nat.lt_or_ge 256 (p ^ m) with hc | hc
        · exact absurd (hr2 hc) h3
        · exact hc
      refine ⟨fun h4 => v_okIf ?_, fun h4 => ⟨fun h5 => ?_, fun h5 => ?_⟩⟩
      · have hm1 : m = 1 := by omega
        subst hm1
        by_cases hl : mf = []
        · subst hl
          rw [ck_ok ⟨_, _, _, valid_one hPr (by omega)⟩] at h
          simpa using h
        · rw [ck_no] at h
          · simpa [hl] using h
          · rintro ⟨p', m, v, hV⟩
            exact hl (hV.m1 (by have := hV.eM; omega)).1
      · rw [ck_no] at h
        · exact h
        · rintro ⟨p', m', v, hV⟩
          have e1 := hV.eM
          have := (hV.cn (by omega)).1
          omega
      · have hlen : mf.length = m := by omega
        have hm8 : mf.length ≤ 1000000000 := by
          have := Nat.lt_two_pow_self (n := m)
          have e1 : 2 ^ m ≤ p ^ m := Nat.pow_le_pow_left (by omega) m
          omega
        refine v_contains (f := fun x => if x < 0 then true else decide ((p : Int) ≤ x)) hm8 (fun x R hR => ⟨fun hx => by simpa [hx] using hR, fun hx => by simpa [hx] using hR⟩) ⟨fun hb6 => ?_, fun hb6 => ?_⟩
        · rw [ck_no] at h
          · exact h
          · rintro ⟨p', m', v, hV⟩
            have e1 := hV.eM; have e2 := hV.eP
            have e3 : p = p' := by omega
            have e4 : m = m' := by omega
            subst e3; subst e4
            obtain ⟨i, hi, hf⟩ := any_iff.1 hb6
            have hcn := (hV.cn (by omega)).2.1 i (by omega)
            rw [if_neg (by omega)] at hf
            have := of_decide_eq_true hf
            omega
        · have hcn : Cn p m (vo mf) := fun i hi => by
            have h6 : ¬ mf.any (fun x => if x < 0 then true else decide ((p : Int) ≤ x)) = true := by rw [hb6]; decide
            rw [any_iff] at h6
            by_cases hx : vo mf i < 0
            · exact absurd ⟨i, by omega, by rw [if_pos hx]⟩ h6
            · by_cases hx2 : (p : Int) ≤ vo mf i
              · exact absurd ⟨i, by omega, by rw [if_neg hx, decide_eq_true hx2]⟩ h6
              · omega
          have hcl := cn_list (by omega) hlen hcn
          refine v_isIrr (by omega) (by omega) hlen hq hcn fun b2 hb2 => v_okIf ?_
          by_cases hI : Irr p m (vo mf)
          · rw [hb2.2 hI, if_pos rfl]
            rw [ck_ok ⟨p, m, nm p m (vo mf), rfl, rfl, hPr, by omega, hq, hcl.1, fun e => by omega, fun _ => hcl.2.1, by rw [← hcl.2.2]; exact hI⟩] at h
            exact h
          · rw [if_neg (fun e => hI (hb2.1 e))]
            rw [ck_no] at h
            · exact h
            · rintro ⟨p', m', v, hV⟩
              have e1 := hV.eM; have e2 := hV.eP
              have e3 : p = p' := by omega
              have e4 : m = m' := by omega
              subst e3; subst e4
              exact hI (hV.cn (by omega)).2.2
theorem v_rCheck {P M : Int} {mf : List Int} {Q : Int → Prop} (h : Q (ck P M mf)) : V_rCheck P M mf Q := by
  refine v_rOrder ⟨fun h0 => ?_, fun h0 => ?_⟩
  · rw [ck_no] at h
    · exact h
    · rintro ⟨p, m, v, hV⟩
      have h1 := hV.pr.two; have h2 := hV.m0; have h3 := hV.q
      rw [hV.eP, hV.eM, ordR, if_pos ⟨by omega, by omega, by simpa using h3⟩] at h0
      have h4 : 0 < p ^ m := Nat.pow_pos (by omega)
      simp only [Int.toNat_natCast] at h0
      omega
  · unfold ordR at h0
    by_cases hc : 2 ≤ P ∧ 1 ≤ M ∧ P.toNat ^ M.toNat ≤ 256
    · obtain ⟨h1, h2, hq⟩ := hc
      obtain ⟨p, rfl⟩ := Int.eq_ofNat_of_zero_le (show 0 ≤ P by omega)
      obtain ⟨m, rfl⟩ := Int.eq_ofNat_of_zero_le (show 0 ≤ M by omega)
      simp only [Int.toNat_natCast] at hq
      have hp256 : p ≤ 256 := by
        have := pow_mono (p := p) (by omega) (show 1 ≤ m by omega)
        rw [Nat.pow_one] at this; omega
      refine v_rprime (by omega) hp256 fun b hb => ⟨fun hb0 => ?_, fun hb1 => ?_⟩
      · rw [ck_no] at h
        · exact h
        · rintro ⟨p', m', v, hV⟩
          have e2 := hV.eP
          have e3 : p = p' := by omega
          subst e3
          rw [hb.2 hV.pr] at hb0; exact absurd hb0 (by decide)
      · have hbt : b = true := by cases b <;> first | rfl | exact absurd hb1 (by decide)
        have hPr := hb.1 hbt
        refine ⟨fun h4 => ⟨fun h5 => ?_, fun h5 => ?_⟩, fun h4 => ⟨fun h5 => ?_, fun h5 => ?_⟩⟩
        · rw [ck_no] at h
          · exact h
          · rintro ⟨p', m', v, hV⟩
            have e1 := hV.eM
            have := (hV.m1 (by omega)).1
            rw [this] at h5; exact h5 rfl
        · have hm1 : m = 1 := by omega
          subst hm1
          have hl : mf = [] := List.length_eq_zero_iff.1 (by omega)
          subst hl
          rw [ck_ok ⟨_, _, _, valid_one hPr hp256⟩] at h
          exact h
        · rw [ck_no] at h
          · exact h
          · rintro ⟨p', m', v, hV⟩
            have e1 := hV.eM
            have := (hV.cn (by omega)).1
            omega
        · have hlen : mf.length = m := by omega
          refine ⟨fun z => ∃ k : Nat, z = k ∧ k ≤ m ∧ Cn p k (vo mf), fun z => (m - z).toNat, ⟨0, rfl, Nat.zero_le _, fun i hi => by omega⟩, ?_⟩
          rintro _ ⟨k, rfl, hk, hcn⟩
          dsimp only
          rw [gi_nat]
          have hno : ¬ (0 ≤ vo mf k ∧ vo mf k < p) → k < m → ¬ Valid p m mf := by
            rintro hbad hkm ⟨p', m', v, hV⟩
            have e1 := hV.eM; have e2 := hV.eP
            have e3 : p = p' := by omega
            have e4 : m = m' := by omega
            subst e3; subst e4
            exact hbad ((hV.cn (by omega)).2.1 k hkm)
          have hm8 : m ≤ 1000000000 := by
            have := Nat.lt_two_pow_self (n := m)
            have e1 : 2 ^ m ≤ p ^ m := Nat.pow_le_pow_left (by omega) m
            omega
          refine ⟨fun hlt => ⟨fun hneg => ⟨⟨by omega, by omega⟩, ?_⟩, fun hpos => ⟨⟨by omega, by omega⟩, ⟨by omega, by omega⟩, fun hbig => ?_, fun hsm => ⟨small (by omega) (by omega), ⟨k + 1, by push_cast; rfl, by omega, fun i hi => ?_⟩, by omega⟩⟩⟩, fun hge => ?_⟩
          · rw [ck_no (hno (by omega) (by omega))] at h; exact h
          · rw [ck_no (hno (by omega) (by omega))] at h; exact h
          · by_cases hik : i = k
            · subst hik; omega
            · exact hcn i (by omega)
          · have hkm : k = m := by omega
            subst hkm
            have hcl := cn_list (by omega) hlen hcn
            refine v_rirr (by omega) hp256 hlen hq hcn fun b2 hb2 => ⟨fun hb3 => ?_, fun hb3 => ?_⟩
            · rw [ck_no] at h
              · exact h
              · rintro ⟨p', m', v, hV⟩
                have e1 := hV.eM; have e2 := hV.eP
                have e3 : p = p' := by omega
                have e4 : k = m' := by omega
                subst e3; subst e4
                rw [hb2.2 (hV.cn (by omega)).2.2] at hb3; exact absurd hb3 (by decide)
            · have hbt2 : b2 = true := by cases b2 <;> first | rfl | exact absurd hb3 (by decide)
              rw [ck_ok ⟨p, k, nm p k (vo mf), rfl, rfl, hPr, by omega, hq, hcl.1, fun e => by omega, fun _ => hcl.2.1, by rw [← hcl.2.2]; exact hb2.1 hbt2⟩] at h
              exact h
    · rw [if_neg hc] at h0; exact absurd rfl h0
end Go.Proofs.Ytaipfkmlgdmjbaa
set_option linter.unusedVariables false
set_option linter.unusedSimpArgs false
namespace Go.Proofs.Ytaipfkmlgdmjbaa
/-! ### products, powers, units -/
theorem can_list {p m : Nat} {r : List Int} {u : Vec} (hp : 0 < p) (hl : r.length = m) (hv : ∀ i, i < m → vo r i = u i % (p : Int)) : r = dgi p m (nm p m u) :=
  vo_ext (by rw [hl, dgi_len]) fun i hi => by rw [hv i (by omega), dgi_at (by omega), dv_nm hp _ (by omega)]
theorem vl_step (p i : Nat) (l : List Int) (n : Nat) (h : i < n) : vl p (i + 1) (fun t => vo l (n - (i + 1) + t)) = vo l (n - (i + 1)) + (p : Int) * vl p i (fun t => vo l (n - i + t)) := by
  show vo l (n - (i + 1) + 0) + (p : Int) * vl p i (fun t => vo l (n - (i + 1) + (t + 1))) = _
  rw [Nat.add_zero]
  have : (fun t => vo l (n - (i + 1) + (t + 1))) = fun t => vo l (n - i + t) := by
    funext t; rw [show n - (i + 1) + (t + 1) = n - i + t by omega]
  rw [this]
theorem vl_part {p : Nat} {l : List Int} {n i : Nat} (hp : 2 ≤ p) (hc : Cn p n (vo l)) (hq : p ^ n ≤ 256) (hi : i ≤ n) : 0 ≤ vl p i (fun t => vo l (n - i + t)) ∧ vl p i (fun t => vo l (n - i + t)) < 256 := by
  have h1 := vl_bd (p := p) (n := i) (v := fun t => vo l (n - i + t)) (by omega) (fun t ht => hc (n - i + t) (by omega))
  have h2 := pow_mono (p := p) (by omega) hi
  omega
theorem v_fromDigits {p : Nat} {l : List Int} {Q : Int → Prop} (hp : 2 ≤ p) (hp2 : p ≤ 256) (hc : Cn p l.length (vo l)) (hq : p ^ l.length ≤ 256) (h : Q (vl p l.length (vo l))) : V_fromDigits p l Q := by
  refine ⟨fun i z => i ≤ l.length ∧ z = vl p i (fun t => vo l (l.length - i + t)), ⟨Nat.zero_le _, rfl⟩, ?_, ?_⟩
  · rintro i hi _ ⟨_, rfl⟩
    have h1 := vl_part hp hc hq (i := i) (by omega)
    have h2 := vl_part hp hc hq (i := i + 1) (by omega)
    rw [vl_step p i l l.length hi] at h2
    have h3 := bd_mul (a := vl p i (fun t => vo l (l.length - i + t))) (b := p) (p := 256) (by omega) ⟨h1.1, by omega⟩ ⟨by omega, by omega⟩
    rw [show ((l.length - 1 - i : Nat) : Int) = ((l.length - (i + 1) : Nat) : Int) by omega, gi_nat]
    refine ⟨small (by omega) (by omega), ?_, by omega, ?_⟩
    · rw [Int.mul_comm, Int.add_comm]; exact small (by omega) (by omega)
    · rw [vl_step p i l l.length hi, Int.mul_comm, Int.add_comm]
  · rintro _ ⟨_, rfl⟩
    have : (fun t => vo l (l.length - l.length + t)) = vo l := by funext t; rw [Nat.sub_self, Nat.zero_add]
    rw [this]; exact h
theorem vl_dgi {p m x : Nat} (hp : 0 < p) (hx : x < p ^ m) : vl p (dgi p m x).length (vo (dgi p m x)) = (x : Int) := by
  rw [dgi_len, dgi_vo hx, vl_dv hp hx]
namespace FV
variable {P M : Int} {mf : List Int} {p m v : Nat} (F : FV P M mf p m v)
include F
theorem p2 : 2 ≤ p := F.pr.two
theorem pq : p ≤ p ^ m := by
  have := pow_mono (p := p) (by have := F.pr.two; omega) F.m0
  rwa [show p ^ (0 + 1) = p from Nat.pow_one p] at this
theorem p256 : p ≤ 256 := Nat.le_trans F.pq F.q
theorem m8 : m ≤ 8 := by
  rcases Nat.lt_or_ge 8 m with h1 | h1
  · have e1 : 2 ^ 9 ≤ p ^ 9 := Nat.pow_le_pow_left F.p2 9
    have e2 := pow_mono (p := p) (by have := F.p2; omega) (show 9 ≤ m by omega)
    have := F.q
    omega
  · exact h1
theorem ring : CR (p ^ m) (fadd p m) (fmul p m (dv p v)) := CR.mk' _ F.p2 F.m0
theorem gen : ∃ g, Gn (p ^ m) (fmul p m (dv p v)) g := gen_ex F.pr F.m0 F.q F.vlt (fun h => (F.m1 h).2) F.irr
end FV
def sh (v : Vec) : Vec := fun i => if i = 0 then 0 else v (i - 1)
theorem tX_sh {m : Nat} {c v : Vec} {i : Nat} (hi : i < m) : tX m c v i = sh v i - c i * v (m - 1) := by simp only [tX, if_pos hi, sh]
theorem v_timesX {P M : Int} {mf : List Int} {p m v : Nat} (F : FV P M mf p m v) {x : Nat} {Q : List Int → Prop} (hx : x < p ^ m) (h : Q (dgi p m (nm p m (tX m (dv p v) (dv p x))))) : V_timesX P M mf (dgi p m x) Q := by
  have hp := F.p2
  have hp2 := F.p256
  have hm0 := F.m0
  have hm8 := F.m8
  rw [F.eP, F.eM]
  have hlen := dgi_len p m x
  have hcx := dv_cn (p := p) (by omega) x m
  refine ⟨small (by omega) (by omega), ⟨by omega, by omega⟩, ⟨by omega, by omega⟩, ⟨by omega, by omega⟩, ?_⟩
  generalize hA : (si ((dgi p m x).take ((1 : Int).toNat) ++ (dgi p m x).take (min (dgi p m x).length ((dgi p m x).length - ((1 : Int).toNat))) ++ (dgi p m x).drop ((1 : Int).toNat + (min (dgi p m x).length ((dgi p m x).length - ((1 : Int).toNat))))) (0 : Int) (0 : Int)) = A
  have hAl : A.length = m := by
    rw [← hA]
    show (List.set _ _ _).length = m
    rw [List.length_set]
    simp only [List.length_append, List.length_take, List.length_drop, hlen]
    show min 1 m + min (min m (m - 1)) m + (m - (1 + min m (m - 1))) = m
    omega
  have hAv : ∀ i, i < m → vo A i = sh (dv p x) i := fun i hi => by
    unfold sh
    rw [← hA]
    show vo (List.set _ 0 0) i = _
    rw [vo_set]
    by_cases h0 : i = 0
    · subst h0
      rw [if_pos ⟨rfl, by simp only [List.length_append, List.length_take, hlen]; show 0 < min 1 m + _ + _; omega⟩, if_pos rfl]
    · rw [if_neg (fun h => h0 h.1.symm), if_neg h0]
      have e1 : ((dgi p m x).take ((1 : Int).toNat)).length = 1 := by rw [List.length_take, hlen]; show min 1 m = 1; omega
      have e2 : (min (dgi p m x).length ((dgi p m x).length - ((1 : Int).toNat))) = m - 1 := by rw [hlen]; show min m (m - 1) = m - 1; omega
      rw [e2]
      have e3 : ((dgi p m x).take (m - 1)).length = m - 1 := by rw [List.length_take, hlen]; omega
      unfold vo
      rw [List.getD_eq_getElem?_getD, List.append_assoc, List.getElem?_append_right (by omega), e1, List.getElem?_append_left (by omega), List.getElem?_take, if_pos (by omega)]
      have := dgi_at (p := p) (x := x) (i := i - 1) (n := m) (by omega)
      unfold vo at this
      rw [List.getD_eq_getElem?_getD] at this
      exact this
  rw [show (m : Int) - 1 = ((m - 1 : Nat) : Int) by omega, gi_nat, dgi_at (by omega)]
  have hshift : ∀ i, i < m → 0 ≤ sh (dv p x) i ∧ sh (dv p x) i < p := fun i hi => by
    unfold sh
    split
    · omega
    · exact hcx (i - 1) (by omega)
  refine ⟨fun h0 => ?_, fun h0 => ?_⟩
  · rw [can_list (p := p) (u := tX m (dv p v) (dv p x)) (by omega) hAl fun i hi => ?_]
    · exact h
    · have := hshift i hi
      rw [hAv i hi]
      rw [tX_sh hi, h0, Int.mul_zero, Int.sub_zero, Int.emod_eq_of_lt this.1 this.2]
  · have hml : mf.length ≤ m := by
      by_cases hm1 : m = 1
      · rw [(F.m1 hm1).1]; simp
      · rw [F.m2 hm1, dgi_len]; omega
    have hcv := dv_cn (p := p) (by omega) v m
    have ht := hcx (m - 1) (by omega)
    refine ⟨fun l z => ∃ k : Nat, z = k ∧ k ≤ mf.length ∧ l.length = m ∧ ∀ i, i < m → vo l i = if i < k then tX m (dv p v) (dv p x) i % (p : Int) else vo A i, fun l z => (mf.length - z).toNat, ⟨0, rfl, Nat.zero_le _, hAl, fun i hi => by rw [if_neg (by omega)]⟩, ?_⟩
    rintro l _ ⟨k, rfl, hk, hl, hv⟩
    dsimp only
    rw [gi_nat, gi_nat, si_nat, F.vo]
    refine ⟨fun hlt => ?_, fun hge => ?_⟩
    · have c1 := hcv k (by omega)
      have c2 := hshift k (by omega)
      have c3 := bd_mul (a := (p : Int) - dv p v k) (b := dv p x (m - 1)) hp2 ⟨by omega, by omega⟩ ⟨ht.1, by omega⟩
      rw [hv k (by omega), if_neg (by omega), hAv k (by omega)]
      refine ⟨⟨by omega, by omega⟩, ⟨by omega, by omega⟩, small (by omega) (by omega), small (by omega) (by omega), small (by omega) (by omega), by omega, ⟨by omega, by omega⟩, small (by omega) (by omega), ⟨k + 1, by push_cast; rfl, by omega, by rw [List.length_set, hl], fun i hi => ?_⟩, by omega⟩
      rw [vo_set]
      by_cases hki : k = i
      · subst hki
        rw [if_pos ⟨rfl, by omega⟩, if_pos (by omega), red_eq (by omega) c2.1 (by omega) ht.1, tX_sh hi]
      · rw [if_neg (fun h => hki h.1), hv i hi]
        by_cases hik : i < k
        · rw [if_pos hik, if_pos (by omega)]
        · rw [if_neg hik, if_neg (by omega)]
    · rw [can_list (p := p) (u := tX m (dv p v) (dv p x)) (by omega) hl fun i hi => ?_]
      · exact h
      · rw [hv i hi]
        by_cases hik : i < k
        · rw [if_pos hik]
        · rw [if_neg hik]
          have hm1 : m = 1 := by
            by_cases hm1 : m = 1
            · exact hm1
            · rw [F.m2 hm1, dgi_len] at hge hk; omega
          have hi0 : i = 0 := by omega
          rw [hAv i hi, tX_sh hi, (F.m1 hm1).2, dv_z]
          subst hi0; simp [sh, vz]
theorem hz_z {m : Nat} {c b y : Vec} {n : Nat} : ∀ {k : Nat}, k ≤ n → (∀ i, n - k ≤ i → i < n → b i = 0) → hz m c b y n k = vz
  | 0, _, _ => rfl
  | k + 1, hk, h => by
    show vadd (tX m c (hz m c b y n k)) (vsm (b (n - 1 - k)) y) = vz
    rw [hz_z (k := k) (by omega) (fun i h1 h2 => h i (by omega) h2), h (n - 1 - k) (by omega) (by omega), tX_z]
    funext i; simp [vadd, vsm, vz]
theorem hz_sup {m : Nat} {c b y : Vec} {n : Nat} (hy : Sup m y) : ∀ k, Sup m (hz m c b y n k)
  | 0 => Sup.z
  | k + 1 => Sup.add Sup.tX hy.sm
theorem rep_z (p m : Nat) : List.replicate m (0 : Int) = dgi p m 0 := vo_ext (by simp [dgi_len]) fun i hi => by
  rw [vo_rep, dgi_at (by simpa using hi), dv_z]; rfl
theorem nm_z {p m : Nat} (hp : 0 < p) : nm p m vz = 0 := by rw [← dv_z p, nm_dv hp (Nat.pow_pos hp)]
theorem v_product {P M : Int} {mf : List Int} {p m v : Nat} (F : FV P M mf p m v) {o : List Int} {x y : Nat} {Q : List Int → Prop} (ho : o.length = m) (hx : x < p ^ m) (hy : y < p ^ m) (h : Q (dgi p m (fmul p m (dv p v) x y))) : V_product P M mf o (dgi p m x) (dgi p m y) Q := by
  have hp := F.p2
  have hp2 := F.p256
  have hm0 := F.m0
  have hm8 := F.m8
  obtain rfl := F.eP
  obtain rfl := F.eM
  have hlx := dgi_len p m x
  have hly := dgi_len p m y
  have hcx := dv_cn (p := p) (by omega) x m
  have hcy := dv_cn (p := p) (by omega) y m
  refine ⟨small (by omega) (by omega), fun z => ∃ k : Nat, z = k ∧ k < m ∧ ∀ i, k < i → i < m → dv p y i = 0, ⟨fun z => ∃ k : Nat, z = k ∧ k < m ∧ ∀ i, k < i → i < m → dv p y i = 0, fun z => z.toNat, ⟨m - 1, by omega, by omega, fun i h1 h2 => by omega⟩, ?_⟩, ?_⟩
  · rintro _ ⟨k, rfl, hk, hzz⟩
    dsimp only
    refine ⟨fun hlt => ⟨⟨by omega, by omega⟩, fun h0 => ⟨small (by omega) (by omega), ⟨k - 1, by omega, by omega, fun i h1 h2 => ?_⟩, by omega⟩, fun _ => ⟨k, rfl, hk, hzz⟩⟩, fun _ => ⟨k, rfl, hk, hzz⟩⟩
    rw [gi_nat, dgi_at hk] at h0
    by_cases hik : i = k
    · subst hik; exact h0
    · exact hzz i (by omega) h2
  · rintro _ ⟨k0, rfl, hk0, hzz⟩
    refine ⟨fun l z => ∃ k : Nat, z = (m : Int) - 1 - k ∧ k ≤ m ∧ l = dgi p m (nm p m (hz m (dv p v) (dv p y) (dv p x) m k)), fun l z => (z + 1).toNat, ⟨m - 1 - k0, by omega, by omega, ?_⟩, ?_⟩
    · rw [hz_z (by omega) (fun i h1 h2 => hzz i (by omega) h2), nm_z (by omega), ho, rep_z p m]
    · rintro _ _ ⟨k, rfl, hk, rfl⟩
      dsimp only
      refine ⟨fun hge => v_timesX F (nm_lt (by omega) _) ?_, fun hlt => ?_⟩
      · have hs := hz_sup (c := dv p v) (b := dv p y) (n := m) (dv_sup hx) k
        rw [nm_vcg (vcg.tX (vcg.refl _) (cg_nm (by omega) hs))]
        generalize hT : tX m (dv p v) (hz m (dv p v) (dv p y) (dv p x) m k) = T
        have hnT := nm_lt (p := p) (m := m) (by omega) T
        refine ⟨fun l z => ∃ t : Nat, z = t ∧ t ≤ m ∧ l.length = m ∧ ∀ i, i < m → vo l i = if i < t then (T i + dv p y (m - 1 - k) * dv p x i) % (p : Int) else T i % (p : Int), fun l z => (m - z).toNat, ⟨0, rfl, Nat.zero_le _, dgi_len _ _ _, fun i hi => by rw [if_neg (by omega), dgi_at hi, dv_nm (by omega) _ hi]⟩, ?_⟩
        rintro l _ ⟨t, rfl, ht, hl, hv⟩
        dsimp only
        rw [show (m : Int) - 1 - k = ((m - 1 - k : Nat) : Int) by omega, gi_nat, gi_nat, gi_nat, si_nat]
        rw [hlx]
        refine ⟨fun hlt => ?_, fun hge2 => ?_⟩
        · rw [hv t (by omega), if_neg (by omega), dgi_at (by omega), dgi_at (by omega)]
          have c1 := hcy (m - 1 - k) (by omega)
          have c2 := hcx t (by omega)
          have c3 := bd_mul (a := dv p y (m - 1 - k)) (b := dv p x t) hp2 ⟨c1.1, by omega⟩ ⟨c2.1, by omega⟩
          have c4 : 0 ≤ T t % (p : Int) ∧ T t % (p : Int) < p := ⟨Int.emod_nonneg _ (by omega), Int.emod_lt_of_pos _ (by omega)⟩
          refine ⟨⟨by omega, by omega⟩, ⟨by omega, by omega⟩, ⟨by omega, by omega⟩, small (by omega) (by omega), small (by omega) (by omega), by omega, ⟨by omega, by omega⟩, small (by omega) (by omega), ⟨t + 1, by push_cast; rfl, by omega, by rw [List.length_set, hl], fun i hi => ?_⟩, by omega⟩
          rw [vo_set]
          by_cases hti : t = i
          · subst hti
            rw [if_pos ⟨rfl, by omega⟩, if_pos (by omega), Int.tmod_eq_emod_of_nonneg (by omega)]
            exact add_cg (Int.emod_emod _ _) rfl
          · rw [if_neg (fun h => hti h.1), hv i hi]
            by_cases hit : i < t
            · rw [if_pos hit, if_pos (by omega)]
            · rw [if_neg hit, if_neg (by omega)]
        · refine ⟨small (by omega) (by omega), ⟨k + 1, by omega, by omega, ?_⟩, by omega⟩
          refine can_list (by omega) hl fun i hi => ?_
          rw [hv i hi, if_pos (by omega)]
          show _ = (vadd (tX m (dv p v) (hz m (dv p v) (dv p y) (dv p x) m k)) (vsm (dv p y (m - 1 - k)) (dv p x))) i % _
          rw [hT]; rfl
      · have hkm : k = m := by omega
        subst hkm
        rw [hz_all]
        exact h
/-- the first n powers -/
def pwl (M : Nat → Nat → Nat) (x n : Nat) : List Int := (List.range n).map fun k => ((pw M x k : Nat) : Int)
theorem pwl_len (M : Nat → Nat → Nat) (x n : Nat) : (pwl M x n).length = n := by simp [pwl]
theorem pwl_at {M : Nat → Nat → Nat} {x n i : Nat} (h : i < n) : vo (pwl M x n) i = ((pw M x i : Nat) : Int) := by
  unfold vo pwl
  rw [List.getD_eq_getElem?_getD, List.getElem?_map, List.getElem?_range h]; rfl
theorem pwl_succ (M : Nat → Nat → Nat) (x n : Nat) : pwl M x (n + 1) = pwl M x n ++ [((pw M x n : Nat) : Int)] := by simp [pwl, List.range_succ]
/-- n is the least positive exponent that gives 1 -/
structure Od (M : Nat → Nat → Nat) (x n : Nat) : Prop where
  pos : 0 < n
  one : pw M x n = 1
  least : ∀ k, 0 < k → k < n → pw M x k ≠ 1
theorem v_powers {P M : Int} {mf : List Int} {p m v : Nat} (F : FV P M mf p m v) {x : Nat} {Q : List Int → Prop} (h0 : 0 < x) (hx : x < p ^ m)
    (h : ∀ n, Od (fmul p m (dv p v)) x n → n ≤ p ^ m - 1 → Q (pwl (fmul p m (dv p v)) x n)) : V_powers P M mf x Q := by
  have hp := F.p2
  have hp2 := F.p256
  have hm0 := F.m0
  have hm8 := F.m8
  have hq := F.q
  have R := F.ring
  obtain ⟨g, G⟩ := F.gen
  have hone := G.xone R h0 hx
  have hq2 := R.q2
  obtain rfl := F.eP
  obtain rfl := F.eM
  refine v_order hp hp2 fun r hr _ => ?_
  rw [Int.toNat_natCast] at hr
  rw [hr hq]
  refine ⟨⟨by omega, by omega, by omega⟩, by omega, _, v_digits (by omega) (by omega) (by omega) rfl, _, v_digits (by omega) (by omega) (by omega) rfl, ⟨by omega, by omega, by omega⟩, ?_⟩
  refine ⟨fun l z a b => ∃ k : Nat, 0 < k ∧ k ≤ p ^ m - 1 ∧ l = pwl (fmul p m (dv p v)) x k ∧ z = ((pw (fmul p m (dv p v)) x k : Nat) : Int) ∧ a = dgi p m (pw (fmul p m (dv p v)) x k) ∧ b.length = m ∧ ∀ j, 0 < j → j < k → pw (fmul p m (dv p v)) x j ≠ 1, fun l z a b => 300 - l.length, ⟨1, by omega, by omega, rfl, by rw [R.pw_one hx], by rw [R.pw_one hx], by simp, fun j h1 h2 => by omega⟩, ?_⟩
  rintro _ _ _ b ⟨k, hk0, hk, rfl, rfl, rfl, hb, hno⟩
  dsimp only
  refine ⟨fun hne => ?_, fun heq => ?_⟩
  · have hkq : k < p ^ m - 1 := by
      rcases Nat.lt_or_ge k (p ^ m - 1) with hc | hc
      · exact hc
      · have : k = p ^ m - 1 := by omega
        rw [this, hone] at hne; exact absurd rfl hne
    rw [pwl_len]
    refine ⟨by omega, ?_⟩
    refine v_product F hb (R.pw_lt x k) hx ?_
    have hlt := R.pw_lt x (k + 1)
    refine v_fromDigits hp hp2 (by rw [dgi_len]; exact dgi_cn (by omega) hlt _) (by rw [dgi_len]; exact hq) ?_
    have hvd := vl_dgi (p := p) (m := m) (by omega) hlt
    refine ⟨⟨k + 1, by omega, by omega, (pwl_succ _ _ _).symm, hvd, rfl, dgi_len _ _ _, fun j h1 h2 => ?_⟩, ?_⟩
    · by_cases hjk : j = k
      · subst hjk; intro e; rw [e] at hne; exact hne rfl
      · exact hno j h1 (by omega)
    · rw [List.length_append, pwl_len]; simp; omega
  · refine h k ⟨hk0, ?_, hno⟩ hk
    have : ((pw (fmul p m (dv p v)) x k : Nat) : Int) = 1 := by
      by_cases hc : ((pw (fmul p m (dv p v)) x k : Nat) : Int) = 1
      · exact hc
      · exact absurd hc heq
    omega
end Go.Proofs.Ytaipfkmlgdmjbaa
set_option linter.unusedVariables false
set_option linter.unusedSimpArgs false
namespace Go.Proofs.Ytaipfkmlgdmjbaa
/-! ### New -/
theorem gb_nat (l : List Bool) (i : Nat) : gb l (i : Int) = l.getD i false := rfl
theorem sb_nat (l : List Bool) (i : Nat) (x : Bool) : sb l (i : Int) x = l.set i x := rfl
theorem getD_setb (l : List Bool) (i j : Nat) (x : Bool) : (l.set i x).getD j false = if i = j ∧ i < l.length then x else l.getD j false := by
  rw [List.getD_eq_getElem?_getD, List.getD_eq_getElem?_getD, List.getElem?_set]
  by_cases h : i = j
  · subst h
    by_cases h2 : i < l.length
    · simp [h2]
    · simp [h2]
  · simp [h]
theorem v_units {P M : Int} {mf : List Int} {p m v : Nat} (F : FV P M mf p m v) {Q : List Int → Prop}
    (h : ∀ g, Gn (p ^ m) (fmul p m (dv p v)) g → Q (pwl (fmul p m (dv p v)) g (p ^ m - 1))) : V_units ⟨P, M, mf, ((p ^ m : Nat) : Int), [], [], []⟩ Q := by
  have hq := F.q
  have R := F.ring
  have hq2 := R.q2
  obtain ⟨g0, G0⟩ := F.gen
  generalize hqq : p ^ m = q at *
  generalize hMM : fmul p m (dv p v) = Mu at *
  refine ⟨⟨by show (0 : Int) ≤ q; omega, by show (q : Int) * 1 ≤ _; omega, by show (q : Int) ≤ _; omega⟩, ⟨by omega, by show (0 : Int) < ((((q : Nat) : Int).toNat : Nat) : Int); omega⟩, ?_⟩
  refine ⟨smallN (by omega), fun i x s => s.length = q ∧ s.getD 0 false = true ∧ (∀ j, j < i → ¬ Gn q Mu j) ∧ ∀ j, j < q → s.getD j false = true → ¬ Gn q Mu j, fun x s => ∃ g, Gn q Mu g ∧ x = pwl Mu g (q - 1), ?_, ?_, ?_, ?_⟩
  · have h0 : ¬ Gn q Mu 0 := fun G => by
      have := G.one
      rw [R.zero_pw (by omega)] at this; omega
    dsimp only
    rw [show (0 : Int) = ((0 : Nat) : Int) from rfl, sb_nat]
    refine ⟨by rw [List.length_set, List.length_replicate]; exact Int.toNat_natCast q, ?_, fun j hj => by omega, fun j hj hs => ?_⟩
    · rw [getD_setb, if_pos ⟨rfl, by rw [List.length_replicate, Int.toNat_natCast]; omega⟩]
    · rw [getD_setb] at hs
      by_cases hj0 : 0 = j
      · rw [← hj0]; exact h0
      · rw [if_neg (fun h => hj0 h.1), List.getD_eq_getElem?_getD, List.getElem?_replicate] at hs
        split at hs <;> exact absurd hs (by decide)
  · rintro i hi x s ⟨hs, hs0, hno, hsn⟩
    dsimp only at hi ⊢
    rw [Int.toNat_natCast] at hi
    rw [gb_nat]
    refine ⟨⟨by omega, by rw [Int.toNat_natCast]; omega⟩, fun hb => ⟨hs, hs0, fun j hj => ?_, hsn⟩, fun hb => ?_⟩
    · by_cases hji : j = i
      · subst hji; exact hsn j hi hb
      · exact hno j (by omega)
    · have hi0 : 0 < i := by
        rcases Nat.eq_zero_or_pos i with h0 | h0
        · subst h0; rw [hs0] at hb; exact absurd hb (by decide)
        · exact h0
      refine v_powers F hi0 (by rw [hqq]; exact hi) fun n O hn => ?_
      rw [hMM] at O ⊢
      rw [hqq] at hn
      rw [pwl_len]
      refine ⟨small (by omega) (by omega), fun he => ?_, fun hne => ?_⟩
      · have hnq : n = q - 1 := by omega
        subst hnq
        exact ⟨i, ⟨hi, O.one, O.least⟩, rfl⟩
      · have hnq : n < q - 1 := by omega
        have hnG : ∀ k, ¬ Gn q Mu (pw Mu i k) := fun k G => by
          have h1 : pw Mu (pw Mu i k) n = 1 := by rw [R.pw_pw hi, Nat.mul_comm, ← R.pw_pw hi, O.one, R.one_pw]
          exact G.no n O.pos hnq h1
        refine ⟨fun s' z => ∃ k : Nat, z = k ∧ k ≤ n ∧ s'.length = q ∧ s'.getD 0 false = true ∧ ∀ j, j < q → s'.getD j false = true → ¬ Gn q Mu j, fun s' z => (n - z).toNat, ⟨0, rfl, Nat.zero_le _, hs, hs0, hsn⟩, ?_⟩
        rintro s' _ ⟨k, rfl, hk, hs', hs0', hsn'⟩
        dsimp only
        rw [gi_nat]
        refine ⟨fun hlt => ?_, fun hge => ⟨hs', hs0', fun j hj => ?_, hsn'⟩⟩
        · rw [pwl_at (by omega), sb_nat]
          have hlt2 := R.pw_lt i k
          refine ⟨⟨by omega, by omega⟩, ⟨by omega, by rw [Int.toNat_natCast]; omega⟩, small (by omega) (by omega), ⟨k + 1, by push_cast; rfl, by omega, by rw [List.length_set, hs'], ?_, fun j hj hj2 => ?_⟩, by omega⟩
          · rw [getD_setb]; split
            · rfl
            · exact hs0'
          · rw [getD_setb] at hj2
            by_cases hjk : pw Mu i k = j
            · rw [← hjk]; exact hnG k
            · rw [if_neg (fun h => hjk h.1)] at hj2
              exact hsn' j hj hj2
        · by_cases hji : j = i
          · subst hji
            have := hnG 1
            rwa [R.pw_one hi] at this
          · exact hno j (by omega)
  · rintro x s ⟨hs, hs0, hno, hsn⟩
    have := G0.lt
    exact absurd G0 (hno g0 (by show g0 < ((q : Nat) : Int).toNat; rw [Int.toNat_natCast]; exact this))
  · rintro x s ⟨g, G, rfl⟩
    exact h g G
/-- the record that New makes -/
structure GFk (F : GFv) (p m v g : Nat) : Prop where
  fv : FV F.P F.M F.mod p m v
  q : F.q = ((p ^ m : Nat) : Int)
  G : Gn (p ^ m) (fmul p m (dv p v)) g
  el : F.exp.length = 2 * (p ^ m - 1)
  ev : ∀ k, k < 2 * (p ^ m - 1) → vo F.exp k = ((pw (fmul p m (dv p v)) g k : Nat) : Int)
  ll : F.log.length = p ^ m
  l0 : vo F.log 0 = -1
  lv : ∀ k, k < p ^ m - 1 → vo F.log (pw (fmul p m (dv p v)) g k) = (k : Int)
  al : F.above.length = p ^ m - 1
  av : ∀ k, k < p ^ m - 1 → vo F.above k = vo F.log (fadd p m (pw (fmul p m (dv p v)) g k) 1)
theorem succ_fadd {p m x : Nat} (hp : 2 ≤ p) (hm : 0 < m) (hx : x < p ^ m) : (if x % p = p - 1 then x - x % p else x + 1) = fadd p m x 1 := by
  have hmd := Nat.mod_add_div x p
  have hlt := Nat.mod_lt x (show 0 < p by omega)
  obtain ⟨n, rfl⟩ : ∃ n, m = n + 1 := ⟨m - 1, by omega⟩
  have hxd : x / p < p ^ n := by rw [Nat.div_lt_iff_lt_mul (by omega), ← Nat.pow_succ]; exact hx
  generalize hA : x / p = a at *
  generalize hR : x % p = r at *
  have key : ∀ y s, y = s + p * a → s < p → s = (r + 1) % p → y = fadd p (n + 1) x 1 := fun y s hy hs hsr => by
    have hyd : y / p = a := by rw [hy, Nat.add_mul_div_left _ _ (by omega), Nat.div_eq_of_lt hs, Nat.zero_add]
    have hym : y % p = s := by rw [hy, Nat.add_mul_mod_self_left, Nat.mod_eq_of_lt hs]
    have hyl : y < p ^ (n + 1) := by
      have h1 : p * (a + 1) ≤ p * p ^ n := Nat.mul_le_mul_left p hxd
      rw [Nat.pow_succ', hy]
      rw [Nat.mul_add, Nat.mul_one] at h1
      omega
    refine (nm_eq (by omega) hyl fun i hi => ?_).symm
    cases i with
    | zero =>
      simp only [vadd]
      rw [dv_zero, dv_zero, dv_zero, hym, hR, Nat.mod_eq_of_lt (show 1 < p by omega), hsr]
      push_cast; rfl
    | succ i =>
      simp only [vadd]
      rw [dv_succ, dv_succ, dv_succ, hyd, hA, Nat.div_eq_of_lt (show 1 < p by omega), dv_z]
      simp only [vz]
      rw [Int.add_zero, dv_mod]
  by_cases hc : r = p - 1
  · rw [if_pos hc]
    refine key (x - r) 0 (by omega) (by omega) ?_
    rw [hc, show p - 1 + 1 = p by omega, Nat.mod_self]
  · rw [if_neg hc]
    exact key (x + 1) (r + 1) (by omega) (by omega) (Nat.mod_eq_of_lt (by omega)).symm
theorem vo_app {a b : List Int} {i : Nat} : vo (a ++ b) i = if i < a.length then vo a i else vo b (i - a.length) := by
  unfold vo
  rw [List.getD_eq_getElem?_getD]
  split
  · rename_i h
    rw [List.getElem?_append_left h, List.getD_eq_getElem?_getD]
  · rename_i h
    rw [List.getElem?_append_right (by omega), List.getD_eq_getElem?_getD]
theorem v_New {P M : Int} {mf : List Int} {Q : Option GFv × Int → Prop} (hno : ¬ Valid P M mf → Q (none, 1)) (h : ∀ (F : GFv) (p m v g : Nat), GFk F p m v g → F.P = P → F.M = M → F.mod = mf → Q (some F, 0)) : V_New P M mf Q := by
  refine v_check ?_
  by_cases hV : Valid P M mf
  · rw [ck_ok hV]
    refine ⟨fun h1 => absurd rfl h1, fun _ => ?_⟩
    obtain ⟨p, m, v, F⟩ := hV
    obtain rfl := F.eP
    obtain rfl := F.eM
    have hp := F.p2
    have hp2 := F.p256
    have hm0 := F.m0
    have hm8 := F.m8
    have hq := F.q
    have R := F.ring
    have hq2 := R.q2
    have hml : mf.length ≤ 1000000 := by
      by_cases hm1 : m = 1
      · rw [(F.m1 hm1).1]; simp
      · rw [F.m2 hm1, dgi_len]; omega
    have hJ : V_cloneF p m mf (fun q => match q with | (r27, r28, x29) => V_order p m mf (fun r34 => r27 = p ∧ r28 = m ∧ x29 = mf ∧ r34 = ((p ^ m : Nat) : Int))) := v_clone hml (v_order hp hp2 fun r hr _ => by
      rw [Int.toNat_natCast] at hr
      exact ⟨rfl, rfl, rfl, hr hq⟩)
    refine ⟨fun a b c d => a = p ∧ b = m ∧ c = mf ∧ d = ((p ^ m : Nat) : Int), hJ, ?_⟩
    rintro _ _ _ _ ⟨rfl, rfl, rfl, rfl⟩
    refine v_units F fun g G => ?_
    have hg := G.lt
    generalize hqq : p ^ m = q at *
    generalize hMM : fmul p m (dv p v) = Mu at *
    rw [pwl_len]
    have hql : (List.replicate ((q : Nat) : Int).toNat (0 : Int)).length = q := by rw [List.length_replicate, Int.toNat_natCast]
    rw [Int.toNat_natCast, Int.toNat_natCast]
    rw [Int.toNat_natCast] at hql
    refine ⟨⟨by omega, by omega, by omega⟩, ⟨by omega, by omega, by omega⟩, ⟨by omega, by omega⟩, ?_⟩
    refine ⟨fun l z => ∃ k : Nat, z = k ∧ k ≤ q - 1 ∧ l.length = q ∧ vo l 0 = -1 ∧ ∀ t, t < k → vo l (pw Mu g t) = (t : Int), fun l z => (q - z).toNat, ⟨0, rfl, Nat.zero_le _, ?_, ?_, fun t ht => by omega⟩, ?_⟩
    · rw [show (0 : Int) = ((0 : Nat) : Int) from rfl, si_nat, List.length_set]; exact hql
    · rw [show si (List.replicate q (0 : Int)) 0 (-1) = (List.replicate q (0 : Int)).set 0 (-1) from rfl, vo_set, if_pos ⟨rfl, by rw [hql]; omega⟩]
    · rintro l _ ⟨k, rfl, hk, hl, hl0, hlv⟩
      dsimp only
      rw [gi_nat]
      refine ⟨fun hlt => ?_, fun hge => ?_⟩
      · rw [pwl_at (by omega), si_nat]
        have hlt2 := R.pw_lt g k
        refine ⟨⟨by omega, by omega⟩, ⟨by omega, by omega⟩, small (by omega) (by omega), ⟨k + 1, by push_cast; rfl, by omega, by rw [List.length_set, hl], ?_, fun t ht => ?_⟩, by omega⟩
        · rw [vo_set, if_neg (fun h => G.ne0 R k h.1)]; exact hl0
        · rw [vo_set]
          by_cases htk : t = k
          · subst htk; rw [if_pos ⟨rfl, by rw [hl]; exact hlt2⟩]
          · rw [if_neg (fun h => G.inj R (show t < k by omega) (by omega) h.1.symm)]
            exact hlv t (by omega)
      · have hkq : k = q - 1 := by omega
        subst hkq
        refine ⟨⟨by omega, by omega, by omega⟩, fun a z => ∃ k : Nat, z = k ∧ k ≤ q - 1 ∧ a.length = q - 1 ∧ ∀ t, t < k → vo a t = vo l (fadd p m (pw Mu g t) 1), fun a z => (q - z).toNat, ⟨0, rfl, Nat.zero_le _, by simp, fun t ht => by omega⟩, ?_⟩
        rintro a _ ⟨k, rfl, hk, hal, hav⟩
        dsimp only
        rw [gi_nat]
        refine ⟨fun hlt => ?_, fun hge => ?_⟩
        · rw [pwl_at (by omega)]
          have hlt2 := R.pw_lt g k
          have hsl := R.Al (pw Mu g k) 1
          have hsf := succ_fadd hp hm0 (x := pw Mu g k) (by rw [hqq]; exact hlt2)
          refine ⟨⟨by omega, by omega⟩, _, v_successor hp hp2 (by omega) rfl, ?_⟩
          rw [hsf, gi_nat, si_nat]
          refine ⟨⟨by omega, by omega⟩, ⟨by omega, by omega⟩, small (by omega) (by omega), ⟨k + 1, by push_cast; rfl, by omega, by rw [List.length_set, hal], fun t ht => ?_⟩, by omega⟩
          rw [vo_set]
          by_cases htk : k = t
          · subst htk; rw [if_pos ⟨rfl, by omega⟩]
          · rw [if_neg (fun h => htk h.1)]; exact hav t (by omega)
        · have hkq : k = q - 1 := by omega
          subst hkq
          subst hMM
          subst hqq
          refine h _ p m v g ⟨F, rfl, G, ?_, fun k hk2 => ?_, hl, hl0, hlv, hal, hav⟩ rfl rfl rfl
          · simp only [List.length_append, pwl_len]; omega
          · show vo (pwl _ g _ ++ pwl _ g _) k = _
            rw [vo_app, pwl_len]
            by_cases hkl : k < p ^ m - 1
            · rw [if_pos hkl, pwl_at hkl]
            · rw [if_neg hkl, pwl_at (by omega)]
              have := G.per R (k - (p ^ m - 1)) 1
              rw [Nat.mul_one, show k - (p ^ m - 1) + (p ^ m - 1) = k by omega] at this
              rw [this]
  · rw [ck_no hV]
    exact ⟨fun _ => hno hV, fun h1 => absurd (show (1 : Int) ≠ 0 by decide) h1⟩
end Go.Proofs.Ytaipfkmlgdmjbaa
set_option linter.unusedVariables false
set_option linter.unusedSimpArgs false
namespace Go.Proofs.Ytaipfkmlgdmjbaa
/-! ### the reference's arithmetic -/
/-- the element that x stands for -/
def inE (q : Nat) (x : Int) : Nat := if 0 ≤ x ∧ x < q then x.toNat else 0
theorem inE_lt {q : Nat} (hq : 0 < q) (x : Int) : inE q x < q := by unfold inE; split <;> omega
theorem inE_nat {q x : Nat} (h : x < q) : inE q (x : Int) = x := by unfold inE; rw [if_pos (by omega)]; rfl
section
variable {P M : Int} {mf : List Int} {p m v : Nat}
theorem FV.ord (F : FV P M mf p m v) : ordR P M = ((p ^ m : Nat) : Int) := by
  rw [F.eP, F.eM, ordR, if_pos]
  · simp
  · have := F.p2; have := F.m0; have := F.q
    exact ⟨by omega, by omega, by simpa using this⟩
theorem FV.i64 (F : FV P M mf p m v) : I64 P := by
  have := F.p256; rw [F.eP]; exact small (by omega) (by omega)
theorem v_rIs (F : FV P M mf p m v) {x : Int} {Q : Bool → Prop} (h : Q (decide (0 ≤ x ∧ x < ((p ^ m : Nat) : Int)))) : V_rIs P M mf x Q := by
  refine ⟨fun h0 => v_rOrder ?_, fun h0 => ?_⟩
  · rw [F.ord]; simpa [h0] using h
  · simpa [h0] using h
theorem v_rIn (F : FV P M mf p m v) {x : Int} {Q : Int → Prop} (h : Q ((inE (p ^ m) x : Nat) : Int)) : V_rIn P M mf x Q := by
  refine v_rIs F ⟨fun hb => ?_, fun hb => ?_⟩
  · have hb := of_decide_eq_true hb
    unfold inE at h
    rw [if_pos hb] at h
    rwa [Int.toNat_of_nonneg hb.1] at h
  · have hb := of_decide_eq_false hb
    unfold inE at h
    rw [if_neg hb] at h
    exact h
end
section
variable {P M : Int} {mf : List Int} {p m v : Nat}
end
end Go.Proofs.Ytaipfkmlgdmjbaa
set_option linter.unusedVariables false
set_option linter.unusedSimpArgs false
namespace Go.Proofs.Ytaipfkmlgdmjbaa
/-! ### the methods -/
section
variable {F : GFv} {p m v g : Nat}
theorem v_Is {x : Int} {Q : Bool → Prop} (K : GFk F p m v g) (h : Q (decide (0 ≤ x ∧ x < ((p ^ m : Nat) : Int)))) : V_Is F x Q := by
  refine ⟨fun h0 => ?_, fun h0 => ?_⟩
  · rw [K.q]; simpa [h0] using h
  · simpa [h0] using h
theorem inE_cast {q : Nat} {x : Int} (h : inE q x ≠ 0) : x = ((inE q x : Nat) : Int) := by
  unfold inE at h ⊢
  split
  · rename_i hc; exact (Int.toNat_of_nonneg hc.1).symm
  · rename_i hc; rw [if_neg hc] at h; exact absurd rfl h
/-- an element but 0 is a power, and its logarithm stands in the table -/
theorem GFk.lg (K : GFk F p m v g) {x : Int} (h : inE (p ^ m) x ≠ 0) : ∃ a : Nat, a < p ^ m - 1 ∧ inE (p ^ m) x = pw (fmul p m (dv p v)) g a ∧ gi F.log x = (a : Int) ∧ (0 ≤ x ∧ x < (F.log.length : Nat)) := by
  have R := K.fv.ring
  have hlt := inE_lt R.pos x
  obtain ⟨a, ha, he⟩ := K.G.surj R (Nat.pos_of_ne_zero h) hlt
  have hx := inE_cast h
  refine ⟨a, ha, he.symm, ?_, ?_⟩
  · rw [hx, ← he, gi_nat, K.lv a ha]
  · rw [K.ll]; omega
theorem mul_neg {p m : Nat} {c : Vec} {x : Nat} (hp : 2 ≤ p) (hm : 0 < m) (hx : x < p ^ m) : fmul p m c (p - 1) x = fneg p m x := by
  unfold fmul fneg
  have hd : vcg p (dv p (p - 1)) (vsm (-1) e0) := fun i => by
    cases i with
    | zero =>
      rw [dv_zero, Nat.mod_eq_of_lt (by omega)]
      show ((p - 1 : Nat) : Int) % p = (-1 * 1) % p
      rw [show ((p - 1 : Nat) : Int) = -1 * 1 + p * 1 by omega, Int.add_mul_emod_self_left]
    | succ i =>
      rw [dv_succ, Nat.div_eq_of_lt (by omega), dv_z]
      simp [vz, vsm, e0]
  rw [nm_vcg (vcg.mul (vcg.refl c) hd (vcg.refl _))]
  have : vmul m c (vsm (-1) e0) (dv p x) = vsm (-1) (dv p x) := by
    show opr m c (dv p x) m (vsm (-1) e0) = _
    rw [opr_sm, opr_self (dv_sup hx)]
  rw [this]
theorem Od.uniq {M : Nat → Nat → Nat} {x n k : Nat} (h : Od M x n) (h' : Od M x k) : n = k := by
  rcases Nat.lt_trichotomy n k with h1 | h1 | h1
  · exact absurd h.one (h'.least n h.pos h1)
  · exact h1
  · exact absurd h'.one (h.least k h'.pos h1)
end
end Go.Proofs.Ytaipfkmlgdmjbaa
set_option linter.unusedVariables false
set_option linter.unusedSimpArgs false
namespace Go.Proofs.Ytaipfkmlgdmjbaa
/-! ### commutative rings, sums, series -/
class Cr (α : Type) where
  add : α → α → α
  mul : α → α → α
  neg : α → α
  zero : α
  one : α
  ac : ∀ x y, add x y = add y x
  aa : ∀ x y z, add (add x y) z = add x (add y z)
  az : ∀ x, add x zero = x
  an : ∀ x, add x (neg x) = zero
  mc : ∀ x y, mul x y = mul y x
  ma : ∀ x y z, mul (mul x y) z = mul x (mul y z)
  m1 : ∀ x, mul x one = x
  md : ∀ x y z, mul x (add y z) = add (mul x y) (mul x z)
section
variable {α : Type} [Cr α]
instance (priority := 100) crAdd : Add α := ⟨Cr.add⟩
instance (priority := 100) crMul : Mul α := ⟨Cr.mul⟩
instance (priority := 100) crNeg : Neg α := ⟨Cr.neg⟩
instance (priority := 100) crSub : Sub α := ⟨fun x y => Cr.add x (Cr.neg y)⟩
instance (priority := 100) crZero : OfNat α 0 := ⟨Cr.zero⟩
instance (priority := 100) crOne : OfNat α 1 := ⟨Cr.one⟩
namespace Cr
theorem add_comm (x y : α) : x + y = y + x := Cr.ac x y
theorem add_assoc (x y z : α) : x + y + z = x + (y + z) := Cr.aa x y z
theorem add_zero (x : α) : x + 0 = x := Cr.az x
theorem zero_add (x : α) : 0 + x = x := by rw [Cr.add_comm, Cr.add_zero]
theorem add_neg (x : α) : x + -x = 0 := Cr.an x
theorem neg_add (x : α) : -x + x = 0 := by rw [Cr.add_comm, Cr.add_neg]
theorem mul_comm (x y : α) : x * y = y * x := Cr.mc x y
theorem mul_assoc (x y z : α) : x * y * z = x * (y * z) := Cr.ma x y z
theorem mul_one (x : α) : x * 1 = x := Cr.m1 x
theorem one_mul (x : α) : 1 * x = x := by rw [Cr.mul_comm, Cr.mul_one]
theorem mul_add (x y z : α) : x * (y + z) = x * y + x * z := Cr.md x y z
theorem add_mul (x y z : α) : (x + y) * z = x * z + y * z := by rw [Cr.mul_comm, Cr.mul_add, Cr.mul_comm z x, Cr.mul_comm z y]
theorem sub_eq (x y : α) : x - y = x + -y := rfl
theorem add_left_comm (x y z : α) : x + (y + z) = y + (x + z) := by rw [← Cr.add_assoc, Cr.add_comm x y, Cr.add_assoc]
theorem add_left_cancel {x y z : α} (h : x + y = x + z) : y = z := by
  have := congrArg (fun u => -x + u) h
  simpa [← Cr.add_assoc, Cr.neg_add, Cr.zero_add] using this
theorem mul_zero (x : α) : x * 0 = 0 := by
  refine Cr.add_left_cancel (x := x * 0) ?_
  rw [← Cr.mul_add, Cr.add_zero, Cr.add_zero]
theorem zero_mul (x : α) : 0 * x = 0 := by rw [Cr.mul_comm, Cr.mul_zero]
theorem neg_uniq {x y : α} (h : x + y = 0) : y = -x := Cr.add_left_cancel (x := x) (by rw [h, Cr.add_neg])
theorem neg_zero : -(0 : α) = 0 := (Cr.neg_uniq (Cr.add_zero (0 : α))).symm
theorem neg_neg (x : α) : - -x = x := (Cr.neg_uniq (Cr.neg_add x)).symm
theorem neg_addd (x y : α) : -(x + y) = -x + -y := (Cr.neg_uniq (by
  rw [Cr.add_assoc, Cr.add_left_comm y, ← Cr.add_assoc, Cr.add_neg, Cr.add_neg, Cr.add_zero])).symm
theorem mul_neg (x y : α) : x * -y = -(x * y) := Cr.neg_uniq (by rw [← Cr.mul_add, Cr.add_neg, Cr.mul_zero])
theorem sub_self (x : α) : x - x = 0 := Cr.add_neg x
theorem sub_zero (x : α) : x - 0 = x := by rw [Cr.sub_eq, Cr.neg_zero, Cr.add_zero]
theorem add_sub (x y : α) : x + y - y = x := by rw [Cr.sub_eq, Cr.add_assoc, Cr.add_neg, Cr.add_zero]
theorem mul_sub (x y z : α) : x * (y - z) = x * y - x * z := by rw [Cr.sub_eq, Cr.mul_add, Cr.mul_neg]; rfl
theorem sub_mul (x y z : α) : (x - y) * z = x * z - y * z := by rw [Cr.mul_comm, Cr.mul_sub, Cr.mul_comm z, Cr.mul_comm z]
theorem neg_sub (x y : α) : -(x - y) = y - x := by rw [Cr.sub_eq, Cr.neg_addd, Cr.neg_neg, Cr.add_comm]; rfl
end Cr
instance : Std.Commutative (α := α) (· + ·) := ⟨Cr.add_comm⟩
instance : Std.Associative (α := α) (· + ·) := ⟨Cr.add_assoc⟩
instance : Std.Commutative (α := α) (· * ·) := ⟨Cr.mul_comm⟩
instance : Std.Associative (α := α) (· * ·) := ⟨Cr.mul_assoc⟩
def sgm (f : Nat → α) : Nat → α
  | 0 => 0
  | n + 1 => sgm f n + f n
theorem sgm_congr {f g : Nat → α} : ∀ {n : Nat}, (∀ i, i < n → f i = g i) → sgm f n = sgm g n
  | 0, _ => rfl
  | n + 1, h => by rw [sgm, sgm, sgm_congr (n := n) fun i hi => h i (by omega), h n (by omega)]
theorem sgm_add (f g : Nat → α) : ∀ n, sgm (fun i => f i + g i) n = sgm f n + sgm g n
  | 0 => (Cr.add_zero 0).symm
  | n + 1 => by rw [sgm, sgm, sgm, sgm_add f g n]; ac_rfl
theorem sgm_mul (a : α) (f : Nat → α) : ∀ n, sgm (fun i => a * f i) n = a * sgm f n
  | 0 => (Cr.mul_zero a).symm
  | n + 1 => by rw [sgm, sgm, sgm_mul a f n, Cr.mul_add]
theorem sgm_mulr (a : α) (f : Nat → α) (n : Nat) : sgm (fun i => f i * a) n = sgm f n * a := by
  rw [Cr.mul_comm _ a, ← sgm_mul]
  exact sgm_congr fun i _ => Cr.mul_comm _ _
theorem sgm_zero {f : Nat → α} : ∀ {n : Nat}, (∀ i, i < n → f i = 0) → sgm f n = 0
  | 0, _ => rfl
  | n + 1, h => by rw [sgm, sgm_zero (n := n) fun i hi => h i (by omega), h n (by omega), Cr.add_zero]
theorem sgm_front (f : Nat → α) : ∀ n, sgm f (n + 1) = f 0 + sgm (fun i => f (i + 1)) n
  | 0 => by rw [sgm, sgm, sgm, Cr.add_comm]
  | n + 1 => by rw [sgm, sgm_front f n, sgm, Cr.add_assoc]
theorem sgm_rev (f : Nat → α) : ∀ n, sgm f n = sgm (fun i => f (n - 1 - i)) n
  | 0 => rfl
  | n + 1 => by
    rw [sgm_front (fun i => f (n + 1 - 1 - i)) n, sgm, sgm_rev f n, Cr.add_comm]
    congr 1
    exact sgm_congr fun i hi => by congr 1; omega
theorem sgm_one {f : Nat → α} {k : Nat} : ∀ {n : Nat}, k < n → (∀ i, i < n → i ≠ k → f i = 0) → sgm f n = f k
  | 0, h, _ => absurd h (Nat.not_lt_zero k)
  | n + 1, h, h0 => by
    by_cases hk : k = n
    · subst hk
      rw [sgm, sgm_zero fun i hi => h0 i (by omega) (by omega), Cr.zero_add]
    · rw [sgm, sgm_one (n := n) (by omega) fun i hi hne => h0 i (by omega) hne, h0 n (by omega) (Ne.symm hk), Cr.add_zero]
theorem sgm_tri (F : Nat → Nat → α) : ∀ n, sgm (fun s => sgm (fun i => F i (s - i)) (s + 1)) n = sgm (fun i => sgm (F i) (n - i)) n
  | 0 => rfl
  | n + 1 => by
    rw [sgm, sgm_tri F n, sgm]
    have h1 : sgm (fun i => sgm (F i) (n + 1 - i)) n = sgm (fun i => sgm (F i) (n - i)) n + sgm (fun i => F i (n - i)) n := by
      rw [← sgm_add]
      exact sgm_congr fun i hi => by rw [show n + 1 - i = (n - i) + 1 by omega, sgm]
    rw [sgm, h1, show n + 1 - n = 0 + 1 by omega, sgm, sgm, Cr.zero_add, Nat.sub_self, Cr.add_assoc]
/-! series -/
def Pl (α : Type) : Type := Nat → α
def pmul (f g : Nat → α) : Nat → α := fun k => sgm (fun i => f i * g (k - i)) (k + 1)
theorem pmul_comm (f g : Nat → α) : pmul f g = pmul g f := by
  funext k
  unfold pmul
  rw [sgm_rev]
  exact sgm_congr fun i hi => by
    rw [Cr.mul_comm]
    congr 2 <;> omega
theorem pmul_assoc (f g h : Nat → α) : pmul (pmul f g) h = pmul f (pmul g h) := by
  funext k
  have e1 : pmul (pmul f g) h k = sgm (fun s => sgm (fun i => f i * g (s - i) * h (k - (i + (s - i)))) (s + 1)) (k + 1) := by
    show sgm (fun s => sgm (fun i => f i * g (s - i)) (s + 1) * h (k - s)) (k + 1) = _
    refine sgm_congr fun s hs => ?_
    rw [← sgm_mulr]
    exact sgm_congr fun i hi => by rw [show i + (s - i) = s by omega]
  have e2 : pmul f (pmul g h) k = sgm (fun i => sgm (fun j => f i * g j * h (k - (i + j))) (k + 1 - i)) (k + 1) := by
    show sgm (fun i => f i * sgm (fun j => g j * h (k - i - j)) (k - i + 1)) (k + 1) = _
    refine sgm_congr fun i hi => ?_
    rw [← sgm_mul, show k + 1 - i = k - i + 1 by omega]
    exact sgm_congr fun j hj => by rw [Cr.mul_assoc, show k - i - j = k - (i + j) by omega]
  rw [e1, e2]
  exact sgm_tri (fun i j => f i * g j * h (k - (i + j))) (k + 1)
instance : Cr (Pl α) where
  add f g := fun i => f i + g i
  mul f g := pmul f g
  neg f := fun i => -(f i)
  zero := fun _ => 0
  one := fun i => if i = 0 then 1 else 0
  ac f g := funext fun i => Cr.add_comm _ _
  aa f g h := funext fun i => Cr.add_assoc _ _ _
  az f := funext fun i => Cr.add_zero _
  an f := funext fun i => Cr.add_neg _
  mc f g := pmul_comm f g
  ma f g h := pmul_assoc f g h
  m1 f := by
    refine (pmul_comm (α := α) f (fun i => if i = 0 then 1 else 0)).trans ?_
    funext k
    show sgm (fun i => (if i = 0 then (1 : α) else 0) * f (k - i)) (k + 1) = f k
    rw [sgm_one (k := 0) (by omega) fun i hi hne => by rw [if_neg hne, Cr.zero_mul], if_pos rfl, Cr.one_mul, Nat.sub_zero]
  md f g h := by
    funext k
    show sgm (fun i => f i * (g (k - i) + h (k - i))) (k + 1) = sgm (fun i => f i * g (k - i)) (k + 1) + sgm (fun i => f i * h (k - i)) (k + 1)
    rw [← sgm_add]
    exact sgm_congr fun i _ => Cr.mul_add _ _ _
namespace Pl
omit [Cr α] in
theorem ext {f g : Pl α} (h : ∀ i, f i = g i) : f = g := funext h
theorem add_at (f g : Pl α) (i : Nat) : (f + g) i = f i + g i := rfl
theorem neg_at (f : Pl α) (i : Nat) : (-f) i = -(f i) := rfl
theorem sub_at (f g : Pl α) (i : Nat) : (f - g) i = f i - g i := rfl
theorem one_at (i : Nat) : (1 : Pl α) i = if i = 0 then 1 else 0 := rfl
theorem mul_at (f g : Pl α) (k : Nat) : (f * g) k = sgm (fun i => f i * g (k - i)) (k + 1) := rfl
end Pl
/-! finite support -/
def Su (f : Pl α) (n : Nat) : Prop := ∀ i, n ≤ i → f i = 0
theorem Su.mono {f : Pl α} {n m : Nat} (h : Su f n) (hm : n ≤ m) : Su f m := fun i hi => h i (by omega)
theorem Su.add {f g : Pl α} {n : Nat} (hf : Su f n) (hg : Su g n) : Su (f + g) n := fun i hi => by rw [Pl.add_at, hf i hi, hg i hi, Cr.add_zero]
theorem Su.neg {f : Pl α} {n : Nat} (hf : Su f n) : Su (-f) n := fun i hi => by rw [Pl.neg_at, hf i hi, Cr.neg_zero]
theorem Su.sub {f g : Pl α} {n : Nat} (hf : Su f n) (hg : Su g n) : Su (f - g) n := Su.add hf hg.neg
theorem Su.zero (n : Nat) : Su (0 : Pl α) n := fun i _ => rfl
theorem Su.one : Su (1 : Pl α) 1 := fun i hi => by rw [Pl.one_at, if_neg (by omega)]
theorem Su.eq0 {f : Pl α} (h : Su f 0) : f = 0 := Pl.ext fun i => h i (Nat.zero_le i)
theorem Su.mul {f g : Pl α} {n m : Nat} (hf : Su f n) (hg : Su g m) : Su (f * g) (n + m - 1) := fun k hk => by
  rw [Pl.mul_at]
  refine sgm_zero fun i hi => ?_
  by_cases h : n ≤ i
  · rw [hf i h, Cr.zero_mul]
  · rw [hg (k - i) (by omega), Cr.mul_zero]
theorem top_mul {f g : Pl α} {n m : Nat} (hf : Su f (n + 1)) (hg : Su g (m + 1)) : (f * g) (n + m) = f n * g m := by
  rw [Pl.mul_at, sgm_one (k := n) (by omega) fun i hi hne => ?_, show n + m - n = m by omega]
  by_cases h : n + 1 ≤ i
  · rw [hf i h, Cr.zero_mul]
  · rw [hg (n + m - i) (by omega), Cr.mul_zero]
/-- degree d -/
def Dg (f : Pl α) (d : Nat) : Prop := f d ≠ 0 ∧ Su f (d + 1)
open Classical in
theorem dg_ex {f : Pl α} : ∀ {n : Nat}, Su f n → f = 0 ∨ ∃ d, d < n ∧ Dg f d
  | 0, h => .inl h.eq0
  | n + 1, h => by
    by_cases h0 : f n = 0
    · rcases dg_ex (f := f) (n := n) (fun i hi => by
        by_cases e : i = n
        · rw [e, h0]
        · exact h i (by omega)) with h1 | ⟨d, h1, h2⟩
      · exact .inl h1
      · exact .inr ⟨d, by omega, h2⟩
    · exact .inr ⟨n, by omega, h0, h⟩
theorem Dg.ne {f : Pl α} {d : Nat} (h : Dg f d) : f ≠ 0 := fun e => h.1 (by rw [e]; rfl)
theorem Dg.lt {f : Pl α} {d n : Nat} (h : Dg f d) (hs : Su f n) : d < n := by
  rcases Nat.lt_or_ge d n with h1 | h1
  · exact h1
  · exact absurd (hs d h1) h.1
theorem Dg.uniq {f : Pl α} {d e : Nat} (h : Dg f d) (h' : Dg f e) : d = e := by
  have h1 := h.lt h'.2; have h2 := h'.lt h.2; omega
/-- a a monomial -/
def mo (a : α) (n : Nat) : Pl α := fun i => if i = n then a else 0
theorem mo_su (a : α) (n : Nat) : Su (mo a n) (n + 1) := fun i hi => if_neg (by omega)
theorem mo_mul (a : α) (n : Nat) (f : Pl α) (k : Nat) : (mo a n * f) k = if n ≤ k then a * f (k - n) else 0 := by
  rw [Pl.mul_at]
  split
  · rename_i h
    rw [sgm_one (k := n) (by omega) fun i hi hne => by rw [mo, if_neg hne, Cr.zero_mul], mo, if_pos rfl]
  · rename_i h
    exact sgm_zero fun i hi => by rw [mo, if_neg (by omega), Cr.zero_mul]
/-- a constant -/
def ct (a : α) : Pl α := mo a 0
theorem ct_mul (a : α) (f : Pl α) (k : Nat) : (ct a * f) k = a * f k := by rw [ct, mo_mul, if_pos (Nat.zero_le k), Nat.sub_zero]
theorem ct_su (a : α) : Su (ct a) 1 := mo_su a 0
theorem Su.ct {f : Pl α} {n : Nat} (a : α) (h : Su f n) : Su (Go.Proofs.Ytaipfkmlgdmjbaa.ct a * f) n := fun i hi => by rw [ct_mul, h i hi, Cr.mul_zero]
end
end Go.Proofs.Ytaipfkmlgdmjbaa
set_option linter.unusedVariables false
set_option linter.unusedSimpArgs false
set_option linter.unusedSectionVars false
namespace Go.Proofs.Ytaipfkmlgdmjbaa
/-! ### polynomials over a field -/
class Fd (α : Type) [Cr α] : Prop where
  ne : (1 : α) ≠ 0
  inv : ∀ x : α, x ≠ 0 → ∃ y, x * y = 1
section
variable {α : Type} [Cr α]
def Fs (f : Pl α) : Prop := ∃ n, Su f n
theorem Fs.add {f g : Pl α} : Fs f → Fs g → Fs (f + g) := fun ⟨n, hn⟩ ⟨m, hm⟩ => ⟨max n m, (hn.mono (by omega)).add (hm.mono (by omega))⟩
theorem Fs.neg {f : Pl α} : Fs f → Fs (-f) := fun ⟨n, hn⟩ => ⟨n, hn.neg⟩
theorem Fs.sub {f g : Pl α} (hf : Fs f) (hg : Fs g) : Fs (f - g) := hf.add hg.neg
theorem Fs.mul {f g : Pl α} : Fs f → Fs g → Fs (f * g) := fun ⟨n, hn⟩ ⟨m, hm⟩ => ⟨_, hn.mul hm⟩
theorem Fs.zero : Fs (0 : Pl α) := ⟨0, Su.zero 0⟩
theorem Fs.one : Fs (1 : Pl α) := ⟨1, Su.one⟩
theorem Fs.mo (a : α) (n : Nat) : Fs (mo a n) := ⟨n + 1, mo_su a n⟩
theorem Fs.ct (a : α) : Fs (ct a) := ⟨1, ct_su a⟩
theorem Dg.fs {f : Pl α} {d : Nat} (h : Dg f d) : Fs f := ⟨_, h.2⟩
/-! divisibility -/
def Dv (f g : Pl α) : Prop := ∃ h, Fs h ∧ g = f * h
theorem Dv.refl (f : Pl α) : Dv f f := ⟨1, Fs.one, (Cr.mul_one f).symm⟩
theorem Dv.zero (f : Pl α) : Dv f 0 := ⟨0, Fs.zero, (Cr.mul_zero f).symm⟩
theorem Dv.trans {f g h : Pl α} : Dv f g → Dv g h → Dv f h := fun ⟨a, ha, h1⟩ ⟨b, hb, h2⟩ => ⟨a * b, ha.mul hb, by rw [h2, h1, Cr.mul_assoc]⟩
theorem Dv.add {f g h : Pl α} : Dv f g → Dv f h → Dv f (g + h) := fun ⟨a, ha, h1⟩ ⟨b, hb, h2⟩ => ⟨a + b, ha.add hb, by rw [h1, h2, Cr.mul_add]⟩
theorem Dv.neg {f g : Pl α} : Dv f g → Dv f (-g) := fun ⟨a, ha, h1⟩ => ⟨-a, ha.neg, by rw [h1, Cr.mul_neg]⟩
theorem Dv.sub {f g h : Pl α} (h1 : Dv f g) (h2 : Dv f h) : Dv f (g - h) := h1.add h2.neg
theorem Dv.mulr {f g : Pl α} (h : Dv f g) {a : Pl α} (ha : Fs a) : Dv f (g * a) := by
  obtain ⟨b, hb, rfl⟩ := h
  exact ⟨b * a, hb.mul ha, Cr.mul_assoc _ _ _⟩
theorem Dv.mull {f g : Pl α} (h : Dv f g) {a : Pl α} (ha : Fs a) : Dv f (a * g) := by rw [Cr.mul_comm]; exact h.mulr ha
/-- the greatest common divisors of two polynomials, but for a factor -/
def Gd (p q d : Pl α) : Prop := Dv d p ∧ Dv d q ∧ ∀ c, Dv c p → Dv c q → Dv c d
theorem Gd.step {p q a r d : Pl α} (ha : Fs a) (e : p = a * q + r) (h : Gd q r d) : Gd p q d := by
  refine ⟨by rw [e]; exact (h.1.mull ha).add h.2.1, h.1, fun c h1 h2 => h.2.2 c h2 ?_⟩
  have : r = p - a * q := by rw [e, Cr.add_comm, Cr.add_sub]
  rw [this]; exact h1.sub (h2.mull ha)
theorem Gd.zero (p : Pl α) : Gd p 0 p := ⟨Dv.refl p, Dv.zero p, fun c h _ => h⟩
theorem Gd.symm {p q d : Pl α} (h : Gd p q d) : Gd q p d := ⟨h.2.1, h.1, fun c h1 h2 => h.2.2 c h2 h1⟩
theorem Gd.assoc {p q d e : Pl α} (h : Gd p q d) (h1 : Dv e d) (h2 : Dv d e) : Gd p q e := ⟨h1.trans h.1, h1.trans h.2.1, fun c h3 h4 => (h.2.2 c h3 h4).trans h2⟩
def Mn (f : Pl α) : Prop := ∃ d, Dg f d ∧ f d = 1
/-! congruence -/
def Cg (m f g : Pl α) : Prop := Dv m (f - g)
theorem Cg.refl (m f : Pl α) : Cg m f f := by unfold Cg; rw [Cr.sub_self]; exact Dv.zero m
theorem Cg.symm {m f g : Pl α} (h : Cg m f g) : Cg m g f := by have := Dv.neg h; rwa [Cr.neg_sub] at this
theorem Cg.trans {m f g k : Pl α} (h : Cg m f g) (h' : Cg m g k) : Cg m f k := by
  have := Dv.add h h'
  have e : f - g + (g - k) = f - k := by
    rw [Cr.sub_eq, Cr.sub_eq, Cr.sub_eq, Cr.add_assoc, ← Cr.add_assoc (-g), Cr.neg_add, Cr.zero_add]
  rwa [e] at this
theorem Cg.mul {m f g f' g' : Pl α} (h : Cg m f g) (h' : Cg m f' g') (hf : Fs f') (hg : Fs g) : Cg m (f * f') (g * g') := by
  have := Dv.add (Dv.mulr h hf) (Dv.mull h' hg)
  have e : (f - g) * f' + g * (f' - g') = f * f' - g * g' := by
    rw [Cr.sub_mul, Cr.mul_sub, Cr.sub_eq, Cr.sub_eq, Cr.sub_eq, Cr.add_assoc, ← Cr.add_assoc (-(g * f')), Cr.neg_add, Cr.zero_add]
  rw [e] at this; exact this
/-! powers and values -/
def pwr (x : α) : Nat → α
  | 0 => 1
  | n + 1 => pwr x n * x
def evp (f : Pl α) (n : Nat) (x : α) : α := sgm (fun i => f i * pwr x i) n
open Classical in
noncomputable def vl_ (f : Pl α) (x : α) : α := if h : Fs f then evp f (Classical.choose h) x else 0
/-! derivatives -/
def nt (x : α) : Nat → α
  | 0 => 0
  | n + 1 => nt x n + x
end
section
variable {α : Type} [Cr α] [Fd α]
theorem Fd.nzd {x y : α} (h : x * y = 0) : x = 0 ∨ y = 0 := by
  by_cases h0 : x = 0
  · exact .inl h0
  · obtain ⟨z, hz⟩ := Fd.inv x h0
    refine .inr ?_
    rw [← Cr.one_mul y, ← hz, Cr.mul_comm x, Cr.mul_assoc, h, Cr.mul_zero]
theorem Dg.mul {f g : Pl α} {a b : Nat} (hf : Dg f a) (hg : Dg g b) : Dg (f * g) (a + b) :=
  ⟨fun h => by rw [top_mul hf.2 hg.2] at h; rcases Fd.nzd h with h | h; exact hf.1 h; exact hg.1 h, (hf.2.mul hg.2).mono (by omega)⟩
theorem Pl.nzd {f g : Pl α} (hf : Fs f) (hg : Fs g) (h : f * g = 0) : f = 0 ∨ g = 0 := by
  obtain ⟨n, hn⟩ := hf; obtain ⟨m, hm⟩ := hg
  rcases dg_ex hn with h1 | ⟨a, _, h1⟩
  · exact .inl h1
  · rcases dg_ex hm with h2 | ⟨b, _, h2⟩
    · exact .inr h2
    · exact absurd h (h1.mul h2).ne
theorem Dv.dg {f g : Pl α} {a b : Nat} (h : Dv f g) (hf : Dg f a) (hg : Dg g b) : a ≤ b := by
  obtain ⟨k, ⟨n, hn⟩, rfl⟩ := h
  rcases dg_ex hn with h1 | ⟨c, _, h1⟩
  · rw [h1, Cr.mul_zero] at hg; exact absurd rfl hg.ne
  · have := (hf.mul h1).uniq hg; omega
theorem Mn.uniq {f g : Pl α} (hf : Mn f) (hg : Mn g) (h1 : Dv f g) (h2 : Dv g f) : f = g := by
  obtain ⟨a, ha, ea⟩ := hf; obtain ⟨b, hb, eb⟩ := hg
  have e1 := h1.dg ha hb; have e2 := h2.dg hb ha
  obtain rfl : a = b := by omega
  obtain ⟨k, ⟨n, hn⟩, rfl⟩ := h1
  rcases dg_ex hn with h | ⟨c, _, h⟩
  · rw [h, Cr.mul_zero] at hb; exact absurd rfl hb.ne
  · have hc := (ha.mul h).uniq hb
    have hc0 : c = 0 := by omega
    subst hc0
    have hk : k = ct (k 0) := Pl.ext fun i => by
      show _ = if i = 0 then k 0 else 0
      split
      · rename_i hi; rw [hi]
      · rename_i hi; exact h.2 i (by omega)
    have := top_mul ha.2 h.2
    rw [Nat.add_zero, eb, ea, Cr.one_mul] at this
    rw [hk, ← this]
    exact (Cr.mul_one f).symm
theorem Gd.uniq {p q d e : Pl α} (h1 : Gd p q d) (h2 : Gd p q e) (hd : Mn d) (he : Mn e) : d = e :=
  hd.uniq he (h2.2.2 d h1.1 h1.2.1) (h1.2.2 e h2.1 h2.2.1)
open Classical in
/-- the monic greatest common divisor -/
noncomputable def gc (f g : Pl α) : Pl α := if h : ∃ d, Gd f g d ∧ Fs d ∧ (Mn d ∨ d = 0) then Classical.choose h else 0
open Classical in
noncomputable def qt (f g : Pl α) : Pl α := if h : ∃ a r d, Dg g d ∧ Fs a ∧ f = a * g + r ∧ Su r d then Classical.choose h else 0
open Classical in
noncomputable def inv_ (x : α) : α := if h : ∃ y, x * y = 1 then Classical.choose h else 0
theorem mul_inv {x : α} (h : x ≠ 0) : x * inv_ x = 1 := by
  have h := Fd.inv x h
  unfold inv_; rw [dif_pos h]; exact Classical.choose_spec h
theorem Dg.ct {f : Pl α} {d : Nat} {a : α} (h : Dg f d) (ha : a ≠ 0) : Dg (Go.Proofs.Ytaipfkmlgdmjbaa.ct a * f) d :=
  ⟨fun e => by rw [ct_mul] at e; rcases Fd.nzd e with e | e; exact ha e; exact h.1 e, h.2.ct a⟩
theorem ct_inv {f : Pl α} {d : Nat} (h : Dg f d) : ct (f d) * (ct (inv_ (f d)) * f) = f := Pl.ext fun i => by rw [ct_mul, ct_mul, ← Cr.mul_assoc, mul_inv h.1, Cr.one_mul]
theorem Gd.monic {p q f : Pl α} {d : Nat} (hg : Gd p q f) (h : Dg f d) : Gd p q (ct (inv_ (f d)) * f) :=
  hg.assoc ⟨ct (f d), Fs.ct _, by rw [Cr.mul_comm, ct_inv h]⟩ ⟨ct (inv_ (f d)), Fs.ct _, Cr.mul_comm _ _⟩
end
end Go.Proofs.Ytaipfkmlgdmjbaa
set_option linter.unusedVariables false
set_option linter.unusedSimpArgs false
namespace Go.Proofs.Ytaipfkmlgdmjbaa
/-! ### the elements of a field, and lists of them as polynomials -/
structure Ks where
  p : Nat
  m : Nat
  v : Nat
  g : Nat
  p2 : 2 ≤ p
  m0 : 0 < m
  q256 : p ^ m ≤ 256
  R : CR (p ^ m) (fadd p m) (fmul p m (dv p v))
  G : Gn (p ^ m) (fmul p m (dv p v)) g
def Ks.E (k : Ks) : Type := {x : Nat // x < k.p ^ k.m}
instance (k : Ks) : Cr k.E where
  add x y := ⟨fadd k.p k.m x.1 y.1, k.R.Al _ _⟩
  mul x y := ⟨fmul k.p k.m (dv k.p k.v) x.1 y.1, k.R.Ml _ _⟩
  neg x := ⟨fneg k.p k.m x.1, fneg_lt (by have := k.p2; omega) _⟩
  zero := ⟨0, k.R.pos⟩
  one := ⟨1, k.R.one_lt⟩
  ac x y := Subtype.ext (k.R.Ac _ _)
  aa x y z := Subtype.ext (k.R.Aa x.2 y.2 z.2)
  az x := Subtype.ext (k.R.Az x.2)
  an x := Subtype.ext (fadd_neg (by have := k.p2; omega) x.2)
  mc x y := Subtype.ext (k.R.Mc x.2 y.2)
  ma x y z := Subtype.ext (k.R.Ma x.2 y.2 z.2)
  m1 x := Subtype.ext (k.R.M1 x.2)
  md x y z := Subtype.ext (k.R.Md x.2 y.2 z.2)
theorem Ks.inv (k : Ks) (x : k.E) (h : x ≠ 0) : ∃ y : k.E, x * y = 1 := by
  have h0 : 0 < x.1 := Nat.pos_of_ne_zero fun e => h (Subtype.ext e)
  obtain ⟨a, ha, e⟩ := k.G.surj k.R h0 x.2
  refine ⟨⟨pw (fmul k.p k.m (dv k.p k.v)) k.g (k.p ^ k.m - 1 - a), k.R.pw_lt _ _⟩, Subtype.ext ?_⟩
  show fmul k.p k.m (dv k.p k.v) x.1 _ = 1
  rw [← e, ← k.R.pw_add k.G.lt, show a + (k.p ^ k.m - 1 - a) = k.p ^ k.m - 1 by omega, k.G.one]
instance (k : Ks) : Fd k.E where
  ne := fun h => absurd (congrArg Subtype.val h) (by show ¬ (1 : Nat) = 0; omega)
  inv := k.inv
namespace Ks
variable (k : Ks)
def el (x : Int) : k.E := ⟨inE (k.p ^ k.m) x, inE_lt k.R.pos x⟩
def co (e : k.E) : Int := ((e.1 : Nat) : Int)
variable {k}
theorem co_lt (e : k.E) : 0 ≤ k.co e ∧ k.co e < ((k.p ^ k.m : Nat) : Int) := ⟨Int.natCast_nonneg _, Int.ofNat_lt.2 e.2⟩
theorem el_co (e : k.E) : k.el (k.co e) = e := Subtype.ext (inE_nat e.2)
theorem co_el {x : Int} (h : 0 ≤ x ∧ x < ((k.p ^ k.m : Nat) : Int)) : k.co (k.el x) = x := by
  show ((inE _ x : Nat) : Int) = x
  unfold inE; rw [if_pos h]; omega
theorem co_inj {a b : k.E} (h : k.co a = k.co b) : a = b := Subtype.ext (Int.ofNat.inj h)
theorem co_zero : k.co 0 = 0 := rfl
theorem co_one : k.co 1 = 1 := rfl
theorem co_eq0 {a : k.E} : k.co a = 0 ↔ a = 0 := ⟨fun h => co_inj h, fun h => by rw [h]; rfl⟩
theorem el_zero : k.el 0 = 0 := Subtype.ext (inE_nat (x := 0) k.R.pos)
theorem el_one : k.el 1 = 1 := Subtype.ext (inE_nat (x := 1) k.R.one_lt)
variable (k)
def pol (l : List Int) : Pl k.E := fun i => k.el (vo l i)
def Ell (l : List Int) : Prop := ∀ i, i < l.length → 0 ≤ vo l i ∧ vo l i < ((k.p ^ k.m : Nat) : Int)
/-- l is the canonical list of f -/
def Rp (l : List Int) (f : Pl k.E) : Prop := k.Ell l ∧ (0 < l.length → vo l (l.length - 1) ≠ 0) ∧ k.pol l = f
variable {k}
theorem pol_su (l : List Int) : Su (k.pol l) l.length := fun i hi => by
  show k.el (vo l i) = 0
  rw [vo_hi hi, el_zero]
theorem Rp.su {l : List Int} {f : Pl k.E} (h : k.Rp l f) : Su f l.length := by rw [← h.2.2]; exact pol_su l
theorem Rp.dg {l : List Int} {f : Pl k.E} (h : k.Rp l f) (h0 : 0 < l.length) : Dg f (l.length - 1) := by
  refine ⟨fun e => h.2.1 h0 ?_, by rw [show l.length - 1 + 1 = l.length by omega]; exact h.su⟩
  rw [← h.2.2] at e
  have h1 := h.1 (l.length - 1) (by omega)
  have : k.co (k.el (vo l (l.length - 1))) = 0 := by
    show k.co (k.pol l (l.length - 1)) = 0
    rw [e]; rfl
  rwa [co_el h1] at this
theorem Rp.at_ {l : List Int} {f : Pl k.E} (h : k.Rp l f) {i : Nat} (hi : i < l.length) : vo l i = k.co (f i) := by
  rw [← h.2.2]; exact (co_el (h.1 i hi)).symm
theorem Rp.len {l : List Int} {f : Pl k.E} (h : k.Rp l f) {d : Nat} (hd : Dg f d) : l.length = d + 1 := by
  rcases Nat.eq_zero_or_pos l.length with h0 | h0
  · have := h.su; rw [h0] at this; exact absurd (this.eq0) hd.ne
  · have := (h.dg h0).uniq hd; omega
theorem Rp.uniq {l l' : List Int} {f : Pl k.E} (h : k.Rp l f) (h' : k.Rp l' f) : l = l' := by
  have hl : l.length = l'.length := by
    rcases Nat.eq_zero_or_pos l'.length with h0 | h0
    · rcases Nat.eq_zero_or_pos l.length with h1 | h1
      · omega
      · have := h'.len (h.dg h1); omega
    · have := h.len (h'.dg h0); omega
  exact vo_ext hl fun i hi => by rw [h.at_ hi, h'.at_ (by omega)]
theorem vo_map (f : Nat → Int) (n i : Nat) : vo ((List.range n).map f) i = if i < n then f i else 0 := by
  unfold vo
  rw [List.getD_eq_getElem?_getD, List.getElem?_map]
  split
  · rename_i h; rw [List.getElem?_range h]; rfl
  · rename_i h; rw [List.getElem?_eq_none (by simp; omega)]; rfl
theorem rp_ex {f : Pl k.E} (hf : Fs f) : ∃ l, k.Rp l f := by
  obtain ⟨n, hn⟩ := hf
  have key : ∀ d, (∀ h : 0 < d, f (d - 1) ≠ 0) → Su f d → k.Rp ((List.range d).map fun i => k.co (f i)) f := fun d h1 h2 => by
    have hl : ((List.range d).map fun i => k.co (f i)).length = d := by simp
    refine ⟨fun i hi => ?_, fun h0 => ?_, Pl.ext fun i => ?_⟩
    · rw [vo_map]; split
      · exact co_lt _
      · exact ⟨Int.le_refl 0, by have := k.R.pos; omega⟩
    · rw [hl] at h0 ⊢
      rw [vo_map, if_pos (by omega)]
      exact fun e => h1 h0 (co_eq0.1 e)
    · show k.el (vo _ i) = f i
      rw [vo_map]; split
      · exact el_co _
      · rw [h2 i (by omega), el_zero]
  rcases dg_ex hn with h | ⟨d, _, h⟩
  · exact ⟨_, key 0 (fun h => absurd h (Nat.lt_irrefl 0)) (by rw [h]; exact Su.zero 0)⟩
  · exact ⟨_, key (d + 1) (fun _ => h.1) h.2⟩
variable (k)
open Classical in
/-- the canonical list -/
noncomputable def L (f : Pl k.E) : List Int := if h : ∃ l, k.Rp l f then Classical.choose h else []
variable {k}
theorem L_rp {f : Pl k.E} (hf : Fs f) : k.Rp (k.L f) f := by
  have h := rp_ex hf
  unfold L; rw [dif_pos h]; exact Classical.choose_spec h
theorem L_eq {l : List Int} {f : Pl k.E} (h : k.Rp l f) : l = k.L f := h.uniq (L_rp ⟨_, h.su⟩)
theorem L_len {f : Pl k.E} {n : Nat} (hf : Su f n) : (k.L f).length ≤ n := by
  rcases Nat.eq_zero_or_pos (k.L f).length with h | h
  · omega
  · have := ((L_rp ⟨n, hf⟩).dg h).lt hf; omega
theorem L_dg {f : Pl k.E} {d : Nat} (h : Dg f d) : (k.L f).length = d + 1 := (L_rp h.fs).len h
/-- what Degree answers -/
def DegI (f : Pl k.E) (r : Int) : Prop := (r = -1 ∧ f = 0) ∨ ∃ d : Nat, r = d ∧ Dg f d
theorem DegI.uniq {f : Pl k.E} {r r' : Int} (h : DegI f r) (h' : DegI f r') : r = r' := by
  rcases h with ⟨h1, h2⟩ | ⟨d, h1, h2⟩ <;> rcases h' with ⟨h3, h4⟩ | ⟨e, h3, h4⟩
  · omega
  · exact absurd h2 h4.ne
  · exact absurd h4 h2.ne
  · have := h2.uniq h4; omega
end Ks
end Go.Proofs.Ytaipfkmlgdmjbaa
set_option linter.unusedSimpArgs false
set_option linter.unusedVariables false
namespace Go.Proofs.Ytaipfkmlgdmjbaa
open Go.RowKit
def V_coef (Fg : GFv) (p : List Int) (i : Int) (Q : Int → Prop) : Prop :=
  ((i < ((p.length : Nat) : Int)) → ((0 ≤ i ∧ i < (p.length : Nat)) ∧ (V_Is Fg (gi p i) (fun r14 => ((r14 = true) → ((0 ≤ i ∧ i < (p.length : Nat)) ∧ (Q (gi p i)))) ∧ (r14 = false → (Q (0 : Int))))))) ∧ (¬ (i < ((p.length : Nat) : Int)) → (Q (0 : Int)))
theorem ok_coef {w : World} {Q : Int → Prop} {Fg : GFv} {p : List Int} {i : Int} {ag : Addr} {Bg : Nat} (hgg : GFR Bg w ag Fg) {Bp : Nat} {Ap : Option Addr} {np kp : Nat} (hp : Rd Bp w 1 Ap np kp (is p)) (hv : V_coef Fg p i Q) :
    Calls Try.prog 72 #[.pointer (some ag), .slice Ap np kp, .int .i64 i] w fun e w' => ∃ v Qr, e = .returned v ∧ w.grownBy w' none ∧ Rows w.heap.size none w' Qr ∧ News w.heap.size Qr ∧ ∃ (r0 : Int), v = .int .i64 r0 ∧ Qr = [] ∧ Q r0 := by
  have hgg_ := hgg
  obtain ⟨Ag_mod, kg_mod, Ag_exp, kg_exp, Ag_log, kg_log, Ag_above, kg_above, hg_c, hg_mod, hg_exp, hg_log, hg_above⟩ := hgg_
  have hnp := hp.ilen
  subst hnp
  refine calls_swap ?_
  refine calls_of_W (vs := [.pointer (some ag), .slice Ap p.length kp, .int .i64 i]) [6] Try.func72 rfl rfl rfl rfl ?_
  have hS := St.start w
  unfold V_coef at hv
  refine W.seq ?_
  refine W.region ?_
  refine WL.assign rfl rfl ?_
  refine WL.done ?_
  refine W.seq ?_
  refine W.seq ?_
  refine W.region ?_
  refine WL.move rfl rfl ?_
  refine WL.move rfl rfl ?_
  refine WL.len Try.underlying22 rfl rfl ?_
  refine WL.lssD rfl rfl rfl ?_
  refine WL.move rfl rfl ?_
  by_cases g11 : i < ((p.length : Nat) : Int)
  · have hv := hv.1 g11
    rw [decide_eq_true g11]
    refine WL.take rfl ?_
    refine WL.move rfl rfl ?_
    refine WL.take rfl ?_
    refine WL.move rfl rfl ?_
    refine WL.take rfl ?_
    refine WL.move rfl rfl ?_
    refine WL.take rfl ?_
    obtain ⟨o12, hv⟩ := hv
    refine SL.index Try.underlying22 Try.el3 (hS.ro hp) rfl rfl o12 rfl ?_
    refine WL.take rfl ?_
    refine WL.load Try.underlying3 rfl rfl (Rd.gi (hS.ro hp) o12) rfl ?_
    refine WL.take rfl ?_
    refine SL.call hS (ok_Is (GFR.ext (GFR.norm hgg) hS.ext) hv) Try.func119 rfl Try.nm119 rfl rfl ?_
    rintro _ _ w13 ⟨r14, rfl, rfl, hv⟩ hGw13 hS
    change St _ _ _ _ [] at hS
    refine WL.pick rfl rfl rfl ?_
    refine WL.done ?_
    refine W.cond2 rfl (fun c15 => ?_) (fun c15 => ?_)
    · have hv := hv.1 (c15)
      refine W.seq ?_
      refine W.region ?_
      refine WL.move rfl rfl ?_
      refine WL.move rfl rfl ?_
      obtain ⟨o16, hv⟩ := hv
      refine SL.index Try.underlying22 Try.el3 (hS.ro hp) rfl rfl o16 rfl ?_
      refine WL.load Try.underlying3 rfl rfl (Rd.gi (hS.ro hp) o16) rfl ?_
      refine WL.assign rfl rfl ?_
      refine WL.done ?_
      refine W.ret ?_
      refine ⟨_, rfl, Fin.nil ?_⟩
      exact ⟨_, hS.ext, (hS.pick [] rfl).rows, News.of (hS.pick [] rfl).rows rfl, ⟨(gi p i), rfl, rfl, hv⟩⟩
    · have hv := hv.2 (c15)
      refine W.skip ?_
      refine W.seq ?_
      refine W.region ?_
      refine WL.assign rfl rfl ?_
      refine WL.done ?_
      refine W.ret ?_
      refine ⟨_, rfl, Fin.nil ?_⟩
      exact ⟨_, hS.ext, (hS.pick [] rfl).rows, News.of (hS.pick [] rfl).rows rfl, ⟨(0 : Int), rfl, rfl, hv⟩⟩
  · have hv := hv.2 g11
    rw [decide_eq_false g11]
    refine WL.pass rfl rfl rfl ?_
    refine WL.pass rfl rfl rfl ?_
    refine WL.pass rfl rfl rfl ?_
    refine WL.pass rfl rfl rfl ?_
    refine WL.pass rfl rfl rfl ?_
    refine WL.pass rfl rfl rfl ?_
    refine WL.pick rfl rfl rfl ?_
    refine WL.done ?_
    refine W.condF rfl ?_
    refine W.skip ?_
    refine W.seq ?_
    refine W.region ?_
    refine WL.assign rfl rfl ?_
    refine WL.done ?_
    refine W.ret ?_
    refine ⟨_, rfl, Fin.nil ?_⟩
    exact ⟨_, hS.ext, (hS.pick [] rfl).rows, News.of (hS.pick [] rfl).rows rfl, ⟨(0 : Int), rfl, rfl, hv⟩⟩

def V_deg (Fg : GFv) (p : List Int) (Q : Int → Prop) : Prop :=
  V_backward p (fun _ => ∃ (I23 : Nat → Int → Prop) (J24 : Int → Prop), I23 0 (0 : Int) ∧ (∀ i19 : Nat, i19 < p.length → ∀ (z22 : Int), I23 i19 z22 → (V_coef Fg p ((p.length - 1 - i19 : Nat) : Int) (fun r27 => ((r27 ≠ (0 : Int)) → (J24 ((p.length - 1 - i19 : Nat) : Int))) ∧ (¬ (r27 ≠ (0 : Int)) → (I23 (i19 + 1) z22))))) ∧ (∀ (z22 : Int), I23 p.length z22 → (Q (-1 : Int))) ∧ (∀ (z22 : Int), J24 z22 → Q z22))
theorem ok_deg {w : World} {Q : Int → Prop} {Fg : GFv} {p : List Int} {ag : Addr} {Bg : Nat} (hgg : GFR Bg w ag Fg) {Bp : Nat} {Ap : Option Addr} {np kp : Nat} (hp : Rd Bp w 1 Ap np kp (is p)) (hv : V_deg Fg p Q) :
    Calls Try.prog 29 #[.pointer (some ag), .slice Ap np kp] w fun e w' => ∃ v Qr, e = .returned v ∧ w.grownBy w' none ∧ Rows w.heap.size none w' Qr ∧ News w.heap.size Qr ∧ ∃ (r0 : Int), v = .int .i64 r0 ∧ Qr = [] ∧ Q r0 := by
  have hgg_ := hgg
  obtain ⟨Ag_mod, kg_mod, Ag_exp, kg_exp, Ag_log, kg_log, Ag_above, kg_above, hg_c, hg_mod, hg_exp, hg_log, hg_above⟩ := hgg_
  have hnp := hp.ilen
  subst hnp
  refine calls_swap ?_
  refine calls_of_Wc (vs := [.pointer (some ag), .slice Ap p.length kp]) [.cell 4 3] Try.func29 rfl rfl rfl rfl ?_
  have hS := St.start w
  unfold V_deg at hv
  refine W.seq ?_
  refine W.region ?_
  refine SL.box (z := 1) (cs := [.pointer (some ag)]) hS rfl rfl rfl rfl ?_
  intro g11 w12 hS
  refine SL.box (z := 1) (cs := [.slice Ap p.length kp]) hS rfl rfl rfl rfl ?_
  intro g13 w14 hS
  refine SL.alloc (cs := [.int .i64 (0 : Int)]) hS Try.el3 rfl rfl ?_
  intro g15 w16 hS
  refine WL.done ?_
  refine W.seq ?_
  refine W.seq ?_
  refine W.region ?_
  refine WL.load Try.underlying22 rfl rfl (Own.vcells (hS.own (i := 1) rfl) 0 _ rfl) rfl ?_
  refine SL.call hS (ok_backward (hS.ro hp) hv) Try.func71 rfl Try.nm71 rfl rfl ?_
  rintro _ _ w17 ⟨g18, rfl, rfl, hv⟩ hGw17 hS
  change St _ _ _ _ [.row 22 1 (some ⟨g18, 0, none⟩) 1 1 [.slice Ap p.length kp], .row 3 1 (some ⟨g15, 0, none⟩) 1 1 [.int .i64 (0 : Int)], .row 22 1 (some ⟨g13, 0, none⟩) 1 1 [.slice Ap p.length kp], .row 28 1 (some ⟨g11, 0, none⟩) 1 1 [.pointer (some ag)]] at hS
  refine WL.done ?_
  refine W.block ?_
  obtain ⟨I23, J24, hv, hk34, hd35, hx36⟩ := hv
  change St _ _ _ _ [.row 22 1 (some ⟨g18, 0, none⟩) 1 1 [.slice Ap p.length kp], .row 3 1 (some ⟨g15, 0, none⟩) 1 1 [.int .i64 (0 : Int)], .row 22 1 (some ⟨g13, 0, none⟩) 1 1 [.slice Ap p.length kp], .row 28 1 (some ⟨g11, 0, none⟩) 1 1 [.pointer (some ag)]] at hS
  refine SR.range (σ := Int) (fun i q => match q with | z22 => I23 i z22) (fun z22 => [.row 22 1 (some ⟨g18, 0, none⟩) 1 1 [.slice Ap p.length kp], .row 3 1 (some ⟨g15, 0, none⟩) 1 1 [.int .i64 z22], .row 22 1 (some ⟨g13, 0, none⟩) 1 1 [.slice Ap p.length kp], .row 28 1 (some ⟨g11, 0, none⟩) 1 1 [.pointer (some ag)]]) (fun e q => match e, q with | .ret, z22 => J24 z22 | _, _ => False) (fun vs => [(2, .pointer (some ⟨g11, 0, none⟩)), (3, .pointer (some ⟨g13, 0, none⟩)), (4, .pointer (some ⟨g15, 0, none⟩)), (5, vs.getD 0 undef)]) (0 : Int) hS hv (fun q => by obtain z22 := q; exact trivial) rfl Try.func118 rfl Try.nm118 (backward_seq (A := Ap) (m := p.length) (c := kp) (Rd.m64 (hS.ro hp))) (Below.refl _ _) (fun _ _ _ h => by obtain ⟨_, h, _⟩ := h; rw [h]; rfl) (fun i x => bw_stay) (by decide) (fun _ q _ _ hS => by obtain z22 := q; exact ⟨Own.vcells (hS.own (i := 0) rfl) 0 _ rfl, _, _, (hS.ro hp)⟩) ?_ ?_ ?_ ?_
  · intro lq vsq W1q hlq
    match vsq, hlq with
    | [a0, a1], _ =>
      refine W.region ?_
      refine WL.assign rfl rfl ?_
      refine WL.done ?_
      exact ⟨rfl, rfl, ⟨rfl, rfl, rfl, rfl, trivial⟩⟩
  · rintro lq i19 _ z22 w25 hi ⟨vb, rfl, hcell⟩ hI hS
    have hvb : vb = (gi p ((p.length - 1 - i19 : Nat) : Int)) := bw_val (hS.ro hp) (by omega) hcell
    subst hvb
    have hv := hk34 i19 hi z22 hI
    refine W.block ?_
    refine W.seq ?_
    refine W.region ?_
    refine WL.load Try.underlying28 rfl rfl (Own.vcells (hS.own (i := 3) rfl) 0 _ rfl) rfl ?_
    refine WL.load Try.underlying22 rfl rfl (Own.vcells (hS.own (i := 2) rfl) 0 _ rfl) rfl ?_
    refine WL.move rfl rfl ?_
    refine SL.call hS (ok_coef (GFR.ext (GFR.norm hgg) hS.ext) (hS.ro hp) hv) Try.func72 rfl Try.nm72 rfl rfl ?_
    rintro _ _ w26 ⟨r27, rfl, rfl, hv⟩ hGw26 hS
    change St _ _ _ _ [.row 22 1 (some ⟨g18, 0, none⟩) 1 1 [.slice Ap p.length kp], .row 3 1 (some ⟨g15, 0, none⟩) 1 1 [.int .i64 z22], .row 22 1 (some ⟨g13, 0, none⟩) 1 1 [.slice Ap p.length kp], .row 28 1 (some ⟨g11, 0, none⟩) 1 1 [.pointer (some ag)]] at hS
    refine WL.neqD rfl rfl rfl ?_
    refine WL.done ?_
    refine W.cond2 rfl (fun c28 => ?_) (fun c28 => ?_)
    · have hv := hv.1 (of_decide_eq_true c28)
      refine W.seq ?_
      refine W.region ?_
      refine WL.move rfl rfl ?_
      refine SL.store (cs' := [.int .i64 ((p.length - 1 - i19 : Nat) : Int)]) 1 0 hS rfl Try.el3 rfl rfl rfl (of_ble rfl) rfl ?_
      intro w29 hS
      refine WL.done ?_
      refine W.ret ?_
      change St _ _ _ _ [.row 22 1 (some ⟨g18, 0, none⟩) 1 1 [.slice Ap p.length kp], .row 3 1 (some ⟨g15, 0, none⟩) 1 1 [.int .i64 ((p.length - 1 - i19 : Nat) : Int)], .row 22 1 (some ⟨g13, 0, none⟩) 1 1 [.slice Ap p.length kp], .row 28 1 (some ⟨g11, 0, none⟩) 1 1 [.pointer (some ag)]] at hS
      exact ⟨((p.length - 1 - i19 : Nat) : Int), rfl, hv, hS⟩
    · have hv := hv.2 (of_decide_eq_false c28)
      refine W.skip ?_
      change St _ _ _ _ [.row 22 1 (some ⟨g18, 0, none⟩) 1 1 [.slice Ap p.length kp], .row 3 1 (some ⟨g15, 0, none⟩) 1 1 [.int .i64 z22], .row 22 1 (some ⟨g13, 0, none⟩) 1 1 [.slice Ap p.length kp], .row 28 1 (some ⟨g11, 0, none⟩) 1 1 [.pointer (some ag)]] at hS
      exact ⟨z22, hv, hS⟩
  · rintro D30 z22 w31 hv hD hS
    have hv := hd35 z22 hv
    refine W.seq ?_
    refine W.region ?_
    refine SL.store (cs' := [.int .i64 (-1 : Int)]) 2 0 hS rfl Try.el3 rfl rfl rfl (of_ble rfl) rfl ?_
    intro w32 hS
    refine WL.done ?_
    refine W.ret ?_
    have hS := hS.pick [0, 2] rfl
    obtain ⟨hDD30, hS⟩ := hS.taken trivial
    repeat with_reducible first | refine blk.ret ?_ | refine exits.retI ?_
    refine endC.mk1 hDD30 ⟨[.int .i64 (-1 : Int)], ⟨_, _, _, rfl, rfl, run_load1 Try.underlying3 rfl (Own.vcells (hS.own (i := 0) rfl) 0 _ rfl), rfl⟩, ?_⟩
    exact ⟨_, hS.ext, (hS.pick [] rfl).rows, News.of (hS.pick [] rfl).rows rfl, ⟨(-1 : Int), rfl, rfl, hv⟩⟩
  · rintro D30 e z22 w31 he hv hD hS
    cases e with
    | ret =>
      have hv := hx36 z22 hv
      have hS := hS.pick [0, 2] rfl
      obtain ⟨hDD30, hS⟩ := hS.taken trivial
      repeat with_reducible first | refine blk.ret ?_ | refine exits.retI ?_
      refine endC.mk1 hDD30 ⟨[.int .i64 z22], ⟨_, _, _, rfl, rfl, run_load1 Try.underlying3 rfl (Own.vcells (hS.own (i := 0) rfl) 0 _ rfl), rfl⟩, ?_⟩
      exact ⟨_, hS.ext, (hS.pick [] rfl).rows, News.of (hS.pick [] rfl).rows rfl, ⟨z22, rfl, rfl, hv⟩⟩
    | exit id => exact hv.elim
    | _ => simp [plainExit] at he

def V_canon (Fg : GFv) (p : List Int) (Q : List Int → Prop) : Prop :=
  V_deg Fg p (fun r12 => (I64 (r12 + (1 : Int))) ∧ ((0 ≤ (r12 + (1 : Int)) ∧ (r12 + (1 : Int)) * 8 ≤ 281474976710656 ∧ (r12 + (1 : Int)) ≤ 281474976710656) ∧ (∃ (I24 : List Int → Int → Prop) (μ25 : List Int → Int → Nat), I24 (List.replicate (r12 + (1 : Int)).toNat (0 : Int)) (0 : Int) ∧ ∀ (x22 : List Int) (z23 : Int), (I24 x22 z23 → (((z23 < (((r12 + (1 : Int)).toNat : Nat) : Int)) → (V_coef Fg p z23 (fun r29 => (0 ≤ z23 ∧ z23 < ((r12 + (1 : Int)).toNat : Nat)) ∧ ((I64 (z23 + (1 : Int))) ∧ (I24 (si x22 z23 r29) (z23 + (1 : Int)) ∧ μ25 (si x22 z23 r29) (z23 + (1 : Int)) < μ25 x22 z23))))) ∧ (¬ (z23 < (((r12 + (1 : Int)).toNat : Nat) : Int)) → Q x22))))))
theorem ok_canon {w : World} {Q : List Int → Prop} {Fg : GFv} {p : List Int} {ag : Addr} {Bg : Nat} (hgg : GFR Bg w ag Fg) {Bp : Nat} {Ap : Option Addr} {np kp : Nat} (hp : Rd Bp w 1 Ap np kp (is p)) (hv : V_canon Fg p Q) :
    Calls Try.prog 30 #[.pointer (some ag), .slice Ap np kp] w fun e w' => ∃ v Qr, e = .returned v ∧ w.grownBy w' none ∧ Rows w.heap.size none w' Qr ∧ News w.heap.size Qr ∧ ∃ (r0 : List Int) (Ar0 : Option Addr) (cr0 : Nat), v = .slice Ar0 r0.length cr0 ∧ Qr = [.row 3 1 Ar0 r0.length cr0 (is r0)] ∧ Q r0 := by
  have hgg_ := hgg
  obtain ⟨Ag_mod, kg_mod, Ag_exp, kg_exp, Ag_log, kg_log, Ag_above, kg_above, hg_c, hg_mod, hg_exp, hg_log, hg_above⟩ := hgg_
  have hnp := hp.ilen
  subst hnp
  refine calls_swap ?_
  refine calls_of_W (vs := [.pointer (some ag), .slice Ap p.length kp]) [4] Try.func30 rfl rfl rfl rfl ?_
  have hS := St.start w
  unfold V_canon at hv
  refine W.seq ?_
  refine W.region ?_
  refine WL.assign rfl rfl ?_
  refine WL.done ?_
  refine W.seq ?_
  refine W.region ?_
  refine WL.move rfl rfl ?_
  refine WL.move rfl rfl ?_
  refine SL.call hS (ok_deg (GFR.ext (GFR.norm hgg) hS.ext) (hS.ro hp) hv) Try.func29 rfl Try.nm29 rfl rfl ?_
  rintro _ _ w11 ⟨r12, rfl, rfl, hv⟩ hGw11 hS
  change St _ _ _ _ [] at hS
  obtain ⟨o13, hv⟩ := hv
  refine WL.add (r := (r12 + (1 : Int))) rfl rfl (wr o13) rfl ?_
  obtain ⟨o14, hv⟩ := hv
  refine SL.make (J := (r12 + (1 : Int))) hS Try.underlying22 Try.el3 rfl rfl o14 (made_is _) rfl ?_
  intro A15 w16 hS
  refine WL.assign rfl rfl ?_
  refine WL.done ?_
  refine W.seq ?_
  refine W.seq ?_
  refine W.region ?_
  refine WL.move rfl rfl ?_
  refine WL.len Try.underlying22 rfl rfl ?_
  refine WL.move rfl rfl ?_
  refine WL.done ?_
  refine W.block ?_
  obtain ⟨I24, μ25, hv, hk33⟩ := hv
  change St _ _ _ _ [.row 3 1 A15 ((r12 + (1 : Int)).toNat) ((r12 + (1 : Int)).toNat) (is (List.replicate (r12 + (1 : Int)).toNat (0 : Int)))] at hS
  refine W.loop (σ := List Int × Int) (fun q w1 => match q with | (x22, z23) => I24 x22 z23 ∧ St TT w none w1 [.row 3 1 A15 ((r12 + (1 : Int)).toNat) ((r12 + (1 : Int)).toNat) (is x22)]) (fun q => match q with | (x22, z23) => [(0, .pointer (some ag)), (1, .slice Ap p.length kp), (4, .slice none 0 0), (5, .slice A15 ((r12 + (1 : Int)).toNat) ((r12 + (1 : Int)).toNat)), (13, .int .i64 (((r12 + (1 : Int)).toNat : Nat) : Int)), (14, .int .i64 z23)]) (fun q => match q with | (x22, z23) => μ25 x22 z23) (List.replicate (r12 + (1 : Int)).toNat (0 : Int), (0 : Int)) ⟨hv, hS⟩ ⟨rfl, rfl, rfl, rfl, rfl, rfl, trivial⟩ ?_
  rintro ⟨x22, z23⟩ w26 ⟨hv, hS⟩
  have hv := hk33 x22 z23 hv
  refine W.seq ?_
  refine W.region ?_
  refine WL.lssD rfl rfl rfl ?_
  refine WL.done ?_
  refine W.seq ?_
  refine W.cond2 rfl (fun c27 => ?_) (fun c27 => ?_)
  · have hv := hv.1 (of_decide_eq_true c27)
    refine W.skip ?_
    refine W.seq ?_
    refine W.block ?_
    refine W.seq ?_
    refine W.region ?_
    refine WL.move rfl rfl ?_
    refine WL.assign rfl rfl ?_
    refine WL.done ?_
    refine W.region ?_
    refine WL.move rfl rfl ?_
    refine WL.move rfl rfl ?_
    refine WL.move rfl rfl ?_
    refine WL.move rfl rfl ?_
    refine WL.move rfl rfl ?_
    refine SL.call hS (ok_coef (GFR.ext (GFR.norm hgg) hS.ext) (hS.ro hp) hv) Try.func72 rfl Try.nm72 rfl rfl ?_
    rintro _ _ w28 ⟨r29, rfl, rfl, hv⟩ hGw28 hS
    change St _ _ _ _ [.row 3 1 A15 ((r12 + (1 : Int)).toNat) ((r12 + (1 : Int)).toNat) (is x22)] at hS
    obtain ⟨o30, hv⟩ := hv
    refine SL.index Try.underlying22 Try.el3 (hS.rd (i := 0) rfl) rfl rfl o30 rfl ?_
    refine SL.store (cs' := is (si x22 z23 r29)) 0 z23.toNat hS rfl Try.el3 rfl rfl rfl (is_lt (hS.rd (i := 0) rfl) o30) (is_set _ _ _) ?_
    intro w31 hS
    refine WL.done ?_
    refine W.region ?_
    obtain ⟨o32, hv⟩ := hv
    refine WL.add (r := (z23 + (1 : Int))) rfl rfl (wr o32) rfl ?_
    refine WL.move rfl rfl ?_
    refine WL.done ?_
    change St _ _ _ _ [.row 3 1 A15 ((r12 + (1 : Int)).toNat) ((r12 + (1 : Int)).toNat) (is (si x22 z23 r29))] at hS
    exact ⟨(si x22 z23 r29, (z23 + (1 : Int))), ⟨rfl, rfl, rfl, rfl, rfl, rfl, trivial⟩, hv.2, rfl, hv.1, hS⟩
  · have hv := hv.2 (of_decide_eq_false c27)
    refine W.exit ?_
    refine W.seq ?_
    refine W.region ?_
    refine WL.move rfl rfl ?_
    refine WL.assign rfl rfl ?_
    refine WL.done ?_
    refine W.ret ?_
    have hm0 := (hS.rd (i := 0) rfl).ilen
    have hS := hS.relen (i := 0) rfl hm0.symm
    refine ⟨_, rfl, Fin.nil ?_⟩
    exact ⟨_, hS.ext, (hS.pick [0] rfl).rows, News.of (hS.pick [0] rfl).rows rfl, ⟨x22, A15, (r12 + (1 : Int)).toNat, (by first | (rw [hm0]; done) | (rw [hm0]; rfl)), rfl, hv⟩⟩

end Go.Proofs.Ytaipfkmlgdmjbaa
set_option linter.unusedSimpArgs false
set_option linter.unusedVariables false
namespace Go.Proofs.Ytaipfkmlgdmjbaa
open Go.RowKit
end Go.Proofs.Ytaipfkmlgdmjbaa
set_option linter.unusedSimpArgs false
set_option linter.unusedVariables false
namespace Go.Proofs.Ytaipfkmlgdmjbaa
open Go.RowKit
def V_rcanon (Pf : Int) (Mf : Int) (mf : List Int) (p : List Int) (Q : List Int → Prop) : Prop :=
  ∃ (I19 : Int → Int → Prop) (μ20 : Int → Int → Nat), I19 (0 : Int) (0 : Int) ∧ ∀ (z17 : Int) (z18 : Int), (I19 z17 z18 → (((z18 < ((p.length : Nat) : Int)) → (∃ J25 : Int → Bool → Prop, ((0 ≤ z18 ∧ z18 < (p.length : Nat)) ∧ (∃ (r33 : Int), V_rIn Pf Mf mf (gi p z18) (fun q => q = r33) ∧ (((r33 ≠ (0 : Int)) → ((I64 (z18 + (1 : Int))) ∧ (J25 (z18 + (1 : Int)) (decide (r33 ≠ (0 : Int)))))) ∧ (¬ (r33 ≠ (0 : Int)) → (J25 z17 (decide (r33 ≠ (0 : Int)))))))) ∧ ∀ (z23 : Int) (b24 : Bool), (J25 z23 b24 → ((I64 (z18 + (1 : Int))) ∧ (I19 z23 (z18 + (1 : Int)) ∧ μ20 z23 (z18 + (1 : Int)) < μ20 z17 z18))))) ∧ (¬ (z18 < ((p.length : Nat) : Int)) → ((0 ≤ z17 ∧ z17 * 8 ≤ 281474976710656 ∧ z17 ≤ 281474976710656) ∧ (∃ (I53 : List Int → Int → Prop) (μ54 : List Int → Int → Nat), I53 (List.replicate z17.toNat (0 : Int)) (0 : Int) ∧ ∀ (x51 : List Int) (z52 : Int), (I53 x51 z52 → (((z52 < z17) → ((0 ≤ z52 ∧ z52 < (p.length : Nat)) ∧ (∃ (r66 : Int), V_rIn Pf Mf mf (gi p z52) (fun q => q = r66) ∧ ((0 ≤ z52 ∧ z52 < (z17.toNat : Nat)) ∧ ((I64 (z52 + (1 : Int))) ∧ (I53 (si x51 z52 r66) (z52 + (1 : Int)) ∧ μ54 (si x51 z52 r66) (z52 + (1 : Int)) < μ54 x51 z52)))))) ∧ (¬ (z52 < z17) → Q x51))))))))
theorem ok_rcanon {w : World} {Q : List Int → Prop} {Pf : Int} {Mf : Int} {mf : List Int} {p : List Int} {Bf : Nat} {Af : Option Addr} {nf kf : Nat} (hf : Rd Bf w 1 Af nf kf (is mf)) {Bp : Nat} {Ap : Option Addr} {np kp : Nat} (hp : Rd Bp w 1 Ap np kp (is p)) (hv : V_rcanon Pf Mf mf p Q) :
    Calls Try.prog 33 #[.agg #[.int .i64 Pf, .int .i64 Mf, .slice Af nf kf], .slice Ap np kp] w fun e w' => ∃ v Qr, e = .returned v ∧ w.grownBy w' none ∧ Rows w.heap.size none w' Qr ∧ News w.heap.size Qr ∧ ∃ (r0 : List Int) (Ar0 : Option Addr) (cr0 : Nat), v = .slice Ar0 r0.length cr0 ∧ Qr = [.row 3 1 Ar0 r0.length cr0 (is r0)] ∧ Q r0 := by
  have hnf := hf.ilen
  subst hnf
  have hnp := hp.ilen
  subst hnp
  refine calls_swap ?_
  refine calls_of_W (vs := [.agg #[.int .i64 Pf, .int .i64 Mf, .slice Af mf.length kf], .slice Ap p.length kp]) [4] Try.func33 rfl rfl rfl rfl ?_
  have hS := St.start w
  unfold V_rcanon at hv
  refine W.seq ?_
  refine W.region ?_
  refine SL.box (z := 3) (cs := [.int .i64 Pf, .int .i64 Mf, .slice Af mf.length kf]) hS rfl rfl rfl rfl ?_
  intro g11 w12 hS
  refine WL.assign rfl rfl ?_
  refine WL.done ?_
  refine W.seq ?_
  refine W.region ?_
  refine WL.assign rfl rfl ?_
  refine WL.done ?_
  refine W.seq ?_
  refine W.seq ?_
  refine W.region ?_
  refine WL.assign rfl rfl ?_
  refine WL.done ?_
  refine W.block ?_
  obtain ⟨I19, μ20, hv, hk74⟩ := hv
  change St _ _ _ _ [.row 24 3 (some ⟨g11, 0, none⟩) 1 1 [.int .i64 Pf, .int .i64 Mf, .slice Af mf.length kf]] at hS
  refine W.loop (σ := Int × Int) (fun q w1 => match q with | (z17, z18) => I19 z17 z18 ∧ St TT w none w1 [.row 24 3 (some ⟨g11, 0, none⟩) 1 1 [.int .i64 Pf, .int .i64 Mf, .slice Af mf.length kf]]) (fun q => match q with | (z17, z18) => [(1, .slice Ap p.length kp), (2, .pointer (some ⟨g11, 0, none⟩)), (4, .slice none 0 0), (5, .int .i64 z17), (6, .int .i64 z18)]) (fun q => match q with | (z17, z18) => μ20 z17 z18) ((0 : Int), (0 : Int)) ⟨hv, hS⟩ ⟨rfl, rfl, rfl, rfl, rfl, trivial⟩ ?_
  rintro ⟨z17, z18⟩ w21 ⟨hv, hS⟩
  have hv := hk74 z17 z18 hv
  refine W.seq ?_
  refine W.seq ?_
  refine W.region ?_
  refine WL.move rfl rfl ?_
  refine WL.move rfl rfl ?_
  refine WL.len Try.underlying22 rfl rfl ?_
  refine WL.lssD rfl rfl rfl ?_
  refine WL.done ?_
  refine W.cond2 rfl (fun c22 => ?_) (fun c22 => ?_)
  · have hv := hv.1 (of_decide_eq_true c22)
    refine W.skip ?_
    refine W.seq ?_
    obtain ⟨J25, hv, hk42⟩ := hv
    refine W.cutN (σ := Int × Bool) (fun q w1 => match q with | (z23, b24) => J25 z23 b24 ∧ St TT w none w1 [.row 24 3 (some ⟨g11, 0, none⟩) 1 1 [.int .i64 Pf, .int .i64 Mf, .slice Af mf.length kf]]) (fun q => match q with | (z23, b24) => [(1, .slice Ap p.length kp), (2, .pointer (some ⟨g11, 0, none⟩)), (4, .slice none 0 0), (5, .int .i64 z23), (6, .int .i64 z18), (12, .bool (decide (z18 < ((p.length : Nat) : Int)))), (21, .bool b24)]) ?_ ?_
    · refine W.block ?_
      refine W.seq ?_
      obtain ⟨o30, hv⟩ := hv
      obtain ⟨r33, o35, hv⟩ := hv
      have hS0 := hS
      refine W.drawX 7 (fun _ => false) (fun _ => none) [⟨[], [2], false⟩, ⟨[], [1], true⟩, ⟨[], [6], true⟩, ⟨[1, 2], [], true⟩, ⟨[3], [], false⟩, ⟨[0, 4], [], false⟩, ⟨[5], [], true⟩] [[(2, .pointer (some ⟨g11, 0, none⟩))], [(1, .slice Ap p.length kp)], [(6, .int .i64 z18)], [], [], [], []] (fun iQ => [fun v _ => v = .agg #[.int .i64 Pf, .int .i64 Mf, .slice Af mf.length kf], fun v _ => v = .slice Ap p.length kp, fun v _ => v = .int .i64 z18, fun v _ => v = .pointer (some ((adOf Ap).add z18.toNat)), fun v _ => v = .int .i64 (gi p z18), fun v _ => v = .int .i64 r33, fun v _ => v = .bool (decide (r33 ≠ (0 : Int)))].getD iQ (fun _ _ => True)) Try.mixed (by kernel_rfl) ?_ (by kernel_rfl) ?_ ?_
      · refine Vs_monoT _ ?_
        intro VQ hVQ vQ wQ1 wQ2 hQ1 hQ2
        simp only [List.mem_cons, List.not_mem_nil, or_false] at hVQ
        rcases hVQ with rfl | rfl | rfl | rfl | rfl | rfl | rfl
        · exact hQ1
        · exact hQ1
        · exact hQ1
        · exact hQ1
        · exact hQ1
        · exact hQ1
        · exact hQ1
      · refine ⟨⟨rfl, ⟨rfl, trivial⟩, ?_⟩, ⟨rfl, ⟨rfl, trivial⟩, ?_⟩, ⟨rfl, ⟨rfl, trivial⟩, ?_⟩, ⟨rfl, trivial, ?_⟩, ⟨rfl, trivial, ?_⟩, ⟨rfl, trivial, ?_⟩, ⟨rfl, trivial, ?_⟩, trivial⟩
        · intro w26 hE
          have hE := hE rfl
          have hS := hS.grow hE
          intro RR
          refine WL.loadV (cs := [.int .i64 Pf, .int .i64 Mf, .slice Af mf.length kf]) Try.el24 Try.agg24 rfl rfl (Own.vcells (hS.own (i := 0) rfl)) rfl ?_
          exact WL.done ⟨_, rfl, ext_refl _, rfl, (fun h => absurd h (by decide)), (fun j h => by cases h)⟩
        · intro w27 hE
          intro RR
          refine WL.move rfl rfl ?_
          exact WL.done ⟨_, rfl, rfl, rfl, (fun h => absurd h (by decide)), (fun j h => by cases h)⟩
        · intro w28 hE
          intro RR
          refine WL.move rfl rfl ?_
          exact WL.done ⟨_, rfl, rfl, rfl, (fun h => absurd h (by decide)), (fun j h => by cases h)⟩
        · intro w29 hE
          rintro _ rfl
          rintro _ rfl
          intro RR
          refine SL.index Try.underlying22 Try.el3 (hS.ro hp) rfl rfl o30 rfl ?_
          exact WL.done ⟨_, rfl, rfl, rfl, (fun h => absurd h (by decide)), (fun j h => by cases h)⟩
        · intro w31 hE
          have hE := hE rfl
          have hS := hS.grow hE
          rintro _ rfl
          intro RR
          refine WL.load Try.underlying3 rfl rfl (Rd.gi (hS.ro hp) o30) rfl ?_
          exact WL.done ⟨_, rfl, ext_refl _, rfl, (fun h => absurd h (by decide)), (fun j h => by cases h)⟩
        · intro w32 hE
          have hE := hE rfl
          have hS := hS.grow hE
          rintro _ rfl
          rintro _ rfl
          intro RR
          refine WL.call Try.func75 rfl Try.nm75 rfl rfl (calls_un (ok_rIn (hS.ro hf) o35)) ?_
          rintro _ w34 ⟨_, hGw34, hRww34, hNww34, r33q, rfl, rfl, he⟩
          subst he
          exact WL.done ⟨_, rfl, hGw34, rfl, (fun h => absurd h (by decide)), (fun j h => by cases h)⟩
        · intro w36 hE
          rintro _ rfl
          intro RR
          refine WL.neqD rfl rfl rfl ?_
          exact WL.done ⟨_, rfl, rfl, rfl, (fun h => absurd h (by decide)), (fun j h => by cases h)⟩
      · intro vals w37 hT hVs hAp hCp
        have hS := hS.grow hT
        have hv0 : vals 0 = _ := hVs 0 (by decide)
        have hv1 : vals 1 = _ := hVs 1 (by decide)
        have hv2 : vals 2 = _ := hVs 2 (by decide)
        have hv3 : vals 3 = _ := hVs 3 (by decide)
        have hv4 : vals 4 = _ := hVs 4 (by decide)
        have hv5 : vals 5 = _ := hVs 5 (by decide)
        have hv6 : vals 6 = _ := hVs 6 (by decide)
        rw [show (List.filterMap (fun i => Option.map (fun t => (t, vals i)) (dstAt _ i)) (List.range _)) = [(15, .agg #[.int .i64 Pf, .int .i64 Mf, .slice Af mf.length kf]), (16, .slice Ap p.length kp), (17, .int .i64 z18), (18, .pointer (some ((adOf Ap).add z18.toNat))), (19, .int .i64 (gi p z18)), (20, .int .i64 r33), (21, .bool (decide (r33 ≠ (0 : Int))))] from by
          show [(15, vals 0), (16, vals 1), (17, vals 2), (18, vals 3), (19, vals 4), (20, vals 5), (21, vals 6)] = _
          rw [hv0, hv1, hv2, hv3, hv4, hv5, hv6]]
        refine WA.done (by decide +kernel) ?_
        refine W.cond2 rfl (fun c38 => ?_) (fun c38 => ?_)
        · have hv := hv.1 (of_decide_eq_true c38)
          refine W.region ?_
          refine WL.move rfl rfl ?_
          obtain ⟨o39, hv⟩ := hv
          refine WL.add (r := (z18 + (1 : Int))) rfl rfl (wr o39) rfl ?_
          refine WL.assign rfl rfl ?_
          refine WL.done ?_
          change St _ _ _ _ [.row 24 3 (some ⟨g11, 0, none⟩) 1 1 [.int .i64 Pf, .int .i64 Mf, .slice Af mf.length kf]] at hS
          exact ⟨((z18 + (1 : Int)), (decide (r33 ≠ (0 : Int)))), ⟨rfl, rfl, rfl, rfl, rfl, rfl, rfl, trivial⟩, rfl, hv, hS⟩
        · have hv := hv.2 (of_decide_eq_false c38)
          refine W.skip ?_
          change St _ _ _ _ [.row 24 3 (some ⟨g11, 0, none⟩) 1 1 [.int .i64 Pf, .int .i64 Mf, .slice Af mf.length kf]] at hS
          exact ⟨(z17, (decide (r33 ≠ (0 : Int)))), ⟨rfl, rfl, rfl, rfl, rfl, rfl, rfl, trivial⟩, rfl, hv, hS⟩
    · rintro ⟨z23, b24⟩ w40 ⟨hv, hS⟩
      have hv := hk42 z23 b24 hv
      refine W.region ?_
      refine WL.move rfl rfl ?_
      obtain ⟨o41, hv⟩ := hv
      refine WL.add (r := (z18 + (1 : Int))) rfl rfl (wr o41) rfl ?_
      refine WL.assign rfl rfl ?_
      refine WL.done ?_
      change St _ _ _ _ [.row 24 3 (some ⟨g11, 0, none⟩) 1 1 [.int .i64 Pf, .int .i64 Mf, .slice Af mf.length kf]] at hS
      exact ⟨(z23, (z18 + (1 : Int))), ⟨rfl, rfl, rfl, rfl, rfl, trivial⟩, hv.2, rfl, hv.1, hS⟩
  · have hv := hv.2 (of_decide_eq_false c22)
    refine W.exit ?_
    refine W.seq ?_
    refine W.region ?_
    refine WL.move rfl rfl ?_
    obtain ⟨o43, hv⟩ := hv
    refine SL.make (J := z17) hS Try.underlying22 Try.el3 rfl rfl o43 (made_is _) rfl ?_
    intro A44 w45 hS
    refine WL.assign rfl rfl ?_
    refine WL.done ?_
    refine W.seq ?_
    refine W.seq ?_
    refine W.region ?_
    refine WL.assign rfl rfl ?_
    refine WL.done ?_
    refine W.block ?_
    obtain ⟨I53, μ54, hv, hk73⟩ := hv
    change St _ _ _ _ [.row 3 1 A44 z17.toNat z17.toNat (is (List.replicate z17.toNat (0 : Int))), .row 24 3 (some ⟨g11, 0, none⟩) 1 1 [.int .i64 Pf, .int .i64 Mf, .slice Af mf.length kf]] at hS
    refine W.loop (σ := List Int × Int) (fun q w1 => match q with | (x51, z52) => I53 x51 z52 ∧ St TT w none w1 [.row 3 1 A44 z17.toNat z17.toNat (is x51), .row 24 3 (some ⟨g11, 0, none⟩) 1 1 [.int .i64 Pf, .int .i64 Mf, .slice Af mf.length kf]]) (fun q => match q with | (x51, z52) => [(1, .slice Ap p.length kp), (2, .pointer (some ⟨g11, 0, none⟩)), (4, .slice none 0 0), (5, .int .i64 z17), (7, .slice A44 z17.toNat z17.toNat), (8, .int .i64 z52)]) (fun q => match q with | (x51, z52) => μ54 x51 z52) (List.replicate z17.toNat (0 : Int), (0 : Int)) ⟨hv, hS⟩ ⟨rfl, rfl, rfl, rfl, rfl, rfl, trivial⟩ ?_
    rintro ⟨x51, z52⟩ w55 ⟨hv, hS⟩
    have hv := hk73 x51 z52 hv
    refine W.seq ?_
    refine W.seq ?_
    refine W.region ?_
    refine WL.move rfl rfl ?_
    refine WL.move rfl rfl ?_
    refine WL.lssD rfl rfl rfl ?_
    refine WL.done ?_
    refine W.cond2 rfl (fun c56 => ?_) (fun c56 => ?_)
    · have hv := hv.1 (of_decide_eq_true c56)
      refine W.skip ?_
      refine W.seq ?_
      refine W.block ?_
      obtain ⟨o63, hv⟩ := hv
      obtain ⟨r66, o68, hv⟩ := hv
      have hS0 := hS
      refine W.drawX 8 (fun _ => false) (fun _ => none) [⟨[], [7], true⟩, ⟨[], [8], true⟩, ⟨[], [2], false⟩, ⟨[], [1], true⟩, ⟨[], [8], true⟩, ⟨[3, 4], [], true⟩, ⟨[5], [], false⟩, ⟨[2, 6], [], false⟩] [[(7, .slice A44 z17.toNat z17.toNat)], [(8, .int .i64 z52)], [(2, .pointer (some ⟨g11, 0, none⟩))], [(1, .slice Ap p.length kp)], [(8, .int .i64 z52)], [], [], []] (fun iQ => [fun v _ => v = .slice A44 z17.toNat z17.toNat, fun v _ => v = .int .i64 z52, fun v _ => v = .agg #[.int .i64 Pf, .int .i64 Mf, .slice Af mf.length kf], fun v _ => v = .slice Ap p.length kp, fun v _ => v = .int .i64 z52, fun v _ => v = .pointer (some ((adOf Ap).add z52.toNat)), fun v _ => v = .int .i64 (gi p z52), fun v _ => v = .int .i64 r66].getD iQ (fun _ _ => True)) Try.mixed (by kernel_rfl) ?_ (by kernel_rfl) ?_ ?_
      · refine Vs_monoT _ ?_
        intro VQ hVQ vQ wQ1 wQ2 hQ1 hQ2
        simp only [List.mem_cons, List.not_mem_nil, or_false] at hVQ
        rcases hVQ with rfl | rfl | rfl | rfl | rfl | rfl | rfl | rfl
        · exact hQ1
        · exact hQ1
        · exact hQ1
        · exact hQ1
        · exact hQ1
        · exact hQ1
        · exact hQ1
        · exact hQ1
      · refine ⟨⟨rfl, ⟨rfl, trivial⟩, ?_⟩, ⟨rfl, ⟨rfl, trivial⟩, ?_⟩, ⟨rfl, ⟨rfl, trivial⟩, ?_⟩, ⟨rfl, ⟨rfl, trivial⟩, ?_⟩, ⟨rfl, ⟨rfl, trivial⟩, ?_⟩, ⟨rfl, trivial, ?_⟩, ⟨rfl, trivial, ?_⟩, ⟨rfl, trivial, ?_⟩, trivial⟩
        · intro w57 hE
          intro RR
          refine WL.move rfl rfl ?_
          exact WL.done ⟨_, rfl, rfl, rfl, (fun h => absurd h (by decide)), (fun j h => by cases h)⟩
        · intro w58 hE
          intro RR
          refine WL.move rfl rfl ?_
          exact WL.done ⟨_, rfl, rfl, rfl, (fun h => absurd h (by decide)), (fun j h => by cases h)⟩
        · intro w59 hE
          have hE := hE rfl
          have hS := hS.grow hE
          intro RR
          refine WL.loadV (cs := [.int .i64 Pf, .int .i64 Mf, .slice Af mf.length kf]) Try.el24 Try.agg24 rfl rfl (Own.vcells (hS.own (i := 1) rfl)) rfl ?_
          exact WL.done ⟨_, rfl, ext_refl _, rfl, (fun h => absurd h (by decide)), (fun j h => by cases h)⟩
        · intro w60 hE
          intro RR
          refine WL.move rfl rfl ?_
          exact WL.done ⟨_, rfl, rfl, rfl, (fun h => absurd h (by decide)), (fun j h => by cases h)⟩
        · intro w61 hE
          intro RR
          refine WL.move rfl rfl ?_
          exact WL.done ⟨_, rfl, rfl, rfl, (fun h => absurd h (by decide)), (fun j h => by cases h)⟩
        · intro w62 hE
          rintro _ rfl
          rintro _ rfl
          intro RR
          refine SL.index Try.underlying22 Try.el3 (hS.ro hp) rfl rfl o63 rfl ?_
          exact WL.done ⟨_, rfl, rfl, rfl, (fun h => absurd h (by decide)), (fun j h => by cases h)⟩
        · intro w64 hE
          have hE := hE rfl
          have hS := hS.grow hE
          rintro _ rfl
          intro RR
          refine WL.load Try.underlying3 rfl rfl (Rd.gi (hS.ro hp) o63) rfl ?_
          exact WL.done ⟨_, rfl, ext_refl _, rfl, (fun h => absurd h (by decide)), (fun j h => by cases h)⟩
        · intro w65 hE
          have hE := hE rfl
          have hS := hS.grow hE
          rintro _ rfl
          rintro _ rfl
          intro RR
          refine WL.call Try.func75 rfl Try.nm75 rfl rfl (calls_un (ok_rIn (hS.ro hf) o68)) ?_
          rintro _ w67 ⟨_, hGw67, hRww67, hNww67, r66q, rfl, rfl, he⟩
          subst he
          exact WL.done ⟨_, rfl, hGw67, rfl, (fun h => absurd h (by decide)), (fun j h => by cases h)⟩
      · intro vals w69 hT hVs hAp hCp
        have hS := hS.grow hT
        have hv0 : vals 0 = _ := hVs 0 (by decide)
        have hv1 : vals 1 = _ := hVs 1 (by decide)
        have hv2 : vals 2 = _ := hVs 2 (by decide)
        have hv3 : vals 3 = _ := hVs 3 (by decide)
        have hv4 : vals 4 = _ := hVs 4 (by decide)
        have hv5 : vals 5 = _ := hVs 5 (by decide)
        have hv6 : vals 6 = _ := hVs 6 (by decide)
        have hv7 : vals 7 = _ := hVs 7 (by decide)
        rw [show (List.filterMap (fun i => Option.map (fun t => (t, vals i)) (dstAt _ i)) (List.range _)) = [(31, .slice A44 z17.toNat z17.toNat), (32, .int .i64 z52), (33, .agg #[.int .i64 Pf, .int .i64 Mf, .slice Af mf.length kf]), (34, .slice Ap p.length kp), (35, .int .i64 z52), (36, .pointer (some ((adOf Ap).add z52.toNat))), (37, .int .i64 (gi p z52)), (38, .int .i64 r66)] from by
          show [(31, vals 0), (32, vals 1), (33, vals 2), (34, vals 3), (35, vals 4), (36, vals 5), (37, vals 6), (38, vals 7)] = _
          rw [hv0, hv1, hv2, hv3, hv4, hv5, hv6, hv7]]
        refine WA.step [8] (by decide +kernel) rfl ?_
        intro iQ hQ
        simp only [List.mem_cons, List.not_mem_nil, or_false] at hQ
        obtain rfl := hQ
        refine ⟨_, rfl, ?_⟩
        obtain ⟨o70, hv⟩ := hv
        refine SL.index Try.underlying22 Try.el3 (hS.rd (i := 0) rfl) rfl rfl o70 rfl ?_
        refine WL.done ?_
        refine WA.step [9] (by decide +kernel) rfl ?_
        intro iQ hQ
        simp only [List.mem_cons, List.not_mem_nil, or_false] at hQ
        obtain rfl := hQ
        refine ⟨_, rfl, ?_⟩
        refine SL.store (cs' := is (si x51 z52 r66)) 0 z52.toNat hS rfl Try.el3 rfl rfl rfl (is_lt (hS.rd (i := 0) rfl) o70) (is_set _ _ _) ?_
        intro w71 hS
        refine WL.done ?_
        refine WA.done (by decide +kernel) ?_
        refine W.region ?_
        refine WL.move rfl rfl ?_
        obtain ⟨o72, hv⟩ := hv
        refine WL.add (r := (z52 + (1 : Int))) rfl rfl (wr o72) rfl ?_
        refine WL.assign rfl rfl ?_
        refine WL.done ?_
        change St _ _ _ _ [.row 3 1 A44 z17.toNat z17.toNat (is (si x51 z52 r66)), .row 24 3 (some ⟨g11, 0, none⟩) 1 1 [.int .i64 Pf, .int .i64 Mf, .slice Af mf.length kf]] at hS
        exact ⟨(si x51 z52 r66, (z52 + (1 : Int))), ⟨rfl, rfl, rfl, rfl, rfl, rfl, trivial⟩, hv.2, rfl, hv.1, hS⟩
    · have hv := hv.2 (of_decide_eq_false c56)
      refine W.exit ?_
      refine W.seq ?_
      refine W.region ?_
      refine WL.move rfl rfl ?_
      refine WL.assign rfl rfl ?_
      refine WL.done ?_
      refine W.ret ?_
      have hm0 := (hS.rd (i := 0) rfl).ilen
      have hS := hS.relen (i := 0) rfl hm0.symm
      refine ⟨_, rfl, Fin.nil ?_⟩
      exact ⟨_, hS.ext, (hS.pick [0] rfl).rows, News.of (hS.pick [0] rfl).rows rfl, ⟨x51, A44, z17.toNat, (by first | (rw [hm0]; done) | (rw [hm0]; rfl)), rfl, hv⟩⟩

end Go.Proofs.Ytaipfkmlgdmjbaa
